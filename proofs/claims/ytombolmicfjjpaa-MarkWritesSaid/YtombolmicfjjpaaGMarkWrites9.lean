/- Values, there and back (pure). -/
import Derived.Test.YtombolmicfjjpaaGMarkWrites8
import Derived.Test.YtombolmicfjjpaaGMarkWrites6
import Derived.Test.YtombolmicfjjpaaGMarkWrites4
import Derived.Test.YtombolmicfjjpaaGMarkWrites1
import Derived.Test.YtombolmicfjjpaaGMarkWrites5
import Derived.Handy
/- Two slices of one mark. -/
namespace Go.Proofs.Ytombolmicfjjpaa
open Go.RowKit

theorem ref19_same1 (p e : Int) (c : Bool) (tl : List TopS) (co : Int) (xl : List (TopS × Value)) (xq : Option Addr) (xcap : Nat) (p0 e0 : Int) (c0 : Bool) (tl0 : List TopS) (co0 : Int) (xl0 : List (TopS × Value)) (xq0 : Option Addr) (xcap0 : Nat) (q1 q2 : Option Addr) (cap1 cap2 : Nat) (r : Bool) (hr : decide ((⟨p, e, c, tl, co⟩ : MarkS) = ⟨p0, e0, c0, tl0, co0⟩) = r) (hf1 : ((⟨⟨p, e, c, tl, co⟩, xl, xq, xcap⟩ : MarkR)).Fit) (hf2 : ((⟨⟨p0, e0, c0, tl0, co0⟩, xl0, xq0, xcap0⟩ : MarkR)).Fit) {W0 w : World} {K : Know} {L : List Res} (hk1 : K.has (Know.marks (.slice q1 1 cap1) [(⟨⟨p, e, c, tl, co⟩, xl, xq, xcap⟩ : MarkR)])) (hk2 : K.has (Know.marks (.slice q2 1 cap2) [(⟨⟨p0, e0, c0, tl0, co0⟩, xl0, xq0, xcap0⟩ : MarkR)])) (h : St W0 w K L) :
    Calls Try.prog 58 #[.slice q1 1 cap1, .slice q2 1 cap2] w fun en w' => en = .returned (.bool r) ∧ St W0 w' K L := by
  refine ref19_same [(⟨⟨p, e, c, tl, co⟩, xl, xq, xcap⟩ : MarkR)] [(⟨⟨p0, e0, c0, tl0, co0⟩, xl0, xq0, xcap0⟩ : MarkR)] q1 q2 cap1 cap2 r ?_ (fun x hx => by rw [List.mem_singleton.1 hx]; exact hf1) (fun x hx => by rw [List.mem_singleton.1 hx]; exact hf2) (by show (1 : Nat) ≤ 1000000; decide) hk1 hk2 h
  rw [← hr]
  show decide ([(⟨p, e, c, tl, co⟩ : MarkS)] = [⟨p0, e0, c0, tl0, co0⟩]) = _
  apply decide_eq_decide.2
  constructor
  · intro h; injection h
  · intro h; rw [h]

end Go.Proofs.Ytombolmicfjjpaa

/- Whether two rows of topics are one. -/
namespace Go.Proofs.Ytombolmicfjjpaa
open Go.RowKit

set_option maxHeartbeats 1000000 in
set_option maxRecDepth 100000 in
theorem top_bare (n1 n2 : Bs) (p1 p2 : List Int) (qx1 qx2 : Option Addr) (capx1 capx2 : Nat) (r : Bool) (hr : decide ((⟨n1, p1⟩ : TopS) = ⟨n2, p2⟩) = r) (hl1 : p1.length ≤ 9223372036854775807) (hl2 : p2.length ≤ 9223372036854775807) {W0 w : World} {K : Know} {L : List Res} (hka : K.has (Know.flat RI (.slice qx1 p1.length capx1) 1 p1)) (hkb : K.has (Know.flat RI (.slice qx2 p2.length capx2) 1 p2)) (h : St W0 w K L) :
    Calls Try.prog 84 #[.agg #[.string (bb n1), .slice qx1 p1.length capx1], .agg #[.string (bb n2), .slice qx2 p2.length capx2]] w fun en w' => en = .returned (.bool r) ∧ St W0 w' K L := by
  have h0 := (h.allocRaw #[.string (bb n1), .slice qx1 p1.length capx1] 51).allocRaw #[.string (bb n2), .slice qx2 p2.length capx2] 51
  rw [World.size_alloc] at h0
  have H := Lib.hid h0
  have HA := Lib.hid hka
  have HB := Lib.hid hkb
  have HL1 := Lib.hid hl1
  have HL2 := Lib.hid hl2
  clear h h0 hka hkb hl1 hl2
  by_cases hn : n1 = n2
  · subst hn
    have HE := Lib.hid (show decide (p1 = p2) = r by rw [← hr]; exact decide_eq_decide.mpr ⟨fun h => by rw [h], fun h => by cases h; rfl⟩)
    clear hr
    go_enter Try.func84, Try.ntmps84
    go_wp2_with (go_at_call 85; (with_reducible refine (ints_equal p1 p2 qx1 qx2 capx1 capx2 HL1.out HL2.out _ HE.out HA.out HB.out H.out).mono ?_); rintro e_ wn ⟨rfl, h⟩; replace H := Lib.hid h; clear h)
    go_ret
    exact ⟨rfl, H.out.drop.drop⟩
  · have HR := Lib.hid (show r = false by rw [← hr]; exact decide_eq_false (by intro h; cases h; exact hn rfl))
    have hb : (n1 == n2) = false := by simpa using hn
    rw [show r = false from HR.out]
    clear hn hr
    go_enter Try.func84, Try.ntmps84
    go_wp2
    go_ret
    exact ⟨rfl, H.out.drop.drop⟩
set_option maxHeartbeats 2000000 in
set_option maxRecDepth 100000 in
theorem tops_eqf (l1 l2 : List (TopS × Value)) (q1 q2 : Option Addr) (cap1 cap2 : Nat) (r : Bool) (hr : decide (l1.map (·.1) = l2.map (·.1)) = r) (hf1 : LenT l1) (hf2 : LenT l2) {W0 w : World} {K : Know} {L : List Res} (hk1 : K.has (Know.tops (.slice q1 l1.length cap1) l1)) (hk2 : K.has (Know.tops (.slice q2 l2.length cap2) l2)) (h : St W0 w K L) :
    Calls Try.prog 83 #[.slice q1 l1.length cap1, .slice q2 l2.length cap2, .func (.func 84) #[] #[]] w fun en w' => en = .returned (.bool r) ∧ St W0 w' K L := by
  have H := Lib.hid h
  have HK1 := Lib.hid hk1
  have HK2 := Lib.hid hk2
  have hni : (l1.length : Int) ≤ 140737488355328 := by have := hf1.1; omega
  have HF1 := Lib.hid hf1
  have HF2 := Lib.hid hf2
  clear h hk1 hk2 hf1 hf2
  by_cases hlen : l1.length = l2.length
  rotate_left
  · as_aux_lemma =>
    have hr2 : r = false := by rw [← hr]; exact decide_eq_false (tmap_len_ne _ _ hlen)
    have g1 : ((l1.length : Int) == (l2.length : Int)) = false := by rw [beq_eq_false_iff_ne]; omega
    have g2 : ((l1.length : Int) != (l2.length : Int)) = true := by simp [bne, g1]
    have g3 : ¬ ((l1.length : Int) = (l2.length : Int)) := by omega
    subst hr2
    clear hlen hr
    go_enter Try.func83, Try.ntmps83
    go_wp2
    go_ret
    exact ⟨rfl, H.out⟩
  have HLEN := Lib.hid hlen
  have HR := Lib.hid hr
  have g1 : ((l1.length : Int) == (l2.length : Int)) = true := by rw [hlen]; exact beq_self_eq_true _
  have g2 : ((l1.length : Int) != (l2.length : Int)) = false := by simp [bne, g1]
  have g3 : (l2.length : Int) = (l1.length : Int) := by omega
  clear hr hlen
  go_enter Try.func83, Try.ntmps83
  go_wp2
  clear g1 g2 g3
  go_loopw [7, 8, 9, 17] (fun _ _ _ iv wr => ∃ k : Nat, k ≤ l1.length ∧ iv = .int .i64 k ∧ Hid ((l1.map (·.1)).take k = (l2.map (·.1)).take k) ∧ St W0 wr K L) (fun _ _ _ iv _ => l1.length - (intOf iv).toNat)
  case atStart => exact ⟨0, Nat.zero_le _, rfl, Lib.hid (by simp), H.out⟩
  case round =>
    obtain ⟨k, hkl, rfl, heq, hst⟩ := hrel
    clear H
    have H := Lib.hid hst
    clear hst
    by_cases hlt : k < l1.length
    · have hlt2 : k < l2.length := by have := HLEN.out; omega
      obtain ⟨b1', off1, hqq1⟩ := tops_at HK1.out H.out (by omega)
      subst hqq1
      obtain ⟨⟨⟨n1, p1⟩, v1⟩, hx1⟩ : ∃ x, l1[k] = x := ⟨_, rfl⟩
      have hmem1 : ((⟨n1, p1⟩ : TopS), v1) ∈ l1 := hx1 ▸ List.getElem_mem _
      have XF1 := Lib.hid (show p1.length ≤ 9223372036854775807 from HF1.out.2 _ hmem1)
      have xk1 : K.has (Know.flat RI v1 1 p1) := tops_parts HK1.out hmem1
      obtain ⟨qx1, capx1, hv1⟩ := flat_form xk1 H.out
      subst hv1
      have XK1 := Lib.hid xk1
      have HX1 := Lib.hid (show l1[k].1 = ⟨n1, p1⟩ by rw [hx1])
      have HXX1 := Lib.hid hx1
      clear hmem1 hx1 xk1
      obtain ⟨b2', off2, hqq2⟩ := tops_at HK2.out H.out (by omega)
      subst hqq2
      obtain ⟨⟨⟨n2, p2⟩, v2⟩, hx2⟩ : ∃ x, l2[k] = x := ⟨_, rfl⟩
      have hmem2 : ((⟨n2, p2⟩ : TopS), v2) ∈ l2 := hx2 ▸ List.getElem_mem _
      have XF2 := Lib.hid (show p2.length ≤ 9223372036854775807 from HF2.out.2 _ hmem2)
      have xk2 : K.has (Know.flat RI v2 1 p2) := tops_parts HK2.out hmem2
      obtain ⟨qx2, capx2, hv2⟩ := flat_form xk2 H.out
      subst hv2
      have XK2 := Lib.hid xk2
      have HX2 := Lib.hid (show l2[k].1 = ⟨n2, p2⟩ by rw [hx2])
      have HXX2 := Lib.hid hx2
      clear hmem2 hx2 xk2
      obtain ⟨c10, c11⟩ : wr.cell? ⟨b1', off1 + k * 2, none⟩ = some (.string (bb n1)) ∧ wr.cell? ⟨b1', off1 + k * 2 + 1, none⟩ = some (.slice qx1 p1.length capx1) := tops_cell HK1.out H.out k hlt _ HXX1.out
      obtain ⟨c20, c21⟩ : (wr.alloc (.cells #[.string (bb n1), .slice qx1 p1.length capx1] 51)).cell? ⟨b2', off2 + k * 2, none⟩ = some (.string (bb n2)) ∧ (wr.alloc (.cells #[.string (bb n1), .slice qx1 p1.length capx1] 51)).cell? ⟨b2', off2 + k * 2 + 1, none⟩ = some (.slice qx2 p2.length capx2) := tops_cell HK2.out (H.out.allocRaw #[.string (bb n1), .slice qx1 p1.length capx1] 51) k hlt2 _ HXX2.out
      have hki : (k : Int) < (l1.length : Int) := by omega
      have hki2 : (k : Int) < (l2.length : Int) := by omega
      have NX := Lib.hid (show (⟨n1, p1⟩ : TopS) ≠ ⟨n2, p2⟩ → l1.map (·.1) ≠ l2.map (·.1) from tmap_ne_of_get l1 l2 k hlt hlt2 _ _ HX1.out HX2.out)
      have NT := Lib.hid (show (⟨n1, p1⟩ : TopS) = ⟨n2, p2⟩ → (l1.map (·.1)).take (k + 1) = (l2.map (·.1)).take (k + 1) from fun e => by rw [tmap_take_succ l1 k hlt _ HX1.out, tmap_take_succ l2 k hlt2 _ HX2.out, heq.out, e])
      obtain ⟨wE, hwE⟩ : ∃ b, wr.heap.size = b := ⟨_, rfl⟩
      obtain ⟨wG, hwG⟩ : ∃ b, wE + 1 = b := ⟨_, rfl⟩
      have h := (H.out.allocRaw #[.string (bb n1), .slice qx1 p1.length capx1] 51).allocRaw #[.string (bb n2), .slice qx2 p2.length capx2] 51
      rw [World.size_alloc, hwE, hwG] at h
      clear H
      have H := Lib.hid h
      clear h HX1 HX2 HXX1 HXX2
      clear hlt2
      have eb0 := (H.out).rawCell 0; have eb1 := (H.out).rawCell 1; have fb0 := (H.out).rawFree 0; have fb1 := (H.out).rawFree 1; simp at eb0 eb1 fb0 fb1
      have ea0 := (H.out.p1).rawCell 0; have ea1 := (H.out.p1).rawCell 1; have fa0 := (H.out.p1).rawFree 0; have fa1 := (H.out.p1).rawFree 1; simp at ea0 ea1 fa0 fa1
      by_cases hxy : (⟨n1, p1⟩ : TopS) = ⟨n2, p2⟩
      · have E1 := Lib.hid (decide_eq_true hxy)
        have NT2 := Lib.hid (NT.out hxy)
        clear hxy NX NT
        go_wp2_with (go_at_call 84; (with_reducible refine (top_bare n1 n2 p1 p2 qx1 qx2 capx1 capx2 _ E1.out XF1.out XF2.out XK1.out XK2.out H.out).mono ?_); rintro e_ wn ⟨rfl, h⟩; replace H := Lib.hid h; clear h)
        go_roundw
        case rel => exact ⟨k + 1, hlt, by go_num, NT2, H.out.drop.drop⟩
        case measure => first | (simp [intOf]; done) | (simp [intOf]; omega)
      · have E1 := Lib.hid (decide_eq_false hxy)
        have HRF := Lib.hid (show r = false by rw [← HR.out]; exact decide_eq_false (NX.out hxy))
        clear hxy NX NT
        go_wp2_with (go_at_call 84; (with_reducible refine (top_bare n1 n2 p1 p2 qx1 qx2 capx1 capx2 _ E1.out XF1.out XF2.out XK1.out XK2.out H.out).mono ?_); rintro e_ wn ⟨rfl, h⟩; replace H := Lib.hid h; clear h)
        go_ret
        exact ⟨ret_bool HRF.out.symm, H.out.drop.drop⟩
    · obtain rfl : k = l1.length := by omega
      have hall : l1.map (·.1) = l2.map (·.1) := by
        have h := heq.out
        rwa [List.take_of_length_le (by simp), List.take_of_length_le (by have := HLEN.out; simp; omega)] at h
      have HRT := Lib.hid (show r = true by rw [← HR.out, hall]; exact decide_eq_true rfl)
      clear hall
      go_wp2
      go_ret
      exact ⟨ret_bool HRT.out.symm, H.out⟩
theorem val_sameTopics (l1 l2 : List (TopS × Value)) (q1 q2 : Option Addr) (cap1 cap2 : Nat) (r : Bool) (hr : decide (l1.map (·.1) = l2.map (·.1)) = r) (hf1 : LenT l1) (hf2 : LenT l2) {W0 w : World} {K : Know} {L : List Res} (hk1 : K.has (Know.tops (.slice q1 l1.length cap1) l1)) (hk2 : K.has (Know.tops (.slice q2 l2.length cap2) l2)) (h : St W0 w K L) :
    Calls Try.prog 30 #[.slice q1 l1.length cap1, .slice q2 l2.length cap2] w fun en w' => en = .returned (.bool r) ∧ St W0 w' K L := by
  have H := Lib.hid h
  have HR := Lib.hid hr
  have HF1 := Lib.hid hf1
  have HF2 := Lib.hid hf2
  have HK1 := Lib.hid hk1
  have HK2 := Lib.hid hk2
  clear h hr hf1 hf2 hk1 hk2
  go_enter Try.func30, Try.ntmps30
  go_wp2_with (go_at_call 83; (with_reducible refine (tops_eqf l1 l2 q1 q2 cap1 cap2 _ HR.out HF1.out HF2.out HK1.out HK2.out H.out).mono ?_); rintro e_ wn ⟨rfl, h⟩; replace H := Lib.hid h; clear h)
  go_ret
  exact ⟨rfl, H.out⟩

end Go.Proofs.Ytombolmicfjjpaa

/- Are two marks one. -/
namespace Go.Proofs.Ytombolmicfjjpaa
open Go.RowKit

set_option maxHeartbeats 4000000 in
set_option maxRecDepth 100000 in
theorem mark_same (p1 e1 : Int) (c1 : Bool) (l1 : List (TopS × Value)) (q1 : Option Addr) (cap1 : Nat) (co1 : Int) (tl1 : List TopS) (ht1 : l1.map (·.1) = tl1) (p2 e2 : Int) (c2 : Bool) (l2 : List (TopS × Value)) (q2 : Option Addr) (cap2 : Nat) (co2 : Int) (tl2 : List TopS) (ht2 : l2.map (·.1) = tl2) (r : Bool) (hr : decide ((⟨p1, e1, c1, tl1, co1⟩ : MarkS) = ⟨p2, e2, c2, tl2, co2⟩) = r) (hf1 : LenT l1) (hf2 : LenT l2) {W0 w : World} {K : Know} {L : List Res} (hk1 : K.has (Know.tops (.slice q1 l1.length cap1) l1)) (hk2 : K.has (Know.tops (.slice q2 l2.length cap2) l2)) (h : St W0 w K L) :
    Calls Try.prog 57 #[.agg #[.int .i64 p1, .int .i64 e1, .bool c1, .slice q1 l1.length cap1, .int .i64 co1], .agg #[.int .i64 p2, .int .i64 e2, .bool c2, .slice q2 l2.length cap2, .int .i64 co2]] w fun en w' => en = .returned (.bool r) ∧ St W0 w' K L := by
  obtain ⟨vb, hvb⟩ : ∃ b, w.heap.size = b := ⟨_, rfl⟩
  have h0 := (h.allocRaw #[.int .i64 p1, .int .i64 e1, .bool c1, .slice q1 l1.length cap1, .int .i64 co1] 92).allocRaw #[.int .i64 p2, .int .i64 e2, .bool c2, .slice q2 l2.length cap2, .int .i64 co2] 92
  rw [World.size_alloc, hvb] at h0
  obtain ⟨rt, hrt⟩ : ∃ b, decide (l1.map (·.1) = l2.map (·.1)) = b := ⟨_, rfl⟩
  have HT := Lib.hid hrt
  have htt : decide (tl1 = tl2) = rt := by rw [← hrt, ht1, ht2]
  have d10 := h0.p1.rawCell 0; have d20 := h0.rawCell 0; have d11 := h0.p1.rawCell 1; have d21 := h0.rawCell 1; have d12 := h0.p1.rawCell 2; have d22 := h0.rawCell 2; have d13 := h0.p1.rawCell 3; have d23 := h0.rawCell 3; have d14 := h0.p1.rawCell 4; have d24 := h0.rawCell 4; simp at d10 d20 d11 d21 d12 d22 d13 d23 d14 d24
  have H := Lib.hid h0
  have HF1 := Lib.hid hf1
  have HF2 := Lib.hid hf2
  have HK1 := Lib.hid hk1
  have HK2 := Lib.hid hk2
  clear h h0 hf1 hf2 hk1 hk2 hrt ht1 ht2
  by_cases hp : p1 = p2
  rotate_left
  · have g1 : (p1 == p2) = false := by rw [beq_eq_false_iff_ne]; exact hp
    obtain rfl : r = false := by rw [← hr]; exact decide_eq_false (by intro h; injection h with h1; exact hp h1)
    clear hr htt
    go_enter Try.func57, Try.ntmps57
    go_wp2_with (fail)
    go_ret
    exact ⟨rfl, H.out.drop.drop⟩
  have gp : (p1 == p2) = true := by rw [hp]; exact beq_self_eq_true _
  by_cases he : e1 = e2
  rotate_left
  · have g1 : (e1 == e2) = false := by rw [beq_eq_false_iff_ne]; exact he
    obtain rfl : r = false := by rw [← hr]; exact decide_eq_false (by intro h; injection h with h1 h2; exact he h2)
    clear hp
    clear hr htt
    go_enter Try.func57, Try.ntmps57
    go_wp2_with (fail)
    go_ret
    exact ⟨rfl, H.out.drop.drop⟩
  have ge : (e1 == e2) = true := by rw [he]; exact beq_self_eq_true _
  by_cases hc : c1 = c2
  rotate_left
  · clear hp he
    cases c1 <;> cases c2
    · exact absurd rfl hc
    · clear hc
      obtain rfl : r = false := by rw [← hr]; exact decide_eq_false (by intro h; injection h with h1 h2 h3; cases h3)
      clear hr htt
      go_enter Try.func57, Try.ntmps57
      go_wp2_with (fail)
      go_ret
      exact ⟨rfl, H.out.drop.drop⟩
    · clear hc
      obtain rfl : r = false := by rw [← hr]; exact decide_eq_false (by intro h; injection h with h1 h2 h3; cases h3)
      clear hr htt
      go_enter Try.func57, Try.ntmps57
      go_wp2_with (fail)
      go_ret
      exact ⟨rfl, H.out.drop.drop⟩
    · exact absurd rfl hc
  subst hc
  cases rt with
  | false =>
    clear hp he
    have hne := of_decide_eq_false htt
    obtain rfl : r = false := by rw [← hr]; exact decide_eq_false (by intro h; injection h with h1 h2 h3 h4; exact hne h4)
    clear hr htt hne
    cases c1 with
    | false =>
      go_enter Try.func57, Try.ntmps57
      go_wp2_with (go_at_call 30; (with_reducible refine (val_sameTopics l1 l2 q1 q2 cap1 cap2 _ HT.out HF1.out HF2.out HK1.out HK2.out H.out).mono ?_); rintro e_ wn ⟨rfl, h⟩; have d10 := h.p1.rawCell 0; have d20 := h.rawCell 0; have d11 := h.p1.rawCell 1; have d21 := h.rawCell 1; have d12 := h.p1.rawCell 2; have d22 := h.rawCell 2; have d13 := h.p1.rawCell 3; have d23 := h.rawCell 3; have d14 := h.p1.rawCell 4; have d24 := h.rawCell 4; simp at d10 d20 d11 d21 d12 d22 d13 d23 d14 d24; replace H := Lib.hid h; clear h)
      go_ret
      exact ⟨rfl, H.out.drop.drop⟩
    | true =>
      go_enter Try.func57, Try.ntmps57
      go_wp2_with (go_at_call 30; (with_reducible refine (val_sameTopics l1 l2 q1 q2 cap1 cap2 _ HT.out HF1.out HF2.out HK1.out HK2.out H.out).mono ?_); rintro e_ wn ⟨rfl, h⟩; have d10 := h.p1.rawCell 0; have d20 := h.rawCell 0; have d11 := h.p1.rawCell 1; have d21 := h.rawCell 1; have d12 := h.p1.rawCell 2; have d22 := h.rawCell 2; have d13 := h.p1.rawCell 3; have d23 := h.rawCell 3; have d14 := h.p1.rawCell 4; have d24 := h.rawCell 4; simp at d10 d20 d11 d21 d12 d22 d13 d23 d14 d24; replace H := Lib.hid h; clear h)
      go_ret
      exact ⟨rfl, H.out.drop.drop⟩
  | true =>
    by_cases ho : co1 = co2
    rotate_left
    · have g1 : (co1 == co2) = false := by rw [beq_eq_false_iff_ne]; exact ho
      obtain rfl : r = false := by rw [← hr]; exact decide_eq_false (by intro h; injection h with h1 h2 h3 h4 h5; exact ho h5)
      clear hr htt hp he ho
      cases c1 with
      | false =>
        go_enter Try.func57, Try.ntmps57
        go_wp2_with (go_at_call 30; (with_reducible refine (val_sameTopics l1 l2 q1 q2 cap1 cap2 _ HT.out HF1.out HF2.out HK1.out HK2.out H.out).mono ?_); rintro e_ wn ⟨rfl, h⟩; have d10 := h.p1.rawCell 0; have d20 := h.rawCell 0; have d11 := h.p1.rawCell 1; have d21 := h.rawCell 1; have d12 := h.p1.rawCell 2; have d22 := h.rawCell 2; have d13 := h.p1.rawCell 3; have d23 := h.rawCell 3; have d14 := h.p1.rawCell 4; have d24 := h.rawCell 4; simp at d10 d20 d11 d21 d12 d22 d13 d23 d14 d24; replace H := Lib.hid h; clear h)
        go_ret
        exact ⟨rfl, H.out.drop.drop⟩
      | true =>
        go_enter Try.func57, Try.ntmps57
        go_wp2_with (go_at_call 30; (with_reducible refine (val_sameTopics l1 l2 q1 q2 cap1 cap2 _ HT.out HF1.out HF2.out HK1.out HK2.out H.out).mono ?_); rintro e_ wn ⟨rfl, h⟩; have d10 := h.p1.rawCell 0; have d20 := h.rawCell 0; have d11 := h.p1.rawCell 1; have d21 := h.rawCell 1; have d12 := h.p1.rawCell 2; have d22 := h.rawCell 2; have d13 := h.p1.rawCell 3; have d23 := h.rawCell 3; have d14 := h.p1.rawCell 4; have d24 := h.rawCell 4; simp at d10 d20 d11 d21 d12 d22 d13 d23 d14 d24; replace H := Lib.hid h; clear h)
        go_ret
        exact ⟨rfl, H.out.drop.drop⟩
    have g1 : (co1 == co2) = true := by rw [ho]; exact beq_self_eq_true _
    obtain rfl : r = true := by rw [← hr]; exact decide_eq_true (by rw [hp, he, ho, of_decide_eq_true htt])
    clear hr htt hp he ho
    cases c1 with
    | false =>
      go_enter Try.func57, Try.ntmps57
      go_wp2_with (go_at_call 30; (with_reducible refine (val_sameTopics l1 l2 q1 q2 cap1 cap2 _ HT.out HF1.out HF2.out HK1.out HK2.out H.out).mono ?_); rintro e_ wn ⟨rfl, h⟩; have d10 := h.p1.rawCell 0; have d20 := h.rawCell 0; have d11 := h.p1.rawCell 1; have d21 := h.rawCell 1; have d12 := h.p1.rawCell 2; have d22 := h.rawCell 2; have d13 := h.p1.rawCell 3; have d23 := h.rawCell 3; have d14 := h.p1.rawCell 4; have d24 := h.rawCell 4; simp at d10 d20 d11 d21 d12 d22 d13 d23 d14 d24; replace H := Lib.hid h; clear h)
      go_ret
      exact ⟨rfl, H.out.drop.drop⟩
    | true =>
      go_enter Try.func57, Try.ntmps57
      go_wp2_with (go_at_call 30; (with_reducible refine (val_sameTopics l1 l2 q1 q2 cap1 cap2 _ HT.out HF1.out HF2.out HK1.out HK2.out H.out).mono ?_); rintro e_ wn ⟨rfl, h⟩; have d10 := h.p1.rawCell 0; have d20 := h.rawCell 0; have d11 := h.p1.rawCell 1; have d21 := h.rawCell 1; have d12 := h.p1.rawCell 2; have d22 := h.rawCell 2; have d13 := h.p1.rawCell 3; have d23 := h.rawCell 3; have d14 := h.p1.rawCell 4; have d24 := h.rawCell 4; simp at d10 d20 d11 d21 d12 d22 d13 d23 d14 d24; replace H := Lib.hid h; clear h)
      go_ret
      exact ⟨rfl, H.out.drop.drop⟩

end Go.Proofs.Ytombolmicfjjpaa

/- Marks, read (pure). -/
namespace Go.Proofs.Ytombolmicfjjpaa
open Go.RowKit

/-- One mark as it is read, whether it may be or not. -/
def InS.mark1 (v : Int) (i : InS) : MarkS × InS :=
  let a := i.int 8
  let b := a.2.int 2
  let c := b.2.boolP
  let t := c.2.tops
  if v = 1 then (⟨a.1, b.1, c.1, t.1, (t.2.int 4).1⟩, (t.2.int 4).2) else (⟨a.1, b.1, c.1, t.1, 0⟩, t.2)
def InS.marksN (v : Int) : Nat → List MarkS → InS → List MarkS × InS
  | 0, acc, i => (acc, i)
  | n + 1, acc, i => if (i.mark1 v).2.err = 0 then InS.marksN v n (acc ++ [(i.mark1 v).1]) (i.mark1 v).2 else ([], (i.mark1 v).2)
/-- A request of marks, read. -/
def InS.marks (v : Int) (i : InS) : List MarkS × InS :=
  let r := InS.marksN v (i.cnt 15).1 [] (i.cnt 15).2
  if r.2.err = 0 then (if marksErr v r.1 = 0 then r else ([], r.2.fail (marksErr v r.1))) else ([], r.2)

end Go.Proofs.Ytombolmicfjjpaa

/- Requests of transactions: are they whole. -/
namespace Go.Proofs.Ytombolmicfjjpaa
open Go.RowKit

theorem blob_fixedT (p : Nat) (i j : InS) (n : Bool) (d : Bs) (hx : i.fixed 2 = (⟨n, d⟩, j)) {W0 w : World} {K : Know} {L : List Res} (h : St W0 w K (.inp p i :: L)) :
    Calls Try.prog 111 #[inPtr p, .int .i64 2] w fun en w' => en = .returned (.agg #[.bool n, .string (bb d)]) ∧ St W0 w' K (.inp p j :: L) := by
  have := blob_fixed p i 2 h
  rw [hx] at this
  exact this
set_option maxHeartbeats 1000000 in
set_option maxRecDepth 100000 in
theorem vsd_check (v : Int) (nl : Bool) (d : Bs) (tm p e : Int) (r : Int) (hr : begE v nl d tm p e = r) (hl : d.length ≤ 140737488355328) {W0 w : World} {K : Know} {L : List Res} (h : St W0 w K L) :
    Calls Try.prog 146 #[.agg #[.bool nl, .string (bb d), .int .i64 tm, .int .i64 p, .int .i64 e, .int .i64 v]] w fun en w' => en = .returned (.int .i64 r) ∧ St W0 w' K L := by
  have H := Lib.hid (h.allocRaw #[.bool nl, .string (bb d), .int .i64 tm, .int .i64 p, .int .i64 e, .int .i64 v] 173)
  have HR := Lib.hid hr
  have HL := Lib.hid hl
  clear h hr hl
  go_enter Try.func146, Try.ntmps146
  go_wp2_with (go_at_call 93; (with_reducible refine (beg_check v nl d tm p e _ HR.out HL.out H.out).mono ?_); rintro e_ wn ⟨rfl, h⟩; replace H := Lib.hid h; clear h)
  go_ret
  exact ⟨rfl, H.out.drop⟩
set_option maxHeartbeats 1000000 in
set_option maxRecDepth 100000 in
theorem whole_err (b : Nat) (i : InS) (e : Int) (hi : i.err = e) (h0 : e ≠ 0) (v : Value) {W0 w : World} {K : Know} {L : List Res} (h : St W0 w K (.inp b i :: L)) :
    Calls Try.prog 119 #[inPtr b, v] w fun en w' => en = .returned (.bool false) ∧ St W0 w' K (.inp b i :: L) := by
  have H := Lib.hid h
  have HI := Lib.hid hi
  have g1 : (e == 0) = false := by rw [beq_eq_false_iff_ne]; exact h0
  have g2 : (e != 0) = true := by simp [bne, g1]
  clear h hi h0
  go_enter Try.func119, Try.ntmps119
  go_wp2_with (go_at_call 27; (with_reducible refine (s_errV b _ _ HI.out H.out).mono ?_); rintro e_ wn ⟨rfl, h⟩; replace H := Lib.hid h; clear h)
  go_ret
  exact ⟨rfl, H.out⟩
theorem s_failW (p : Nat) (i j : InS) (e : Int) (hx : i.fail e = j) {W0 w : World} {K : Know} {L : List Res} (h : St W0 w K (.inp p i :: L)) :
    Calls Try.prog 73 #[inPtr p, .int .i64 e] w fun en w' => en = .returned (.tuple #[]) ∧ St W0 w' K (.inp p j :: L) := by
  subst hx; exact s_fail p i e h

set_option maxHeartbeats 2000000 in
set_option maxRecDepth 100000 in
theorem whole_beg (b : Nat) (i j : InS) (v : Int) (nl : Bool) (d : Bs) (tm p e : Int) (r : Int) (t : Bool) (hr : begE v nl d tm p e = r) (hl : d.length ≤ 140737488355328) (hi : i.err = 0) (ht : (r == 0) = t) (hj : (if r = 0 then i else i.fail r) = j) {W0 w : World} {K : Know} {L : List Res} (h : St W0 w K (.inp b i :: L)) :
    Calls Try.prog 119 #[inPtr b, .iface 173 (.agg #[.bool nl, .string (bb d), .int .i64 tm, .int .i64 p, .int .i64 e, .int .i64 v])] w fun en w' => en = .returned (.bool t) ∧ St W0 w' K (.inp b j :: L) := by
  have H := Lib.hid h
  have HI := Lib.hid hi
  have HR := Lib.hid hr
  have HL := Lib.hid hl
  clear h hr hl
  clear hi
  by_cases h0 : r = 0
  · rw [if_pos h0] at hj
    subst hj h0
    obtain rfl : true = t := ht
    go_enter Try.func119, Try.ntmps119
    go_wp2_with (first
    | (go_at_call 27; (with_reducible refine (s_errV b _ _ HI.out H.out).mono ?_); rintro e_ wn ⟨rfl, h⟩; replace H := Lib.hid h; clear h)
    | (go_at_call 146; (with_reducible refine (vsd_check v nl d tm p e _ HR.out HL.out H.out).mono ?_); rintro e_ wn ⟨rfl, h⟩; replace H := Lib.hid h; clear h))
    go_ret
    exact ⟨rfl, H.out⟩
  · rw [if_neg h0] at hj
    have HJ := Lib.hid hj
    have g0 : (r == 0) = false := by rw [beq_eq_false_iff_ne]; exact h0
    have g00 : (r != 0) = true := by simp [bne, g0]
    rw [g0] at ht
    subst ht
    clear hj h0
    go_enter Try.func119, Try.ntmps119
    go_wp2_with (first
    | (go_at_call 27; (with_reducible refine (s_errV b _ _ HI.out H.out).mono ?_); rintro e_ wn ⟨rfl, h⟩; replace H := Lib.hid h; clear h)
    | (go_at_call 146; (with_reducible refine (vsd_check v nl d tm p e _ HR.out HL.out H.out).mono ?_); rintro e_ wn ⟨rfl, h⟩; replace H := Lib.hid h; clear h)
    | (go_at_call 73; (with_reducible refine (s_failW b _ _ _ HJ.out H.out).mono ?_); rintro e_ wn ⟨rfl, h⟩; replace H := Lib.hid h; clear h))
    go_ret
    exact ⟨rfl, H.out⟩

set_option maxHeartbeats 2000000 in
set_option maxRecDepth 100000 in
theorem whole_add (b : Nat) (i j : InS) (d : Bs) (p e : Int) (l : List (TopS × Value)) (q : Option Addr) (cap : Nat) (r : Int) (t : Bool) (hr : addE d p e (l.map (·.1)) = r) (hl : d.length ≤ 140737488355328) (hf : FewT l) (hi : i.err = 0) (ht : (r == 0) = t) (hj : (if r = 0 then i else i.fail r) = j) {W0 w : World} {K : Know} {L : List Res} (hk : K.has (Know.tops (.slice q l.length cap) l)) (h : St W0 w K (.inp b i :: L)) :
    Calls Try.prog 119 #[inPtr b, .iface 144 (.agg #[.string (bb d), .int .i64 p, .int .i64 e, .slice q l.length cap])] w fun en w' => en = .returned (.bool t) ∧ St W0 w' K (.inp b j :: L) := by
  have H := Lib.hid h
  have HI := Lib.hid hi
  have HR := Lib.hid hr
  have HL := Lib.hid hl
  have HF := Lib.hid hf
  have HK := Lib.hid hk
  clear h hr hl hf hk
  clear hi
  by_cases h0 : r = 0
  · rw [if_pos h0] at hj
    subst hj h0
    obtain rfl : true = t := ht
    go_enter Try.func119, Try.ntmps119
    go_wp2_with (first
    | (go_at_call 27; (with_reducible refine (s_errV b _ _ HI.out H.out).mono ?_); rintro e_ wn ⟨rfl, h⟩; replace H := Lib.hid h; clear h)
    | (go_at_call 95; (with_reducible refine (add_check d p e l q cap _ HR.out HL.out HF.out HK.out H.out).mono ?_); rintro e_ wn ⟨rfl, h⟩; replace H := Lib.hid h; clear h))
    go_ret
    exact ⟨rfl, H.out⟩
  · rw [if_neg h0] at hj
    have HJ := Lib.hid hj
    have g0 : (r == 0) = false := by rw [beq_eq_false_iff_ne]; exact h0
    have g00 : (r != 0) = true := by simp [bne, g0]
    rw [g0] at ht
    subst ht
    clear hj h0
    go_enter Try.func119, Try.ntmps119
    go_wp2_with (first
    | (go_at_call 27; (with_reducible refine (s_errV b _ _ HI.out H.out).mono ?_); rintro e_ wn ⟨rfl, h⟩; replace H := Lib.hid h; clear h)
    | (go_at_call 95; (with_reducible refine (add_check d p e l q cap _ HR.out HL.out HF.out HK.out H.out).mono ?_); rintro e_ wn ⟨rfl, h⟩; replace H := Lib.hid h; clear h)
    | (go_at_call 73; (with_reducible refine (s_failW b _ _ _ HJ.out H.out).mono ?_); rintro e_ wn ⟨rfl, h⟩; replace H := Lib.hid h; clear h))
    go_ret
    exact ⟨rfl, H.out⟩

set_option maxHeartbeats 2000000 in
set_option maxRecDepth 100000 in
theorem whole_endG (b : Nat) (i j : InS) (id : Bs) (p e : Int) (c : Bool) (r : Int) (t : Bool) (hr : chkW id p e = r) (hl : id.length ≤ 140737488355328) (hi : i.err = 0) (ht : (r == 0) = t) (hj : (if r = 0 then i else i.fail r) = j) {W0 w : World} {K : Know} {L : List Res} (h : St W0 w K (.inp b i :: L)) :
    Calls Try.prog 119 #[inPtr b, .iface 136 (.agg #[.string (bb id), .int .i64 p, .int .i64 e, .bool c])] w fun en w' => en = .returned (.bool t) ∧ St W0 w' K (.inp b j :: L) := by
  have H := Lib.hid h
  have HI := Lib.hid hi
  have HR := Lib.hid hr
  have HL := Lib.hid hl
  clear h hr hl
  clear hi
  by_cases h0 : r = 0
  · rw [if_pos h0] at hj
    subst hj h0
    obtain rfl : true = t := ht
    go_enter Try.func119, Try.ntmps119
    go_wp2_with (first
    | (go_at_call 27; (with_reducible refine (s_errV b _ _ HI.out H.out).mono ?_); rintro e_ wn ⟨rfl, h⟩; replace H := Lib.hid h; clear h)
    | (go_at_call 96; (with_reducible refine (end_check id p e c _ HR.out HL.out H.out).mono ?_); rintro e_ wn ⟨rfl, h⟩; replace H := Lib.hid h; clear h))
    go_ret
    exact ⟨rfl, H.out⟩
  · rw [if_neg h0] at hj
    have HJ := Lib.hid hj
    have g0 : (r == 0) = false := by rw [beq_eq_false_iff_ne]; exact h0
    have g00 : (r != 0) = true := by simp [bne, g0]
    rw [g0] at ht
    subst ht
    clear hj h0
    go_enter Try.func119, Try.ntmps119
    go_wp2_with (first
    | (go_at_call 27; (with_reducible refine (s_errV b _ _ HI.out H.out).mono ?_); rintro e_ wn ⟨rfl, h⟩; replace H := Lib.hid h; clear h)
    | (go_at_call 96; (with_reducible refine (end_check id p e c _ HR.out HL.out H.out).mono ?_); rintro e_ wn ⟨rfl, h⟩; replace H := Lib.hid h; clear h)
    | (go_at_call 73; (with_reducible refine (s_failW b _ _ _ HJ.out H.out).mono ?_); rintro e_ wn ⟨rfl, h⟩; replace H := Lib.hid h; clear h))
    go_ret
    exact ⟨rfl, H.out⟩

theorem whole_begO (b : Nat) (i : InS) (v : Int) (nl : Bool) (d : Bs) (tm p e : Int) (hr : begE v nl d tm p e = 0) (hl : d.length ≤ 140737488355328) (hi : i.err = 0) {W0 w : World} {K : Know} {L : List Res} (h : St W0 w K (.inp b i :: L)) :
    Calls Try.prog 119 #[inPtr b, .iface 173 (.agg #[.bool nl, .string (bb d), .int .i64 tm, .int .i64 p, .int .i64 e, .int .i64 v])] w fun en w' => en = .returned (.bool true) ∧ St W0 w' K (.inp b i :: L) :=
  whole_beg b i i v nl d tm p e 0 true hr hl hi rfl (if_pos rfl) h
theorem whole_addO (b : Nat) (i : InS) (d : Bs) (p e : Int) (l : List (TopS × Value)) (q : Option Addr) (cap : Nat) (hr : addE d p e (l.map (·.1)) = 0) (hl : d.length ≤ 140737488355328) (hf : FewT l) (hi : i.err = 0) {W0 w : World} {K : Know} {L : List Res} (hk : K.has (Know.tops (.slice q l.length cap) l)) (h : St W0 w K (.inp b i :: L)) :
    Calls Try.prog 119 #[inPtr b, .iface 144 (.agg #[.string (bb d), .int .i64 p, .int .i64 e, .slice q l.length cap])] w fun en w' => en = .returned (.bool true) ∧ St W0 w' K (.inp b i :: L) :=
  whole_add b i i d p e l q cap 0 true hr hl hf hi rfl (if_pos rfl) hk h

end Go.Proofs.Ytombolmicfjjpaa

/- Add and End, read. -/
namespace Go.Proofs.Ytombolmicfjjpaa
open Go.RowKit

set_option maxHeartbeats 6000000 in
set_option maxRecDepth 100000 in
theorem read_add_ok (b : Nat) (i i1 i2 i3 i4 : InS) (d : Bs) (p e : Int) (tl : List TopS) (h1 : i.text = (d, i1)) (h2 : i1.int 8 = (p, i2)) (h3 : i2.int 2 = (e, i3)) (h4 : i3.tops = (tl, i4)) (hi : i4.err = 0) (hr : addE d p e tl = 0) (hl : d.length ≤ 140737488355328) (hf : FewL tl) {W0 w : World} {K : Know} {L : List Res} (h : St W0 w K (.inp b i :: L)) :
    Calls Try.prog 100 #[inPtr b] w fun en w' => ∃ (q : Option Addr) (cap : Nat) (lr : List (TopS × Value)), en = .returned (.agg #[.string (bb d), .int .i64 p, .int .i64 e, .slice q lr.length cap]) ∧ lr.map (·.1) = tl ∧ St W0 w' (K.and (Know.tops (.slice q lr.length cap) lr)) (.inp b i4 :: L) := by
  obtain ⟨rb, hrb⟩ : ∃ b, w.heap.size = b := ⟨_, rfl⟩
  obtain ⟨eb, heb⟩ : ∃ b, rb + 1 = b := ⟨_, rfl⟩
  have g1 := (h.allocRaw #[.string ⟨#[]⟩, .int .i64 0, .int .i64 0, .slice none 0 0] 144).allocRaw #[.string ⟨#[]⟩, .int .i64 0, .int .i64 0, .slice none 0 0] 144
  simp only [World.size_alloc, hrb, heb] at g1
  have H := Lib.hid g1.p2
  have H1 := Lib.hid h1
  have H2 := Lib.hid h2
  have H3 := Lib.hid h3
  have H4 := Lib.hid h4
  have HI := Lib.hid hi
  have HR := Lib.hid hr
  have HL := Lib.hid hl
  have HFL := Lib.hid hf
  have HT := Lib.hid (show ((0 : Int) == 0) = true by rfl)
  have HJ := Lib.hid (show (if (0 : Int) = 0 then i4 else i4.fail 0) = i4 by rfl)
  clear h g1 h1 h2 h3 h4 hi hr hl hf
  go_enter Try.func100, Try.ntmps100
  go_wp2_with (first
    | (go_at_call 78; (with_reducible refine (blob_textV b _ _ d H1.out H.out).mono ?_); rintro e_ wn ⟨rfl, h⟩; have f0 := h.p1.rawFree 0; have g0 := h.p1.rawCell 0; simp at g0; have h := (show St W0 (wn.setCell ⟨eb, 0, none⟩ (.string (bb d))) K (.inp b i1 :: .raw eb #[.string (bb d), .int .i64 0, .int .i64 0, .slice none 0 0] 144 :: .raw rb #[.string ⟨#[]⟩, .int .i64 0, .int .i64 0, .slice none 0 0] 144 :: L) from (h.p1.rawSet 0 (.string (bb d))).p1); replace H := Lib.hid h; clear h)
    | (go_at_call 118; (with_reducible refine (txn_readWriter b _ _ _ p e H2.out H3.out H.out).mono ?_); rintro e_ wn ⟨rfl, h⟩; have f1 := h.p1.rawFree 1; have g1 := h.p1.rawCell 1; simp at g1; have f2 := h.p1.rawFree 2; have g2 := h.p1.rawCell 2; simp at g2; have h := (show St W0 ((wn.setCell ⟨eb, 1, none⟩ (.int .i64 p)).setCell ⟨eb, 2, none⟩ (.int .i64 e)) K (.inp b i3 :: .raw eb #[.string (bb d), .int .i64 p, .int .i64 e, .slice none 0 0] 144 :: .raw rb #[.string ⟨#[]⟩, .int .i64 0, .int .i64 0, .slice none 0 0] 144 :: L) from ((h.p1.rawSet 1 (.int .i64 p)).rawSet 2 (.int .i64 e)).p1); replace H := Lib.hid h; clear h)
    | (go_at_call 25; (with_reducible refine (val_topics b _ _ tl H4.out H.out).mono ?_); rintro e_ wn ⟨v_, lr, rfl, hlr, h⟩; obtain ⟨q, cap, rfl⟩ := tops_form (Know.has_right (Know.has_refl _)) h; have HLR := Lib.hid hlr; clear hlr; have f3 := h.p1.rawFree 3; have g3 := h.p1.rawCell 3; simp at g3; have h := (show St W0 (wn.setCell ⟨eb, 3, none⟩ (.slice q lr.length cap)) (K.and (Know.tops (.slice q lr.length cap) lr)) (.inp b i4 :: .raw eb #[.string (bb d), .int .i64 p, .int .i64 e, .slice q lr.length cap] 144 :: .raw rb #[.string ⟨#[]⟩, .int .i64 0, .int .i64 0, .slice none 0 0] 144 :: L) from (h.p1.rawSet 3 (.slice q lr.length cap)).p1); have c0 := h.p1.rawCell 0; have c1 := h.p1.rawCell 1; have c2 := h.p1.rawCell 2; have c3 := h.p1.rawCell 3; simp at c0 c1 c2 c3; replace H := Lib.hid h; clear h)
    | (go_at_call 119; clear c0 c1 c2 c3; (with_reducible refine (whole_addO b i4 d p e lr q cap (by rw [HLR.out]; exact HR.out) HL.out (fewT_of (by rw [HLR.out]; exact HFL.out)) HI.out (Know.has_right (Know.has_refl _)) H.out).mono ?_); rintro e_ wn ⟨rfl, h⟩; have c0 := h.p1.rawCell 0; have d0 := h.p2.rawCell 0; have r0 := h.p2.rawFree 0; have c1 := h.p1.rawCell 1; have d1 := h.p2.rawCell 1; have r1 := h.p2.rawFree 1; have c2 := h.p1.rawCell 2; have d2 := h.p2.rawCell 2; have r2 := h.p2.rawFree 2; have c3 := h.p1.rawCell 3; have d3 := h.p2.rawCell 3; have r3 := h.p2.rawFree 3; simp at c0 d0 c1 d1 c2 d2 c3 d3; replace H := Lib.hid h; clear h))
  have hz : St W0 _ _ (.raw rb #[.string (bb d), .int .i64 p, .int .i64 e, .slice q lr.length cap] 144 :: .inp b i4 :: .raw eb #[.string (bb d), .int .i64 p, .int .i64 e, .slice q lr.length cap] 144 :: L) := ((((H.out.p2.rawSet 0 _).rawSet 1 _).rawSet 2 _).rawSet 3 _)
  refine bodyPost_ret (rc_cell_only rfl _ _ rb [.string (bb d), .int .i64 p, .int .i64 e, .slice q lr.length cap] _ rfl (rc_range hz) Try.underlying144 rfl (by kernel_rfl)) rfl ?_
  exact ⟨q, cap, lr, rfl, HLR.out, hz.drop.p1.drop⟩

set_option maxHeartbeats 6000000 in
set_option maxRecDepth 100000 in
theorem read_add_chk (b : Nat) (i i1 i2 i3 i4 j : InS) (d : Bs) (p e : Int) (tl : List TopS) (h1 : i.text = (d, i1)) (h2 : i1.int 8 = (p, i2)) (h3 : i2.int 2 = (e, i3)) (h4 : i3.tops = (tl, i4)) (hi : i4.err = 0) (r : Int) (hr : addE d p e tl = r) (h0 : r ≠ 0) (hj : i4.fail r = j) (hl : d.length ≤ 140737488355328) (hf : FewL tl) {W0 w : World} {K : Know} {L : List Res} (h : St W0 w K (.inp b i :: L)) :
    Calls Try.prog 100 #[inPtr b] w fun en w' => en = .returned (.agg #[.string ⟨#[]⟩, .int .i64 0, .int .i64 0, .slice none 0 0]) ∧ St W0 w' K (.inp b j :: L) := by
  obtain ⟨rb, hrb⟩ : ∃ b, w.heap.size = b := ⟨_, rfl⟩
  obtain ⟨eb, heb⟩ : ∃ b, rb + 1 = b := ⟨_, rfl⟩
  have g1 := (h.allocRaw #[.string ⟨#[]⟩, .int .i64 0, .int .i64 0, .slice none 0 0] 144).allocRaw #[.string ⟨#[]⟩, .int .i64 0, .int .i64 0, .slice none 0 0] 144
  simp only [World.size_alloc, hrb, heb] at g1
  have H := Lib.hid g1.p2
  have H1 := Lib.hid h1
  have H2 := Lib.hid h2
  have H3 := Lib.hid h3
  have H4 := Lib.hid h4
  have HI := Lib.hid hi
  have HR := Lib.hid hr
  have HL := Lib.hid hl
  have HFL := Lib.hid hf
  have HT := Lib.hid (show (r == 0) = false by rw [beq_eq_false_iff_ne]; exact h0)
  have HJ := Lib.hid (show (if r = 0 then i4 else i4.fail r) = j by rw [if_neg h0]; exact hj)
  clear h g1 h1 h2 h3 h4 hi hr hl hf h0 hj
  go_enter Try.func100, Try.ntmps100
  go_wp2_with (first
    | (go_at_call 78; (with_reducible refine (blob_textV b _ _ d H1.out H.out).mono ?_); rintro e_ wn ⟨rfl, h⟩; have f0 := h.p1.rawFree 0; have g0 := h.p1.rawCell 0; simp at g0; have h := (show St W0 (wn.setCell ⟨eb, 0, none⟩ (.string (bb d))) K (.inp b i1 :: .raw eb #[.string (bb d), .int .i64 0, .int .i64 0, .slice none 0 0] 144 :: .raw rb #[.string ⟨#[]⟩, .int .i64 0, .int .i64 0, .slice none 0 0] 144 :: L) from (h.p1.rawSet 0 (.string (bb d))).p1); replace H := Lib.hid h; clear h)
    | (go_at_call 118; (with_reducible refine (txn_readWriter b _ _ _ p e H2.out H3.out H.out).mono ?_); rintro e_ wn ⟨rfl, h⟩; have f1 := h.p1.rawFree 1; have g1 := h.p1.rawCell 1; simp at g1; have f2 := h.p1.rawFree 2; have g2 := h.p1.rawCell 2; simp at g2; have h := (show St W0 ((wn.setCell ⟨eb, 1, none⟩ (.int .i64 p)).setCell ⟨eb, 2, none⟩ (.int .i64 e)) K (.inp b i3 :: .raw eb #[.string (bb d), .int .i64 p, .int .i64 e, .slice none 0 0] 144 :: .raw rb #[.string ⟨#[]⟩, .int .i64 0, .int .i64 0, .slice none 0 0] 144 :: L) from ((h.p1.rawSet 1 (.int .i64 p)).rawSet 2 (.int .i64 e)).p1); replace H := Lib.hid h; clear h)
    | (go_at_call 25; (with_reducible refine (val_topics b _ _ tl H4.out H.out).mono ?_); rintro e_ wn ⟨v_, lr, rfl, hlr, h⟩; obtain ⟨q, cap, rfl⟩ := tops_form (Know.has_right (Know.has_refl _)) h; have HLR := Lib.hid hlr; clear hlr; have f3 := h.p1.rawFree 3; have g3 := h.p1.rawCell 3; simp at g3; have h := (show St W0 (wn.setCell ⟨eb, 3, none⟩ (.slice q lr.length cap)) (K.and (Know.tops (.slice q lr.length cap) lr)) (.inp b i4 :: .raw eb #[.string (bb d), .int .i64 p, .int .i64 e, .slice q lr.length cap] 144 :: .raw rb #[.string ⟨#[]⟩, .int .i64 0, .int .i64 0, .slice none 0 0] 144 :: L) from (h.p1.rawSet 3 (.slice q lr.length cap)).p1); have c0 := h.p1.rawCell 0; have c1 := h.p1.rawCell 1; have c2 := h.p1.rawCell 2; have c3 := h.p1.rawCell 3; simp at c0 c1 c2 c3; replace H := Lib.hid h; clear h)
    | (go_at_call 119; clear c0 c1 c2 c3; (with_reducible refine (whole_add b i4 _ d p e lr q cap _ _ (by rw [HLR.out]; exact HR.out) HL.out (fewT_of (by rw [HLR.out]; exact HFL.out)) HI.out HT.out HJ.out (Know.has_right (Know.has_refl _)) H.out).mono ?_); rintro e_ wn ⟨rfl, h⟩; have c0 := h.p1.rawCell 0; have d0 := h.p2.rawCell 0; have r0 := h.p2.rawFree 0; have c1 := h.p1.rawCell 1; have d1 := h.p2.rawCell 1; have r1 := h.p2.rawFree 1; have c2 := h.p1.rawCell 2; have d2 := h.p2.rawCell 2; have r2 := h.p2.rawFree 2; have c3 := h.p1.rawCell 3; have d3 := h.p2.rawCell 3; have r3 := h.p2.rawFree 3; simp at c0 d0 c1 d1 c2 d2 c3 d3; replace H := Lib.hid h; clear h))
  have hz : St W0 _ _ (.raw rb #[.string ⟨#[]⟩, .int .i64 0, .int .i64 0, .slice none 0 0] 144 :: .inp b j :: .raw eb #[.string (bb d), .int .i64 p, .int .i64 e, .slice q lr.length cap] 144 :: L) := ((((H.out.p2.rawSet 0 _).rawSet 1 _).rawSet 2 _).rawSet 3 _)
  refine bodyPost_ret (rc_cell_only rfl _ _ rb [.string ⟨#[]⟩, .int .i64 0, .int .i64 0, .slice none 0 0] _ rfl (rc_range hz) Try.underlying144 rfl (by kernel_rfl)) rfl ?_
  exact ⟨rfl, (hz.drop.p1.drop).know (Know.has_left (Know.has_refl _))⟩

set_option maxHeartbeats 6000000 in
set_option maxRecDepth 100000 in
theorem read_add_err (b : Nat) (i i1 i2 i3 i4 : InS) (d : Bs) (p e : Int) (tl : List TopS) (h1 : i.text = (d, i1)) (h2 : i1.int 8 = (p, i2)) (h3 : i2.int 2 = (e, i3)) (h4 : i3.tops = (tl, i4)) (x : Int) (hi : i4.err = x) (h0 : x ≠ 0) {W0 w : World} {K : Know} {L : List Res} (h : St W0 w K (.inp b i :: L)) :
    Calls Try.prog 100 #[inPtr b] w fun en w' => en = .returned (.agg #[.string ⟨#[]⟩, .int .i64 0, .int .i64 0, .slice none 0 0]) ∧ St W0 w' K (.inp b i4 :: L) := by
  obtain ⟨rb, hrb⟩ : ∃ b, w.heap.size = b := ⟨_, rfl⟩
  obtain ⟨eb, heb⟩ : ∃ b, rb + 1 = b := ⟨_, rfl⟩
  have g1 := (h.allocRaw #[.string ⟨#[]⟩, .int .i64 0, .int .i64 0, .slice none 0 0] 144).allocRaw #[.string ⟨#[]⟩, .int .i64 0, .int .i64 0, .slice none 0 0] 144
  simp only [World.size_alloc, hrb, heb] at g1
  have H := Lib.hid g1.p2
  have H1 := Lib.hid h1
  have H2 := Lib.hid h2
  have H3 := Lib.hid h3
  have H4 := Lib.hid h4
  have HI := Lib.hid hi
  have H0 := Lib.hid h0
  clear h g1 h1 h2 h3 h4 hi h0
  go_enter Try.func100, Try.ntmps100
  go_wp2_with (first
    | (go_at_call 78; (with_reducible refine (blob_textV b _ _ d H1.out H.out).mono ?_); rintro e_ wn ⟨rfl, h⟩; have f0 := h.p1.rawFree 0; have g0 := h.p1.rawCell 0; simp at g0; have h := (show St W0 (wn.setCell ⟨eb, 0, none⟩ (.string (bb d))) K (.inp b i1 :: .raw eb #[.string (bb d), .int .i64 0, .int .i64 0, .slice none 0 0] 144 :: .raw rb #[.string ⟨#[]⟩, .int .i64 0, .int .i64 0, .slice none 0 0] 144 :: L) from (h.p1.rawSet 0 (.string (bb d))).p1); replace H := Lib.hid h; clear h)
    | (go_at_call 118; (with_reducible refine (txn_readWriter b _ _ _ p e H2.out H3.out H.out).mono ?_); rintro e_ wn ⟨rfl, h⟩; have f1 := h.p1.rawFree 1; have g1 := h.p1.rawCell 1; simp at g1; have f2 := h.p1.rawFree 2; have g2 := h.p1.rawCell 2; simp at g2; have h := (show St W0 ((wn.setCell ⟨eb, 1, none⟩ (.int .i64 p)).setCell ⟨eb, 2, none⟩ (.int .i64 e)) K (.inp b i3 :: .raw eb #[.string (bb d), .int .i64 p, .int .i64 e, .slice none 0 0] 144 :: .raw rb #[.string ⟨#[]⟩, .int .i64 0, .int .i64 0, .slice none 0 0] 144 :: L) from ((h.p1.rawSet 1 (.int .i64 p)).rawSet 2 (.int .i64 e)).p1); replace H := Lib.hid h; clear h)
    | (go_at_call 25; (with_reducible refine (val_topics b _ _ tl H4.out H.out).mono ?_); rintro e_ wn ⟨v_, lr, rfl, hlr, h⟩; obtain ⟨q, cap, rfl⟩ := tops_form (Know.has_right (Know.has_refl _)) h; have HLR := Lib.hid hlr; clear hlr; have f3 := h.p1.rawFree 3; have g3 := h.p1.rawCell 3; simp at g3; have h := (show St W0 (wn.setCell ⟨eb, 3, none⟩ (.slice q lr.length cap)) (K.and (Know.tops (.slice q lr.length cap) lr)) (.inp b i4 :: .raw eb #[.string (bb d), .int .i64 p, .int .i64 e, .slice q lr.length cap] 144 :: .raw rb #[.string ⟨#[]⟩, .int .i64 0, .int .i64 0, .slice none 0 0] 144 :: L) from (h.p1.rawSet 3 (.slice q lr.length cap)).p1); have c0 := h.p1.rawCell 0; have c1 := h.p1.rawCell 1; have c2 := h.p1.rawCell 2; have c3 := h.p1.rawCell 3; simp at c0 c1 c2 c3; replace H := Lib.hid h; clear h)
    | (go_at_call 119; clear c0 c1 c2 c3; (with_reducible refine (whole_err b i4 x HI.out H0.out _ H.out).mono ?_); rintro e_ wn ⟨rfl, h⟩; have c0 := h.p1.rawCell 0; have d0 := h.p2.rawCell 0; have r0 := h.p2.rawFree 0; have c1 := h.p1.rawCell 1; have d1 := h.p2.rawCell 1; have r1 := h.p2.rawFree 1; have c2 := h.p1.rawCell 2; have d2 := h.p2.rawCell 2; have r2 := h.p2.rawFree 2; have c3 := h.p1.rawCell 3; have d3 := h.p2.rawCell 3; have r3 := h.p2.rawFree 3; simp at c0 d0 c1 d1 c2 d2 c3 d3; replace H := Lib.hid h; clear h))
  have hz : St W0 _ _ (.raw rb #[.string ⟨#[]⟩, .int .i64 0, .int .i64 0, .slice none 0 0] 144 :: .inp b i4 :: .raw eb #[.string (bb d), .int .i64 p, .int .i64 e, .slice q lr.length cap] 144 :: L) := ((((H.out.p2.rawSet 0 _).rawSet 1 _).rawSet 2 _).rawSet 3 _)
  refine bodyPost_ret (rc_cell_only rfl _ _ rb [.string ⟨#[]⟩, .int .i64 0, .int .i64 0, .slice none 0 0] _ rfl (rc_range hz) Try.underlying144 rfl (by kernel_rfl)) rfl ?_
  exact ⟨rfl, (hz.drop.p1.drop).know (Know.has_left (Know.has_refl _))⟩

set_option maxHeartbeats 6000000 in
set_option maxRecDepth 100000 in
theorem read_end_chk (b : Nat) (i i1 i2 i3 i4 j : InS) (id : Bs) (p e : Int) (c : Bool) (h1 : i.text = (id, i1)) (h2 : i1.int 8 = (p, i2)) (h3 : i2.int 2 = (e, i3)) (h4 : i3.boolP = (c, i4)) (hi : i4.err = 0) (r : Int) (hr : chkW id p e = r) (h0 : r ≠ 0) (hj : i4.fail r = j) (hl : id.length ≤ 140737488355328) {W0 w : World} {K : Know} {L : List Res} (h : St W0 w K (.inp b i :: L)) :
    Calls Try.prog 91 #[inPtr b] w fun en w' => en = .returned (.agg #[.string ⟨#[]⟩, .int .i64 0, .int .i64 0, .bool false]) ∧ St W0 w' K (.inp b j :: L) := by
  obtain ⟨rb, hrb⟩ : ∃ b, w.heap.size = b := ⟨_, rfl⟩
  obtain ⟨eb, heb⟩ : ∃ b, rb + 1 = b := ⟨_, rfl⟩
  have g1 := (h.allocRaw #[.string ⟨#[]⟩, .int .i64 0, .int .i64 0, .bool false] 136).allocRaw #[.string ⟨#[]⟩, .int .i64 0, .int .i64 0, .bool false] 136
  simp only [World.size_alloc, hrb, heb] at g1
  have H := Lib.hid g1.p2
  have H1 := Lib.hid h1
  have H2 := Lib.hid h2
  have H3 := Lib.hid h3
  have H4 := Lib.hid h4
  have HI := Lib.hid hi
  have HR := Lib.hid hr
  have HL := Lib.hid hl
  have HT := Lib.hid (show (r == 0) = false by rw [beq_eq_false_iff_ne]; exact h0)
  have HJ := Lib.hid (show (if r = 0 then i4 else i4.fail r) = j by rw [if_neg h0]; exact hj)
  clear h g1 h1 h2 h3 h4 hi hr hl h0 hj
  go_enter Try.func91, Try.ntmps91
  go_wp2_with (first
    | (go_at_call 78; (with_reducible refine (blob_textV b _ _ id H1.out H.out).mono ?_); rintro e_ wn ⟨rfl, h⟩; have f0 := h.p1.rawFree 0; have g0 := h.p1.rawCell 0; simp at g0; have h := (show St W0 (wn.setCell ⟨eb, 0, none⟩ (.string (bb id))) K (.inp b i1 :: .raw eb #[.string (bb id), .int .i64 0, .int .i64 0, .bool false] 136 :: .raw rb #[.string ⟨#[]⟩, .int .i64 0, .int .i64 0, .bool false] 136 :: L) from (h.p1.rawSet 0 (.string (bb id))).p1); replace H := Lib.hid h; clear h)
    | (go_at_call 118; (with_reducible refine (txn_readWriter b _ _ _ p e H2.out H3.out H.out).mono ?_); rintro e_ wn ⟨rfl, h⟩; have f1 := h.p1.rawFree 1; have g1 := h.p1.rawCell 1; simp at g1; have f2 := h.p1.rawFree 2; have g2 := h.p1.rawCell 2; simp at g2; have h := (show St W0 ((wn.setCell ⟨eb, 1, none⟩ (.int .i64 p)).setCell ⟨eb, 2, none⟩ (.int .i64 e)) K (.inp b i3 :: .raw eb #[.string (bb id), .int .i64 p, .int .i64 e, .bool false] 136 :: .raw rb #[.string ⟨#[]⟩, .int .i64 0, .int .i64 0, .bool false] 136 :: L) from ((h.p1.rawSet 1 (.int .i64 p)).rawSet 2 (.int .i64 e)).p1); replace H := Lib.hid h; clear h)
    | (go_at_call 48; (with_reducible refine (s_bool b _ _ c H4.out H.out).mono ?_); rintro e_ wn ⟨rfl, h⟩; have f3 := h.p1.rawFree 3; have g3 := h.p1.rawCell 3; simp at g3; have h := (show St W0 (wn.setCell ⟨eb, 3, none⟩ (.bool c)) K (.inp b i4 :: .raw eb #[.string (bb id), .int .i64 p, .int .i64 e, .bool c] 136 :: .raw rb #[.string ⟨#[]⟩, .int .i64 0, .int .i64 0, .bool false] 136 :: L) from (h.p1.rawSet 3 (.bool c)).p1); have c0 := h.p1.rawCell 0; have c1 := h.p1.rawCell 1; have c2 := h.p1.rawCell 2; have c3 := h.p1.rawCell 3; simp at c0 c1 c2 c3; replace H := Lib.hid h; clear h)
    | (go_at_call 119; clear c0 c1 c2 c3; (with_reducible refine (whole_endG b i4 _ id p e c _ _ HR.out HL.out HI.out HT.out HJ.out H.out).mono ?_); rintro e_ wn ⟨rfl, h⟩; have c0 := h.p1.rawCell 0; have d0 := h.p2.rawCell 0; have r0 := h.p2.rawFree 0; have c1 := h.p1.rawCell 1; have d1 := h.p2.rawCell 1; have r1 := h.p2.rawFree 1; have c2 := h.p1.rawCell 2; have d2 := h.p2.rawCell 2; have r2 := h.p2.rawFree 2; have c3 := h.p1.rawCell 3; have d3 := h.p2.rawCell 3; have r3 := h.p2.rawFree 3; simp at c0 d0 c1 d1 c2 d2 c3 d3; replace H := Lib.hid h; clear h))
  have hz : St W0 _ _ (.raw rb #[.string ⟨#[]⟩, .int .i64 0, .int .i64 0, .bool false] 136 :: .inp b j :: .raw eb #[.string (bb id), .int .i64 p, .int .i64 e, .bool c] 136 :: L) := ((((H.out.p2.rawSet 0 _).rawSet 1 _).rawSet 2 _).rawSet 3 _)
  refine bodyPost_ret (rc_cell_only rfl _ _ rb [.string ⟨#[]⟩, .int .i64 0, .int .i64 0, .bool false] _ rfl (rc_range hz) Try.underlying136 rfl (by kernel_rfl)) rfl ?_
  exact ⟨rfl, hz.drop.p1.drop⟩

set_option maxHeartbeats 6000000 in
set_option maxRecDepth 100000 in
theorem read_end_err (b : Nat) (i i1 i2 i3 i4 : InS) (id : Bs) (p e : Int) (c : Bool) (h1 : i.text = (id, i1)) (h2 : i1.int 8 = (p, i2)) (h3 : i2.int 2 = (e, i3)) (h4 : i3.boolP = (c, i4)) (x : Int) (hi : i4.err = x) (h0 : x ≠ 0) {W0 w : World} {K : Know} {L : List Res} (h : St W0 w K (.inp b i :: L)) :
    Calls Try.prog 91 #[inPtr b] w fun en w' => en = .returned (.agg #[.string ⟨#[]⟩, .int .i64 0, .int .i64 0, .bool false]) ∧ St W0 w' K (.inp b i4 :: L) := by
  obtain ⟨rb, hrb⟩ : ∃ b, w.heap.size = b := ⟨_, rfl⟩
  obtain ⟨eb, heb⟩ : ∃ b, rb + 1 = b := ⟨_, rfl⟩
  have g1 := (h.allocRaw #[.string ⟨#[]⟩, .int .i64 0, .int .i64 0, .bool false] 136).allocRaw #[.string ⟨#[]⟩, .int .i64 0, .int .i64 0, .bool false] 136
  simp only [World.size_alloc, hrb, heb] at g1
  have H := Lib.hid g1.p2
  have H1 := Lib.hid h1
  have H2 := Lib.hid h2
  have H3 := Lib.hid h3
  have H4 := Lib.hid h4
  have HI := Lib.hid hi
  have H0 := Lib.hid h0
  clear h g1 h1 h2 h3 h4 hi h0
  go_enter Try.func91, Try.ntmps91
  go_wp2_with (first
    | (go_at_call 78; (with_reducible refine (blob_textV b _ _ id H1.out H.out).mono ?_); rintro e_ wn ⟨rfl, h⟩; have f0 := h.p1.rawFree 0; have g0 := h.p1.rawCell 0; simp at g0; have h := (show St W0 (wn.setCell ⟨eb, 0, none⟩ (.string (bb id))) K (.inp b i1 :: .raw eb #[.string (bb id), .int .i64 0, .int .i64 0, .bool false] 136 :: .raw rb #[.string ⟨#[]⟩, .int .i64 0, .int .i64 0, .bool false] 136 :: L) from (h.p1.rawSet 0 (.string (bb id))).p1); replace H := Lib.hid h; clear h)
    | (go_at_call 118; (with_reducible refine (txn_readWriter b _ _ _ p e H2.out H3.out H.out).mono ?_); rintro e_ wn ⟨rfl, h⟩; have f1 := h.p1.rawFree 1; have g1 := h.p1.rawCell 1; simp at g1; have f2 := h.p1.rawFree 2; have g2 := h.p1.rawCell 2; simp at g2; have h := (show St W0 ((wn.setCell ⟨eb, 1, none⟩ (.int .i64 p)).setCell ⟨eb, 2, none⟩ (.int .i64 e)) K (.inp b i3 :: .raw eb #[.string (bb id), .int .i64 p, .int .i64 e, .bool false] 136 :: .raw rb #[.string ⟨#[]⟩, .int .i64 0, .int .i64 0, .bool false] 136 :: L) from ((h.p1.rawSet 1 (.int .i64 p)).rawSet 2 (.int .i64 e)).p1); replace H := Lib.hid h; clear h)
    | (go_at_call 48; (with_reducible refine (s_bool b _ _ c H4.out H.out).mono ?_); rintro e_ wn ⟨rfl, h⟩; have f3 := h.p1.rawFree 3; have g3 := h.p1.rawCell 3; simp at g3; have h := (show St W0 (wn.setCell ⟨eb, 3, none⟩ (.bool c)) K (.inp b i4 :: .raw eb #[.string (bb id), .int .i64 p, .int .i64 e, .bool c] 136 :: .raw rb #[.string ⟨#[]⟩, .int .i64 0, .int .i64 0, .bool false] 136 :: L) from (h.p1.rawSet 3 (.bool c)).p1); have c0 := h.p1.rawCell 0; have c1 := h.p1.rawCell 1; have c2 := h.p1.rawCell 2; have c3 := h.p1.rawCell 3; simp at c0 c1 c2 c3; replace H := Lib.hid h; clear h)
    | (go_at_call 119; clear c0 c1 c2 c3; (with_reducible refine (whole_err b i4 x HI.out H0.out _ H.out).mono ?_); rintro e_ wn ⟨rfl, h⟩; have c0 := h.p1.rawCell 0; have d0 := h.p2.rawCell 0; have r0 := h.p2.rawFree 0; have c1 := h.p1.rawCell 1; have d1 := h.p2.rawCell 1; have r1 := h.p2.rawFree 1; have c2 := h.p1.rawCell 2; have d2 := h.p2.rawCell 2; have r2 := h.p2.rawFree 2; have c3 := h.p1.rawCell 3; have d3 := h.p2.rawCell 3; have r3 := h.p2.rawFree 3; simp at c0 d0 c1 d1 c2 d2 c3 d3; replace H := Lib.hid h; clear h))
  have hz : St W0 _ _ (.raw rb #[.string ⟨#[]⟩, .int .i64 0, .int .i64 0, .bool false] 136 :: .inp b i4 :: .raw eb #[.string (bb id), .int .i64 p, .int .i64 e, .bool c] 136 :: L) := ((((H.out.p2.rawSet 0 _).rawSet 1 _).rawSet 2 _).rawSet 3 _)
  refine bodyPost_ret (rc_cell_only rfl _ _ rb [.string ⟨#[]⟩, .int .i64 0, .int .i64 0, .bool false] _ rfl (rc_range hz) Try.underlying136 rfl (by kernel_rfl)) rfl ?_
  exact ⟨rfl, hz.drop.p1.drop⟩

end Go.Proofs.Ytombolmicfjjpaa

/- A mark, read. -/
namespace Go.Proofs.Ytombolmicfjjpaa
open Go.RowKit

set_option maxHeartbeats 6000000 in
set_option maxRecDepth 100000 in
theorem mark_read1 (b : Nat) (i i1 i2 i3 i4 i5 : InS) (p e : Int) (c : Bool) (tl : List TopS) (co : Int) (h1 : i.int 8 = (p, i1)) (h2 : i1.int 2 = (e, i2)) (h3 : i2.boolP = (c, i3)) (h4 : i3.tops = (tl, i4)) (h5 : i4.int 4 = (co, i5)) {W0 w : World} {K : Know} {L : List Res} (h : St W0 w K (.inp b i :: L)) :
    Calls Try.prog 105 #[inPtr b, .int .i64 1] w fun en w' => ∃ (q : Option Addr) (cap : Nat) (lr : List (TopS × Value)), en = .returned (.agg #[.int .i64 p, .int .i64 e, .bool c, .slice q lr.length cap, .int .i64 co]) ∧ lr.map (·.1) = tl ∧ St W0 w' (K.and (Know.tops (.slice q lr.length cap) lr)) (.inp b i5 :: L) := by
  obtain ⟨rb, hrb⟩ : ∃ b, w.heap.size = b := ⟨_, rfl⟩
  obtain ⟨eb, heb⟩ : ∃ b, rb + 1 = b := ⟨_, rfl⟩
  have g1 := (h.allocRaw #[.int .i64 0, .int .i64 0, .bool false, .slice none 0 0, .int .i64 0] 92).allocRaw #[.int .i64 0, .int .i64 0, .bool false, .slice none 0 0, .int .i64 0] 92
  simp only [World.size_alloc, hrb, heb] at g1
  have H := Lib.hid g1.p2
  have H1 := Lib.hid h1
  have H2 := Lib.hid h2
  have H3 := Lib.hid h3
  have H4 := Lib.hid h4
  have H5 := Lib.hid h5
  clear h g1 h1 h2 h3 h4 h5
  go_enter Try.func105, Try.ntmps105
  go_wp2_with (first
    | (go_at_call 72; (with_reducible refine (s_intV b i i1 p 8 H1.out H.out).mono ?_); rintro e_ wn ⟨rfl, h⟩; have f0 := h.p1.rawFree 0; have g0 := h.p1.rawCell 0; simp at g0; have h := (show St W0 (wn.setCell ⟨eb, 0, none⟩ (.int .i64 p)) K (.inp b i1 :: .raw eb #[.int .i64 p, .int .i64 0, .bool false, .slice none 0 0, .int .i64 0] 92 :: .raw rb #[.int .i64 0, .int .i64 0, .bool false, .slice none 0 0, .int .i64 0] 92 :: L) from (h.p1.rawSet 0 (.int .i64 p)).p1); replace H := Lib.hid h; clear h)
    | (go_at_call 72; (with_reducible refine (s_intV b i1 i2 e 2 H2.out H.out).mono ?_); rintro e_ wn ⟨rfl, h⟩; have f1 := h.p1.rawFree 1; have g1 := h.p1.rawCell 1; simp at g1; have h := (show St W0 (wn.setCell ⟨eb, 1, none⟩ (.int .i64 e)) K (.inp b i2 :: .raw eb #[.int .i64 p, .int .i64 e, .bool false, .slice none 0 0, .int .i64 0] 92 :: .raw rb #[.int .i64 0, .int .i64 0, .bool false, .slice none 0 0, .int .i64 0] 92 :: L) from (h.p1.rawSet 1 (.int .i64 e)).p1); replace H := Lib.hid h; clear h)
    | (go_at_call 48; (with_reducible refine (s_bool b i2 i3 c H3.out H.out).mono ?_); rintro e_ wn ⟨rfl, h⟩; have f2 := h.p1.rawFree 2; have g2 := h.p1.rawCell 2; simp at g2; have h := (show St W0 (wn.setCell ⟨eb, 2, none⟩ (.bool c)) K (.inp b i3 :: .raw eb #[.int .i64 p, .int .i64 e, .bool c, .slice none 0 0, .int .i64 0] 92 :: .raw rb #[.int .i64 0, .int .i64 0, .bool false, .slice none 0 0, .int .i64 0] 92 :: L) from (h.p1.rawSet 2 (.bool c)).p1); replace H := Lib.hid h; clear h)
    | (go_at_call 25; (with_reducible refine (val_topics b i3 i4 tl H4.out H.out).mono ?_); rintro e_ wn ⟨v_, lr, rfl, hlr, h⟩; obtain ⟨q, cap, rfl⟩ := tops_form (Know.has_right (Know.has_refl _)) h; have HLR := Lib.hid hlr; clear hlr; have f3 := h.p1.rawFree 3; have g3 := h.p1.rawCell 3; simp at g3; have h := (show St W0 (wn.setCell ⟨eb, 3, none⟩ (.slice q lr.length cap)) (K.and (Know.tops (.slice q lr.length cap) lr)) (.inp b i4 :: .raw eb #[.int .i64 p, .int .i64 e, .bool c, .slice q lr.length cap, .int .i64 0] 92 :: .raw rb #[.int .i64 0, .int .i64 0, .bool false, .slice none 0 0, .int .i64 0] 92 :: L) from (h.p1.rawSet 3 (.slice q lr.length cap)).p1); replace H := Lib.hid h; clear h)
    | (go_at_call 72; (with_reducible refine (s_intV b i4 i5 co 4 H5.out H.out).mono ?_); rintro e_ wn ⟨rfl, h⟩; have f4 := h.p1.rawFree 4; have g4 := h.p1.rawCell 4; simp at g4; have h := (show St W0 (wn.setCell ⟨eb, 4, none⟩ (.int .i64 co)) (K.and (Know.tops (.slice q lr.length cap) lr)) (.inp b i5 :: .raw eb #[.int .i64 p, .int .i64 e, .bool c, .slice q lr.length cap, .int .i64 co] 92 :: .raw rb #[.int .i64 0, .int .i64 0, .bool false, .slice none 0 0, .int .i64 0] 92 :: L) from (h.p1.rawSet 4 (.int .i64 co)).p1); have c0 := h.p1.rawCell 0; have d0 := h.p2.rawCell 0; have r0 := h.p2.rawFree 0; have c1 := h.p1.rawCell 1; have d1 := h.p2.rawCell 1; have r1 := h.p2.rawFree 1; have c2 := h.p1.rawCell 2; have d2 := h.p2.rawCell 2; have r2 := h.p2.rawFree 2; have c3 := h.p1.rawCell 3; have d3 := h.p2.rawCell 3; have r3 := h.p2.rawFree 3; have c4 := h.p1.rawCell 4; have d4 := h.p2.rawCell 4; have r4 := h.p2.rawFree 4; simp at c0 d0 c1 d1 c2 d2 c3 d3 c4 d4; replace H := Lib.hid h; clear h))
  have hz : St W0 _ _ (.raw rb #[.int .i64 p, .int .i64 e, .bool c, .slice q lr.length cap, .int .i64 co] 92 :: .inp b i5 :: .raw eb #[.int .i64 p, .int .i64 e, .bool c, .slice q lr.length cap, .int .i64 co] 92 :: L) := (((((H.out.p2.rawSet 0 _).rawSet 1 _).rawSet 2 _).rawSet 3 _).rawSet 4 _)
  refine bodyPost_ret (rc_cell_only rfl _ _ rb [.int .i64 p, .int .i64 e, .bool c, .slice q lr.length cap, .int .i64 co] _ rfl (rc_range hz) Try.underlying92 rfl (by kernel_rfl)) rfl ?_
  exact ⟨q, cap, lr, rfl, HLR.out, hz.drop.p1.drop⟩

set_option maxHeartbeats 6000000 in
set_option maxRecDepth 100000 in
theorem mark_read0 (b : Nat) (v : Int) (hv : v ≠ 1) (i i1 i2 i3 i4 : InS) (p e : Int) (c : Bool) (tl : List TopS) (h1 : i.int 8 = (p, i1)) (h2 : i1.int 2 = (e, i2)) (h3 : i2.boolP = (c, i3)) (h4 : i3.tops = (tl, i4)) {W0 w : World} {K : Know} {L : List Res} (h : St W0 w K (.inp b i :: L)) :
    Calls Try.prog 105 #[inPtr b, .int .i64 v] w fun en w' => ∃ (q : Option Addr) (cap : Nat) (lr : List (TopS × Value)), en = .returned (.agg #[.int .i64 p, .int .i64 e, .bool c, .slice q lr.length cap, .int .i64 0]) ∧ lr.map (·.1) = tl ∧ St W0 w' (K.and (Know.tops (.slice q lr.length cap) lr)) (.inp b i4 :: L) := by
  obtain ⟨rb, hrb⟩ : ∃ b, w.heap.size = b := ⟨_, rfl⟩
  obtain ⟨eb, heb⟩ : ∃ b, rb + 1 = b := ⟨_, rfl⟩
  have g1 := (h.allocRaw #[.int .i64 0, .int .i64 0, .bool false, .slice none 0 0, .int .i64 0] 92).allocRaw #[.int .i64 0, .int .i64 0, .bool false, .slice none 0 0, .int .i64 0] 92
  simp only [World.size_alloc, hrb, heb] at g1
  have H := Lib.hid g1.p2
  have H1 := Lib.hid h1
  have H2 := Lib.hid h2
  have H3 := Lib.hid h3
  have H4 := Lib.hid h4
  have gv : (v == 1) = false := by rw [beq_eq_false_iff_ne]; exact hv
  clear h g1 h1 h2 h3 h4 hv
  go_enter Try.func105, Try.ntmps105
  go_wp2_with (first
    | (go_at_call 72; (with_reducible refine (s_intV b i i1 p 8 H1.out H.out).mono ?_); rintro e_ wn ⟨rfl, h⟩; have f0 := h.p1.rawFree 0; have g0 := h.p1.rawCell 0; simp at g0; have h := (show St W0 (wn.setCell ⟨eb, 0, none⟩ (.int .i64 p)) K (.inp b i1 :: .raw eb #[.int .i64 p, .int .i64 0, .bool false, .slice none 0 0, .int .i64 0] 92 :: .raw rb #[.int .i64 0, .int .i64 0, .bool false, .slice none 0 0, .int .i64 0] 92 :: L) from (h.p1.rawSet 0 (.int .i64 p)).p1); replace H := Lib.hid h; clear h)
    | (go_at_call 72; (with_reducible refine (s_intV b i1 i2 e 2 H2.out H.out).mono ?_); rintro e_ wn ⟨rfl, h⟩; have f1 := h.p1.rawFree 1; have g1 := h.p1.rawCell 1; simp at g1; have h := (show St W0 (wn.setCell ⟨eb, 1, none⟩ (.int .i64 e)) K (.inp b i2 :: .raw eb #[.int .i64 p, .int .i64 e, .bool false, .slice none 0 0, .int .i64 0] 92 :: .raw rb #[.int .i64 0, .int .i64 0, .bool false, .slice none 0 0, .int .i64 0] 92 :: L) from (h.p1.rawSet 1 (.int .i64 e)).p1); replace H := Lib.hid h; clear h)
    | (go_at_call 48; (with_reducible refine (s_bool b i2 i3 c H3.out H.out).mono ?_); rintro e_ wn ⟨rfl, h⟩; have f2 := h.p1.rawFree 2; have g2 := h.p1.rawCell 2; simp at g2; have h := (show St W0 (wn.setCell ⟨eb, 2, none⟩ (.bool c)) K (.inp b i3 :: .raw eb #[.int .i64 p, .int .i64 e, .bool c, .slice none 0 0, .int .i64 0] 92 :: .raw rb #[.int .i64 0, .int .i64 0, .bool false, .slice none 0 0, .int .i64 0] 92 :: L) from (h.p1.rawSet 2 (.bool c)).p1); replace H := Lib.hid h; clear h)
    | (go_at_call 25; (with_reducible refine (val_topics b i3 i4 tl H4.out H.out).mono ?_); rintro e_ wn ⟨v_, lr, rfl, hlr, h⟩; obtain ⟨q, cap, rfl⟩ := tops_form (Know.has_right (Know.has_refl _)) h; have HLR := Lib.hid hlr; clear hlr; have f3 := h.p1.rawFree 3; have g3 := h.p1.rawCell 3; simp at g3; have h := (show St W0 (wn.setCell ⟨eb, 3, none⟩ (.slice q lr.length cap)) (K.and (Know.tops (.slice q lr.length cap) lr)) (.inp b i4 :: .raw eb #[.int .i64 p, .int .i64 e, .bool c, .slice q lr.length cap, .int .i64 0] 92 :: .raw rb #[.int .i64 0, .int .i64 0, .bool false, .slice none 0 0, .int .i64 0] 92 :: L) from (h.p1.rawSet 3 (.slice q lr.length cap)).p1); have c0 := h.p1.rawCell 0; have d0 := h.p2.rawCell 0; have r0 := h.p2.rawFree 0; have c1 := h.p1.rawCell 1; have d1 := h.p2.rawCell 1; have r1 := h.p2.rawFree 1; have c2 := h.p1.rawCell 2; have d2 := h.p2.rawCell 2; have r2 := h.p2.rawFree 2; have c3 := h.p1.rawCell 3; have d3 := h.p2.rawCell 3; have r3 := h.p2.rawFree 3; have c4 := h.p1.rawCell 4; have d4 := h.p2.rawCell 4; have r4 := h.p2.rawFree 4; simp at c0 d0 c1 d1 c2 d2 c3 d3 c4 d4; replace H := Lib.hid h; clear h))
  have hz : St W0 _ _ (.raw rb #[.int .i64 p, .int .i64 e, .bool c, .slice q lr.length cap, .int .i64 0] 92 :: .inp b i4 :: .raw eb #[.int .i64 p, .int .i64 e, .bool c, .slice q lr.length cap, .int .i64 0] 92 :: L) := (((((H.out.p2.rawSet 0 _).rawSet 1 _).rawSet 2 _).rawSet 3 _).rawSet 4 _)
  refine bodyPost_ret (rc_cell_only rfl _ _ rb [.int .i64 p, .int .i64 e, .bool c, .slice q lr.length cap, .int .i64 0] _ rfl (rc_range hz) Try.underlying92 rfl (by kernel_rfl)) rfl ?_
  exact ⟨q, cap, lr, rfl, HLR.out, hz.drop.p1.drop⟩

end Go.Proofs.Ytombolmicfjjpaa

/- A request of marks, read. -/
namespace Go.Proofs.Ytombolmicfjjpaa
open Go.RowKit

theorem mark_readV (b : Nat) (v : Int) (i j : InS) (m : MarkS) (hx : i.mark1 v = (m, j)) {W0 w : World} {K : Know} {L : List Res} (h : St W0 w K (.inp b i :: L)) :
    Calls Try.prog 105 #[inPtr b, .int .i64 v] w fun en w' => ∃ (q : Option Addr) (cap : Nat) (lr : List (TopS × Value)), en = .returned (.agg #[.int .i64 m.prod, .int .i64 m.epoch, .bool m.commit, .slice q lr.length cap, .int .i64 m.coord]) ∧ lr.map (·.1) = m.tops ∧ St W0 w' (K.and (Know.tops (.slice q lr.length cap) lr)) (.inp b j :: L) := by
  obtain ⟨⟨p, i1⟩, h1⟩ : ∃ r, i.int 8 = r := ⟨_, rfl⟩
  obtain ⟨⟨e, i2⟩, h2⟩ : ∃ r, i1.int 2 = r := ⟨_, rfl⟩
  obtain ⟨⟨c, i3⟩, h3⟩ : ∃ r, i2.boolP = r := ⟨_, rfl⟩
  obtain ⟨⟨tl, i4⟩, h4⟩ : ∃ r, i3.tops = r := ⟨_, rfl⟩
  unfold InS.mark1 at hx
  rw [h1] at hx
  simp only at hx
  rw [h2] at hx
  simp only at hx
  rw [h3] at hx
  simp only at hx
  rw [h4] at hx
  simp only at hx
  by_cases hv : v = 1
  · subst hv
    rw [if_pos rfl] at hx
    obtain ⟨⟨co, i5⟩, h5⟩ : ∃ r, i4.int 4 = r := ⟨_, rfl⟩
    rw [h5] at hx
    simp only [Prod.mk.injEq] at hx
    obtain ⟨rfl, rfl⟩ := hx
    exact mark_read1 b i i1 i2 i3 i4 i5 p e c tl co h1 h2 h3 h4 h5 h
  · rw [if_neg hv] at hx
    simp only [Prod.mk.injEq] at hx
    obtain ⟨rfl, rfl⟩ := hx
    exact mark_read0 b v hv i i1 i2 i3 i4 p e c tl h1 h2 h3 h4 h

set_option maxHeartbeats 8000000 in
set_option maxRecDepth 100000 in
theorem mark_readAll (b : Nat) (v : Int) (i j : InS) (l : List MarkS) (hx : i.marks v = (l, j)) (hl : ∀ m ∈ (InS.marksN v (i.cnt 15).1 [] (i.cnt 15).2).1, m.R ∧ FewL m.tops) (hln : (InS.marksN v (i.cnt 15).1 [] (i.cnt 15).2).1.length ≤ 1000000) {W0 w : World} {K : Know} {L : List Res} (h : St W0 w K (.inp b i :: L)) :
    Calls Try.prog 60 #[inPtr b, .int .i64 v] w fun en w' => ∃ (q : Option Addr) (cap : Nat) (lr : List MarkR), en = .returned (.slice q lr.length cap) ∧ lr.map MarkR.m = l ∧ (∀ x ∈ lr, x.Fit) ∧ St W0 w' (K.and (Know.marks (.slice q lr.length cap) lr)) (.inp b j :: L) := by
  obtain ⟨⟨n, c⟩, hc⟩ : ∃ r, i.cnt 15 = r := ⟨_, rfl⟩
  have hnl := (cnt_nat i 15).2
  rw [hc] at hnl hl hln
  obtain ⟨⟨lf, jf⟩, hN⟩ : ∃ r, InS.marksN v n [] c = r := ⟨_, rfl⟩
  have hx2 : (if jf.err = 0 then (if marksErr v lf = 0 then (lf, jf) else ([], jf.fail (marksErr v lf))) else ([], jf)) = (l, j) := by
    rw [← hx]
    unfold InS.marks
    rw [hc]
    simp only
    rw [hN]
  simp only at hl hln
  rw [hN] at hl hln
  have HC := Lib.hid hc
  have HN := Lib.hid hN
  have HX := Lib.hid hx2
  have HLL := Lib.hid hl
  have HLN := Lib.hid hln
  have HNL := Lib.hid hnl
  have H := Lib.hid h
  have hni : (n : Int) ≤ 2147483647 := by simp only at hnl; omega
  clear h hx hc hx2 hnl hN hl hln
  go_enter Try.func60, Try.ntmps60
  go_wp2_with (go_at_call 77; (with_reducible refine (s_cntV b i c 15 n 15 rfl HC.out H.out).mono ?_); rintro e_ wn ⟨rfl, h⟩; replace H := Lib.hid h; clear h)
  go_loopw [5, 9] (fun lv iv wr => ∃ (k : Nat) (i2 : InS) (acc : List MarkR) (K2 : Know), k ≤ n ∧ iv = .int .i64 k ∧ Hid (acc.length = k) ∧ Hid (InS.marksN v (n - k) (acc.map MarkR.m) i2 = (lf, jf)) ∧ Hid (K2.has K) ∧ Hid (∀ x ∈ acc, K2.has (Know.tops (.slice x.q x.l.length x.cap) x.l)) ∧ Hid (∀ x ∈ acc, x.l.map (·.1) = x.m.tops) ∧ St W0 wr K2 (.row lv 92 5 acc.length (acc.flatMap mcells) :: .inp b i2 :: L)) (fun _ iv _ => n - (intOf iv).toNat)
  case atStart => exact ⟨0, c, [], K, Nat.zero_le _, rfl, Lib.hid rfl, Lib.hid HN.out, Lib.hid (Know.has_refl _), Lib.hid (fun x hx => by cases hx), Lib.hid (fun x hx => by cases hx), H.out.nilRow 92 5⟩
  case round =>
    obtain ⟨k, i2, acc, K2, hk, rfl, HAL, HP, HKK, HALL, HTL, hst⟩ := hrel
    clear H
    have H := Lib.hid hst
    clear hst
    by_cases hlt : k < n
    · obtain ⟨⟨⟨p, e, c, tl, co⟩, i3⟩, hi3⟩ : ∃ r, i2.mark1 v = r := ⟨_, rfl⟩
      obtain ⟨er, her⟩ : ∃ er, i3.err = er := ⟨_, rfl⟩
      have HM := Lib.hid hi3
      have HER := Lib.hid her
      have hstep : (if er = 0 then InS.marksN v (n - (k + 1)) (acc.map MarkR.m ++ [⟨p, e, c, tl, co⟩]) i3 else ([], i3)) = (lf, jf) := by
        have h1 := HP.out
        rw [show n - k = (n - (k + 1)) + 1 by omega] at h1
        have h2 : (if (i2.mark1 v).2.err = 0 then InS.marksN v (n - (k + 1)) (acc.map MarkR.m ++ [(i2.mark1 v).1]) (i2.mark1 v).2 else ([], (i2.mark1 v).2)) = (lf, jf) := h1
        rw [hi3] at h2
        simp only at h2
        rw [her] at h2
        exact h2
      have HAB := Lib.hid (show acc.length ≤ 2147483647 by have := HAL.out; have := HNL.out; omega)
      have hkn : (k : Int) < (n : Int) := by omega
      clear hi3 her
      by_cases he0 : er = 0
      · rw [if_pos he0] at hstep
        have HP2 := Lib.hid hstep
        subst he0
        clear hstep
        go_wp2_with (first
    | (go_at_call 105; (with_reducible refine (mark_readV b v i2 i3 ⟨p, e, c, tl, co⟩ HM.out H.out.p1).mono ?_); rintro e_ wn ⟨xq, xcap, xl, rfl, hxl, h⟩; have HXL := Lib.hid hxl; clear hxl; have h := h.p1; replace H := Lib.hid h; clear h)
    | (at_builtin; refine wpl_app1_st rfl _ _ 84 rfl 92 Try.underlying84 elem_mk _ _ _ rfl H.out [.int .i64 p, .int .i64 e, .bool c, .slice xq xl.length xcap, .int .i64 co] 92 rfl rfl (by simp [Value.oneCell']) (by have := HAB.out; unfold maxLen; omega) (by have := HAB.out; omega) ?_; intro v' w' h; have h := h.p1; replace H := Lib.hid h; clear h)
    | (go_at_call 27; (with_reducible refine (s_errV b _ _ HER.out H.out).mono ?_); rintro e_ wn ⟨rfl, h⟩; have h := h.p1; replace H := Lib.hid h; clear h))
        go_roundw
        case rel => exact ⟨k + 1, i3, acc ++ [⟨⟨p, e, c, tl, co⟩, xl, xq, xcap⟩], K2.and (Know.tops (.slice xq xl.length xcap) xl), hlt, by go_num, Lib.hid (by rw [List.length_append, HAL.out]; rfl), Lib.hid (by rw [List.map_append]; exact HP2.out), Lib.hid (Know.has_trans (Know.has_left (Know.has_refl _)) HKK.out), Lib.hid (fun x hx => by
          rcases List.mem_append.1 hx with hx | hx
          · exact Know.has_left (HALL.out x hx)
          · rw [List.mem_singleton.1 hx]; exact Know.has_right (Know.has_refl _)), Lib.hid (fun x hx => by
          rcases List.mem_append.1 hx with hx | hx
          · exact HTL.out x hx
          · rw [List.mem_singleton.1 hx]; exact HXL.out), by rw [List.length_append, List.flatMap_append]; exact H.out⟩
        case measure => first | (simp [intOf]; done) | (simp [intOf]; omega)
      · rw [if_neg he0] at hstep
        simp only [Prod.mk.injEq] at hstep
        obtain ⟨hlf, hjf⟩ := hstep
        have hx := HX.out
        rw [← hjf, HER.out, if_neg he0] at hx
        simp only [Prod.mk.injEq] at hx
        obtain ⟨hl0, hj0⟩ := hx
        have gz : (er == 0) = false := by rw [beq_eq_false_iff_ne]; exact he0
        have gz3 : (er != 0) = true := by simp [bne, gz]
        have HL0 := Lib.hid hl0
        have HJ0 := Lib.hid hj0
        clear he0 hlf hjf hl0 hj0
        go_wp2_with (first
    | (go_at_call 105; (with_reducible refine (mark_readV b v i2 i3 ⟨p, e, c, tl, co⟩ HM.out H.out.p1).mono ?_); rintro e_ wn ⟨xq, xcap, xl, rfl, hxl, h⟩; have HXL := Lib.hid hxl; clear hxl; have h := h.p1; replace H := Lib.hid h; clear h)
    | (at_builtin; refine wpl_app1_st rfl _ _ 84 rfl 92 Try.underlying84 elem_mk _ _ _ rfl H.out [.int .i64 p, .int .i64 e, .bool c, .slice xq xl.length xcap, .int .i64 co] 92 rfl rfl (by simp [Value.oneCell']) (by have := HAB.out; unfold maxLen; omega) (by have := HAB.out; omega) ?_; intro v' w' h; have h := h.p1; replace H := Lib.hid h; clear h)
    | (go_at_call 27; (with_reducible refine (s_errV b _ _ HER.out H.out).mono ?_); rintro e_ wn ⟨rfl, h⟩; replace H := Lib.hid h; clear h))
        go_ret
        exact ⟨none, 0, [], rfl, HL0.out, (fun x hx => by cases hx), by rw [← HJ0.out]; exact (H.out.p1.drop).know (Know.has_and (Know.has_trans (Know.has_left (Know.has_refl _)) HKK.out) (marks_nil _))⟩
    · obtain rfl : k = n := by omega
      have hp := HP.out
      rw [Nat.sub_self] at hp
      have hp : (acc.map MarkR.m, i2) = (lf, jf) := hp
      simp only [Prod.mk.injEq] at hp
      obtain ⟨rfl, rfl⟩ := hp
      obtain ⟨er, her⟩ : ∃ er, i2.err = er := ⟨_, rfl⟩
      have HER := Lib.hid her
      have hx := HX.out
      rw [her] at hx
      have HFIT := Lib.hid (show ∀ x ∈ acc, x.Fit from fun x hx => ⟨HTL.out x hx, fewT_of (by rw [HTL.out x hx]; exact (HLL.out x.m (List.mem_map_of_mem hx)).2), (HLL.out x.m (List.mem_map_of_mem hx)).1⟩)
      have HAN := Lib.hid (show acc.length ≤ 1000000 by have := HLN.out; rwa [List.length_map] at this)
      have hf := H.out.freezeMarks HALL.out
      have hf := hf.know (K' := K.and (Know.marks _ acc)) (fun w F hh => ⟨HKK.out _ _ hh.1, hh.2⟩)
      obtain ⟨q, cap, rfl⟩ := marks_form (Know.has_right (Know.has_refl _)) hf
      clear H
      have H := Lib.hid hf
      clear hf
      by_cases he0 : er = 0
      · subst he0
        rw [if_pos rfl] at hx
        obtain ⟨r, hr⟩ : ∃ r, marksErr v (acc.map MarkR.m) = r := ⟨_, rfl⟩
        have HR := Lib.hid hr
        rw [hr] at hx
        by_cases h0 : r = 0
        · subst h0
          rw [if_pos rfl] at hx
          simp only [Prod.mk.injEq] at hx
          obtain ⟨hl0, hj0⟩ := hx
          have HL0 := Lib.hid hl0
          have HJ0 := Lib.hid hj0
          clear hl0 hj0 hr her
          go_wp2_with (first
    | (go_at_call 55; (with_reducible refine (marks_check v acc q cap _ HR.out HFIT.out HAN.out (Know.has_right (Know.has_refl _)) H.out).mono ?_); rintro e_ wn ⟨rfl, h⟩; replace H := Lib.hid h; clear h)
    | (go_at_call 27; (with_reducible refine (s_errV b _ _ HER.out H.out).mono ?_); rintro e_ wn ⟨rfl, h⟩; replace H := Lib.hid h; clear h))
          go_ret
          exact ⟨q, cap, acc, rfl, HL0.out, HFIT.out, by rw [← HJ0.out]; exact H.out⟩
        · rw [if_neg h0] at hx
          simp only [Prod.mk.injEq] at hx
          obtain ⟨hl0, hj0⟩ := hx
          have HL0 := Lib.hid hl0
          have HJ0 := Lib.hid hj0
          have HER2 := Lib.hid (show j.err = r by rw [← hj0]; unfold InS.fail; rw [if_pos her])
          have gz : (r == 0) = false := by rw [beq_eq_false_iff_ne]; exact h0
          have gz3 : (r != 0) = true := by simp [bne, gz]
          clear hl0 hj0 hr her h0
          go_wp2_with (first
    | (go_at_call 55; (with_reducible refine (marks_check v acc q cap _ HR.out HFIT.out HAN.out (Know.has_right (Know.has_refl _)) H.out).mono ?_); rintro e_ wn ⟨rfl, h⟩; replace H := Lib.hid h; clear h)
    | (go_at_call 73; (with_reducible refine (s_failV b _ _ _ HJ0.out H.out).mono ?_); rintro e_ wn ⟨rfl, h⟩; replace H := Lib.hid h; clear h)
    | (go_at_call 27; (with_reducible refine (s_errV b _ _ HER.out H.out).mono ?_); rintro e_ wn ⟨rfl, h⟩; replace H := Lib.hid h; clear h)
    | (go_at_call 27; (with_reducible refine (s_errV b _ _ HER2.out H.out).mono ?_); rintro e_ wn ⟨rfl, h⟩; replace H := Lib.hid h; clear h))
          go_ret
          exact ⟨none, 0, [], rfl, HL0.out, (fun x hx => by cases hx), H.out.know (Know.has_and (Know.has_left (Know.has_refl _)) (marks_nil _))⟩
      · rw [if_neg he0] at hx
        simp only [Prod.mk.injEq] at hx
        obtain ⟨hl0, hj0⟩ := hx
        have gz : (er == 0) = false := by rw [beq_eq_false_iff_ne]; exact he0
        have gz3 : (er != 0) = true := by simp [bne, gz]
        have HL0 := Lib.hid hl0
        have HJ0 := Lib.hid hj0
        clear he0 hl0 hj0 her
        go_wp2_with (first
    | (go_at_call 27; (with_reducible refine (s_errV b _ _ HER.out H.out).mono ?_); rintro e_ wn ⟨rfl, h⟩; replace H := Lib.hid h; clear h))
        go_ret
        exact ⟨none, 0, [], rfl, HL0.out, (fun x hx => by cases hx), by rw [← HJ0.out]; exact H.out.know (Know.has_and (Know.has_left (Know.has_refl _)) (marks_nil _))⟩

end Go.Proofs.Ytombolmicfjjpaa

/- Values, there and back (pure). -/
namespace Go.Proofs.Ytombolmicfjjpaa
open Go.RowKit

theorem sInt_back (n : Int) (k : Nat) (h1 : 1 ≤ k) (hf : fits n k) (R : Bs) : getIntN k (beBytes n k ++ R) = .ok (n, k) := by
  unfold getIntN
  have h4 := beBytes_length n k
  have hfit := hf.2.2
  rw [Int.toNat_natCast] at hfit
  have h5 := (sInt_beBytes_iff n k h1).2 hfit
  rw [if_neg (by rw [List.length_append]; omega), List.take_append_of_le_length (by omega), List.take_of_length_le (by omega), h5]
theorem cntP_back (each n : Nat) (X : Bs) (he : 0 < each) (hn : n < 2147483648) (hl : each * n ≤ X.length) : cntP each (beBytes n 4 ++ X) = .ok (n, 4) := by
  have h4 := beBytes_length (n : Int) 4
  have h5 : sInt (beBytes (n : Int) 4) = n := (sInt_beBytes_iff n 4 (by decide)).2 (vfits4 n (by omega)).2.2
  have h6 : (beBytes (n : Int) 4 ++ X).take 4 = beBytes (n : Int) 4 := by rw [List.take_append_of_le_length (by omega), List.take_of_length_le (by omega)]
  unfold cntP
  rw [h6, h5, if_neg (by rw [List.length_append]; omega), if_neg (by omega), if_neg (by
    rw [List.length_append, h4]
    have e : ((4 + X.length : Nat) : Int) - 4 = (X.length : Int) := by omega
    rw [e]
    have h7 : (n : Int) ≤ (X.length : Int) / (each : Int) := by
      rw [Int.le_ediv_iff_mul_le (by omega)]
      have h8 : (n : Int) * (each : Int) = ((each * n : Nat) : Int) := by rw [Nat.mul_comm]; exact (Int.natCast_mul _ _).symm
      omega
    omega)]
  simp
theorem intsB_back : ∀ (l : List Int) (R : Bs), (∀ n ∈ l, -2147483648 ≤ n ∧ n < 2147483648) → intsB l.length (be4s l ++ R) = l
  | [], R, _ => rfl
  | n :: l, R, h => by
    have h4 := beBytes_length n 4
    have h5 : sInt (beBytes n 4) = n := (sInt_beBytes_iff n 4 (by decide)).2 (vfits4 n (h n (by simp))).2.2
    have e : be4s (n :: l) ++ R = beBytes n 4 ++ (be4s l ++ R) := by
      show (List.flatMap _ (n :: l)) ++ R = _
      rw [List.flatMap_cons, List.append_assoc]
      rfl
    show sInt ((be4s (n :: l) ++ R).take 4) :: intsB l.length ((be4s (n :: l) ++ R).drop 4) = n :: l
    rw [e, List.take_append_of_le_length (by omega), List.take_of_length_le (by omega), h5, List.drop_append_of_le_length (by omega), List.drop_of_length_le (by omega), List.nil_append, intsB_back l R (fun m hm => h m (by simp [hm]))]
theorem partsP_back (l : List Int) (hn : l.length ≤ 1000000) (h : ∀ n ∈ l, -2147483648 ≤ n ∧ n < 2147483648) (R : Bs) : partsP (beBytes l.length 4 ++ be4s l ++ R) = .ok (l, (beBytes l.length 4 ++ be4s l).length) := by
  unfold partsP
  rw [List.append_assoc, cntP_back 4 l.length _ (by decide) (by omega) (by rw [List.length_append, be4s_len]; omega)]
  simp only
  have h4 := beBytes_length (l.length : Int) 4
  rw [List.drop_append_of_le_length (by omega), List.drop_of_length_le (by omega), List.nil_append, intsB_back l R h, List.length_append, h4, be4s_len]
theorem textP_back (d : Bs) (hd : d.length ≤ 32767) (R : Bs) : textP (encF 2 ⟨false, d⟩ ++ R) = .ok (d, (encF 2 ⟨false, d⟩).length) := by
  unfold textP
  rw [refixed_back 2 ⟨false, d⟩ (by simp [BlobS.right]) (vfits2 _ (by simp [BlobS.len]; omega)) R]
  simp
theorem topP_back (t : TopS) (h : t.Fit) (R : Bs) : topP (encT t ++ R) = .ok (t, (encT t).length) := by
  obtain ⟨nm, ps⟩ := t
  obtain ⟨h1, h2, h3⟩ := h
  unfold topP encT
  simp only
  rw [List.append_assoc, textP_back nm h1]
  simp only
  rw [List.drop_append_of_le_length (by omega), List.drop_of_length_le (by omega), List.nil_append, partsP_back ps h2 h3]
  simp only [List.length_append]
theorem topN_back : ∀ (l : List TopS) (R : Bs), (∀ t ∈ l, t.Fit) → topN l.length (l.flatMap encT ++ R) = .ok (l, (l.flatMap encT).length)
  | [], R, _ => rfl
  | t :: l, R, h => by
    have e : (t :: l).flatMap encT ++ R = encT t ++ (l.flatMap encT ++ R) := by rw [List.flatMap_cons, List.append_assoc]
    rw [e]
    show topN (l.length + 1) (encT t ++ (l.flatMap encT ++ R)) = _
    unfold topN
    rw [topP_back t (h t (by simp))]
    simp only
    rw [List.drop_append_of_le_length (by omega), List.drop_of_length_le (by omega), List.nil_append, topN_back l R (fun m hm => h m (by simp [hm]))]
    simp only [List.flatMap_cons, List.length_append]
theorem flat_least (l : List TopS) : 6 * l.length ≤ (l.flatMap encT).length := by
  induction l with
  | nil => simp
  | cons x m ih => rw [List.flatMap_cons, List.length_append, List.length_cons, encT_len]; omega
theorem topsP_back (l : List TopS) (h : FitTs l) (R : Bs) : topsP (encTs l ++ R) = .ok (l, (encTs l).length) := by
  have h4 := beBytes_length (l.length : Int) 4
  have hn := h.1
  have hl := flat_least l
  unfold topsP encTs
  rw [List.append_assoc, cntP_back 6 l.length _ (by decide) (by omega) (by rw [List.length_append]; omega)]
  simp only
  rw [List.drop_append_of_le_length (by omega), List.drop_of_length_le (by omega), List.nil_append, topN_back l R h.2]
  simp only [List.length_append, h4]
theorem step_back {α : Type} {f : InS → α × InS} {p : Bs → Except Int (α × Nat)} {d : α} (h : Rds f p d) (S A X R : Bs) (hS : S = A ++ X ++ R) (a : α) (k : Nat) (hk : X.length = k) (hp : p (X ++ R) = .ok (a, k)) : f ⟨S, A.length, 0⟩ = (a, ⟨S, (A ++ X).length, 0⟩) := by
  subst hS
  have h2 := (h.ok (A ++ X ++ R) A.length a k (by simp) (by rw [List.append_assoc, List.drop_append_of_le_length (by omega), List.drop_of_length_le (by omega), List.nil_append]; exact hp)).2
  rw [h2, List.length_append, hk]
theorem int_stepV (S A R : Bs) (n : Int) (k : Nat) (h1 : 1 ≤ k) (h8 : k ≤ 8) (hf : fits n k) (hS : S = A ++ beBytes n k ++ R) : (⟨S, A.length, 0⟩ : InS).int k = (n, ⟨S, (A ++ beBytes n k).length, 0⟩) :=
  step_back (rds_intN k h1 h8) S A _ R hS n k (beBytes_length n k) (sInt_back n k h1 hf R)
theorem valDec_back (v : ValS) (he : v.err = 0) (hR : v.R) (hf : FitTs v.tops) : valDec v.enc = (v, 0) := by
  obtain ⟨hp, ⟨hs1, hs2⟩, _⟩ := v.ok_parts he
  obtain ⟨q1, ⟨q2, q3⟩, ⟨q4, q5⟩, q6, q7⟩ := ranged_parts v hp
  obtain ⟨r1, r2, r3, r4, r5, r6⟩ := hR
  obtain ⟨S, hS⟩ : ∃ S, v.enc = S := ⟨_, rfl⟩
  obtain ⟨X0, hX0⟩ : ∃ X, beBytes 0 2 = X := ⟨_, rfl⟩
  obtain ⟨X1, hX1⟩ : ∃ X, beBytes v.prod 8 = X := ⟨_, rfl⟩
  obtain ⟨X2, hX2⟩ : ∃ X, beBytes v.epoch 2 = X := ⟨_, rfl⟩
  obtain ⟨X3, hX3⟩ : ∃ X, beBytes v.timeout 4 = X := ⟨_, rfl⟩
  obtain ⟨X4, hX4⟩ : ∃ X, beBytes v.state 1 = X := ⟨_, rfl⟩
  obtain ⟨X5, hX5⟩ : ∃ X, encTs v.tops = X := ⟨_, rfl⟩
  obtain ⟨X6, hX6⟩ : ∃ X, beBytes v.upd 8 = X := ⟨_, rfl⟩
  obtain ⟨X7, hX7⟩ : ∃ X, beBytes v.started 8 = X := ⟨_, rfl⟩
  obtain ⟨A2, hA2⟩ : ∃ A, X0 ++ X1 = A := ⟨_, rfl⟩
  obtain ⟨A3, hA3⟩ : ∃ A, A2 ++ X2 = A := ⟨_, rfl⟩
  obtain ⟨A4, hA4⟩ : ∃ A, A3 ++ X3 = A := ⟨_, rfl⟩
  obtain ⟨A5, hA5⟩ : ∃ A, A4 ++ X4 = A := ⟨_, rfl⟩
  obtain ⟨A6, hA6⟩ : ∃ A, A5 ++ X5 = A := ⟨_, rfl⟩
  obtain ⟨A7, hA7⟩ : ∃ A, A6 ++ X6 = A := ⟨_, rfl⟩
  obtain ⟨A8, hA8⟩ : ∃ A, A7 ++ X7 = A := ⟨_, rfl⟩
  have hSA : S = A8 := by rw [← hS, ← hA8, ← hA7, ← hA6, ← hA5, ← hA4, ← hA3, ← hA2, ← hX0, ← hX1, ← hX2, ← hX3, ← hX4, ← hX5, ← hX6, ← hX7]; rfl
  have e0 : S = ([] : Bs) ++ X0 ++ (X1 ++ (X2 ++ (X3 ++ (X4 ++ (X5 ++ (X6 ++ (X7))))))) := by rw [hSA, ← hA8, ← hA7, ← hA6, ← hA5, ← hA4, ← hA3, ← hA2]; all_goals simp only [List.append_assoc, List.append_nil, List.nil_append]
  have s0 : (⟨S, ([] : Bs).length, 0⟩ : InS).int 2 = (0, ⟨S, (([] : Bs) ++ X0).length, 0⟩) := by
    rw [← hX0] at e0 ⊢
    exact int_stepV S _ _ _ 2 (by decide) (by decide) (vfits2 _ (by omega)) e0
  have e1 : S = X0 ++ X1 ++ (X2 ++ (X3 ++ (X4 ++ (X5 ++ (X6 ++ (X7)))))) := by rw [hSA, ← hA8, ← hA7, ← hA6, ← hA5, ← hA4, ← hA3, ← hA2]; all_goals simp only [List.append_assoc, List.append_nil, List.nil_append]
  have s1 : (⟨S, X0.length, 0⟩ : InS).int 8 = (v.prod, ⟨S, (X0 ++ X1).length, 0⟩) := by
    rw [← hX1] at e1 ⊢
    exact int_stepV S _ _ _ 8 (by decide) (by decide) (vfits8 _ (by omega)) e1
  rw [hA2] at s1
  have e2 : S = A2 ++ X2 ++ (X3 ++ (X4 ++ (X5 ++ (X6 ++ (X7))))) := by rw [hSA, ← hA8, ← hA7, ← hA6, ← hA5, ← hA4, ← hA3, ← hA2]; all_goals simp only [List.append_assoc, List.append_nil, List.nil_append]
  have s2 : (⟨S, A2.length, 0⟩ : InS).int 2 = (v.epoch, ⟨S, (A2 ++ X2).length, 0⟩) := by
    rw [← hX2] at e2 ⊢
    exact int_stepV S _ _ _ 2 (by decide) (by decide) (vfits2 _ (by omega)) e2
  rw [hA3] at s2
  have e3 : S = A3 ++ X3 ++ (X4 ++ (X5 ++ (X6 ++ (X7)))) := by rw [hSA, ← hA8, ← hA7, ← hA6, ← hA5, ← hA4, ← hA3, ← hA2]; all_goals simp only [List.append_assoc, List.append_nil, List.nil_append]
  have s3 : (⟨S, A3.length, 0⟩ : InS).int 4 = (v.timeout, ⟨S, (A3 ++ X3).length, 0⟩) := by
    rw [← hX3] at e3 ⊢
    exact int_stepV S _ _ _ 4 (by decide) (by decide) (vfits4 _ (by omega)) e3
  rw [hA4] at s3
  have e4 : S = A4 ++ X4 ++ (X5 ++ (X6 ++ (X7))) := by rw [hSA, ← hA8, ← hA7, ← hA6, ← hA5, ← hA4, ← hA3, ← hA2]; all_goals simp only [List.append_assoc, List.append_nil, List.nil_append]
  have s4 : (⟨S, A4.length, 0⟩ : InS).int 1 = (v.state, ⟨S, (A4 ++ X4).length, 0⟩) := by
    rw [← hX4] at e4 ⊢
    exact int_stepV S _ _ _ 1 (by decide) (by decide) (vfits1 _ (by omega)) e4
  rw [hA5] at s4
  have e5 : S = A5 ++ X5 ++ (X6 ++ (X7)) := by rw [hSA, ← hA8, ← hA7, ← hA6, ← hA5, ← hA4, ← hA3, ← hA2]; all_goals simp only [List.append_assoc, List.append_nil, List.nil_append]
  have s5 : (⟨S, A5.length, 0⟩ : InS).tops = (v.tops, ⟨S, (A5 ++ X5).length, 0⟩) := by
    rw [← hX5] at e5 ⊢
    exact step_back rds_tops S _ _ _ e5 _ _ rfl (topsP_back _ hf _)
  rw [hA6] at s5
  have e6 : S = A6 ++ X6 ++ (X7) := by rw [hSA, ← hA8, ← hA7, ← hA6, ← hA5, ← hA4, ← hA3, ← hA2]; all_goals simp only [List.append_assoc, List.append_nil, List.nil_append]
  have s6 : (⟨S, A6.length, 0⟩ : InS).int 8 = (v.upd, ⟨S, (A6 ++ X6).length, 0⟩) := by
    rw [← hX6] at e6 ⊢
    exact int_stepV S _ _ _ 8 (by decide) (by decide) (vfits8 _ (by omega)) e6
  rw [hA7] at s6
  have e7 : S = A7 ++ X7 ++ ([]) := by rw [hSA, ← hA8, ← hA7, ← hA6, ← hA5, ← hA4, ← hA3, ← hA2]; all_goals simp only [List.append_assoc, List.append_nil, List.nil_append]
  have s7 : (⟨S, A7.length, 0⟩ : InS).int 8 = (v.started, ⟨S, (A7 ++ X7).length, 0⟩) := by
    rw [← hX7] at e7 ⊢
    exact int_stepV S _ _ _ 8 (by decide) (by decide) (vfits8 _ (by omega)) e7
  rw [hA8] at s7
  rw [List.nil_append] at s0
  have s0 : (⟨S, 0, 0⟩ : InS).int 2 = (0, ⟨S, X0.length, 0⟩) := s0
  have hI : decI S = ⟨S, X0.length, 0⟩ := by unfold decI; rw [s0]; rfl
  have hV := valF_eq s1 s2 s3 s4 s5 s6 s7
  have hL : (⟨S, A8.length, 0⟩ : InS).left = 0 := by
    subst hSA
    exact Nat.sub_self _
  have hC : (⟨S, A8.length, 0⟩ : InS).close = ⟨S, A8.length, 0⟩ := by unfold InS.close; rw [hL]; rfl
  have hE : decE S = 0 := by unfold decE; rw [hI, hV, hC]
  rw [hS]
  unfold valDec
  rw [hE, hI, hV]
  show (if (v.err ≠ 0) then _ else _) = _
  rw [he]
  rfl

end Go.Proofs.Ytombolmicfjjpaa

/- Values, there and back (pure). -/
namespace Go.Proofs.Ytombolmicfjjpaa
open Go.RowKit

theorem flat_topWs (l : List TopS) : (l.flatMap encT).length = topWs l := by
  unfold topWs
  induction l with
  | nil => rfl
  | cons x m ih => rw [List.flatMap_cons, List.length_append, List.map_cons, List.sum_cons, ih, encT_len]; unfold topW; omega
theorem enc_lenV (v : ValS) : v.enc.length = 37 + topWs v.tops := by
  unfold ValS.enc encTs
  simp only [List.length_append, beBytes_length, flat_topWs]
  omega
theorem fewL_map {l : List (TopS × Value)} (h : FewT l) : FewL (l.map (·.1)) := by
  refine ⟨by rw [List.length_map]; exact h.1, fun x hx => ?_⟩
  obtain ⟨y, hy, rfl⟩ := List.mem_map.1 hx
  exact h.2 y hy
theorem fewT_map {l m : List (TopS × Value)} (h : FewT l) (he : m.map (·.1) = l.map (·.1)) : FewT m := fewT_of (by rw [he]; exact fewL_map h)
theorem lenT_of {l : List (TopS × Value)} (h : FewT l) : LenT l := ⟨by have := h.1; omega, fun x hx => by have := (h.2 x hx).2; omega⟩

end Go.Proofs.Ytombolmicfjjpaa
