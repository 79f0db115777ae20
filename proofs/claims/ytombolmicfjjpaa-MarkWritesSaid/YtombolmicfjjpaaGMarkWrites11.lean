/- A whole value stored into a block of one's own. -/
import Derived.Test.YtombolmicfjjpaaGMarkWrites4
import Derived.Test.YtombolmicfjjpaaGMarkWrites10
import Derived.Test.YtombolmicfjjpaaGMarkWrites6
import Derived.Deep.DeepCutAuto
import Derived.Test.YtombolmicfjjpaaSep
import Derived.Deep.MidRow
/- How many marks are looked at. -/
namespace Go.Proofs.Ytombolmicfjjpaa
open Go.RowKit

set_option maxHeartbeats 4000000 in
set_option maxRecDepth 100000 in
theorem law19_few (l : List MarkR) (q : Option Addr) (cap : Nat) (hnl : l.length ≤ 140737488351232) (hb : ∀ x ∈ l, x.l.map (·.1) = x.m.tops ∧ x.l.length ≤ 140737488351232 ∧ ∀ y ∈ x.l, y.1.name.length ≤ 140737488351232 ∧ y.1.parts.length ≤ 17592186043904) (r : Int) (hr : fewMs (l.map MarkR.m) = r) {W0 w : World} {K : Know} {L : List Res} (hk : K.has (Know.marks (.slice q l.length cap) l)) (h : St W0 w K L) :
    Calls Try.prog 51 #[.slice q l.length cap] w fun en w' => en = .returned (.int .i64 r) ∧ St W0 w' K L := by
  have H := Lib.hid h
  have HK := Lib.hid hk
  have HF := Lib.hid hb
  unfold fewMs at hr
  rw [List.length_map] at hr
  clear h hk hb
  by_cases h20 : 20 < l.length
  · rw [if_pos h20] at hr
    subst hr
    have g0 : (20 : Int) < (l.length : Int) := by omega
    clear h20 hnl
    go_enter Try.func51, Try.ntmps51
    go_wp2
    go_ret
    exact ⟨rfl, H.out⟩
  rw [if_neg h20] at hr
  have g0 : ¬ (20 : Int) < (l.length : Int) := by omega
  have hni : (l.length : Int) ≤ 20 := by omega
  have HR := Lib.hid hr
  clear hr h20 hnl
  go_enter Try.func51, Try.ntmps51
  go_wp2
  go_loopw [10] (fun iv wr => ∃ k : Nat, k ≤ l.length ∧ iv = .int .i64 k ∧ Hid (fewG ((l.map MarkR.m).drop k) = r) ∧ St W0 wr K L) (fun iv _ => l.length - (intOf iv).toNat)
  case atStart => exact ⟨0, Nat.zero_le _, rfl, Lib.hid (by rw [List.drop_zero]; exact HR.out), H.out⟩
  case round =>
    obtain ⟨k, hkl, rfl, HM, hst⟩ := hrel
    clear H
    have H := Lib.hid hst
    clear hst
    by_cases hlt : k < l.length
    · as_aux_lemma =>
      obtain ⟨b0, off, hqq⟩ := marks_at HK.out H.out (by omega)
      subst hqq
      obtain ⟨x, hx⟩ : ∃ x, l[k] = x := ⟨_, rfl⟩
      have hmem : x ∈ l := hx ▸ List.getElem_mem hlt
      have hxk := marks_tops HK.out hmem
      have hcell := marks_cell HK.out H.out k hlt x hx
      have hmk : k < (l.map MarkR.m).length := by rw [List.length_map]; exact hlt
      have hmg : (l.map MarkR.m)[k] = x.m := by rw [List.getElem_map, hx]
      obtain ⟨hxl, hxf, hxr⟩ := HF.out x hmem
      obtain ⟨⟨p, e, c, tl, co⟩, xl, xq, xcap⟩ := x
      obtain ⟨c0, c1, c2, c3, c4⟩ : wr.cell? ⟨b0, off + k * 5, none⟩ = some (.int .i64 p) ∧ wr.cell? ⟨b0, off + k * 5 + 1, none⟩ = some (.int .i64 e) ∧ wr.cell? ⟨b0, off + k * 5 + 2, none⟩ = some (.bool c) ∧ wr.cell? ⟨b0, off + k * 5 + 3, none⟩ = some (.slice xq xl.length xcap) ∧ wr.cell? ⟨b0, off + k * 5 + 4, none⟩ = some (.int .i64 co) := hcell
      have HXK := Lib.hid (show K.has (Know.tops (.slice xq xl.length xcap) xl) from hxk)
      have HXL := Lib.hid (show xl.map (·.1) = tl from hxl)
      have HXF := Lib.hid hxf
      have HXR := Lib.hid hxr
      have hkn : (k : Int) < (l.length : Int) := by omega
      obtain ⟨tb, htb⟩ : ∃ b, wr.heap.size = b := ⟨_, rfl⟩
      have h := H.out.allocRaw #[.int .i64 p, .int .i64 e, .bool c, .slice xq xl.length xcap, .int .i64 co] 92
      rw [htb] at h
      obtain ⟨r1, hr1⟩ : ∃ r1, few tl = r1 := ⟨_, rfl⟩
      have HR1 := Lib.hid (show few (xl.map fun y => y.1) = r1 by rw [show (xl.map fun y => y.1) = tl from hxl]; exact hr1)
      have hme : few ((l.map MarkR.m)[k]).tops = r1 := by rw [hmg]; exact hr1
      have d0 := h.rawCell 0
      have d1 := h.rawCell 1
      have d2 := h.rawCell 2
      have d3 := h.rawCell 3
      have d4 := h.rawCell 4
      simp at d0 d1 d2 d3 d4
      clear H
      have H := Lib.hid h
      clear h
      rcases few_cases tl with h1 | h1
      · obtain rfl : r1 = 0 := hr1.symm.trans h1
        have hb := (fewG_bad _ k hmk hme).symm.trans HM.out
        subst hb
        clear hx hmem hxk hmk hmg hxl hxf hxr hr1 hme h1
        go_wp2_with (go_at_call 14; (with_reducible refine (law14_few xl xq xcap HXF.out HXR.out _ HR1.out HXK.out H.out).mono ?_); rintro e_ wn ⟨rfl, h⟩; replace H := Lib.hid h; clear h)
        go_ret
        exact ⟨rfl, H.out.drop⟩
      · obtain rfl : r1 = 1 := hr1.symm.trans h1
        have HN := Lib.hid ((fewG_step _ k hmk hme).symm.trans HM.out)
        clear hx hmem hxk hmk hmg hxl hxf hxr hr1 hme h1
        go_wp2_with (go_at_call 14; (with_reducible refine (law14_few xl xq xcap HXF.out HXR.out _ HR1.out HXK.out H.out).mono ?_); rintro e_ wn ⟨rfl, h⟩; replace H := Lib.hid h; clear h)
        go_roundw
        case rel => exact ⟨k + 1, hlt, by go_num, HN, H.out.drop⟩
        case measure => first | (simp [intOf]; done) | (simp [intOf]; omega)
    · obtain rfl : k = l.length := by omega
      have hz := HM.out
      rw [List.drop_of_length_le (by rw [List.length_map]; exact Nat.le_refl _)] at hz
      obtain rfl : (1 : Int) = r := hz
      go_wp2
      go_ret
      exact ⟨rfl, H.out⟩

end Go.Proofs.Ytombolmicfjjpaa

/- Requests of transactions, written. -/
namespace Go.Proofs.Ytombolmicfjjpaa
open Go.RowKit

set_option maxHeartbeats 4000000 in
set_option maxRecDepth 100000 in
theorem beg_write_ok0 (b : Nat) (o o1 o2 : Bs) (nl : Bool) (d : Bs) (tm p e : Int) (h1 : o ++ encF 2 ⟨nl, d⟩ = o1) (h2 : o1 ++ beBytes tm (4 : Int).toNat = o2) (hk : begE 0 nl d tm p e = 0) (hp : p < 9223372036854775808) (hl : o.length ≤ 1000000) {W0 w : World} {K : Know} {L : List Res} (h : St W0 w K (.out b ⟨o, 0⟩ :: L)) :
    Calls Try.prog 92 #[.agg #[.bool nl, .string (bb d), .int .i64 tm, .int .i64 p, .int .i64 e], outPtr b, .int .i64 0] w fun en w' => en = .returned (.tuple #[]) ∧ St W0 w' K (.out b ⟨o2, 0⟩ :: L) := by
  obtain ⟨bB, hbB⟩ : ∃ b, w.heap.size = b := ⟨_, rfl⟩
  obtain ⟨vB, hvB⟩ : ∃ b, bB + 1 = b := ⟨_, rfl⟩
  have g1 := (h.allocRaw #[.bool nl, .string (bb d), .int .i64 tm, .int .i64 p, .int .i64 e] 141).allocRaw #[.int .i64 0] 3
  simp only [World.size_alloc, hbB, hvB] at g1
  have H := Lib.hid (show St W0 _ K (.out b ⟨o, 0⟩ :: .raw vB #[.int .i64 0] 3 :: .raw bB #[.bool nl, .string (bb d), .int .i64 tm, .int .i64 p, .int .i64 e] 141 :: L) from g1.p2)
  clear g1
  have hok := begE_ok hk
  obtain ⟨hil, hri, hfi⟩ := idOk_len hok.1
  have hrg := was_rng hok.2.2
  have HRI := Lib.hid hri
  have HFI := Lib.hid hfi
  have HIL := Lib.hid hil
  have H1 := Lib.hid h1
  have H2 := Lib.hid h2
  have HK_ := Lib.hid hk
  have HIL2 := Lib.hid (show d.length ≤ 140737488355328 by omega)
  have HFT := Lib.hid (vfits4 tm (by omega))
  have hl1 : o1.length = o.length + (d.length + 2) := by rw [← h1, List.length_append]; unfold encF; rw [List.length_append, beBytes_length]; simp only; omega
  have hl2 : o2.length = o1.length + 4 := by rw [← h2, List.length_append, beBytes_length]; rfl
  have HL := Lib.hid (show o.length ≤ 100000000000000 by omega)
  have HL1 := Lib.hid (show o1.length ≤ 100000000000000 by omega)
  have HL2 := Lib.hid (show o2.length ≤ 100000000 by omega)
  have HT := Lib.hid (show ((0 : Int) == 0) = true by rfl)
  have HO := Lib.hid (show (if (0 : Int) = 0 then (⟨o, 0⟩ : OutS) else (⟨o, 0⟩ : OutS).fail 0) = ⟨o, 0⟩ by rfl)
  clear h h1 h2 hk hp hl hl1 hl2 hok hil hri hfi hrg
  go_enter Try.func92, Try.ntmps92
  go_wp2_with (first
    | (go_at_call 116; (with_reducible refine (may_beg b _ _ bB vB 0 nl d tm p e _ _ HK_.out HIL2.out HT.out HO.out H.out).mono ?_); rintro e_ wn ⟨rfl, h⟩; have d0 := h.p2.rawCell 0; have d1 := h.p2.rawCell 1; have d2 := h.p2.rawCell 2; have d3 := h.p2.rawCell 3; have d4 := h.p2.rawCell 4; have dv := h.p1.rawCell 0; simp at d0 d1 d2 d3 d4 dv; replace H := Lib.hid h; clear h)
    | (go_at_call 113; (with_reducible refine (blob_putFixedT b o o1 nl d H1.out HRI.out HFI.out HIL.out HL.out H.out).mono ?_); rintro e_ wn ⟨rfl, h⟩; have d0 := h.p2.rawCell 0; have d1 := h.p2.rawCell 1; have d2 := h.p2.rawCell 2; have d3 := h.p2.rawCell 3; have d4 := h.p2.rawCell 4; have dv := h.p1.rawCell 0; simp at d0 d1 d2 d3 d4 dv; replace H := Lib.hid h; clear h)
    | (go_at_call 69; (with_reducible refine (so_intV b o1 o2 tm 4 H2.out HFT.out HL1.out H.out).mono ?_); rintro e_ wn ⟨rfl, h⟩; have d0 := h.p2.rawCell 0; have d1 := h.p2.rawCell 1; have d2 := h.p2.rawCell 2; have d3 := h.p2.rawCell 3; have d4 := h.p2.rawCell 4; have dv := h.p1.rawCell 0; simp at d0 d1 d2 d3 d4 dv; replace H := Lib.hid h; clear h))
  go_end0
  exact ⟨rfl, H.out.p2.drop.p1.drop⟩

set_option maxHeartbeats 4000000 in
set_option maxRecDepth 100000 in
theorem beg_write_ok1 (b : Nat) (o o1 o2 o3 o4 : Bs) (nl : Bool) (d : Bs) (tm p e : Int) (h1 : o ++ encF 2 ⟨nl, d⟩ = o1) (h2 : o1 ++ beBytes tm (4 : Int).toNat = o2) (h3 : o2 ++ beBytes p (8 : Int).toNat = o3) (h4 : o3 ++ beBytes e (2 : Int).toNat = o4) (hk : begE 1 nl d tm p e = 0) (hp : p < 9223372036854775808) (hl : o.length ≤ 1000000) {W0 w : World} {K : Know} {L : List Res} (h : St W0 w K (.out b ⟨o, 0⟩ :: L)) :
    Calls Try.prog 92 #[.agg #[.bool nl, .string (bb d), .int .i64 tm, .int .i64 p, .int .i64 e], outPtr b, .int .i64 1] w fun en w' => en = .returned (.tuple #[]) ∧ St W0 w' K (.out b ⟨o4, 0⟩ :: L) := by
  obtain ⟨bB, hbB⟩ : ∃ b, w.heap.size = b := ⟨_, rfl⟩
  obtain ⟨vB, hvB⟩ : ∃ b, bB + 1 = b := ⟨_, rfl⟩
  have g1 := (h.allocRaw #[.bool nl, .string (bb d), .int .i64 tm, .int .i64 p, .int .i64 e] 141).allocRaw #[.int .i64 1] 3
  simp only [World.size_alloc, hbB, hvB] at g1
  have H := Lib.hid (show St W0 _ K (.out b ⟨o, 0⟩ :: .raw vB #[.int .i64 1] 3 :: .raw bB #[.bool nl, .string (bb d), .int .i64 tm, .int .i64 p, .int .i64 e] 141 :: L) from g1.p2)
  clear g1
  have hok := begE_ok hk
  obtain ⟨hil, hri, hfi⟩ := idOk_len hok.1
  have hrg := was_rng hok.2.2
  have HRI := Lib.hid hri
  have HFI := Lib.hid hfi
  have HIL := Lib.hid hil
  have H1 := Lib.hid h1
  have H2 := Lib.hid h2
  have HK_ := Lib.hid hk
  have HIL2 := Lib.hid (show d.length ≤ 140737488355328 by omega)
  have HFT := Lib.hid (vfits4 tm (by omega))
  have hl1 : o1.length = o.length + (d.length + 2) := by rw [← h1, List.length_append]; unfold encF; rw [List.length_append, beBytes_length]; simp only; omega
  have hl2 : o2.length = o1.length + 4 := by rw [← h2, List.length_append, beBytes_length]; rfl
  have HL := Lib.hid (show o.length ≤ 100000000000000 by omega)
  have HL1 := Lib.hid (show o1.length ≤ 100000000000000 by omega)
  have HL2 := Lib.hid (show o2.length ≤ 100000000 by omega)
  have HT := Lib.hid (show ((0 : Int) == 0) = true by rfl)
  have HO := Lib.hid (show (if (0 : Int) = 0 then (⟨o, 0⟩ : OutS) else (⟨o, 0⟩ : OutS).fail 0) = ⟨o, 0⟩ by rfl)
  have H3 := Lib.hid h3
  have H4 := Lib.hid h4
  have HF8 := Lib.hid (vfits8 p (by omega))
  have HF2 := Lib.hid (vfits2 e (by omega))
  clear h h1 h2 hk hp hl hl1 hl2 hok hil hri hfi hrg h3 h4
  go_enter Try.func92, Try.ntmps92
  go_wp2_with (first
    | (go_at_call 116; (with_reducible refine (may_beg b _ _ bB vB 1 nl d tm p e _ _ HK_.out HIL2.out HT.out HO.out H.out).mono ?_); rintro e_ wn ⟨rfl, h⟩; have d0 := h.p2.rawCell 0; have d1 := h.p2.rawCell 1; have d2 := h.p2.rawCell 2; have d3 := h.p2.rawCell 3; have d4 := h.p2.rawCell 4; have dv := h.p1.rawCell 0; simp at d0 d1 d2 d3 d4 dv; replace H := Lib.hid h; clear h)
    | (go_at_call 113; (with_reducible refine (blob_putFixedT b o o1 nl d H1.out HRI.out HFI.out HIL.out HL.out H.out).mono ?_); rintro e_ wn ⟨rfl, h⟩; have d0 := h.p2.rawCell 0; have d1 := h.p2.rawCell 1; have d2 := h.p2.rawCell 2; have d3 := h.p2.rawCell 3; have d4 := h.p2.rawCell 4; have dv := h.p1.rawCell 0; simp at d0 d1 d2 d3 d4 dv; replace H := Lib.hid h; clear h)
    | (go_at_call 69; (with_reducible refine (so_intV b o1 o2 tm 4 H2.out HFT.out HL1.out H.out).mono ?_); rintro e_ wn ⟨rfl, h⟩; have d0 := h.p2.rawCell 0; have d1 := h.p2.rawCell 1; have d2 := h.p2.rawCell 2; have d3 := h.p2.rawCell 3; have d4 := h.p2.rawCell 4; have dv := h.p1.rawCell 0; simp at d0 d1 d2 d3 d4 dv; replace H := Lib.hid h; clear h)
    | (go_at_call 117; (with_reducible refine (txn_putWriter b o2 o3 o4 p e H3.out H4.out HF8.out HF2.out HL2.out H.out).mono ?_); rintro e_ wn ⟨rfl, h⟩; have d0 := h.p2.rawCell 0; have d1 := h.p2.rawCell 1; have d2 := h.p2.rawCell 2; have d3 := h.p2.rawCell 3; have d4 := h.p2.rawCell 4; have dv := h.p1.rawCell 0; simp at d0 d1 d2 d3 d4 dv; replace H := Lib.hid h; clear h))
  go_end0
  exact ⟨rfl, H.out.p2.drop.p1.drop⟩

set_option maxHeartbeats 4000000 in
set_option maxRecDepth 100000 in
theorem beg_write_bad (b : Nat) (o : Bs) (r : Int) (v : Int) (nl : Bool) (d : Bs) (tm p e : Int) (hr : begE v nl d tm p e = r) (h0 : r ≠ 0) (hil : d.length ≤ 140737488355328) {W0 w : World} {K : Know} {L : List Res} (h : St W0 w K (.out b ⟨o, 0⟩ :: L)) :
    Calls Try.prog 92 #[.agg #[.bool nl, .string (bb d), .int .i64 tm, .int .i64 p, .int .i64 e], outPtr b, .int .i64 v] w fun en w' => en = .returned (.tuple #[]) ∧ St W0 w' K (.out b ⟨o, r⟩ :: L) := by
  obtain ⟨bB, hbB⟩ : ∃ b, w.heap.size = b := ⟨_, rfl⟩
  obtain ⟨vB, hvB⟩ : ∃ b, bB + 1 = b := ⟨_, rfl⟩
  have g1 := (h.allocRaw #[.bool nl, .string (bb d), .int .i64 tm, .int .i64 p, .int .i64 e] 141).allocRaw #[.int .i64 v] 3
  simp only [World.size_alloc, hbB, hvB] at g1
  have H := Lib.hid (show St W0 _ K (.out b ⟨o, 0⟩ :: .raw vB #[.int .i64 v] 3 :: .raw bB #[.bool nl, .string (bb d), .int .i64 tm, .int .i64 p, .int .i64 e] 141 :: L) from g1.p2)
  clear g1
  have HK_ := Lib.hid hr
  have HIL2 := Lib.hid hil
  have g0 : (r == 0) = false := by rw [beq_eq_false_iff_ne]; exact h0
  have HT := Lib.hid g0
  have HO := Lib.hid (show (if r = 0 then (⟨o, 0⟩ : OutS) else (⟨o, 0⟩ : OutS).fail r) = ⟨o, r⟩ by rw [if_neg h0]; rfl)
  clear h hr hil h0 g0
  go_enter Try.func92, Try.ntmps92
  go_wp2_with (first
    | (go_at_call 116; (with_reducible refine (may_beg b _ _ bB vB v nl d tm p e _ _ HK_.out HIL2.out HT.out HO.out H.out).mono ?_); rintro e_ wn ⟨rfl, h⟩; have d0 := h.p2.rawCell 0; have d1 := h.p2.rawCell 1; have d2 := h.p2.rawCell 2; have d3 := h.p2.rawCell 3; have d4 := h.p2.rawCell 4; have dv := h.p1.rawCell 0; simp at d0 d1 d2 d3 d4 dv; replace H := Lib.hid h; clear h))
  (try simp only [Exit.inBlock, Exit.then]); refine bodyPost_ret (results_none rfl _ _ _) rfl ?_
  exact ⟨rfl, H.out.p2.drop.p1.drop⟩

set_option maxHeartbeats 4000000 in
set_option maxRecDepth 100000 in
theorem add_write_ok (b : Nat) (o o1 o2 o3 o4 : Bs) (d : Bs) (p e : Int) (l : List (TopS × Value)) (q : Option Addr) (cap : Nat) (h1 : o ++ encF 2 ⟨false, d⟩ = o1) (h2 : o1 ++ beBytes p (8 : Int).toNat = o2) (h3 : o2 ++ beBytes e (2 : Int).toNat = o3) (h4 : o3 ++ encTs (l.map (·.1)) = o4) (hk0 : addE d p e (l.map (·.1)) = 0) (hp : p < 9223372036854775808) (hl : o.length ≤ 100000) (hf : FewT l) (hfit : FitTs (l.map (·.1))) {W0 w : World} {K : Know} {L : List Res} (hk : K.has (Know.tops (.slice q l.length cap) l)) (h : St W0 w K (.out b ⟨o, 0⟩ :: L)) :
    Calls Try.prog 94 #[.agg #[.string (bb d), .int .i64 p, .int .i64 e, .slice q l.length cap], outPtr b] w fun en w' => en = .returned (.tuple #[]) ∧ St W0 w' K (.out b ⟨o4, 0⟩ :: L) := by
  have hok := addE_ok hk0
  have hcw := chkW_ok hok.1
  have hw := who_t hcw.2
  have hil := ((keyRight_iff d).1 hcw.1).2
  have H := Lib.hid (h.allocRaw #[.string (bb d), .int .i64 p, .int .i64 e, .slice q l.length cap] 144)
  have H1 := Lib.hid h1
  have H2 := Lib.hid h2
  have H3 := Lib.hid h3
  have H4 := Lib.hid h4
  have HK0 := Lib.hid hk0
  have HK := Lib.hid hk
  have HF := Lib.hid hf
  have HFIT := Lib.hid hfit
  have HIL := Lib.hid hil
  have HIL2 := Lib.hid (show d.length ≤ 140737488355328 by omega)
  have HF8 := Lib.hid (vfits8 p (by omega))
  have HF2 := Lib.hid (vfits2 e (by omega))
  have hl1 : o1.length = o.length + (d.length + 2) := by rw [← h1, List.length_append]; unfold encF; rw [List.length_append, beBytes_length]; simp only; omega
  have hl2 : o2.length = o1.length + 8 := by rw [← h2, List.length_append, beBytes_length]; rfl
  have hl3 : o3.length = o2.length + 2 := by rw [← h3, List.length_append, beBytes_length]; rfl
  have HL := Lib.hid (show o.length ≤ 100000000000000 by omega)
  have HL1 := Lib.hid (show o1.length ≤ 100000000 by omega)
  have HL3 := Lib.hid (show o3.length ≤ 1000000 by omega)
  have HT := Lib.hid (show ((0 : Int) == 0) = true by rfl)
  have HO := Lib.hid (show (if (0 : Int) = 0 then (⟨o, 0⟩ : OutS) else (⟨o, 0⟩ : OutS).fail 0) = ⟨o, 0⟩ by rfl)
  clear h h1 h2 h3 h4 hk0 hk hf hfit hil hp hl hl1 hl2 hl3 hw hok hcw
  go_enter Try.func94, Try.ntmps94
  go_wp2_with (first
    | (go_at_call 116; (with_reducible refine (may_add b _ _ d p e l q cap _ _ HK0.out HIL2.out HF.out HT.out HO.out HK.out H.out.p1).mono ?_); rintro e_ wn ⟨rfl, h⟩; have d0 := h.p1.rawCell 0; have d1 := h.p1.rawCell 1; have d2 := h.p1.rawCell 2; have d3 := h.p1.rawCell 3; simp at d0 d1 d2 d3; replace H := Lib.hid h; clear h)
    | (go_at_call 86; (with_reducible refine (blob_putTextV b o o1 d H1.out HIL.out HL.out H.out).mono ?_); rintro e_ wn ⟨rfl, h⟩; have d0 := h.p1.rawCell 0; have d1 := h.p1.rawCell 1; have d2 := h.p1.rawCell 2; have d3 := h.p1.rawCell 3; simp at d0 d1 d2 d3; replace H := Lib.hid h; clear h)
    | (go_at_call 117; (with_reducible refine (txn_putWriter b o1 o2 o3 p e H2.out H3.out HF8.out HF2.out HL1.out H.out).mono ?_); rintro e_ wn ⟨rfl, h⟩; have d0 := h.p1.rawCell 0; have d1 := h.p1.rawCell 1; have d2 := h.p1.rawCell 2; have d3 := h.p1.rawCell 3; simp at d0 d1 d2 d3; replace H := Lib.hid h; clear h)
    | (go_at_call 31; (with_reducible refine (val_putTopics b o3 o4 l q cap H4.out HL3.out HFIT.out HK.out H.out).mono ?_); rintro e_ wn ⟨rfl, h⟩; have d0 := h.p1.rawCell 0; have d1 := h.p1.rawCell 1; have d2 := h.p1.rawCell 2; have d3 := h.p1.rawCell 3; simp at d0 d1 d2 d3; replace H := Lib.hid h; clear h))
  go_end0
  exact ⟨rfl, H.out.p1.drop⟩
set_option maxHeartbeats 4000000 in
set_option maxRecDepth 100000 in
theorem add_write_bad (b : Nat) (o : Bs) (r : Int) (d : Bs) (p e : Int) (l : List (TopS × Value)) (q : Option Addr) (cap : Nat) (hr : addE d p e (l.map (·.1)) = r) (h0 : r ≠ 0) (hil : d.length ≤ 140737488355328) (hf : FewT l) {W0 w : World} {K : Know} {L : List Res} (hk : K.has (Know.tops (.slice q l.length cap) l)) (h : St W0 w K (.out b ⟨o, 0⟩ :: L)) :
    Calls Try.prog 94 #[.agg #[.string (bb d), .int .i64 p, .int .i64 e, .slice q l.length cap], outPtr b] w fun en w' => en = .returned (.tuple #[]) ∧ St W0 w' K (.out b ⟨o, r⟩ :: L) := by
  have H := Lib.hid (h.allocRaw #[.string (bb d), .int .i64 p, .int .i64 e, .slice q l.length cap] 144)
  have HR := Lib.hid hr
  have HK := Lib.hid hk
  have HF := Lib.hid hf
  have HIL2 := Lib.hid hil
  have g0 : (r == 0) = false := by rw [beq_eq_false_iff_ne]; exact h0
  have HT := Lib.hid g0
  have HO := Lib.hid (show (if r = 0 then (⟨o, 0⟩ : OutS) else (⟨o, 0⟩ : OutS).fail r) = ⟨o, r⟩ by rw [if_neg h0]; rfl)
  clear h hr hk hf hil h0 g0
  go_enter Try.func94, Try.ntmps94
  go_wp2_with (go_at_call 116; (with_reducible refine (may_add b _ _ d p e l q cap _ _ HR.out HIL2.out HF.out HT.out HO.out HK.out H.out.p1).mono ?_); rintro e_ wn ⟨rfl, h⟩; have d0 := h.p1.rawCell 0; have d1 := h.p1.rawCell 1; have d2 := h.p1.rawCell 2; have d3 := h.p1.rawCell 3; simp at d0 d1 d2 d3; replace H := Lib.hid h; clear h)
  (try simp only [Exit.inBlock, Exit.then]); refine bodyPost_ret (results_none rfl _ _ _) rfl ?_
  exact ⟨rfl, H.out.p1.drop⟩
set_option maxHeartbeats 4000000 in
set_option maxRecDepth 100000 in
theorem end_write_bad (b : Nat) (o : Bs) (r : Int) (id : Bs) (p e : Int) (c : Bool) (hr : chkW id p e = r) (h0 : r ≠ 0) (hil : id.length ≤ 140737488355328) {W0 w : World} {K : Know} {L : List Res} (h : St W0 w K (.out b ⟨o, 0⟩ :: L)) :
    Calls Try.prog 90 #[.agg #[.string (bb id), .int .i64 p, .int .i64 e, .bool c], outPtr b] w fun en w' => en = .returned (.tuple #[]) ∧ St W0 w' K (.out b ⟨o, r⟩ :: L) := by
  have H := Lib.hid (h.allocRaw #[.string (bb id), .int .i64 p, .int .i64 e, .bool c] 136)
  have HR := Lib.hid hr
  have HIL2 := Lib.hid hil
  have g0 : (r == 0) = false := by rw [beq_eq_false_iff_ne]; exact h0
  have HT := Lib.hid g0
  have HO := Lib.hid (show (if r = 0 then (⟨o, 0⟩ : OutS) else (⟨o, 0⟩ : OutS).fail r) = ⟨o, r⟩ by rw [if_neg h0]; rfl)
  clear h hr hil h0 g0
  go_enter Try.func90, Try.ntmps90
  go_wp2_with (go_at_call 116; (with_reducible refine (may_end b _ _ id p e c _ _ HR.out HT.out HO.out HIL2.out H.out.p1).mono ?_); rintro e_ wn ⟨rfl, h⟩; have d0 := h.p1.rawCell 0; have d1 := h.p1.rawCell 1; have d2 := h.p1.rawCell 2; have d3 := h.p1.rawCell 3; simp at d0 d1 d2 d3; replace H := Lib.hid h; clear h)
  (try simp only [Exit.inBlock, Exit.then]); refine bodyPost_ret (results_none rfl _ _ _) rfl ?_
  exact ⟨rfl, H.out.p1.drop⟩

end Go.Proofs.Ytombolmicfjjpaa

/- Requests of transactions, written for the law. -/
namespace Go.Proofs.Ytombolmicfjjpaa
open Go.RowKit

theorem so_textE (p : Nat) (o : Bs) (r : Int) (h0 : r ≠ 0) {W0 w : World} {K : Know} {L : List Res} (h : St W0 w K (.out p ⟨o, r⟩ :: L)) :
    Calls Try.prog 32 #[outPtr p] w fun en w' => en = .returned (.tuple #[.string ⟨#[]⟩, .int .i64 r]) ∧ St W0 w' K (.out p ⟨o, r⟩ :: L) := by
  have h2 := so_text p ⟨o, r⟩ h
  unfold OutS.text at h2
  simp only [if_neg h0] at h2
  exact h2
theorem so_textT (p : Nat) (e : Bs) {W0 w : World} {K : Know} {L : List Res} (h : St W0 w K (.out p ⟨e, 0⟩ :: L)) :
    Calls Try.prog 32 #[outPtr p] w fun en w' => en = .returned (.tuple #[.string (bb e), .int .i64 0]) ∧ St W0 w' K (.out p ⟨e, 0⟩ :: L) := so_text p ⟨e, 0⟩ h

set_option maxHeartbeats 6000000 in
set_option maxRecDepth 100000 in
theorem l18w_220 (nl : Bool) (d : Bs) (tm p e : Int) (l : List (TopS × Value)) (q : Option Addr) (cap : Nat) (c : Bool) (o1 o2 : Bs) (h1 : [] ++ encF 2 ⟨nl, d⟩ = o1) (h2 : o1 ++ beBytes tm (4 : Int).toNat = o2) (hE : begE 0 nl d tm p e = 0) (hp : p < 9223372036854775808) (hil : d.length ≤ 32767) {W0 w : World} {K : Know} {L : List Res} (hk : K.has (Know.tops (.slice q l.length cap) l)) (h : St W0 w K L) :
    Calls Try.prog 39 #[.int .i64 22, .int .i64 0, .agg #[.bool nl, .string (bb d), .int .i64 tm, .int .i64 p, .int .i64 e, .slice q l.length cap, .bool c]] w fun en w' => en = .returned (.tuple #[.string (bb o2), .int .i64 0, .int .i64 0]) ∧ St W0 w' K L := by
  obtain ⟨rb, hrb⟩ : ∃ b, w.heap.size = b := ⟨_, rfl⟩
  obtain ⟨po, hpo⟩ : ∃ b, rb + 1 = b := ⟨_, rfl⟩
  obtain ⟨bq, hbq⟩ : ∃ b, po + 1 = b := ⟨_, rfl⟩
  have g0 := (h.allocRaw #[.bool nl, .string (bb d), .int .i64 tm, .int .i64 p, .int .i64 e, .slice q l.length cap, .bool c] 66).allocOut
  have g1 := g0.allocRaw #[.bool nl, .string (bb d), .int .i64 tm, .int .i64 p, .int .i64 e] 141
  simp only [World.size_alloc, hrb, hpo, hbq] at g0 g1
  have c0 := g0.p1.rawCell 0; have c1 := g0.p1.rawCell 1; have c2 := g0.p1.rawCell 2; have c3 := g0.p1.rawCell 3; have c4 := g0.p1.rawCell 4; have c5 := g0.p1.rawCell 5; have c6 := g0.p1.rawCell 6; simp at c0 c1 c2 c3 c4 c5 c6
  have H := Lib.hid g1
  have HK := Lib.hid hk
  have H1 := Lib.hid h1
  have H2 := Lib.hid h2
  have HE := Lib.hid hE
  have HP := Lib.hid hp
  have HIL := Lib.hid hil
  have HIL2 := Lib.hid (show d.length ≤ 140737488355328 by omega)
  have HZ := Lib.hid (show ([] : Bs).length ≤ 100000 by decide)
  have HZ6 := Lib.hid (show ([] : Bs).length ≤ 1000000 by decide)
  clear h g0 g1 hk h1 h2 hE hp hil
  go_enter Try.func39, Try.ntmps39
  go_wp2_with (first
    | (go_at_call 92; (with_reducible refine (beg_write_ok0 po [] o1 o2 nl d tm p e H1.out H2.out HE.out HP.out HZ6.out H.out.p1).mono ?_); rintro e_ wn ⟨rfl, h⟩; have d0 := h.p1.rawCell 0; have d1 := h.p1.rawCell 1; have d2 := h.p1.rawCell 2; have d3 := h.p1.rawCell 3; have d4 := h.p1.rawCell 4; simp at d0 d1 d2 d3 d4; replace H := Lib.hid h; clear h)
    | (go_at_call 93; (with_reducible refine (beg_check 0 nl d tm p e _ HE.out HIL2.out H.out).mono ?_); rintro e_ wn ⟨rfl, h⟩; replace H := Lib.hid h; clear h)
    | (go_at_call 32; (with_reducible refine (so_textT po o2 H.out).mono ?_); rintro e_ wn ⟨rfl, h⟩; replace H := Lib.hid h; clear h))
  go_ret3
  exact ⟨rfl, H.out.p1.drop.drop.drop⟩

set_option maxHeartbeats 6000000 in
set_option maxRecDepth 100000 in
theorem l18w_221 (nl : Bool) (d : Bs) (tm p e : Int) (l : List (TopS × Value)) (q : Option Addr) (cap : Nat) (c : Bool) (o1 o2 o3 o4 : Bs) (h1 : [] ++ encF 2 ⟨nl, d⟩ = o1) (h2 : o1 ++ beBytes tm (4 : Int).toNat = o2) (h3 : o2 ++ beBytes p (8 : Int).toNat = o3) (h4 : o3 ++ beBytes e (2 : Int).toNat = o4) (hE : begE 1 nl d tm p e = 0) (hp : p < 9223372036854775808) (hil : d.length ≤ 32767) {W0 w : World} {K : Know} {L : List Res} (hk : K.has (Know.tops (.slice q l.length cap) l)) (h : St W0 w K L) :
    Calls Try.prog 39 #[.int .i64 22, .int .i64 1, .agg #[.bool nl, .string (bb d), .int .i64 tm, .int .i64 p, .int .i64 e, .slice q l.length cap, .bool c]] w fun en w' => en = .returned (.tuple #[.string (bb o4), .int .i64 0, .int .i64 0]) ∧ St W0 w' K L := by
  obtain ⟨rb, hrb⟩ : ∃ b, w.heap.size = b := ⟨_, rfl⟩
  obtain ⟨po, hpo⟩ : ∃ b, rb + 1 = b := ⟨_, rfl⟩
  obtain ⟨bq, hbq⟩ : ∃ b, po + 1 = b := ⟨_, rfl⟩
  have g0 := (h.allocRaw #[.bool nl, .string (bb d), .int .i64 tm, .int .i64 p, .int .i64 e, .slice q l.length cap, .bool c] 66).allocOut
  have g1 := g0.allocRaw #[.bool nl, .string (bb d), .int .i64 tm, .int .i64 p, .int .i64 e] 141
  simp only [World.size_alloc, hrb, hpo, hbq] at g0 g1
  have c0 := g0.p1.rawCell 0; have c1 := g0.p1.rawCell 1; have c2 := g0.p1.rawCell 2; have c3 := g0.p1.rawCell 3; have c4 := g0.p1.rawCell 4; have c5 := g0.p1.rawCell 5; have c6 := g0.p1.rawCell 6; simp at c0 c1 c2 c3 c4 c5 c6
  have H := Lib.hid g1
  have HK := Lib.hid hk
  have H1 := Lib.hid h1
  have H2 := Lib.hid h2
  have H3 := Lib.hid h3
  have H4 := Lib.hid h4
  have HE := Lib.hid hE
  have HP := Lib.hid hp
  have HIL := Lib.hid hil
  have HIL2 := Lib.hid (show d.length ≤ 140737488355328 by omega)
  have HZ := Lib.hid (show ([] : Bs).length ≤ 100000 by decide)
  have HZ6 := Lib.hid (show ([] : Bs).length ≤ 1000000 by decide)
  clear h g0 g1 hk h1 h2 h3 h4 hE hp hil
  go_enter Try.func39, Try.ntmps39
  go_wp2_with (first
    | (go_at_call 92; (with_reducible refine (beg_write_ok1 po [] o1 o2 o3 o4 nl d tm p e H1.out H2.out H3.out H4.out HE.out HP.out HZ6.out H.out.p1).mono ?_); rintro e_ wn ⟨rfl, h⟩; have d0 := h.p1.rawCell 0; have d1 := h.p1.rawCell 1; have d2 := h.p1.rawCell 2; have d3 := h.p1.rawCell 3; have d4 := h.p1.rawCell 4; simp at d0 d1 d2 d3 d4; replace H := Lib.hid h; clear h)
    | (go_at_call 93; (with_reducible refine (beg_check 1 nl d tm p e _ HE.out HIL2.out H.out).mono ?_); rintro e_ wn ⟨rfl, h⟩; replace H := Lib.hid h; clear h)
    | (go_at_call 32; (with_reducible refine (so_textT po o4 H.out).mono ?_); rintro e_ wn ⟨rfl, h⟩; replace H := Lib.hid h; clear h))
  go_ret3
  exact ⟨rfl, H.out.p1.drop.drop.drop⟩

set_option maxHeartbeats 6000000 in
set_option maxRecDepth 100000 in
theorem l18w_22b (v : Int) (nl : Bool) (d : Bs) (tm p e : Int) (l : List (TopS × Value)) (q : Option Addr) (cap : Nat) (c : Bool) (r : Int) (hE : begE v nl d tm p e = r) (h0 : r ≠ 0) (hil : d.length ≤ 140737488355328) {W0 w : World} {K : Know} {L : List Res} (hk : K.has (Know.tops (.slice q l.length cap) l)) (h : St W0 w K L) :
    Calls Try.prog 39 #[.int .i64 22, .int .i64 v, .agg #[.bool nl, .string (bb d), .int .i64 tm, .int .i64 p, .int .i64 e, .slice q l.length cap, .bool c]] w fun en w' => en = .returned (.tuple #[.string ⟨#[]⟩, .int .i64 r, .int .i64 r]) ∧ St W0 w' K L := by
  obtain ⟨rb, hrb⟩ : ∃ b, w.heap.size = b := ⟨_, rfl⟩
  obtain ⟨po, hpo⟩ : ∃ b, rb + 1 = b := ⟨_, rfl⟩
  obtain ⟨bq, hbq⟩ : ∃ b, po + 1 = b := ⟨_, rfl⟩
  have g0 := (h.allocRaw #[.bool nl, .string (bb d), .int .i64 tm, .int .i64 p, .int .i64 e, .slice q l.length cap, .bool c] 66).allocOut
  have g1 := g0.allocRaw #[.bool nl, .string (bb d), .int .i64 tm, .int .i64 p, .int .i64 e] 141
  simp only [World.size_alloc, hrb, hpo, hbq] at g0 g1
  have c0 := g0.p1.rawCell 0; have c1 := g0.p1.rawCell 1; have c2 := g0.p1.rawCell 2; have c3 := g0.p1.rawCell 3; have c4 := g0.p1.rawCell 4; have c5 := g0.p1.rawCell 5; have c6 := g0.p1.rawCell 6; simp at c0 c1 c2 c3 c4 c5 c6
  have H := Lib.hid g1
  have HK := Lib.hid hk
  have HE := Lib.hid hE
  have H0 := Lib.hid h0
  have HIL2 := Lib.hid hil
  clear h g0 g1 hk hE h0 hil
  go_enter Try.func39, Try.ntmps39
  go_wp2_with (first
    | (go_at_call 92; (with_reducible refine (beg_write_bad po [] r v nl d tm p e HE.out H0.out HIL2.out H.out.p1).mono ?_); rintro e_ wn ⟨rfl, h⟩; have d0 := h.p1.rawCell 0; have d1 := h.p1.rawCell 1; have d2 := h.p1.rawCell 2; have d3 := h.p1.rawCell 3; have d4 := h.p1.rawCell 4; simp at d0 d1 d2 d3 d4; replace H := Lib.hid h; clear h)
    | (go_at_call 93; (with_reducible refine (beg_check v nl d tm p e _ HE.out HIL2.out H.out).mono ?_); rintro e_ wn ⟨rfl, h⟩; replace H := Lib.hid h; clear h)
    | (go_at_call 32; (with_reducible refine (so_textE po [] r H0.out H.out).mono ?_); rintro e_ wn ⟨rfl, h⟩; replace H := Lib.hid h; clear h))
  go_ret3
  exact ⟨rfl, H.out.p1.drop.drop.drop⟩

set_option maxHeartbeats 6000000 in
set_option maxRecDepth 100000 in
theorem l18w_24 (v : Int) (nl : Bool) (d : Bs) (tm p e : Int) (l : List (TopS × Value)) (q : Option Addr) (cap : Nat) (c : Bool) (o1 o2 o3 o4 : Bs) (h1 : [] ++ encF 2 ⟨false, d⟩ = o1) (h2 : o1 ++ beBytes p (8 : Int).toNat = o2) (h3 : o2 ++ beBytes e (2 : Int).toNat = o3) (h4 : o3 ++ encTs (l.map (·.1)) = o4) (hE : addE d p e (l.map (·.1)) = 0) (hp : p < 9223372036854775808) (hil : d.length ≤ 32767) (hf : FewT l) (hfit : FitTs (l.map (·.1))) {W0 w : World} {K : Know} {L : List Res} (hk : K.has (Know.tops (.slice q l.length cap) l)) (h : St W0 w K L) :
    Calls Try.prog 39 #[.int .i64 24, .int .i64 v, .agg #[.bool nl, .string (bb d), .int .i64 tm, .int .i64 p, .int .i64 e, .slice q l.length cap, .bool c]] w fun en w' => en = .returned (.tuple #[.string (bb o4), .int .i64 0, .int .i64 0]) ∧ St W0 w' K L := by
  obtain ⟨rb, hrb⟩ : ∃ b, w.heap.size = b := ⟨_, rfl⟩
  obtain ⟨po, hpo⟩ : ∃ b, rb + 1 = b := ⟨_, rfl⟩
  obtain ⟨bq, hbq⟩ : ∃ b, po + 1 = b := ⟨_, rfl⟩
  have g0 := (h.allocRaw #[.bool nl, .string (bb d), .int .i64 tm, .int .i64 p, .int .i64 e, .slice q l.length cap, .bool c] 66).allocOut
  have g1 := g0.allocRaw #[.string (bb d), .int .i64 p, .int .i64 e, .slice q l.length cap] 144
  simp only [World.size_alloc, hrb, hpo, hbq] at g0 g1
  have c0 := g0.p1.rawCell 0; have c1 := g0.p1.rawCell 1; have c2 := g0.p1.rawCell 2; have c3 := g0.p1.rawCell 3; have c4 := g0.p1.rawCell 4; have c5 := g0.p1.rawCell 5; have c6 := g0.p1.rawCell 6; simp at c0 c1 c2 c3 c4 c5 c6
  have H := Lib.hid g1
  have HK := Lib.hid hk
  have H1 := Lib.hid h1
  have H2 := Lib.hid h2
  have H3 := Lib.hid h3
  have H4 := Lib.hid h4
  have HE := Lib.hid hE
  have HP := Lib.hid hp
  have HIL := Lib.hid hil
  have HIL2 := Lib.hid (show d.length ≤ 140737488355328 by omega)
  have HZ := Lib.hid (show ([] : Bs).length ≤ 100000 by decide)
  have HZ6 := Lib.hid (show ([] : Bs).length ≤ 1000000 by decide)
  have HF := Lib.hid hf
  have HFIT := Lib.hid hfit
  clear h g0 g1 hk h1 h2 h3 h4 hE hp hil hf hfit
  go_enter Try.func39, Try.ntmps39
  go_wp2_with (first
    | (go_at_call 94; (with_reducible refine (add_write_ok po [] o1 o2 o3 o4 d p e l q cap H1.out H2.out H3.out H4.out HE.out HP.out HZ.out HF.out HFIT.out HK.out H.out.p1).mono ?_); rintro e_ wn ⟨rfl, h⟩; have d0 := h.p1.rawCell 0; have d1 := h.p1.rawCell 1; have d2 := h.p1.rawCell 2; have d3 := h.p1.rawCell 3; simp at d0 d1 d2 d3; replace H := Lib.hid h; clear h)
    | (go_at_call 95; (with_reducible refine (add_check d p e l q cap _ HE.out HIL2.out HF.out HK.out H.out).mono ?_); rintro e_ wn ⟨rfl, h⟩; replace H := Lib.hid h; clear h)
    | (go_at_call 32; (with_reducible refine (so_textT po o4 H.out).mono ?_); rintro e_ wn ⟨rfl, h⟩; replace H := Lib.hid h; clear h))
  go_ret3
  exact ⟨rfl, H.out.p1.drop.drop.drop⟩

set_option maxHeartbeats 6000000 in
set_option maxRecDepth 100000 in
theorem l18w_24b (v : Int) (nl : Bool) (d : Bs) (tm p e : Int) (l : List (TopS × Value)) (q : Option Addr) (cap : Nat) (c : Bool) (r : Int) (hE : addE d p e (l.map (·.1)) = r) (h0 : r ≠ 0) (hil : d.length ≤ 140737488355328) (hf : FewT l) {W0 w : World} {K : Know} {L : List Res} (hk : K.has (Know.tops (.slice q l.length cap) l)) (h : St W0 w K L) :
    Calls Try.prog 39 #[.int .i64 24, .int .i64 v, .agg #[.bool nl, .string (bb d), .int .i64 tm, .int .i64 p, .int .i64 e, .slice q l.length cap, .bool c]] w fun en w' => en = .returned (.tuple #[.string ⟨#[]⟩, .int .i64 r, .int .i64 r]) ∧ St W0 w' K L := by
  obtain ⟨rb, hrb⟩ : ∃ b, w.heap.size = b := ⟨_, rfl⟩
  obtain ⟨po, hpo⟩ : ∃ b, rb + 1 = b := ⟨_, rfl⟩
  obtain ⟨bq, hbq⟩ : ∃ b, po + 1 = b := ⟨_, rfl⟩
  have g0 := (h.allocRaw #[.bool nl, .string (bb d), .int .i64 tm, .int .i64 p, .int .i64 e, .slice q l.length cap, .bool c] 66).allocOut
  have g1 := g0.allocRaw #[.string (bb d), .int .i64 p, .int .i64 e, .slice q l.length cap] 144
  simp only [World.size_alloc, hrb, hpo, hbq] at g0 g1
  have c0 := g0.p1.rawCell 0; have c1 := g0.p1.rawCell 1; have c2 := g0.p1.rawCell 2; have c3 := g0.p1.rawCell 3; have c4 := g0.p1.rawCell 4; have c5 := g0.p1.rawCell 5; have c6 := g0.p1.rawCell 6; simp at c0 c1 c2 c3 c4 c5 c6
  have H := Lib.hid g1
  have HK := Lib.hid hk
  have HE := Lib.hid hE
  have H0 := Lib.hid h0
  have HIL2 := Lib.hid hil
  have HF := Lib.hid hf
  clear h g0 g1 hk hE h0 hil hf
  go_enter Try.func39, Try.ntmps39
  go_wp2_with (first
    | (go_at_call 94; (with_reducible refine (add_write_bad po [] r d p e l q cap HE.out H0.out HIL2.out HF.out HK.out H.out.p1).mono ?_); rintro e_ wn ⟨rfl, h⟩; have d0 := h.p1.rawCell 0; have d1 := h.p1.rawCell 1; have d2 := h.p1.rawCell 2; have d3 := h.p1.rawCell 3; simp at d0 d1 d2 d3; replace H := Lib.hid h; clear h)
    | (go_at_call 95; (with_reducible refine (add_check d p e l q cap _ HE.out HIL2.out HF.out HK.out H.out).mono ?_); rintro e_ wn ⟨rfl, h⟩; replace H := Lib.hid h; clear h)
    | (go_at_call 32; (with_reducible refine (so_textE po [] r H0.out H.out).mono ?_); rintro e_ wn ⟨rfl, h⟩; replace H := Lib.hid h; clear h))
  go_ret3
  exact ⟨rfl, H.out.p1.drop.drop.drop⟩

set_option maxHeartbeats 6000000 in
set_option maxRecDepth 100000 in
theorem l18w_26 (v : Int) (nl : Bool) (d : Bs) (tm p e : Int) (l : List (TopS × Value)) (q : Option Addr) (cap : Nat) (c : Bool) (o1 o2 o3 o4 : Bs) (h1 : [] ++ encF 2 ⟨false, d⟩ = o1) (h2 : o1 ++ beBytes p (8 : Int).toNat = o2) (h3 : o2 ++ beBytes e (2 : Int).toNat = o3) (h4 : o3 ++ encO c = o4) (hE : chkW d p e = 0) (hp : p < 9223372036854775808) (hil : d.length ≤ 32767) {W0 w : World} {K : Know} {L : List Res} (hk : K.has (Know.tops (.slice q l.length cap) l)) (h : St W0 w K L) :
    Calls Try.prog 39 #[.int .i64 26, .int .i64 v, .agg #[.bool nl, .string (bb d), .int .i64 tm, .int .i64 p, .int .i64 e, .slice q l.length cap, .bool c]] w fun en w' => en = .returned (.tuple #[.string (bb o4), .int .i64 0, .int .i64 0]) ∧ St W0 w' K L := by
  obtain ⟨rb, hrb⟩ : ∃ b, w.heap.size = b := ⟨_, rfl⟩
  obtain ⟨po, hpo⟩ : ∃ b, rb + 1 = b := ⟨_, rfl⟩
  obtain ⟨bq, hbq⟩ : ∃ b, po + 1 = b := ⟨_, rfl⟩
  have g0 := (h.allocRaw #[.bool nl, .string (bb d), .int .i64 tm, .int .i64 p, .int .i64 e, .slice q l.length cap, .bool c] 66).allocOut
  have g1 := g0.allocRaw #[.string (bb d), .int .i64 p, .int .i64 e, .bool c] 136
  simp only [World.size_alloc, hrb, hpo, hbq] at g0 g1
  have c0 := g0.p1.rawCell 0; have c1 := g0.p1.rawCell 1; have c2 := g0.p1.rawCell 2; have c3 := g0.p1.rawCell 3; have c4 := g0.p1.rawCell 4; have c5 := g0.p1.rawCell 5; have c6 := g0.p1.rawCell 6; simp at c0 c1 c2 c3 c4 c5 c6
  have H := Lib.hid g1
  have HK := Lib.hid hk
  have H1 := Lib.hid h1
  have H2 := Lib.hid h2
  have H3 := Lib.hid h3
  have H4 := Lib.hid h4
  have HE := Lib.hid hE
  have HP := Lib.hid hp
  have HIL := Lib.hid hil
  have HIL2 := Lib.hid (show d.length ≤ 140737488355328 by omega)
  have HZ := Lib.hid (show ([] : Bs).length ≤ 100000 by decide)
  have HZ6 := Lib.hid (show ([] : Bs).length ≤ 1000000 by decide)
  clear h g0 g1 hk h1 h2 h3 h4 hE hp hil
  go_enter Try.func39, Try.ntmps39
  go_wp2_with (first
    | (go_at_call 90; (with_reducible refine (end_write_ok po [] o1 o2 o3 o4 d p e c H1.out H2.out H3.out H4.out HE.out HIL.out HP.out HZ6.out H.out.p1).mono ?_); rintro e_ wn ⟨rfl, h⟩; have d0 := h.p1.rawCell 0; have d1 := h.p1.rawCell 1; have d2 := h.p1.rawCell 2; have d3 := h.p1.rawCell 3; simp at d0 d1 d2 d3; replace H := Lib.hid h; clear h)
    | (go_at_call 96; (with_reducible refine (end_check d p e c _ HE.out HIL2.out H.out).mono ?_); rintro e_ wn ⟨rfl, h⟩; replace H := Lib.hid h; clear h)
    | (go_at_call 32; (with_reducible refine (so_textT po o4 H.out).mono ?_); rintro e_ wn ⟨rfl, h⟩; replace H := Lib.hid h; clear h))
  go_ret3
  exact ⟨rfl, H.out.p1.drop.drop.drop⟩

set_option maxHeartbeats 6000000 in
set_option maxRecDepth 100000 in
theorem l18w_26b (v : Int) (nl : Bool) (d : Bs) (tm p e : Int) (l : List (TopS × Value)) (q : Option Addr) (cap : Nat) (c : Bool) (r : Int) (hE : chkW d p e = r) (h0 : r ≠ 0) (hil : d.length ≤ 140737488355328) {W0 w : World} {K : Know} {L : List Res} (hk : K.has (Know.tops (.slice q l.length cap) l)) (h : St W0 w K L) :
    Calls Try.prog 39 #[.int .i64 26, .int .i64 v, .agg #[.bool nl, .string (bb d), .int .i64 tm, .int .i64 p, .int .i64 e, .slice q l.length cap, .bool c]] w fun en w' => en = .returned (.tuple #[.string ⟨#[]⟩, .int .i64 r, .int .i64 r]) ∧ St W0 w' K L := by
  obtain ⟨rb, hrb⟩ : ∃ b, w.heap.size = b := ⟨_, rfl⟩
  obtain ⟨po, hpo⟩ : ∃ b, rb + 1 = b := ⟨_, rfl⟩
  obtain ⟨bq, hbq⟩ : ∃ b, po + 1 = b := ⟨_, rfl⟩
  have g0 := (h.allocRaw #[.bool nl, .string (bb d), .int .i64 tm, .int .i64 p, .int .i64 e, .slice q l.length cap, .bool c] 66).allocOut
  have g1 := g0.allocRaw #[.string (bb d), .int .i64 p, .int .i64 e, .bool c] 136
  simp only [World.size_alloc, hrb, hpo, hbq] at g0 g1
  have c0 := g0.p1.rawCell 0; have c1 := g0.p1.rawCell 1; have c2 := g0.p1.rawCell 2; have c3 := g0.p1.rawCell 3; have c4 := g0.p1.rawCell 4; have c5 := g0.p1.rawCell 5; have c6 := g0.p1.rawCell 6; simp at c0 c1 c2 c3 c4 c5 c6
  have H := Lib.hid g1
  have HK := Lib.hid hk
  have HE := Lib.hid hE
  have H0 := Lib.hid h0
  have HIL2 := Lib.hid hil
  clear h g0 g1 hk hE h0 hil
  go_enter Try.func39, Try.ntmps39
  go_wp2_with (first
    | (go_at_call 90; (with_reducible refine (end_write_bad po [] r d p e c HE.out H0.out HIL2.out H.out.p1).mono ?_); rintro e_ wn ⟨rfl, h⟩; have d0 := h.p1.rawCell 0; have d1 := h.p1.rawCell 1; have d2 := h.p1.rawCell 2; have d3 := h.p1.rawCell 3; simp at d0 d1 d2 d3; replace H := Lib.hid h; clear h)
    | (go_at_call 96; (with_reducible refine (end_check d p e c _ HE.out HIL2.out H.out).mono ?_); rintro e_ wn ⟨rfl, h⟩; replace H := Lib.hid h; clear h)
    | (go_at_call 32; (with_reducible refine (so_textE po [] r H0.out H.out).mono ?_); rintro e_ wn ⟨rfl, h⟩; replace H := Lib.hid h; clear h))
  go_ret3
  exact ⟨rfl, H.out.p1.drop.drop.drop⟩

end Go.Proofs.Ytombolmicfjjpaa

/- A whole value stored into a block of one's own. -/
namespace Go.Proofs.Ytombolmicfjjpaa
open Go.RowKit

def setAll : Array Value → Nat → List Value → Array Value
  | c, _, [] => c
  | c, o, v :: r => setAll (c.setIfInBounds o v) (o + 1) r
theorem St.there {W0 w : World} {K : Know} {L : List Res} {b : Nat} {c : Array Value} {T : TypeId} (h : St W0 w K (.raw b c T :: L)) : w.there b 0 c.size := fun j hj => by
  rw [Nat.zero_add]
  exact ⟨by rw [h.rawCell j, Array.getElem?_eq_getElem hj]; rfl, h.rawFree j⟩
theorem St.rawSets {W0 : World} {K : Know} {L : List Res} {b : Nat} {T : TypeId} : ∀ (vs : List Value) (o : Nat) (c : Array Value) (w : World), St W0 w K (.raw b c T :: L) → St W0 (w.setCells b o vs) K (.raw b (setAll c o vs) T :: L)
  | [], _, _, _, h => h
  | v :: r, o, _, _, h => St.rawSets r (o + 1) _ _ (h.rawSet o v)
/-- A whole value stored into a block of one's own, the new world under a name. -/
theorem St.storeEx {W0 w : World} {K : Know} {L : List Res} {b : Nat} {c : Array Value} {T : TypeId} (h : St W0 w K (.raw b c T :: L)) (cs : Array Value) : ∃ wz, w.setCells b 0 cs.toList = wz ∧ St W0 wz K (.raw b (setAll c 0 cs.toList) T :: L) := ⟨_, rfl, h.rawSets _ _ _ _⟩
theorem St.allocEx {W0 w : World} {K : Know} {L : List Res} (h : St W0 w K L) (c : Array Value) (T : TypeId) : ∃ wy b, w.alloc (.cells c T (0, 0)) = wy ∧ w.heap.size = b ∧ St W0 wy K (.raw b c T :: L) := ⟨_, _, rfl, rfl, h.allocRaw c T⟩

end Go.Proofs.Ytombolmicfjjpaa
