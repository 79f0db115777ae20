/- Two texts, read. -/
import Derived.Test.YtenojajfacacoaaDoorSc11P
import Derived.Test.YtenojajfacacoaaDoorSc10
import Derived.Test.YtenojajfacacoaaDoorRegOp
import Derived.RegionTactic
import Derived.WalkMore
import Derived.Deep.RegionHeld3
import Derived.Deep.DeepCutAuto
namespace Go.Proofs.YtenojajfacacoaaDoor
open Go.RowKit

set_option maxHeartbeats 4000000 in
set_option maxRecDepth 100000 in
theorem parse_k1 {W0 w : World} {K : Know} {L : List Res} (hlib : K.has Know.lib) (h : St W0 w K L) :
    Calls Tryd.prog 10 #[.string (bb [98, 97, 116, 99, 104, 32, 48, 32, 45, 49, 32, 48, 32, 48, 32, 48, 32, 45, 49, 32, 45, 49, 32, 45, 49, 32, 45, 10, 99, 117, 116, 32, 53, 10])] w fun en w' => ∃ (v : Value) (K' : Know), en = .returned (.tuple #[.agg #[v, .int .i64 5, .slice none 0 0], .int .i64 0]) ∧ K'.has K ∧ St W0 w' K' (.row v 45 12 1 [.int .i64 0, .int .i64 (-1), .bool false, .bool false, .bool false, .int .i64 0, .int .i64 0, .int .i64 0, .int .i64 (-1), .int .i64 (-1), .int .i64 (-1), .slice none 0 0] :: L) := by
  obtain ⟨sb, hsb⟩ : ∃ b, w.heap.size = b := ⟨_, rfl⟩
  obtain ⟨rd, hrd⟩ : ∃ b, sb + 1 = b := ⟨_, rfl⟩
  have g1 := (h.allocRaw #[.slice none 0 0, .int .i64 0, .slice none 0 0] 25).allocRaw #[.slice none 0 0, .int .i64 (-1), .slice none 0 0] 65
  simp only [World.size_alloc, hsb, hrd] at g1
  have H := Lib.hid g1
  have HLIB := Lib.hid hlib
  clear h g1 hlib
  go_enter Tryd.func10, Tryd.ntmps10
  go_wp2_with fail
  go_loopw [0, 5] (fun tv nv wr => ∃ (K' : Know) (v : Value), Hid (K'.has K) ∧ ((tv = .string (bb [98, 97, 116, 99, 104, 32, 48, 32, 45, 49, 32, 48, 32, 48, 32, 48, 32, 45, 49, 32, 45, 49, 32, 45, 49, 32, 45, 10, 99, 117, 116, 32, 53, 10]) ∧ nv = .int .i64 1 ∧ St W0 wr K' (.raw rd #[v, .int .i64 (-1), .slice none 0 0] 65 :: .row v 45 12 0 [] :: .raw sb #[.slice none 0 0, .int .i64 0, .slice none 0 0] 25 :: L)) ∨ (tv = .string (bb [99, 117, 116, 32, 53, 10]) ∧ nv = .int .i64 2 ∧ St W0 wr K' (.raw rd #[v, .int .i64 (-1), .slice none 0 0] 65 :: .row v 45 12 1 [.int .i64 0, .int .i64 (-1), .bool false, .bool false, .bool false, .int .i64 0, .int .i64 0, .int .i64 0, .int .i64 (-1), .int .i64 (-1), .int .i64 (-1), .slice none 0 0] :: .raw sb #[.slice none 0 0, .int .i64 0, .slice none 0 0] 25 :: L)) ∨ (tv = .string (bb []) ∧ nv = .int .i64 3 ∧ St W0 wr K' (.raw rd #[v, .int .i64 5, .slice none 0 0] 65 :: .row v 45 12 1 [.int .i64 0, .int .i64 (-1), .bool false, .bool false, .bool false, .int .i64 0, .int .i64 0, .int .i64 0, .int .i64 (-1), .int .i64 (-1), .int .i64 (-1), .slice none 0 0] :: .raw sb #[.slice none 0 0, .int .i64 0, .slice none 0 0] 25 :: L)))) (fun _ nv _ => 4 - (intOf nv).toNat)
  case atStart => exact ⟨K, _, Lib.hid (Know.has_refl _), .inl ⟨rfl, rfl, (H.out.nilRow 45 12).p1⟩⟩
  case round =>
    obtain ⟨K', v, HKK, hd⟩ := hrel
    clear H
    have HLIB2 := Lib.hid (Know.has_trans HKK.out HLIB.out)
    rcases hd with ⟨rfl, rfl, hst⟩ | ⟨rfl, rfl, hst⟩ | ⟨rfl, rfl, hst⟩
    · have H := Lib.hid hst
      clear hst
      go_wp2_with (first
    | (go_at_call 25; (with_reducible refine (sl_cutN [98, 97, 116, 99, 104, 32, 48, 32, 45, 49, 32, 48, 32, 48, 32, 48, 32, 45, 49, 32, 45, 49, 32, 45, 49, 32, 45, 10, 99, 117, 116, 32, 53, 10] [98, 97, 116, 99, 104, 32, 48, 32, 45, 49, 32, 48, 32, 48, 32, 48, 32, 45, 49, 32, 45, 49, 32, 45, 49, 32, 45] [99, 117, 116, 32, 53, 10] true kc1 (by decide) HLIB2.out H.out).mono ?_); rintro e_ wn ⟨rfl, h⟩; replace H := Lib.hid h; clear h)
    | (go_at_call 13; (with_reducible refine (sl_splitN [98, 97, 116, 99, 104, 32, 48, 32, 45, 49, 32, 48, 32, 48, 32, 48, 32, 45, 49, 32, 45, 49, 32, 45, 49, 32, 45] [[98, 97, 116, 99, 104], [48], [45, 49], [48], [48], [48], [45, 49], [45, 49], [45, 49], [45]] 10 rfl kwA (by decide) HLIB2.out H.out).mono ?_); rintro e_ wn ⟨wb, rfl, h⟩; have h := h.strs; have HKW := Lib.hid (Know.has_right (a := K') (Know.has_refl (Know.strs wb 0 [[98, 97, 116, 99, 104], [48], [45, 49], [48], [48], [48], [45, 49], [45, 49], [45, 49], [45]]))); have HLIB3 := Lib.hid (Know.has_left (b := Know.strs wb 0 [[98, 97, 116, 99, 104], [48], [45, 49], [48], [48], [48], [45, 49], [45, 49], [45, 49], [45]]) HLIB2.out); have HKW2 := Lib.hid (show (K'.and (Know.strs wb 0 [[98, 97, 116, 99, 104], [48], [45, 49], [48], [48], [48], [45, 49], [45, 49], [45, 49], [45]])).has (Know.strs wb 0 ([98, 97, 116, 99, 104] :: ([[48], [45, 49], [48], [48], [48], [45, 49], [45, 49], [45, 49]] ++ [[45]]))) from HKW.out); replace H := Lib.hid h; clear h)
    | (go_at_call 26; (with_reducible refine (rd_read_batch rd wb _ 0 [] [[48], [45, 49], [48], [48], [48], [45, 49], [45, 49], [45, 49]] [45] 0 (-1) 0 0 0 (-1) (-1) (-1) false false false rfl kn8 (by decide +kernel) (by decide +kernel) (by decide +kernel) (by decide +kernel) (by decide) (by decide) HLIB3.out HKW2.out H.out).mono ?_); rintro e_ wn ⟨v2, rfl, h⟩; replace H := Lib.hid h; clear h))
      go_roundw
      case rel => exact ⟨_, v2, Lib.hid (Know.has_left HKK.out), .inr (.inl ⟨rfl, by go_num, H.out⟩)⟩
      case measure => first | (simp [intOf]; done) | (simp [intOf]; omega)
    · have H := Lib.hid hst
      clear hst
      go_wp2_with (first
    | (go_at_call 25; (with_reducible refine (sl_cutN [99, 117, 116, 32, 53, 10] [99, 117, 116, 32, 53] [] true kc2 (by decide) HLIB2.out H.out).mono ?_); rintro e_ wn ⟨rfl, h⟩; replace H := Lib.hid h; clear h)
    | (go_at_call 13; (with_reducible refine (sl_splitN [99, 117, 116, 32, 53] [[99, 117, 116], [53]] 2 rfl kwB (by decide) HLIB2.out H.out).mono ?_); rintro e_ wn ⟨wb, rfl, h⟩; have h := h.strs; have HKW := Lib.hid (Know.has_right (a := K') (Know.has_refl (Know.strs wb 0 [[99, 117, 116], [53]]))); have HLIB3 := Lib.hid (Know.has_left (b := Know.strs wb 0 [[99, 117, 116], [53]]) HLIB2.out); replace H := Lib.hid h; clear h)
    | (go_at_call 26; (with_reducible refine (rd_read_cut rd wb _ 5 [53] kn5 (by decide) (by decide) HLIB3.out HKW.out H.out).mono ?_); rintro e_ wn ⟨rfl, h⟩; replace H := Lib.hid h; clear h))
      go_roundw
      case rel => exact ⟨_, v, Lib.hid (Know.has_left HKK.out), .inr (.inr ⟨rfl, by go_num, H.out⟩)⟩
      case measure => first | (simp [intOf]; done) | (simp [intOf]; omega)
    · obtain ⟨qv, cv, hv⟩ := hst.p1.rowAny
      subst hv
      have H := Lib.hid hst
      have d0 := (hst).rawCell 0; have d1 := (hst).rawCell 1; have d2 := (hst).rawCell 2; simp at d0 d1 d2
      have e0 := (hst.p2).rawCell 0; have e1 := (hst.p2).rawCell 1; have e2 := (hst.p2).rawCell 2; simp at e0 e1 e2; have r0 := (hst.p2).rawFree 0; have r1 := (hst.p2).rawFree 1; have r2 := (hst.p2).rawFree 2
      clear hst
      go_wp2_with fail
      have hz : St W0 _ K' (.raw sb #[.slice qv 1 cv, .int .i64 5, .slice none 0 0] 25 :: _) := ((H.out.p2.rawSet 0 (.slice qv 1 cv)).rawSet 1 (.int .i64 5)).rawSet 2 (.slice none 0 0)
      refine bodyPost_ret (rc_cell_tmpS rfl _ _ sb [.slice qv 1 cv, .int .i64 5, .slice none 0 0] _ rfl (rc_rangeS hz) Tryd.underlying25 rfl (by kernel_rfl)) rfl ?_
      exact ⟨_, K', rfl, HKK.out, hz.drop.drop⟩
set_option maxHeartbeats 4000000 in
set_option maxRecDepth 100000 in
theorem parse_k2 {W0 w : World} {K : Know} {L : List Res} (hlib : K.has Know.lib) (h : St W0 w K L) :
    Calls Tryd.prog 10 #[.string (bb [99, 117, 116, 32, 53, 10, 98, 97, 116, 99, 104, 32, 48, 32, 45, 49, 32, 48, 32, 48, 32, 48, 32, 45, 49, 32, 45, 49, 32, 45, 49, 32, 45, 10])] w fun en w' => ∃ K' : Know, en = .returned (.tuple #[.agg #[.slice none 0 0, .int .i64 0, .slice none 0 0], .int .i64 2]) ∧ K'.has K ∧ St W0 w' K' L := by
  obtain ⟨sb, hsb⟩ : ∃ b, w.heap.size = b := ⟨_, rfl⟩
  obtain ⟨rd, hrd⟩ : ∃ b, sb + 1 = b := ⟨_, rfl⟩
  have g1 := (h.allocRaw #[.slice none 0 0, .int .i64 0, .slice none 0 0] 25).allocRaw #[.slice none 0 0, .int .i64 (-1), .slice none 0 0] 65
  simp only [World.size_alloc, hsb, hrd] at g1
  have H := Lib.hid g1
  have HLIB := Lib.hid hlib
  clear h g1 hlib
  go_enter Tryd.func10, Tryd.ntmps10
  go_wp2_with fail
  go_loopw [0, 5] (fun tv nv wr => ∃ (K' : Know), Hid (K'.has K) ∧ ((tv = .string (bb [99, 117, 116, 32, 53, 10, 98, 97, 116, 99, 104, 32, 48, 32, 45, 49, 32, 48, 32, 48, 32, 48, 32, 45, 49, 32, 45, 49, 32, 45, 49, 32, 45, 10]) ∧ nv = .int .i64 1 ∧ St W0 wr K' (.raw rd #[.slice none 0 0, .int .i64 (-1), .slice none 0 0] 65 :: .raw sb #[.slice none 0 0, .int .i64 0, .slice none 0 0] 25 :: L)) ∨ (tv = .string (bb [98, 97, 116, 99, 104, 32, 48, 32, 45, 49, 32, 48, 32, 48, 32, 48, 32, 45, 49, 32, 45, 49, 32, 45, 49, 32, 45, 10]) ∧ nv = .int .i64 2 ∧ St W0 wr K' (.raw rd #[.slice none 0 0, .int .i64 5, .slice none 0 0] 65 :: .raw sb #[.slice none 0 0, .int .i64 0, .slice none 0 0] 25 :: L)))) (fun _ nv _ => 4 - (intOf nv).toNat)
  case atStart => exact ⟨K, Lib.hid (Know.has_refl _), .inl ⟨rfl, rfl, H.out⟩⟩
  case round =>
    obtain ⟨K', HKK, hd⟩ := hrel
    clear H
    have HLIB2 := Lib.hid (Know.has_trans HKK.out HLIB.out)
    rcases hd with ⟨rfl, rfl, hst⟩ | ⟨rfl, rfl, hst⟩
    · have H := Lib.hid hst
      clear hst
      go_wp2_with (first
    | (go_at_call 25; (with_reducible refine (sl_cutN [99, 117, 116, 32, 53, 10, 98, 97, 116, 99, 104, 32, 48, 32, 45, 49, 32, 48, 32, 48, 32, 48, 32, 45, 49, 32, 45, 49, 32, 45, 49, 32, 45, 10] [99, 117, 116, 32, 53] [98, 97, 116, 99, 104, 32, 48, 32, 45, 49, 32, 48, 32, 48, 32, 48, 32, 45, 49, 32, 45, 49, 32, 45, 49, 32, 45, 10] true kc3 (by decide) HLIB2.out H.out).mono ?_); rintro e_ wn ⟨rfl, h⟩; replace H := Lib.hid h; clear h)
    | (go_at_call 13; (with_reducible refine (sl_splitN [99, 117, 116, 32, 53] [[99, 117, 116], [53]] 2 rfl kwB (by decide) HLIB2.out H.out).mono ?_); rintro e_ wn ⟨wb, rfl, h⟩; have h := h.strs; have HKW := Lib.hid (Know.has_right (a := K') (Know.has_refl (Know.strs wb 0 [[99, 117, 116], [53]]))); have HLIB3 := Lib.hid (Know.has_left (b := Know.strs wb 0 [[99, 117, 116], [53]]) HLIB2.out); replace H := Lib.hid h; clear h)
    | (go_at_call 26; (with_reducible refine (rd_read_cut rd wb _ 5 [53] kn5 (by decide) (by decide) HLIB3.out HKW.out H.out).mono ?_); rintro e_ wn ⟨rfl, h⟩; replace H := Lib.hid h; clear h))
      go_roundw
      case rel => exact ⟨_, Lib.hid (Know.has_left HKK.out), .inr ⟨rfl, by go_num, H.out⟩⟩
      case measure => first | (simp [intOf]; done) | (simp [intOf]; omega)
    · have H := Lib.hid hst
      clear hst
      go_wp2_with (first
    | (go_at_call 25; (with_reducible refine (sl_cutN [98, 97, 116, 99, 104, 32, 48, 32, 45, 49, 32, 48, 32, 48, 32, 48, 32, 45, 49, 32, 45, 49, 32, 45, 49, 32, 45, 10] [98, 97, 116, 99, 104, 32, 48, 32, 45, 49, 32, 48, 32, 48, 32, 48, 32, 45, 49, 32, 45, 49, 32, 45, 49, 32, 45] [] true kc4 (by decide) HLIB2.out H.out).mono ?_); rintro e_ wn ⟨rfl, h⟩; replace H := Lib.hid h; clear h)
    | (go_at_call 13; (with_reducible refine (sl_splitN [98, 97, 116, 99, 104, 32, 48, 32, 45, 49, 32, 48, 32, 48, 32, 48, 32, 45, 49, 32, 45, 49, 32, 45, 49, 32, 45] [[98, 97, 116, 99, 104], [48], [45, 49], [48], [48], [48], [45, 49], [45, 49], [45, 49], [45]] 10 rfl kwA (by decide) HLIB2.out H.out).mono ?_); rintro e_ wn ⟨wb, rfl, h⟩; have h := h.strs; have HKW := Lib.hid (Know.has_right (a := K') (Know.has_refl (Know.strs wb 0 [[98, 97, 116, 99, 104], [48], [45, 49], [48], [48], [48], [45, 49], [45, 49], [45, 49], [45]]))); have HLIB3 := Lib.hid (Know.has_left (b := Know.strs wb 0 [[98, 97, 116, 99, 104], [48], [45, 49], [48], [48], [48], [45, 49], [45, 49], [45, 49], [45]]) HLIB2.out); have HKW2 := Lib.hid (show (K'.and (Know.strs wb 0 [[98, 97, 116, 99, 104], [48], [45, 49], [48], [48], [48], [45, 49], [45, 49], [45, 49], [45]])).has (Know.strs wb 0 ([98, 97, 116, 99, 104] :: ([[48], [45, 49], [48], [48], [48], [45, 49], [45, 49], [45, 49]] ++ [[45]]))) from HKW.out); replace H := Lib.hid h; clear h)
    | (go_at_call 26; (with_reducible refine (rd_read_no rd wb _ 5 ([[48], [45, 49], [48], [48], [48], [45, 49], [45, 49], [45, 49]] ++ [[45]]) (by decide) HLIB3.out HKW2.out H.out).mono ?_); rintro e_ wn ⟨rfl, h⟩; have e0 := (h.p1).rawCell 0; have e1 := (h.p1).rawCell 1; have e2 := (h.p1).rawCell 2; simp at e0 e1 e2; have r0 := (h.p1).rawFree 0; have r1 := (h.p1).rawFree 1; have r2 := (h.p1).rawFree 2; replace H := Lib.hid h; clear h))
      have hz : St W0 _ _ (.raw sb #[.slice none 0 0, .int .i64 0, .slice none 0 0] 25 :: _) := ((H.out.p1.rawSet 0 (.slice none 0 0)).rawSet 1 (.int .i64 0)).rawSet 2 (.slice none 0 0)
      refine bodyPost_ret (rc_cell_tmpS rfl _ _ sb [.slice none 0 0, .int .i64 0, .slice none 0 0] _ rfl (rc_rangeS hz) Tryd.underlying25 rfl (by kernel_rfl)) rfl ?_
      exact ⟨_, rfl, Know.has_left HKK.out, hz.drop.drop⟩

end Go.Proofs.YtenojajfacacoaaDoor
