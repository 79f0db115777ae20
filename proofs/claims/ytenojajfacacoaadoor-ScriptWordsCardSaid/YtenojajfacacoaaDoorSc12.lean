/- A script speaks. -/
import Derived.Test.YtenojajfacacoaaDoorSc11
import Derived.Test.YtenojajfacacoaaDoorSc1
import Derived.Test.YtenojajfacacoaaDoorRegOp
import Derived.RegionTactic
import Derived.WalkMore
import Derived.Deep.RegionHeld3
import Derived.Deep.DeepCutAuto
namespace Go.Proofs.YtenojajfacacoaaDoor
open Go.RowKit

theorem sc_hex61 {W0 w : World} {K : Know} {L : List Res} (h : St W0 w K L) : Calls Tryd.prog 15 #[.string ⟨#[97]⟩] w fun en w' => en = .returned (.string ⟨#[54, 49]⟩) ∧ St W0 w' K L := sc_hex [97] (by decide) h
theorem parse_k1' {W0 w : World} {K : Know} {L : List Res} (hlib : K.has Know.lib) (h : St W0 w K L) :
    Calls Tryd.prog 10 #[.string ⟨#[98, 97, 116, 99, 104, 32, 48, 32, 45, 49, 32, 48, 32, 48, 32, 48, 32, 45, 49, 32, 45, 49, 32, 45, 49, 32, 45, 10, 99, 117, 116, 32, 53, 10]⟩] w fun en w' => ∃ (v : Value) (K' : Know), en = .returned (.tuple #[.agg #[v, .int .i64 5, .slice none 0 0], .int .i64 0]) ∧ K'.has K ∧ St W0 w' K' (.row v 45 12 1 [.int .i64 0, .int .i64 (-1), .bool false, .bool false, .bool false, .int .i64 0, .int .i64 0, .int .i64 0, .int .i64 (-1), .int .i64 (-1), .int .i64 (-1), .slice none 0 0] :: L) := parse_k1 hlib h
theorem parse_k2' {W0 w : World} {K : Know} {L : List Res} (hlib : K.has Know.lib) (h : St W0 w K L) :
    Calls Tryd.prog 10 #[.string ⟨#[99, 117, 116, 32, 53, 10, 98, 97, 116, 99, 104, 32, 48, 32, 45, 49, 32, 48, 32, 48, 32, 48, 32, 45, 49, 32, 45, 49, 32, 45, 49, 32, 45, 10]⟩] w fun en w' => ∃ K' : Know, en = .returned (.tuple #[.agg #[.slice none 0 0, .int .i64 0, .slice none 0 0], .int .i64 2]) ∧ K'.has K ∧ St W0 w' K' L := parse_k2 hlib h
set_option maxHeartbeats 4000000 in
set_option maxRecDepth 100000 in
theorem speaks25 {W0 w : World} {K : Know} {L : List Res} (hlib : K.has Know.lib) (h : St W0 w K L) :
    Calls Tryd.prog 6 #[] w fun en w' => ∃ K' : Know, en = .returned (.bool true) ∧ K'.has K ∧ St W0 w' K' L := by
  have H := Lib.hid h
  have HLIB := Lib.hid hlib
  clear h hlib
  go_enter Tryd.func6, Tryd.ntmps6
  go_wp2_with (first
    | (go_at_call 10; (with_reducible refine (parse_k1' HLIB.out H.out).mono ?_); rintro e_ wn ⟨v, K1, rfl, hkk, h⟩; have HK1 := Lib.hid hkk; clear hkk; obtain ⟨g, cv, hv⟩ := h.rowSlice (by decide); subst hv; obtain ⟨xb, hxb⟩ : ∃ y, wn.heap.size = y := ⟨_, rfl⟩; have h := h.allocRaw #[.slice (some ⟨g, 0, none⟩) 1 cv, .int .i64 5, .slice none 0 0] 25; rw [hxb] at h; have x0 := (h).rawCell 0; have x1 := (h).rawCell 1; have x2 := (h).rawCell 2; simp at x0 x1 x2; have z8 := h.p1.rowCell 8 (by decide); simp at z8; replace H := Lib.hid h; clear h)
    | (go_at_call 10; clear x0 x1 x2 z8; (with_reducible refine (parse_k2' (Know.has_trans HK1.out HLIB.out) H.out).mono ?_); rintro e_ wn ⟨K2, rfl, hkk, h⟩; have HK2 := Lib.hid hkk; clear hkk; obtain ⟨yb, hyb⟩ : ∃ y, wn.heap.size = y := ⟨_, rfl⟩; have h := h.allocRaw #[.slice none 0 0, .int .i64 0, .slice none 0 0] 25; rw [hyb] at h; have x0 := (h.p1).rawCell 0; have x1 := (h.p1).rawCell 1; have x2 := (h.p1).rawCell 2; simp at x0 x1 x2; have z8 := h.p2.rowCell 8 (by decide); simp at z8; replace H := Lib.hid h; clear h)
    | (go_at_call 15; (try clear x0 x1 x2 z8); (with_reducible refine (sc_hex61 H.out).mono ?_); rintro e_ wn ⟨rfl, h⟩; have x0 := (h.p1).rawCell 0; have x1 := (h.p1).rawCell 1; have x2 := (h.p1).rawCell 2; simp at x0 x1 x2; have z8 := h.p2.rowCell 8 (by decide); simp at z8; replace H := Lib.hid h; clear h))
  go_ret
  exact ⟨K2, rfl, Know.has_trans HK2.out HK1.out, H.out.drop.drop.drop⟩

end Go.Proofs.YtenojajfacacoaaDoor
