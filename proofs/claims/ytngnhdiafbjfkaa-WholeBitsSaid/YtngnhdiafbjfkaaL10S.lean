/- Layer 10: that it speaks. -/
import Derived.Test.YtngnhdiafbjfkaaPre6
import Derived.Deep.RegionHeld3
import Derived.Deep.DeepCutAuto
namespace Go.Proofs.Ytngnhdiafbjfkaa
open Go.RowKit

def spB : Bs := [0, 0, 0, 0, 0, 0, 0, 0, 0, 0, 0, 49, 0, 0, 0, 0, 2, 255, 255, 255, 255, 0, 0, 0, 0, 0, 0, 0, 0, 0, 0, 0, 0, 0, 0, 0, 0, 0, 0, 0, 0, 0, 0, 255, 255, 255, 255, 255, 255, 255, 255, 0, 0, 0, 0, 0, 0, 0, 0, 0, 0]
theorem sp_write : (⟨[], 0⟩ : OutS).ints (⟨0, 49, 0, 4294967295, 0, 0, 0, 0, (-1), 0, 0, 0⟩ : PreS).items = ⟨spB, 0⟩ := by decide +kernel
theorem sp_read : (⟨spB, 0, 0⟩ : InS).pre = ((⟨0, 49, 0, 4294967295, 0, 0, 0, 0, (-1), 0, 0, 0⟩ : PreS), ⟨spB, 61, 0⟩) := by decide +kernel
theorem sp_peek : peekS spB = (61, 0) := by decide +kernel
theorem sp_close : (⟨spB, 61, 0⟩ : InS).close = ⟨spB, 61, 0⟩ := by decide +kernel
theorem sp_R : (⟨0, 49, 0, 4294967295, 0, 0, 0, 0, (-1), 0, 0, 0⟩ : PreS).R := by unfold PreS.R; decide

theorem prefix_write_sp (p : Nat) {W0 w : World} {K : Know} {L : List Res} (h : St W0 w K (.out p ⟨[], 0⟩ :: L)) :
    Calls Try.prog 17 #[outPtr p, .agg #[.int .i64 0, .int .i64 49, .int .i64 0, .int .i64 4294967295, .int .i64 0, .int .i64 0, .int .i64 0, .int .i64 0, .int .i64 (-1), .int .i64 0, .int .i64 0, .int .i64 0]] w fun en w' => en = .returned (.tuple #[]) ∧ St W0 w' K (.out p ⟨spB, 0⟩ :: L) := by
  have := prefix_write p _ (⟨0, 49, 0, 4294967295, 0, 0, 0, 0, (-1), 0, 0, 0⟩ : PreS) sp_R h (by unfold OutS.ok; decide)
  rw [sp_write] at this
  exact this
theorem prefix_read_sp (p : Nat) {W0 w : World} {K : Know} {L : List Res} (h : St W0 w K (.inp p ⟨spB, 0, 0⟩ :: L)) :
    Calls Try.prog 22 #[inPtr p] w fun en w' => en = .returned (.agg #[.int .i64 0, .int .i64 49, .int .i64 0, .int .i64 4294967295, .int .i64 0, .int .i64 0, .int .i64 0, .int .i64 0, .int .i64 (-1), .int .i64 0, .int .i64 0, .int .i64 0]) ∧ St W0 w' K (.inp p ⟨spB, 61, 0⟩ :: L) := by
  have := prefix_read p _ h
  rw [sp_read] at this
  exact this

theorem sp_cells {W0 w : World} {K : Know} {L : List Res} {r r' : Res} {b : Nat} (h : St W0 w K (r :: r' :: .raw b #[.int .i64 0, .int .i64 49, .int .i64 0, .int .i64 4294967295, .int .i64 0, .int .i64 0, .int .i64 0, .int .i64 0, .int .i64 (-1), .int .i64 0, .int .i64 0, .int .i64 0] 35 :: L)) : w.cell? ⟨b, 0, none⟩ = some (.int .i64 0) ∧ w.cell? ⟨b, 1, none⟩ = some (.int .i64 49) ∧ w.cell? ⟨b, 2, none⟩ = some (.int .i64 0) ∧ w.cell? ⟨b, 3, none⟩ = some (.int .i64 4294967295) ∧ w.cell? ⟨b, 4, none⟩ = some (.int .i64 0) ∧ w.cell? ⟨b, 5, none⟩ = some (.int .i64 0) ∧ w.cell? ⟨b, 6, none⟩ = some (.int .i64 0) ∧ w.cell? ⟨b, 7, none⟩ = some (.int .i64 0) ∧ w.cell? ⟨b, 8, none⟩ = some (.int .i64 (-1)) ∧ w.cell? ⟨b, 9, none⟩ = some (.int .i64 0) ∧ w.cell? ⟨b, 10, none⟩ = some (.int .i64 0) ∧ w.cell? ⟨b, 11, none⟩ = some (.int .i64 0) :=
  ⟨h.p2.rawCell 0, h.p2.rawCell 1, h.p2.rawCell 2, h.p2.rawCell 3, h.p2.rawCell 4, h.p2.rawCell 5, h.p2.rawCell 6, h.p2.rawCell 7, h.p2.rawCell 8, h.p2.rawCell 9, h.p2.rawCell 10, h.p2.rawCell 11⟩

set_option maxHeartbeats 1000000 in
set_option maxRecDepth 100000 in
theorem speaks10 {W0 w : World} {K : Know} {L : List Res} (h : St W0 w K L) :
    Calls Try.prog 16 #[] w fun en w' => en = .returned (.bool true) ∧ St W0 w' K L := by
  have H := Lib.hid ((h.allocOut).allocRaw #[.int .i64 0, .int .i64 49, .int .i64 0, .int .i64 4294967295, .int .i64 0, .int .i64 0, .int .i64 0, .int .i64 0, .int .i64 (-1), .int .i64 0, .int .i64 0, .int .i64 0] 35).p1
  have hlen : spB.length = 61 := rfl
  have h16 : spB[16]? = some 2 := rfl
  have HT := Lib.hid (show (⟨spB, 0⟩ : OutS).text = (spB, 0) from rfl)
  clear h
  go_enter Try.func16, Try.ntmps16
  go_wp2_with (first
    | (go_at_call 17; refine (prefix_write_sp _ H.out).mono ?_; rintro e wn ⟨rfl, h⟩; replace H := Lib.hid h; clear h)
    | (go_at_call 18; refine (so_text _ _ H.out).mono ?_; (repeat first | rw [HT.out]); rintro e wn ⟨rfl, h⟩; replace H := Lib.hid h; clear h)
    | (go_at_call 21; refine (s_new spB (by decide) H.out).mono ?_; rintro e wn ⟨bi, rfl, h⟩; replace H := Lib.hid h; clear h)
    | (go_at_call 26; refine (prefix_peek spB 61 0 sp_peek (by decide) H.out).mono ?_; rintro e wn ⟨rfl, h⟩; replace H := Lib.hid h; clear h))
  have h1 := H.out.drew
  rw [World.size_alloc] at h1
  clear H h16
  go_region_held3 (fun w' => w'.cell? ⟨w.heap.size + 1, 0, none⟩ = some (.int .i64 0) ∧ w'.cell? ⟨w.heap.size + 1, 1, none⟩ = some (.int .i64 49) ∧ w'.cell? ⟨w.heap.size + 1, 2, none⟩ = some (.int .i64 0) ∧ w'.cell? ⟨w.heap.size + 1, 3, none⟩ = some (.int .i64 4294967295) ∧ w'.cell? ⟨w.heap.size + 1, 4, none⟩ = some (.int .i64 0) ∧ w'.cell? ⟨w.heap.size + 1, 5, none⟩ = some (.int .i64 0) ∧ w'.cell? ⟨w.heap.size + 1, 6, none⟩ = some (.int .i64 0) ∧ w'.cell? ⟨w.heap.size + 1, 7, none⟩ = some (.int .i64 0) ∧ w'.cell? ⟨w.heap.size + 1, 8, none⟩ = some (.int .i64 (-1)) ∧ w'.cell? ⟨w.heap.size + 1, 9, none⟩ = some (.int .i64 0) ∧ w'.cell? ⟨w.heap.size + 1, 10, none⟩ = some (.int .i64 0) ∧ w'.cell? ⟨w.heap.size + 1, 11, none⟩ = some (.int .i64 0))
    (exact sp_cells (by assumption))
    (first
      | (go_at_call 22; refine (prefix_read_sp _ (by assumption)).mono ?_; rintro e wq ⟨rfl, h⟩)
      | (go_at_call 24; refine (s_close _ ⟨spB, 61, 0⟩ (by assumption)).mono ?_; rw [sp_close]; rintro e wq ⟨rfl, h⟩))
  all_goals
    go_wp2
    go_ret
    exact ⟨rfl, (show St W0 _ K (.inp _ ⟨spB, 61, 0⟩ :: _) by assumption).drop.drop.drop⟩

end Go.Proofs.Ytngnhdiafbjfkaa
