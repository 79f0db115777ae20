/- A text. -/
import Derived.Test.YtnnnglklgofabaaGProduceBatches1
import Derived.IntWalk
/- A text. -/
namespace Go.Proofs.Ytnnnglklgofabaa
open Go.RowKit

theorem raw12 {W0 w : World} {K : Know} {L : List Res} {b : Nat} {T : TypeId} {v0 v1 v2 v3 v4 v5 v6 v7 v8 v9 v10 v11 : Value} (h : St W0 w K (.raw b #[v0, v1, v2, v3, v4, v5, v6, v7, v8, v9, v10, v11] T :: L)) :
  w.cell? ⟨b, 0, none⟩ = some v0 ∧ w.cell? ⟨b, 1, none⟩ = some v1 ∧ w.cell? ⟨b, 2, none⟩ = some v2 ∧ w.cell? ⟨b, 3, none⟩ = some v3 ∧ w.cell? ⟨b, 4, none⟩ = some v4 ∧ w.cell? ⟨b, 5, none⟩ = some v5 ∧ w.cell? ⟨b, 6, none⟩ = some v6 ∧ w.cell? ⟨b, 7, none⟩ = some v7 ∧ w.cell? ⟨b, 8, none⟩ = some v8 ∧ w.cell? ⟨b, 9, none⟩ = some v9 ∧ w.cell? ⟨b, 10, none⟩ = some v10 ∧ w.cell? ⟨b, 11, none⟩ = some v11 ∧
  w.frozen? ⟨b, 0, none⟩ = false ∧ w.frozen? ⟨b, 1, none⟩ = false ∧ w.frozen? ⟨b, 2, none⟩ = false ∧ w.frozen? ⟨b, 3, none⟩ = false ∧ w.frozen? ⟨b, 4, none⟩ = false ∧ w.frozen? ⟨b, 5, none⟩ = false ∧ w.frozen? ⟨b, 6, none⟩ = false ∧ w.frozen? ⟨b, 7, none⟩ = false ∧ w.frozen? ⟨b, 8, none⟩ = false ∧ w.frozen? ⟨b, 9, none⟩ = false ∧ w.frozen? ⟨b, 10, none⟩ = false ∧ w.frozen? ⟨b, 11, none⟩ = false :=
 ⟨h.rawCell 0, h.rawCell 1, h.rawCell 2, h.rawCell 3, h.rawCell 4, h.rawCell 5, h.rawCell 6, h.rawCell 7, h.rawCell 8, h.rawCell 9, h.rawCell 10, h.rawCell 11, h.rawFree 0, h.rawFree 1, h.rawFree 2, h.rawFree 3, h.rawFree 4, h.rawFree 5, h.rawFree 6, h.rawFree 7, h.rawFree 8, h.rawFree 9, h.rawFree 10, h.rawFree 11⟩

set_option maxHeartbeats 1000000 in
set_option maxRecDepth 100000 in
theorem prefix_read_000 (p : Nat) (i i1 i2 i3 i4 i5 i6 i7 i8 i9 i10 i11 i12 i13 j1 j2 j3 : InS) (a0 a1 a2 a3 a4 a5 a6 a7 a8 a9 a10 a11 a12 sm : Int) (e0 : i.int 8 = (a0, i1)) (e1 : i1.int 4 = (a1, i2)) (e2 : i2.int 4 = (a2, i3)) (e3 : i3.int 1 = (a3, i4)) (e4 : i4.int 4 = (a4, i5)) (e5 : i5.int 2 = (a5, i6)) (e6 : i6.int 4 = (a6, i7)) (e7 : i7.int 8 = (a7, i8)) (e8 : i8.int 8 = (a8, i9)) (e9 : i9.int 8 = (a9, i10)) (e10 : i10.int 2 = (a10, i11)) (e11 : i11.int 4 = (a11, i12)) (e12 : i12.int 4 = (a12, i13)) (hsm : bits .and .i64 a4 4294967295 = sm)
    (hm : (a3 != 2) = true) (hl : ¬ a1 < 49) (hn : ¬ a12 < 0) (hJ1 : j1 = i13.fail 6) (hJ2 : j2 = j1) (hJ3 : j3 = j2) {W0 w : World} {K : Know} {L : List Res} (h : St W0 w K (.inp p i :: L)) :
    Calls Try.prog 61 #[inPtr p] w fun en w' => en = .returned (if j3.err = 0 then .agg #[.int .i64 a0, .int .i64 a1, .int .i64 a2, .int .i64 sm, .int .i64 a5, .int .i64 a6, .int .i64 a7, .int .i64 a8, .int .i64 a9, .int .i64 a10, .int .i64 a11, .int .i64 a12] else .agg #[.int .i64 0, .int .i64 0, .int .i64 0, .int .i64 0, .int .i64 0, .int .i64 0, .int .i64 0, .int .i64 0, .int .i64 0, .int .i64 0, .int .i64 0, .int .i64 0]) ∧ St W0 w' K (.inp p j3 :: L) := by
  have H := Lib.hid (h.allocRaw #[.int .i64 0, .int .i64 0, .int .i64 0, .int .i64 0, .int .i64 0, .int .i64 0, .int .i64 0, .int .i64 0, .int .i64 0, .int .i64 0, .int .i64 0, .int .i64 0] 73).p1
  have EF := Lib.hid (fun (W0' w' : World) (K' : Know) (L' : List Res) (h' : St W0' w' K' (.inp p i :: L')) => prefix_fields p i i1 i2 i3 i4 i5 i6 i7 i8 i9 i10 i11 i12 i13 a0 a1 a2 a3 a4 a5 a6 a7 a8 a9 a10 a11 a12 sm e0 e1 e2 e3 e4 e5 e6 e7 e8 e9 e10 e11 e12 hsm h')
  clear h e0 e1 e2 e3 e4 e5 e6 e7 e8 e9 e10 e11 e12 hsm
  have EJ1 := Lib.hid hJ1.symm
  clear hJ1
  subst hJ2
  subst hJ3
  by_cases hz : j3.err = 0
  · rw [if_pos hz]
    have HZ := Lib.hid hz
    clear hz
    go_enter Try.func61, Try.ntmps61
    go_wp2_with (first
      | (go_at_call 86; (with_reducible refine (EF.out _ _ _ _ H.out).mono ?_); rintro e wn ⟨rfl, h⟩; obtain ⟨bb2, hbb2⟩ : ∃ b, wn.heap.size = b := ⟨_, rfl⟩; have h := h.allocRaw #[.int .i64 a0, .int .i64 a1, .int .i64 a2, .int .i64 sm, .int .i64 a5, .int .i64 a6, .int .i64 a7, .int .i64 a8, .int .i64 a9, .int .i64 a10, .int .i64 a11, .int .i64 a12] 73; rw [hbb2] at h; replace H := Lib.hid h; clear h; have HH := Lib.hid H.out; obtain ⟨yc0, yc1, yc2, yc3, yc4, yc5, yc6, yc7, yc8, yc9, yc10, yc11, yf0, yf1, yf2, yf3, yf4, yf5, yf6, yf7, yf8, yf9, yf10, yf11⟩ := raw12 (b := w.heap.size) (by first | exact HH.out | exact HH.out.p1 | exact HH.out.p2); obtain ⟨xc0, xc1, xc2, xc3, xc4, xc5, xc6, xc7, xc8, xc9, xc10, xc11, xf0, xf1, xf2, xf3, xf4, xf5, xf6, xf7, xf8, xf9, xf10, xf11⟩ := raw12 (b := bb2) (by first | exact HH.out | exact HH.out.p1 | exact HH.out.p2))
      | (go_at_call 24; (with_reducible refine (s_fail _ _ _ (by first | exact H.out | exact H.out.p1 | exact H.out.p2)).mono ?_); (repeat first | rw [EJ1.out] ); rintro e wn ⟨rfl, h⟩; replace H := Lib.hid h; clear h; have HH := Lib.hid H.out; obtain ⟨yc0, yc1, yc2, yc3, yc4, yc5, yc6, yc7, yc8, yc9, yc10, yc11, yf0, yf1, yf2, yf3, yf4, yf5, yf6, yf7, yf8, yf9, yf10, yf11⟩ := raw12 (b := w.heap.size) (by first | exact HH.out | exact HH.out.p1 | exact HH.out.p2); obtain ⟨xc0, xc1, xc2, xc3, xc4, xc5, xc6, xc7, xc8, xc9, xc10, xc11, xf0, xf1, xf2, xf3, xf4, xf5, xf6, xf7, xf8, xf9, xf10, xf11⟩ := raw12 (b := bb2) (by first | exact HH.out | exact HH.out.p1 | exact HH.out.p2))
      | (go_at_call 23; (with_reducible refine (s_err _ _ (by first | exact H.out | exact H.out.p1 | exact H.out.p2)).mono ?_); rw [HZ.out]; rintro e wn ⟨rfl, h⟩; replace H := Lib.hid h; clear h; have HH := Lib.hid H.out; obtain ⟨yc0, yc1, yc2, yc3, yc4, yc5, yc6, yc7, yc8, yc9, yc10, yc11, yf0, yf1, yf2, yf3, yf4, yf5, yf6, yf7, yf8, yf9, yf10, yf11⟩ := raw12 (b := w.heap.size) (by first | exact HH.out | exact HH.out.p1 | exact HH.out.p2); obtain ⟨xc0, xc1, xc2, xc3, xc4, xc5, xc6, xc7, xc8, xc9, xc10, xc11, xf0, xf1, xf2, xf3, xf4, xf5, xf6, xf7, xf8, xf9, xf10, xf11⟩ := raw12 (b := bb2) (by first | exact HH.out | exact HH.out.p1 | exact HH.out.p2)))
    refine bodyPost_ret (v := .agg #[.int .i64 a0, .int .i64 a1, .int .i64 a2, .int .i64 sm, .int .i64 a5, .int .i64 a6, .int .i64 a7, .int .i64 a8, .int .i64 a9, .int .i64 a10, .int .i64 a11, .int .i64 a12]) (by simp [results, Try.results61, go_sem, yc0, yc1, yc2, yc3, yc4, yc5, yc6, yc7, yc8, yc9, yc10, yc11]) rfl ⟨rfl, ?_⟩
    exact ((((((((((((H.out.p2.rawSet 0 _).rawSet 1 _).rawSet 2 _).rawSet 3 _).rawSet 4 _).rawSet 5 _).rawSet 6 _).rawSet 7 _).rawSet 8 _).rawSet 9 _).rawSet 10 _).rawSet 11 _).drop.p1.drop
  · rw [if_neg hz]
    have hzb : (j3.err != 0) = true := by rw [bne_iff_ne]; exact hz
    clear hz
    go_enter Try.func61, Try.ntmps61
    go_wp2_with (first
      | (go_at_call 86; (with_reducible refine (EF.out _ _ _ _ H.out).mono ?_); rintro e wn ⟨rfl, h⟩; obtain ⟨bb2, hbb2⟩ : ∃ b, wn.heap.size = b := ⟨_, rfl⟩; have h := h.allocRaw #[.int .i64 a0, .int .i64 a1, .int .i64 a2, .int .i64 sm, .int .i64 a5, .int .i64 a6, .int .i64 a7, .int .i64 a8, .int .i64 a9, .int .i64 a10, .int .i64 a11, .int .i64 a12] 73; rw [hbb2] at h; replace H := Lib.hid h; clear h; have HH := Lib.hid H.out; obtain ⟨yc0, yc1, yc2, yc3, yc4, yc5, yc6, yc7, yc8, yc9, yc10, yc11, yf0, yf1, yf2, yf3, yf4, yf5, yf6, yf7, yf8, yf9, yf10, yf11⟩ := raw12 (b := w.heap.size) (by first | exact HH.out | exact HH.out.p1 | exact HH.out.p2); obtain ⟨xc0, xc1, xc2, xc3, xc4, xc5, xc6, xc7, xc8, xc9, xc10, xc11, xf0, xf1, xf2, xf3, xf4, xf5, xf6, xf7, xf8, xf9, xf10, xf11⟩ := raw12 (b := bb2) (by first | exact HH.out | exact HH.out.p1 | exact HH.out.p2))
      | (go_at_call 24; (with_reducible refine (s_fail _ _ _ (by first | exact H.out | exact H.out.p1 | exact H.out.p2)).mono ?_); (repeat first | rw [EJ1.out] ); rintro e wn ⟨rfl, h⟩; replace H := Lib.hid h; clear h; have HH := Lib.hid H.out; obtain ⟨yc0, yc1, yc2, yc3, yc4, yc5, yc6, yc7, yc8, yc9, yc10, yc11, yf0, yf1, yf2, yf3, yf4, yf5, yf6, yf7, yf8, yf9, yf10, yf11⟩ := raw12 (b := w.heap.size) (by first | exact HH.out | exact HH.out.p1 | exact HH.out.p2); obtain ⟨xc0, xc1, xc2, xc3, xc4, xc5, xc6, xc7, xc8, xc9, xc10, xc11, xf0, xf1, xf2, xf3, xf4, xf5, xf6, xf7, xf8, xf9, xf10, xf11⟩ := raw12 (b := bb2) (by first | exact HH.out | exact HH.out.p1 | exact HH.out.p2))
      | (go_at_call 23; (with_reducible refine (s_err _ _ (by first | exact H.out | exact H.out.p1 | exact H.out.p2)).mono ?_); rintro e wn ⟨rfl, h⟩; replace H := Lib.hid h; clear h; have HH := Lib.hid H.out; obtain ⟨yc0, yc1, yc2, yc3, yc4, yc5, yc6, yc7, yc8, yc9, yc10, yc11, yf0, yf1, yf2, yf3, yf4, yf5, yf6, yf7, yf8, yf9, yf10, yf11⟩ := raw12 (b := w.heap.size) (by first | exact HH.out | exact HH.out.p1 | exact HH.out.p2); obtain ⟨xc0, xc1, xc2, xc3, xc4, xc5, xc6, xc7, xc8, xc9, xc10, xc11, xf0, xf1, xf2, xf3, xf4, xf5, xf6, xf7, xf8, xf9, xf10, xf11⟩ := raw12 (b := bb2) (by first | exact HH.out | exact HH.out.p1 | exact HH.out.p2)))
    refine bodyPost_ret (v := .agg #[.int .i64 0, .int .i64 0, .int .i64 0, .int .i64 0, .int .i64 0, .int .i64 0, .int .i64 0, .int .i64 0, .int .i64 0, .int .i64 0, .int .i64 0, .int .i64 0]) (by simp [results, Try.results61, go_sem, yc0, yc1, yc2, yc3, yc4, yc5, yc6, yc7, yc8, yc9, yc10, yc11]) rfl ⟨rfl, ?_⟩
    exact ((((((((((((H.out.p2.rawSet 0 _).rawSet 1 _).rawSet 2 _).rawSet 3 _).rawSet 4 _).rawSet 5 _).rawSet 6 _).rawSet 7 _).rawSet 8 _).rawSet 9 _).rawSet 10 _).rawSet 11 _).drop.p1.drop

set_option maxHeartbeats 1000000 in
set_option maxRecDepth 100000 in
theorem prefix_read_001 (p : Nat) (i i1 i2 i3 i4 i5 i6 i7 i8 i9 i10 i11 i12 i13 j1 j2 j3 : InS) (a0 a1 a2 a3 a4 a5 a6 a7 a8 a9 a10 a11 a12 sm : Int) (e0 : i.int 8 = (a0, i1)) (e1 : i1.int 4 = (a1, i2)) (e2 : i2.int 4 = (a2, i3)) (e3 : i3.int 1 = (a3, i4)) (e4 : i4.int 4 = (a4, i5)) (e5 : i5.int 2 = (a5, i6)) (e6 : i6.int 4 = (a6, i7)) (e7 : i7.int 8 = (a7, i8)) (e8 : i8.int 8 = (a8, i9)) (e9 : i9.int 8 = (a9, i10)) (e10 : i10.int 2 = (a10, i11)) (e11 : i11.int 4 = (a11, i12)) (e12 : i12.int 4 = (a12, i13)) (hsm : bits .and .i64 a4 4294967295 = sm)
    (hm : (a3 != 2) = true) (hl : ¬ a1 < 49) (hn : a12 < 0) (hJ1 : j1 = i13.fail 6) (hJ2 : j2 = j1) (hJ3 : j3 = j2.fail 10) {W0 w : World} {K : Know} {L : List Res} (h : St W0 w K (.inp p i :: L)) :
    Calls Try.prog 61 #[inPtr p] w fun en w' => en = .returned (if j3.err = 0 then .agg #[.int .i64 a0, .int .i64 a1, .int .i64 a2, .int .i64 sm, .int .i64 a5, .int .i64 a6, .int .i64 a7, .int .i64 a8, .int .i64 a9, .int .i64 a10, .int .i64 a11, .int .i64 a12] else .agg #[.int .i64 0, .int .i64 0, .int .i64 0, .int .i64 0, .int .i64 0, .int .i64 0, .int .i64 0, .int .i64 0, .int .i64 0, .int .i64 0, .int .i64 0, .int .i64 0]) ∧ St W0 w' K (.inp p j3 :: L) := by
  have H := Lib.hid (h.allocRaw #[.int .i64 0, .int .i64 0, .int .i64 0, .int .i64 0, .int .i64 0, .int .i64 0, .int .i64 0, .int .i64 0, .int .i64 0, .int .i64 0, .int .i64 0, .int .i64 0] 73).p1
  have EF := Lib.hid (fun (W0' w' : World) (K' : Know) (L' : List Res) (h' : St W0' w' K' (.inp p i :: L')) => prefix_fields p i i1 i2 i3 i4 i5 i6 i7 i8 i9 i10 i11 i12 i13 a0 a1 a2 a3 a4 a5 a6 a7 a8 a9 a10 a11 a12 sm e0 e1 e2 e3 e4 e5 e6 e7 e8 e9 e10 e11 e12 hsm h')
  clear h e0 e1 e2 e3 e4 e5 e6 e7 e8 e9 e10 e11 e12 hsm
  have EJ1 := Lib.hid hJ1.symm
  clear hJ1
  subst hJ2
  have EJ3 := Lib.hid hJ3.symm
  clear hJ3
  by_cases hz : j3.err = 0
  · rw [if_pos hz]
    have HZ := Lib.hid hz
    clear hz
    go_enter Try.func61, Try.ntmps61
    go_wp2_with (first
      | (go_at_call 86; (with_reducible refine (EF.out _ _ _ _ H.out).mono ?_); rintro e wn ⟨rfl, h⟩; obtain ⟨bb2, hbb2⟩ : ∃ b, wn.heap.size = b := ⟨_, rfl⟩; have h := h.allocRaw #[.int .i64 a0, .int .i64 a1, .int .i64 a2, .int .i64 sm, .int .i64 a5, .int .i64 a6, .int .i64 a7, .int .i64 a8, .int .i64 a9, .int .i64 a10, .int .i64 a11, .int .i64 a12] 73; rw [hbb2] at h; replace H := Lib.hid h; clear h; have HH := Lib.hid H.out; obtain ⟨yc0, yc1, yc2, yc3, yc4, yc5, yc6, yc7, yc8, yc9, yc10, yc11, yf0, yf1, yf2, yf3, yf4, yf5, yf6, yf7, yf8, yf9, yf10, yf11⟩ := raw12 (b := w.heap.size) (by first | exact HH.out | exact HH.out.p1 | exact HH.out.p2); obtain ⟨xc0, xc1, xc2, xc3, xc4, xc5, xc6, xc7, xc8, xc9, xc10, xc11, xf0, xf1, xf2, xf3, xf4, xf5, xf6, xf7, xf8, xf9, xf10, xf11⟩ := raw12 (b := bb2) (by first | exact HH.out | exact HH.out.p1 | exact HH.out.p2))
      | (go_at_call 24; (with_reducible refine (s_fail _ _ _ (by first | exact H.out | exact H.out.p1 | exact H.out.p2)).mono ?_); (repeat first | rw [EJ1.out] | rw [EJ3.out] ); rintro e wn ⟨rfl, h⟩; replace H := Lib.hid h; clear h; have HH := Lib.hid H.out; obtain ⟨yc0, yc1, yc2, yc3, yc4, yc5, yc6, yc7, yc8, yc9, yc10, yc11, yf0, yf1, yf2, yf3, yf4, yf5, yf6, yf7, yf8, yf9, yf10, yf11⟩ := raw12 (b := w.heap.size) (by first | exact HH.out | exact HH.out.p1 | exact HH.out.p2); obtain ⟨xc0, xc1, xc2, xc3, xc4, xc5, xc6, xc7, xc8, xc9, xc10, xc11, xf0, xf1, xf2, xf3, xf4, xf5, xf6, xf7, xf8, xf9, xf10, xf11⟩ := raw12 (b := bb2) (by first | exact HH.out | exact HH.out.p1 | exact HH.out.p2))
      | (go_at_call 23; (with_reducible refine (s_err _ _ (by first | exact H.out | exact H.out.p1 | exact H.out.p2)).mono ?_); rw [HZ.out]; rintro e wn ⟨rfl, h⟩; replace H := Lib.hid h; clear h; have HH := Lib.hid H.out; obtain ⟨yc0, yc1, yc2, yc3, yc4, yc5, yc6, yc7, yc8, yc9, yc10, yc11, yf0, yf1, yf2, yf3, yf4, yf5, yf6, yf7, yf8, yf9, yf10, yf11⟩ := raw12 (b := w.heap.size) (by first | exact HH.out | exact HH.out.p1 | exact HH.out.p2); obtain ⟨xc0, xc1, xc2, xc3, xc4, xc5, xc6, xc7, xc8, xc9, xc10, xc11, xf0, xf1, xf2, xf3, xf4, xf5, xf6, xf7, xf8, xf9, xf10, xf11⟩ := raw12 (b := bb2) (by first | exact HH.out | exact HH.out.p1 | exact HH.out.p2)))
    refine bodyPost_ret (v := .agg #[.int .i64 a0, .int .i64 a1, .int .i64 a2, .int .i64 sm, .int .i64 a5, .int .i64 a6, .int .i64 a7, .int .i64 a8, .int .i64 a9, .int .i64 a10, .int .i64 a11, .int .i64 a12]) (by simp [results, Try.results61, go_sem, yc0, yc1, yc2, yc3, yc4, yc5, yc6, yc7, yc8, yc9, yc10, yc11]) rfl ⟨rfl, ?_⟩
    exact ((((((((((((H.out.p2.rawSet 0 _).rawSet 1 _).rawSet 2 _).rawSet 3 _).rawSet 4 _).rawSet 5 _).rawSet 6 _).rawSet 7 _).rawSet 8 _).rawSet 9 _).rawSet 10 _).rawSet 11 _).drop.p1.drop
  · rw [if_neg hz]
    have hzb : (j3.err != 0) = true := by rw [bne_iff_ne]; exact hz
    clear hz
    go_enter Try.func61, Try.ntmps61
    go_wp2_with (first
      | (go_at_call 86; (with_reducible refine (EF.out _ _ _ _ H.out).mono ?_); rintro e wn ⟨rfl, h⟩; obtain ⟨bb2, hbb2⟩ : ∃ b, wn.heap.size = b := ⟨_, rfl⟩; have h := h.allocRaw #[.int .i64 a0, .int .i64 a1, .int .i64 a2, .int .i64 sm, .int .i64 a5, .int .i64 a6, .int .i64 a7, .int .i64 a8, .int .i64 a9, .int .i64 a10, .int .i64 a11, .int .i64 a12] 73; rw [hbb2] at h; replace H := Lib.hid h; clear h; have HH := Lib.hid H.out; obtain ⟨yc0, yc1, yc2, yc3, yc4, yc5, yc6, yc7, yc8, yc9, yc10, yc11, yf0, yf1, yf2, yf3, yf4, yf5, yf6, yf7, yf8, yf9, yf10, yf11⟩ := raw12 (b := w.heap.size) (by first | exact HH.out | exact HH.out.p1 | exact HH.out.p2); obtain ⟨xc0, xc1, xc2, xc3, xc4, xc5, xc6, xc7, xc8, xc9, xc10, xc11, xf0, xf1, xf2, xf3, xf4, xf5, xf6, xf7, xf8, xf9, xf10, xf11⟩ := raw12 (b := bb2) (by first | exact HH.out | exact HH.out.p1 | exact HH.out.p2))
      | (go_at_call 24; (with_reducible refine (s_fail _ _ _ (by first | exact H.out | exact H.out.p1 | exact H.out.p2)).mono ?_); (repeat first | rw [EJ1.out] | rw [EJ3.out] ); rintro e wn ⟨rfl, h⟩; replace H := Lib.hid h; clear h; have HH := Lib.hid H.out; obtain ⟨yc0, yc1, yc2, yc3, yc4, yc5, yc6, yc7, yc8, yc9, yc10, yc11, yf0, yf1, yf2, yf3, yf4, yf5, yf6, yf7, yf8, yf9, yf10, yf11⟩ := raw12 (b := w.heap.size) (by first | exact HH.out | exact HH.out.p1 | exact HH.out.p2); obtain ⟨xc0, xc1, xc2, xc3, xc4, xc5, xc6, xc7, xc8, xc9, xc10, xc11, xf0, xf1, xf2, xf3, xf4, xf5, xf6, xf7, xf8, xf9, xf10, xf11⟩ := raw12 (b := bb2) (by first | exact HH.out | exact HH.out.p1 | exact HH.out.p2))
      | (go_at_call 23; (with_reducible refine (s_err _ _ (by first | exact H.out | exact H.out.p1 | exact H.out.p2)).mono ?_); rintro e wn ⟨rfl, h⟩; replace H := Lib.hid h; clear h; have HH := Lib.hid H.out; obtain ⟨yc0, yc1, yc2, yc3, yc4, yc5, yc6, yc7, yc8, yc9, yc10, yc11, yf0, yf1, yf2, yf3, yf4, yf5, yf6, yf7, yf8, yf9, yf10, yf11⟩ := raw12 (b := w.heap.size) (by first | exact HH.out | exact HH.out.p1 | exact HH.out.p2); obtain ⟨xc0, xc1, xc2, xc3, xc4, xc5, xc6, xc7, xc8, xc9, xc10, xc11, xf0, xf1, xf2, xf3, xf4, xf5, xf6, xf7, xf8, xf9, xf10, xf11⟩ := raw12 (b := bb2) (by first | exact HH.out | exact HH.out.p1 | exact HH.out.p2)))
    refine bodyPost_ret (v := .agg #[.int .i64 0, .int .i64 0, .int .i64 0, .int .i64 0, .int .i64 0, .int .i64 0, .int .i64 0, .int .i64 0, .int .i64 0, .int .i64 0, .int .i64 0, .int .i64 0]) (by simp [results, Try.results61, go_sem, yc0, yc1, yc2, yc3, yc4, yc5, yc6, yc7, yc8, yc9, yc10, yc11]) rfl ⟨rfl, ?_⟩
    exact ((((((((((((H.out.p2.rawSet 0 _).rawSet 1 _).rawSet 2 _).rawSet 3 _).rawSet 4 _).rawSet 5 _).rawSet 6 _).rawSet 7 _).rawSet 8 _).rawSet 9 _).rawSet 10 _).rawSet 11 _).drop.p1.drop

set_option maxHeartbeats 1000000 in
set_option maxRecDepth 100000 in
theorem prefix_read_010 (p : Nat) (i i1 i2 i3 i4 i5 i6 i7 i8 i9 i10 i11 i12 i13 j1 j2 j3 : InS) (a0 a1 a2 a3 a4 a5 a6 a7 a8 a9 a10 a11 a12 sm : Int) (e0 : i.int 8 = (a0, i1)) (e1 : i1.int 4 = (a1, i2)) (e2 : i2.int 4 = (a2, i3)) (e3 : i3.int 1 = (a3, i4)) (e4 : i4.int 4 = (a4, i5)) (e5 : i5.int 2 = (a5, i6)) (e6 : i6.int 4 = (a6, i7)) (e7 : i7.int 8 = (a7, i8)) (e8 : i8.int 8 = (a8, i9)) (e9 : i9.int 8 = (a9, i10)) (e10 : i10.int 2 = (a10, i11)) (e11 : i11.int 4 = (a11, i12)) (e12 : i12.int 4 = (a12, i13)) (hsm : bits .and .i64 a4 4294967295 = sm)
    (hm : (a3 != 2) = true) (hl : a1 < 49) (hn : ¬ a12 < 0) (hJ1 : j1 = i13.fail 6) (hJ2 : j2 = j1.fail 4) (hJ3 : j3 = j2) {W0 w : World} {K : Know} {L : List Res} (h : St W0 w K (.inp p i :: L)) :
    Calls Try.prog 61 #[inPtr p] w fun en w' => en = .returned (if j3.err = 0 then .agg #[.int .i64 a0, .int .i64 a1, .int .i64 a2, .int .i64 sm, .int .i64 a5, .int .i64 a6, .int .i64 a7, .int .i64 a8, .int .i64 a9, .int .i64 a10, .int .i64 a11, .int .i64 a12] else .agg #[.int .i64 0, .int .i64 0, .int .i64 0, .int .i64 0, .int .i64 0, .int .i64 0, .int .i64 0, .int .i64 0, .int .i64 0, .int .i64 0, .int .i64 0, .int .i64 0]) ∧ St W0 w' K (.inp p j3 :: L) := by
  have H := Lib.hid (h.allocRaw #[.int .i64 0, .int .i64 0, .int .i64 0, .int .i64 0, .int .i64 0, .int .i64 0, .int .i64 0, .int .i64 0, .int .i64 0, .int .i64 0, .int .i64 0, .int .i64 0] 73).p1
  have EF := Lib.hid (fun (W0' w' : World) (K' : Know) (L' : List Res) (h' : St W0' w' K' (.inp p i :: L')) => prefix_fields p i i1 i2 i3 i4 i5 i6 i7 i8 i9 i10 i11 i12 i13 a0 a1 a2 a3 a4 a5 a6 a7 a8 a9 a10 a11 a12 sm e0 e1 e2 e3 e4 e5 e6 e7 e8 e9 e10 e11 e12 hsm h')
  clear h e0 e1 e2 e3 e4 e5 e6 e7 e8 e9 e10 e11 e12 hsm
  have EJ1 := Lib.hid hJ1.symm
  clear hJ1
  have EJ2 := Lib.hid hJ2.symm
  clear hJ2
  subst hJ3
  by_cases hz : j3.err = 0
  · rw [if_pos hz]
    have HZ := Lib.hid hz
    clear hz
    go_enter Try.func61, Try.ntmps61
    go_wp2_with (first
      | (go_at_call 86; (with_reducible refine (EF.out _ _ _ _ H.out).mono ?_); rintro e wn ⟨rfl, h⟩; obtain ⟨bb2, hbb2⟩ : ∃ b, wn.heap.size = b := ⟨_, rfl⟩; have h := h.allocRaw #[.int .i64 a0, .int .i64 a1, .int .i64 a2, .int .i64 sm, .int .i64 a5, .int .i64 a6, .int .i64 a7, .int .i64 a8, .int .i64 a9, .int .i64 a10, .int .i64 a11, .int .i64 a12] 73; rw [hbb2] at h; replace H := Lib.hid h; clear h; have HH := Lib.hid H.out; obtain ⟨yc0, yc1, yc2, yc3, yc4, yc5, yc6, yc7, yc8, yc9, yc10, yc11, yf0, yf1, yf2, yf3, yf4, yf5, yf6, yf7, yf8, yf9, yf10, yf11⟩ := raw12 (b := w.heap.size) (by first | exact HH.out | exact HH.out.p1 | exact HH.out.p2); obtain ⟨xc0, xc1, xc2, xc3, xc4, xc5, xc6, xc7, xc8, xc9, xc10, xc11, xf0, xf1, xf2, xf3, xf4, xf5, xf6, xf7, xf8, xf9, xf10, xf11⟩ := raw12 (b := bb2) (by first | exact HH.out | exact HH.out.p1 | exact HH.out.p2))
      | (go_at_call 24; (with_reducible refine (s_fail _ _ _ (by first | exact H.out | exact H.out.p1 | exact H.out.p2)).mono ?_); (repeat first | rw [EJ1.out] | rw [EJ2.out] ); rintro e wn ⟨rfl, h⟩; replace H := Lib.hid h; clear h; have HH := Lib.hid H.out; obtain ⟨yc0, yc1, yc2, yc3, yc4, yc5, yc6, yc7, yc8, yc9, yc10, yc11, yf0, yf1, yf2, yf3, yf4, yf5, yf6, yf7, yf8, yf9, yf10, yf11⟩ := raw12 (b := w.heap.size) (by first | exact HH.out | exact HH.out.p1 | exact HH.out.p2); obtain ⟨xc0, xc1, xc2, xc3, xc4, xc5, xc6, xc7, xc8, xc9, xc10, xc11, xf0, xf1, xf2, xf3, xf4, xf5, xf6, xf7, xf8, xf9, xf10, xf11⟩ := raw12 (b := bb2) (by first | exact HH.out | exact HH.out.p1 | exact HH.out.p2))
      | (go_at_call 23; (with_reducible refine (s_err _ _ (by first | exact H.out | exact H.out.p1 | exact H.out.p2)).mono ?_); rw [HZ.out]; rintro e wn ⟨rfl, h⟩; replace H := Lib.hid h; clear h; have HH := Lib.hid H.out; obtain ⟨yc0, yc1, yc2, yc3, yc4, yc5, yc6, yc7, yc8, yc9, yc10, yc11, yf0, yf1, yf2, yf3, yf4, yf5, yf6, yf7, yf8, yf9, yf10, yf11⟩ := raw12 (b := w.heap.size) (by first | exact HH.out | exact HH.out.p1 | exact HH.out.p2); obtain ⟨xc0, xc1, xc2, xc3, xc4, xc5, xc6, xc7, xc8, xc9, xc10, xc11, xf0, xf1, xf2, xf3, xf4, xf5, xf6, xf7, xf8, xf9, xf10, xf11⟩ := raw12 (b := bb2) (by first | exact HH.out | exact HH.out.p1 | exact HH.out.p2)))
    refine bodyPost_ret (v := .agg #[.int .i64 a0, .int .i64 a1, .int .i64 a2, .int .i64 sm, .int .i64 a5, .int .i64 a6, .int .i64 a7, .int .i64 a8, .int .i64 a9, .int .i64 a10, .int .i64 a11, .int .i64 a12]) (by simp [results, Try.results61, go_sem, yc0, yc1, yc2, yc3, yc4, yc5, yc6, yc7, yc8, yc9, yc10, yc11]) rfl ⟨rfl, ?_⟩
    exact ((((((((((((H.out.p2.rawSet 0 _).rawSet 1 _).rawSet 2 _).rawSet 3 _).rawSet 4 _).rawSet 5 _).rawSet 6 _).rawSet 7 _).rawSet 8 _).rawSet 9 _).rawSet 10 _).rawSet 11 _).drop.p1.drop
  · rw [if_neg hz]
    have hzb : (j3.err != 0) = true := by rw [bne_iff_ne]; exact hz
    clear hz
    go_enter Try.func61, Try.ntmps61
    go_wp2_with (first
      | (go_at_call 86; (with_reducible refine (EF.out _ _ _ _ H.out).mono ?_); rintro e wn ⟨rfl, h⟩; obtain ⟨bb2, hbb2⟩ : ∃ b, wn.heap.size = b := ⟨_, rfl⟩; have h := h.allocRaw #[.int .i64 a0, .int .i64 a1, .int .i64 a2, .int .i64 sm, .int .i64 a5, .int .i64 a6, .int .i64 a7, .int .i64 a8, .int .i64 a9, .int .i64 a10, .int .i64 a11, .int .i64 a12] 73; rw [hbb2] at h; replace H := Lib.hid h; clear h; have HH := Lib.hid H.out; obtain ⟨yc0, yc1, yc2, yc3, yc4, yc5, yc6, yc7, yc8, yc9, yc10, yc11, yf0, yf1, yf2, yf3, yf4, yf5, yf6, yf7, yf8, yf9, yf10, yf11⟩ := raw12 (b := w.heap.size) (by first | exact HH.out | exact HH.out.p1 | exact HH.out.p2); obtain ⟨xc0, xc1, xc2, xc3, xc4, xc5, xc6, xc7, xc8, xc9, xc10, xc11, xf0, xf1, xf2, xf3, xf4, xf5, xf6, xf7, xf8, xf9, xf10, xf11⟩ := raw12 (b := bb2) (by first | exact HH.out | exact HH.out.p1 | exact HH.out.p2))
      | (go_at_call 24; (with_reducible refine (s_fail _ _ _ (by first | exact H.out | exact H.out.p1 | exact H.out.p2)).mono ?_); (repeat first | rw [EJ1.out] | rw [EJ2.out] ); rintro e wn ⟨rfl, h⟩; replace H := Lib.hid h; clear h; have HH := Lib.hid H.out; obtain ⟨yc0, yc1, yc2, yc3, yc4, yc5, yc6, yc7, yc8, yc9, yc10, yc11, yf0, yf1, yf2, yf3, yf4, yf5, yf6, yf7, yf8, yf9, yf10, yf11⟩ := raw12 (b := w.heap.size) (by first | exact HH.out | exact HH.out.p1 | exact HH.out.p2); obtain ⟨xc0, xc1, xc2, xc3, xc4, xc5, xc6, xc7, xc8, xc9, xc10, xc11, xf0, xf1, xf2, xf3, xf4, xf5, xf6, xf7, xf8, xf9, xf10, xf11⟩ := raw12 (b := bb2) (by first | exact HH.out | exact HH.out.p1 | exact HH.out.p2))
      | (go_at_call 23; (with_reducible refine (s_err _ _ (by first | exact H.out | exact H.out.p1 | exact H.out.p2)).mono ?_); rintro e wn ⟨rfl, h⟩; replace H := Lib.hid h; clear h; have HH := Lib.hid H.out; obtain ⟨yc0, yc1, yc2, yc3, yc4, yc5, yc6, yc7, yc8, yc9, yc10, yc11, yf0, yf1, yf2, yf3, yf4, yf5, yf6, yf7, yf8, yf9, yf10, yf11⟩ := raw12 (b := w.heap.size) (by first | exact HH.out | exact HH.out.p1 | exact HH.out.p2); obtain ⟨xc0, xc1, xc2, xc3, xc4, xc5, xc6, xc7, xc8, xc9, xc10, xc11, xf0, xf1, xf2, xf3, xf4, xf5, xf6, xf7, xf8, xf9, xf10, xf11⟩ := raw12 (b := bb2) (by first | exact HH.out | exact HH.out.p1 | exact HH.out.p2)))
    refine bodyPost_ret (v := .agg #[.int .i64 0, .int .i64 0, .int .i64 0, .int .i64 0, .int .i64 0, .int .i64 0, .int .i64 0, .int .i64 0, .int .i64 0, .int .i64 0, .int .i64 0, .int .i64 0]) (by simp [results, Try.results61, go_sem, yc0, yc1, yc2, yc3, yc4, yc5, yc6, yc7, yc8, yc9, yc10, yc11]) rfl ⟨rfl, ?_⟩
    exact ((((((((((((H.out.p2.rawSet 0 _).rawSet 1 _).rawSet 2 _).rawSet 3 _).rawSet 4 _).rawSet 5 _).rawSet 6 _).rawSet 7 _).rawSet 8 _).rawSet 9 _).rawSet 10 _).rawSet 11 _).drop.p1.drop

set_option maxHeartbeats 1000000 in
set_option maxRecDepth 100000 in
theorem prefix_read_011 (p : Nat) (i i1 i2 i3 i4 i5 i6 i7 i8 i9 i10 i11 i12 i13 j1 j2 j3 : InS) (a0 a1 a2 a3 a4 a5 a6 a7 a8 a9 a10 a11 a12 sm : Int) (e0 : i.int 8 = (a0, i1)) (e1 : i1.int 4 = (a1, i2)) (e2 : i2.int 4 = (a2, i3)) (e3 : i3.int 1 = (a3, i4)) (e4 : i4.int 4 = (a4, i5)) (e5 : i5.int 2 = (a5, i6)) (e6 : i6.int 4 = (a6, i7)) (e7 : i7.int 8 = (a7, i8)) (e8 : i8.int 8 = (a8, i9)) (e9 : i9.int 8 = (a9, i10)) (e10 : i10.int 2 = (a10, i11)) (e11 : i11.int 4 = (a11, i12)) (e12 : i12.int 4 = (a12, i13)) (hsm : bits .and .i64 a4 4294967295 = sm)
    (hm : (a3 != 2) = true) (hl : a1 < 49) (hn : a12 < 0) (hJ1 : j1 = i13.fail 6) (hJ2 : j2 = j1.fail 4) (hJ3 : j3 = j2.fail 10) {W0 w : World} {K : Know} {L : List Res} (h : St W0 w K (.inp p i :: L)) :
    Calls Try.prog 61 #[inPtr p] w fun en w' => en = .returned (if j3.err = 0 then .agg #[.int .i64 a0, .int .i64 a1, .int .i64 a2, .int .i64 sm, .int .i64 a5, .int .i64 a6, .int .i64 a7, .int .i64 a8, .int .i64 a9, .int .i64 a10, .int .i64 a11, .int .i64 a12] else .agg #[.int .i64 0, .int .i64 0, .int .i64 0, .int .i64 0, .int .i64 0, .int .i64 0, .int .i64 0, .int .i64 0, .int .i64 0, .int .i64 0, .int .i64 0, .int .i64 0]) ∧ St W0 w' K (.inp p j3 :: L) := by
  have H := Lib.hid (h.allocRaw #[.int .i64 0, .int .i64 0, .int .i64 0, .int .i64 0, .int .i64 0, .int .i64 0, .int .i64 0, .int .i64 0, .int .i64 0, .int .i64 0, .int .i64 0, .int .i64 0] 73).p1
  have EF := Lib.hid (fun (W0' w' : World) (K' : Know) (L' : List Res) (h' : St W0' w' K' (.inp p i :: L')) => prefix_fields p i i1 i2 i3 i4 i5 i6 i7 i8 i9 i10 i11 i12 i13 a0 a1 a2 a3 a4 a5 a6 a7 a8 a9 a10 a11 a12 sm e0 e1 e2 e3 e4 e5 e6 e7 e8 e9 e10 e11 e12 hsm h')
  clear h e0 e1 e2 e3 e4 e5 e6 e7 e8 e9 e10 e11 e12 hsm
  have EJ1 := Lib.hid hJ1.symm
  clear hJ1
  have EJ2 := Lib.hid hJ2.symm
  clear hJ2
  have EJ3 := Lib.hid hJ3.symm
  clear hJ3
  by_cases hz : j3.err = 0
  · rw [if_pos hz]
    have HZ := Lib.hid hz
    clear hz
    go_enter Try.func61, Try.ntmps61
    go_wp2_with (first
      | (go_at_call 86; (with_reducible refine (EF.out _ _ _ _ H.out).mono ?_); rintro e wn ⟨rfl, h⟩; obtain ⟨bb2, hbb2⟩ : ∃ b, wn.heap.size = b := ⟨_, rfl⟩; have h := h.allocRaw #[.int .i64 a0, .int .i64 a1, .int .i64 a2, .int .i64 sm, .int .i64 a5, .int .i64 a6, .int .i64 a7, .int .i64 a8, .int .i64 a9, .int .i64 a10, .int .i64 a11, .int .i64 a12] 73; rw [hbb2] at h; replace H := Lib.hid h; clear h; have HH := Lib.hid H.out; obtain ⟨yc0, yc1, yc2, yc3, yc4, yc5, yc6, yc7, yc8, yc9, yc10, yc11, yf0, yf1, yf2, yf3, yf4, yf5, yf6, yf7, yf8, yf9, yf10, yf11⟩ := raw12 (b := w.heap.size) (by first | exact HH.out | exact HH.out.p1 | exact HH.out.p2); obtain ⟨xc0, xc1, xc2, xc3, xc4, xc5, xc6, xc7, xc8, xc9, xc10, xc11, xf0, xf1, xf2, xf3, xf4, xf5, xf6, xf7, xf8, xf9, xf10, xf11⟩ := raw12 (b := bb2) (by first | exact HH.out | exact HH.out.p1 | exact HH.out.p2))
      | (go_at_call 24; (with_reducible refine (s_fail _ _ _ (by first | exact H.out | exact H.out.p1 | exact H.out.p2)).mono ?_); (repeat first | rw [EJ1.out] | rw [EJ2.out] | rw [EJ3.out] ); rintro e wn ⟨rfl, h⟩; replace H := Lib.hid h; clear h; have HH := Lib.hid H.out; obtain ⟨yc0, yc1, yc2, yc3, yc4, yc5, yc6, yc7, yc8, yc9, yc10, yc11, yf0, yf1, yf2, yf3, yf4, yf5, yf6, yf7, yf8, yf9, yf10, yf11⟩ := raw12 (b := w.heap.size) (by first | exact HH.out | exact HH.out.p1 | exact HH.out.p2); obtain ⟨xc0, xc1, xc2, xc3, xc4, xc5, xc6, xc7, xc8, xc9, xc10, xc11, xf0, xf1, xf2, xf3, xf4, xf5, xf6, xf7, xf8, xf9, xf10, xf11⟩ := raw12 (b := bb2) (by first | exact HH.out | exact HH.out.p1 | exact HH.out.p2))
      | (go_at_call 23; (with_reducible refine (s_err _ _ (by first | exact H.out | exact H.out.p1 | exact H.out.p2)).mono ?_); rw [HZ.out]; rintro e wn ⟨rfl, h⟩; replace H := Lib.hid h; clear h; have HH := Lib.hid H.out; obtain ⟨yc0, yc1, yc2, yc3, yc4, yc5, yc6, yc7, yc8, yc9, yc10, yc11, yf0, yf1, yf2, yf3, yf4, yf5, yf6, yf7, yf8, yf9, yf10, yf11⟩ := raw12 (b := w.heap.size) (by first | exact HH.out | exact HH.out.p1 | exact HH.out.p2); obtain ⟨xc0, xc1, xc2, xc3, xc4, xc5, xc6, xc7, xc8, xc9, xc10, xc11, xf0, xf1, xf2, xf3, xf4, xf5, xf6, xf7, xf8, xf9, xf10, xf11⟩ := raw12 (b := bb2) (by first | exact HH.out | exact HH.out.p1 | exact HH.out.p2)))
    refine bodyPost_ret (v := .agg #[.int .i64 a0, .int .i64 a1, .int .i64 a2, .int .i64 sm, .int .i64 a5, .int .i64 a6, .int .i64 a7, .int .i64 a8, .int .i64 a9, .int .i64 a10, .int .i64 a11, .int .i64 a12]) (by simp [results, Try.results61, go_sem, yc0, yc1, yc2, yc3, yc4, yc5, yc6, yc7, yc8, yc9, yc10, yc11]) rfl ⟨rfl, ?_⟩
    exact ((((((((((((H.out.p2.rawSet 0 _).rawSet 1 _).rawSet 2 _).rawSet 3 _).rawSet 4 _).rawSet 5 _).rawSet 6 _).rawSet 7 _).rawSet 8 _).rawSet 9 _).rawSet 10 _).rawSet 11 _).drop.p1.drop
  · rw [if_neg hz]
    have hzb : (j3.err != 0) = true := by rw [bne_iff_ne]; exact hz
    clear hz
    go_enter Try.func61, Try.ntmps61
    go_wp2_with (first
      | (go_at_call 86; (with_reducible refine (EF.out _ _ _ _ H.out).mono ?_); rintro e wn ⟨rfl, h⟩; obtain ⟨bb2, hbb2⟩ : ∃ b, wn.heap.size = b := ⟨_, rfl⟩; have h := h.allocRaw #[.int .i64 a0, .int .i64 a1, .int .i64 a2, .int .i64 sm, .int .i64 a5, .int .i64 a6, .int .i64 a7, .int .i64 a8, .int .i64 a9, .int .i64 a10, .int .i64 a11, .int .i64 a12] 73; rw [hbb2] at h; replace H := Lib.hid h; clear h; have HH := Lib.hid H.out; obtain ⟨yc0, yc1, yc2, yc3, yc4, yc5, yc6, yc7, yc8, yc9, yc10, yc11, yf0, yf1, yf2, yf3, yf4, yf5, yf6, yf7, yf8, yf9, yf10, yf11⟩ := raw12 (b := w.heap.size) (by first | exact HH.out | exact HH.out.p1 | exact HH.out.p2); obtain ⟨xc0, xc1, xc2, xc3, xc4, xc5, xc6, xc7, xc8, xc9, xc10, xc11, xf0, xf1, xf2, xf3, xf4, xf5, xf6, xf7, xf8, xf9, xf10, xf11⟩ := raw12 (b := bb2) (by first | exact HH.out | exact HH.out.p1 | exact HH.out.p2))
      | (go_at_call 24; (with_reducible refine (s_fail _ _ _ (by first | exact H.out | exact H.out.p1 | exact H.out.p2)).mono ?_); (repeat first | rw [EJ1.out] | rw [EJ2.out] | rw [EJ3.out] ); rintro e wn ⟨rfl, h⟩; replace H := Lib.hid h; clear h; have HH := Lib.hid H.out; obtain ⟨yc0, yc1, yc2, yc3, yc4, yc5, yc6, yc7, yc8, yc9, yc10, yc11, yf0, yf1, yf2, yf3, yf4, yf5, yf6, yf7, yf8, yf9, yf10, yf11⟩ := raw12 (b := w.heap.size) (by first | exact HH.out | exact HH.out.p1 | exact HH.out.p2); obtain ⟨xc0, xc1, xc2, xc3, xc4, xc5, xc6, xc7, xc8, xc9, xc10, xc11, xf0, xf1, xf2, xf3, xf4, xf5, xf6, xf7, xf8, xf9, xf10, xf11⟩ := raw12 (b := bb2) (by first | exact HH.out | exact HH.out.p1 | exact HH.out.p2))
      | (go_at_call 23; (with_reducible refine (s_err _ _ (by first | exact H.out | exact H.out.p1 | exact H.out.p2)).mono ?_); rintro e wn ⟨rfl, h⟩; replace H := Lib.hid h; clear h; have HH := Lib.hid H.out; obtain ⟨yc0, yc1, yc2, yc3, yc4, yc5, yc6, yc7, yc8, yc9, yc10, yc11, yf0, yf1, yf2, yf3, yf4, yf5, yf6, yf7, yf8, yf9, yf10, yf11⟩ := raw12 (b := w.heap.size) (by first | exact HH.out | exact HH.out.p1 | exact HH.out.p2); obtain ⟨xc0, xc1, xc2, xc3, xc4, xc5, xc6, xc7, xc8, xc9, xc10, xc11, xf0, xf1, xf2, xf3, xf4, xf5, xf6, xf7, xf8, xf9, xf10, xf11⟩ := raw12 (b := bb2) (by first | exact HH.out | exact HH.out.p1 | exact HH.out.p2)))
    refine bodyPost_ret (v := .agg #[.int .i64 0, .int .i64 0, .int .i64 0, .int .i64 0, .int .i64 0, .int .i64 0, .int .i64 0, .int .i64 0, .int .i64 0, .int .i64 0, .int .i64 0, .int .i64 0]) (by simp [results, Try.results61, go_sem, yc0, yc1, yc2, yc3, yc4, yc5, yc6, yc7, yc8, yc9, yc10, yc11]) rfl ⟨rfl, ?_⟩
    exact ((((((((((((H.out.p2.rawSet 0 _).rawSet 1 _).rawSet 2 _).rawSet 3 _).rawSet 4 _).rawSet 5 _).rawSet 6 _).rawSet 7 _).rawSet 8 _).rawSet 9 _).rawSet 10 _).rawSet 11 _).drop.p1.drop

set_option maxHeartbeats 1000000 in
set_option maxRecDepth 100000 in
theorem prefix_read_100 (p : Nat) (i i1 i2 i3 i4 i5 i6 i7 i8 i9 i10 i11 i12 i13 j1 j2 j3 : InS) (a0 a1 a2 a3 a4 a5 a6 a7 a8 a9 a10 a11 a12 sm : Int) (e0 : i.int 8 = (a0, i1)) (e1 : i1.int 4 = (a1, i2)) (e2 : i2.int 4 = (a2, i3)) (e3 : i3.int 1 = (a3, i4)) (e4 : i4.int 4 = (a4, i5)) (e5 : i5.int 2 = (a5, i6)) (e6 : i6.int 4 = (a6, i7)) (e7 : i7.int 8 = (a7, i8)) (e8 : i8.int 8 = (a8, i9)) (e9 : i9.int 8 = (a9, i10)) (e10 : i10.int 2 = (a10, i11)) (e11 : i11.int 4 = (a11, i12)) (e12 : i12.int 4 = (a12, i13)) (hsm : bits .and .i64 a4 4294967295 = sm)
    (hm : (a3 != 2) = false) (hl : ¬ a1 < 49) (hn : ¬ a12 < 0) (hJ1 : j1 = i13) (hJ2 : j2 = j1) (hJ3 : j3 = j2) {W0 w : World} {K : Know} {L : List Res} (h : St W0 w K (.inp p i :: L)) :
    Calls Try.prog 61 #[inPtr p] w fun en w' => en = .returned (if j3.err = 0 then .agg #[.int .i64 a0, .int .i64 a1, .int .i64 a2, .int .i64 sm, .int .i64 a5, .int .i64 a6, .int .i64 a7, .int .i64 a8, .int .i64 a9, .int .i64 a10, .int .i64 a11, .int .i64 a12] else .agg #[.int .i64 0, .int .i64 0, .int .i64 0, .int .i64 0, .int .i64 0, .int .i64 0, .int .i64 0, .int .i64 0, .int .i64 0, .int .i64 0, .int .i64 0, .int .i64 0]) ∧ St W0 w' K (.inp p j3 :: L) := by
  have H := Lib.hid (h.allocRaw #[.int .i64 0, .int .i64 0, .int .i64 0, .int .i64 0, .int .i64 0, .int .i64 0, .int .i64 0, .int .i64 0, .int .i64 0, .int .i64 0, .int .i64 0, .int .i64 0] 73).p1
  have EF := Lib.hid (fun (W0' w' : World) (K' : Know) (L' : List Res) (h' : St W0' w' K' (.inp p i :: L')) => prefix_fields p i i1 i2 i3 i4 i5 i6 i7 i8 i9 i10 i11 i12 i13 a0 a1 a2 a3 a4 a5 a6 a7 a8 a9 a10 a11 a12 sm e0 e1 e2 e3 e4 e5 e6 e7 e8 e9 e10 e11 e12 hsm h')
  clear h e0 e1 e2 e3 e4 e5 e6 e7 e8 e9 e10 e11 e12 hsm
  subst hJ1
  subst hJ2
  subst hJ3
  by_cases hz : j3.err = 0
  · rw [if_pos hz]
    have HZ := Lib.hid hz
    clear hz
    go_enter Try.func61, Try.ntmps61
    go_wp2_with (first
      | (go_at_call 86; (with_reducible refine (EF.out _ _ _ _ H.out).mono ?_); rintro e wn ⟨rfl, h⟩; obtain ⟨bb2, hbb2⟩ : ∃ b, wn.heap.size = b := ⟨_, rfl⟩; have h := h.allocRaw #[.int .i64 a0, .int .i64 a1, .int .i64 a2, .int .i64 sm, .int .i64 a5, .int .i64 a6, .int .i64 a7, .int .i64 a8, .int .i64 a9, .int .i64 a10, .int .i64 a11, .int .i64 a12] 73; rw [hbb2] at h; replace H := Lib.hid h; clear h; have HH := Lib.hid H.out; obtain ⟨yc0, yc1, yc2, yc3, yc4, yc5, yc6, yc7, yc8, yc9, yc10, yc11, yf0, yf1, yf2, yf3, yf4, yf5, yf6, yf7, yf8, yf9, yf10, yf11⟩ := raw12 (b := w.heap.size) (by first | exact HH.out | exact HH.out.p1 | exact HH.out.p2); obtain ⟨xc0, xc1, xc2, xc3, xc4, xc5, xc6, xc7, xc8, xc9, xc10, xc11, xf0, xf1, xf2, xf3, xf4, xf5, xf6, xf7, xf8, xf9, xf10, xf11⟩ := raw12 (b := bb2) (by first | exact HH.out | exact HH.out.p1 | exact HH.out.p2))
      | (go_at_call 23; (with_reducible refine (s_err _ _ (by first | exact H.out | exact H.out.p1 | exact H.out.p2)).mono ?_); rw [HZ.out]; rintro e wn ⟨rfl, h⟩; replace H := Lib.hid h; clear h; have HH := Lib.hid H.out; obtain ⟨yc0, yc1, yc2, yc3, yc4, yc5, yc6, yc7, yc8, yc9, yc10, yc11, yf0, yf1, yf2, yf3, yf4, yf5, yf6, yf7, yf8, yf9, yf10, yf11⟩ := raw12 (b := w.heap.size) (by first | exact HH.out | exact HH.out.p1 | exact HH.out.p2); obtain ⟨xc0, xc1, xc2, xc3, xc4, xc5, xc6, xc7, xc8, xc9, xc10, xc11, xf0, xf1, xf2, xf3, xf4, xf5, xf6, xf7, xf8, xf9, xf10, xf11⟩ := raw12 (b := bb2) (by first | exact HH.out | exact HH.out.p1 | exact HH.out.p2)))
    refine bodyPost_ret (v := .agg #[.int .i64 a0, .int .i64 a1, .int .i64 a2, .int .i64 sm, .int .i64 a5, .int .i64 a6, .int .i64 a7, .int .i64 a8, .int .i64 a9, .int .i64 a10, .int .i64 a11, .int .i64 a12]) (by simp [results, Try.results61, go_sem, yc0, yc1, yc2, yc3, yc4, yc5, yc6, yc7, yc8, yc9, yc10, yc11]) rfl ⟨rfl, ?_⟩
    exact ((((((((((((H.out.p2.rawSet 0 _).rawSet 1 _).rawSet 2 _).rawSet 3 _).rawSet 4 _).rawSet 5 _).rawSet 6 _).rawSet 7 _).rawSet 8 _).rawSet 9 _).rawSet 10 _).rawSet 11 _).drop.p1.drop
  · rw [if_neg hz]
    have hzb : (j3.err != 0) = true := by rw [bne_iff_ne]; exact hz
    clear hz
    go_enter Try.func61, Try.ntmps61
    go_wp2_with (first
      | (go_at_call 86; (with_reducible refine (EF.out _ _ _ _ H.out).mono ?_); rintro e wn ⟨rfl, h⟩; obtain ⟨bb2, hbb2⟩ : ∃ b, wn.heap.size = b := ⟨_, rfl⟩; have h := h.allocRaw #[.int .i64 a0, .int .i64 a1, .int .i64 a2, .int .i64 sm, .int .i64 a5, .int .i64 a6, .int .i64 a7, .int .i64 a8, .int .i64 a9, .int .i64 a10, .int .i64 a11, .int .i64 a12] 73; rw [hbb2] at h; replace H := Lib.hid h; clear h; have HH := Lib.hid H.out; obtain ⟨yc0, yc1, yc2, yc3, yc4, yc5, yc6, yc7, yc8, yc9, yc10, yc11, yf0, yf1, yf2, yf3, yf4, yf5, yf6, yf7, yf8, yf9, yf10, yf11⟩ := raw12 (b := w.heap.size) (by first | exact HH.out | exact HH.out.p1 | exact HH.out.p2); obtain ⟨xc0, xc1, xc2, xc3, xc4, xc5, xc6, xc7, xc8, xc9, xc10, xc11, xf0, xf1, xf2, xf3, xf4, xf5, xf6, xf7, xf8, xf9, xf10, xf11⟩ := raw12 (b := bb2) (by first | exact HH.out | exact HH.out.p1 | exact HH.out.p2))
      | (go_at_call 23; (with_reducible refine (s_err _ _ (by first | exact H.out | exact H.out.p1 | exact H.out.p2)).mono ?_); rintro e wn ⟨rfl, h⟩; replace H := Lib.hid h; clear h; have HH := Lib.hid H.out; obtain ⟨yc0, yc1, yc2, yc3, yc4, yc5, yc6, yc7, yc8, yc9, yc10, yc11, yf0, yf1, yf2, yf3, yf4, yf5, yf6, yf7, yf8, yf9, yf10, yf11⟩ := raw12 (b := w.heap.size) (by first | exact HH.out | exact HH.out.p1 | exact HH.out.p2); obtain ⟨xc0, xc1, xc2, xc3, xc4, xc5, xc6, xc7, xc8, xc9, xc10, xc11, xf0, xf1, xf2, xf3, xf4, xf5, xf6, xf7, xf8, xf9, xf10, xf11⟩ := raw12 (b := bb2) (by first | exact HH.out | exact HH.out.p1 | exact HH.out.p2)))
    refine bodyPost_ret (v := .agg #[.int .i64 0, .int .i64 0, .int .i64 0, .int .i64 0, .int .i64 0, .int .i64 0, .int .i64 0, .int .i64 0, .int .i64 0, .int .i64 0, .int .i64 0, .int .i64 0]) (by simp [results, Try.results61, go_sem, yc0, yc1, yc2, yc3, yc4, yc5, yc6, yc7, yc8, yc9, yc10, yc11]) rfl ⟨rfl, ?_⟩
    exact ((((((((((((H.out.p2.rawSet 0 _).rawSet 1 _).rawSet 2 _).rawSet 3 _).rawSet 4 _).rawSet 5 _).rawSet 6 _).rawSet 7 _).rawSet 8 _).rawSet 9 _).rawSet 10 _).rawSet 11 _).drop.p1.drop

set_option maxHeartbeats 1000000 in
set_option maxRecDepth 100000 in
theorem prefix_read_101 (p : Nat) (i i1 i2 i3 i4 i5 i6 i7 i8 i9 i10 i11 i12 i13 j1 j2 j3 : InS) (a0 a1 a2 a3 a4 a5 a6 a7 a8 a9 a10 a11 a12 sm : Int) (e0 : i.int 8 = (a0, i1)) (e1 : i1.int 4 = (a1, i2)) (e2 : i2.int 4 = (a2, i3)) (e3 : i3.int 1 = (a3, i4)) (e4 : i4.int 4 = (a4, i5)) (e5 : i5.int 2 = (a5, i6)) (e6 : i6.int 4 = (a6, i7)) (e7 : i7.int 8 = (a7, i8)) (e8 : i8.int 8 = (a8, i9)) (e9 : i9.int 8 = (a9, i10)) (e10 : i10.int 2 = (a10, i11)) (e11 : i11.int 4 = (a11, i12)) (e12 : i12.int 4 = (a12, i13)) (hsm : bits .and .i64 a4 4294967295 = sm)
    (hm : (a3 != 2) = false) (hl : ¬ a1 < 49) (hn : a12 < 0) (hJ1 : j1 = i13) (hJ2 : j2 = j1) (hJ3 : j3 = j2.fail 10) {W0 w : World} {K : Know} {L : List Res} (h : St W0 w K (.inp p i :: L)) :
    Calls Try.prog 61 #[inPtr p] w fun en w' => en = .returned (if j3.err = 0 then .agg #[.int .i64 a0, .int .i64 a1, .int .i64 a2, .int .i64 sm, .int .i64 a5, .int .i64 a6, .int .i64 a7, .int .i64 a8, .int .i64 a9, .int .i64 a10, .int .i64 a11, .int .i64 a12] else .agg #[.int .i64 0, .int .i64 0, .int .i64 0, .int .i64 0, .int .i64 0, .int .i64 0, .int .i64 0, .int .i64 0, .int .i64 0, .int .i64 0, .int .i64 0, .int .i64 0]) ∧ St W0 w' K (.inp p j3 :: L) := by
  have H := Lib.hid (h.allocRaw #[.int .i64 0, .int .i64 0, .int .i64 0, .int .i64 0, .int .i64 0, .int .i64 0, .int .i64 0, .int .i64 0, .int .i64 0, .int .i64 0, .int .i64 0, .int .i64 0] 73).p1
  have EF := Lib.hid (fun (W0' w' : World) (K' : Know) (L' : List Res) (h' : St W0' w' K' (.inp p i :: L')) => prefix_fields p i i1 i2 i3 i4 i5 i6 i7 i8 i9 i10 i11 i12 i13 a0 a1 a2 a3 a4 a5 a6 a7 a8 a9 a10 a11 a12 sm e0 e1 e2 e3 e4 e5 e6 e7 e8 e9 e10 e11 e12 hsm h')
  clear h e0 e1 e2 e3 e4 e5 e6 e7 e8 e9 e10 e11 e12 hsm
  subst hJ1
  subst hJ2
  have EJ3 := Lib.hid hJ3.symm
  clear hJ3
  by_cases hz : j3.err = 0
  · rw [if_pos hz]
    have HZ := Lib.hid hz
    clear hz
    go_enter Try.func61, Try.ntmps61
    go_wp2_with (first
      | (go_at_call 86; (with_reducible refine (EF.out _ _ _ _ H.out).mono ?_); rintro e wn ⟨rfl, h⟩; obtain ⟨bb2, hbb2⟩ : ∃ b, wn.heap.size = b := ⟨_, rfl⟩; have h := h.allocRaw #[.int .i64 a0, .int .i64 a1, .int .i64 a2, .int .i64 sm, .int .i64 a5, .int .i64 a6, .int .i64 a7, .int .i64 a8, .int .i64 a9, .int .i64 a10, .int .i64 a11, .int .i64 a12] 73; rw [hbb2] at h; replace H := Lib.hid h; clear h; have HH := Lib.hid H.out; obtain ⟨yc0, yc1, yc2, yc3, yc4, yc5, yc6, yc7, yc8, yc9, yc10, yc11, yf0, yf1, yf2, yf3, yf4, yf5, yf6, yf7, yf8, yf9, yf10, yf11⟩ := raw12 (b := w.heap.size) (by first | exact HH.out | exact HH.out.p1 | exact HH.out.p2); obtain ⟨xc0, xc1, xc2, xc3, xc4, xc5, xc6, xc7, xc8, xc9, xc10, xc11, xf0, xf1, xf2, xf3, xf4, xf5, xf6, xf7, xf8, xf9, xf10, xf11⟩ := raw12 (b := bb2) (by first | exact HH.out | exact HH.out.p1 | exact HH.out.p2))
      | (go_at_call 24; (with_reducible refine (s_fail _ _ _ (by first | exact H.out | exact H.out.p1 | exact H.out.p2)).mono ?_); (repeat first | rw [EJ3.out] ); rintro e wn ⟨rfl, h⟩; replace H := Lib.hid h; clear h; have HH := Lib.hid H.out; obtain ⟨yc0, yc1, yc2, yc3, yc4, yc5, yc6, yc7, yc8, yc9, yc10, yc11, yf0, yf1, yf2, yf3, yf4, yf5, yf6, yf7, yf8, yf9, yf10, yf11⟩ := raw12 (b := w.heap.size) (by first | exact HH.out | exact HH.out.p1 | exact HH.out.p2); obtain ⟨xc0, xc1, xc2, xc3, xc4, xc5, xc6, xc7, xc8, xc9, xc10, xc11, xf0, xf1, xf2, xf3, xf4, xf5, xf6, xf7, xf8, xf9, xf10, xf11⟩ := raw12 (b := bb2) (by first | exact HH.out | exact HH.out.p1 | exact HH.out.p2))
      | (go_at_call 23; (with_reducible refine (s_err _ _ (by first | exact H.out | exact H.out.p1 | exact H.out.p2)).mono ?_); rw [HZ.out]; rintro e wn ⟨rfl, h⟩; replace H := Lib.hid h; clear h; have HH := Lib.hid H.out; obtain ⟨yc0, yc1, yc2, yc3, yc4, yc5, yc6, yc7, yc8, yc9, yc10, yc11, yf0, yf1, yf2, yf3, yf4, yf5, yf6, yf7, yf8, yf9, yf10, yf11⟩ := raw12 (b := w.heap.size) (by first | exact HH.out | exact HH.out.p1 | exact HH.out.p2); obtain ⟨xc0, xc1, xc2, xc3, xc4, xc5, xc6, xc7, xc8, xc9, xc10, xc11, xf0, xf1, xf2, xf3, xf4, xf5, xf6, xf7, xf8, xf9, xf10, xf11⟩ := raw12 (b := bb2) (by first | exact HH.out | exact HH.out.p1 | exact HH.out.p2)))
    refine bodyPost_ret (v := .agg #[.int .i64 a0, .int .i64 a1, .int .i64 a2, .int .i64 sm, .int .i64 a5, .int .i64 a6, .int .i64 a7, .int .i64 a8, .int .i64 a9, .int .i64 a10, .int .i64 a11, .int .i64 a12]) (by simp [results, Try.results61, go_sem, yc0, yc1, yc2, yc3, yc4, yc5, yc6, yc7, yc8, yc9, yc10, yc11]) rfl ⟨rfl, ?_⟩
    exact ((((((((((((H.out.p2.rawSet 0 _).rawSet 1 _).rawSet 2 _).rawSet 3 _).rawSet 4 _).rawSet 5 _).rawSet 6 _).rawSet 7 _).rawSet 8 _).rawSet 9 _).rawSet 10 _).rawSet 11 _).drop.p1.drop
  · rw [if_neg hz]
    have hzb : (j3.err != 0) = true := by rw [bne_iff_ne]; exact hz
    clear hz
    go_enter Try.func61, Try.ntmps61
    go_wp2_with (first
      | (go_at_call 86; (with_reducible refine (EF.out _ _ _ _ H.out).mono ?_); rintro e wn ⟨rfl, h⟩; obtain ⟨bb2, hbb2⟩ : ∃ b, wn.heap.size = b := ⟨_, rfl⟩; have h := h.allocRaw #[.int .i64 a0, .int .i64 a1, .int .i64 a2, .int .i64 sm, .int .i64 a5, .int .i64 a6, .int .i64 a7, .int .i64 a8, .int .i64 a9, .int .i64 a10, .int .i64 a11, .int .i64 a12] 73; rw [hbb2] at h; replace H := Lib.hid h; clear h; have HH := Lib.hid H.out; obtain ⟨yc0, yc1, yc2, yc3, yc4, yc5, yc6, yc7, yc8, yc9, yc10, yc11, yf0, yf1, yf2, yf3, yf4, yf5, yf6, yf7, yf8, yf9, yf10, yf11⟩ := raw12 (b := w.heap.size) (by first | exact HH.out | exact HH.out.p1 | exact HH.out.p2); obtain ⟨xc0, xc1, xc2, xc3, xc4, xc5, xc6, xc7, xc8, xc9, xc10, xc11, xf0, xf1, xf2, xf3, xf4, xf5, xf6, xf7, xf8, xf9, xf10, xf11⟩ := raw12 (b := bb2) (by first | exact HH.out | exact HH.out.p1 | exact HH.out.p2))
      | (go_at_call 24; (with_reducible refine (s_fail _ _ _ (by first | exact H.out | exact H.out.p1 | exact H.out.p2)).mono ?_); (repeat first | rw [EJ3.out] ); rintro e wn ⟨rfl, h⟩; replace H := Lib.hid h; clear h; have HH := Lib.hid H.out; obtain ⟨yc0, yc1, yc2, yc3, yc4, yc5, yc6, yc7, yc8, yc9, yc10, yc11, yf0, yf1, yf2, yf3, yf4, yf5, yf6, yf7, yf8, yf9, yf10, yf11⟩ := raw12 (b := w.heap.size) (by first | exact HH.out | exact HH.out.p1 | exact HH.out.p2); obtain ⟨xc0, xc1, xc2, xc3, xc4, xc5, xc6, xc7, xc8, xc9, xc10, xc11, xf0, xf1, xf2, xf3, xf4, xf5, xf6, xf7, xf8, xf9, xf10, xf11⟩ := raw12 (b := bb2) (by first | exact HH.out | exact HH.out.p1 | exact HH.out.p2))
      | (go_at_call 23; (with_reducible refine (s_err _ _ (by first | exact H.out | exact H.out.p1 | exact H.out.p2)).mono ?_); rintro e wn ⟨rfl, h⟩; replace H := Lib.hid h; clear h; have HH := Lib.hid H.out; obtain ⟨yc0, yc1, yc2, yc3, yc4, yc5, yc6, yc7, yc8, yc9, yc10, yc11, yf0, yf1, yf2, yf3, yf4, yf5, yf6, yf7, yf8, yf9, yf10, yf11⟩ := raw12 (b := w.heap.size) (by first | exact HH.out | exact HH.out.p1 | exact HH.out.p2); obtain ⟨xc0, xc1, xc2, xc3, xc4, xc5, xc6, xc7, xc8, xc9, xc10, xc11, xf0, xf1, xf2, xf3, xf4, xf5, xf6, xf7, xf8, xf9, xf10, xf11⟩ := raw12 (b := bb2) (by first | exact HH.out | exact HH.out.p1 | exact HH.out.p2)))
    refine bodyPost_ret (v := .agg #[.int .i64 0, .int .i64 0, .int .i64 0, .int .i64 0, .int .i64 0, .int .i64 0, .int .i64 0, .int .i64 0, .int .i64 0, .int .i64 0, .int .i64 0, .int .i64 0]) (by simp [results, Try.results61, go_sem, yc0, yc1, yc2, yc3, yc4, yc5, yc6, yc7, yc8, yc9, yc10, yc11]) rfl ⟨rfl, ?_⟩
    exact ((((((((((((H.out.p2.rawSet 0 _).rawSet 1 _).rawSet 2 _).rawSet 3 _).rawSet 4 _).rawSet 5 _).rawSet 6 _).rawSet 7 _).rawSet 8 _).rawSet 9 _).rawSet 10 _).rawSet 11 _).drop.p1.drop

set_option maxHeartbeats 1000000 in
set_option maxRecDepth 100000 in
theorem prefix_read_110 (p : Nat) (i i1 i2 i3 i4 i5 i6 i7 i8 i9 i10 i11 i12 i13 j1 j2 j3 : InS) (a0 a1 a2 a3 a4 a5 a6 a7 a8 a9 a10 a11 a12 sm : Int) (e0 : i.int 8 = (a0, i1)) (e1 : i1.int 4 = (a1, i2)) (e2 : i2.int 4 = (a2, i3)) (e3 : i3.int 1 = (a3, i4)) (e4 : i4.int 4 = (a4, i5)) (e5 : i5.int 2 = (a5, i6)) (e6 : i6.int 4 = (a6, i7)) (e7 : i7.int 8 = (a7, i8)) (e8 : i8.int 8 = (a8, i9)) (e9 : i9.int 8 = (a9, i10)) (e10 : i10.int 2 = (a10, i11)) (e11 : i11.int 4 = (a11, i12)) (e12 : i12.int 4 = (a12, i13)) (hsm : bits .and .i64 a4 4294967295 = sm)
    (hm : (a3 != 2) = false) (hl : a1 < 49) (hn : ¬ a12 < 0) (hJ1 : j1 = i13) (hJ2 : j2 = j1.fail 4) (hJ3 : j3 = j2) {W0 w : World} {K : Know} {L : List Res} (h : St W0 w K (.inp p i :: L)) :
    Calls Try.prog 61 #[inPtr p] w fun en w' => en = .returned (if j3.err = 0 then .agg #[.int .i64 a0, .int .i64 a1, .int .i64 a2, .int .i64 sm, .int .i64 a5, .int .i64 a6, .int .i64 a7, .int .i64 a8, .int .i64 a9, .int .i64 a10, .int .i64 a11, .int .i64 a12] else .agg #[.int .i64 0, .int .i64 0, .int .i64 0, .int .i64 0, .int .i64 0, .int .i64 0, .int .i64 0, .int .i64 0, .int .i64 0, .int .i64 0, .int .i64 0, .int .i64 0]) ∧ St W0 w' K (.inp p j3 :: L) := by
  have H := Lib.hid (h.allocRaw #[.int .i64 0, .int .i64 0, .int .i64 0, .int .i64 0, .int .i64 0, .int .i64 0, .int .i64 0, .int .i64 0, .int .i64 0, .int .i64 0, .int .i64 0, .int .i64 0] 73).p1
  have EF := Lib.hid (fun (W0' w' : World) (K' : Know) (L' : List Res) (h' : St W0' w' K' (.inp p i :: L')) => prefix_fields p i i1 i2 i3 i4 i5 i6 i7 i8 i9 i10 i11 i12 i13 a0 a1 a2 a3 a4 a5 a6 a7 a8 a9 a10 a11 a12 sm e0 e1 e2 e3 e4 e5 e6 e7 e8 e9 e10 e11 e12 hsm h')
  clear h e0 e1 e2 e3 e4 e5 e6 e7 e8 e9 e10 e11 e12 hsm
  subst hJ1
  have EJ2 := Lib.hid hJ2.symm
  clear hJ2
  subst hJ3
  by_cases hz : j3.err = 0
  · rw [if_pos hz]
    have HZ := Lib.hid hz
    clear hz
    go_enter Try.func61, Try.ntmps61
    go_wp2_with (first
      | (go_at_call 86; (with_reducible refine (EF.out _ _ _ _ H.out).mono ?_); rintro e wn ⟨rfl, h⟩; obtain ⟨bb2, hbb2⟩ : ∃ b, wn.heap.size = b := ⟨_, rfl⟩; have h := h.allocRaw #[.int .i64 a0, .int .i64 a1, .int .i64 a2, .int .i64 sm, .int .i64 a5, .int .i64 a6, .int .i64 a7, .int .i64 a8, .int .i64 a9, .int .i64 a10, .int .i64 a11, .int .i64 a12] 73; rw [hbb2] at h; replace H := Lib.hid h; clear h; have HH := Lib.hid H.out; obtain ⟨yc0, yc1, yc2, yc3, yc4, yc5, yc6, yc7, yc8, yc9, yc10, yc11, yf0, yf1, yf2, yf3, yf4, yf5, yf6, yf7, yf8, yf9, yf10, yf11⟩ := raw12 (b := w.heap.size) (by first | exact HH.out | exact HH.out.p1 | exact HH.out.p2); obtain ⟨xc0, xc1, xc2, xc3, xc4, xc5, xc6, xc7, xc8, xc9, xc10, xc11, xf0, xf1, xf2, xf3, xf4, xf5, xf6, xf7, xf8, xf9, xf10, xf11⟩ := raw12 (b := bb2) (by first | exact HH.out | exact HH.out.p1 | exact HH.out.p2))
      | (go_at_call 24; (with_reducible refine (s_fail _ _ _ (by first | exact H.out | exact H.out.p1 | exact H.out.p2)).mono ?_); (repeat first | rw [EJ2.out] ); rintro e wn ⟨rfl, h⟩; replace H := Lib.hid h; clear h; have HH := Lib.hid H.out; obtain ⟨yc0, yc1, yc2, yc3, yc4, yc5, yc6, yc7, yc8, yc9, yc10, yc11, yf0, yf1, yf2, yf3, yf4, yf5, yf6, yf7, yf8, yf9, yf10, yf11⟩ := raw12 (b := w.heap.size) (by first | exact HH.out | exact HH.out.p1 | exact HH.out.p2); obtain ⟨xc0, xc1, xc2, xc3, xc4, xc5, xc6, xc7, xc8, xc9, xc10, xc11, xf0, xf1, xf2, xf3, xf4, xf5, xf6, xf7, xf8, xf9, xf10, xf11⟩ := raw12 (b := bb2) (by first | exact HH.out | exact HH.out.p1 | exact HH.out.p2))
      | (go_at_call 23; (with_reducible refine (s_err _ _ (by first | exact H.out | exact H.out.p1 | exact H.out.p2)).mono ?_); rw [HZ.out]; rintro e wn ⟨rfl, h⟩; replace H := Lib.hid h; clear h; have HH := Lib.hid H.out; obtain ⟨yc0, yc1, yc2, yc3, yc4, yc5, yc6, yc7, yc8, yc9, yc10, yc11, yf0, yf1, yf2, yf3, yf4, yf5, yf6, yf7, yf8, yf9, yf10, yf11⟩ := raw12 (b := w.heap.size) (by first | exact HH.out | exact HH.out.p1 | exact HH.out.p2); obtain ⟨xc0, xc1, xc2, xc3, xc4, xc5, xc6, xc7, xc8, xc9, xc10, xc11, xf0, xf1, xf2, xf3, xf4, xf5, xf6, xf7, xf8, xf9, xf10, xf11⟩ := raw12 (b := bb2) (by first | exact HH.out | exact HH.out.p1 | exact HH.out.p2)))
    refine bodyPost_ret (v := .agg #[.int .i64 a0, .int .i64 a1, .int .i64 a2, .int .i64 sm, .int .i64 a5, .int .i64 a6, .int .i64 a7, .int .i64 a8, .int .i64 a9, .int .i64 a10, .int .i64 a11, .int .i64 a12]) (by simp [results, Try.results61, go_sem, yc0, yc1, yc2, yc3, yc4, yc5, yc6, yc7, yc8, yc9, yc10, yc11]) rfl ⟨rfl, ?_⟩
    exact ((((((((((((H.out.p2.rawSet 0 _).rawSet 1 _).rawSet 2 _).rawSet 3 _).rawSet 4 _).rawSet 5 _).rawSet 6 _).rawSet 7 _).rawSet 8 _).rawSet 9 _).rawSet 10 _).rawSet 11 _).drop.p1.drop
  · rw [if_neg hz]
    have hzb : (j3.err != 0) = true := by rw [bne_iff_ne]; exact hz
    clear hz
    go_enter Try.func61, Try.ntmps61
    go_wp2_with (first
      | (go_at_call 86; (with_reducible refine (EF.out _ _ _ _ H.out).mono ?_); rintro e wn ⟨rfl, h⟩; obtain ⟨bb2, hbb2⟩ : ∃ b, wn.heap.size = b := ⟨_, rfl⟩; have h := h.allocRaw #[.int .i64 a0, .int .i64 a1, .int .i64 a2, .int .i64 sm, .int .i64 a5, .int .i64 a6, .int .i64 a7, .int .i64 a8, .int .i64 a9, .int .i64 a10, .int .i64 a11, .int .i64 a12] 73; rw [hbb2] at h; replace H := Lib.hid h; clear h; have HH := Lib.hid H.out; obtain ⟨yc0, yc1, yc2, yc3, yc4, yc5, yc6, yc7, yc8, yc9, yc10, yc11, yf0, yf1, yf2, yf3, yf4, yf5, yf6, yf7, yf8, yf9, yf10, yf11⟩ := raw12 (b := w.heap.size) (by first | exact HH.out | exact HH.out.p1 | exact HH.out.p2); obtain ⟨xc0, xc1, xc2, xc3, xc4, xc5, xc6, xc7, xc8, xc9, xc10, xc11, xf0, xf1, xf2, xf3, xf4, xf5, xf6, xf7, xf8, xf9, xf10, xf11⟩ := raw12 (b := bb2) (by first | exact HH.out | exact HH.out.p1 | exact HH.out.p2))
      | (go_at_call 24; (with_reducible refine (s_fail _ _ _ (by first | exact H.out | exact H.out.p1 | exact H.out.p2)).mono ?_); (repeat first | rw [EJ2.out] ); rintro e wn ⟨rfl, h⟩; replace H := Lib.hid h; clear h; have HH := Lib.hid H.out; obtain ⟨yc0, yc1, yc2, yc3, yc4, yc5, yc6, yc7, yc8, yc9, yc10, yc11, yf0, yf1, yf2, yf3, yf4, yf5, yf6, yf7, yf8, yf9, yf10, yf11⟩ := raw12 (b := w.heap.size) (by first | exact HH.out | exact HH.out.p1 | exact HH.out.p2); obtain ⟨xc0, xc1, xc2, xc3, xc4, xc5, xc6, xc7, xc8, xc9, xc10, xc11, xf0, xf1, xf2, xf3, xf4, xf5, xf6, xf7, xf8, xf9, xf10, xf11⟩ := raw12 (b := bb2) (by first | exact HH.out | exact HH.out.p1 | exact HH.out.p2))
      | (go_at_call 23; (with_reducible refine (s_err _ _ (by first | exact H.out | exact H.out.p1 | exact H.out.p2)).mono ?_); rintro e wn ⟨rfl, h⟩; replace H := Lib.hid h; clear h; have HH := Lib.hid H.out; obtain ⟨yc0, yc1, yc2, yc3, yc4, yc5, yc6, yc7, yc8, yc9, yc10, yc11, yf0, yf1, yf2, yf3, yf4, yf5, yf6, yf7, yf8, yf9, yf10, yf11⟩ := raw12 (b := w.heap.size) (by first | exact HH.out | exact HH.out.p1 | exact HH.out.p2); obtain ⟨xc0, xc1, xc2, xc3, xc4, xc5, xc6, xc7, xc8, xc9, xc10, xc11, xf0, xf1, xf2, xf3, xf4, xf5, xf6, xf7, xf8, xf9, xf10, xf11⟩ := raw12 (b := bb2) (by first | exact HH.out | exact HH.out.p1 | exact HH.out.p2)))
    refine bodyPost_ret (v := .agg #[.int .i64 0, .int .i64 0, .int .i64 0, .int .i64 0, .int .i64 0, .int .i64 0, .int .i64 0, .int .i64 0, .int .i64 0, .int .i64 0, .int .i64 0, .int .i64 0]) (by simp [results, Try.results61, go_sem, yc0, yc1, yc2, yc3, yc4, yc5, yc6, yc7, yc8, yc9, yc10, yc11]) rfl ⟨rfl, ?_⟩
    exact ((((((((((((H.out.p2.rawSet 0 _).rawSet 1 _).rawSet 2 _).rawSet 3 _).rawSet 4 _).rawSet 5 _).rawSet 6 _).rawSet 7 _).rawSet 8 _).rawSet 9 _).rawSet 10 _).rawSet 11 _).drop.p1.drop

set_option maxHeartbeats 1000000 in
set_option maxRecDepth 100000 in
theorem prefix_read_111 (p : Nat) (i i1 i2 i3 i4 i5 i6 i7 i8 i9 i10 i11 i12 i13 j1 j2 j3 : InS) (a0 a1 a2 a3 a4 a5 a6 a7 a8 a9 a10 a11 a12 sm : Int) (e0 : i.int 8 = (a0, i1)) (e1 : i1.int 4 = (a1, i2)) (e2 : i2.int 4 = (a2, i3)) (e3 : i3.int 1 = (a3, i4)) (e4 : i4.int 4 = (a4, i5)) (e5 : i5.int 2 = (a5, i6)) (e6 : i6.int 4 = (a6, i7)) (e7 : i7.int 8 = (a7, i8)) (e8 : i8.int 8 = (a8, i9)) (e9 : i9.int 8 = (a9, i10)) (e10 : i10.int 2 = (a10, i11)) (e11 : i11.int 4 = (a11, i12)) (e12 : i12.int 4 = (a12, i13)) (hsm : bits .and .i64 a4 4294967295 = sm)
    (hm : (a3 != 2) = false) (hl : a1 < 49) (hn : a12 < 0) (hJ1 : j1 = i13) (hJ2 : j2 = j1.fail 4) (hJ3 : j3 = j2.fail 10) {W0 w : World} {K : Know} {L : List Res} (h : St W0 w K (.inp p i :: L)) :
    Calls Try.prog 61 #[inPtr p] w fun en w' => en = .returned (if j3.err = 0 then .agg #[.int .i64 a0, .int .i64 a1, .int .i64 a2, .int .i64 sm, .int .i64 a5, .int .i64 a6, .int .i64 a7, .int .i64 a8, .int .i64 a9, .int .i64 a10, .int .i64 a11, .int .i64 a12] else .agg #[.int .i64 0, .int .i64 0, .int .i64 0, .int .i64 0, .int .i64 0, .int .i64 0, .int .i64 0, .int .i64 0, .int .i64 0, .int .i64 0, .int .i64 0, .int .i64 0]) ∧ St W0 w' K (.inp p j3 :: L) := by
  have H := Lib.hid (h.allocRaw #[.int .i64 0, .int .i64 0, .int .i64 0, .int .i64 0, .int .i64 0, .int .i64 0, .int .i64 0, .int .i64 0, .int .i64 0, .int .i64 0, .int .i64 0, .int .i64 0] 73).p1
  have EF := Lib.hid (fun (W0' w' : World) (K' : Know) (L' : List Res) (h' : St W0' w' K' (.inp p i :: L')) => prefix_fields p i i1 i2 i3 i4 i5 i6 i7 i8 i9 i10 i11 i12 i13 a0 a1 a2 a3 a4 a5 a6 a7 a8 a9 a10 a11 a12 sm e0 e1 e2 e3 e4 e5 e6 e7 e8 e9 e10 e11 e12 hsm h')
  clear h e0 e1 e2 e3 e4 e5 e6 e7 e8 e9 e10 e11 e12 hsm
  subst hJ1
  have EJ2 := Lib.hid hJ2.symm
  clear hJ2
  have EJ3 := Lib.hid hJ3.symm
  clear hJ3
  by_cases hz : j3.err = 0
  · rw [if_pos hz]
    have HZ := Lib.hid hz
    clear hz
    go_enter Try.func61, Try.ntmps61
    go_wp2_with (first
      | (go_at_call 86; (with_reducible refine (EF.out _ _ _ _ H.out).mono ?_); rintro e wn ⟨rfl, h⟩; obtain ⟨bb2, hbb2⟩ : ∃ b, wn.heap.size = b := ⟨_, rfl⟩; have h := h.allocRaw #[.int .i64 a0, .int .i64 a1, .int .i64 a2, .int .i64 sm, .int .i64 a5, .int .i64 a6, .int .i64 a7, .int .i64 a8, .int .i64 a9, .int .i64 a10, .int .i64 a11, .int .i64 a12] 73; rw [hbb2] at h; replace H := Lib.hid h; clear h; have HH := Lib.hid H.out; obtain ⟨yc0, yc1, yc2, yc3, yc4, yc5, yc6, yc7, yc8, yc9, yc10, yc11, yf0, yf1, yf2, yf3, yf4, yf5, yf6, yf7, yf8, yf9, yf10, yf11⟩ := raw12 (b := w.heap.size) (by first | exact HH.out | exact HH.out.p1 | exact HH.out.p2); obtain ⟨xc0, xc1, xc2, xc3, xc4, xc5, xc6, xc7, xc8, xc9, xc10, xc11, xf0, xf1, xf2, xf3, xf4, xf5, xf6, xf7, xf8, xf9, xf10, xf11⟩ := raw12 (b := bb2) (by first | exact HH.out | exact HH.out.p1 | exact HH.out.p2))
      | (go_at_call 24; (with_reducible refine (s_fail _ _ _ (by first | exact H.out | exact H.out.p1 | exact H.out.p2)).mono ?_); (repeat first | rw [EJ2.out] | rw [EJ3.out] ); rintro e wn ⟨rfl, h⟩; replace H := Lib.hid h; clear h; have HH := Lib.hid H.out; obtain ⟨yc0, yc1, yc2, yc3, yc4, yc5, yc6, yc7, yc8, yc9, yc10, yc11, yf0, yf1, yf2, yf3, yf4, yf5, yf6, yf7, yf8, yf9, yf10, yf11⟩ := raw12 (b := w.heap.size) (by first | exact HH.out | exact HH.out.p1 | exact HH.out.p2); obtain ⟨xc0, xc1, xc2, xc3, xc4, xc5, xc6, xc7, xc8, xc9, xc10, xc11, xf0, xf1, xf2, xf3, xf4, xf5, xf6, xf7, xf8, xf9, xf10, xf11⟩ := raw12 (b := bb2) (by first | exact HH.out | exact HH.out.p1 | exact HH.out.p2))
      | (go_at_call 23; (with_reducible refine (s_err _ _ (by first | exact H.out | exact H.out.p1 | exact H.out.p2)).mono ?_); rw [HZ.out]; rintro e wn ⟨rfl, h⟩; replace H := Lib.hid h; clear h; have HH := Lib.hid H.out; obtain ⟨yc0, yc1, yc2, yc3, yc4, yc5, yc6, yc7, yc8, yc9, yc10, yc11, yf0, yf1, yf2, yf3, yf4, yf5, yf6, yf7, yf8, yf9, yf10, yf11⟩ := raw12 (b := w.heap.size) (by first | exact HH.out | exact HH.out.p1 | exact HH.out.p2); obtain ⟨xc0, xc1, xc2, xc3, xc4, xc5, xc6, xc7, xc8, xc9, xc10, xc11, xf0, xf1, xf2, xf3, xf4, xf5, xf6, xf7, xf8, xf9, xf10, xf11⟩ := raw12 (b := bb2) (by first | exact HH.out | exact HH.out.p1 | exact HH.out.p2)))
    refine bodyPost_ret (v := .agg #[.int .i64 a0, .int .i64 a1, .int .i64 a2, .int .i64 sm, .int .i64 a5, .int .i64 a6, .int .i64 a7, .int .i64 a8, .int .i64 a9, .int .i64 a10, .int .i64 a11, .int .i64 a12]) (by simp [results, Try.results61, go_sem, yc0, yc1, yc2, yc3, yc4, yc5, yc6, yc7, yc8, yc9, yc10, yc11]) rfl ⟨rfl, ?_⟩
    exact ((((((((((((H.out.p2.rawSet 0 _).rawSet 1 _).rawSet 2 _).rawSet 3 _).rawSet 4 _).rawSet 5 _).rawSet 6 _).rawSet 7 _).rawSet 8 _).rawSet 9 _).rawSet 10 _).rawSet 11 _).drop.p1.drop
  · rw [if_neg hz]
    have hzb : (j3.err != 0) = true := by rw [bne_iff_ne]; exact hz
    clear hz
    go_enter Try.func61, Try.ntmps61
    go_wp2_with (first
      | (go_at_call 86; (with_reducible refine (EF.out _ _ _ _ H.out).mono ?_); rintro e wn ⟨rfl, h⟩; obtain ⟨bb2, hbb2⟩ : ∃ b, wn.heap.size = b := ⟨_, rfl⟩; have h := h.allocRaw #[.int .i64 a0, .int .i64 a1, .int .i64 a2, .int .i64 sm, .int .i64 a5, .int .i64 a6, .int .i64 a7, .int .i64 a8, .int .i64 a9, .int .i64 a10, .int .i64 a11, .int .i64 a12] 73; rw [hbb2] at h; replace H := Lib.hid h; clear h; have HH := Lib.hid H.out; obtain ⟨yc0, yc1, yc2, yc3, yc4, yc5, yc6, yc7, yc8, yc9, yc10, yc11, yf0, yf1, yf2, yf3, yf4, yf5, yf6, yf7, yf8, yf9, yf10, yf11⟩ := raw12 (b := w.heap.size) (by first | exact HH.out | exact HH.out.p1 | exact HH.out.p2); obtain ⟨xc0, xc1, xc2, xc3, xc4, xc5, xc6, xc7, xc8, xc9, xc10, xc11, xf0, xf1, xf2, xf3, xf4, xf5, xf6, xf7, xf8, xf9, xf10, xf11⟩ := raw12 (b := bb2) (by first | exact HH.out | exact HH.out.p1 | exact HH.out.p2))
      | (go_at_call 24; (with_reducible refine (s_fail _ _ _ (by first | exact H.out | exact H.out.p1 | exact H.out.p2)).mono ?_); (repeat first | rw [EJ2.out] | rw [EJ3.out] ); rintro e wn ⟨rfl, h⟩; replace H := Lib.hid h; clear h; have HH := Lib.hid H.out; obtain ⟨yc0, yc1, yc2, yc3, yc4, yc5, yc6, yc7, yc8, yc9, yc10, yc11, yf0, yf1, yf2, yf3, yf4, yf5, yf6, yf7, yf8, yf9, yf10, yf11⟩ := raw12 (b := w.heap.size) (by first | exact HH.out | exact HH.out.p1 | exact HH.out.p2); obtain ⟨xc0, xc1, xc2, xc3, xc4, xc5, xc6, xc7, xc8, xc9, xc10, xc11, xf0, xf1, xf2, xf3, xf4, xf5, xf6, xf7, xf8, xf9, xf10, xf11⟩ := raw12 (b := bb2) (by first | exact HH.out | exact HH.out.p1 | exact HH.out.p2))
      | (go_at_call 23; (with_reducible refine (s_err _ _ (by first | exact H.out | exact H.out.p1 | exact H.out.p2)).mono ?_); rintro e wn ⟨rfl, h⟩; replace H := Lib.hid h; clear h; have HH := Lib.hid H.out; obtain ⟨yc0, yc1, yc2, yc3, yc4, yc5, yc6, yc7, yc8, yc9, yc10, yc11, yf0, yf1, yf2, yf3, yf4, yf5, yf6, yf7, yf8, yf9, yf10, yf11⟩ := raw12 (b := w.heap.size) (by first | exact HH.out | exact HH.out.p1 | exact HH.out.p2); obtain ⟨xc0, xc1, xc2, xc3, xc4, xc5, xc6, xc7, xc8, xc9, xc10, xc11, xf0, xf1, xf2, xf3, xf4, xf5, xf6, xf7, xf8, xf9, xf10, xf11⟩ := raw12 (b := bb2) (by first | exact HH.out | exact HH.out.p1 | exact HH.out.p2)))
    refine bodyPost_ret (v := .agg #[.int .i64 0, .int .i64 0, .int .i64 0, .int .i64 0, .int .i64 0, .int .i64 0, .int .i64 0, .int .i64 0, .int .i64 0, .int .i64 0, .int .i64 0, .int .i64 0]) (by simp [results, Try.results61, go_sem, yc0, yc1, yc2, yc3, yc4, yc5, yc6, yc7, yc8, yc9, yc10, yc11]) rfl ⟨rfl, ?_⟩
    exact ((((((((((((H.out.p2.rawSet 0 _).rawSet 1 _).rawSet 2 _).rawSet 3 _).rawSet 4 _).rawSet 5 _).rawSet 6 _).rawSet 7 _).rawSet 8 _).rawSet 9 _).rawSet 10 _).rawSet 11 _).drop.p1.drop

def preOfL : List Int → PreS × Int
  | [a0, a1, a2, a3, a4, a5, a6, a7, a8, a9, a10, a11, a12] => (⟨a0, a1, a2, a4 % 4294967296, a5, a6, a7, a8, a9, a10, a11, a12⟩, a3)
  | _ => (PreS.zero, 0)
def preChk (x : PreS) (m : Int) (i : InS) : InS :=
  (fun j2 : InS => if x.count < 0 then j2.fail 10 else j2) ((fun j1 : InS => if x.len < 49 then j1.fail 4 else j1) (if m = 2 then i else i.fail 6))
def InS.pre (i : InS) : PreS × InS :=
  (fun j : InS => (if j.err = 0 then (preOfL (InS.ints preSizes i).1).1 else PreS.zero, j)) (preChk (preOfL (InS.ints preSizes i).1).1 (preOfL (InS.ints preSizes i).1).2 (InS.ints preSizes i).2)

theorem prefix_read (p : Nat) (i : InS) {W0 w : World} {K : Know} {L : List Res} (h : St W0 w K (.inp p i :: L)) :
   Calls Try.prog 61 #[inPtr p] w fun en w' => en = .returned (pv i.pre.1) ∧ St W0 w' K (.inp p i.pre.2 :: L) := by
 obtain ⟨⟨a0, i1⟩, e0⟩ : ∃ a, i.int 8 = a := ⟨_, rfl⟩
 obtain ⟨⟨a1, i2⟩, e1⟩ : ∃ a, i1.int 4 = a := ⟨_, rfl⟩
 obtain ⟨⟨a2, i3⟩, e2⟩ : ∃ a, i2.int 4 = a := ⟨_, rfl⟩
 obtain ⟨⟨a3, i4⟩, e3⟩ : ∃ a, i3.int 1 = a := ⟨_, rfl⟩
 obtain ⟨⟨a4, i5⟩, e4⟩ : ∃ a, i4.int 4 = a := ⟨_, rfl⟩
 obtain ⟨⟨a5, i6⟩, e5⟩ : ∃ a, i5.int 2 = a := ⟨_, rfl⟩
 obtain ⟨⟨a6, i7⟩, e6⟩ : ∃ a, i6.int 4 = a := ⟨_, rfl⟩
 obtain ⟨⟨a7, i8⟩, e7⟩ : ∃ a, i7.int 8 = a := ⟨_, rfl⟩
 obtain ⟨⟨a8, i9⟩, e8⟩ : ∃ a, i8.int 8 = a := ⟨_, rfl⟩
 obtain ⟨⟨a9, i10⟩, e9⟩ : ∃ a, i9.int 8 = a := ⟨_, rfl⟩
 obtain ⟨⟨a10, i11⟩, e10⟩ : ∃ a, i10.int 2 = a := ⟨_, rfl⟩
 obtain ⟨⟨a11, i12⟩, e11⟩ : ∃ a, i11.int 4 = a := ⟨_, rfl⟩
 obtain ⟨⟨a12, i13⟩, e12⟩ : ∃ a, i12.int 4 = a := ⟨_, rfl⟩
 have hi : InS.ints preSizes i = ([a0, a1, a2, a3, a4, a5, a6, a7, a8, a9, a10, a11, a12], i13) := by
   have c8 : ((8 : Nat) : Int) = 8 := rfl
   have c4 : ((4 : Nat) : Int) = 4 := rfl
   have c2 : ((2 : Nat) : Int) = 2 := rfl
   have c1 : ((1 : Nat) : Int) = 1 := rfl
   simp only [InS.ints, preSizes, c8, c4, c2, c1, e0, e1, e2, e3, e4, e5, e6, e7, e8, e9, e10, e11, e12]
 have hv : ∀ b : Prop, [Decidable b] → pv (if b then (⟨a0, a1, a2, a4 % 4294967296, a5, a6, a7, a8, a9, a10, a11, a12⟩ : PreS) else PreS.zero) = if b then (.agg #[.int .i64 a0, .int .i64 a1, .int .i64 a2, .int .i64 (a4 % 4294967296), .int .i64 a5, .int .i64 a6, .int .i64 a7, .int .i64 a8, .int .i64 a9, .int .i64 a10, .int .i64 a11, .int .i64 a12] : Value) else .agg #[.int .i64 0, .int .i64 0, .int .i64 0, .int .i64 0, .int .i64 0, .int .i64 0, .int .i64 0, .int .i64 0, .int .i64 0, .int .i64 0, .int .i64 0, .int .i64 0] := by
   intro b _; split <;> rfl
 unfold InS.pre
 rw [hi]
 have hp : preOfL [a0, a1, a2, a3, a4, a5, a6, a7, a8, a9, a10, a11, a12] = (⟨a0, a1, a2, a4 % 4294967296, a5, a6, a7, a8, a9, a10, a11, a12⟩, a3) := rfl
 simp only [hp, preChk]
 rw [hv]
 by_cases hm : a3 = 2 <;> by_cases hl : a1 < 49 <;> by_cases hn : a12 < 0
 · rw [if_pos hm, if_pos hl, if_pos hn]
   exact prefix_read_111 p i i1 i2 i3 i4 i5 i6 i7 i8 i9 i10 i11 i12 i13 _ _ _ a0 a1 a2 a3 a4 a5 a6 a7 a8 a9 a10 a11 a12 _ e0 e1 e2 e3 e4 e5 e6 e7 e8 e9 e10 e11 e12 (and_u32 a4) (by simpa using hm) hl hn rfl rfl rfl h
 · rw [if_pos hm, if_pos hl, if_neg hn]
   exact prefix_read_110 p i i1 i2 i3 i4 i5 i6 i7 i8 i9 i10 i11 i12 i13 _ _ _ a0 a1 a2 a3 a4 a5 a6 a7 a8 a9 a10 a11 a12 _ e0 e1 e2 e3 e4 e5 e6 e7 e8 e9 e10 e11 e12 (and_u32 a4) (by simpa using hm) hl hn rfl rfl rfl h
 · rw [if_pos hm, if_neg hl, if_pos hn]
   exact prefix_read_101 p i i1 i2 i3 i4 i5 i6 i7 i8 i9 i10 i11 i12 i13 _ _ _ a0 a1 a2 a3 a4 a5 a6 a7 a8 a9 a10 a11 a12 _ e0 e1 e2 e3 e4 e5 e6 e7 e8 e9 e10 e11 e12 (and_u32 a4) (by simpa using hm) hl hn rfl rfl rfl h
 · rw [if_pos hm, if_neg hl, if_neg hn]
   exact prefix_read_100 p i i1 i2 i3 i4 i5 i6 i7 i8 i9 i10 i11 i12 i13 _ _ _ a0 a1 a2 a3 a4 a5 a6 a7 a8 a9 a10 a11 a12 _ e0 e1 e2 e3 e4 e5 e6 e7 e8 e9 e10 e11 e12 (and_u32 a4) (by simpa using hm) hl hn rfl rfl rfl h
 · rw [if_neg hm, if_pos hl, if_pos hn]
   exact prefix_read_011 p i i1 i2 i3 i4 i5 i6 i7 i8 i9 i10 i11 i12 i13 _ _ _ a0 a1 a2 a3 a4 a5 a6 a7 a8 a9 a10 a11 a12 _ e0 e1 e2 e3 e4 e5 e6 e7 e8 e9 e10 e11 e12 (and_u32 a4) (by simpa using hm) hl hn rfl rfl rfl h
 · rw [if_neg hm, if_pos hl, if_neg hn]
   exact prefix_read_010 p i i1 i2 i3 i4 i5 i6 i7 i8 i9 i10 i11 i12 i13 _ _ _ a0 a1 a2 a3 a4 a5 a6 a7 a8 a9 a10 a11 a12 _ e0 e1 e2 e3 e4 e5 e6 e7 e8 e9 e10 e11 e12 (and_u32 a4) (by simpa using hm) hl hn rfl rfl rfl h
 · rw [if_neg hm, if_neg hl, if_pos hn]
   exact prefix_read_001 p i i1 i2 i3 i4 i5 i6 i7 i8 i9 i10 i11 i12 i13 _ _ _ a0 a1 a2 a3 a4 a5 a6 a7 a8 a9 a10 a11 a12 _ e0 e1 e2 e3 e4 e5 e6 e7 e8 e9 e10 e11 e12 (and_u32 a4) (by simpa using hm) hl hn rfl rfl rfl h
 · rw [if_neg hm, if_neg hl, if_neg hn]
   exact prefix_read_000 p i i1 i2 i3 i4 i5 i6 i7 i8 i9 i10 i11 i12 i13 _ _ _ a0 a1 a2 a3 a4 a5 a6 a7 a8 a9 a10 a11 a12 _ e0 e1 e2 e3 e4 e5 e6 e7 e8 e9 e10 e11 e12 (and_u32 a4) (by simpa using hm) hl hn rfl rfl rfl h
set_option maxHeartbeats 1000000 in
set_option maxRecDepth 100000 in
theorem bat_within (n lo hi : Int) (r : Bool) (hr : decide (lo ≤ n ∧ n ≤ hi) = r) {W0 w : World} {K : Know} {L : List Res} (h : St W0 w K L) :
   Calls Try.prog 76 #[.int .i64 n, .int .i64 lo, .int .i64 hi] w fun en w' => en = .returned (.bool r) ∧ St W0 w' K L := by
 have H := Lib.hid h
 clear h
 by_cases h1 : lo ≤ n
 · have d1 : decide (lo ≤ n) = true := decide_eq_true h1
   by_cases h2 : n ≤ hi
   · have d2 : decide (n ≤ hi) = true := decide_eq_true h2
     obtain rfl : true = r := (decide_eq_true ⟨h1, h2⟩).symm.trans hr
     clear h1 h2
     go_enter Try.func76, Try.ntmps76
     go_wp2
     go_ret
     exact ⟨rfl, H.out⟩
   · have d2 : decide (n ≤ hi) = false := decide_eq_false h2
     obtain rfl : false = r := (decide_eq_false (fun x => h2 x.2)).symm.trans hr
     clear h1 h2
     go_enter Try.func76, Try.ntmps76
     go_wp2
     go_ret
     exact ⟨rfl, H.out⟩
 · have d1 : decide (lo ≤ n) = false := decide_eq_false h1
   obtain rfl : false = r := (decide_eq_false (fun x => h1 x.1)).symm.trans hr
   clear h1
   go_enter Try.func76, Try.ntmps76
   go_wp2
   go_ret
   exact ⟨rfl, H.out⟩

set_option maxHeartbeats 1000000 in
set_option maxRecDepth 100000 in
theorem bat_placed (base leader : Int) (app txn ctl : Bool) (last first maxt prod epoch sq : Int) (rv : Value) (r : Bool) (hr : decide (0 ≤ base ∧ (-1 ≤ leader ∧ leader ≤ 2147483647) ∧ (0 ≤ last ∧ last ≤ 2147483647) ∧ base ≤ 9223372036854775807 - last ∧ 0 ≤ first ∧ 0 ≤ maxt) = r) {W0 w : World} {K : Know} {L : List Res} (h : St W0 w K L) :
  Calls Try.prog 51 #[.agg #[.int .i64 base, .int .i64 leader, .bool app, .bool txn, .bool ctl, .int .i64 last, .int .i64 first, .int .i64 maxt, .int .i64 prod, .int .i64 epoch, .int .i64 sq, rv]] w fun en w' => en = .returned (.bool r) ∧ St W0 w' K L := by
 have h1 := h.allocRaw #[.int .i64 base, .int .i64 leader, .bool app, .bool txn, .bool ctl, .int .i64 last, .int .i64 first, .int .i64 maxt, .int .i64 prod, .int .i64 epoch, .int .i64 sq, rv] 39
 obtain ⟨hb, hhb⟩ : ∃ b, w.heap.size = b := ⟨_, rfl⟩
 rw [hhb] at h1
 obtain ⟨x0, x1, x2, x3, x4, x5, x6, x7, x8, x9, x10, x11, y0, y1, y2, y3, y4, y5, y6, y7, y8, y9, y10, y11⟩ := raw12 (b := hb) (h1)
 have H := Lib.hid h1
 clear h h1
 by_cases c0 : 0 ≤ base
 case neg =>
  obtain rfl : false = r := by rw [← hr]; exact (decide_eq_false (fun x => c0 x.1)).symm
  have d0 : decide (0 ≤ base) = false := decide_eq_false c0
  clear c0 
  go_enter Try.func51, Try.ntmps51
  go_wp2_with (first
  | (go_at_call 76; (with_reducible refine (bat_within leader (-1) 2147483647 _ HW1.out H.out).mono ?_); rintro e_ wn ⟨rfl, h⟩; replace H := Lib.hid h; clear h; obtain ⟨x0, x1, x2, x3, x4, x5, x6, x7, x8, x9, x10, x11, y0, y1, y2, y3, y4, y5, y6, y7, y8, y9, y10, y11⟩ := raw12 (b := hb) (H.out))
  | (go_at_call 76; (with_reducible refine (bat_within last 0 2147483647 _ HW2.out H.out).mono ?_); rintro e_ wn ⟨rfl, h⟩; replace H := Lib.hid h; clear h; obtain ⟨x0, x1, x2, x3, x4, x5, x6, x7, x8, x9, x10, x11, y0, y1, y2, y3, y4, y5, y6, y7, y8, y9, y10, y11⟩ := raw12 (b := hb) (H.out)))
  go_ret
  exact ⟨rfl, H.out.drop⟩
 by_cases c1 : -1 ≤ leader ∧ leader ≤ 2147483647
 case neg =>
  obtain rfl : false = r := by rw [← hr]; exact (decide_eq_false (fun x => c1 x.2.1)).symm
  have d0 : decide (0 ≤ base) = true := decide_eq_true c0
  have HW1 := Lib.hid (show decide (-1 ≤ leader ∧ leader ≤ 2147483647) = false from decide_eq_false c1)
  clear c0 c1 
  go_enter Try.func51, Try.ntmps51
  go_wp2_with (first
  | (go_at_call 76; (with_reducible refine (bat_within leader (-1) 2147483647 _ HW1.out H.out).mono ?_); rintro e_ wn ⟨rfl, h⟩; replace H := Lib.hid h; clear h; obtain ⟨x0, x1, x2, x3, x4, x5, x6, x7, x8, x9, x10, x11, y0, y1, y2, y3, y4, y5, y6, y7, y8, y9, y10, y11⟩ := raw12 (b := hb) (H.out))
  | (go_at_call 76; (with_reducible refine (bat_within last 0 2147483647 _ HW2.out H.out).mono ?_); rintro e_ wn ⟨rfl, h⟩; replace H := Lib.hid h; clear h; obtain ⟨x0, x1, x2, x3, x4, x5, x6, x7, x8, x9, x10, x11, y0, y1, y2, y3, y4, y5, y6, y7, y8, y9, y10, y11⟩ := raw12 (b := hb) (H.out)))
  go_ret
  exact ⟨rfl, H.out.drop⟩
 by_cases c2 : 0 ≤ last ∧ last ≤ 2147483647
 case neg =>
  obtain rfl : false = r := by rw [← hr]; exact (decide_eq_false (fun x => c2 x.2.2.1)).symm
  have d0 : decide (0 ≤ base) = true := decide_eq_true c0
  have HW1 := Lib.hid (show decide (-1 ≤ leader ∧ leader ≤ 2147483647) = true from decide_eq_true c1)
  have HW2 := Lib.hid (show decide (0 ≤ last ∧ last ≤ 2147483647) = false from decide_eq_false c2)
  clear c0 c1 c2 
  go_enter Try.func51, Try.ntmps51
  go_wp2_with (first
  | (go_at_call 76; (with_reducible refine (bat_within leader (-1) 2147483647 _ HW1.out H.out).mono ?_); rintro e_ wn ⟨rfl, h⟩; replace H := Lib.hid h; clear h; obtain ⟨x0, x1, x2, x3, x4, x5, x6, x7, x8, x9, x10, x11, y0, y1, y2, y3, y4, y5, y6, y7, y8, y9, y10, y11⟩ := raw12 (b := hb) (H.out))
  | (go_at_call 76; (with_reducible refine (bat_within last 0 2147483647 _ HW2.out H.out).mono ?_); rintro e_ wn ⟨rfl, h⟩; replace H := Lib.hid h; clear h; obtain ⟨x0, x1, x2, x3, x4, x5, x6, x7, x8, x9, x10, x11, y0, y1, y2, y3, y4, y5, y6, y7, y8, y9, y10, y11⟩ := raw12 (b := hb) (H.out)))
  go_ret
  exact ⟨rfl, H.out.drop⟩
 by_cases c3 : base ≤ 9223372036854775807 - last
 case neg =>
  obtain rfl : false = r := by rw [← hr]; exact (decide_eq_false (fun x => c3 x.2.2.2.1)).symm
  have d0 : decide (0 ≤ base) = true := decide_eq_true c0
  have HW1 := Lib.hid (show decide (-1 ≤ leader ∧ leader ≤ 2147483647) = true from decide_eq_true c1)
  have HW2 := Lib.hid (show decide (0 ≤ last ∧ last ≤ 2147483647) = true from decide_eq_true c2)
  obtain ⟨ml, hml⟩ : ∃ ml, 9223372036854775807 - last = ml := ⟨_, rfl⟩
  have wl : wrap64 (9223372036854775807 - last) = ml := by rw [← hml]; unfold wrap64; omega
  have wl2 : IntKind.i64.wrap (9223372036854775807 - last) = ml := by rw [← hml]; exact IntWalk.i64_in _ (by omega)
  have d3 : decide (base ≤ ml) = false := by rw [← hml]; exact decide_eq_false c3
  clear c0 c1 c2 c3 hml
  go_enter Try.func51, Try.ntmps51
  go_wp2_with (first
  | (go_at_call 76; (with_reducible refine (bat_within leader (-1) 2147483647 _ HW1.out H.out).mono ?_); rintro e_ wn ⟨rfl, h⟩; replace H := Lib.hid h; clear h; obtain ⟨x0, x1, x2, x3, x4, x5, x6, x7, x8, x9, x10, x11, y0, y1, y2, y3, y4, y5, y6, y7, y8, y9, y10, y11⟩ := raw12 (b := hb) (H.out))
  | (go_at_call 76; (with_reducible refine (bat_within last 0 2147483647 _ HW2.out H.out).mono ?_); rintro e_ wn ⟨rfl, h⟩; replace H := Lib.hid h; clear h; obtain ⟨x0, x1, x2, x3, x4, x5, x6, x7, x8, x9, x10, x11, y0, y1, y2, y3, y4, y5, y6, y7, y8, y9, y10, y11⟩ := raw12 (b := hb) (H.out)))
  go_ret
  exact ⟨rfl, H.out.drop⟩
 by_cases c4 : 0 ≤ first
 case neg =>
  obtain rfl : false = r := by rw [← hr]; exact (decide_eq_false (fun x => c4 x.2.2.2.2.1)).symm
  have d0 : decide (0 ≤ base) = true := decide_eq_true c0
  have HW1 := Lib.hid (show decide (-1 ≤ leader ∧ leader ≤ 2147483647) = true from decide_eq_true c1)
  have HW2 := Lib.hid (show decide (0 ≤ last ∧ last ≤ 2147483647) = true from decide_eq_true c2)
  obtain ⟨ml, hml⟩ : ∃ ml, 9223372036854775807 - last = ml := ⟨_, rfl⟩
  have wl : wrap64 (9223372036854775807 - last) = ml := by rw [← hml]; unfold wrap64; omega
  have wl2 : IntKind.i64.wrap (9223372036854775807 - last) = ml := by rw [← hml]; exact IntWalk.i64_in _ (by omega)
  have d3 : decide (base ≤ ml) = true := by rw [← hml]; exact decide_eq_true c3
  have d4 : decide (0 ≤ first) = false := decide_eq_false c4
  clear c0 c1 c2 c3 c4 hml
  go_enter Try.func51, Try.ntmps51
  go_wp2_with (first
  | (go_at_call 76; (with_reducible refine (bat_within leader (-1) 2147483647 _ HW1.out H.out).mono ?_); rintro e_ wn ⟨rfl, h⟩; replace H := Lib.hid h; clear h; obtain ⟨x0, x1, x2, x3, x4, x5, x6, x7, x8, x9, x10, x11, y0, y1, y2, y3, y4, y5, y6, y7, y8, y9, y10, y11⟩ := raw12 (b := hb) (H.out))
  | (go_at_call 76; (with_reducible refine (bat_within last 0 2147483647 _ HW2.out H.out).mono ?_); rintro e_ wn ⟨rfl, h⟩; replace H := Lib.hid h; clear h; obtain ⟨x0, x1, x2, x3, x4, x5, x6, x7, x8, x9, x10, x11, y0, y1, y2, y3, y4, y5, y6, y7, y8, y9, y10, y11⟩ := raw12 (b := hb) (H.out)))
  go_ret
  exact ⟨rfl, H.out.drop⟩
 by_cases c5 : 0 ≤ maxt
 case neg =>
  obtain rfl : false = r := by rw [← hr]; exact (decide_eq_false (fun x => c5 x.2.2.2.2.2)).symm
  have d0 : decide (0 ≤ base) = true := decide_eq_true c0
  have HW1 := Lib.hid (show decide (-1 ≤ leader ∧ leader ≤ 2147483647) = true from decide_eq_true c1)
  have HW2 := Lib.hid (show decide (0 ≤ last ∧ last ≤ 2147483647) = true from decide_eq_true c2)
  obtain ⟨ml, hml⟩ : ∃ ml, 9223372036854775807 - last = ml := ⟨_, rfl⟩
  have wl : wrap64 (9223372036854775807 - last) = ml := by rw [← hml]; unfold wrap64; omega
  have wl2 : IntKind.i64.wrap (9223372036854775807 - last) = ml := by rw [← hml]; exact IntWalk.i64_in _ (by omega)
  have d3 : decide (base ≤ ml) = true := by rw [← hml]; exact decide_eq_true c3
  have d4 : decide (0 ≤ first) = true := decide_eq_true c4
  have d5 : decide (0 ≤ maxt) = false := decide_eq_false c5
  clear c0 c1 c2 c3 c4 c5 hml
  go_enter Try.func51, Try.ntmps51
  go_wp2_with (first
  | (go_at_call 76; (with_reducible refine (bat_within leader (-1) 2147483647 _ HW1.out H.out).mono ?_); rintro e_ wn ⟨rfl, h⟩; replace H := Lib.hid h; clear h; obtain ⟨x0, x1, x2, x3, x4, x5, x6, x7, x8, x9, x10, x11, y0, y1, y2, y3, y4, y5, y6, y7, y8, y9, y10, y11⟩ := raw12 (b := hb) (H.out))
  | (go_at_call 76; (with_reducible refine (bat_within last 0 2147483647 _ HW2.out H.out).mono ?_); rintro e_ wn ⟨rfl, h⟩; replace H := Lib.hid h; clear h; obtain ⟨x0, x1, x2, x3, x4, x5, x6, x7, x8, x9, x10, x11, y0, y1, y2, y3, y4, y5, y6, y7, y8, y9, y10, y11⟩ := raw12 (b := hb) (H.out)))
  go_ret
  exact ⟨rfl, H.out.drop⟩
 obtain rfl : true = r := by rw [← hr]; exact (decide_eq_true ⟨c0, c1, c2, c3, c4, c5⟩).symm
 have d0 : decide (0 ≤ base) = true := decide_eq_true c0
 have HW1 := Lib.hid (show decide (-1 ≤ leader ∧ leader ≤ 2147483647) = true from decide_eq_true c1)
 have HW2 := Lib.hid (show decide (0 ≤ last ∧ last ≤ 2147483647) = true from decide_eq_true c2)
 obtain ⟨ml, hml⟩ : ∃ ml, 9223372036854775807 - last = ml := ⟨_, rfl⟩
 have wl : wrap64 (9223372036854775807 - last) = ml := by rw [← hml]; unfold wrap64; omega
 have wl2 : IntKind.i64.wrap (9223372036854775807 - last) = ml := by rw [← hml]; exact IntWalk.i64_in _ (by omega)
 have d3 : decide (base ≤ ml) = true := by rw [← hml]; exact decide_eq_true c3
 have d4 : decide (0 ≤ first) = true := decide_eq_true c4
 have d5 : decide (0 ≤ maxt) = true := decide_eq_true c5
 clear c0 c1 c2 c3 c4 c5 hml
 go_enter Try.func51, Try.ntmps51
 go_wp2_with (first
 | (go_at_call 76; (with_reducible refine (bat_within leader (-1) 2147483647 _ HW1.out H.out).mono ?_); rintro e_ wn ⟨rfl, h⟩; replace H := Lib.hid h; clear h; obtain ⟨x0, x1, x2, x3, x4, x5, x6, x7, x8, x9, x10, x11, y0, y1, y2, y3, y4, y5, y6, y7, y8, y9, y10, y11⟩ := raw12 (b := hb) (H.out))
 | (go_at_call 76; (with_reducible refine (bat_within last 0 2147483647 _ HW2.out H.out).mono ?_); rintro e_ wn ⟨rfl, h⟩; replace H := Lib.hid h; clear h; obtain ⟨x0, x1, x2, x3, x4, x5, x6, x7, x8, x9, x10, x11, y0, y1, y2, y3, y4, y5, y6, y7, y8, y9, y10, y11⟩ := raw12 (b := hb) (H.out)))
 go_ret
 exact ⟨rfl, H.out.drop⟩

set_option maxHeartbeats 1000000 in
set_option maxRecDepth 100000 in
theorem bat_signed (base leader : Int) (app txn ctl : Bool) (last first maxt prod epoch sq : Int) (rv : Value) (r : Bool) (hr : (if prod = -1 then decide (epoch = -1 ∧ sq = -1 ∧ txn = false) else if prod < 0 ∨ ¬ (0 ≤ epoch ∧ epoch ≤ 32767) then false else if ctl then decide (sq = -1) else decide (0 ≤ sq ∧ sq ≤ 2147483647)) = r) {W0 w : World} {K : Know} {L : List Res} (h : St W0 w K L) :
   Calls Try.prog 52 #[.agg #[.int .i64 base, .int .i64 leader, .bool app, .bool txn, .bool ctl, .int .i64 last, .int .i64 first, .int .i64 maxt, .int .i64 prod, .int .i64 epoch, .int .i64 sq, rv]] w fun en w' => en = .returned (.bool r) ∧ St W0 w' K L := by
 have h1 := h.allocRaw #[.int .i64 base, .int .i64 leader, .bool app, .bool txn, .bool ctl, .int .i64 last, .int .i64 first, .int .i64 maxt, .int .i64 prod, .int .i64 epoch, .int .i64 sq, rv] 39
 obtain ⟨hb, hhb⟩ : ∃ b, w.heap.size = b := ⟨_, rfl⟩
 rw [hhb] at h1
 obtain ⟨x0, x1, x2, x3, x4, x5, x6, x7, x8, x9, x10, x11, y0, y1, y2, y3, y4, y5, y6, y7, y8, y9, y10, y11⟩ := raw12 (b := hb) (h1)
 have H := Lib.hid h1
 clear h h1
 by_cases c0 : prod = -1
 · rw [if_pos c0] at hr
   have b0 : (prod == -1) = true := by rw [c0]; rfl
   subst c0
   by_cases c1 : epoch = -1
   · subst c1
     by_cases c2 : sq = -1
     · subst c2
       obtain rfl : (!txn) = r := by rw [← hr]; cases txn <;> rfl
       clear hr
       go_enter Try.func52, Try.ntmps52
       go_wp2
       go_ret
       exact ⟨rfl, H.out.drop⟩
     · obtain rfl : false = r := by rw [← hr]; exact (decide_eq_false (fun x => c2 x.2.1)).symm
       have b2 : (sq == -1) = false := by rw [beq_eq_false_iff_ne]; exact c2
       clear hr c2
       go_enter Try.func52, Try.ntmps52
       go_wp2
       go_ret
       exact ⟨rfl, H.out.drop⟩
   · obtain rfl : false = r := by rw [← hr]; exact (decide_eq_false (fun x => c1 x.1)).symm
     have b1 : (epoch == -1) = false := by rw [beq_eq_false_iff_ne]; exact c1
     clear hr c1
     go_enter Try.func52, Try.ntmps52
     go_wp2
     go_ret
     exact ⟨rfl, H.out.drop⟩
 · rw [if_neg c0] at hr
   have b0 : (prod == -1) = false := by rw [beq_eq_false_iff_ne]; exact c0
   by_cases c1 : prod < 0
   · rw [if_pos (.inl c1)] at hr
     subst hr
     have d1 : decide (prod < 0) = true := decide_eq_true c1
     clear c0 c1
     go_enter Try.func52, Try.ntmps52
     go_wp2
     go_ret
     exact ⟨rfl, H.out.drop⟩
   · have d1 : decide (prod < 0) = false := decide_eq_false c1
     by_cases c2 : 0 ≤ epoch ∧ epoch ≤ 32767
     · rw [if_neg (by rintro (x | x); exact c1 x; exact x c2)] at hr
       have HE := Lib.hid (show decide (0 ≤ epoch ∧ epoch ≤ 32767) = true from decide_eq_true c2)
       clear c0 c1 c2
       cases ctl with
       | true =>
        obtain rfl : (sq == -1) = r := by rw [← hr]; rfl
        clear hr
        go_enter Try.func52, Try.ntmps52
        go_wp2_with (first | (go_at_call 76; (with_reducible refine (bat_within epoch 0 32767 _ HE.out H.out).mono ?_); rintro e_ wn ⟨rfl, h⟩; replace H := Lib.hid h; clear h; obtain ⟨x0, x1, x2, x3, x4, x5, x6, x7, x8, x9, x10, x11, y0, y1, y2, y3, y4, y5, y6, y7, y8, y9, y10, y11⟩ := raw12 (b := hb) (H.out)) | fail)
        go_ret
        exact ⟨rfl, H.out.drop⟩
       | false =>
        have HS := Lib.hid (show decide (0 ≤ sq ∧ sq ≤ 2147483647) = r from hr)
        clear hr
        go_enter Try.func52, Try.ntmps52
        go_wp2_with (first | (go_at_call 76; (with_reducible refine (bat_within epoch 0 32767 _ HE.out H.out).mono ?_); rintro e_ wn ⟨rfl, h⟩; replace H := Lib.hid h; clear h; obtain ⟨x0, x1, x2, x3, x4, x5, x6, x7, x8, x9, x10, x11, y0, y1, y2, y3, y4, y5, y6, y7, y8, y9, y10, y11⟩ := raw12 (b := hb) (H.out)) | (go_at_call 76; (with_reducible refine (bat_within sq 0 2147483647 _ HS.out H.out).mono ?_); rintro e_ wn ⟨rfl, h⟩; replace H := Lib.hid h; clear h; obtain ⟨x0, x1, x2, x3, x4, x5, x6, x7, x8, x9, x10, x11, y0, y1, y2, y3, y4, y5, y6, y7, y8, y9, y10, y11⟩ := raw12 (b := hb) (H.out)))
        go_ret
        exact ⟨rfl, H.out.drop⟩
     · rw [if_pos (.inr c2)] at hr
       subst hr
       have HE := Lib.hid (show decide (0 ≤ epoch ∧ epoch ≤ 32767) = false from decide_eq_false c2)
       clear c0 c1 c2
       go_enter Try.func52, Try.ntmps52
       go_wp2_with (first | (go_at_call 76; (with_reducible refine (bat_within epoch 0 32767 _ HE.out H.out).mono ?_); rintro e_ wn ⟨rfl, h⟩; replace H := Lib.hid h; clear h; obtain ⟨x0, x1, x2, x3, x4, x5, x6, x7, x8, x9, x10, x11, y0, y1, y2, y3, y4, y5, y6, y7, y8, y9, y10, y11⟩ := raw12 (b := hb) (H.out)) | fail)
       go_ret
       exact ⟨rfl, H.out.drop⟩

end Go.Proofs.Ytnnnglklgofabaa
