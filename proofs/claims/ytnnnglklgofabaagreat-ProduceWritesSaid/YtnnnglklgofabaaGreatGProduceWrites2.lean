/- A text. -/
import Derived.Test.YtnnnglklgofabaaGreatGProduceWrites1
import Derived.IntWalk
import Derived.RegionTactic
import Derived.Deep.DeepCutAuto
import Derived.Deep.RegionHeld3
import Derived.Test.YtnnnglklgofabaaGreatRec1
import Derived.Test.YtnnnglklgofabaaGreatBase
/- A text. -/
namespace Go.Proofs.YtnnnglklgofabaaGreat
open Go.RowKit

theorem raw12 {W0 w : World} {K : Know} {L : List Res} {b : Nat} {T : TypeId} {v0 v1 v2 v3 v4 v5 v6 v7 v8 v9 v10 v11 : Value} (h : St W0 w K (.raw b #[v0, v1, v2, v3, v4, v5, v6, v7, v8, v9, v10, v11] T :: L)) :
  w.cell? ⟨b, 0, none⟩ = some v0 ∧ w.cell? ⟨b, 1, none⟩ = some v1 ∧ w.cell? ⟨b, 2, none⟩ = some v2 ∧ w.cell? ⟨b, 3, none⟩ = some v3 ∧ w.cell? ⟨b, 4, none⟩ = some v4 ∧ w.cell? ⟨b, 5, none⟩ = some v5 ∧ w.cell? ⟨b, 6, none⟩ = some v6 ∧ w.cell? ⟨b, 7, none⟩ = some v7 ∧ w.cell? ⟨b, 8, none⟩ = some v8 ∧ w.cell? ⟨b, 9, none⟩ = some v9 ∧ w.cell? ⟨b, 10, none⟩ = some v10 ∧ w.cell? ⟨b, 11, none⟩ = some v11 ∧
  w.frozen? ⟨b, 0, none⟩ = false ∧ w.frozen? ⟨b, 1, none⟩ = false ∧ w.frozen? ⟨b, 2, none⟩ = false ∧ w.frozen? ⟨b, 3, none⟩ = false ∧ w.frozen? ⟨b, 4, none⟩ = false ∧ w.frozen? ⟨b, 5, none⟩ = false ∧ w.frozen? ⟨b, 6, none⟩ = false ∧ w.frozen? ⟨b, 7, none⟩ = false ∧ w.frozen? ⟨b, 8, none⟩ = false ∧ w.frozen? ⟨b, 9, none⟩ = false ∧ w.frozen? ⟨b, 10, none⟩ = false ∧ w.frozen? ⟨b, 11, none⟩ = false :=
 ⟨h.rawCell 0, h.rawCell 1, h.rawCell 2, h.rawCell 3, h.rawCell 4, h.rawCell 5, h.rawCell 6, h.rawCell 7, h.rawCell 8, h.rawCell 9, h.rawCell 10, h.rawCell 11, h.rawFree 0, h.rawFree 1, h.rawFree 2, h.rawFree 3, h.rawFree 4, h.rawFree 5, h.rawFree 6, h.rawFree 7, h.rawFree 8, h.rawFree 9, h.rawFree 10, h.rawFree 11⟩

theorem zq43 {p : Prop} (h : p := by first | exact HH.out | exact HH.out.p1 | exact HH.out.p2) : p := h
theorem zq49 {p : Prop} (h : p := by first | exact H.out | exact H.out.p1 | exact H.out.p2) : p := h
theorem zq0 {p : Prop} (h : p := by
  rw [if_neg hz]; have hzb : (j3.err != 0) = true := by rw [bne_iff_ne]; exact hz
  clear hz; go_enter Tryz.func141, Tryz.ntmps141
  go_wp2_with (first
    | (go_at_call 164; (with_reducible refine (EF.out _ _ _ _ H.out).mono ?_); rintro e wn ⟨rfl, h⟩; obtain ⟨bb2, hbb2⟩ : ∃ b, wn.heap.size = b := ⟨_, rfl⟩; have h := h.allocRaw #[.int .i64 a0, .int .i64 a1, .int .i64 a2, .int .i64 sm, .int .i64 a5, .int .i64 a6, .int .i64 a7, .int .i64 a8, .int .i64 a9, .int .i64 a10, .int .i64 a11, .int .i64 a12] 154; rw [hbb2] at h; replace H := Lib.hid h; clear h; have HH := Lib.hid H.out; obtain ⟨yc0, yc1, yc2, yc3, yc4, yc5, yc6, yc7, yc8, yc9, yc10, yc11, yf0, yf1, yf2, yf3, yf4, yf5, yf6, yf7, yf8, yf9, yf10, yf11⟩ := raw12 (b := w.heap.size) zq43; obtain ⟨xc0, xc1, xc2, xc3, xc4, xc5, xc6, xc7, xc8, xc9, xc10, xc11, xf0, xf1, xf2, xf3, xf4, xf5, xf6, xf7, xf8, xf9, xf10, xf11⟩ := raw12 (b := bb2) zq43)
    | (go_at_call 47; (with_reducible refine (s_fail _ _ _ zq49).mono ?_); (repeat first | rw [EJ1.out] | rw [EJ2.out] | rw [EJ3.out]); rintro e wn ⟨rfl, h⟩; replace H := Lib.hid h; clear h; have HH := Lib.hid H.out; obtain ⟨yc0, yc1, yc2, yc3, yc4, yc5, yc6, yc7, yc8, yc9, yc10, yc11, yf0, yf1, yf2, yf3, yf4, yf5, yf6, yf7, yf8, yf9, yf10, yf11⟩ := raw12 (b := w.heap.size) zq43; obtain ⟨xc0, xc1, xc2, xc3, xc4, xc5, xc6, xc7, xc8, xc9, xc10, xc11, xf0, xf1, xf2, xf3, xf4, xf5, xf6, xf7, xf8, xf9, xf10, xf11⟩ := raw12 (b := bb2) zq43)
    | (go_at_call 20; (with_reducible refine (s_err _ _ zq49).mono ?_); rintro e wn ⟨rfl, h⟩; replace H := Lib.hid h; clear h; have HH := Lib.hid H.out; obtain ⟨yc0, yc1, yc2, yc3, yc4, yc5, yc6, yc7, yc8, yc9, yc10, yc11, yf0, yf1, yf2, yf3, yf4, yf5, yf6, yf7, yf8, yf9, yf10, yf11⟩ := raw12 (b := w.heap.size) zq43; obtain ⟨xc0, xc1, xc2, xc3, xc4, xc5, xc6, xc7, xc8, xc9, xc10, xc11, xf0, xf1, xf2, xf3, xf4, xf5, xf6, xf7, xf8, xf9, xf10, xf11⟩ := raw12 (b := bb2) zq43))
  refine bodyPost_ret (v := .agg #[.int .i64 0, .int .i64 0, .int .i64 0, .int .i64 0, .int .i64 0, .int .i64 0, .int .i64 0, .int .i64 0, .int .i64 0, .int .i64 0, .int .i64 0, .int .i64 0]) (by simp [results, Tryz.results141, go_sem, yc0, yc1, yc2, yc3, yc4, yc5, yc6, yc7, yc8, yc9, yc10, yc11]) rfl ⟨rfl, ?_⟩; exact ((((((((((((H.out.p2.rawSet 0 _).rawSet 1 _).rawSet 2 _).rawSet 3 _).rawSet 4 _).rawSet 5 _).rawSet 6 _).rawSet 7 _).rawSet 8 _).rawSet 9 _).rawSet 10 _).rawSet 11 _).drop.p1.drop) : p := h
theorem zq1 {p : Prop} (h : p := by
  rw [if_pos hz]; have HZ := Lib.hid hz; clear hz; go_enter Tryz.func141, Tryz.ntmps141
  go_wp2_with (first
    | (go_at_call 164; (with_reducible refine (EF.out _ _ _ _ H.out).mono ?_); rintro e wn ⟨rfl, h⟩; obtain ⟨bb2, hbb2⟩ : ∃ b, wn.heap.size = b := ⟨_, rfl⟩; have h := h.allocRaw #[.int .i64 a0, .int .i64 a1, .int .i64 a2, .int .i64 sm, .int .i64 a5, .int .i64 a6, .int .i64 a7, .int .i64 a8, .int .i64 a9, .int .i64 a10, .int .i64 a11, .int .i64 a12] 154; rw [hbb2] at h; replace H := Lib.hid h; clear h; have HH := Lib.hid H.out; obtain ⟨yc0, yc1, yc2, yc3, yc4, yc5, yc6, yc7, yc8, yc9, yc10, yc11, yf0, yf1, yf2, yf3, yf4, yf5, yf6, yf7, yf8, yf9, yf10, yf11⟩ := raw12 (b := w.heap.size) zq43; obtain ⟨xc0, xc1, xc2, xc3, xc4, xc5, xc6, xc7, xc8, xc9, xc10, xc11, xf0, xf1, xf2, xf3, xf4, xf5, xf6, xf7, xf8, xf9, xf10, xf11⟩ := raw12 (b := bb2) zq43)
    | (go_at_call 47; (with_reducible refine (s_fail _ _ _ zq49).mono ?_); (repeat first | rw [EJ1.out] | rw [EJ2.out] | rw [EJ3.out]); rintro e wn ⟨rfl, h⟩; replace H := Lib.hid h; clear h; have HH := Lib.hid H.out; obtain ⟨yc0, yc1, yc2, yc3, yc4, yc5, yc6, yc7, yc8, yc9, yc10, yc11, yf0, yf1, yf2, yf3, yf4, yf5, yf6, yf7, yf8, yf9, yf10, yf11⟩ := raw12 (b := w.heap.size) zq43; obtain ⟨xc0, xc1, xc2, xc3, xc4, xc5, xc6, xc7, xc8, xc9, xc10, xc11, xf0, xf1, xf2, xf3, xf4, xf5, xf6, xf7, xf8, xf9, xf10, xf11⟩ := raw12 (b := bb2) zq43)
    | (go_at_call 20; (with_reducible refine (s_err _ _ zq49).mono ?_); rw [HZ.out]; rintro e wn ⟨rfl, h⟩; replace H := Lib.hid h; clear h; have HH := Lib.hid H.out; obtain ⟨yc0, yc1, yc2, yc3, yc4, yc5, yc6, yc7, yc8, yc9, yc10, yc11, yf0, yf1, yf2, yf3, yf4, yf5, yf6, yf7, yf8, yf9, yf10, yf11⟩ := raw12 (b := w.heap.size) zq43; obtain ⟨xc0, xc1, xc2, xc3, xc4, xc5, xc6, xc7, xc8, xc9, xc10, xc11, xf0, xf1, xf2, xf3, xf4, xf5, xf6, xf7, xf8, xf9, xf10, xf11⟩ := raw12 (b := bb2) zq43))
  refine bodyPost_ret (v := .agg #[.int .i64 a0, .int .i64 a1, .int .i64 a2, .int .i64 sm, .int .i64 a5, .int .i64 a6, .int .i64 a7, .int .i64 a8, .int .i64 a9, .int .i64 a10, .int .i64 a11, .int .i64 a12]) (by simp [results, Tryz.results141, go_sem, yc0, yc1, yc2, yc3, yc4, yc5, yc6, yc7, yc8, yc9, yc10, yc11]) rfl ⟨rfl, ?_⟩; exact ((((((((((((H.out.p2.rawSet 0 _).rawSet 1 _).rawSet 2 _).rawSet 3 _).rawSet 4 _).rawSet 5 _).rawSet 6 _).rawSet 7 _).rawSet 8 _).rawSet 9 _).rawSet 10 _).rawSet 11 _).drop.p1.drop) : p := h
set_option maxHeartbeats 1000000 in
set_option maxRecDepth 100000 in
theorem prefix_read_000 (p : Nat) (i i1 i2 i3 i4 i5 i6 i7 i8 i9 i10 i11 i12 i13 j1 j2 j3 : InS) (a0 a1 a2 a3 a4 a5 a6 a7 a8 a9 a10 a11 a12 sm : Int) (e0 : i.int 8 = (a0, i1)) (e1 : i1.int 4 = (a1, i2)) (e2 : i2.int 4 = (a2, i3)) (e3 : i3.int 1 = (a3, i4)) (e4 : i4.int 4 = (a4, i5)) (e5 : i5.int 2 = (a5, i6)) (e6 : i6.int 4 = (a6, i7)) (e7 : i7.int 8 = (a7, i8)) (e8 : i8.int 8 = (a8, i9)) (e9 : i9.int 8 = (a9, i10)) (e10 : i10.int 2 = (a10, i11)) (e11 : i11.int 4 = (a11, i12)) (e12 : i12.int 4 = (a12, i13)) (hsm : bits .and .i64 a4 4294967295 = sm)
    (hm : (a3 != 2) = true) (hl : ¬ a1 < 49) (hn : ¬ a12 < 0) (hJ1 : j1 = i13.fail 6) (hJ2 : j2 = j1) (hJ3 : j3 = j2) {W0 w : World} {K : Know} {L : List Res} (h : St W0 w K (.inp p i :: L)) :
    Calls Tryz.prog 141 #[inPtr p] w fun en w' => en = .returned (if j3.err = 0 then .agg #[.int .i64 a0, .int .i64 a1, .int .i64 a2, .int .i64 sm, .int .i64 a5, .int .i64 a6, .int .i64 a7, .int .i64 a8, .int .i64 a9, .int .i64 a10, .int .i64 a11, .int .i64 a12] else .agg #[.int .i64 0, .int .i64 0, .int .i64 0, .int .i64 0, .int .i64 0, .int .i64 0, .int .i64 0, .int .i64 0, .int .i64 0, .int .i64 0, .int .i64 0, .int .i64 0]) ∧ St W0 w' K (.inp p j3 :: L) := by
  have H := Lib.hid (h.allocRaw #[.int .i64 0, .int .i64 0, .int .i64 0, .int .i64 0, .int .i64 0, .int .i64 0, .int .i64 0, .int .i64 0, .int .i64 0, .int .i64 0, .int .i64 0, .int .i64 0] 154).p1; have EF := Lib.hid (fun (W0' w' : World) (K' : Know) (L' : List Res) (h' : St W0' w' K' (.inp p i :: L')) => prefix_fields p i i1 i2 i3 i4 i5 i6 i7 i8 i9 i10 i11 i12 i13 a0 a1 a2 a3 a4 a5 a6 a7 a8 a9 a10 a11 a12 sm e0 e1 e2 e3 e4 e5 e6 e7 e8 e9 e10 e11 e12 hsm h'); clear h e0 e1 e2 e3 e4 e5 e6 e7 e8 e9 e10 e11 e12 hsm; have EJ1 := Lib.hid hJ1.symm; clear hJ1; subst hJ2; subst hJ3
  by_cases hz : j3.err = 0
  · exact zq1
  · exact zq0

set_option maxHeartbeats 1000000 in
set_option maxRecDepth 100000 in
theorem prefix_read_001 (p : Nat) (i i1 i2 i3 i4 i5 i6 i7 i8 i9 i10 i11 i12 i13 j1 j2 j3 : InS) (a0 a1 a2 a3 a4 a5 a6 a7 a8 a9 a10 a11 a12 sm : Int) (e0 : i.int 8 = (a0, i1)) (e1 : i1.int 4 = (a1, i2)) (e2 : i2.int 4 = (a2, i3)) (e3 : i3.int 1 = (a3, i4)) (e4 : i4.int 4 = (a4, i5)) (e5 : i5.int 2 = (a5, i6)) (e6 : i6.int 4 = (a6, i7)) (e7 : i7.int 8 = (a7, i8)) (e8 : i8.int 8 = (a8, i9)) (e9 : i9.int 8 = (a9, i10)) (e10 : i10.int 2 = (a10, i11)) (e11 : i11.int 4 = (a11, i12)) (e12 : i12.int 4 = (a12, i13)) (hsm : bits .and .i64 a4 4294967295 = sm)
    (hm : (a3 != 2) = true) (hl : ¬ a1 < 49) (hn : a12 < 0) (hJ1 : j1 = i13.fail 6) (hJ2 : j2 = j1) (hJ3 : j3 = j2.fail 10) {W0 w : World} {K : Know} {L : List Res} (h : St W0 w K (.inp p i :: L)) :
    Calls Tryz.prog 141 #[inPtr p] w fun en w' => en = .returned (if j3.err = 0 then .agg #[.int .i64 a0, .int .i64 a1, .int .i64 a2, .int .i64 sm, .int .i64 a5, .int .i64 a6, .int .i64 a7, .int .i64 a8, .int .i64 a9, .int .i64 a10, .int .i64 a11, .int .i64 a12] else .agg #[.int .i64 0, .int .i64 0, .int .i64 0, .int .i64 0, .int .i64 0, .int .i64 0, .int .i64 0, .int .i64 0, .int .i64 0, .int .i64 0, .int .i64 0, .int .i64 0]) ∧ St W0 w' K (.inp p j3 :: L) := by
  have H := Lib.hid (h.allocRaw #[.int .i64 0, .int .i64 0, .int .i64 0, .int .i64 0, .int .i64 0, .int .i64 0, .int .i64 0, .int .i64 0, .int .i64 0, .int .i64 0, .int .i64 0, .int .i64 0] 154).p1; have EF := Lib.hid (fun (W0' w' : World) (K' : Know) (L' : List Res) (h' : St W0' w' K' (.inp p i :: L')) => prefix_fields p i i1 i2 i3 i4 i5 i6 i7 i8 i9 i10 i11 i12 i13 a0 a1 a2 a3 a4 a5 a6 a7 a8 a9 a10 a11 a12 sm e0 e1 e2 e3 e4 e5 e6 e7 e8 e9 e10 e11 e12 hsm h'); clear h e0 e1 e2 e3 e4 e5 e6 e7 e8 e9 e10 e11 e12 hsm; have EJ1 := Lib.hid hJ1.symm; clear hJ1; subst hJ2; have EJ3 := Lib.hid hJ3.symm; clear hJ3
  by_cases hz : j3.err = 0
  · exact zq1
  · exact zq0

set_option maxHeartbeats 1000000 in
set_option maxRecDepth 100000 in
theorem prefix_read_010 (p : Nat) (i i1 i2 i3 i4 i5 i6 i7 i8 i9 i10 i11 i12 i13 j1 j2 j3 : InS) (a0 a1 a2 a3 a4 a5 a6 a7 a8 a9 a10 a11 a12 sm : Int) (e0 : i.int 8 = (a0, i1)) (e1 : i1.int 4 = (a1, i2)) (e2 : i2.int 4 = (a2, i3)) (e3 : i3.int 1 = (a3, i4)) (e4 : i4.int 4 = (a4, i5)) (e5 : i5.int 2 = (a5, i6)) (e6 : i6.int 4 = (a6, i7)) (e7 : i7.int 8 = (a7, i8)) (e8 : i8.int 8 = (a8, i9)) (e9 : i9.int 8 = (a9, i10)) (e10 : i10.int 2 = (a10, i11)) (e11 : i11.int 4 = (a11, i12)) (e12 : i12.int 4 = (a12, i13)) (hsm : bits .and .i64 a4 4294967295 = sm)
    (hm : (a3 != 2) = true) (hl : a1 < 49) (hn : ¬ a12 < 0) (hJ1 : j1 = i13.fail 6) (hJ2 : j2 = j1.fail 4) (hJ3 : j3 = j2) {W0 w : World} {K : Know} {L : List Res} (h : St W0 w K (.inp p i :: L)) :
    Calls Tryz.prog 141 #[inPtr p] w fun en w' => en = .returned (if j3.err = 0 then .agg #[.int .i64 a0, .int .i64 a1, .int .i64 a2, .int .i64 sm, .int .i64 a5, .int .i64 a6, .int .i64 a7, .int .i64 a8, .int .i64 a9, .int .i64 a10, .int .i64 a11, .int .i64 a12] else .agg #[.int .i64 0, .int .i64 0, .int .i64 0, .int .i64 0, .int .i64 0, .int .i64 0, .int .i64 0, .int .i64 0, .int .i64 0, .int .i64 0, .int .i64 0, .int .i64 0]) ∧ St W0 w' K (.inp p j3 :: L) := by
  have H := Lib.hid (h.allocRaw #[.int .i64 0, .int .i64 0, .int .i64 0, .int .i64 0, .int .i64 0, .int .i64 0, .int .i64 0, .int .i64 0, .int .i64 0, .int .i64 0, .int .i64 0, .int .i64 0] 154).p1; have EF := Lib.hid (fun (W0' w' : World) (K' : Know) (L' : List Res) (h' : St W0' w' K' (.inp p i :: L')) => prefix_fields p i i1 i2 i3 i4 i5 i6 i7 i8 i9 i10 i11 i12 i13 a0 a1 a2 a3 a4 a5 a6 a7 a8 a9 a10 a11 a12 sm e0 e1 e2 e3 e4 e5 e6 e7 e8 e9 e10 e11 e12 hsm h'); clear h e0 e1 e2 e3 e4 e5 e6 e7 e8 e9 e10 e11 e12 hsm; have EJ1 := Lib.hid hJ1.symm; clear hJ1; have EJ2 := Lib.hid hJ2.symm; clear hJ2; subst hJ3
  by_cases hz : j3.err = 0
  · exact zq1
  · exact zq0

set_option maxHeartbeats 1000000 in
set_option maxRecDepth 100000 in
theorem prefix_read_011 (p : Nat) (i i1 i2 i3 i4 i5 i6 i7 i8 i9 i10 i11 i12 i13 j1 j2 j3 : InS) (a0 a1 a2 a3 a4 a5 a6 a7 a8 a9 a10 a11 a12 sm : Int) (e0 : i.int 8 = (a0, i1)) (e1 : i1.int 4 = (a1, i2)) (e2 : i2.int 4 = (a2, i3)) (e3 : i3.int 1 = (a3, i4)) (e4 : i4.int 4 = (a4, i5)) (e5 : i5.int 2 = (a5, i6)) (e6 : i6.int 4 = (a6, i7)) (e7 : i7.int 8 = (a7, i8)) (e8 : i8.int 8 = (a8, i9)) (e9 : i9.int 8 = (a9, i10)) (e10 : i10.int 2 = (a10, i11)) (e11 : i11.int 4 = (a11, i12)) (e12 : i12.int 4 = (a12, i13)) (hsm : bits .and .i64 a4 4294967295 = sm)
    (hm : (a3 != 2) = true) (hl : a1 < 49) (hn : a12 < 0) (hJ1 : j1 = i13.fail 6) (hJ2 : j2 = j1.fail 4) (hJ3 : j3 = j2.fail 10) {W0 w : World} {K : Know} {L : List Res} (h : St W0 w K (.inp p i :: L)) :
    Calls Tryz.prog 141 #[inPtr p] w fun en w' => en = .returned (if j3.err = 0 then .agg #[.int .i64 a0, .int .i64 a1, .int .i64 a2, .int .i64 sm, .int .i64 a5, .int .i64 a6, .int .i64 a7, .int .i64 a8, .int .i64 a9, .int .i64 a10, .int .i64 a11, .int .i64 a12] else .agg #[.int .i64 0, .int .i64 0, .int .i64 0, .int .i64 0, .int .i64 0, .int .i64 0, .int .i64 0, .int .i64 0, .int .i64 0, .int .i64 0, .int .i64 0, .int .i64 0]) ∧ St W0 w' K (.inp p j3 :: L) := by
  have H := Lib.hid (h.allocRaw #[.int .i64 0, .int .i64 0, .int .i64 0, .int .i64 0, .int .i64 0, .int .i64 0, .int .i64 0, .int .i64 0, .int .i64 0, .int .i64 0, .int .i64 0, .int .i64 0] 154).p1; have EF := Lib.hid (fun (W0' w' : World) (K' : Know) (L' : List Res) (h' : St W0' w' K' (.inp p i :: L')) => prefix_fields p i i1 i2 i3 i4 i5 i6 i7 i8 i9 i10 i11 i12 i13 a0 a1 a2 a3 a4 a5 a6 a7 a8 a9 a10 a11 a12 sm e0 e1 e2 e3 e4 e5 e6 e7 e8 e9 e10 e11 e12 hsm h'); clear h e0 e1 e2 e3 e4 e5 e6 e7 e8 e9 e10 e11 e12 hsm; have EJ1 := Lib.hid hJ1.symm; clear hJ1; have EJ2 := Lib.hid hJ2.symm; clear hJ2; have EJ3 := Lib.hid hJ3.symm; clear hJ3
  by_cases hz : j3.err = 0
  · exact zq1
  · exact zq0

set_option maxHeartbeats 1000000 in
set_option maxRecDepth 100000 in
theorem prefix_read_100 (p : Nat) (i i1 i2 i3 i4 i5 i6 i7 i8 i9 i10 i11 i12 i13 j1 j2 j3 : InS) (a0 a1 a2 a3 a4 a5 a6 a7 a8 a9 a10 a11 a12 sm : Int) (e0 : i.int 8 = (a0, i1)) (e1 : i1.int 4 = (a1, i2)) (e2 : i2.int 4 = (a2, i3)) (e3 : i3.int 1 = (a3, i4)) (e4 : i4.int 4 = (a4, i5)) (e5 : i5.int 2 = (a5, i6)) (e6 : i6.int 4 = (a6, i7)) (e7 : i7.int 8 = (a7, i8)) (e8 : i8.int 8 = (a8, i9)) (e9 : i9.int 8 = (a9, i10)) (e10 : i10.int 2 = (a10, i11)) (e11 : i11.int 4 = (a11, i12)) (e12 : i12.int 4 = (a12, i13)) (hsm : bits .and .i64 a4 4294967295 = sm)
    (hm : (a3 != 2) = false) (hl : ¬ a1 < 49) (hn : ¬ a12 < 0) (hJ1 : j1 = i13) (hJ2 : j2 = j1) (hJ3 : j3 = j2) {W0 w : World} {K : Know} {L : List Res} (h : St W0 w K (.inp p i :: L)) :
    Calls Tryz.prog 141 #[inPtr p] w fun en w' => en = .returned (if j3.err = 0 then .agg #[.int .i64 a0, .int .i64 a1, .int .i64 a2, .int .i64 sm, .int .i64 a5, .int .i64 a6, .int .i64 a7, .int .i64 a8, .int .i64 a9, .int .i64 a10, .int .i64 a11, .int .i64 a12] else .agg #[.int .i64 0, .int .i64 0, .int .i64 0, .int .i64 0, .int .i64 0, .int .i64 0, .int .i64 0, .int .i64 0, .int .i64 0, .int .i64 0, .int .i64 0, .int .i64 0]) ∧ St W0 w' K (.inp p j3 :: L) := by
  have H := Lib.hid (h.allocRaw #[.int .i64 0, .int .i64 0, .int .i64 0, .int .i64 0, .int .i64 0, .int .i64 0, .int .i64 0, .int .i64 0, .int .i64 0, .int .i64 0, .int .i64 0, .int .i64 0] 154).p1; have EF := Lib.hid (fun (W0' w' : World) (K' : Know) (L' : List Res) (h' : St W0' w' K' (.inp p i :: L')) => prefix_fields p i i1 i2 i3 i4 i5 i6 i7 i8 i9 i10 i11 i12 i13 a0 a1 a2 a3 a4 a5 a6 a7 a8 a9 a10 a11 a12 sm e0 e1 e2 e3 e4 e5 e6 e7 e8 e9 e10 e11 e12 hsm h'); clear h e0 e1 e2 e3 e4 e5 e6 e7 e8 e9 e10 e11 e12 hsm; subst hJ1; subst hJ2; subst hJ3
  by_cases hz : j3.err = 0
  · exact zq1
  · exact zq0

set_option maxHeartbeats 1000000 in
set_option maxRecDepth 100000 in
theorem prefix_read_101 (p : Nat) (i i1 i2 i3 i4 i5 i6 i7 i8 i9 i10 i11 i12 i13 j1 j2 j3 : InS) (a0 a1 a2 a3 a4 a5 a6 a7 a8 a9 a10 a11 a12 sm : Int) (e0 : i.int 8 = (a0, i1)) (e1 : i1.int 4 = (a1, i2)) (e2 : i2.int 4 = (a2, i3)) (e3 : i3.int 1 = (a3, i4)) (e4 : i4.int 4 = (a4, i5)) (e5 : i5.int 2 = (a5, i6)) (e6 : i6.int 4 = (a6, i7)) (e7 : i7.int 8 = (a7, i8)) (e8 : i8.int 8 = (a8, i9)) (e9 : i9.int 8 = (a9, i10)) (e10 : i10.int 2 = (a10, i11)) (e11 : i11.int 4 = (a11, i12)) (e12 : i12.int 4 = (a12, i13)) (hsm : bits .and .i64 a4 4294967295 = sm)
    (hm : (a3 != 2) = false) (hl : ¬ a1 < 49) (hn : a12 < 0) (hJ1 : j1 = i13) (hJ2 : j2 = j1) (hJ3 : j3 = j2.fail 10) {W0 w : World} {K : Know} {L : List Res} (h : St W0 w K (.inp p i :: L)) :
    Calls Tryz.prog 141 #[inPtr p] w fun en w' => en = .returned (if j3.err = 0 then .agg #[.int .i64 a0, .int .i64 a1, .int .i64 a2, .int .i64 sm, .int .i64 a5, .int .i64 a6, .int .i64 a7, .int .i64 a8, .int .i64 a9, .int .i64 a10, .int .i64 a11, .int .i64 a12] else .agg #[.int .i64 0, .int .i64 0, .int .i64 0, .int .i64 0, .int .i64 0, .int .i64 0, .int .i64 0, .int .i64 0, .int .i64 0, .int .i64 0, .int .i64 0, .int .i64 0]) ∧ St W0 w' K (.inp p j3 :: L) := by
  have H := Lib.hid (h.allocRaw #[.int .i64 0, .int .i64 0, .int .i64 0, .int .i64 0, .int .i64 0, .int .i64 0, .int .i64 0, .int .i64 0, .int .i64 0, .int .i64 0, .int .i64 0, .int .i64 0] 154).p1; have EF := Lib.hid (fun (W0' w' : World) (K' : Know) (L' : List Res) (h' : St W0' w' K' (.inp p i :: L')) => prefix_fields p i i1 i2 i3 i4 i5 i6 i7 i8 i9 i10 i11 i12 i13 a0 a1 a2 a3 a4 a5 a6 a7 a8 a9 a10 a11 a12 sm e0 e1 e2 e3 e4 e5 e6 e7 e8 e9 e10 e11 e12 hsm h'); clear h e0 e1 e2 e3 e4 e5 e6 e7 e8 e9 e10 e11 e12 hsm; subst hJ1; subst hJ2; have EJ3 := Lib.hid hJ3.symm; clear hJ3
  by_cases hz : j3.err = 0
  · exact zq1
  · exact zq0

set_option maxHeartbeats 1000000 in
set_option maxRecDepth 100000 in
theorem prefix_read_110 (p : Nat) (i i1 i2 i3 i4 i5 i6 i7 i8 i9 i10 i11 i12 i13 j1 j2 j3 : InS) (a0 a1 a2 a3 a4 a5 a6 a7 a8 a9 a10 a11 a12 sm : Int) (e0 : i.int 8 = (a0, i1)) (e1 : i1.int 4 = (a1, i2)) (e2 : i2.int 4 = (a2, i3)) (e3 : i3.int 1 = (a3, i4)) (e4 : i4.int 4 = (a4, i5)) (e5 : i5.int 2 = (a5, i6)) (e6 : i6.int 4 = (a6, i7)) (e7 : i7.int 8 = (a7, i8)) (e8 : i8.int 8 = (a8, i9)) (e9 : i9.int 8 = (a9, i10)) (e10 : i10.int 2 = (a10, i11)) (e11 : i11.int 4 = (a11, i12)) (e12 : i12.int 4 = (a12, i13)) (hsm : bits .and .i64 a4 4294967295 = sm)
    (hm : (a3 != 2) = false) (hl : a1 < 49) (hn : ¬ a12 < 0) (hJ1 : j1 = i13) (hJ2 : j2 = j1.fail 4) (hJ3 : j3 = j2) {W0 w : World} {K : Know} {L : List Res} (h : St W0 w K (.inp p i :: L)) :
    Calls Tryz.prog 141 #[inPtr p] w fun en w' => en = .returned (if j3.err = 0 then .agg #[.int .i64 a0, .int .i64 a1, .int .i64 a2, .int .i64 sm, .int .i64 a5, .int .i64 a6, .int .i64 a7, .int .i64 a8, .int .i64 a9, .int .i64 a10, .int .i64 a11, .int .i64 a12] else .agg #[.int .i64 0, .int .i64 0, .int .i64 0, .int .i64 0, .int .i64 0, .int .i64 0, .int .i64 0, .int .i64 0, .int .i64 0, .int .i64 0, .int .i64 0, .int .i64 0]) ∧ St W0 w' K (.inp p j3 :: L) := by
  have H := Lib.hid (h.allocRaw #[.int .i64 0, .int .i64 0, .int .i64 0, .int .i64 0, .int .i64 0, .int .i64 0, .int .i64 0, .int .i64 0, .int .i64 0, .int .i64 0, .int .i64 0, .int .i64 0] 154).p1; have EF := Lib.hid (fun (W0' w' : World) (K' : Know) (L' : List Res) (h' : St W0' w' K' (.inp p i :: L')) => prefix_fields p i i1 i2 i3 i4 i5 i6 i7 i8 i9 i10 i11 i12 i13 a0 a1 a2 a3 a4 a5 a6 a7 a8 a9 a10 a11 a12 sm e0 e1 e2 e3 e4 e5 e6 e7 e8 e9 e10 e11 e12 hsm h'); clear h e0 e1 e2 e3 e4 e5 e6 e7 e8 e9 e10 e11 e12 hsm; subst hJ1; have EJ2 := Lib.hid hJ2.symm; clear hJ2; subst hJ3
  by_cases hz : j3.err = 0
  · exact zq1
  · exact zq0

set_option maxHeartbeats 1000000 in
set_option maxRecDepth 100000 in
theorem prefix_read_111 (p : Nat) (i i1 i2 i3 i4 i5 i6 i7 i8 i9 i10 i11 i12 i13 j1 j2 j3 : InS) (a0 a1 a2 a3 a4 a5 a6 a7 a8 a9 a10 a11 a12 sm : Int) (e0 : i.int 8 = (a0, i1)) (e1 : i1.int 4 = (a1, i2)) (e2 : i2.int 4 = (a2, i3)) (e3 : i3.int 1 = (a3, i4)) (e4 : i4.int 4 = (a4, i5)) (e5 : i5.int 2 = (a5, i6)) (e6 : i6.int 4 = (a6, i7)) (e7 : i7.int 8 = (a7, i8)) (e8 : i8.int 8 = (a8, i9)) (e9 : i9.int 8 = (a9, i10)) (e10 : i10.int 2 = (a10, i11)) (e11 : i11.int 4 = (a11, i12)) (e12 : i12.int 4 = (a12, i13)) (hsm : bits .and .i64 a4 4294967295 = sm)
    (hm : (a3 != 2) = false) (hl : a1 < 49) (hn : a12 < 0) (hJ1 : j1 = i13) (hJ2 : j2 = j1.fail 4) (hJ3 : j3 = j2.fail 10) {W0 w : World} {K : Know} {L : List Res} (h : St W0 w K (.inp p i :: L)) :
    Calls Tryz.prog 141 #[inPtr p] w fun en w' => en = .returned (if j3.err = 0 then .agg #[.int .i64 a0, .int .i64 a1, .int .i64 a2, .int .i64 sm, .int .i64 a5, .int .i64 a6, .int .i64 a7, .int .i64 a8, .int .i64 a9, .int .i64 a10, .int .i64 a11, .int .i64 a12] else .agg #[.int .i64 0, .int .i64 0, .int .i64 0, .int .i64 0, .int .i64 0, .int .i64 0, .int .i64 0, .int .i64 0, .int .i64 0, .int .i64 0, .int .i64 0, .int .i64 0]) ∧ St W0 w' K (.inp p j3 :: L) := by
  have H := Lib.hid (h.allocRaw #[.int .i64 0, .int .i64 0, .int .i64 0, .int .i64 0, .int .i64 0, .int .i64 0, .int .i64 0, .int .i64 0, .int .i64 0, .int .i64 0, .int .i64 0, .int .i64 0] 154).p1; have EF := Lib.hid (fun (W0' w' : World) (K' : Know) (L' : List Res) (h' : St W0' w' K' (.inp p i :: L')) => prefix_fields p i i1 i2 i3 i4 i5 i6 i7 i8 i9 i10 i11 i12 i13 a0 a1 a2 a3 a4 a5 a6 a7 a8 a9 a10 a11 a12 sm e0 e1 e2 e3 e4 e5 e6 e7 e8 e9 e10 e11 e12 hsm h'); clear h e0 e1 e2 e3 e4 e5 e6 e7 e8 e9 e10 e11 e12 hsm; subst hJ1; have EJ2 := Lib.hid hJ2.symm; clear hJ2; have EJ3 := Lib.hid hJ3.symm; clear hJ3
  by_cases hz : j3.err = 0
  · exact zq1
  · exact zq0

def preOfL : List Int → PreS × Int
  | [a0, a1, a2, a3, a4, a5, a6, a7, a8, a9, a10, a11, a12] => (⟨a0, a1, a2, a4 % 4294967296, a5, a6, a7, a8, a9, a10, a11, a12⟩, a3)
  | _ => (PreS.zero, 0)
def preChk (x : PreS) (m : Int) (i : InS) : InS :=
  (fun j2 : InS => if x.count < 0 then j2.fail 10 else j2) ((fun j1 : InS => if x.len < 49 then j1.fail 4 else j1) (if m = 2 then i else i.fail 6))
def InS.pre (i : InS) : PreS × InS :=
  (fun j : InS => (if j.err = 0 then (preOfL (InS.ints preSizes i).1).1 else PreS.zero, j)) (preChk (preOfL (InS.ints preSizes i).1).1 (preOfL (InS.ints preSizes i).1).2 (InS.ints preSizes i).2)

theorem prefix_read (p : Nat) (i : InS) {W0 w : World} {K : Know} {L : List Res} (h : St W0 w K (.inp p i :: L)) :
   Calls Tryz.prog 141 #[inPtr p] w fun en w' => en = .returned (pv i.pre.1) ∧ St W0 w' K (.inp p i.pre.2 :: L) := by
 obtain ⟨⟨a0, i1⟩, e0⟩ : ∃ a, i.int 8 = a := ⟨_, rfl⟩; obtain ⟨⟨a1, i2⟩, e1⟩ : ∃ a, i1.int 4 = a := ⟨_, rfl⟩; obtain ⟨⟨a2, i3⟩, e2⟩ : ∃ a, i2.int 4 = a := ⟨_, rfl⟩; obtain ⟨⟨a3, i4⟩, e3⟩ : ∃ a, i3.int 1 = a := ⟨_, rfl⟩; obtain ⟨⟨a4, i5⟩, e4⟩ : ∃ a, i4.int 4 = a := ⟨_, rfl⟩; obtain ⟨⟨a5, i6⟩, e5⟩ : ∃ a, i5.int 2 = a := ⟨_, rfl⟩; obtain ⟨⟨a6, i7⟩, e6⟩ : ∃ a, i6.int 4 = a := ⟨_, rfl⟩; obtain ⟨⟨a7, i8⟩, e7⟩ : ∃ a, i7.int 8 = a := ⟨_, rfl⟩; obtain ⟨⟨a8, i9⟩, e8⟩ : ∃ a, i8.int 8 = a := ⟨_, rfl⟩; obtain ⟨⟨a9, i10⟩, e9⟩ : ∃ a, i9.int 8 = a := ⟨_, rfl⟩; obtain ⟨⟨a10, i11⟩, e10⟩ : ∃ a, i10.int 2 = a := ⟨_, rfl⟩; obtain ⟨⟨a11, i12⟩, e11⟩ : ∃ a, i11.int 4 = a := ⟨_, rfl⟩; obtain ⟨⟨a12, i13⟩, e12⟩ : ∃ a, i12.int 4 = a := ⟨_, rfl⟩
 have hi : InS.ints preSizes i = ([a0, a1, a2, a3, a4, a5, a6, a7, a8, a9, a10, a11, a12], i13) := by
   have c8 : ((8 : Nat) : Int) = 8 := rfl; have c4 : ((4 : Nat) : Int) = 4 := rfl; have c2 : ((2 : Nat) : Int) = 2 := rfl; have c1 : ((1 : Nat) : Int) = 1 := rfl; simp only [InS.ints, preSizes, c8, c4, c2, c1, e0, e1, e2, e3, e4, e5, e6, e7, e8, e9, e10, e11, e12]
 have hv : ∀ b : Prop, [Decidable b] → pv (if b then (⟨a0, a1, a2, a4 % 4294967296, a5, a6, a7, a8, a9, a10, a11, a12⟩ : PreS) else PreS.zero) = if b then (.agg #[.int .i64 a0, .int .i64 a1, .int .i64 a2, .int .i64 (a4 % 4294967296), .int .i64 a5, .int .i64 a6, .int .i64 a7, .int .i64 a8, .int .i64 a9, .int .i64 a10, .int .i64 a11, .int .i64 a12] : Value) else .agg #[.int .i64 0, .int .i64 0, .int .i64 0, .int .i64 0, .int .i64 0, .int .i64 0, .int .i64 0, .int .i64 0, .int .i64 0, .int .i64 0, .int .i64 0, .int .i64 0] := by
   intro b _; split <;> rfl
 unfold InS.pre; rw [hi]; have hp : preOfL [a0, a1, a2, a3, a4, a5, a6, a7, a8, a9, a10, a11, a12] = (⟨a0, a1, a2, a4 % 4294967296, a5, a6, a7, a8, a9, a10, a11, a12⟩, a3) := rfl; simp only [hp, preChk]; rw [hv]
 by_cases hm : a3 = 2 <;> by_cases hl : a1 < 49 <;> by_cases hn : a12 < 0
 · rw [if_pos hm, if_pos hl, if_pos hn]; exact prefix_read_111 p i i1 i2 i3 i4 i5 i6 i7 i8 i9 i10 i11 i12 i13 _ _ _ a0 a1 a2 a3 a4 a5 a6 a7 a8 a9 a10 a11 a12 _ e0 e1 e2 e3 e4 e5 e6 e7 e8 e9 e10 e11 e12 (and_u32 a4) (by simpa using hm) hl hn rfl rfl rfl h
 · rw [if_pos hm, if_pos hl, if_neg hn]; exact prefix_read_110 p i i1 i2 i3 i4 i5 i6 i7 i8 i9 i10 i11 i12 i13 _ _ _ a0 a1 a2 a3 a4 a5 a6 a7 a8 a9 a10 a11 a12 _ e0 e1 e2 e3 e4 e5 e6 e7 e8 e9 e10 e11 e12 (and_u32 a4) (by simpa using hm) hl hn rfl rfl rfl h
 · rw [if_pos hm, if_neg hl, if_pos hn]; exact prefix_read_101 p i i1 i2 i3 i4 i5 i6 i7 i8 i9 i10 i11 i12 i13 _ _ _ a0 a1 a2 a3 a4 a5 a6 a7 a8 a9 a10 a11 a12 _ e0 e1 e2 e3 e4 e5 e6 e7 e8 e9 e10 e11 e12 (and_u32 a4) (by simpa using hm) hl hn rfl rfl rfl h
 · rw [if_pos hm, if_neg hl, if_neg hn]; exact prefix_read_100 p i i1 i2 i3 i4 i5 i6 i7 i8 i9 i10 i11 i12 i13 _ _ _ a0 a1 a2 a3 a4 a5 a6 a7 a8 a9 a10 a11 a12 _ e0 e1 e2 e3 e4 e5 e6 e7 e8 e9 e10 e11 e12 (and_u32 a4) (by simpa using hm) hl hn rfl rfl rfl h
 · rw [if_neg hm, if_pos hl, if_pos hn]; exact prefix_read_011 p i i1 i2 i3 i4 i5 i6 i7 i8 i9 i10 i11 i12 i13 _ _ _ a0 a1 a2 a3 a4 a5 a6 a7 a8 a9 a10 a11 a12 _ e0 e1 e2 e3 e4 e5 e6 e7 e8 e9 e10 e11 e12 (and_u32 a4) (by simpa using hm) hl hn rfl rfl rfl h
 · rw [if_neg hm, if_pos hl, if_neg hn]; exact prefix_read_010 p i i1 i2 i3 i4 i5 i6 i7 i8 i9 i10 i11 i12 i13 _ _ _ a0 a1 a2 a3 a4 a5 a6 a7 a8 a9 a10 a11 a12 _ e0 e1 e2 e3 e4 e5 e6 e7 e8 e9 e10 e11 e12 (and_u32 a4) (by simpa using hm) hl hn rfl rfl rfl h
 · rw [if_neg hm, if_neg hl, if_pos hn]; exact prefix_read_001 p i i1 i2 i3 i4 i5 i6 i7 i8 i9 i10 i11 i12 i13 _ _ _ a0 a1 a2 a3 a4 a5 a6 a7 a8 a9 a10 a11 a12 _ e0 e1 e2 e3 e4 e5 e6 e7 e8 e9 e10 e11 e12 (and_u32 a4) (by simpa using hm) hl hn rfl rfl rfl h
 · rw [if_neg hm, if_neg hl, if_neg hn]; exact prefix_read_000 p i i1 i2 i3 i4 i5 i6 i7 i8 i9 i10 i11 i12 i13 _ _ _ a0 a1 a2 a3 a4 a5 a6 a7 a8 a9 a10 a11 a12 _ e0 e1 e2 e3 e4 e5 e6 e7 e8 e9 e10 e11 e12 (and_u32 a4) (by simpa using hm) hl hn rfl rfl rfl h
set_option maxHeartbeats 1000000 in
set_option maxRecDepth 100000 in
theorem bat_within (n lo hi : Int) (r : Bool) (hr : decide (lo ≤ n ∧ n ≤ hi) = r) {W0 w : World} {K : Know} {L : List Res} (h : St W0 w K L) :
   Calls Tryz.prog 150 #[.int .i64 n, .int .i64 lo, .int .i64 hi] w fun en w' => en = .returned (.bool r) ∧ St W0 w' K L := by
 have H := Lib.hid h; clear h
 by_cases h1 : lo ≤ n
 · have d1 : decide (lo ≤ n) = true := decide_eq_true h1
   by_cases h2 : n ≤ hi
   · have d2 : decide (n ≤ hi) = true := decide_eq_true h2; obtain rfl : true = r := (decide_eq_true ⟨h1, h2⟩).symm.trans hr; clear h1 h2; go_enter Tryz.func150, Tryz.ntmps150; go_wp2; go_ret; exact ⟨rfl, H.out⟩
   · have d2 : decide (n ≤ hi) = false := decide_eq_false h2; obtain rfl : false = r := (decide_eq_false (fun x => h2 x.2)).symm.trans hr; clear h1 h2; go_enter Tryz.func150, Tryz.ntmps150; go_wp2; go_ret; exact ⟨rfl, H.out⟩
 · have d1 : decide (lo ≤ n) = false := decide_eq_false h1; obtain rfl : false = r := (decide_eq_false (fun x => h1 x.1)).symm.trans hr; clear h1; go_enter Tryz.func150, Tryz.ntmps150; go_wp2; go_ret; exact ⟨rfl, H.out⟩

theorem zq4 {p : Prop} (h : p := by
  go_wp2_with (first
  | (go_at_call 150; (with_reducible refine (bat_within leader (-1) 2147483647 _ HW1.out H.out).mono ?_); rintro e_ wn ⟨rfl, h⟩; replace H := Lib.hid h; clear h; obtain ⟨x0, x1, x2, x3, x4, x5, x6, x7, x8, x9, x10, x11, y0, y1, y2, y3, y4, y5, y6, y7, y8, y9, y10, y11⟩ := raw12 (b := hb) (H.out))
  | (go_at_call 150; (with_reducible refine (bat_within last 0 2147483647 _ HW2.out H.out).mono ?_); rintro e_ wn ⟨rfl, h⟩; replace H := Lib.hid h; clear h; obtain ⟨x0, x1, x2, x3, x4, x5, x6, x7, x8, x9, x10, x11, y0, y1, y2, y3, y4, y5, y6, y7, y8, y9, y10, y11⟩ := raw12 (b := hb) (H.out)))
  go_ret; exact ⟨rfl, H.out.drop⟩) : p := h
set_option maxHeartbeats 1000000 in
set_option maxRecDepth 100000 in
theorem bat_placed (base leader : Int) (app txn ctl : Bool) (last first maxt prod epoch sq : Int) (rv : Value) (r : Bool) (hr : decide (0 ≤ base ∧ (-1 ≤ leader ∧ leader ≤ 2147483647) ∧ (0 ≤ last ∧ last ≤ 2147483647) ∧ base ≤ 9223372036854775807 - last ∧ 0 ≤ first ∧ 0 ≤ maxt) = r) {W0 w : World} {K : Know} {L : List Res} (h : St W0 w K L) :
  Calls Tryz.prog 120 #[.agg #[.int .i64 base, .int .i64 leader, .bool app, .bool txn, .bool ctl, .int .i64 last, .int .i64 first, .int .i64 maxt, .int .i64 prod, .int .i64 epoch, .int .i64 sq, rv]] w fun en w' => en = .returned (.bool r) ∧ St W0 w' K L := by
 have h1 := h.allocRaw #[.int .i64 base, .int .i64 leader, .bool app, .bool txn, .bool ctl, .int .i64 last, .int .i64 first, .int .i64 maxt, .int .i64 prod, .int .i64 epoch, .int .i64 sq, rv] 58; obtain ⟨hb, hhb⟩ : ∃ b, w.heap.size = b := ⟨_, rfl⟩; rw [hhb] at h1; obtain ⟨x0, x1, x2, x3, x4, x5, x6, x7, x8, x9, x10, x11, y0, y1, y2, y3, y4, y5, y6, y7, y8, y9, y10, y11⟩ := raw12 (b := hb) (h1); have H := Lib.hid h1; clear h h1
 by_cases c0 : 0 ≤ base
 case neg =>
  obtain rfl : false = r := by rw [← hr]; exact (decide_eq_false (fun x => c0 x.1)).symm
  have d0 : decide (0 ≤ base) = false := decide_eq_false c0; clear c0; go_enter Tryz.func120, Tryz.ntmps120
  exact zq4
 by_cases c1 : -1 ≤ leader ∧ leader ≤ 2147483647
 case neg =>
  obtain rfl : false = r := by rw [← hr]; exact (decide_eq_false (fun x => c1 x.2.1)).symm
  have d0 : decide (0 ≤ base) = true := decide_eq_true c0; have HW1 := Lib.hid (show decide (-1 ≤ leader ∧ leader ≤ 2147483647) = false from decide_eq_false c1); clear c0 c1; go_enter Tryz.func120, Tryz.ntmps120
  exact zq4
 by_cases c2 : 0 ≤ last ∧ last ≤ 2147483647
 case neg =>
  obtain rfl : false = r := by rw [← hr]; exact (decide_eq_false (fun x => c2 x.2.2.1)).symm
  have d0 : decide (0 ≤ base) = true := decide_eq_true c0; have HW1 := Lib.hid (show decide (-1 ≤ leader ∧ leader ≤ 2147483647) = true from decide_eq_true c1); have HW2 := Lib.hid (show decide (0 ≤ last ∧ last ≤ 2147483647) = false from decide_eq_false c2); clear c0 c1 c2; go_enter Tryz.func120, Tryz.ntmps120
  exact zq4
 by_cases c3 : base ≤ 9223372036854775807 - last
 case neg =>
  obtain rfl : false = r := by rw [← hr]; exact (decide_eq_false (fun x => c3 x.2.2.2.1)).symm
  have d0 : decide (0 ≤ base) = true := decide_eq_true c0; have HW1 := Lib.hid (show decide (-1 ≤ leader ∧ leader ≤ 2147483647) = true from decide_eq_true c1); have HW2 := Lib.hid (show decide (0 ≤ last ∧ last ≤ 2147483647) = true from decide_eq_true c2); obtain ⟨ml, hml⟩ : ∃ ml, 9223372036854775807 - last = ml := ⟨_, rfl⟩; have wl : wrap64 (9223372036854775807 - last) = ml := by rw [← hml]; unfold wrap64; omega
  have wl2 : IntKind.i64.wrap (9223372036854775807 - last) = ml := by rw [← hml]; exact IntWalk.i64_in _ (by omega)
  have d3 : decide (base ≤ ml) = false := by rw [← hml]; exact decide_eq_false c3
  clear c0 c1 c2 c3 hml; go_enter Tryz.func120, Tryz.ntmps120
  exact zq4
 by_cases c4 : 0 ≤ first
 case neg =>
  obtain rfl : false = r := by rw [← hr]; exact (decide_eq_false (fun x => c4 x.2.2.2.2.1)).symm
  have d0 : decide (0 ≤ base) = true := decide_eq_true c0; have HW1 := Lib.hid (show decide (-1 ≤ leader ∧ leader ≤ 2147483647) = true from decide_eq_true c1); have HW2 := Lib.hid (show decide (0 ≤ last ∧ last ≤ 2147483647) = true from decide_eq_true c2); obtain ⟨ml, hml⟩ : ∃ ml, 9223372036854775807 - last = ml := ⟨_, rfl⟩; have wl : wrap64 (9223372036854775807 - last) = ml := by rw [← hml]; unfold wrap64; omega
  have wl2 : IntKind.i64.wrap (9223372036854775807 - last) = ml := by rw [← hml]; exact IntWalk.i64_in _ (by omega)
  have d3 : decide (base ≤ ml) = true := by rw [← hml]; exact decide_eq_true c3
  have d4 : decide (0 ≤ first) = false := decide_eq_false c4; clear c0 c1 c2 c3 c4 hml; go_enter Tryz.func120, Tryz.ntmps120
  exact zq4
 by_cases c5 : 0 ≤ maxt
 case neg =>
  obtain rfl : false = r := by rw [← hr]; exact (decide_eq_false (fun x => c5 x.2.2.2.2.2)).symm
  have d0 : decide (0 ≤ base) = true := decide_eq_true c0; have HW1 := Lib.hid (show decide (-1 ≤ leader ∧ leader ≤ 2147483647) = true from decide_eq_true c1); have HW2 := Lib.hid (show decide (0 ≤ last ∧ last ≤ 2147483647) = true from decide_eq_true c2); obtain ⟨ml, hml⟩ : ∃ ml, 9223372036854775807 - last = ml := ⟨_, rfl⟩; have wl : wrap64 (9223372036854775807 - last) = ml := by rw [← hml]; unfold wrap64; omega
  have wl2 : IntKind.i64.wrap (9223372036854775807 - last) = ml := by rw [← hml]; exact IntWalk.i64_in _ (by omega)
  have d3 : decide (base ≤ ml) = true := by rw [← hml]; exact decide_eq_true c3
  have d4 : decide (0 ≤ first) = true := decide_eq_true c4; have d5 : decide (0 ≤ maxt) = false := decide_eq_false c5; clear c0 c1 c2 c3 c4 c5 hml; go_enter Tryz.func120, Tryz.ntmps120
  exact zq4
 obtain rfl : true = r := by rw [← hr]; exact (decide_eq_true ⟨c0, c1, c2, c3, c4, c5⟩).symm
 have d0 : decide (0 ≤ base) = true := decide_eq_true c0; have HW1 := Lib.hid (show decide (-1 ≤ leader ∧ leader ≤ 2147483647) = true from decide_eq_true c1); have HW2 := Lib.hid (show decide (0 ≤ last ∧ last ≤ 2147483647) = true from decide_eq_true c2); obtain ⟨ml, hml⟩ : ∃ ml, 9223372036854775807 - last = ml := ⟨_, rfl⟩; have wl : wrap64 (9223372036854775807 - last) = ml := by rw [← hml]; unfold wrap64; omega
 have wl2 : IntKind.i64.wrap (9223372036854775807 - last) = ml := by rw [← hml]; exact IntWalk.i64_in _ (by omega)
 have d3 : decide (base ≤ ml) = true := by rw [← hml]; exact decide_eq_true c3
 have d4 : decide (0 ≤ first) = true := decide_eq_true c4; have d5 : decide (0 ≤ maxt) = true := decide_eq_true c5; clear c0 c1 c2 c3 c4 c5 hml; go_enter Tryz.func120, Tryz.ntmps120
 go_wp2_with (first
 | (go_at_call 150; (with_reducible refine (bat_within leader (-1) 2147483647 _ HW1.out H.out).mono ?_); rintro e_ wn ⟨rfl, h⟩; replace H := Lib.hid h; clear h; obtain ⟨x0, x1, x2, x3, x4, x5, x6, x7, x8, x9, x10, x11, y0, y1, y2, y3, y4, y5, y6, y7, y8, y9, y10, y11⟩ := raw12 (b := hb) (H.out))
 | (go_at_call 150; (with_reducible refine (bat_within last 0 2147483647 _ HW2.out H.out).mono ?_); rintro e_ wn ⟨rfl, h⟩; replace H := Lib.hid h; clear h; obtain ⟨x0, x1, x2, x3, x4, x5, x6, x7, x8, x9, x10, x11, y0, y1, y2, y3, y4, y5, y6, y7, y8, y9, y10, y11⟩ := raw12 (b := hb) (H.out)))
 go_ret; exact ⟨rfl, H.out.drop⟩

set_option maxHeartbeats 1000000 in
set_option maxRecDepth 100000 in
theorem bat_signed (base leader : Int) (app txn ctl : Bool) (last first maxt prod epoch sq : Int) (rv : Value) (r : Bool) (hr : (if prod = -1 then decide (epoch = -1 ∧ sq = -1 ∧ txn = false) else if prod < 0 ∨ ¬ (0 ≤ epoch ∧ epoch ≤ 32767) then false else if ctl then decide (sq = -1) else decide (0 ≤ sq ∧ sq ≤ 2147483647)) = r) {W0 w : World} {K : Know} {L : List Res} (h : St W0 w K L) :
   Calls Tryz.prog 121 #[.agg #[.int .i64 base, .int .i64 leader, .bool app, .bool txn, .bool ctl, .int .i64 last, .int .i64 first, .int .i64 maxt, .int .i64 prod, .int .i64 epoch, .int .i64 sq, rv]] w fun en w' => en = .returned (.bool r) ∧ St W0 w' K L := by
 have h1 := h.allocRaw #[.int .i64 base, .int .i64 leader, .bool app, .bool txn, .bool ctl, .int .i64 last, .int .i64 first, .int .i64 maxt, .int .i64 prod, .int .i64 epoch, .int .i64 sq, rv] 58; obtain ⟨hb, hhb⟩ : ∃ b, w.heap.size = b := ⟨_, rfl⟩; rw [hhb] at h1; obtain ⟨x0, x1, x2, x3, x4, x5, x6, x7, x8, x9, x10, x11, y0, y1, y2, y3, y4, y5, y6, y7, y8, y9, y10, y11⟩ := raw12 (b := hb) (h1); have H := Lib.hid h1; clear h h1
 by_cases c0 : prod = -1
 · rw [if_pos c0] at hr; have b0 : (prod == -1) = true := by rw [c0]; rfl
   subst c0
   by_cases c1 : epoch = -1
   · subst c1
     by_cases c2 : sq = -1
     · subst c2; obtain rfl : (!txn) = r := by rw [← hr]; cases txn <;> rfl
       clear hr; go_enter Tryz.func121, Tryz.ntmps121; go_wp2; go_ret; exact ⟨rfl, H.out.drop⟩
     · obtain rfl : false = r := by rw [← hr]; exact (decide_eq_false (fun x => c2 x.2.1)).symm
       have b2 : (sq == -1) = false := by rw [beq_eq_false_iff_ne]; exact c2
       clear hr c2; go_enter Tryz.func121, Tryz.ntmps121; go_wp2; go_ret; exact ⟨rfl, H.out.drop⟩
   · obtain rfl : false = r := by rw [← hr]; exact (decide_eq_false (fun x => c1 x.1)).symm
     have b1 : (epoch == -1) = false := by rw [beq_eq_false_iff_ne]; exact c1
     clear hr c1; go_enter Tryz.func121, Tryz.ntmps121; go_wp2; go_ret; exact ⟨rfl, H.out.drop⟩
 · rw [if_neg c0] at hr; have b0 : (prod == -1) = false := by rw [beq_eq_false_iff_ne]; exact c0
   by_cases c1 : prod < 0
   · rw [if_pos (.inl c1)] at hr; subst hr; have d1 : decide (prod < 0) = true := decide_eq_true c1; clear c0 c1; go_enter Tryz.func121, Tryz.ntmps121; go_wp2; go_ret; exact ⟨rfl, H.out.drop⟩
   · have d1 : decide (prod < 0) = false := decide_eq_false c1
     by_cases c2 : 0 ≤ epoch ∧ epoch ≤ 32767
     · rw [if_neg (by rintro (x | x); exact c1 x; exact x c2)] at hr; have HE := Lib.hid (show decide (0 ≤ epoch ∧ epoch ≤ 32767) = true from decide_eq_true c2); clear c0 c1 c2
       cases ctl with
       | true =>
        obtain rfl : (sq == -1) = r := by rw [← hr]; rfl
        clear hr; go_enter Tryz.func121, Tryz.ntmps121; go_wp2_with (first | (go_at_call 150; (with_reducible refine (bat_within epoch 0 32767 _ HE.out H.out).mono ?_); rintro e_ wn ⟨rfl, h⟩; replace H := Lib.hid h; clear h; obtain ⟨x0, x1, x2, x3, x4, x5, x6, x7, x8, x9, x10, x11, y0, y1, y2, y3, y4, y5, y6, y7, y8, y9, y10, y11⟩ := raw12 (b := hb) (H.out)) | fail); go_ret; exact ⟨rfl, H.out.drop⟩
       | false =>
        have HS := Lib.hid (show decide (0 ≤ sq ∧ sq ≤ 2147483647) = r from hr); clear hr; go_enter Tryz.func121, Tryz.ntmps121; go_wp2_with (first | (go_at_call 150; (with_reducible refine (bat_within epoch 0 32767 _ HE.out H.out).mono ?_); rintro e_ wn ⟨rfl, h⟩; replace H := Lib.hid h; clear h; obtain ⟨x0, x1, x2, x3, x4, x5, x6, x7, x8, x9, x10, x11, y0, y1, y2, y3, y4, y5, y6, y7, y8, y9, y10, y11⟩ := raw12 (b := hb) (H.out)) | (go_at_call 150; (with_reducible refine (bat_within sq 0 2147483647 _ HS.out H.out).mono ?_); rintro e_ wn ⟨rfl, h⟩; replace H := Lib.hid h; clear h; obtain ⟨x0, x1, x2, x3, x4, x5, x6, x7, x8, x9, x10, x11, y0, y1, y2, y3, y4, y5, y6, y7, y8, y9, y10, y11⟩ := raw12 (b := hb) (H.out))); go_ret; exact ⟨rfl, H.out.drop⟩
     · rw [if_pos (.inr c2)] at hr; subst hr; have HE := Lib.hid (show decide (0 ≤ epoch ∧ epoch ≤ 32767) = false from decide_eq_false c2); clear c0 c1 c2; go_enter Tryz.func121, Tryz.ntmps121; go_wp2_with (first | (go_at_call 150; (with_reducible refine (bat_within epoch 0 32767 _ HE.out H.out).mono ?_); rintro e_ wn ⟨rfl, h⟩; replace H := Lib.hid h; clear h; obtain ⟨x0, x1, x2, x3, x4, x5, x6, x7, x8, x9, x10, x11, y0, y1, y2, y3, y4, y5, y6, y7, y8, y9, y10, y11⟩ := raw12 (b := hb) (H.out)) | fail); go_ret; exact ⟨rfl, H.out.drop⟩
set_option maxHeartbeats 1000000 in
set_option maxRecDepth 100000 in
theorem bat_checkRows (base leader : Int) (app txn ctl : Bool) (last first maxt prod epoch sq : Int) (l : List (RecS × Value)) (q : Option Addr) (cap : Nat) (e : Int) (he : BatS.rows ⟨base, leader, app, txn, ctl, last, first, maxt, prod, epoch, sq, l.map (·.1)⟩ = e) (hf : 0 ≤ first ∧ first ≤ 9223372036854775807) (hfit : FitB l) (hll : l.length ≤ 1000000) {W0 w : World} {K : Know} {L : List Res} (hk : K.has (Know.recs (.slice q l.length cap) l)) (h : St W0 w K L) :
  Calls Tryz.prog 124 #[.agg #[.int .i64 base, .int .i64 leader, .bool app, .bool txn, .bool ctl, .int .i64 last, .int .i64 first, .int .i64 maxt, .int .i64 prod, .int .i64 epoch, .int .i64 sq, .slice q l.length cap]] w fun en w' => en = .returned (.int .i64 e) ∧ St W0 w' K L := by
 obtain ⟨tot, htot⟩ : ∃ t, rowsC first last (l.map (·.1)) (-1) first = t := ⟨_, rfl⟩; have HE := Lib.hid (show rowsE app maxt tot = e by rw [← he, ← htot]; rfl); have HT := Lib.hid htot; have HK := Lib.hid hk; have HFT := Lib.hid hfit; have HF := Lib.hid hf; obtain ⟨nf, hnf⟩ : ∃ m, -first = m := ⟨_, rfl⟩; obtain ⟨mf, hmf⟩ : ∃ m, 9223372036854775807 - first = m := ⟨_, rfl⟩; have HNF := Lib.hid hnf; have HMF := Lib.hid hmf; have n1 : wrap64 (-first) = nf := by rw [← hnf]; unfold wrap64; omega
 have n2 : IntKind.i64.wrap (-first) = nf := by rw [← hnf]; exact IntWalk.i64_in _ (by omega)
 have m1 : wrap64 (9223372036854775807 - first) = mf := by rw [← hmf]; unfold wrap64; omega
 have m2 : IntKind.i64.wrap (9223372036854775807 - first) = mf := by rw [← hmf]; exact IntWalk.i64_in _ (by omega)
 have h1 := h.allocRaw #[.int .i64 base, .int .i64 leader, .bool app, .bool txn, .bool ctl, .int .i64 last, .int .i64 first, .int .i64 maxt, .int .i64 prod, .int .i64 epoch, .int .i64 sq, .slice q l.length cap] 58; obtain ⟨hb, hhb⟩ : ∃ b, w.heap.size = b := ⟨_, rfl⟩; rw [hhb] at h1; obtain ⟨x0, x1, x2, x3, x4, x5, x6, x7, x8, x9, x10, x11, y0, y1, y2, y3, y4, y5, y6, y7, y8, y9, y10, y11⟩ := raw12 (b := hb) (h1); have H := Lib.hid h1; clear h h1 hk hfit he htot hnf hmf hf; go_enter Tryz.func124, Tryz.ntmps124; go_upto_region 1 with (fail); have hs := H.out.drew; clear H; have H := Lib.hid hs; clear hs
 go_region
 clear x0 y0 x1 y1 x2 y2 x3 y3 x4 y4 x5 y5 x6 y6 x7 y7 x8 y8 x9 y9 x10 y10 x11 y11; obtain ⟨x0, x1, x2, x3, x4, x5, x6, x7, x8, x9, x10, x11, y0, y1, y2, y3, y4, y5, y6, y7, y8, y9, y10, y11⟩ := raw12 (b := hb) (H.out); go_wp2; clear x0 y0 x1 y1 x2 y2 x3 y3 x4 y4 x5 y5 x6 y6 x7 y7 x8 y8 x9 y9 x10 y10 x11 y11; go_loopw [3, 4, 6, 12] (fun av gv _ iv wr => ∃ (k : Nat) (ah g : Int), k ≤ l.length ∧ av = .int .i64 ah ∧ gv = .int .i64 g ∧ iv = .int .i64 k ∧ Hid (rowsC first last ((l.map (·.1)).drop k) ah g = tot) ∧ St W0 wr K (.raw hb #[.int .i64 base, .int .i64 leader, .bool app, .bool txn, .bool ctl, .int .i64 last, .int .i64 first, .int .i64 maxt, .int .i64 prod, .int .i64 epoch, .int .i64 sq, .slice q l.length cap] 58 :: L)) (fun _ _ _ iv _ => l.length - (intOf iv).toNat)
 case atStart => exact ⟨0, -1, first, Nat.zero_le _, rfl, rfl, rfl, HT, H.out⟩
 case round =>
  obtain ⟨k, ah, g, hkl, rfl, rfl, rfl, HC, hst⟩ := hrel; clear H; have H := Lib.hid hst; clear hst
  by_cases hlt : k < l.length
  · have hd := drop_recs l k hlt _ rfl; obtain ⟨b, off, hqq⟩ := recs_at HK.out H.out (by omega); subst hqq; obtain ⟨⟨x, vx⟩, hx⟩ : ∃ x, l[k] = x := ⟨_, rfl⟩; have cc := recs_cell HK.out H.out k hlt (x, vx) hx; have hmem : (x, vx) ∈ l := hx ▸ List.getElem_mem hlt; have xf : x.R ∧ HFit x.hdrs ∧ x.sum ≤ 1000000 := HFT.out (x, vx) hmem; have xk : K.has (Know.flat RHdr vx 3 x.hdrs) := recs_hdrs HK.out hmem; obtain ⟨qx, capx, hvx⟩ := flat_form xk H.out; subst hvx; simp only at cc; obtain ⟨c0, c1, c2, c3, c4, c5, c6⟩ := cc; rw [← Nat.add_assoc] at c1 c2 c3 c4 c5 c6; have hx1 : l[k].1 = x := by rw [hx]
    have XF := Lib.hid xf; have XK := Lib.hid xk; have HX := Lib.hid hx1; clear xf xk hx1 hx hmem; obtain ⟨wE, hwE⟩ : ∃ b, wr.heap.size = b := ⟨_, rfl⟩; have hki : (k : Int) < (l.length : Int) := by omega
    have h := H.out.allocRaw #[.int .i64 x.time, .int .i64 x.off, .bool x.key.null, .string (bb x.key.data), .bool x.val.null, .string (bb x.val.data), .slice qx x.hdrs.length capx] 119; rw [hwE] at h; clear H; have H := Lib.hid h; clear h; rw [HX.out] at hd; have hc := HC.out; rw [hd, rowsC_cons] at hc; obtain ⟨ec0, ec1, ec2, ec3, ec4, ec5, ec6, ef0, ef1, ef2, ef3, ef4, ef5, ef6⟩ := raw7 (b := wE) (H.out); obtain ⟨x0, x1, x2, x3, x4, x5, x6, x7, x8, x9, x10, x11, y0, y1, y2, y3, y4, y5, y6, y7, y8, y9, y10, y11⟩ := raw12 (b := hb) (H.out.p1); clear hd
    by_cases c1 : x.off ≤ ah
    · have d1 : decide (x.off ≤ ah) = true := decide_eq_true c1; rw [if_pos (.inl c1)] at hc; obtain rfl : 13 = e := by have := HE.out; rw [← hc] at this; exact this
      clear c1 hc; go_wp2; go_ret; exact ⟨rfl, H.out.drop.drop⟩
    · have d1 : decide (x.off ≤ ah) = false := decide_eq_false c1
      by_cases c2 : last < x.off
      · have d2 : decide (last < x.off) = true := decide_eq_true c2; rw [if_pos (.inr c2)] at hc; obtain rfl : 13 = e := by have := HE.out; rw [← hc] at this; exact this
        clear c1 c2 hc; go_wp2; go_ret; exact ⟨rfl, H.out.drop.drop⟩
      · have d2 : decide (last < x.off) = false := decide_eq_false c2; rw [if_neg (by rintro (h | h); exact c1 h; exact c2 h)] at hc; clear c1 c2
        by_cases c3 : x.time < -first ∨ 9223372036854775807 - first < x.time
        · rw [if_pos c3] at hc; obtain rfl : 11 = e := by have := HE.out; rw [← hc] at this; exact this
          have HW := Lib.hid (show decide (nf ≤ x.time ∧ x.time ≤ mf) = false by
           rw [← HNF.out, ← HMF.out]
           exact decide_eq_false (by omega))
          clear c3 hc; go_wp2_with (go_at_call 150; (with_reducible refine (bat_within x.time nf mf false HW.out H.out).mono ?_); rintro e_ wn ⟨rfl, h⟩; replace H := Lib.hid h; clear h; obtain ⟨ec0, ec1, ec2, ec3, ec4, ec5, ec6, ef0, ef1, ef2, ef3, ef4, ef5, ef6⟩ := raw7 (b := wE) (H.out); obtain ⟨x0, x1, x2, x3, x4, x5, x6, x7, x8, x9, x10, x11, y0, y1, y2, y3, y4, y5, y6, y7, y8, y9, y10, y11⟩ := raw12 (b := hb) (H.out.p1)); go_ret; exact ⟨rfl, H.out.drop.drop⟩
        · rw [if_neg c3] at hc
          have HW := Lib.hid (show decide (nf ≤ x.time ∧ x.time ≤ mf) = true by
           rw [← HNF.out, ← HMF.out]
           exact decide_eq_true (by omega))
          obtain ⟨ft, hft⟩ : ∃ t, first + x.time = t := ⟨_, rfl⟩; have f1 : wrap64 (first + x.time) = ft := by have := HF.out; rw [← hft]; unfold wrap64; omega
          have f2 : IntKind.i64.wrap (first + x.time) = ft := by have := HF.out; rw [← hft]; exact IntWalk.i64_in _ (by omega)
          rw [hft] at hc; have HC2 := Lib.hid hc; have EM := Lib.hid (show max g ft = (if g < ft then ft else g) by rw [Int.max_def]; split <;> split <;> omega); clear c3 hc hft; go_upto_region 9 with (go_at_call 150; (with_reducible refine (bat_within x.time nf mf true HW.out H.out).mono ?_); rintro e_ wn ⟨rfl, h⟩; replace H := Lib.hid h; clear h; obtain ⟨ec0, ec1, ec2, ec3, ec4, ec5, ec6, ef0, ef1, ef2, ef3, ef4, ef5, ef6⟩ := raw7 (b := wE) (H.out); obtain ⟨x0, x1, x2, x3, x4, x5, x6, x7, x8, x9, x10, x11, y0, y1, y2, y3, y4, y5, y6, y7, y8, y9, y10, y11⟩ := raw12 (b := hb) (H.out.p1)); have hs := H.out.drew; clear H; have H := Lib.hid hs; clear hs x0 y0 x1 y1 x2 y2 x3 y3 x4 y4 x5 y5 x6 y6 x7 y7 x8 y8 x9 y9 x10 y10 x11 y11 ec0 ef0 ec1 ef1 ec2 ef2 ec3 ef3 ec4 ef4 ec5 ef5 ec6 ef6; obtain ⟨ec0, ec1, ec2, ec3, ec4, ec5, ec6, ef0, ef1, ef2, ef3, ef4, ef5, ef6⟩ := raw7 (b := wE) (H.out); obtain ⟨x0, x1, x2, x3, x4, x5, x6, x7, x8, x9, x10, x11, y0, y1, y2, y3, y4, y5, y6, y7, y8, y9, y10, y11⟩ := raw12 (b := hb) (H.out.p1); refine wp_region_held_drew (S := fun w' => w'.cell? ⟨wE, 0, none⟩ = some (.int .i64 x.time) ∧ w'.cell? ⟨wE, 1, none⟩ = some (.int .i64 x.off) ∧ w'.cell? ⟨hb, 6, none⟩ = some (.int .i64 first)) (by kernel_rfl) ⟨ec0, ec1, x6⟩ (fun hHeld => ?_); clear x0 y0 x1 y1 x2 y2 x3 y3 x4 y4 x5 y5 x6 y6 x7 y7 x8 y8 x9 y9 x10 y10 x11 y11 ec0 ef0 ec1 ef1 ec2 ef2 ec3 ef3 ec4 ef4 ec5 ef5 ec6 ef6 c0 c1 c2 c3 c4 c5 c6; refine tQ 0 ⟨some 37, .fieldAddr 119 (.tmp 6) 1, 0, _, _, none⟩ ?_; simp only [Act.put, sA, sB, sC]; refine tQ 1 ⟨some 38, .load 3 (.tmp 37), 3, _, _, none⟩ ?_; simp only [Act.put, sA, sB, sC]; refine tQ 2 ⟨some 39, .move (.tmp 4), 3, _, _, none⟩ ?_; simp only [Act.put, sA, sB, sC]; refine tQ 3 ⟨some 40, .fieldAddr 58 (.tmp 1) 6, 0, _, _, none⟩ ?_; simp only [Act.put, sA, sB, sC]; refine tQ 4 ⟨some 41, .load 3 (.tmp 40), 3, _, _, none⟩ ?_; simp only [Act.put, sA, sB, sC]; refine tQ 5 ⟨some 42, .fieldAddr 119 (.tmp 6) 0, 0, _, _, none⟩ ?_; simp only [Act.put, sA, sB, sC]; refine tQ 6 ⟨some 43, .load 3 (.tmp 42), 3, _, _, none⟩ ?_; simp only [Act.put, sA, sB, sC]; refine tQ 7 ⟨some 44, .binOp .add 3 (.tmp 41) (.tmp 43) 3, 3, _, _, none⟩ ?_; simp only [Act.put, sA, sB, sC]; refine tQ 8 ⟨some 45, .call { callee := .builtin .max, args := #[.tmp 39, .tmp 44], argTypes := #[3, 3] }, 3, _, _, none⟩ ?_; simp only [Act.put, sA, sB, sC]; refine tQ 9 ⟨some 3, .assign (.tmp 38), 3, _, _, none⟩ ?_; simp only [Act.put, sA, sB, sC]; refine tQ 10 ⟨some 4, .assign (.tmp 45), 3, _, _, none⟩ ?_; simp only [Act.put, sA, sB, sC]; refine wpAnyH_done (by kernel_rfl) ?_ _; clear hHeld; go_wp2_with fail; go_roundw
          case rel => exact ⟨k + 1, x.off, _, hlt, rfl, rfl, by go_num, Lib.hid (by rw [← EM.out]; exact HC2.out), H.out.drop⟩
          case measure => first | (simp [intOf]; done) | (simp [intOf]; omega)
  · obtain rfl : l.length = k := by omega
    have hc := HC.out; rw [List.drop_of_length_le (by simp)] at hc; have hc : Except.ok g = tot := hc; have hee := HE.out; rw [← hc] at hee; simp only [rowsE] at hee; obtain ⟨x0, x1, x2, x3, x4, x5, x6, x7, x8, x9, x10, x11, y0, y1, y2, y3, y4, y5, y6, y7, y8, y9, y10, y11⟩ := raw12 (b := hb) (H.out)
    cases app with
    | true =>
      obtain rfl : 0 = e := by rw [← hee]; rfl
      clear hc hee; go_wp2; go_ret; exact ⟨rfl, H.out.drop⟩
    | false =>
      by_cases c1 : maxt = g
      · subst c1; obtain rfl : 0 = e := by rw [← hee]; simp
        clear hc hee; go_wp2; go_ret; exact ⟨rfl, H.out.drop⟩
      · obtain rfl : 11 = e := by rw [← hee]; simp [c1]
        have b1 : (maxt == g) = false := by rw [beq_eq_false_iff_ne]; exact c1
        clear hc hee c1; go_wp2; go_ret; exact ⟨rfl, H.out.drop⟩
theorem zq5 {p : Prop} (h : p := by
  have hd := drop_recs l k hlt _ rfl; obtain ⟨b, off, hqq⟩ := recs_at HK.out H.out (by omega); subst hqq; obtain ⟨⟨x, vx⟩, hx⟩ : ∃ x, l[k] = x := ⟨_, rfl⟩; have cc := recs_cell HK.out H.out k hlt (x, vx) hx; have hmem : (x, vx) ∈ l := hx ▸ List.getElem_mem hlt; have xf : x.R ∧ HFit x.hdrs ∧ x.sum ≤ 1000000 := HFT.out (x, vx) hmem; have xk : K.has (Know.flat RHdr vx 3 x.hdrs) := recs_hdrs HK.out hmem; obtain ⟨qx, capx, hvx⟩ := flat_form xk H.out; subst hvx; simp only at cc; obtain ⟨c0, c1, c2, c3, c4, c5, c6⟩ := cc; rw [← Nat.add_assoc] at c1 c2 c3 c4 c5 c6; have hx1 : l[k].1 = x := by rw [hx]
  have XF := Lib.hid xf; have XK := Lib.hid xk; have HX := Lib.hid hx1; clear xf xk hx1 hx hmem; obtain ⟨wE, hwE⟩ : ∃ b, wr.heap.size = b := ⟨_, rfl⟩; have hki : (k : Int) < (l.length : Int) := by omega
  have h := H.out.allocRaw #[.int .i64 x.time, .int .i64 x.off, .bool x.key.null, .string (bb x.key.data), .bool x.val.null, .string (bb x.val.data), .slice qx x.hdrs.length capx] 119; rw [hwE] at h; clear H; have H := Lib.hid h; clear h; rw [HX.out] at hd; have hc := HC.out; rw [hd] at hc; have hc : (if recOk x = 0 then recsC ((l.map (·.1)).drop (k + 1)) else recOk x) = tot := hc; have XL := Lib.hid (sum_hdrs XF.out.2.2); obtain ⟨ec0, ec1, ec2, ec3, ec4, ec5, ec6, ef0, ef1, ef2, ef3, ef4, ef5, ef6⟩ := raw7 (b := wE) (H.out); obtain ⟨x0, x1, x2, x3, x4, x5, x6, x7, x8, x9, x10, x11, y0, y1, y2, y3, y4, y5, y6, y7, y8, y9, y10, y11⟩ := raw12 (b := hb) (H.out.p1); clear hd
  by_cases c1 : recOk x = 0
  · rw [if_pos c1] at hc; have HC2 := Lib.hid hc; have ER := Lib.hid c1; clear hc c1; go_wp2_with (go_at_call 122; (with_reducible refine (rec_right x (.slice qx x.hdrs.length capx) _ ER.out XL.out XK.out H.out).mono ?_); rintro e_ wn ⟨rfl, h⟩; replace H := Lib.hid h; clear h; obtain ⟨ec0, ec1, ec2, ec3, ec4, ec5, ec6, ef0, ef1, ef2, ef3, ef4, ef5, ef6⟩ := raw7 (b := wE) (H.out); obtain ⟨x0, x1, x2, x3, x4, x5, x6, x7, x8, x9, x10, x11, y0, y1, y2, y3, y4, y5, y6, y7, y8, y9, y10, y11⟩ := raw12 (b := hb) (H.out.p1)); go_roundw
    case rel => exact ⟨k + 1, hlt, by go_num, HC2.out, H.out.drop⟩
    case measure => first | (simp [intOf]; done) | (simp [intOf]; omega)
  · rw [if_neg c1] at hc; have ER := Lib.hid hc; have gz : (tot == 0) = false := by rw [beq_eq_false_iff_ne, ← hc]; exact c1
    obtain rfl : tot = e := HTE.out (by rw [← hc]; exact c1); clear hc c1; go_wp2_with (go_at_call 122; (with_reducible refine (rec_right x (.slice qx x.hdrs.length capx) _ ER.out XL.out XK.out H.out).mono ?_); rintro e_ wn ⟨rfl, h⟩; replace H := Lib.hid h; clear h; obtain ⟨ec0, ec1, ec2, ec3, ec4, ec5, ec6, ef0, ef1, ef2, ef3, ef4, ef5, ef6⟩ := raw7 (b := wE) (H.out); obtain ⟨x0, x1, x2, x3, x4, x5, x6, x7, x8, x9, x10, x11, y0, y1, y2, y3, y4, y5, y6, y7, y8, y9, y10, y11⟩ := raw12 (b := hb) (H.out.p1)); go_ret; exact ⟨rfl, H.out.drop.drop⟩) : p := h
set_option maxHeartbeats 1000000 in
set_option maxRecDepth 100000 in
theorem bat_check (base leader : Int) (app txn ctl : Bool) (last first maxt prod epoch sq : Int) (l : List (RecS × Value)) (q : Option Addr) (cap : Nat) (e : Int) (he : batErr ⟨base, leader, app, txn, ctl, last, first, maxt, prod, epoch, sq, l.map (·.1)⟩ = e) (hmx : first ≤ 9223372036854775807) (hfit : FitB l) (hll : l.length ≤ 1000000) {W0 w : World} {K : Know} {L : List Res} (hk : K.has (Know.recs (.slice q l.length cap) l)) (h : St W0 w K L) :
    Calls Tryz.prog 88 #[.agg #[.int .i64 base, .int .i64 leader, .bool app, .bool txn, .bool ctl, .int .i64 last, .int .i64 first, .int .i64 maxt, .int .i64 prod, .int .i64 epoch, .int .i64 sq, .slice q l.length cap]] w fun en w' => en = .returned (.int .i64 e) ∧ St W0 w' K L := by
  have HK := Lib.hid hk; have HFT := Lib.hid hfit; have HLL := Lib.hid hll; have h1 := h.allocRaw #[.int .i64 base, .int .i64 leader, .bool app, .bool txn, .bool ctl, .int .i64 last, .int .i64 first, .int .i64 maxt, .int .i64 prod, .int .i64 epoch, .int .i64 sq, .slice q l.length cap] 58; obtain ⟨hb, hhb⟩ : ∃ b, w.heap.size = b := ⟨_, rfl⟩; rw [hhb] at h1; obtain ⟨x0, x1, x2, x3, x4, x5, x6, x7, x8, x9, x10, x11, y0, y1, y2, y3, y4, y5, y6, y7, y8, y9, y10, y11⟩ := raw12 (b := hb) (h1); have H := Lib.hid h1; clear h h1 hk hfit; unfold batErr at he; simp only [List.length_map] at he
  by_cases p1 : BatS.placed ⟨base, leader, app, txn, ctl, last, first, maxt, prod, epoch, sq, l.map (·.1)⟩ = false
  · rw [if_pos p1] at he; subst he; have HP := Lib.hid (show decide (0 ≤ base ∧ (-1 ≤ leader ∧ leader ≤ 2147483647) ∧ (0 ≤ last ∧ last ≤ 2147483647) ∧ base ≤ 9223372036854775807 - last ∧ 0 ≤ first ∧ 0 ≤ maxt) = false from p1); clear p1 hmx hll; go_enter Tryz.func88, Tryz.ntmps88; go_wp2_with (go_at_call 120; (with_reducible refine (bat_placed _ _ _ _ _ _ _ _ _ _ _ _ _ HP.out H.out).mono ?_); rintro e_ wn ⟨rfl, h⟩; replace H := Lib.hid h; clear h; obtain ⟨x0, x1, x2, x3, x4, x5, x6, x7, x8, x9, x10, x11, y0, y1, y2, y3, y4, y5, y6, y7, y8, y9, y10, y11⟩ := raw12 (b := hb) (H.out)); go_ret; exact ⟨rfl, H.out.drop⟩
  rw [if_neg p1] at he
  have p2 : BatS.placed ⟨base, leader, app, txn, ctl, last, first, maxt, prod, epoch, sq, l.map (·.1)⟩ = true := by cases hh : BatS.placed ⟨base, leader, app, txn, ctl, last, first, maxt, prod, epoch, sq, l.map (·.1)⟩ with
    | false => exact absurd hh p1
    | true => rfl
  have HP := Lib.hid (show decide (0 ≤ base ∧ (-1 ≤ leader ∧ leader ≤ 2147483647) ∧ (0 ≤ last ∧ last ≤ 2147483647) ∧ base ≤ 9223372036854775807 - last ∧ 0 ≤ first ∧ 0 ≤ maxt) = true from p2); have HFP := Lib.hid (show 0 ≤ first ∧ first ≤ 9223372036854775807 from ⟨(of_decide_eq_true (show decide (0 ≤ base ∧ (-1 ≤ leader ∧ leader ≤ 2147483647) ∧ (0 ≤ last ∧ last ≤ 2147483647) ∧ base ≤ 9223372036854775807 - last ∧ 0 ≤ first ∧ 0 ≤ maxt) = true from p2)).2.2.2.2.1, hmx⟩); clear p1 p2 hmx
  by_cases c1 : ctl = true ∧ txn = false
  · rw [if_pos c1] at he; subst he; obtain ⟨rfl, rfl⟩ := c1; clear hll; go_enter Tryz.func88, Tryz.ntmps88; go_wp2_with (go_at_call 120; (with_reducible refine (bat_placed _ _ _ _ _ _ _ _ _ _ _ _ _ HP.out H.out).mono ?_); rintro e_ wn ⟨rfl, h⟩; replace H := Lib.hid h; clear h; obtain ⟨x0, x1, x2, x3, x4, x5, x6, x7, x8, x9, x10, x11, y0, y1, y2, y3, y4, y5, y6, y7, y8, y9, y10, y11⟩ := raw12 (b := hb) (H.out)); go_ret; exact ⟨rfl, H.out.drop⟩
  rw [if_neg c1] at he
  by_cases s1 : BatS.signed ⟨base, leader, app, txn, ctl, last, first, maxt, prod, epoch, sq, l.map (·.1)⟩ = false
  · rw [if_pos s1] at he; subst he; have HS := Lib.hid (show (if prod = -1 then decide (epoch = -1 ∧ sq = -1 ∧ txn = false) else if prod < 0 ∨ ¬ (0 ≤ epoch ∧ epoch ≤ 32767) then false else if ctl then decide (sq = -1) else decide (0 ≤ sq ∧ sq ≤ 2147483647)) = false from s1); clear s1 hll
    cases ctl with
    | false =>
      go_enter Tryz.func88, Tryz.ntmps88
      go_wp2_with (first
    | (go_at_call 120; (with_reducible refine (bat_placed _ _ _ _ _ _ _ _ _ _ _ _ _ HP.out H.out).mono ?_); rintro e_ wn ⟨rfl, h⟩; replace H := Lib.hid h; clear h; obtain ⟨x0, x1, x2, x3, x4, x5, x6, x7, x8, x9, x10, x11, y0, y1, y2, y3, y4, y5, y6, y7, y8, y9, y10, y11⟩ := raw12 (b := hb) (H.out))
    | (go_at_call 121; (with_reducible refine (bat_signed _ _ _ _ _ _ _ _ _ _ _ _ _ HS.out H.out).mono ?_); rintro e_ wn ⟨rfl, h⟩; replace H := Lib.hid h; clear h; obtain ⟨x0, x1, x2, x3, x4, x5, x6, x7, x8, x9, x10, x11, y0, y1, y2, y3, y4, y5, y6, y7, y8, y9, y10, y11⟩ := raw12 (b := hb) (H.out)))
      go_ret; exact ⟨rfl, H.out.drop⟩
    | true =>
      cases txn with
      | false => exact absurd ⟨rfl, rfl⟩ c1
      | true =>
        clear c1; go_enter Tryz.func88, Tryz.ntmps88
        go_wp2_with (first
    | (go_at_call 120; (with_reducible refine (bat_placed _ _ _ _ _ _ _ _ _ _ _ _ _ HP.out H.out).mono ?_); rintro e_ wn ⟨rfl, h⟩; replace H := Lib.hid h; clear h; obtain ⟨x0, x1, x2, x3, x4, x5, x6, x7, x8, x9, x10, x11, y0, y1, y2, y3, y4, y5, y6, y7, y8, y9, y10, y11⟩ := raw12 (b := hb) (H.out))
    | (go_at_call 121; (with_reducible refine (bat_signed _ _ _ _ _ _ _ _ _ _ _ _ _ HS.out H.out).mono ?_); rintro e_ wn ⟨rfl, h⟩; replace H := Lib.hid h; clear h; obtain ⟨x0, x1, x2, x3, x4, x5, x6, x7, x8, x9, x10, x11, y0, y1, y2, y3, y4, y5, y6, y7, y8, y9, y10, y11⟩ := raw12 (b := hb) (H.out)))
        go_ret; exact ⟨rfl, H.out.drop⟩
  rw [if_neg s1] at he
  have s2 : BatS.signed ⟨base, leader, app, txn, ctl, last, first, maxt, prod, epoch, sq, l.map (·.1)⟩ = true := by cases hh : BatS.signed ⟨base, leader, app, txn, ctl, last, first, maxt, prod, epoch, sq, l.map (·.1)⟩ with
    | false => exact absurd hh s1
    | true => rfl
  have HS := Lib.hid (show (if prod = -1 then decide (epoch = -1 ∧ sq = -1 ∧ txn = false) else if prod < 0 ∨ ¬ (0 ≤ epoch ∧ epoch ≤ 32767) then false else if ctl then decide (sq = -1) else decide (0 ≤ sq ∧ sq ≤ 2147483647)) = true from s2); clear s1 s2
  cases ctl with
  | false =>
    rw [if_neg (fun h => by cases h.1)] at he; obtain ⟨tot, htot⟩ : ∃ t, recsC (l.map (·.1)) = t := ⟨_, rfl⟩; rw [htot] at he; have HTE := Lib.hid (show tot ≠ 0 → tot = e from fun h => by rw [if_pos h] at he; exact he); have HTZ := Lib.hid (show tot = 0 → BatS.rows ⟨base, leader, app, txn, false, last, first, maxt, prod, epoch, sq, l.map (·.1)⟩ = e from fun h => by rw [if_neg (fun x => x h), if_neg (fun h => by cases h.1)] at he; exact he); have HT := Lib.hid htot; clear he htot c1; go_enter Tryz.func88, Tryz.ntmps88
    go_wp2_with (first
        | (go_at_call 120; (with_reducible refine (bat_placed _ _ _ _ _ _ _ _ _ _ _ _ _ HP.out H.out).mono ?_); rintro e_ wn ⟨rfl, h⟩; replace H := Lib.hid h; clear h; obtain ⟨x0, x1, x2, x3, x4, x5, x6, x7, x8, x9, x10, x11, y0, y1, y2, y3, y4, y5, y6, y7, y8, y9, y10, y11⟩ := raw12 (b := hb) (H.out))
        | (go_at_call 121; (with_reducible refine (bat_signed _ _ _ _ _ _ _ _ _ _ _ _ _ HS.out H.out).mono ?_); rintro e_ wn ⟨rfl, h⟩; replace H := Lib.hid h; clear h; obtain ⟨x0, x1, x2, x3, x4, x5, x6, x7, x8, x9, x10, x11, y0, y1, y2, y3, y4, y5, y6, y7, y8, y9, y10, y11⟩ := raw12 (b := hb) (H.out)))
    go_loopw [4, 5, 33] (fun _ _ iv wr => ∃ k : Nat, k ≤ l.length ∧ iv = .int .i64 k ∧ Hid (recsC ((l.map (·.1)).drop k) = tot) ∧ St W0 wr K (.raw hb #[.int .i64 base, .int .i64 leader, .bool app, .bool txn, .bool false, .int .i64 last, .int .i64 first, .int .i64 maxt, .int .i64 prod, .int .i64 epoch, .int .i64 sq, .slice q l.length cap] 58 :: L)) (fun _ _ iv _ => l.length - (intOf iv).toNat)
    case atStart => exact ⟨0, Nat.zero_le _, rfl, HT, H.out⟩
    case round =>
      clear x0 y0 x1 y1 x2 y2 x3 y3 x4 y4 x5 y5 x6 y6 x7 y7 x8 y8 x9 y9 x10 y10 x11 y11; obtain ⟨k, hkl, rfl, HC, hst⟩ := hrel; clear H; have H := Lib.hid hst; clear hst
      by_cases hlt : k < l.length
      · exact zq5
      · obtain rfl : l.length = k := by omega
        have hc := HC.out; rw [List.drop_of_length_le (by simp)] at hc; obtain rfl : 0 = tot := hc; obtain ⟨x0, x1, x2, x3, x4, x5, x6, x7, x8, x9, x10, x11, y0, y1, y2, y3, y4, y5, y6, y7, y8, y9, y10, y11⟩ := raw12 (b := hb) (H.out); have HROW := Lib.hid (HTZ.out rfl); go_wp2_with (go_at_call 124; (with_reducible refine (bat_checkRows _ _ _ _ _ _ _ _ _ _ _ l _ _ _ HROW.out HFP.out HFT.out HLL.out HK.out H.out).mono ?_); rintro e_ wn ⟨rfl, h⟩; replace H := Lib.hid h; clear h); go_ret; exact ⟨rfl, H.out.drop⟩

  | true =>
    cases txn with
    | false => exact absurd ⟨rfl, rfl⟩ c1
    | true =>
      clear c1
      by_cases c2 : l.length = 1
      · rw [if_neg (fun h => h.2 c2)] at he; have HLEN := Lib.hid c2; have bl : ((l.length : Int) == 1) = true := by rw [c2]; rfl
        have bl2 : ((l.length : Int) != 1) = false := by rw [c2]; rfl
        obtain ⟨tot, htot⟩ : ∃ t, recsC (l.map (·.1)) = t := ⟨_, rfl⟩; rw [htot] at he; have HTE := Lib.hid (show tot ≠ 0 → tot = e from fun h => by rw [if_pos h] at he; exact he)
        have HEN := Lib.hid (show ∀ (x : RecS) (h0 : 0 < l.length), (l[0]'h0).1 = x → ((ctlOf x).2.2 ≠ 0 → tot = 0 → (ctlOf x).2.2 = e) ∧ ((ctlOf x).2.2 = 0 → tot = 0 → BatS.rows ⟨base, leader, app, true, true, last, first, maxt, prod, epoch, sq, l.map (·.1)⟩ = e) from fun x h0 hx => by
          have hm : l.map (·.1) = x :: (l.map (·.1)).drop 1 := by have := drop_recs l 0 (by omega) x hx; simpa using this
          have hens : BatS.ends ⟨base, leader, app, true, true, last, first, maxt, prod, epoch, sq, l.map (·.1)⟩ = (ctlOf x).2.2 := by unfold BatS.ends; simp only; rw [hm]
          rw [hens] at he; refine ⟨fun h h2 => ?_, fun h h2 => ?_⟩
          · rw [if_neg (fun y => y h2), if_pos ⟨rfl, h⟩] at he; exact he
          · rw [if_neg (fun y => y h2), if_neg (fun y => y.2 h)] at he; exact he)
        have HT := Lib.hid htot; clear he htot c2; go_enter Tryz.func88, Tryz.ntmps88
        go_wp2_with (first
            | (go_at_call 120; (with_reducible refine (bat_placed _ _ _ _ _ _ _ _ _ _ _ _ _ HP.out H.out).mono ?_); rintro e_ wn ⟨rfl, h⟩; replace H := Lib.hid h; clear h; obtain ⟨x0, x1, x2, x3, x4, x5, x6, x7, x8, x9, x10, x11, y0, y1, y2, y3, y4, y5, y6, y7, y8, y9, y10, y11⟩ := raw12 (b := hb) (H.out))
            | (go_at_call 121; (with_reducible refine (bat_signed _ _ _ _ _ _ _ _ _ _ _ _ _ HS.out H.out).mono ?_); rintro e_ wn ⟨rfl, h⟩; replace H := Lib.hid h; clear h; obtain ⟨x0, x1, x2, x3, x4, x5, x6, x7, x8, x9, x10, x11, y0, y1, y2, y3, y4, y5, y6, y7, y8, y9, y10, y11⟩ := raw12 (b := hb) (H.out)))
        go_loopw [4, 5, 33] (fun _ _ iv wr => ∃ k : Nat, k ≤ l.length ∧ iv = .int .i64 k ∧ Hid (recsC ((l.map (·.1)).drop k) = tot) ∧ St W0 wr K (.raw hb #[.int .i64 base, .int .i64 leader, .bool app, .bool true, .bool true, .int .i64 last, .int .i64 first, .int .i64 maxt, .int .i64 prod, .int .i64 epoch, .int .i64 sq, .slice q l.length cap] 58 :: L)) (fun _ _ iv _ => l.length - (intOf iv).toNat)
        case atStart => exact ⟨0, Nat.zero_le _, rfl, HT, H.out⟩
        case round =>
          clear x0 y0 x1 y1 x2 y2 x3 y3 x4 y4 x5 y5 x6 y6 x7 y7 x8 y8 x9 y9 x10 y10 x11 y11; obtain ⟨k, hkl, rfl, HC, hst⟩ := hrel; clear H; have H := Lib.hid hst; clear hst
          by_cases hlt : k < l.length
          · exact zq5
          · obtain rfl : l.length = k := by omega
            have hc := HC.out; rw [List.drop_of_length_le (by simp)] at hc; obtain rfl : 0 = tot := hc; obtain ⟨x0, x1, x2, x3, x4, x5, x6, x7, x8, x9, x10, x11, y0, y1, y2, y3, y4, y5, y6, y7, y8, y9, y10, y11⟩ := raw12 (b := hb) (H.out); obtain ⟨b, off, hqq⟩ := recs_at HK.out H.out (by rw [HLEN.out]; decide); subst hqq; obtain ⟨⟨x, vx⟩, hx⟩ : ∃ x, l[0]'(by rw [HLEN.out]; decide) = x := ⟨_, rfl⟩; have cc := recs_cell HK.out H.out 0 (by rw [HLEN.out]; decide) (x, vx) hx; have hmem : (x, vx) ∈ l := hx ▸ List.getElem_mem _; have xf : x.R ∧ HFit x.hdrs ∧ x.sum ≤ 1000000 := HFT.out (x, vx) hmem; have xk : K.has (Know.flat RHdr vx 3 x.hdrs) := recs_hdrs HK.out hmem; obtain ⟨qx, capx, hvx⟩ := flat_form xk H.out; subst hvx; simp only [Nat.zero_mul, Nat.zero_add, Nat.add_zero] at cc; obtain ⟨c0, c1, c2, c3, c4, c5, c6⟩ := cc; have XD := Lib.hid (sum_data xf.2.2); have hl0 : (0 : Int) < (l.length : Int) := by have := HLEN.out; omega
            obtain ⟨⟨i1, i2, i3⟩, hi⟩ : ∃ r, ctlOf x = r := ⟨_, rfl⟩; have EC := Lib.hid (show ctlRead x.key.null x.val.null x.key.data x.val.data x.hdrs.length x.off = (i1, i2, i3) from hi); have hen := HEN.out x (by rw [HLEN.out]; decide) (by rw [hx]); rw [hi] at hen; clear hx hmem xf xk hi
            by_cases c9 : i3 = 0
            · subst c9; have HROW := Lib.hid (hen.2 rfl rfl); clear hen
              go_wp2_with (first
            | (go_at_call 123; (with_reducible refine (ctl_read x.time x.off x.key.null x.val.null x.key.data x.val.data qx x.hdrs.length capx (i1, i2, _) EC.out XD.out.1 XD.out.2 H.out).mono ?_); rintro e_ wn ⟨rfl, h⟩; replace H := Lib.hid h; clear h; obtain ⟨x0, x1, x2, x3, x4, x5, x6, x7, x8, x9, x10, x11, y0, y1, y2, y3, y4, y5, y6, y7, y8, y9, y10, y11⟩ := raw12 (b := hb) (H.out))
            | (go_at_call 124; (with_reducible refine (bat_checkRows _ _ _ _ _ _ _ _ _ _ _ l _ _ _ HROW.out HFP.out HFT.out HLL.out HK.out H.out).mono ?_); rintro e_ wn ⟨rfl, h⟩; replace H := Lib.hid h; clear h))
              go_ret; exact ⟨rfl, H.out.drop⟩
            · have gz : (i3 == 0) = false := by rw [beq_eq_false_iff_ne]; exact c9
              obtain rfl : i3 = e := hen.1 c9 rfl; clear hen c9; go_wp2_with (go_at_call 123; (with_reducible refine (ctl_read x.time x.off x.key.null x.val.null x.key.data x.val.data qx x.hdrs.length capx (i1, i2, _) EC.out XD.out.1 XD.out.2 H.out).mono ?_); rintro e_ wn ⟨rfl, h⟩; replace H := Lib.hid h; clear h; obtain ⟨x0, x1, x2, x3, x4, x5, x6, x7, x8, x9, x10, x11, y0, y1, y2, y3, y4, y5, y6, y7, y8, y9, y10, y11⟩ := raw12 (b := hb) (H.out)); go_ret; exact ⟨rfl, H.out.drop⟩

      · rw [if_pos ⟨rfl, c2⟩] at he; subst he; have bl : ((l.length : Int) == 1) = false := by rw [beq_eq_false_iff_ne]; omega
        clear c2 hll; go_enter Tryz.func88, Tryz.ntmps88
        go_wp2_with (first
    | (go_at_call 120; (with_reducible refine (bat_placed _ _ _ _ _ _ _ _ _ _ _ _ _ HP.out H.out).mono ?_); rintro e_ wn ⟨rfl, h⟩; replace H := Lib.hid h; clear h; obtain ⟨x0, x1, x2, x3, x4, x5, x6, x7, x8, x9, x10, x11, y0, y1, y2, y3, y4, y5, y6, y7, y8, y9, y10, y11⟩ := raw12 (b := hb) (H.out))
    | (go_at_call 121; (with_reducible refine (bat_signed _ _ _ _ _ _ _ _ _ _ _ _ _ HS.out H.out).mono ?_); rintro e_ wn ⟨rfl, h⟩; replace H := Lib.hid h; clear h; obtain ⟨x0, x1, x2, x3, x4, x5, x6, x7, x8, x9, x10, x11, y0, y1, y2, y3, y4, y5, y6, y7, y8, y9, y10, y11⟩ := raw12 (b := hb) (H.out)))
        go_ret; exact ⟨rfl, H.out.drop⟩
set_option maxHeartbeats 2000000 in
set_option maxRecDepth 100000 in
theorem bat_unpack_ok (rows : Bs) (n : Nat) (hn : n ≤ 2147483647) (hsl : rows.length ≤ 140737488355328) (rs : List RecS) (hu : unp n ⟨rows, 0, 0⟩ = .ok rs) {W0 w : World} {K : Know} {L : List Res} (h : St W0 w K L) :
  Calls Tryz.prog 166 #[.string (bb rows), .int .i64 n] w fun en w' => ∃ (v : Value) (l : List (RecS × Value)), en = .returned (.tuple #[v, .int .i64 0]) ∧ l.map (·.1) = rs ∧ St W0 w' (K.and (Know.recs v l)) L := by
 obtain ⟨tot, htot⟩ : ∃ t, unp n ⟨rows, 0, 0⟩ = t := ⟨_, rfl⟩; have HTT := Lib.hid (htot.symm.trans hu); have HT := Lib.hid (show preU [] (unp (n - 0) ⟨rows, 0, 0⟩) = tot by rw [preU_nil]; exact htot); have HSL := Lib.hid hsl; have HNB := Lib.hid hn; have H := Lib.hid h; clear h hu htot hsl hn; go_enter Tryz.func166, Tryz.ntmps166; go_wp2_with (go_at_call 14; (with_reducible refine (s_new rows HSL.out H.out).mono ?_); rintro e_ wn ⟨bi, rfl, h⟩; replace H := Lib.hid h; clear h); go_loopw [7, 11] (fun lv iv wr => ∃ (k : Nat) (acc : List (RecS × Value)) (i2 : InS) (K2 : Know), k ≤ n ∧ iv = .int .i64 k ∧ acc.length = k ∧ Hid (preU (acc.map (·.1)) (unp (n - k) i2) = tot) ∧ Hid (K2.has K) ∧ Hid (∀ x ∈ acc, K2.has (Know.flat RHdr x.2 3 x.1.hdrs)) ∧ St W0 wr K2 (.row lv 119 7 acc.length (acc.flatMap rcells) :: .inp bi i2 :: L)) (fun _ iv _ => n - (intOf iv).toNat)
 case atStart => exact ⟨0, [], _, K, Nat.zero_le _, rfl, rfl, HT, Lib.hid (Know.has_refl _), Lib.hid (fun x h => by cases h), H.out.nilRow 119 7⟩
 case round =>
  obtain ⟨k, acc, i2, K2, hk, rfl, hacc, HC, HK2, HALL, hst⟩ := hrel; have HACC := Lib.hid hacc; have HKB := Lib.hid (show k ≤ 2147483647 by have := HNB.out; omega); clear H hacc; have H := Lib.hid hst; clear hst; obtain ⟨lf, hlf⟩ : ∃ m, i2.left = m := ⟨_, rfl⟩; have HLF := Lib.hid hlf
  by_cases hlt : k < n
  · have hc := HC.out; rw [show n - k = (n - (k + 1)) + 1 by omega] at hc; have hc : preU (acc.map (·.1)) (if i2.left = 0 then .error 10 else if i2.record.2.err = 0 then consE i2.record.1 (unp (n - (k + 1)) i2.record.2) else .error i2.record.2.err) = tot := hc; have hki : (k : Int) < (n : Int) := by omega
    have hnb : (n : Int) ≤ 2147483647 := by have := HNB.out; omega
    rw [hlf] at hc
    by_cases c1 : lf = 0
    · rw [if_pos c1] at hc; have hc2 : Except.error 10 = tot := hc; have hc3 := hc2.trans HTT.out
      cases hc3
    · rw [if_neg c1] at hc; obtain ⟨⟨x, i3⟩, hx⟩ : ∃ r, i2.record = r := ⟨_, rfl⟩; have HRD := Lib.hid hx; rw [hx] at hc; simp only at hc; have bl : ((lf : Int) == 0) = false := by rw [beq_eq_false_iff_ne]; omega
      have bl2 : ¬ (lf = 0) := c1
      by_cases c2 : i3.err = 0
      · rw [if_pos c2, ← preU_snoc] at hc; have HER := Lib.hid c2; have HC2 := Lib.hid hc; clear hc hx c1 c2 hlf
        go_wp2_with (first
  | (go_at_call 52; (with_reducible refine (s_leftQ bi i2 _ HLF.out H.out.p1).mono ?_); rintro e_ wn ⟨rfl, h⟩; replace H := Lib.hid h; clear h; replace H := Lib.hid H.out.p1)
  | (go_at_call 181; (with_reducible refine (rec_readQ bi i2 x i3 HRD.out H.out.p1).mono ?_); rintro e_ wn ⟨v1, rfl, h⟩; obtain ⟨q1, c1, hv1⟩ := flat_form (Know.has_right (Know.has_refl _)) h; subst hv1; replace H := Lib.hid h; clear h; replace H := Lib.hid H.out.p1)
  | (at_builtin; refine wpl_app1_st rfl _ _ 56 rfl 119 Tryz.underlying56 elem_rec _ _ _ rfl H.out [.int .i64 x.time, .int .i64 x.off, .bool x.key.null, .string (bb x.key.data), .bool x.val.null, .string (bb x.val.data), .slice q1 x.hdrs.length c1] 119 rfl rfl (by simp [Value.oneCell']) (by have := HACC.out; have := HKB.out; unfold maxLen; omega) (by have := HACC.out; have := HKB.out; omega) ?_; intro v' w' h; replace H := Lib.hid h; clear h)
  | (go_at_call 20; (with_reducible refine (s_errE bi i3 _ HER.out H.out.p1).mono ?_); rintro e_ wn ⟨rfl, h⟩; replace H := Lib.hid h; clear h; replace H := Lib.hid H.out.p1))
        go_roundw
        case rel => exact ⟨k + 1, acc ++ [(x, .slice q1 x.hdrs.length c1)], i3, K2.and (Know.flat RHdr (.slice q1 x.hdrs.length c1) 3 x.hdrs), hlt, by go_num, by rw [List.length_append, HACC.out]; rfl, Lib.hid (by rw [List.map_append]; exact HC2.out), Lib.hid (Know.has_trans (Know.has_left (Know.has_refl _)) HK2.out), Lib.hid (fun y hy => by
         rcases List.mem_append.1 hy with hy | hy
         · exact Know.has_trans (Know.has_left (Know.has_refl _)) (HALL.out y hy)
         · rw [List.mem_singleton.1 hy]; exact Know.has_right (Know.has_refl _)), by rw [List.length_append, List.flatMap_append]; simpa [rcells] using H.out⟩
        case measure => first | (simp [intOf]; done) | (simp [intOf]; omega)
      · rw [if_neg c2] at hc; have hc2 : Except.error i3.err = tot := hc; have hc3 := hc2.trans HTT.out
        cases hc3
  · obtain rfl : n = k := by omega
    have hc := HC.out; rw [Nat.sub_self] at hc; have hc : preU (acc.map (·.1)) (if i2.left = 0 then .ok [] else .error 10) = tot := hc; rw [hlf] at hc
    by_cases c1 : lf = 0
    · rw [if_pos c1] at hc; have hc2 : Except.ok (acc.map (·.1) ++ []) = tot := hc; have hc3 := hc2.trans HTT.out; subst c1; have HRS := Lib.hid (show acc.map (·.1) = rs by injection hc3 with h; rw [List.append_nil] at h; exact h); clear hc hc2 hc3 hlf; go_wp2_with (go_at_call 52; (with_reducible refine (s_leftQ bi i2 _ HLF.out H.out.p1).mono ?_); rintro e_ wn ⟨rfl, h⟩; replace H := Lib.hid h; clear h; replace H := Lib.hid H.out.p1); go_ret2; have hf := (H.out.freezeRow (R := RRec) (fun y _ => ⟨rfl, rfl⟩)).drop; exact ⟨_, acc, rfl, HRS.out, hf.know (fun w F hh => ⟨HK2.out _ _ hh.1, hh.2, fun y hy => HALL.out y hy _ _ hh.1⟩)⟩
    · rw [if_neg c1] at hc; have hc2 : Except.error 10 = tot := hc; have hc3 := hc2.trans HTT.out
      cases hc3
abbrev W32 := BitVec 32
def cP : W32 := 0x82F63B78#32
def b2w (b : Bool) : W32 := if b then 1#32 else 0#32
def step (r : W32) : W32 := (r >>> 1) ^^^ (if r.getLsbD 0 then cP else 0#32)
def stepN : Nat → W32 → W32
  | 0, r => r
  | n + 1, r => stepN n (step r)

theorem xlc (a b c : W32) : a ^^^ (b ^^^ c) = b ^^^ (a ^^^ c) := by rw [← BitVec.xor_assoc, BitVec.xor_comm a b, BitVec.xor_assoc]
theorem xcan (a b : W32) : a ^^^ (a ^^^ b) = b := by rw [← BitVec.xor_assoc, BitVec.xor_self, BitVec.zero_xor]
theorem step_xor (a b : W32) : step (a ^^^ b) = step a ^^^ step b := by
 unfold step
 have e : (a ^^^ b) >>> 1 = (a >>> 1) ^^^ (b >>> 1) := by
  apply BitVec.eq_of_getLsbD_eq
  intro i hi
  simp
 rw [e, BitVec.getLsbD_xor]
 cases a.getLsbD 0 <;> cases b.getLsbD 0 <;> simp [BitVec.xor_assoc, BitVec.xor_comm, xlc, xcan]
theorem stepN_xor (n : Nat) (a b : W32) : stepN n (a ^^^ b) = stepN n a ^^^ stepN n b := by
 induction n generalizing a b with
 | zero => rfl
 | succ n ih => show stepN n (step (a ^^^ b)) = _; rw [step_xor, ih]; rfl
theorem step_shl (x : W32) (h : x.getLsbD 31 = false) : step (x <<< 1) = x := by
 unfold step; have h0 : (x <<< 1).getLsbD 0 = false := by simp
 rw [h0]
 apply BitVec.eq_of_getLsbD_eq
 intro i hi
 by_cases h31 : i = 31
 · subst h31; simp; rw [← BitVec.getLsbD_eq_getElem]; exact h
 · have : 1 + i < 32 := by omega
   simp [this]; rw [← BitVec.getLsbD_eq_getElem]

def feedBit (r : W32) (b : Bool) : W32 := step (r ^^^ b2w b)
def feed (r : W32) (l : List Bool) : W32 := l.foldl feedBit r
def word : List Bool → W32
  | [] => 0#32
  | b :: t => b2w b ^^^ (word t <<< 1)
theorem word_bit : ∀ (l : List Bool) (i : Nat), i < 32 → (word l).getLsbD i = l.getD i false
  | [], i, _ => by simp [word]
  | b :: t, 0, _ => by simp [word]; cases b <;> rfl
  | b :: t, i + 1, hi => by
    have ih := word_bit t i (by omega); have hb : (b2w b).getLsbD (i + 1) = false := by cases b <;> simp [b2w]
    simp only [word, BitVec.getLsbD_xor, hb, Bool.false_xor]; have : (word t <<< 1).getLsbD (i + 1) = (word t).getLsbD i := by simp [hi]; rw [← BitVec.getLsbD_eq_getElem]
    rw [this, ih]
    simp
theorem feed_word : ∀ (l : List Bool) (r : W32), l.length ≤ 32 → feed r l = stepN l.length (r ^^^ word l)
  | [], r, _ => by simp [feed, word, stepN]
  | b :: t, r, h => by
    have hl : t.length ≤ 31 := by simpa using h
    have ht : (word t).getLsbD 31 = false := by
      rw [word_bit t 31 (by decide), List.getD_eq_getElem?_getD, List.getElem?_eq_none (by omega)]
      rfl
    have e : feed r (b :: t) = feed (step (r ^^^ b2w b)) t := rfl; rw [e, feed_word t _ (by omega)]
    show _ = stepN t.length (step (r ^^^ word (b :: t)))
    rw [word, ← BitVec.xor_assoc, step_xor (r ^^^ b2w b), step_shl _ ht]
theorem feed_append (r : W32) (l m : List Bool) : feed r (l ++ m) = feed (feed r l) m := List.foldl_append
def byteBits (c : UInt8) : List Bool := (List.range 8).map (fun i => c.toNat.testBit i)
def bitsOf (s : Bs) : List Bool := s.flatMap byteBits
def tab (n : Nat) : W32 := stepN 8 (BitVec.ofNat 32 n)
def byteStep (r : W32) (c : UInt8) : W32 := tab (r.toNat % 256 ^^^ c.toNat) ^^^ (r >>> 8)
theorem byteBits_word (c : UInt8) : word (byteBits c) = BitVec.ofNat 32 c.toNat := by
 apply BitVec.eq_of_getLsbD_eq
 intro i hi; rw [word_bit _ _ hi, BitVec.getLsbD_ofNat]; unfold byteBits
 by_cases h : i < 8
 · simp [List.getD_eq_getElem?_getD, h, hi]
 · have : c.toNat < 2 ^ i := Nat.lt_of_lt_of_le c.toNat_lt (Nat.pow_le_pow_right (by decide) (by omega)); rw [List.getD_eq_getElem?_getD, List.getElem?_eq_none (by simp; omega), Nat.testBit_lt_two_pow this]
   simp
theorem shl_stepN : ∀ (n : Nat) (x : W32), n ≤ 32 → (∀ i, 32 - n ≤ i → x.getLsbD i = false) → stepN n (x <<< n) = x
  | 0, x, _, _ => by simp [stepN]
  | n + 1, x, hn, h => by
    show stepN n (step (x <<< (n + 1))) = x
    have e : x <<< (n + 1) = (x <<< n) <<< 1 := by rw [BitVec.shiftLeft_add]
    rw [e, step_shl]
    · exact shl_stepN n x (by omega) (fun i hi => h i (by omega))
    · rw [BitVec.getLsbD_shiftLeft, h (31 - n) (by omega)]
      simp
theorem byteStep_eq (r : W32) (c : UInt8) : byteStep r c = stepN 8 (r ^^^ BitVec.ofNat 32 c.toNat) := by
 have h1 : r ^^^ BitVec.ofNat 32 c.toNat = BitVec.ofNat 32 (r.toNat % 256 ^^^ c.toNat) ^^^ ((r >>> 8) <<< 8) := by
  apply BitVec.eq_of_getLsbD_eq
  intro i hi; have hm : (r.toNat % 256).testBit i = (decide (i < 8) && r.toNat.testBit i) := by rw [show (256 : Nat) = 2 ^ 8 from rfl, Nat.testBit_mod_two_pow]
  simp only [BitVec.getLsbD_xor, BitVec.getLsbD_ofNat, Nat.testBit_xor, hm, BitVec.getLsbD_shiftLeft, BitVec.getLsbD_ushiftRight, hi, decide_true, Bool.true_and]
  by_cases h : i < 8
  · simp [h]; rfl
  · have h8 : 8 + (i - 8) = i := by omega
    have : c.toNat < 2 ^ i := Nat.lt_of_lt_of_le c.toNat_lt (Nat.pow_le_pow_right (by decide) (by omega)); simp [h, h8, Nat.testBit_lt_two_pow this]
 rw [h1, stepN_xor, shl_stepN 8 (r >>> 8) (by decide) (by intro i hi; rw [BitVec.getLsbD_ushiftRight]; exact BitVec.getLsbD_of_ge _ _ (by omega))]
 rfl
theorem byteStep_feed (r : W32) (c : UInt8) : byteStep r c = feed r (byteBits c) := by
 rw [feed_word _ _ (by simp [byteBits]), byteStep_eq, byteBits_word]; simp [byteBits]
def crcRaw (r : W32) (s : Bs) : W32 := s.foldl byteStep r
theorem crcRaw_feed (r : W32) (s : Bs) : crcRaw r s = feed r (bitsOf s) := by
 induction s generalizing r with
 | nil => rfl
 | cons c t ih =>
  show crcRaw (byteStep r c) t = _
  rw [ih, byteStep_feed]
  show _ = feed r (byteBits c ++ bitsOf t)
  rw [feed_append]
theorem crcRaw_append (r : W32) (a b : Bs) : crcRaw r (a ++ b) = crcRaw (crcRaw r a) b := List.foldl_append
def crcMore (sum : W32) (s : Bs) : W32 := ~~~ (crcRaw (~~~ sum) s)
theorem crcMore_append (sum : W32) (a b : Bs) : crcMore sum (a ++ b) = crcMore (crcMore sum a) b := by
 unfold crcMore; rw [crcRaw_append, BitVec.not_not]
theorem crcMore_nil (sum : W32) : crcMore sum [] = sum := by unfold crcMore crcRaw; simp
theorem bitsOf_length (s : Bs) : (bitsOf s).length = 8 * s.length := by
 induction s with
 | nil => rfl
 | cons c t ih => simp only [bitsOf, List.flatMap_cons, List.length_append, List.length_cons] at ih ⊢; rw [ih]; simp [byteBits]; omega
theorem bitsOf_get (s : Bs) (i : Nat) : (bitsOf s).getD i false = ((s.getD (i / 8) 0).toNat.testBit (i % 8)) := by
 induction s generalizing i with
 | nil => simp [bitsOf]
 | cons c t ih =>
  have e : bitsOf (c :: t) = byteBits c ++ bitsOf t := rfl; rw [e, List.getD_eq_getElem?_getD]; have hl : (byteBits c).length = 8 := by simp [byteBits]
  by_cases h : i < 8
  · rw [List.getElem?_append_left (by omega)]; have h0 : i / 8 = 0 := by omega
    have h1 : i % 8 = i := by omega
    rw [h0, h1]; simp [byteBits, h]
  · rw [List.getElem?_append_right (by omega), hl, ← List.getD_eq_getElem?_getD, ih]; obtain ⟨q, hq⟩ : ∃ q, i / 8 = q + 1 := ⟨i / 8 - 1, by omega⟩; rw [show (i - 8) / 8 = q by omega, show (i - 8) % 8 = i % 8 by omega, hq]
    simp
end Go.Proofs.YtnnnglklgofabaaGreat
