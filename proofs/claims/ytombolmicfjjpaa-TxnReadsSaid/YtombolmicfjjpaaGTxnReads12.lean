/- Begin, read by definition, in version 1. -/
import Derived.Test.YtombolmicfjjpaaGTxnReads10
import Derived.RegionTactic
import Derived.Deep.RegionHeld3
import Derived.Deep.DeepCutAuto
/- Begin, read by definition, in version 1. -/
namespace Go.Proofs.Ytombolmicfjjpaa
open Go.RowKit

set_option maxHeartbeats 8000000 in
set_option maxRecDepth 100000 in
theorem r18_221_err (s : Bs) (hsl : s.length ≤ 2000) (ef : Int) (hv : refixed 2 s = .error ef) (h0 : ef ≠ 0) {W0 w : World} {K : Know} {L : List Res} (h : St W0 w K L) :
    Calls Try.prog 44 #[.int .i64 22, .int .i64 1, .string (bb s)] w fun en w' => en = .returned (.tuple #[.agg #[.bool false, .string ⟨#[]⟩, .int .i64 0, .int .i64 0, .int .i64 0, .slice none 0 0, .bool false], .int .i64 0, .int .i64 ef]) ∧ St W0 w' K L := by
  obtain ⟨rb, hrb⟩ : ∃ b, w.heap.size = b := ⟨_, rfl⟩
  obtain ⟨nb, hnb⟩ : ∃ b, rb + 1 = b := ⟨_, rfl⟩
  have g1 := (h.allocRaw #[.bool false, .string ⟨#[]⟩, .int .i64 0, .int .i64 0, .int .i64 0, .slice none 0 0, .bool false] 66).allocRaw #[.bool false, .string ⟨#[]⟩, .int .i64 0, .int .i64 0, .int .i64 0, .slice none 0 0, .bool false] 66
  simp only [World.size_alloc, hrb, hnb] at g1
  have H := Lib.hid g1
  have HX := Lib.hid (show s.length ≤ 140737488355328 by omega)
  have c0 := g1.rawCell 0; have c1 := g1.rawCell 1; have c2 := g1.rawCell 2; have c3 := g1.rawCell 3; have c4 := g1.rawCell 4; have c5 := g1.rawCell 5; have c6 := g1.rawCell 6; simp at c0 c1 c2 c3 c4 c5 c6
  have d0 := g1.p1.rawCell 0; have r0 := g1.p1.rawFree 0; have d1 := g1.p1.rawCell 1; have r1 := g1.p1.rawFree 1; have d2 := g1.p1.rawCell 2; have r2 := g1.p1.rawFree 2; have d3 := g1.p1.rawCell 3; have r3 := g1.p1.rawFree 3; have d4 := g1.p1.rawCell 4; have r4 := g1.p1.rawFree 4; have d5 := g1.p1.rawCell 5; have r5 := g1.p1.rawFree 5; have d6 := g1.p1.rawCell 6; have r6 := g1.p1.rawFree 6; simp at d0 d1 d2 d3 d4 d5 d6
  have HV := Lib.hid hv
  have g1 : (ef == 0) = false := by rw [beq_eq_false_iff_ne]; exact h0
  have g2 : (ef != 0) = true := by simp [bne, g1]
  clear h g1 hv h0
  go_enter Try.func44, Try.ntmps44
  go_wp2_with (go_at_call 81; clear c0 d0 r0 c1 d1 r1 c2 d2 r2 c3 d3 r3 c4 d4 r4 c5 d5 r5 c6 d6 r6; (with_reducible refine (ref04_fixErr _ s ef rfl HX.out HV.out H.out).mono ?_); rintro e_ wn ⟨rfl, h⟩; obtain ⟨gb, hgb⟩ : ∃ b, wn.heap.size = b := ⟨_, rfl⟩; have h := h.allocRaw #[.bool false, .string ⟨#[]⟩, .int .i64 0, .int .i64 ef] 128; rw [hgb] at h; have c0 := h.p1.rawCell 0; have c1 := h.p1.rawCell 1; have c2 := h.p1.rawCell 2; have c3 := h.p1.rawCell 3; have c4 := h.p1.rawCell 4; have c5 := h.p1.rawCell 5; have c6 := h.p1.rawCell 6; simp at c0 c1 c2 c3 c4 c5 c6; have d0 := h.p2.rawCell 0; have r0 := h.p2.rawFree 0; have d1 := h.p2.rawCell 1; have r1 := h.p2.rawFree 1; have d2 := h.p2.rawCell 2; have r2 := h.p2.rawFree 2; have d3 := h.p2.rawCell 3; have r3 := h.p2.rawFree 3; have d4 := h.p2.rawCell 4; have r4 := h.p2.rawFree 4; have d5 := h.p2.rawCell 5; have r5 := h.p2.rawFree 5; have d6 := h.p2.rawCell 6; have r6 := h.p2.rawFree 6; simp at d0 d1 d2 d3 d4 d5 d6; replace H := Lib.hid h; clear h)
  clear c0 d0 r0 c1 d1 r1 c2 d2 r2 c3 d3 r3 c4 d4 r4 c5 d5 r5 c6 d6 r6
  have hs := H.out.drew
  have HKQ := Lib.hid (show ∀ w', St W0 w' K (.raw gb #[.bool false, .string ⟨#[]⟩, .int .i64 0, .int .i64 ef] 128 :: .raw nb #[.bool false, .string ⟨#[]⟩, .int .i64 0, .int .i64 0, .int .i64 0, .slice none 0 0, .bool false] 66 :: .raw rb #[.bool false, .string ⟨#[]⟩, .int .i64 0, .int .i64 0, .int .i64 0, .slice none 0 0, .bool false] 66 :: L) → (w'.cell? ⟨nb, 0, none⟩ = some (.bool false) ∧ w'.cell? ⟨nb, 1, none⟩ = some (.string ⟨#[]⟩) ∧ w'.cell? ⟨nb, 2, none⟩ = some (.int .i64 0) ∧ w'.cell? ⟨nb, 3, none⟩ = some (.int .i64 0) ∧ w'.cell? ⟨nb, 4, none⟩ = some (.int .i64 0) ∧ w'.cell? ⟨nb, 5, none⟩ = some (.slice none 0 0) ∧ w'.cell? ⟨nb, 6, none⟩ = some (.bool false) ∧ w'.cell? ⟨gb, 3, none⟩ = some (.int .i64 ef)) from fun w' hs => ⟨hs.p1.rawCell 0, hs.p1.rawCell 1, hs.p1.rawCell 2, hs.p1.rawCell 3, hs.p1.rawCell 4, hs.p1.rawCell 5, hs.p1.rawCell 6, hs.rawCell 3⟩)
  refine wp_region_held_drew (S := fun w' => w'.cell? ⟨nb, 0, none⟩ = some (.bool false) ∧ w'.cell? ⟨nb, 1, none⟩ = some (.string ⟨#[]⟩) ∧ w'.cell? ⟨nb, 2, none⟩ = some (.int .i64 0) ∧ w'.cell? ⟨nb, 3, none⟩ = some (.int .i64 0) ∧ w'.cell? ⟨nb, 4, none⟩ = some (.int .i64 0) ∧ w'.cell? ⟨nb, 5, none⟩ = some (.slice none 0 0) ∧ w'.cell? ⟨nb, 6, none⟩ = some (.bool false) ∧ w'.cell? ⟨gb, 3, none⟩ = some (.int .i64 ef)) (by kernel_rfl) (HKQ.out _ hs) (fun hHeld => ?_)
  refine wpAnyH_take (i := 0) (oi := { dst := some 23, op := Op.load 66 (Operand.tmp 9), type := 66, pos := "ref.go:81", after := #[], guard := none }) (v := ?_) rfl (by kernel_rfl) (by kernel_rfl) (by kernel_rfl) (fun _ _ _ h => h) (Or.inl ⟨by rfl, ?_⟩) (by assumption) ?_
  rotate_left
  · intro w hSw; (try dsimp only at hSw); go_simp; try with_reducible rfl
  simp only [Act.put, List.setIfInBounds_toArray, List.set_cons_zero, List.set_cons_succ]
  refine wpAnyH_take (i := 1) (oi := { dst := some 24, op := Op.fieldAddr 128 (Operand.tmp 10) 2, type := 0, pos := "ref.go:81", after := #[{ on := 4, ground := Ground.gcOnly Departure.lateStores }], guard := none }) (v := ?_) rfl (by kernel_rfl) (by kernel_rfl) (by kernel_rfl) (fun _ _ _ h => h) (Or.inl ⟨by rfl, ?_⟩) (by assumption) ?_
  rotate_left
  · intro w hSw; (try dsimp only at hSw); go_simp; try with_reducible rfl
  simp only [Act.put, List.setIfInBounds_toArray, List.set_cons_zero, List.set_cons_succ]
  refine wpAnyH_take (i := 2) (oi := { dst := some 25, op := Op.load 3 (Operand.tmp 24), type := 3, pos := "ref.go:81", after := #[{ on := 1, ground := Ground.data }, { on := 4, ground := Ground.gcOnly Departure.lateStores }], guard := none }) (v := ?_) rfl (by kernel_rfl) (by kernel_rfl) (by kernel_rfl) (fun _ _ _ h => h) (Or.inl ⟨by rfl, ?_⟩) (by assumption) ?_
  rotate_left
  · intro w hSw; (try dsimp only at hSw); go_simp; try with_reducible rfl
  simp only [Act.put, List.setIfInBounds_toArray, List.set_cons_zero, List.set_cons_succ]
  refine wpAnyH_ready (rs := [3]) (by kernel_rfl) (by simp) (AllReadyH.cons (o := { dst := none, op := Op.store 66 (Operand.tmp 6) (Operand.tmp 23), type := 0, pos := "ref.go:81", after := #[{ on := 0, ground := Ground.data }, { on := 0, ground := Ground.phase }, { on := 1, ground := Ground.textOnly Departure.lateStores }, { on := 2, ground := Ground.textOnly Departure.lateStores }], guard := none }) rfl (fun KK hK => ?_) AllReadyH.nil)
  · have hs := hs.p2
    rw [if_pos (by rfl)]
    refine wp_store_mid 66 (.tmp 6) (.tmp 23) rfl rb 0 #[.bool false, .string ⟨#[]⟩, .int .i64 0, .int .i64 0, .int .i64 0, .slice none 0 0, .bool false] (by rfl) (by rfl) hs.there (by kernel_rfl) (by simp [Value.oneCell']) ?_
    obtain ⟨wz, ez, hs⟩ := hs.storeEx #[.bool false, .string ⟨#[]⟩, .int .i64 0, .int .i64 0, .int .i64 0, .slice none 0 0, .bool false]
    rw [ez]
    clear ez
    rw [setAll_allV] at hs
    rotate_left
    · rfl
    have hs := hs.p2.p2
    refine hK.out _ _ (HKQ.out _ hs) (fun hHeld => ?_)
    clear hK KK
    try simp only [Act.put, List.setIfInBounds_toArray, List.set_cons_zero, List.set_cons_succ]
    refine wpAnyH_take (i := 4) (oi := { dst := some 7, op := Op.assign (Operand.const (Value.int IntKind.i64 0)), type := 3, pos := "ref.go:81", after := #[{ on := 3, ground := Ground.chain }, { on := 0, ground := Ground.phase }, { on := 1, ground := Ground.textOnly Departure.lateStores }, { on := 2, ground := Ground.textOnly Departure.lateStores }, { on := 3, ground := Ground.phase }], guard := none }) (v := ?_) rfl (by kernel_rfl) (by kernel_rfl) (by kernel_rfl) (fun _ _ _ h => h) (Or.inl ⟨by rfl, ?_⟩) (by assumption) ?_
    rotate_left
    · intro w hSw; (try dsimp only at hSw); go_simp; try with_reducible rfl
    simp only [Act.put, List.setIfInBounds_toArray, List.set_cons_zero, List.set_cons_succ]
    refine wpAnyH_take (i := 5) (oi := { dst := some 8, op := Op.assign (Operand.tmp 25), type := 3, pos := "ref.go:81", after := #[{ on := 2, ground := Ground.data }, { on := 4, ground := Ground.chain }, { on := 0, ground := Ground.phase }, { on := 1, ground := Ground.phase }, { on := 2, ground := Ground.phase }, { on := 3, ground := Ground.phase }, { on := 4, ground := Ground.phase }], guard := none }) (v := ?_) rfl (by kernel_rfl) (by kernel_rfl) (by kernel_rfl) (fun _ _ _ h => h) (Or.inl ⟨by rfl, ?_⟩) (by assumption) ?_
    rotate_left
    · intro w hSw; (try dsimp only at hSw); go_simp; try with_reducible rfl
    simp only [Act.put, List.setIfInBounds_toArray, List.set_cons_zero, List.set_cons_succ]
    refine wpAnyH_done (by kernel_rfl) ?_ _
    clear hHeld
    have hz := hs.p2
    go_wp2_with fail
    refine bodyPost_ret (rc_cell_tmp3 rfl _ _ rb [.bool false, .string ⟨#[]⟩, .int .i64 0, .int .i64 0, .int .i64 0, .slice none 0 0, .bool false] _ rfl (rc_range hz) Try.underlying66 rfl (by kernel_rfl)) rfl ?_
    exact ⟨rfl, hz.drop.drop.drop⟩

set_option maxHeartbeats 8000000 in
set_option maxRecDepth 100000 in
theorem r18_221_s4T (s : Bs) (hsl : s.length ≤ 2000) (kk : Nat) (d : Bs) (hv : refixed 2 s = .ok (⟨true, d⟩, kk)) (hkl : kk ≤ s.length) (hs4 : s.length < kk + 4) {W0 w : World} {K : Know} {L : List Res} (h : St W0 w K L) :
    Calls Try.prog 44 #[.int .i64 22, .int .i64 1, .string (bb s)] w fun en w' => en = .returned (.tuple #[.agg #[.bool false, .string ⟨#[]⟩, .int .i64 0, .int .i64 0, .int .i64 0, .slice none 0 0, .bool false], .int .i64 0, .int .i64 1]) ∧ St W0 w' K L := by
  obtain ⟨rb, hrb⟩ : ∃ b, w.heap.size = b := ⟨_, rfl⟩
  obtain ⟨nb, hnb⟩ : ∃ b, rb + 1 = b := ⟨_, rfl⟩
  have g1 := (h.allocRaw #[.bool false, .string ⟨#[]⟩, .int .i64 0, .int .i64 0, .int .i64 0, .slice none 0 0, .bool false] 66).allocRaw #[.bool false, .string ⟨#[]⟩, .int .i64 0, .int .i64 0, .int .i64 0, .slice none 0 0, .bool false] 66
  simp only [World.size_alloc, hrb, hnb] at g1
  have H := Lib.hid g1
  have HX := Lib.hid (show s.length ≤ 140737488355328 by omega)
  have c0 := g1.rawCell 0; have c1 := g1.rawCell 1; have c2 := g1.rawCell 2; have c3 := g1.rawCell 3; have c4 := g1.rawCell 4; have c5 := g1.rawCell 5; have c6 := g1.rawCell 6; simp at c0 c1 c2 c3 c4 c5 c6
  have d0 := g1.p1.rawCell 0; have r0 := g1.p1.rawFree 0; have d1 := g1.p1.rawCell 1; have r1 := g1.p1.rawFree 1; have d2 := g1.p1.rawCell 2; have r2 := g1.p1.rawFree 2; have d3 := g1.p1.rawCell 3; have r3 := g1.p1.rawFree 3; have d4 := g1.p1.rawCell 4; have r4 := g1.p1.rawFree 4; have d5 := g1.p1.rawCell 5; have r5 := g1.p1.rawFree 5; have d6 := g1.p1.rawCell 6; have r6 := g1.p1.rawFree 6; simp at d0 d1 d2 d3 d4 d5 d6
  have HV := Lib.hid hv
  have hki : (kk : Int) ≤ (s.length : Int) := by omega
  have hw0 : IntKind.i64.wrap ((s.length : Int) - (kk : Int)) = (s.length : Int) - (kk : Int) := by rw [IntKind.wrap_i64]; omega
  have hsi : (s.length : Int) - (kk : Int) < 4 := by omega
  clear h g1 hv hkl hs4
  go_enter Try.func44, Try.ntmps44
  go_wp2_with (first
    | (go_at_call 81; clear c0 d0 r0 c1 d1 r1 c2 d2 r2 c3 d3 r3 c4 d4 r4 c5 d5 r5 c6 d6 r6; (with_reducible refine (ref04_fixOk _ s true d kk rfl HX.out HV.out H.out).mono ?_); rintro e_ wn ⟨rfl, h⟩; obtain ⟨gb, hgb⟩ : ∃ b, wn.heap.size = b := ⟨_, rfl⟩; obtain ⟨qb, hqb⟩ : ∃ b, gb + 1 = b := ⟨_, rfl⟩; have h := (h.allocRaw #[.bool true, .string (bb d), .int .i64 kk, .int .i64 0] 128).allocRaw #[.bool true, .string (bb d), .int .i64 0, .int .i64 (-1), .int .i64 (-1), .slice none 0 0, .bool false] 66; simp only [World.size_alloc, hgb, hqb] at h; have y0 := h.p1.rawCell 0; have y1 := h.p1.rawCell 1; have y2 := h.p1.rawCell 2; have y3 := h.p1.rawCell 3; simp at y0 y1 y2 y3; have c0 := h.p2.rawCell 0; have c1 := h.p2.rawCell 1; have c2 := h.p2.rawCell 2; have c3 := h.p2.rawCell 3; have c4 := h.p2.rawCell 4; have c5 := h.p2.rawCell 5; have c6 := h.p2.rawCell 6; simp at c0 c1 c2 c3 c4 c5 c6; have d0 := h.p3.rawCell 0; have r0 := h.p3.rawFree 0; have d1 := h.p3.rawCell 1; have r1 := h.p3.rawFree 1; have d2 := h.p3.rawCell 2; have r2 := h.p3.rawFree 2; have d3 := h.p3.rawCell 3; have r3 := h.p3.rawFree 3; have d4 := h.p3.rawCell 4; have r4 := h.p3.rawFree 4; have d5 := h.p3.rawCell 5; have r5 := h.p3.rawFree 5; have d6 := h.p3.rawCell 6; have r6 := h.p3.rawFree 6; simp at d0 d1 d2 d3 d4 d5 d6; replace H := Lib.hid h; clear h))
  have hz : St W0 _ _ (.raw rb #[.bool false, .string ⟨#[]⟩, .int .i64 0, .int .i64 0, .int .i64 0, .slice none 0 0, .bool false] 66 :: _) := St.sets7 _ _ _ _ _ _ _ (H.out.p3)
  refine bodyPost_ret (rc_cell_tmp3 rfl _ _ rb [.bool false, .string ⟨#[]⟩, .int .i64 0, .int .i64 0, .int .i64 0, .slice none 0 0, .bool false] _ rfl (rc_range hz) Try.underlying66 rfl (by kernel_rfl)) rfl ?_
  exact ⟨rfl, hz.drop.drop.drop.drop⟩

set_option maxHeartbeats 8000000 in
set_option maxRecDepth 100000 in
theorem r18_221_s4F (s : Bs) (hsl : s.length ≤ 2000) (kk : Nat) (d : Bs) (hv : refixed 2 s = .ok (⟨false, d⟩, kk)) (hkl : kk ≤ s.length) (hs4 : s.length < kk + 4) {W0 w : World} {K : Know} {L : List Res} (h : St W0 w K L) :
    Calls Try.prog 44 #[.int .i64 22, .int .i64 1, .string (bb s)] w fun en w' => en = .returned (.tuple #[.agg #[.bool false, .string ⟨#[]⟩, .int .i64 0, .int .i64 0, .int .i64 0, .slice none 0 0, .bool false], .int .i64 0, .int .i64 1]) ∧ St W0 w' K L := by
  obtain ⟨rb, hrb⟩ : ∃ b, w.heap.size = b := ⟨_, rfl⟩
  obtain ⟨nb, hnb⟩ : ∃ b, rb + 1 = b := ⟨_, rfl⟩
  have g1 := (h.allocRaw #[.bool false, .string ⟨#[]⟩, .int .i64 0, .int .i64 0, .int .i64 0, .slice none 0 0, .bool false] 66).allocRaw #[.bool false, .string ⟨#[]⟩, .int .i64 0, .int .i64 0, .int .i64 0, .slice none 0 0, .bool false] 66
  simp only [World.size_alloc, hrb, hnb] at g1
  have H := Lib.hid g1
  have HX := Lib.hid (show s.length ≤ 140737488355328 by omega)
  have c0 := g1.rawCell 0; have c1 := g1.rawCell 1; have c2 := g1.rawCell 2; have c3 := g1.rawCell 3; have c4 := g1.rawCell 4; have c5 := g1.rawCell 5; have c6 := g1.rawCell 6; simp at c0 c1 c2 c3 c4 c5 c6
  have d0 := g1.p1.rawCell 0; have r0 := g1.p1.rawFree 0; have d1 := g1.p1.rawCell 1; have r1 := g1.p1.rawFree 1; have d2 := g1.p1.rawCell 2; have r2 := g1.p1.rawFree 2; have d3 := g1.p1.rawCell 3; have r3 := g1.p1.rawFree 3; have d4 := g1.p1.rawCell 4; have r4 := g1.p1.rawFree 4; have d5 := g1.p1.rawCell 5; have r5 := g1.p1.rawFree 5; have d6 := g1.p1.rawCell 6; have r6 := g1.p1.rawFree 6; simp at d0 d1 d2 d3 d4 d5 d6
  have HV := Lib.hid hv
  have hki : (kk : Int) ≤ (s.length : Int) := by omega
  have hw0 : IntKind.i64.wrap ((s.length : Int) - (kk : Int)) = (s.length : Int) - (kk : Int) := by rw [IntKind.wrap_i64]; omega
  have hsi : (s.length : Int) - (kk : Int) < 4 := by omega
  clear h g1 hv hkl hs4
  go_enter Try.func44, Try.ntmps44
  go_wp2_with (first
    | (go_at_call 81; clear c0 d0 r0 c1 d1 r1 c2 d2 r2 c3 d3 r3 c4 d4 r4 c5 d5 r5 c6 d6 r6; (with_reducible refine (ref04_fixOk _ s false d kk rfl HX.out HV.out H.out).mono ?_); rintro e_ wn ⟨rfl, h⟩; obtain ⟨gb, hgb⟩ : ∃ b, wn.heap.size = b := ⟨_, rfl⟩; obtain ⟨qb, hqb⟩ : ∃ b, gb + 1 = b := ⟨_, rfl⟩; have h := (h.allocRaw #[.bool false, .string (bb d), .int .i64 kk, .int .i64 0] 128).allocRaw #[.bool false, .string (bb d), .int .i64 0, .int .i64 (-1), .int .i64 (-1), .slice none 0 0, .bool false] 66; simp only [World.size_alloc, hgb, hqb] at h; have y0 := h.p1.rawCell 0; have y1 := h.p1.rawCell 1; have y2 := h.p1.rawCell 2; have y3 := h.p1.rawCell 3; simp at y0 y1 y2 y3; have c0 := h.p2.rawCell 0; have c1 := h.p2.rawCell 1; have c2 := h.p2.rawCell 2; have c3 := h.p2.rawCell 3; have c4 := h.p2.rawCell 4; have c5 := h.p2.rawCell 5; have c6 := h.p2.rawCell 6; simp at c0 c1 c2 c3 c4 c5 c6; have d0 := h.p3.rawCell 0; have r0 := h.p3.rawFree 0; have d1 := h.p3.rawCell 1; have r1 := h.p3.rawFree 1; have d2 := h.p3.rawCell 2; have r2 := h.p3.rawFree 2; have d3 := h.p3.rawCell 3; have r3 := h.p3.rawFree 3; have d4 := h.p3.rawCell 4; have r4 := h.p3.rawFree 4; have d5 := h.p3.rawCell 5; have r5 := h.p3.rawFree 5; have d6 := h.p3.rawCell 6; have r6 := h.p3.rawFree 6; simp at d0 d1 d2 d3 d4 d5 d6; replace H := Lib.hid h; clear h))
  have hz : St W0 _ _ (.raw rb #[.bool false, .string ⟨#[]⟩, .int .i64 0, .int .i64 0, .int .i64 0, .slice none 0 0, .bool false] 66 :: _) := St.sets7 _ _ _ _ _ _ _ (H.out.p3)
  refine bodyPost_ret (rc_cell_tmp3 rfl _ _ rb [.bool false, .string ⟨#[]⟩, .int .i64 0, .int .i64 0, .int .i64 0, .slice none 0 0, .bool false] _ rfl (rc_range hz) Try.underlying66 rfl (by kernel_rfl)) rfl ?_
  exact ⟨rfl, hz.drop.drop.drop.drop⟩

set_option maxHeartbeats 8000000 in
set_option maxRecDepth 100000 in
theorem r18_221_s10T (s : Bs) (hsl : s.length ≤ 2000) (kk : Nat) (d : Bs) (hv : refixed 2 s = .ok (⟨true, d⟩, kk)) (hkl : kk ≤ s.length) (hs4 : kk + 4 ≤ s.length) (tm : Int) (htm : sInt ((s.drop kk).take 4) = tm) (hs10 : s.length < kk + 4 + 10) {W0 w : World} {K : Know} {L : List Res} (h : St W0 w K L) :
    Calls Try.prog 44 #[.int .i64 22, .int .i64 1, .string (bb s)] w fun en w' => en = .returned (.tuple #[.agg #[.bool false, .string ⟨#[]⟩, .int .i64 0, .int .i64 0, .int .i64 0, .slice none 0 0, .bool false], .int .i64 0, .int .i64 1]) ∧ St W0 w' K L := by
  obtain ⟨rb, hrb⟩ : ∃ b, w.heap.size = b := ⟨_, rfl⟩
  obtain ⟨nb, hnb⟩ : ∃ b, rb + 1 = b := ⟨_, rfl⟩
  have g1 := (h.allocRaw #[.bool false, .string ⟨#[]⟩, .int .i64 0, .int .i64 0, .int .i64 0, .slice none 0 0, .bool false] 66).allocRaw #[.bool false, .string ⟨#[]⟩, .int .i64 0, .int .i64 0, .int .i64 0, .slice none 0 0, .bool false] 66
  simp only [World.size_alloc, hrb, hnb] at g1
  have H := Lib.hid g1
  have HX := Lib.hid (show s.length ≤ 140737488355328 by omega)
  have c0 := g1.rawCell 0; have c1 := g1.rawCell 1; have c2 := g1.rawCell 2; have c3 := g1.rawCell 3; have c4 := g1.rawCell 4; have c5 := g1.rawCell 5; have c6 := g1.rawCell 6; simp at c0 c1 c2 c3 c4 c5 c6
  have d0 := g1.p1.rawCell 0; have r0 := g1.p1.rawFree 0; have d1 := g1.p1.rawCell 1; have r1 := g1.p1.rawFree 1; have d2 := g1.p1.rawCell 2; have r2 := g1.p1.rawFree 2; have d3 := g1.p1.rawCell 3; have r3 := g1.p1.rawFree 3; have d4 := g1.p1.rawCell 4; have r4 := g1.p1.rawFree 4; have d5 := g1.p1.rawCell 5; have r5 := g1.p1.rawFree 5; have d6 := g1.p1.rawCell 6; have r6 := g1.p1.rawFree 6; simp at d0 d1 d2 d3 d4 d5 d6
  have HV := Lib.hid hv
  have hki : (kk : Int) ≤ (s.length : Int) := by omega
  have hw0 : IntKind.i64.wrap ((s.length : Int) - (kk : Int)) = (s.length : Int) - (kk : Int) := by rw [IntKind.wrap_i64]; omega
  have hsi : ¬ (s.length : Int) - (kk : Int) < 4 := by omega
  have HTM := Lib.hid htm
  obtain ⟨k4, hk4⟩ : ∃ x, kk + 4 = x := ⟨_, rfl⟩
  have hk4w : IntKind.i64.wrap ((kk : Int) + 4) = (k4 : Int) := by rw [IntKind.wrap_i64]; omega
  have hk4i : (kk : Int) + 4 = (k4 : Int) := by omega
  have HT4 := Lib.hid (show List.take (k4 - kk) (s.drop kk) = (s.drop kk).take 4 by rw [← hk4, Nat.add_sub_cancel_left])
  have HT48 := Lib.hid (show ((s.drop kk).take 4).length ≤ 8 by rw [List.length_take]; omega)
  have hk4l : (k4 : Int) ≤ (s.length : Int) := by omega
  have hkk4 : (kk : Int) ≤ (k4 : Int) := by omega
  have hkk4n : kk ≤ k4 := by omega
  have hwA : IntKind.i64.wrap ((s.length : Int) - (k4 : Int)) = (s.length : Int) - (k4 : Int) := by rw [IntKind.wrap_i64]; omega
  have hsj : (s.length : Int) - (k4 : Int) < 10 := by omega
  clear h g1 hv hkl htm hs4 hs10
  go_enter Try.func44, Try.ntmps44
  go_wp2_with (first
    | (go_at_call 81; clear c0 d0 r0 c1 d1 r1 c2 d2 r2 c3 d3 r3 c4 d4 r4 c5 d5 r5 c6 d6 r6; (with_reducible refine (ref04_fixOk _ s true d kk rfl HX.out HV.out H.out).mono ?_); rintro e_ wn ⟨rfl, h⟩; obtain ⟨gb, hgb⟩ : ∃ b, wn.heap.size = b := ⟨_, rfl⟩; obtain ⟨qb, hqb⟩ : ∃ b, gb + 1 = b := ⟨_, rfl⟩; have h := (h.allocRaw #[.bool true, .string (bb d), .int .i64 kk, .int .i64 0] 128).allocRaw #[.bool true, .string (bb d), .int .i64 0, .int .i64 (-1), .int .i64 (-1), .slice none 0 0, .bool false] 66; simp only [World.size_alloc, hgb, hqb] at h; have y0 := h.p1.rawCell 0; have y1 := h.p1.rawCell 1; have y2 := h.p1.rawCell 2; have y3 := h.p1.rawCell 3; simp at y0 y1 y2 y3; have c0 := h.p2.rawCell 0; have c1 := h.p2.rawCell 1; have c2 := h.p2.rawCell 2; have c3 := h.p2.rawCell 3; have c4 := h.p2.rawCell 4; have c5 := h.p2.rawCell 5; have c6 := h.p2.rawCell 6; simp at c0 c1 c2 c3 c4 c5 c6; have d0 := h.p3.rawCell 0; have r0 := h.p3.rawFree 0; have d1 := h.p3.rawCell 1; have r1 := h.p3.rawFree 1; have d2 := h.p3.rawCell 2; have r2 := h.p3.rawFree 2; have d3 := h.p3.rawCell 3; have r3 := h.p3.rawFree 3; have d4 := h.p3.rawCell 4; have r4 := h.p3.rawFree 4; have d5 := h.p3.rawCell 5; have r5 := h.p3.rawFree 5; have d6 := h.p3.rawCell 6; have r6 := h.p3.rawFree 6; simp at d0 d1 d2 d3 d4 d5 d6; replace H := Lib.hid h; clear h)
    | (go_at_call 76; (with_reducible refine (sr_intT _ ((s.drop kk).take 4) HT4.out tm HTM.out HT48.out H.out).mono ?_); rintro e_ wn ⟨rfl, h⟩; clear c0 d0 r0 c1 d1 r1 c2 d2 r2 c3 d3 r3 c4 d4 r4 c5 d5 r5 c6 d6 r6; have f2 := h.rawFree 2; have q2 := h.rawCell 2; simp at q2; have h := (show St W0 (wn.setCell ⟨qb, 2, none⟩ (.int .i64 tm)) K (.raw qb #[.bool true, .string (bb d), .int .i64 tm, .int .i64 (-1), .int .i64 (-1), .slice none 0 0, .bool false] 66 :: _) from h.rawSet 2 (.int .i64 tm)); have c0 := h.p2.rawCell 0; have c1 := h.p2.rawCell 1; have c2 := h.p2.rawCell 2; have c3 := h.p2.rawCell 3; have c4 := h.p2.rawCell 4; have c5 := h.p2.rawCell 5; have c6 := h.p2.rawCell 6; simp at c0 c1 c2 c3 c4 c5 c6; have d0 := h.p3.rawCell 0; have r0 := h.p3.rawFree 0; have d1 := h.p3.rawCell 1; have r1 := h.p3.rawFree 1; have d2 := h.p3.rawCell 2; have r2 := h.p3.rawFree 2; have d3 := h.p3.rawCell 3; have r3 := h.p3.rawFree 3; have d4 := h.p3.rawCell 4; have r4 := h.p3.rawFree 4; have d5 := h.p3.rawCell 5; have r5 := h.p3.rawFree 5; have d6 := h.p3.rawCell 6; have r6 := h.p3.rawFree 6; simp at d0 d1 d2 d3 d4 d5 d6; replace H := Lib.hid h; clear h))
  have hz : St W0 _ _ (.raw rb #[.bool false, .string ⟨#[]⟩, .int .i64 0, .int .i64 0, .int .i64 0, .slice none 0 0, .bool false] 66 :: _) := St.sets7 _ _ _ _ _ _ _ (H.out.p3)
  refine bodyPost_ret (rc_cell_tmp3 rfl _ _ rb [.bool false, .string ⟨#[]⟩, .int .i64 0, .int .i64 0, .int .i64 0, .slice none 0 0, .bool false] _ rfl (rc_range hz) Try.underlying66 rfl (by kernel_rfl)) rfl ?_
  exact ⟨rfl, hz.drop.drop.drop.drop⟩

set_option maxHeartbeats 8000000 in
set_option maxRecDepth 100000 in
theorem r18_221_s10F (s : Bs) (hsl : s.length ≤ 2000) (kk : Nat) (d : Bs) (hv : refixed 2 s = .ok (⟨false, d⟩, kk)) (hkl : kk ≤ s.length) (hs4 : kk + 4 ≤ s.length) (tm : Int) (htm : sInt ((s.drop kk).take 4) = tm) (hs10 : s.length < kk + 4 + 10) {W0 w : World} {K : Know} {L : List Res} (h : St W0 w K L) :
    Calls Try.prog 44 #[.int .i64 22, .int .i64 1, .string (bb s)] w fun en w' => en = .returned (.tuple #[.agg #[.bool false, .string ⟨#[]⟩, .int .i64 0, .int .i64 0, .int .i64 0, .slice none 0 0, .bool false], .int .i64 0, .int .i64 1]) ∧ St W0 w' K L := by
  obtain ⟨rb, hrb⟩ : ∃ b, w.heap.size = b := ⟨_, rfl⟩
  obtain ⟨nb, hnb⟩ : ∃ b, rb + 1 = b := ⟨_, rfl⟩
  have g1 := (h.allocRaw #[.bool false, .string ⟨#[]⟩, .int .i64 0, .int .i64 0, .int .i64 0, .slice none 0 0, .bool false] 66).allocRaw #[.bool false, .string ⟨#[]⟩, .int .i64 0, .int .i64 0, .int .i64 0, .slice none 0 0, .bool false] 66
  simp only [World.size_alloc, hrb, hnb] at g1
  have H := Lib.hid g1
  have HX := Lib.hid (show s.length ≤ 140737488355328 by omega)
  have c0 := g1.rawCell 0; have c1 := g1.rawCell 1; have c2 := g1.rawCell 2; have c3 := g1.rawCell 3; have c4 := g1.rawCell 4; have c5 := g1.rawCell 5; have c6 := g1.rawCell 6; simp at c0 c1 c2 c3 c4 c5 c6
  have d0 := g1.p1.rawCell 0; have r0 := g1.p1.rawFree 0; have d1 := g1.p1.rawCell 1; have r1 := g1.p1.rawFree 1; have d2 := g1.p1.rawCell 2; have r2 := g1.p1.rawFree 2; have d3 := g1.p1.rawCell 3; have r3 := g1.p1.rawFree 3; have d4 := g1.p1.rawCell 4; have r4 := g1.p1.rawFree 4; have d5 := g1.p1.rawCell 5; have r5 := g1.p1.rawFree 5; have d6 := g1.p1.rawCell 6; have r6 := g1.p1.rawFree 6; simp at d0 d1 d2 d3 d4 d5 d6
  have HV := Lib.hid hv
  have hki : (kk : Int) ≤ (s.length : Int) := by omega
  have hw0 : IntKind.i64.wrap ((s.length : Int) - (kk : Int)) = (s.length : Int) - (kk : Int) := by rw [IntKind.wrap_i64]; omega
  have hsi : ¬ (s.length : Int) - (kk : Int) < 4 := by omega
  have HTM := Lib.hid htm
  obtain ⟨k4, hk4⟩ : ∃ x, kk + 4 = x := ⟨_, rfl⟩
  have hk4w : IntKind.i64.wrap ((kk : Int) + 4) = (k4 : Int) := by rw [IntKind.wrap_i64]; omega
  have hk4i : (kk : Int) + 4 = (k4 : Int) := by omega
  have HT4 := Lib.hid (show List.take (k4 - kk) (s.drop kk) = (s.drop kk).take 4 by rw [← hk4, Nat.add_sub_cancel_left])
  have HT48 := Lib.hid (show ((s.drop kk).take 4).length ≤ 8 by rw [List.length_take]; omega)
  have hk4l : (k4 : Int) ≤ (s.length : Int) := by omega
  have hkk4 : (kk : Int) ≤ (k4 : Int) := by omega
  have hkk4n : kk ≤ k4 := by omega
  have hwA : IntKind.i64.wrap ((s.length : Int) - (k4 : Int)) = (s.length : Int) - (k4 : Int) := by rw [IntKind.wrap_i64]; omega
  have hsj : (s.length : Int) - (k4 : Int) < 10 := by omega
  clear h g1 hv hkl htm hs4 hs10
  go_enter Try.func44, Try.ntmps44
  go_wp2_with (first
    | (go_at_call 81; clear c0 d0 r0 c1 d1 r1 c2 d2 r2 c3 d3 r3 c4 d4 r4 c5 d5 r5 c6 d6 r6; (with_reducible refine (ref04_fixOk _ s false d kk rfl HX.out HV.out H.out).mono ?_); rintro e_ wn ⟨rfl, h⟩; obtain ⟨gb, hgb⟩ : ∃ b, wn.heap.size = b := ⟨_, rfl⟩; obtain ⟨qb, hqb⟩ : ∃ b, gb + 1 = b := ⟨_, rfl⟩; have h := (h.allocRaw #[.bool false, .string (bb d), .int .i64 kk, .int .i64 0] 128).allocRaw #[.bool false, .string (bb d), .int .i64 0, .int .i64 (-1), .int .i64 (-1), .slice none 0 0, .bool false] 66; simp only [World.size_alloc, hgb, hqb] at h; have y0 := h.p1.rawCell 0; have y1 := h.p1.rawCell 1; have y2 := h.p1.rawCell 2; have y3 := h.p1.rawCell 3; simp at y0 y1 y2 y3; have c0 := h.p2.rawCell 0; have c1 := h.p2.rawCell 1; have c2 := h.p2.rawCell 2; have c3 := h.p2.rawCell 3; have c4 := h.p2.rawCell 4; have c5 := h.p2.rawCell 5; have c6 := h.p2.rawCell 6; simp at c0 c1 c2 c3 c4 c5 c6; have d0 := h.p3.rawCell 0; have r0 := h.p3.rawFree 0; have d1 := h.p3.rawCell 1; have r1 := h.p3.rawFree 1; have d2 := h.p3.rawCell 2; have r2 := h.p3.rawFree 2; have d3 := h.p3.rawCell 3; have r3 := h.p3.rawFree 3; have d4 := h.p3.rawCell 4; have r4 := h.p3.rawFree 4; have d5 := h.p3.rawCell 5; have r5 := h.p3.rawFree 5; have d6 := h.p3.rawCell 6; have r6 := h.p3.rawFree 6; simp at d0 d1 d2 d3 d4 d5 d6; replace H := Lib.hid h; clear h)
    | (go_at_call 76; (with_reducible refine (sr_intT _ ((s.drop kk).take 4) HT4.out tm HTM.out HT48.out H.out).mono ?_); rintro e_ wn ⟨rfl, h⟩; clear c0 d0 r0 c1 d1 r1 c2 d2 r2 c3 d3 r3 c4 d4 r4 c5 d5 r5 c6 d6 r6; have f2 := h.rawFree 2; have q2 := h.rawCell 2; simp at q2; have h := (show St W0 (wn.setCell ⟨qb, 2, none⟩ (.int .i64 tm)) K (.raw qb #[.bool false, .string (bb d), .int .i64 tm, .int .i64 (-1), .int .i64 (-1), .slice none 0 0, .bool false] 66 :: _) from h.rawSet 2 (.int .i64 tm)); have c0 := h.p2.rawCell 0; have c1 := h.p2.rawCell 1; have c2 := h.p2.rawCell 2; have c3 := h.p2.rawCell 3; have c4 := h.p2.rawCell 4; have c5 := h.p2.rawCell 5; have c6 := h.p2.rawCell 6; simp at c0 c1 c2 c3 c4 c5 c6; have d0 := h.p3.rawCell 0; have r0 := h.p3.rawFree 0; have d1 := h.p3.rawCell 1; have r1 := h.p3.rawFree 1; have d2 := h.p3.rawCell 2; have r2 := h.p3.rawFree 2; have d3 := h.p3.rawCell 3; have r3 := h.p3.rawFree 3; have d4 := h.p3.rawCell 4; have r4 := h.p3.rawFree 4; have d5 := h.p3.rawCell 5; have r5 := h.p3.rawFree 5; have d6 := h.p3.rawCell 6; have r6 := h.p3.rawFree 6; simp at d0 d1 d2 d3 d4 d5 d6; replace H := Lib.hid h; clear h))
  have hz : St W0 _ _ (.raw rb #[.bool false, .string ⟨#[]⟩, .int .i64 0, .int .i64 0, .int .i64 0, .slice none 0 0, .bool false] 66 :: _) := St.sets7 _ _ _ _ _ _ _ (H.out.p3)
  refine bodyPost_ret (rc_cell_tmp3 rfl _ _ rb [.bool false, .string ⟨#[]⟩, .int .i64 0, .int .i64 0, .int .i64 0, .slice none 0 0, .bool false] _ rfl (rc_range hz) Try.underlying66 rfl (by kernel_rfl)) rfl ?_
  exact ⟨rfl, hz.drop.drop.drop.drop⟩

set_option maxHeartbeats 8000000 in
set_option maxRecDepth 100000 in
theorem r18_221_chkT (s : Bs) (hsl : s.length ≤ 2000) (kk : Nat) (d : Bs) (hv : refixed 2 s = .ok (⟨true, d⟩, kk)) (hkl : kk ≤ s.length) (hs4 : kk + 4 ≤ s.length) (tm : Int) (htm : sInt ((s.drop kk).take 4) = tm) (hs10 : kk + 4 + 10 ≤ s.length) (p e : Int) (hp : sInt ((s.drop (kk + 4)).take 8) = p) (he : sInt ((s.drop (kk + 4 + 8)).take 2) = e) (E : Int) (hE : begE 1 true d tm p e = E) (h0 : E ≠ 0) {W0 w : World} {K : Know} {L : List Res} (h : St W0 w K L) :
    Calls Try.prog 44 #[.int .i64 22, .int .i64 1, .string (bb s)] w fun en w' => en = .returned (.tuple #[.agg #[.bool false, .string ⟨#[]⟩, .int .i64 0, .int .i64 0, .int .i64 0, .slice none 0 0, .bool false], .int .i64 0, .int .i64 E]) ∧ St W0 w' K L := by
  obtain ⟨rb, hrb⟩ : ∃ b, w.heap.size = b := ⟨_, rfl⟩
  obtain ⟨nb, hnb⟩ : ∃ b, rb + 1 = b := ⟨_, rfl⟩
  have g1 := (h.allocRaw #[.bool false, .string ⟨#[]⟩, .int .i64 0, .int .i64 0, .int .i64 0, .slice none 0 0, .bool false] 66).allocRaw #[.bool false, .string ⟨#[]⟩, .int .i64 0, .int .i64 0, .int .i64 0, .slice none 0 0, .bool false] 66
  simp only [World.size_alloc, hrb, hnb] at g1
  have H := Lib.hid g1
  have HX := Lib.hid (show s.length ≤ 140737488355328 by omega)
  have c0 := g1.rawCell 0; have c1 := g1.rawCell 1; have c2 := g1.rawCell 2; have c3 := g1.rawCell 3; have c4 := g1.rawCell 4; have c5 := g1.rawCell 5; have c6 := g1.rawCell 6; simp at c0 c1 c2 c3 c4 c5 c6
  have d0 := g1.p1.rawCell 0; have r0 := g1.p1.rawFree 0; have d1 := g1.p1.rawCell 1; have r1 := g1.p1.rawFree 1; have d2 := g1.p1.rawCell 2; have r2 := g1.p1.rawFree 2; have d3 := g1.p1.rawCell 3; have r3 := g1.p1.rawFree 3; have d4 := g1.p1.rawCell 4; have r4 := g1.p1.rawFree 4; have d5 := g1.p1.rawCell 5; have r5 := g1.p1.rawFree 5; have d6 := g1.p1.rawCell 6; have r6 := g1.p1.rawFree 6; simp at d0 d1 d2 d3 d4 d5 d6
  have HV := Lib.hid hv
  have hki : (kk : Int) ≤ (s.length : Int) := by omega
  have hw0 : IntKind.i64.wrap ((s.length : Int) - (kk : Int)) = (s.length : Int) - (kk : Int) := by rw [IntKind.wrap_i64]; omega
  have hsi : ¬ (s.length : Int) - (kk : Int) < 4 := by omega
  have HTM := Lib.hid htm
  obtain ⟨k4, hk4⟩ : ∃ x, kk + 4 = x := ⟨_, rfl⟩
  have hk4w : IntKind.i64.wrap ((kk : Int) + 4) = (k4 : Int) := by rw [IntKind.wrap_i64]; omega
  have hk4i : (kk : Int) + 4 = (k4 : Int) := by omega
  have HT4 := Lib.hid (show List.take (k4 - kk) (s.drop kk) = (s.drop kk).take 4 by rw [← hk4, Nat.add_sub_cancel_left])
  have HT48 := Lib.hid (show ((s.drop kk).take 4).length ≤ 8 by rw [List.length_take]; omega)
  have hk4l : (k4 : Int) ≤ (s.length : Int) := by omega
  have hkk4 : (kk : Int) ≤ (k4 : Int) := by omega
  have hkk4n : kk ≤ k4 := by omega
  have hwA : IntKind.i64.wrap ((s.length : Int) - (k4 : Int)) = (s.length : Int) - (k4 : Int) := by rw [IntKind.wrap_i64]; omega
  have hsj : ¬ (s.length : Int) - (k4 : Int) < 10 := by omega
  obtain ⟨k12, hk12⟩ : ∃ x, k4 + 8 = x := ⟨_, rfl⟩
  have hk12w : IntKind.i64.wrap ((k4 : Int) + 8) = (k12 : Int) := by rw [IntKind.wrap_i64]; omega
  have hk12i : (k4 : Int) + 8 = (k12 : Int) := by omega
  obtain ⟨k14, hk14⟩ : ∃ x, k4 + 10 = x := ⟨_, rfl⟩
  have hk14w : IntKind.i64.wrap ((k4 : Int) + 10) = (k14 : Int) := by rw [IntKind.wrap_i64]; omega
  have hk14i : (k4 : Int) + 10 = (k14 : Int) := by omega
  have HT8 := Lib.hid (show List.take (k12 - k4) (s.drop k4) = (s.drop k4).take 8 by rw [← hk12, Nat.add_sub_cancel_left])
  have HT88 := Lib.hid (show ((s.drop k4).take 8).length ≤ 8 by rw [List.length_take]; omega)
  have HT2 := Lib.hid (show List.take (k14 - k12) (s.drop k12) = (s.drop k12).take 2 by rw [show k14 - k12 = 2 by omega])
  have HT28 := Lib.hid (show ((s.drop k12).take 2).length ≤ 8 by rw [List.length_take]; omega)
  have HP := Lib.hid (show sInt ((s.drop k4).take 8) = p by rw [← hk4]; exact hp)
  have HE := Lib.hid (show sInt ((s.drop k12).take 2) = e by rw [← hk12, ← hk4]; exact he)
  have ik4k12 : (k4 : Int) ≤ (k12 : Int) := by omega
  have nk4k12 : k4 ≤ k12 := by omega
  have ik12k14 : (k12 : Int) ≤ (k14 : Int) := by omega
  have nk12k14 : k12 ≤ k14 := by omega
  have ik4k14 : (k4 : Int) ≤ (k14 : Int) := by omega
  have nk4k14 : k4 ≤ k14 := by omega
  have lk12 : (k12 : Int) ≤ (s.length : Int) := by omega
  have lk14 : (k14 : Int) ≤ (s.length : Int) := by omega
  have HEE := Lib.hid hE
  have g1 : (E == 0) = false := by rw [beq_eq_false_iff_ne]; exact h0
  have g2 : (E != 0) = true := by simp [bne, g1]
  clear h g1 hv hkl htm hs4 hp he hs10 hE h0
  go_enter Try.func44, Try.ntmps44
  go_wp2_with (first
    | (go_at_call 81; clear c0 d0 r0 c1 d1 r1 c2 d2 r2 c3 d3 r3 c4 d4 r4 c5 d5 r5 c6 d6 r6; (with_reducible refine (ref04_fixOk _ s true d kk rfl HX.out HV.out H.out).mono ?_); rintro e_ wn ⟨rfl, h⟩; obtain ⟨gb, hgb⟩ : ∃ b, wn.heap.size = b := ⟨_, rfl⟩; obtain ⟨qb, hqb⟩ : ∃ b, gb + 1 = b := ⟨_, rfl⟩; have h := (h.allocRaw #[.bool true, .string (bb d), .int .i64 kk, .int .i64 0] 128).allocRaw #[.bool true, .string (bb d), .int .i64 0, .int .i64 (-1), .int .i64 (-1), .slice none 0 0, .bool false] 66; simp only [World.size_alloc, hgb, hqb] at h; have y0 := h.p1.rawCell 0; have y1 := h.p1.rawCell 1; have y2 := h.p1.rawCell 2; have y3 := h.p1.rawCell 3; simp at y0 y1 y2 y3; have c0 := h.p2.rawCell 0; have c1 := h.p2.rawCell 1; have c2 := h.p2.rawCell 2; have c3 := h.p2.rawCell 3; have c4 := h.p2.rawCell 4; have c5 := h.p2.rawCell 5; have c6 := h.p2.rawCell 6; simp at c0 c1 c2 c3 c4 c5 c6; have d0 := h.p3.rawCell 0; have r0 := h.p3.rawFree 0; have d1 := h.p3.rawCell 1; have r1 := h.p3.rawFree 1; have d2 := h.p3.rawCell 2; have r2 := h.p3.rawFree 2; have d3 := h.p3.rawCell 3; have r3 := h.p3.rawFree 3; have d4 := h.p3.rawCell 4; have r4 := h.p3.rawFree 4; have d5 := h.p3.rawCell 5; have r5 := h.p3.rawFree 5; have d6 := h.p3.rawCell 6; have r6 := h.p3.rawFree 6; simp at d0 d1 d2 d3 d4 d5 d6; replace H := Lib.hid h; clear h)
    | (go_at_call 76; (with_reducible refine (sr_intT _ ((s.drop kk).take 4) HT4.out tm HTM.out HT48.out H.out).mono ?_); rintro e_ wn ⟨rfl, h⟩; clear c0 d0 r0 c1 d1 r1 c2 d2 r2 c3 d3 r3 c4 d4 r4 c5 d5 r5 c6 d6 r6; have f2 := h.rawFree 2; have q2 := h.rawCell 2; simp at q2; have h := (show St W0 (wn.setCell ⟨qb, 2, none⟩ (.int .i64 tm)) K (.raw qb #[.bool true, .string (bb d), .int .i64 tm, .int .i64 (-1), .int .i64 (-1), .slice none 0 0, .bool false] 66 :: _) from h.rawSet 2 (.int .i64 tm)); have c0 := h.p2.rawCell 0; have c1 := h.p2.rawCell 1; have c2 := h.p2.rawCell 2; have c3 := h.p2.rawCell 3; have c4 := h.p2.rawCell 4; have c5 := h.p2.rawCell 5; have c6 := h.p2.rawCell 6; simp at c0 c1 c2 c3 c4 c5 c6; have d0 := h.p3.rawCell 0; have r0 := h.p3.rawFree 0; have d1 := h.p3.rawCell 1; have r1 := h.p3.rawFree 1; have d2 := h.p3.rawCell 2; have r2 := h.p3.rawFree 2; have d3 := h.p3.rawCell 3; have r3 := h.p3.rawFree 3; have d4 := h.p3.rawCell 4; have r4 := h.p3.rawFree 4; have d5 := h.p3.rawCell 5; have r5 := h.p3.rawFree 5; have d6 := h.p3.rawCell 6; have r6 := h.p3.rawFree 6; simp at d0 d1 d2 d3 d4 d5 d6; replace H := Lib.hid h; clear h)
    | (go_at_call 76; (with_reducible refine (sr_intT _ ((s.drop k4).take 8) HT8.out p HP.out HT88.out H.out).mono ?_); rintro e_ wn ⟨rfl, h⟩; clear c0 d0 r0 c1 d1 r1 c2 d2 r2 c3 d3 r3 c4 d4 r4 c5 d5 r5 c6 d6 r6; have f3 := h.rawFree 3; have q3 := h.rawCell 3; simp at q3; have h := (show St W0 (wn.setCell ⟨qb, 3, none⟩ (.int .i64 p)) K (.raw qb #[.bool true, .string (bb d), .int .i64 tm, .int .i64 p, .int .i64 (-1), .slice none 0 0, .bool false] 66 :: _) from h.rawSet 3 (.int .i64 p)); have c0 := h.p2.rawCell 0; have c1 := h.p2.rawCell 1; have c2 := h.p2.rawCell 2; have c3 := h.p2.rawCell 3; have c4 := h.p2.rawCell 4; have c5 := h.p2.rawCell 5; have c6 := h.p2.rawCell 6; simp at c0 c1 c2 c3 c4 c5 c6; have d0 := h.p3.rawCell 0; have r0 := h.p3.rawFree 0; have d1 := h.p3.rawCell 1; have r1 := h.p3.rawFree 1; have d2 := h.p3.rawCell 2; have r2 := h.p3.rawFree 2; have d3 := h.p3.rawCell 3; have r3 := h.p3.rawFree 3; have d4 := h.p3.rawCell 4; have r4 := h.p3.rawFree 4; have d5 := h.p3.rawCell 5; have r5 := h.p3.rawFree 5; have d6 := h.p3.rawCell 6; have r6 := h.p3.rawFree 6; simp at d0 d1 d2 d3 d4 d5 d6; replace H := Lib.hid h; clear h)
    | (go_at_call 76; (with_reducible refine (sr_intT _ ((s.drop k12).take 2) HT2.out e HE.out HT28.out H.out).mono ?_); rintro e_ wn ⟨rfl, h⟩; clear c0 d0 r0 c1 d1 r1 c2 d2 r2 c3 d3 r3 c4 d4 r4 c5 d5 r5 c6 d6 r6; have f4 := h.rawFree 4; have q4 := h.rawCell 4; simp at q4; have h := (show St W0 (wn.setCell ⟨qb, 4, none⟩ (.int .i64 e)) K (.raw qb #[.bool true, .string (bb d), .int .i64 tm, .int .i64 p, .int .i64 e, .slice none 0 0, .bool false] 66 :: _) from h.rawSet 4 (.int .i64 e)); have x0 := h.rawCell 0; have x1 := h.rawCell 1; have x2 := h.rawCell 2; have x3 := h.rawCell 3; have x4 := h.rawCell 4; have x5 := h.rawCell 5; have x6 := h.rawCell 6; simp at x0 x1 x2 x3 x4 x5 x6; have c0 := h.p2.rawCell 0; have c1 := h.p2.rawCell 1; have c2 := h.p2.rawCell 2; have c3 := h.p2.rawCell 3; have c4 := h.p2.rawCell 4; have c5 := h.p2.rawCell 5; have c6 := h.p2.rawCell 6; simp at c0 c1 c2 c3 c4 c5 c6; have d0 := h.p3.rawCell 0; have r0 := h.p3.rawFree 0; have d1 := h.p3.rawCell 1; have r1 := h.p3.rawFree 1; have d2 := h.p3.rawCell 2; have r2 := h.p3.rawFree 2; have d3 := h.p3.rawCell 3; have r3 := h.p3.rawFree 3; have d4 := h.p3.rawCell 4; have r4 := h.p3.rawFree 4; have d5 := h.p3.rawCell 5; have r5 := h.p3.rawFree 5; have d6 := h.p3.rawCell 6; have r6 := h.p3.rawFree 6; simp at d0 d1 d2 d3 d4 d5 d6; replace H := Lib.hid h; clear h)
    | (go_at_call 40; clear x0 x1 x2 x3 x4 x5 x6; (with_reducible refine (ref18_check22N 1 true d tm p e E HEE.out H.out).mono ?_); rintro e_ wn ⟨rfl, h⟩; clear c0 d0 r0 c1 d1 r1 c2 d2 r2 c3 d3 r3 c4 d4 r4 c5 d5 r5 c6 d6 r6; have x0 := h.rawCell 0; have x1 := h.rawCell 1; have x2 := h.rawCell 2; have x3 := h.rawCell 3; have x4 := h.rawCell 4; have x5 := h.rawCell 5; have x6 := h.rawCell 6; simp at x0 x1 x2 x3 x4 x5 x6; have c0 := h.p2.rawCell 0; have c1 := h.p2.rawCell 1; have c2 := h.p2.rawCell 2; have c3 := h.p2.rawCell 3; have c4 := h.p2.rawCell 4; have c5 := h.p2.rawCell 5; have c6 := h.p2.rawCell 6; simp at c0 c1 c2 c3 c4 c5 c6; have d0 := h.p3.rawCell 0; have r0 := h.p3.rawFree 0; have d1 := h.p3.rawCell 1; have r1 := h.p3.rawFree 1; have d2 := h.p3.rawCell 2; have r2 := h.p3.rawFree 2; have d3 := h.p3.rawCell 3; have r3 := h.p3.rawFree 3; have d4 := h.p3.rawCell 4; have r4 := h.p3.rawFree 4; have d5 := h.p3.rawCell 5; have r5 := h.p3.rawFree 5; have d6 := h.p3.rawCell 6; have r6 := h.p3.rawFree 6; simp at d0 d1 d2 d3 d4 d5 d6; replace H := Lib.hid h; clear h))
  have hz : St W0 _ _ (.raw rb #[.bool false, .string ⟨#[]⟩, .int .i64 0, .int .i64 0, .int .i64 0, .slice none 0 0, .bool false] 66 :: _) := St.sets7 _ _ _ _ _ _ _ (H.out.p3)
  refine bodyPost_ret (rc_cell_tmp3 rfl _ _ rb [.bool false, .string ⟨#[]⟩, .int .i64 0, .int .i64 0, .int .i64 0, .slice none 0 0, .bool false] _ rfl (rc_range hz) Try.underlying66 rfl (by kernel_rfl)) rfl ?_
  exact ⟨rfl, hz.drop.drop.drop.drop⟩

set_option maxHeartbeats 8000000 in
set_option maxRecDepth 100000 in
theorem r18_221_chkF (s : Bs) (hsl : s.length ≤ 2000) (kk : Nat) (d : Bs) (hv : refixed 2 s = .ok (⟨false, d⟩, kk)) (hkl : kk ≤ s.length) (hs4 : kk + 4 ≤ s.length) (tm : Int) (htm : sInt ((s.drop kk).take 4) = tm) (hs10 : kk + 4 + 10 ≤ s.length) (p e : Int) (hp : sInt ((s.drop (kk + 4)).take 8) = p) (he : sInt ((s.drop (kk + 4 + 8)).take 2) = e) (E : Int) (hE : begE 1 false d tm p e = E) (h0 : E ≠ 0) {W0 w : World} {K : Know} {L : List Res} (h : St W0 w K L) :
    Calls Try.prog 44 #[.int .i64 22, .int .i64 1, .string (bb s)] w fun en w' => en = .returned (.tuple #[.agg #[.bool false, .string ⟨#[]⟩, .int .i64 0, .int .i64 0, .int .i64 0, .slice none 0 0, .bool false], .int .i64 0, .int .i64 E]) ∧ St W0 w' K L := by
  obtain ⟨rb, hrb⟩ : ∃ b, w.heap.size = b := ⟨_, rfl⟩
  obtain ⟨nb, hnb⟩ : ∃ b, rb + 1 = b := ⟨_, rfl⟩
  have g1 := (h.allocRaw #[.bool false, .string ⟨#[]⟩, .int .i64 0, .int .i64 0, .int .i64 0, .slice none 0 0, .bool false] 66).allocRaw #[.bool false, .string ⟨#[]⟩, .int .i64 0, .int .i64 0, .int .i64 0, .slice none 0 0, .bool false] 66
  simp only [World.size_alloc, hrb, hnb] at g1
  have H := Lib.hid g1
  have HX := Lib.hid (show s.length ≤ 140737488355328 by omega)
  have c0 := g1.rawCell 0; have c1 := g1.rawCell 1; have c2 := g1.rawCell 2; have c3 := g1.rawCell 3; have c4 := g1.rawCell 4; have c5 := g1.rawCell 5; have c6 := g1.rawCell 6; simp at c0 c1 c2 c3 c4 c5 c6
  have d0 := g1.p1.rawCell 0; have r0 := g1.p1.rawFree 0; have d1 := g1.p1.rawCell 1; have r1 := g1.p1.rawFree 1; have d2 := g1.p1.rawCell 2; have r2 := g1.p1.rawFree 2; have d3 := g1.p1.rawCell 3; have r3 := g1.p1.rawFree 3; have d4 := g1.p1.rawCell 4; have r4 := g1.p1.rawFree 4; have d5 := g1.p1.rawCell 5; have r5 := g1.p1.rawFree 5; have d6 := g1.p1.rawCell 6; have r6 := g1.p1.rawFree 6; simp at d0 d1 d2 d3 d4 d5 d6
  have HV := Lib.hid hv
  have hki : (kk : Int) ≤ (s.length : Int) := by omega
  have hw0 : IntKind.i64.wrap ((s.length : Int) - (kk : Int)) = (s.length : Int) - (kk : Int) := by rw [IntKind.wrap_i64]; omega
  have hsi : ¬ (s.length : Int) - (kk : Int) < 4 := by omega
  have HTM := Lib.hid htm
  obtain ⟨k4, hk4⟩ : ∃ x, kk + 4 = x := ⟨_, rfl⟩
  have hk4w : IntKind.i64.wrap ((kk : Int) + 4) = (k4 : Int) := by rw [IntKind.wrap_i64]; omega
  have hk4i : (kk : Int) + 4 = (k4 : Int) := by omega
  have HT4 := Lib.hid (show List.take (k4 - kk) (s.drop kk) = (s.drop kk).take 4 by rw [← hk4, Nat.add_sub_cancel_left])
  have HT48 := Lib.hid (show ((s.drop kk).take 4).length ≤ 8 by rw [List.length_take]; omega)
  have hk4l : (k4 : Int) ≤ (s.length : Int) := by omega
  have hkk4 : (kk : Int) ≤ (k4 : Int) := by omega
  have hkk4n : kk ≤ k4 := by omega
  have hwA : IntKind.i64.wrap ((s.length : Int) - (k4 : Int)) = (s.length : Int) - (k4 : Int) := by rw [IntKind.wrap_i64]; omega
  have hsj : ¬ (s.length : Int) - (k4 : Int) < 10 := by omega
  obtain ⟨k12, hk12⟩ : ∃ x, k4 + 8 = x := ⟨_, rfl⟩
  have hk12w : IntKind.i64.wrap ((k4 : Int) + 8) = (k12 : Int) := by rw [IntKind.wrap_i64]; omega
  have hk12i : (k4 : Int) + 8 = (k12 : Int) := by omega
  obtain ⟨k14, hk14⟩ : ∃ x, k4 + 10 = x := ⟨_, rfl⟩
  have hk14w : IntKind.i64.wrap ((k4 : Int) + 10) = (k14 : Int) := by rw [IntKind.wrap_i64]; omega
  have hk14i : (k4 : Int) + 10 = (k14 : Int) := by omega
  have HT8 := Lib.hid (show List.take (k12 - k4) (s.drop k4) = (s.drop k4).take 8 by rw [← hk12, Nat.add_sub_cancel_left])
  have HT88 := Lib.hid (show ((s.drop k4).take 8).length ≤ 8 by rw [List.length_take]; omega)
  have HT2 := Lib.hid (show List.take (k14 - k12) (s.drop k12) = (s.drop k12).take 2 by rw [show k14 - k12 = 2 by omega])
  have HT28 := Lib.hid (show ((s.drop k12).take 2).length ≤ 8 by rw [List.length_take]; omega)
  have HP := Lib.hid (show sInt ((s.drop k4).take 8) = p by rw [← hk4]; exact hp)
  have HE := Lib.hid (show sInt ((s.drop k12).take 2) = e by rw [← hk12, ← hk4]; exact he)
  have ik4k12 : (k4 : Int) ≤ (k12 : Int) := by omega
  have nk4k12 : k4 ≤ k12 := by omega
  have ik12k14 : (k12 : Int) ≤ (k14 : Int) := by omega
  have nk12k14 : k12 ≤ k14 := by omega
  have ik4k14 : (k4 : Int) ≤ (k14 : Int) := by omega
  have nk4k14 : k4 ≤ k14 := by omega
  have lk12 : (k12 : Int) ≤ (s.length : Int) := by omega
  have lk14 : (k14 : Int) ≤ (s.length : Int) := by omega
  have HEE := Lib.hid hE
  have g1 : (E == 0) = false := by rw [beq_eq_false_iff_ne]; exact h0
  have g2 : (E != 0) = true := by simp [bne, g1]
  clear h g1 hv hkl htm hs4 hp he hs10 hE h0
  go_enter Try.func44, Try.ntmps44
  go_wp2_with (first
    | (go_at_call 81; clear c0 d0 r0 c1 d1 r1 c2 d2 r2 c3 d3 r3 c4 d4 r4 c5 d5 r5 c6 d6 r6; (with_reducible refine (ref04_fixOk _ s false d kk rfl HX.out HV.out H.out).mono ?_); rintro e_ wn ⟨rfl, h⟩; obtain ⟨gb, hgb⟩ : ∃ b, wn.heap.size = b := ⟨_, rfl⟩; obtain ⟨qb, hqb⟩ : ∃ b, gb + 1 = b := ⟨_, rfl⟩; have h := (h.allocRaw #[.bool false, .string (bb d), .int .i64 kk, .int .i64 0] 128).allocRaw #[.bool false, .string (bb d), .int .i64 0, .int .i64 (-1), .int .i64 (-1), .slice none 0 0, .bool false] 66; simp only [World.size_alloc, hgb, hqb] at h; have y0 := h.p1.rawCell 0; have y1 := h.p1.rawCell 1; have y2 := h.p1.rawCell 2; have y3 := h.p1.rawCell 3; simp at y0 y1 y2 y3; have c0 := h.p2.rawCell 0; have c1 := h.p2.rawCell 1; have c2 := h.p2.rawCell 2; have c3 := h.p2.rawCell 3; have c4 := h.p2.rawCell 4; have c5 := h.p2.rawCell 5; have c6 := h.p2.rawCell 6; simp at c0 c1 c2 c3 c4 c5 c6; have d0 := h.p3.rawCell 0; have r0 := h.p3.rawFree 0; have d1 := h.p3.rawCell 1; have r1 := h.p3.rawFree 1; have d2 := h.p3.rawCell 2; have r2 := h.p3.rawFree 2; have d3 := h.p3.rawCell 3; have r3 := h.p3.rawFree 3; have d4 := h.p3.rawCell 4; have r4 := h.p3.rawFree 4; have d5 := h.p3.rawCell 5; have r5 := h.p3.rawFree 5; have d6 := h.p3.rawCell 6; have r6 := h.p3.rawFree 6; simp at d0 d1 d2 d3 d4 d5 d6; replace H := Lib.hid h; clear h)
    | (go_at_call 76; (with_reducible refine (sr_intT _ ((s.drop kk).take 4) HT4.out tm HTM.out HT48.out H.out).mono ?_); rintro e_ wn ⟨rfl, h⟩; clear c0 d0 r0 c1 d1 r1 c2 d2 r2 c3 d3 r3 c4 d4 r4 c5 d5 r5 c6 d6 r6; have f2 := h.rawFree 2; have q2 := h.rawCell 2; simp at q2; have h := (show St W0 (wn.setCell ⟨qb, 2, none⟩ (.int .i64 tm)) K (.raw qb #[.bool false, .string (bb d), .int .i64 tm, .int .i64 (-1), .int .i64 (-1), .slice none 0 0, .bool false] 66 :: _) from h.rawSet 2 (.int .i64 tm)); have c0 := h.p2.rawCell 0; have c1 := h.p2.rawCell 1; have c2 := h.p2.rawCell 2; have c3 := h.p2.rawCell 3; have c4 := h.p2.rawCell 4; have c5 := h.p2.rawCell 5; have c6 := h.p2.rawCell 6; simp at c0 c1 c2 c3 c4 c5 c6; have d0 := h.p3.rawCell 0; have r0 := h.p3.rawFree 0; have d1 := h.p3.rawCell 1; have r1 := h.p3.rawFree 1; have d2 := h.p3.rawCell 2; have r2 := h.p3.rawFree 2; have d3 := h.p3.rawCell 3; have r3 := h.p3.rawFree 3; have d4 := h.p3.rawCell 4; have r4 := h.p3.rawFree 4; have d5 := h.p3.rawCell 5; have r5 := h.p3.rawFree 5; have d6 := h.p3.rawCell 6; have r6 := h.p3.rawFree 6; simp at d0 d1 d2 d3 d4 d5 d6; replace H := Lib.hid h; clear h)
    | (go_at_call 76; (with_reducible refine (sr_intT _ ((s.drop k4).take 8) HT8.out p HP.out HT88.out H.out).mono ?_); rintro e_ wn ⟨rfl, h⟩; clear c0 d0 r0 c1 d1 r1 c2 d2 r2 c3 d3 r3 c4 d4 r4 c5 d5 r5 c6 d6 r6; have f3 := h.rawFree 3; have q3 := h.rawCell 3; simp at q3; have h := (show St W0 (wn.setCell ⟨qb, 3, none⟩ (.int .i64 p)) K (.raw qb #[.bool false, .string (bb d), .int .i64 tm, .int .i64 p, .int .i64 (-1), .slice none 0 0, .bool false] 66 :: _) from h.rawSet 3 (.int .i64 p)); have c0 := h.p2.rawCell 0; have c1 := h.p2.rawCell 1; have c2 := h.p2.rawCell 2; have c3 := h.p2.rawCell 3; have c4 := h.p2.rawCell 4; have c5 := h.p2.rawCell 5; have c6 := h.p2.rawCell 6; simp at c0 c1 c2 c3 c4 c5 c6; have d0 := h.p3.rawCell 0; have r0 := h.p3.rawFree 0; have d1 := h.p3.rawCell 1; have r1 := h.p3.rawFree 1; have d2 := h.p3.rawCell 2; have r2 := h.p3.rawFree 2; have d3 := h.p3.rawCell 3; have r3 := h.p3.rawFree 3; have d4 := h.p3.rawCell 4; have r4 := h.p3.rawFree 4; have d5 := h.p3.rawCell 5; have r5 := h.p3.rawFree 5; have d6 := h.p3.rawCell 6; have r6 := h.p3.rawFree 6; simp at d0 d1 d2 d3 d4 d5 d6; replace H := Lib.hid h; clear h)
    | (go_at_call 76; (with_reducible refine (sr_intT _ ((s.drop k12).take 2) HT2.out e HE.out HT28.out H.out).mono ?_); rintro e_ wn ⟨rfl, h⟩; clear c0 d0 r0 c1 d1 r1 c2 d2 r2 c3 d3 r3 c4 d4 r4 c5 d5 r5 c6 d6 r6; have f4 := h.rawFree 4; have q4 := h.rawCell 4; simp at q4; have h := (show St W0 (wn.setCell ⟨qb, 4, none⟩ (.int .i64 e)) K (.raw qb #[.bool false, .string (bb d), .int .i64 tm, .int .i64 p, .int .i64 e, .slice none 0 0, .bool false] 66 :: _) from h.rawSet 4 (.int .i64 e)); have x0 := h.rawCell 0; have x1 := h.rawCell 1; have x2 := h.rawCell 2; have x3 := h.rawCell 3; have x4 := h.rawCell 4; have x5 := h.rawCell 5; have x6 := h.rawCell 6; simp at x0 x1 x2 x3 x4 x5 x6; have c0 := h.p2.rawCell 0; have c1 := h.p2.rawCell 1; have c2 := h.p2.rawCell 2; have c3 := h.p2.rawCell 3; have c4 := h.p2.rawCell 4; have c5 := h.p2.rawCell 5; have c6 := h.p2.rawCell 6; simp at c0 c1 c2 c3 c4 c5 c6; have d0 := h.p3.rawCell 0; have r0 := h.p3.rawFree 0; have d1 := h.p3.rawCell 1; have r1 := h.p3.rawFree 1; have d2 := h.p3.rawCell 2; have r2 := h.p3.rawFree 2; have d3 := h.p3.rawCell 3; have r3 := h.p3.rawFree 3; have d4 := h.p3.rawCell 4; have r4 := h.p3.rawFree 4; have d5 := h.p3.rawCell 5; have r5 := h.p3.rawFree 5; have d6 := h.p3.rawCell 6; have r6 := h.p3.rawFree 6; simp at d0 d1 d2 d3 d4 d5 d6; replace H := Lib.hid h; clear h)
    | (go_at_call 40; clear x0 x1 x2 x3 x4 x5 x6; (with_reducible refine (ref18_check22N 1 false d tm p e E HEE.out H.out).mono ?_); rintro e_ wn ⟨rfl, h⟩; clear c0 d0 r0 c1 d1 r1 c2 d2 r2 c3 d3 r3 c4 d4 r4 c5 d5 r5 c6 d6 r6; have x0 := h.rawCell 0; have x1 := h.rawCell 1; have x2 := h.rawCell 2; have x3 := h.rawCell 3; have x4 := h.rawCell 4; have x5 := h.rawCell 5; have x6 := h.rawCell 6; simp at x0 x1 x2 x3 x4 x5 x6; have c0 := h.p2.rawCell 0; have c1 := h.p2.rawCell 1; have c2 := h.p2.rawCell 2; have c3 := h.p2.rawCell 3; have c4 := h.p2.rawCell 4; have c5 := h.p2.rawCell 5; have c6 := h.p2.rawCell 6; simp at c0 c1 c2 c3 c4 c5 c6; have d0 := h.p3.rawCell 0; have r0 := h.p3.rawFree 0; have d1 := h.p3.rawCell 1; have r1 := h.p3.rawFree 1; have d2 := h.p3.rawCell 2; have r2 := h.p3.rawFree 2; have d3 := h.p3.rawCell 3; have r3 := h.p3.rawFree 3; have d4 := h.p3.rawCell 4; have r4 := h.p3.rawFree 4; have d5 := h.p3.rawCell 5; have r5 := h.p3.rawFree 5; have d6 := h.p3.rawCell 6; have r6 := h.p3.rawFree 6; simp at d0 d1 d2 d3 d4 d5 d6; replace H := Lib.hid h; clear h))
  have hz : St W0 _ _ (.raw rb #[.bool false, .string ⟨#[]⟩, .int .i64 0, .int .i64 0, .int .i64 0, .slice none 0 0, .bool false] 66 :: _) := St.sets7 _ _ _ _ _ _ _ (H.out.p3)
  refine bodyPost_ret (rc_cell_tmp3 rfl _ _ rb [.bool false, .string ⟨#[]⟩, .int .i64 0, .int .i64 0, .int .i64 0, .slice none 0 0, .bool false] _ rfl (rc_range hz) Try.underlying66 rfl (by kernel_rfl)) rfl ?_
  exact ⟨rfl, hz.drop.drop.drop.drop⟩

set_option maxHeartbeats 8000000 in
set_option maxRecDepth 100000 in
theorem r18_221_okT (s : Bs) (hsl : s.length ≤ 2000) (kk : Nat) (d : Bs) (hv : refixed 2 s = .ok (⟨true, d⟩, kk)) (hkl : kk ≤ s.length) (hs4 : kk + 4 ≤ s.length) (tm : Int) (htm : sInt ((s.drop kk).take 4) = tm) (hs10 : kk + 4 + 10 ≤ s.length) (p e : Int) (hp : sInt ((s.drop (kk + 4)).take 8) = p) (he : sInt ((s.drop (kk + 4 + 8)).take 2) = e) (hE : begE 1 true d tm p e = 0) {W0 w : World} {K : Know} {L : List Res} (h : St W0 w K L) :
    Calls Try.prog 44 #[.int .i64 22, .int .i64 1, .string (bb s)] w fun en w' => en = .returned (.tuple #[.agg #[.bool true, .string (bb d), .int .i64 tm, .int .i64 p, .int .i64 e, .slice none 0 0, .bool false], .int .i64 ((kk + 4 + 10 : Nat) : Int), .int .i64 0]) ∧ St W0 w' K L := by
  obtain ⟨rb, hrb⟩ : ∃ b, w.heap.size = b := ⟨_, rfl⟩
  obtain ⟨nb, hnb⟩ : ∃ b, rb + 1 = b := ⟨_, rfl⟩
  have g1 := (h.allocRaw #[.bool false, .string ⟨#[]⟩, .int .i64 0, .int .i64 0, .int .i64 0, .slice none 0 0, .bool false] 66).allocRaw #[.bool false, .string ⟨#[]⟩, .int .i64 0, .int .i64 0, .int .i64 0, .slice none 0 0, .bool false] 66
  simp only [World.size_alloc, hrb, hnb] at g1
  have H := Lib.hid g1
  have HX := Lib.hid (show s.length ≤ 140737488355328 by omega)
  have c0 := g1.rawCell 0; have c1 := g1.rawCell 1; have c2 := g1.rawCell 2; have c3 := g1.rawCell 3; have c4 := g1.rawCell 4; have c5 := g1.rawCell 5; have c6 := g1.rawCell 6; simp at c0 c1 c2 c3 c4 c5 c6
  have d0 := g1.p1.rawCell 0; have r0 := g1.p1.rawFree 0; have d1 := g1.p1.rawCell 1; have r1 := g1.p1.rawFree 1; have d2 := g1.p1.rawCell 2; have r2 := g1.p1.rawFree 2; have d3 := g1.p1.rawCell 3; have r3 := g1.p1.rawFree 3; have d4 := g1.p1.rawCell 4; have r4 := g1.p1.rawFree 4; have d5 := g1.p1.rawCell 5; have r5 := g1.p1.rawFree 5; have d6 := g1.p1.rawCell 6; have r6 := g1.p1.rawFree 6; simp at d0 d1 d2 d3 d4 d5 d6
  have HV := Lib.hid hv
  have hki : (kk : Int) ≤ (s.length : Int) := by omega
  have hw0 : IntKind.i64.wrap ((s.length : Int) - (kk : Int)) = (s.length : Int) - (kk : Int) := by rw [IntKind.wrap_i64]; omega
  have hsi : ¬ (s.length : Int) - (kk : Int) < 4 := by omega
  have HTM := Lib.hid htm
  obtain ⟨k4, hk4⟩ : ∃ x, kk + 4 = x := ⟨_, rfl⟩
  have hk4w : IntKind.i64.wrap ((kk : Int) + 4) = (k4 : Int) := by rw [IntKind.wrap_i64]; omega
  have hk4i : (kk : Int) + 4 = (k4 : Int) := by omega
  have HT4 := Lib.hid (show List.take (k4 - kk) (s.drop kk) = (s.drop kk).take 4 by rw [← hk4, Nat.add_sub_cancel_left])
  have HT48 := Lib.hid (show ((s.drop kk).take 4).length ≤ 8 by rw [List.length_take]; omega)
  have hk4l : (k4 : Int) ≤ (s.length : Int) := by omega
  have hkk4 : (kk : Int) ≤ (k4 : Int) := by omega
  have hkk4n : kk ≤ k4 := by omega
  have hwA : IntKind.i64.wrap ((s.length : Int) - (k4 : Int)) = (s.length : Int) - (k4 : Int) := by rw [IntKind.wrap_i64]; omega
  have hsj : ¬ (s.length : Int) - (k4 : Int) < 10 := by omega
  obtain ⟨k12, hk12⟩ : ∃ x, k4 + 8 = x := ⟨_, rfl⟩
  have hk12w : IntKind.i64.wrap ((k4 : Int) + 8) = (k12 : Int) := by rw [IntKind.wrap_i64]; omega
  have hk12i : (k4 : Int) + 8 = (k12 : Int) := by omega
  obtain ⟨k14, hk14⟩ : ∃ x, k4 + 10 = x := ⟨_, rfl⟩
  have hk14w : IntKind.i64.wrap ((k4 : Int) + 10) = (k14 : Int) := by rw [IntKind.wrap_i64]; omega
  have hk14i : (k4 : Int) + 10 = (k14 : Int) := by omega
  have HT8 := Lib.hid (show List.take (k12 - k4) (s.drop k4) = (s.drop k4).take 8 by rw [← hk12, Nat.add_sub_cancel_left])
  have HT88 := Lib.hid (show ((s.drop k4).take 8).length ≤ 8 by rw [List.length_take]; omega)
  have HT2 := Lib.hid (show List.take (k14 - k12) (s.drop k12) = (s.drop k12).take 2 by rw [show k14 - k12 = 2 by omega])
  have HT28 := Lib.hid (show ((s.drop k12).take 2).length ≤ 8 by rw [List.length_take]; omega)
  have HP := Lib.hid (show sInt ((s.drop k4).take 8) = p by rw [← hk4]; exact hp)
  have HE := Lib.hid (show sInt ((s.drop k12).take 2) = e by rw [← hk12, ← hk4]; exact he)
  have ik4k12 : (k4 : Int) ≤ (k12 : Int) := by omega
  have nk4k12 : k4 ≤ k12 := by omega
  have ik12k14 : (k12 : Int) ≤ (k14 : Int) := by omega
  have nk12k14 : k12 ≤ k14 := by omega
  have ik4k14 : (k4 : Int) ≤ (k14 : Int) := by omega
  have nk4k14 : k4 ≤ k14 := by omega
  have lk12 : (k12 : Int) ≤ (s.length : Int) := by omega
  have lk14 : (k14 : Int) ≤ (s.length : Int) := by omega
  have HEE := Lib.hid hE
  have hmany : (kk + 4 + 10 : Nat) = k14 := by omega
  rw [hmany]
  clear h g1 hv hkl htm hs4 hp he hs10 hE
  go_enter Try.func44, Try.ntmps44
  go_wp2_with (first
    | (go_at_call 81; clear c0 d0 r0 c1 d1 r1 c2 d2 r2 c3 d3 r3 c4 d4 r4 c5 d5 r5 c6 d6 r6; (with_reducible refine (ref04_fixOk _ s true d kk rfl HX.out HV.out H.out).mono ?_); rintro e_ wn ⟨rfl, h⟩; obtain ⟨gb, hgb⟩ : ∃ b, wn.heap.size = b := ⟨_, rfl⟩; obtain ⟨qb, hqb⟩ : ∃ b, gb + 1 = b := ⟨_, rfl⟩; have h := (h.allocRaw #[.bool true, .string (bb d), .int .i64 kk, .int .i64 0] 128).allocRaw #[.bool true, .string (bb d), .int .i64 0, .int .i64 (-1), .int .i64 (-1), .slice none 0 0, .bool false] 66; simp only [World.size_alloc, hgb, hqb] at h; have y0 := h.p1.rawCell 0; have y1 := h.p1.rawCell 1; have y2 := h.p1.rawCell 2; have y3 := h.p1.rawCell 3; simp at y0 y1 y2 y3; have c0 := h.p2.rawCell 0; have c1 := h.p2.rawCell 1; have c2 := h.p2.rawCell 2; have c3 := h.p2.rawCell 3; have c4 := h.p2.rawCell 4; have c5 := h.p2.rawCell 5; have c6 := h.p2.rawCell 6; simp at c0 c1 c2 c3 c4 c5 c6; have d0 := h.p3.rawCell 0; have r0 := h.p3.rawFree 0; have d1 := h.p3.rawCell 1; have r1 := h.p3.rawFree 1; have d2 := h.p3.rawCell 2; have r2 := h.p3.rawFree 2; have d3 := h.p3.rawCell 3; have r3 := h.p3.rawFree 3; have d4 := h.p3.rawCell 4; have r4 := h.p3.rawFree 4; have d5 := h.p3.rawCell 5; have r5 := h.p3.rawFree 5; have d6 := h.p3.rawCell 6; have r6 := h.p3.rawFree 6; simp at d0 d1 d2 d3 d4 d5 d6; replace H := Lib.hid h; clear h)
    | (go_at_call 76; (with_reducible refine (sr_intT _ ((s.drop kk).take 4) HT4.out tm HTM.out HT48.out H.out).mono ?_); rintro e_ wn ⟨rfl, h⟩; clear c0 d0 r0 c1 d1 r1 c2 d2 r2 c3 d3 r3 c4 d4 r4 c5 d5 r5 c6 d6 r6; have f2 := h.rawFree 2; have q2 := h.rawCell 2; simp at q2; have h := (show St W0 (wn.setCell ⟨qb, 2, none⟩ (.int .i64 tm)) K (.raw qb #[.bool true, .string (bb d), .int .i64 tm, .int .i64 (-1), .int .i64 (-1), .slice none 0 0, .bool false] 66 :: _) from h.rawSet 2 (.int .i64 tm)); have c0 := h.p2.rawCell 0; have c1 := h.p2.rawCell 1; have c2 := h.p2.rawCell 2; have c3 := h.p2.rawCell 3; have c4 := h.p2.rawCell 4; have c5 := h.p2.rawCell 5; have c6 := h.p2.rawCell 6; simp at c0 c1 c2 c3 c4 c5 c6; have d0 := h.p3.rawCell 0; have r0 := h.p3.rawFree 0; have d1 := h.p3.rawCell 1; have r1 := h.p3.rawFree 1; have d2 := h.p3.rawCell 2; have r2 := h.p3.rawFree 2; have d3 := h.p3.rawCell 3; have r3 := h.p3.rawFree 3; have d4 := h.p3.rawCell 4; have r4 := h.p3.rawFree 4; have d5 := h.p3.rawCell 5; have r5 := h.p3.rawFree 5; have d6 := h.p3.rawCell 6; have r6 := h.p3.rawFree 6; simp at d0 d1 d2 d3 d4 d5 d6; replace H := Lib.hid h; clear h)
    | (go_at_call 76; (with_reducible refine (sr_intT _ ((s.drop k4).take 8) HT8.out p HP.out HT88.out H.out).mono ?_); rintro e_ wn ⟨rfl, h⟩; clear c0 d0 r0 c1 d1 r1 c2 d2 r2 c3 d3 r3 c4 d4 r4 c5 d5 r5 c6 d6 r6; have f3 := h.rawFree 3; have q3 := h.rawCell 3; simp at q3; have h := (show St W0 (wn.setCell ⟨qb, 3, none⟩ (.int .i64 p)) K (.raw qb #[.bool true, .string (bb d), .int .i64 tm, .int .i64 p, .int .i64 (-1), .slice none 0 0, .bool false] 66 :: _) from h.rawSet 3 (.int .i64 p)); have c0 := h.p2.rawCell 0; have c1 := h.p2.rawCell 1; have c2 := h.p2.rawCell 2; have c3 := h.p2.rawCell 3; have c4 := h.p2.rawCell 4; have c5 := h.p2.rawCell 5; have c6 := h.p2.rawCell 6; simp at c0 c1 c2 c3 c4 c5 c6; have d0 := h.p3.rawCell 0; have r0 := h.p3.rawFree 0; have d1 := h.p3.rawCell 1; have r1 := h.p3.rawFree 1; have d2 := h.p3.rawCell 2; have r2 := h.p3.rawFree 2; have d3 := h.p3.rawCell 3; have r3 := h.p3.rawFree 3; have d4 := h.p3.rawCell 4; have r4 := h.p3.rawFree 4; have d5 := h.p3.rawCell 5; have r5 := h.p3.rawFree 5; have d6 := h.p3.rawCell 6; have r6 := h.p3.rawFree 6; simp at d0 d1 d2 d3 d4 d5 d6; replace H := Lib.hid h; clear h)
    | (go_at_call 76; (with_reducible refine (sr_intT _ ((s.drop k12).take 2) HT2.out e HE.out HT28.out H.out).mono ?_); rintro e_ wn ⟨rfl, h⟩; clear c0 d0 r0 c1 d1 r1 c2 d2 r2 c3 d3 r3 c4 d4 r4 c5 d5 r5 c6 d6 r6; have f4 := h.rawFree 4; have q4 := h.rawCell 4; simp at q4; have h := (show St W0 (wn.setCell ⟨qb, 4, none⟩ (.int .i64 e)) K (.raw qb #[.bool true, .string (bb d), .int .i64 tm, .int .i64 p, .int .i64 e, .slice none 0 0, .bool false] 66 :: _) from h.rawSet 4 (.int .i64 e)); have x0 := h.rawCell 0; have x1 := h.rawCell 1; have x2 := h.rawCell 2; have x3 := h.rawCell 3; have x4 := h.rawCell 4; have x5 := h.rawCell 5; have x6 := h.rawCell 6; simp at x0 x1 x2 x3 x4 x5 x6; have c0 := h.p2.rawCell 0; have c1 := h.p2.rawCell 1; have c2 := h.p2.rawCell 2; have c3 := h.p2.rawCell 3; have c4 := h.p2.rawCell 4; have c5 := h.p2.rawCell 5; have c6 := h.p2.rawCell 6; simp at c0 c1 c2 c3 c4 c5 c6; have d0 := h.p3.rawCell 0; have r0 := h.p3.rawFree 0; have d1 := h.p3.rawCell 1; have r1 := h.p3.rawFree 1; have d2 := h.p3.rawCell 2; have r2 := h.p3.rawFree 2; have d3 := h.p3.rawCell 3; have r3 := h.p3.rawFree 3; have d4 := h.p3.rawCell 4; have r4 := h.p3.rawFree 4; have d5 := h.p3.rawCell 5; have r5 := h.p3.rawFree 5; have d6 := h.p3.rawCell 6; have r6 := h.p3.rawFree 6; simp at d0 d1 d2 d3 d4 d5 d6; replace H := Lib.hid h; clear h)
    | (go_at_call 40; clear x0 x1 x2 x3 x4 x5 x6; (with_reducible refine (ref18_check22N 1 true d tm p e 0 HEE.out H.out).mono ?_); rintro e_ wn ⟨rfl, h⟩; clear c0 d0 r0 c1 d1 r1 c2 d2 r2 c3 d3 r3 c4 d4 r4 c5 d5 r5 c6 d6 r6; have x0 := h.rawCell 0; have x1 := h.rawCell 1; have x2 := h.rawCell 2; have x3 := h.rawCell 3; have x4 := h.rawCell 4; have x5 := h.rawCell 5; have x6 := h.rawCell 6; simp at x0 x1 x2 x3 x4 x5 x6; have c0 := h.p2.rawCell 0; have c1 := h.p2.rawCell 1; have c2 := h.p2.rawCell 2; have c3 := h.p2.rawCell 3; have c4 := h.p2.rawCell 4; have c5 := h.p2.rawCell 5; have c6 := h.p2.rawCell 6; simp at c0 c1 c2 c3 c4 c5 c6; have d0 := h.p3.rawCell 0; have r0 := h.p3.rawFree 0; have d1 := h.p3.rawCell 1; have r1 := h.p3.rawFree 1; have d2 := h.p3.rawCell 2; have r2 := h.p3.rawFree 2; have d3 := h.p3.rawCell 3; have r3 := h.p3.rawFree 3; have d4 := h.p3.rawCell 4; have r4 := h.p3.rawFree 4; have d5 := h.p3.rawCell 5; have r5 := h.p3.rawFree 5; have d6 := h.p3.rawCell 6; have r6 := h.p3.rawFree 6; simp at d0 d1 d2 d3 d4 d5 d6; replace H := Lib.hid h; clear h))
  have hz : St W0 _ _ (.raw rb #[.bool true, .string (bb d), .int .i64 tm, .int .i64 p, .int .i64 e, .slice none 0 0, .bool false] 66 :: _) := St.sets7 _ _ _ _ _ _ _ (H.out.p3)
  refine bodyPost_ret (rc_cell_tmp3 rfl _ _ rb [.bool true, .string (bb d), .int .i64 tm, .int .i64 p, .int .i64 e, .slice none 0 0, .bool false] _ rfl (rc_range hz) Try.underlying66 rfl (by kernel_rfl)) rfl ?_
  exact ⟨rfl, hz.drop.drop.drop.drop⟩

set_option maxHeartbeats 8000000 in
set_option maxRecDepth 100000 in
theorem r18_221_okF (s : Bs) (hsl : s.length ≤ 2000) (kk : Nat) (d : Bs) (hv : refixed 2 s = .ok (⟨false, d⟩, kk)) (hkl : kk ≤ s.length) (hs4 : kk + 4 ≤ s.length) (tm : Int) (htm : sInt ((s.drop kk).take 4) = tm) (hs10 : kk + 4 + 10 ≤ s.length) (p e : Int) (hp : sInt ((s.drop (kk + 4)).take 8) = p) (he : sInt ((s.drop (kk + 4 + 8)).take 2) = e) (hE : begE 1 false d tm p e = 0) {W0 w : World} {K : Know} {L : List Res} (h : St W0 w K L) :
    Calls Try.prog 44 #[.int .i64 22, .int .i64 1, .string (bb s)] w fun en w' => en = .returned (.tuple #[.agg #[.bool false, .string (bb d), .int .i64 tm, .int .i64 p, .int .i64 e, .slice none 0 0, .bool false], .int .i64 ((kk + 4 + 10 : Nat) : Int), .int .i64 0]) ∧ St W0 w' K L := by
  obtain ⟨rb, hrb⟩ : ∃ b, w.heap.size = b := ⟨_, rfl⟩
  obtain ⟨nb, hnb⟩ : ∃ b, rb + 1 = b := ⟨_, rfl⟩
  have g1 := (h.allocRaw #[.bool false, .string ⟨#[]⟩, .int .i64 0, .int .i64 0, .int .i64 0, .slice none 0 0, .bool false] 66).allocRaw #[.bool false, .string ⟨#[]⟩, .int .i64 0, .int .i64 0, .int .i64 0, .slice none 0 0, .bool false] 66
  simp only [World.size_alloc, hrb, hnb] at g1
  have H := Lib.hid g1
  have HX := Lib.hid (show s.length ≤ 140737488355328 by omega)
  have c0 := g1.rawCell 0; have c1 := g1.rawCell 1; have c2 := g1.rawCell 2; have c3 := g1.rawCell 3; have c4 := g1.rawCell 4; have c5 := g1.rawCell 5; have c6 := g1.rawCell 6; simp at c0 c1 c2 c3 c4 c5 c6
  have d0 := g1.p1.rawCell 0; have r0 := g1.p1.rawFree 0; have d1 := g1.p1.rawCell 1; have r1 := g1.p1.rawFree 1; have d2 := g1.p1.rawCell 2; have r2 := g1.p1.rawFree 2; have d3 := g1.p1.rawCell 3; have r3 := g1.p1.rawFree 3; have d4 := g1.p1.rawCell 4; have r4 := g1.p1.rawFree 4; have d5 := g1.p1.rawCell 5; have r5 := g1.p1.rawFree 5; have d6 := g1.p1.rawCell 6; have r6 := g1.p1.rawFree 6; simp at d0 d1 d2 d3 d4 d5 d6
  have HV := Lib.hid hv
  have hki : (kk : Int) ≤ (s.length : Int) := by omega
  have hw0 : IntKind.i64.wrap ((s.length : Int) - (kk : Int)) = (s.length : Int) - (kk : Int) := by rw [IntKind.wrap_i64]; omega
  have hsi : ¬ (s.length : Int) - (kk : Int) < 4 := by omega
  have HTM := Lib.hid htm
  obtain ⟨k4, hk4⟩ : ∃ x, kk + 4 = x := ⟨_, rfl⟩
  have hk4w : IntKind.i64.wrap ((kk : Int) + 4) = (k4 : Int) := by rw [IntKind.wrap_i64]; omega
  have hk4i : (kk : Int) + 4 = (k4 : Int) := by omega
  have HT4 := Lib.hid (show List.take (k4 - kk) (s.drop kk) = (s.drop kk).take 4 by rw [← hk4, Nat.add_sub_cancel_left])
  have HT48 := Lib.hid (show ((s.drop kk).take 4).length ≤ 8 by rw [List.length_take]; omega)
  have hk4l : (k4 : Int) ≤ (s.length : Int) := by omega
  have hkk4 : (kk : Int) ≤ (k4 : Int) := by omega
  have hkk4n : kk ≤ k4 := by omega
  have hwA : IntKind.i64.wrap ((s.length : Int) - (k4 : Int)) = (s.length : Int) - (k4 : Int) := by rw [IntKind.wrap_i64]; omega
  have hsj : ¬ (s.length : Int) - (k4 : Int) < 10 := by omega
  obtain ⟨k12, hk12⟩ : ∃ x, k4 + 8 = x := ⟨_, rfl⟩
  have hk12w : IntKind.i64.wrap ((k4 : Int) + 8) = (k12 : Int) := by rw [IntKind.wrap_i64]; omega
  have hk12i : (k4 : Int) + 8 = (k12 : Int) := by omega
  obtain ⟨k14, hk14⟩ : ∃ x, k4 + 10 = x := ⟨_, rfl⟩
  have hk14w : IntKind.i64.wrap ((k4 : Int) + 10) = (k14 : Int) := by rw [IntKind.wrap_i64]; omega
  have hk14i : (k4 : Int) + 10 = (k14 : Int) := by omega
  have HT8 := Lib.hid (show List.take (k12 - k4) (s.drop k4) = (s.drop k4).take 8 by rw [← hk12, Nat.add_sub_cancel_left])
  have HT88 := Lib.hid (show ((s.drop k4).take 8).length ≤ 8 by rw [List.length_take]; omega)
  have HT2 := Lib.hid (show List.take (k14 - k12) (s.drop k12) = (s.drop k12).take 2 by rw [show k14 - k12 = 2 by omega])
  have HT28 := Lib.hid (show ((s.drop k12).take 2).length ≤ 8 by rw [List.length_take]; omega)
  have HP := Lib.hid (show sInt ((s.drop k4).take 8) = p by rw [← hk4]; exact hp)
  have HE := Lib.hid (show sInt ((s.drop k12).take 2) = e by rw [← hk12, ← hk4]; exact he)
  have ik4k12 : (k4 : Int) ≤ (k12 : Int) := by omega
  have nk4k12 : k4 ≤ k12 := by omega
  have ik12k14 : (k12 : Int) ≤ (k14 : Int) := by omega
  have nk12k14 : k12 ≤ k14 := by omega
  have ik4k14 : (k4 : Int) ≤ (k14 : Int) := by omega
  have nk4k14 : k4 ≤ k14 := by omega
  have lk12 : (k12 : Int) ≤ (s.length : Int) := by omega
  have lk14 : (k14 : Int) ≤ (s.length : Int) := by omega
  have HEE := Lib.hid hE
  have hmany : (kk + 4 + 10 : Nat) = k14 := by omega
  rw [hmany]
  clear h g1 hv hkl htm hs4 hp he hs10 hE
  go_enter Try.func44, Try.ntmps44
  go_wp2_with (first
    | (go_at_call 81; clear c0 d0 r0 c1 d1 r1 c2 d2 r2 c3 d3 r3 c4 d4 r4 c5 d5 r5 c6 d6 r6; (with_reducible refine (ref04_fixOk _ s false d kk rfl HX.out HV.out H.out).mono ?_); rintro e_ wn ⟨rfl, h⟩; obtain ⟨gb, hgb⟩ : ∃ b, wn.heap.size = b := ⟨_, rfl⟩; obtain ⟨qb, hqb⟩ : ∃ b, gb + 1 = b := ⟨_, rfl⟩; have h := (h.allocRaw #[.bool false, .string (bb d), .int .i64 kk, .int .i64 0] 128).allocRaw #[.bool false, .string (bb d), .int .i64 0, .int .i64 (-1), .int .i64 (-1), .slice none 0 0, .bool false] 66; simp only [World.size_alloc, hgb, hqb] at h; have y0 := h.p1.rawCell 0; have y1 := h.p1.rawCell 1; have y2 := h.p1.rawCell 2; have y3 := h.p1.rawCell 3; simp at y0 y1 y2 y3; have c0 := h.p2.rawCell 0; have c1 := h.p2.rawCell 1; have c2 := h.p2.rawCell 2; have c3 := h.p2.rawCell 3; have c4 := h.p2.rawCell 4; have c5 := h.p2.rawCell 5; have c6 := h.p2.rawCell 6; simp at c0 c1 c2 c3 c4 c5 c6; have d0 := h.p3.rawCell 0; have r0 := h.p3.rawFree 0; have d1 := h.p3.rawCell 1; have r1 := h.p3.rawFree 1; have d2 := h.p3.rawCell 2; have r2 := h.p3.rawFree 2; have d3 := h.p3.rawCell 3; have r3 := h.p3.rawFree 3; have d4 := h.p3.rawCell 4; have r4 := h.p3.rawFree 4; have d5 := h.p3.rawCell 5; have r5 := h.p3.rawFree 5; have d6 := h.p3.rawCell 6; have r6 := h.p3.rawFree 6; simp at d0 d1 d2 d3 d4 d5 d6; replace H := Lib.hid h; clear h)
    | (go_at_call 76; (with_reducible refine (sr_intT _ ((s.drop kk).take 4) HT4.out tm HTM.out HT48.out H.out).mono ?_); rintro e_ wn ⟨rfl, h⟩; clear c0 d0 r0 c1 d1 r1 c2 d2 r2 c3 d3 r3 c4 d4 r4 c5 d5 r5 c6 d6 r6; have f2 := h.rawFree 2; have q2 := h.rawCell 2; simp at q2; have h := (show St W0 (wn.setCell ⟨qb, 2, none⟩ (.int .i64 tm)) K (.raw qb #[.bool false, .string (bb d), .int .i64 tm, .int .i64 (-1), .int .i64 (-1), .slice none 0 0, .bool false] 66 :: _) from h.rawSet 2 (.int .i64 tm)); have c0 := h.p2.rawCell 0; have c1 := h.p2.rawCell 1; have c2 := h.p2.rawCell 2; have c3 := h.p2.rawCell 3; have c4 := h.p2.rawCell 4; have c5 := h.p2.rawCell 5; have c6 := h.p2.rawCell 6; simp at c0 c1 c2 c3 c4 c5 c6; have d0 := h.p3.rawCell 0; have r0 := h.p3.rawFree 0; have d1 := h.p3.rawCell 1; have r1 := h.p3.rawFree 1; have d2 := h.p3.rawCell 2; have r2 := h.p3.rawFree 2; have d3 := h.p3.rawCell 3; have r3 := h.p3.rawFree 3; have d4 := h.p3.rawCell 4; have r4 := h.p3.rawFree 4; have d5 := h.p3.rawCell 5; have r5 := h.p3.rawFree 5; have d6 := h.p3.rawCell 6; have r6 := h.p3.rawFree 6; simp at d0 d1 d2 d3 d4 d5 d6; replace H := Lib.hid h; clear h)
    | (go_at_call 76; (with_reducible refine (sr_intT _ ((s.drop k4).take 8) HT8.out p HP.out HT88.out H.out).mono ?_); rintro e_ wn ⟨rfl, h⟩; clear c0 d0 r0 c1 d1 r1 c2 d2 r2 c3 d3 r3 c4 d4 r4 c5 d5 r5 c6 d6 r6; have f3 := h.rawFree 3; have q3 := h.rawCell 3; simp at q3; have h := (show St W0 (wn.setCell ⟨qb, 3, none⟩ (.int .i64 p)) K (.raw qb #[.bool false, .string (bb d), .int .i64 tm, .int .i64 p, .int .i64 (-1), .slice none 0 0, .bool false] 66 :: _) from h.rawSet 3 (.int .i64 p)); have c0 := h.p2.rawCell 0; have c1 := h.p2.rawCell 1; have c2 := h.p2.rawCell 2; have c3 := h.p2.rawCell 3; have c4 := h.p2.rawCell 4; have c5 := h.p2.rawCell 5; have c6 := h.p2.rawCell 6; simp at c0 c1 c2 c3 c4 c5 c6; have d0 := h.p3.rawCell 0; have r0 := h.p3.rawFree 0; have d1 := h.p3.rawCell 1; have r1 := h.p3.rawFree 1; have d2 := h.p3.rawCell 2; have r2 := h.p3.rawFree 2; have d3 := h.p3.rawCell 3; have r3 := h.p3.rawFree 3; have d4 := h.p3.rawCell 4; have r4 := h.p3.rawFree 4; have d5 := h.p3.rawCell 5; have r5 := h.p3.rawFree 5; have d6 := h.p3.rawCell 6; have r6 := h.p3.rawFree 6; simp at d0 d1 d2 d3 d4 d5 d6; replace H := Lib.hid h; clear h)
    | (go_at_call 76; (with_reducible refine (sr_intT _ ((s.drop k12).take 2) HT2.out e HE.out HT28.out H.out).mono ?_); rintro e_ wn ⟨rfl, h⟩; clear c0 d0 r0 c1 d1 r1 c2 d2 r2 c3 d3 r3 c4 d4 r4 c5 d5 r5 c6 d6 r6; have f4 := h.rawFree 4; have q4 := h.rawCell 4; simp at q4; have h := (show St W0 (wn.setCell ⟨qb, 4, none⟩ (.int .i64 e)) K (.raw qb #[.bool false, .string (bb d), .int .i64 tm, .int .i64 p, .int .i64 e, .slice none 0 0, .bool false] 66 :: _) from h.rawSet 4 (.int .i64 e)); have x0 := h.rawCell 0; have x1 := h.rawCell 1; have x2 := h.rawCell 2; have x3 := h.rawCell 3; have x4 := h.rawCell 4; have x5 := h.rawCell 5; have x6 := h.rawCell 6; simp at x0 x1 x2 x3 x4 x5 x6; have c0 := h.p2.rawCell 0; have c1 := h.p2.rawCell 1; have c2 := h.p2.rawCell 2; have c3 := h.p2.rawCell 3; have c4 := h.p2.rawCell 4; have c5 := h.p2.rawCell 5; have c6 := h.p2.rawCell 6; simp at c0 c1 c2 c3 c4 c5 c6; have d0 := h.p3.rawCell 0; have r0 := h.p3.rawFree 0; have d1 := h.p3.rawCell 1; have r1 := h.p3.rawFree 1; have d2 := h.p3.rawCell 2; have r2 := h.p3.rawFree 2; have d3 := h.p3.rawCell 3; have r3 := h.p3.rawFree 3; have d4 := h.p3.rawCell 4; have r4 := h.p3.rawFree 4; have d5 := h.p3.rawCell 5; have r5 := h.p3.rawFree 5; have d6 := h.p3.rawCell 6; have r6 := h.p3.rawFree 6; simp at d0 d1 d2 d3 d4 d5 d6; replace H := Lib.hid h; clear h)
    | (go_at_call 40; clear x0 x1 x2 x3 x4 x5 x6; (with_reducible refine (ref18_check22N 1 false d tm p e 0 HEE.out H.out).mono ?_); rintro e_ wn ⟨rfl, h⟩; clear c0 d0 r0 c1 d1 r1 c2 d2 r2 c3 d3 r3 c4 d4 r4 c5 d5 r5 c6 d6 r6; have x0 := h.rawCell 0; have x1 := h.rawCell 1; have x2 := h.rawCell 2; have x3 := h.rawCell 3; have x4 := h.rawCell 4; have x5 := h.rawCell 5; have x6 := h.rawCell 6; simp at x0 x1 x2 x3 x4 x5 x6; have c0 := h.p2.rawCell 0; have c1 := h.p2.rawCell 1; have c2 := h.p2.rawCell 2; have c3 := h.p2.rawCell 3; have c4 := h.p2.rawCell 4; have c5 := h.p2.rawCell 5; have c6 := h.p2.rawCell 6; simp at c0 c1 c2 c3 c4 c5 c6; have d0 := h.p3.rawCell 0; have r0 := h.p3.rawFree 0; have d1 := h.p3.rawCell 1; have r1 := h.p3.rawFree 1; have d2 := h.p3.rawCell 2; have r2 := h.p3.rawFree 2; have d3 := h.p3.rawCell 3; have r3 := h.p3.rawFree 3; have d4 := h.p3.rawCell 4; have r4 := h.p3.rawFree 4; have d5 := h.p3.rawCell 5; have r5 := h.p3.rawFree 5; have d6 := h.p3.rawCell 6; have r6 := h.p3.rawFree 6; simp at d0 d1 d2 d3 d4 d5 d6; replace H := Lib.hid h; clear h))
  have hz : St W0 _ _ (.raw rb #[.bool false, .string (bb d), .int .i64 tm, .int .i64 p, .int .i64 e, .slice none 0 0, .bool false] 66 :: _) := St.sets7 _ _ _ _ _ _ _ (H.out.p3)
  refine bodyPost_ret (rc_cell_tmp3 rfl _ _ rb [.bool false, .string (bb d), .int .i64 tm, .int .i64 p, .int .i64 e, .slice none 0 0, .bool false] _ rfl (rc_range hz) Try.underlying66 rfl (by kernel_rfl)) rfl ?_
  exact ⟨rfl, hz.drop.drop.drop.drop⟩

end Go.Proofs.Ytombolmicfjjpaa
