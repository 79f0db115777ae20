/- Add, read by definition. -/
import Derived.Test.YtombolmicfjjpaaGTxnReads10
import Derived.RegionTactic
import Derived.Deep.RegionHeld3
import Derived.Deep.DeepCutAuto
/- Add, read by definition. -/
namespace Go.Proofs.Ytombolmicfjjpaa
open Go.RowKit

set_option maxHeartbeats 8000000 in
set_option maxRecDepth 100000 in
theorem r18_24_err (v : Int) (s : Bs) (hsl : s.length ≤ 2000) (ef : Int) (hv : refixed 2 s = .error ef) (h0 : ef ≠ 0) {W0 w : World} {K : Know} {L : List Res} (h : St W0 w K L) :
    Calls Try.prog 44 #[.int .i64 24, .int .i64 v, .string (bb s)] w fun en w' => en = .returned (.tuple #[.agg #[.bool false, .string ⟨#[]⟩, .int .i64 0, .int .i64 0, .int .i64 0, .slice none 0 0, .bool false], .int .i64 0, .int .i64 ef]) ∧ St W0 w' K L := by
  obtain ⟨rb, hrb⟩ : ∃ b, w.heap.size = b := ⟨_, rfl⟩
  obtain ⟨nb, hnb⟩ : ∃ b, rb + 1 = b := ⟨_, rfl⟩
  have g1 := (h.allocRaw #[.bool false, .string ⟨#[]⟩, .int .i64 0, .int .i64 0, .int .i64 0, .slice none 0 0, .bool false] 66).allocRaw #[.bool false, .string ⟨#[]⟩, .int .i64 0, .int .i64 0, .int .i64 0, .slice none 0 0, .bool false] 66
  simp only [World.size_alloc, hrb, hnb] at g1
  have H := Lib.hid g1
  have HX := Lib.hid (show s.length ≤ 140737488355328 by omega)
  have c0 := g1.rawCell 0; have c1 := g1.rawCell 1; have c2 := g1.rawCell 2; have c3 := g1.rawCell 3; have c4 := g1.rawCell 4; have c5 := g1.rawCell 5; have c6 := g1.rawCell 6; simp at c0 c1 c2 c3 c4 c5 c6
  have d0 := g1.p1.rawCell 0; have r0 := g1.p1.rawFree 0; have d1 := g1.p1.rawCell 1; have r1 := g1.p1.rawFree 1; have d2 := g1.p1.rawCell 2; have r2 := g1.p1.rawFree 2; have d3 := g1.p1.rawCell 3; have r3 := g1.p1.rawFree 3; have d4 := g1.p1.rawCell 4; have r4 := g1.p1.rawFree 4; have d5 := g1.p1.rawCell 5; have r5 := g1.p1.rawFree 5; have d6 := g1.p1.rawCell 6; have r6 := g1.p1.rawFree 6; simp at d0 d1 d2 d3 d4 d5 d6
  have HV := Lib.hid hv
  have g1 : (ef == 0) = false := by rw [beq_eq_false_iff_ne]; exact h0
  have g2 : (ef != 0) = true := by simp [bne, g1]
  clear h g1 hv h0
  go_enter Try.func44, Try.ntmps44
  go_wp2_with (go_at_call 81; clear c0 d0 r0 c1 d1 r1 c2 d2 r2 c3 d3 r3 c4 d4 r4 c5 d5 r5 c6 d6 r6; (with_reducible refine (ref04_fixErr _ s ef rfl HX.out HV.out H.out).mono ?_); rintro e_ wn ⟨rfl, h⟩; obtain ⟨gb, hgb⟩ : ∃ b, wn.heap.size = b := ⟨_, rfl⟩; have h := h.allocRaw #[.bool false, .string ⟨#[]⟩, .int .i64 0, .int .i64 ef] 128; rw [hgb] at h; have c0 := h.p1.rawCell 0; have c1 := h.p1.rawCell 1; have c2 := h.p1.rawCell 2; have c3 := h.p1.rawCell 3; have c4 := h.p1.rawCell 4; have c5 := h.p1.rawCell 5; have c6 := h.p1.rawCell 6; simp at c0 c1 c2 c3 c4 c5 c6; have d0 := h.p2.rawCell 0; have r0 := h.p2.rawFree 0; have d1 := h.p2.rawCell 1; have r1 := h.p2.rawFree 1; have d2 := h.p2.rawCell 2; have r2 := h.p2.rawFree 2; have d3 := h.p2.rawCell 3; have r3 := h.p2.rawFree 3; have d4 := h.p2.rawCell 4; have r4 := h.p2.rawFree 4; have d5 := h.p2.rawCell 5; have r5 := h.p2.rawFree 5; have d6 := h.p2.rawCell 6; have r6 := h.p2.rawFree 6; simp at d0 d1 d2 d3 d4 d5 d6; replace H := Lib.hid h; clear h)
  clear c0 d0 r0 c1 d1 r1 c2 d2 r2 c3 d3 r3 c4 d4 r4 c5 d5 r5 c6 d6 r6
  have hs := H.out.drew
  have HKQ := Lib.hid (show ∀ w', St W0 w' K (.raw gb #[.bool false, .string ⟨#[]⟩, .int .i64 0, .int .i64 ef] 128 :: .raw nb #[.bool false, .string ⟨#[]⟩, .int .i64 0, .int .i64 0, .int .i64 0, .slice none 0 0, .bool false] 66 :: .raw rb #[.bool false, .string ⟨#[]⟩, .int .i64 0, .int .i64 0, .int .i64 0, .slice none 0 0, .bool false] 66 :: L) → (w'.cell? ⟨nb, 0, none⟩ = some (.bool false) ∧ w'.cell? ⟨nb, 1, none⟩ = some (.string ⟨#[]⟩) ∧ w'.cell? ⟨nb, 2, none⟩ = some (.int .i64 0) ∧ w'.cell? ⟨nb, 3, none⟩ = some (.int .i64 0) ∧ w'.cell? ⟨nb, 4, none⟩ = some (.int .i64 0) ∧ w'.cell? ⟨nb, 5, none⟩ = some (.slice none 0 0) ∧ w'.cell? ⟨nb, 6, none⟩ = some (.bool false) ∧ w'.cell? ⟨gb, 3, none⟩ = some (.int .i64 ef)) from fun w' hs => ⟨hs.p1.rawCell 0, hs.p1.rawCell 1, hs.p1.rawCell 2, hs.p1.rawCell 3, hs.p1.rawCell 4, hs.p1.rawCell 5, hs.p1.rawCell 6, hs.rawCell 3⟩)
  refine wp_region_held_drew (S := fun w' => w'.cell? ⟨nb, 0, none⟩ = some (.bool false) ∧ w'.cell? ⟨nb, 1, none⟩ = some (.string ⟨#[]⟩) ∧ w'.cell? ⟨nb, 2, none⟩ = some (.int .i64 0) ∧ w'.cell? ⟨nb, 3, none⟩ = some (.int .i64 0) ∧ w'.cell? ⟨nb, 4, none⟩ = some (.int .i64 0) ∧ w'.cell? ⟨nb, 5, none⟩ = some (.slice none 0 0) ∧ w'.cell? ⟨nb, 6, none⟩ = some (.bool false) ∧ w'.cell? ⟨gb, 3, none⟩ = some (.int .i64 ef)) (by kernel_rfl) (HKQ.out _ hs) (fun hHeld => ?_)
  refine wpAnyH_take (i := 0) (oi := { dst := some 23, op := Op.load 66 (Operand.tmp 9), type := 66, pos := "ref.go:81", after := #[], guard := none }) (v := ?_) rfl (by kernel_rfl) (by kernel_rfl) (by kernel_rfl) (fun _ _ _ h => h) (Or.inl ⟨by rfl, ?_⟩) (by assumption) ?_
  rotate_left
  · intro w hSw; (try dsimp only at hSw); go_simp; try with_reducible rfl
  simp only [Act.put, List.setIfInBounds_toArray, List.set_cons_zero, List.set_cons_succ]
  refine wpAnyH_take (i := 1) (oi := { dst := some 24, op := Op.fieldAddr 128 (Operand.tmp 10) 2, type := 0, pos := "ref.go:81", after := #[{ on := 4, ground := Ground.gcOnly Departure.lateStores }], guard := none }) (v := ?_) rfl (by kernel_rfl) (by kernel_rfl) (by kernel_rfl) (fun _ _ _ h => h) (Or.inl ⟨by rfl, ?_⟩) (by assumption) ?_
  rotate_left
  · intro w hSw; (try dsimp only at hSw); go_simp; try with_reducible rfl
  simp only [Act.put, List.setIfInBounds_toArray, List.set_cons_zero, List.set_cons_succ]
  refine wpAnyH_take (i := 2) (oi := { dst := some 25, op := Op.load 3 (Operand.tmp 24), type := 3, pos := "ref.go:81", after := #[{ on := 1, ground := Ground.data }, { on := 4, ground := Ground.gcOnly Departure.lateStores }], guard := none }) (v := ?_) rfl (by kernel_rfl) (by kernel_rfl) (by kernel_rfl) (fun _ _ _ h => h) (Or.inl ⟨by rfl, ?_⟩) (by assumption) ?_
  rotate_left
  · intro w hSw; (try dsimp only at hSw); go_simp; try with_reducible rfl
  simp only [Act.put, List.setIfInBounds_toArray, List.set_cons_zero, List.set_cons_succ]
  refine wpAnyH_ready (rs := [3]) (by kernel_rfl) (by simp) (AllReadyH.cons (o := { dst := none, op := Op.store 66 (Operand.tmp 6) (Operand.tmp 23), type := 0, pos := "ref.go:81", after := #[{ on := 0, ground := Ground.data }, { on := 0, ground := Ground.phase }, { on := 1, ground := Ground.textOnly Departure.lateStores }, { on := 2, ground := Ground.textOnly Departure.lateStores }], guard := none }) rfl (fun KK hK => ?_) AllReadyH.nil)
  · have hs := hs.p2
    rw [if_pos (by rfl)]
    refine wp_store_mid 66 (.tmp 6) (.tmp 23) rfl rb 0 #[.bool false, .string ⟨#[]⟩, .int .i64 0, .int .i64 0, .int .i64 0, .slice none 0 0, .bool false] (by rfl) (by rfl) hs.there (by kernel_rfl) (by simp [Value.oneCell']) ?_
    obtain ⟨wz, ez, hs⟩ := hs.storeEx #[.bool false, .string ⟨#[]⟩, .int .i64 0, .int .i64 0, .int .i64 0, .slice none 0 0, .bool false]
    rw [ez]
    clear ez
    rw [setAll_allV] at hs
    rotate_left
    · rfl
    have hs := hs.p2.p2
    refine hK.out _ _ (HKQ.out _ hs) (fun hHeld => ?_)
    clear hK KK
    try simp only [Act.put, List.setIfInBounds_toArray, List.set_cons_zero, List.set_cons_succ]
    refine wpAnyH_take (i := 4) (oi := { dst := some 7, op := Op.assign (Operand.const (Value.int IntKind.i64 0)), type := 3, pos := "ref.go:81", after := #[{ on := 3, ground := Ground.chain }, { on := 0, ground := Ground.phase }, { on := 1, ground := Ground.textOnly Departure.lateStores }, { on := 2, ground := Ground.textOnly Departure.lateStores }, { on := 3, ground := Ground.phase }], guard := none }) (v := ?_) rfl (by kernel_rfl) (by kernel_rfl) (by kernel_rfl) (fun _ _ _ h => h) (Or.inl ⟨by rfl, ?_⟩) (by assumption) ?_
    rotate_left
    · intro w hSw; (try dsimp only at hSw); go_simp; try with_reducible rfl
    simp only [Act.put, List.setIfInBounds_toArray, List.set_cons_zero, List.set_cons_succ]
    refine wpAnyH_take (i := 5) (oi := { dst := some 8, op := Op.assign (Operand.tmp 25), type := 3, pos := "ref.go:81", after := #[{ on := 2, ground := Ground.data }, { on := 4, ground := Ground.chain }, { on := 0, ground := Ground.phase }, { on := 1, ground := Ground.phase }, { on := 2, ground := Ground.phase }, { on := 3, ground := Ground.phase }, { on := 4, ground := Ground.phase }], guard := none }) (v := ?_) rfl (by kernel_rfl) (by kernel_rfl) (by kernel_rfl) (fun _ _ _ h => h) (Or.inl ⟨by rfl, ?_⟩) (by assumption) ?_
    rotate_left
    · intro w hSw; (try dsimp only at hSw); go_simp; try with_reducible rfl
    simp only [Act.put, List.setIfInBounds_toArray, List.set_cons_zero, List.set_cons_succ]
    refine wpAnyH_done (by kernel_rfl) ?_ _
    clear hHeld
    have hz := hs.p2
    go_wp2_with fail
    refine bodyPost_ret (rc_cell_tmp3 rfl _ _ rb [.bool false, .string ⟨#[]⟩, .int .i64 0, .int .i64 0, .int .i64 0, .slice none 0 0, .bool false] _ rfl (rc_range hz) Try.underlying66 rfl (by kernel_rfl)) rfl ?_
    exact ⟨rfl, hz.drop.drop.drop⟩

set_option maxHeartbeats 8000000 in
set_option maxRecDepth 100000 in
theorem r18_24_null (v : Int) (s : Bs) (hsl : s.length ≤ 2000) (kk : Nat) (d : Bs) (hv : refixed 2 s = .ok (⟨true, d⟩, kk)) (hkl : kk ≤ s.length) {W0 w : World} {K : Know} {L : List Res} (h : St W0 w K L) :
    Calls Try.prog 44 #[.int .i64 24, .int .i64 v, .string (bb s)] w fun en w' => en = .returned (.tuple #[.agg #[.bool false, .string ⟨#[]⟩, .int .i64 0, .int .i64 0, .int .i64 0, .slice none 0 0, .bool false], .int .i64 0, .int .i64 4]) ∧ St W0 w' K L := by
  obtain ⟨rb, hrb⟩ : ∃ b, w.heap.size = b := ⟨_, rfl⟩
  obtain ⟨nb, hnb⟩ : ∃ b, rb + 1 = b := ⟨_, rfl⟩
  have g1 := (h.allocRaw #[.bool false, .string ⟨#[]⟩, .int .i64 0, .int .i64 0, .int .i64 0, .slice none 0 0, .bool false] 66).allocRaw #[.bool false, .string ⟨#[]⟩, .int .i64 0, .int .i64 0, .int .i64 0, .slice none 0 0, .bool false] 66
  simp only [World.size_alloc, hrb, hnb] at g1
  have H := Lib.hid g1
  have HX := Lib.hid (show s.length ≤ 140737488355328 by omega)
  have c0 := g1.rawCell 0; have c1 := g1.rawCell 1; have c2 := g1.rawCell 2; have c3 := g1.rawCell 3; have c4 := g1.rawCell 4; have c5 := g1.rawCell 5; have c6 := g1.rawCell 6; simp at c0 c1 c2 c3 c4 c5 c6
  have d0 := g1.p1.rawCell 0; have r0 := g1.p1.rawFree 0; have d1 := g1.p1.rawCell 1; have r1 := g1.p1.rawFree 1; have d2 := g1.p1.rawCell 2; have r2 := g1.p1.rawFree 2; have d3 := g1.p1.rawCell 3; have r3 := g1.p1.rawFree 3; have d4 := g1.p1.rawCell 4; have r4 := g1.p1.rawFree 4; have d5 := g1.p1.rawCell 5; have r5 := g1.p1.rawFree 5; have d6 := g1.p1.rawCell 6; have r6 := g1.p1.rawFree 6; simp at d0 d1 d2 d3 d4 d5 d6
  have HV := Lib.hid hv
  have hki : (kk : Int) ≤ (s.length : Int) := by omega
  have hw0 : IntKind.i64.wrap ((s.length : Int) - (kk : Int)) = (s.length : Int) - (kk : Int) := by rw [IntKind.wrap_i64]; omega
  clear h g1 hv hkl
  go_enter Try.func44, Try.ntmps44
  go_wp2_with (go_at_call 81; clear c0 d0 r0 c1 d1 r1 c2 d2 r2 c3 d3 r3 c4 d4 r4 c5 d5 r5 c6 d6 r6; (with_reducible refine (ref04_fixOk _ s true d kk rfl HX.out HV.out H.out).mono ?_); rintro e_ wn ⟨rfl, h⟩; obtain ⟨gb, hgb⟩ : ∃ b, wn.heap.size = b := ⟨_, rfl⟩; have h := h.allocRaw #[.bool true, .string (bb d), .int .i64 kk, .int .i64 0] 128; rw [hgb] at h; have c0 := h.p1.rawCell 0; have c1 := h.p1.rawCell 1; have c2 := h.p1.rawCell 2; have c3 := h.p1.rawCell 3; have c4 := h.p1.rawCell 4; have c5 := h.p1.rawCell 5; have c6 := h.p1.rawCell 6; simp at c0 c1 c2 c3 c4 c5 c6; have d0 := h.p2.rawCell 0; have r0 := h.p2.rawFree 0; have d1 := h.p2.rawCell 1; have r1 := h.p2.rawFree 1; have d2 := h.p2.rawCell 2; have r2 := h.p2.rawFree 2; have d3 := h.p2.rawCell 3; have r3 := h.p2.rawFree 3; have d4 := h.p2.rawCell 4; have r4 := h.p2.rawFree 4; have d5 := h.p2.rawCell 5; have r5 := h.p2.rawFree 5; have d6 := h.p2.rawCell 6; have r6 := h.p2.rawFree 6; simp at d0 d1 d2 d3 d4 d5 d6; replace H := Lib.hid h; clear h)
  have hz : St W0 _ _ (.raw rb #[.bool false, .string ⟨#[]⟩, .int .i64 0, .int .i64 0, .int .i64 0, .slice none 0 0, .bool false] 66 :: _) := St.sets7 _ _ _ _ _ _ _ (H.out.p2)
  refine bodyPost_ret (rc_cell_tmp3 rfl _ _ rb [.bool false, .string ⟨#[]⟩, .int .i64 0, .int .i64 0, .int .i64 0, .slice none 0 0, .bool false] _ rfl (rc_range hz) Try.underlying66 rfl (by kernel_rfl)) rfl ?_
  exact ⟨rfl, hz.drop.drop.drop⟩

set_option maxHeartbeats 8000000 in
set_option maxRecDepth 100000 in
theorem r18_24_s10 (v : Int) (s : Bs) (hsl : s.length ≤ 2000) (kk : Nat) (d : Bs) (hv : refixed 2 s = .ok (⟨false, d⟩, kk)) (hkl : kk ≤ s.length) (hs10 : s.length < kk + 10) {W0 w : World} {K : Know} {L : List Res} (h : St W0 w K L) :
    Calls Try.prog 44 #[.int .i64 24, .int .i64 v, .string (bb s)] w fun en w' => en = .returned (.tuple #[.agg #[.bool false, .string ⟨#[]⟩, .int .i64 0, .int .i64 0, .int .i64 0, .slice none 0 0, .bool false], .int .i64 0, .int .i64 1]) ∧ St W0 w' K L := by
  obtain ⟨rb, hrb⟩ : ∃ b, w.heap.size = b := ⟨_, rfl⟩
  obtain ⟨nb, hnb⟩ : ∃ b, rb + 1 = b := ⟨_, rfl⟩
  have g1 := (h.allocRaw #[.bool false, .string ⟨#[]⟩, .int .i64 0, .int .i64 0, .int .i64 0, .slice none 0 0, .bool false] 66).allocRaw #[.bool false, .string ⟨#[]⟩, .int .i64 0, .int .i64 0, .int .i64 0, .slice none 0 0, .bool false] 66
  simp only [World.size_alloc, hrb, hnb] at g1
  have H := Lib.hid g1
  have HX := Lib.hid (show s.length ≤ 140737488355328 by omega)
  have c0 := g1.rawCell 0; have c1 := g1.rawCell 1; have c2 := g1.rawCell 2; have c3 := g1.rawCell 3; have c4 := g1.rawCell 4; have c5 := g1.rawCell 5; have c6 := g1.rawCell 6; simp at c0 c1 c2 c3 c4 c5 c6
  have d0 := g1.p1.rawCell 0; have r0 := g1.p1.rawFree 0; have d1 := g1.p1.rawCell 1; have r1 := g1.p1.rawFree 1; have d2 := g1.p1.rawCell 2; have r2 := g1.p1.rawFree 2; have d3 := g1.p1.rawCell 3; have r3 := g1.p1.rawFree 3; have d4 := g1.p1.rawCell 4; have r4 := g1.p1.rawFree 4; have d5 := g1.p1.rawCell 5; have r5 := g1.p1.rawFree 5; have d6 := g1.p1.rawCell 6; have r6 := g1.p1.rawFree 6; simp at d0 d1 d2 d3 d4 d5 d6
  have HV := Lib.hid hv
  have hki : (kk : Int) ≤ (s.length : Int) := by omega
  have hw0 : IntKind.i64.wrap ((s.length : Int) - (kk : Int)) = (s.length : Int) - (kk : Int) := by rw [IntKind.wrap_i64]; omega
  have hsj : (s.length : Int) - (kk : Int) < 10 := by omega
  clear h g1 hv hkl hs10
  go_enter Try.func44, Try.ntmps44
  go_wp2_with (first
    | (go_at_call 81; clear c0 d0 r0 c1 d1 r1 c2 d2 r2 c3 d3 r3 c4 d4 r4 c5 d5 r5 c6 d6 r6; (with_reducible refine (ref04_fixOk _ s false d kk rfl HX.out HV.out H.out).mono ?_); rintro e_ wn ⟨rfl, h⟩; obtain ⟨gb, hgb⟩ : ∃ b, wn.heap.size = b := ⟨_, rfl⟩; obtain ⟨qb, hqb⟩ : ∃ b, gb + 1 = b := ⟨_, rfl⟩; have h := (h.allocRaw #[.bool false, .string (bb d), .int .i64 kk, .int .i64 0] 128).allocRaw #[.bool false, .string (bb d), .int .i64 0, .int .i64 (-1), .int .i64 (-1), .slice none 0 0, .bool false] 66; simp only [World.size_alloc, hgb, hqb] at h; have y0 := h.p1.rawCell 0; have y1 := h.p1.rawCell 1; have y2 := h.p1.rawCell 2; have y3 := h.p1.rawCell 3; simp at y0 y1 y2 y3; have c0 := h.p2.rawCell 0; have c1 := h.p2.rawCell 1; have c2 := h.p2.rawCell 2; have c3 := h.p2.rawCell 3; have c4 := h.p2.rawCell 4; have c5 := h.p2.rawCell 5; have c6 := h.p2.rawCell 6; simp at c0 c1 c2 c3 c4 c5 c6; have d0 := h.p3.rawCell 0; have r0 := h.p3.rawFree 0; have d1 := h.p3.rawCell 1; have r1 := h.p3.rawFree 1; have d2 := h.p3.rawCell 2; have r2 := h.p3.rawFree 2; have d3 := h.p3.rawCell 3; have r3 := h.p3.rawFree 3; have d4 := h.p3.rawCell 4; have r4 := h.p3.rawFree 4; have d5 := h.p3.rawCell 5; have r5 := h.p3.rawFree 5; have d6 := h.p3.rawCell 6; have r6 := h.p3.rawFree 6; simp at d0 d1 d2 d3 d4 d5 d6; replace H := Lib.hid h; clear h))
  have hz : St W0 _ _ (.raw rb #[.bool false, .string ⟨#[]⟩, .int .i64 0, .int .i64 0, .int .i64 0, .slice none 0 0, .bool false] 66 :: _) := St.sets7 _ _ _ _ _ _ _ (H.out.p3)
  refine bodyPost_ret (rc_cell_tmp3 rfl _ _ rb [.bool false, .string ⟨#[]⟩, .int .i64 0, .int .i64 0, .int .i64 0, .slice none 0 0, .bool false] _ rfl (rc_range hz) Try.underlying66 rfl (by kernel_rfl)) rfl ?_
  exact ⟨rfl, hz.drop.drop.drop.drop⟩

set_option maxHeartbeats 8000000 in
set_option maxRecDepth 100000 in
theorem r18_24_tops (v : Int) (s : Bs) (hsl : s.length ≤ 2000) (kk : Nat) (d : Bs) (hv : refixed 2 s = .ok (⟨false, d⟩, kk)) (hkl : kk ≤ s.length) (hs10 : kk + 10 ≤ s.length) (p e : Int) (hp : sInt ((s.drop (kk)).take 8) = p) (he : sInt ((s.drop (kk + 8)).take 2) = e) (l : List TopS) (mm : Nat) (ef : Int) (hr : topsR (s.drop (kk + 10)) = (l, mm, ef)) (h0 : ef ≠ 0) {W0 w : World} {K : Know} {L : List Res} (h : St W0 w K L) :
    Calls Try.prog 44 #[.int .i64 24, .int .i64 v, .string (bb s)] w fun en w' => en = .returned (.tuple #[.agg #[.bool false, .string ⟨#[]⟩, .int .i64 0, .int .i64 0, .int .i64 0, .slice none 0 0, .bool false], .int .i64 0, .int .i64 ef]) ∧ St W0 w' K L := by
  obtain ⟨rb, hrb⟩ : ∃ b, w.heap.size = b := ⟨_, rfl⟩
  obtain ⟨nb, hnb⟩ : ∃ b, rb + 1 = b := ⟨_, rfl⟩
  have g1 := (h.allocRaw #[.bool false, .string ⟨#[]⟩, .int .i64 0, .int .i64 0, .int .i64 0, .slice none 0 0, .bool false] 66).allocRaw #[.bool false, .string ⟨#[]⟩, .int .i64 0, .int .i64 0, .int .i64 0, .slice none 0 0, .bool false] 66
  simp only [World.size_alloc, hrb, hnb] at g1
  have H := Lib.hid g1
  have HX := Lib.hid (show s.length ≤ 140737488355328 by omega)
  have c0 := g1.rawCell 0; have c1 := g1.rawCell 1; have c2 := g1.rawCell 2; have c3 := g1.rawCell 3; have c4 := g1.rawCell 4; have c5 := g1.rawCell 5; have c6 := g1.rawCell 6; simp at c0 c1 c2 c3 c4 c5 c6
  have d0 := g1.p1.rawCell 0; have r0 := g1.p1.rawFree 0; have d1 := g1.p1.rawCell 1; have r1 := g1.p1.rawFree 1; have d2 := g1.p1.rawCell 2; have r2 := g1.p1.rawFree 2; have d3 := g1.p1.rawCell 3; have r3 := g1.p1.rawFree 3; have d4 := g1.p1.rawCell 4; have r4 := g1.p1.rawFree 4; have d5 := g1.p1.rawCell 5; have r5 := g1.p1.rawFree 5; have d6 := g1.p1.rawCell 6; have r6 := g1.p1.rawFree 6; simp at d0 d1 d2 d3 d4 d5 d6
  have HV := Lib.hid hv
  have hki : (kk : Int) ≤ (s.length : Int) := by omega
  have hw0 : IntKind.i64.wrap ((s.length : Int) - (kk : Int)) = (s.length : Int) - (kk : Int) := by rw [IntKind.wrap_i64]; omega
  have hsj : ¬ (s.length : Int) - (kk : Int) < 10 := by omega
  obtain ⟨k8, hk8⟩ : ∃ x, kk + 8 = x := ⟨_, rfl⟩
  have hk8w : IntKind.i64.wrap ((kk : Int) + 8) = (k8 : Int) := by rw [IntKind.wrap_i64]; omega
  have hk8i : (kk : Int) + 8 = (k8 : Int) := by omega
  obtain ⟨k10, hk10⟩ : ∃ x, kk + 10 = x := ⟨_, rfl⟩
  have hk10w : IntKind.i64.wrap ((kk : Int) + 10) = (k10 : Int) := by rw [IntKind.wrap_i64]; omega
  have hk10i : (kk : Int) + 10 = (k10 : Int) := by omega
  have HT8 := Lib.hid (show List.take (k8 - kk) (s.drop kk) = (s.drop kk).take 8 by rw [← hk8, Nat.add_sub_cancel_left])
  have HT88 := Lib.hid (show ((s.drop kk).take 8).length ≤ 8 by rw [List.length_take]; omega)
  have HT2 := Lib.hid (show List.take (k10 - k8) (s.drop k8) = (s.drop k8).take 2 by rw [show k10 - k8 = 2 by omega])
  have HT28 := Lib.hid (show ((s.drop k8).take 2).length ≤ 8 by rw [List.length_take]; omega)
  have HP := Lib.hid (show sInt ((s.drop kk).take 8) = p by exact hp)
  have HE := Lib.hid (show sInt ((s.drop k8).take 2) = e by rw [← hk8]; exact he)
  have ikkk8 : (kk : Int) ≤ (k8 : Int) := by omega
  have nkkk8 : kk ≤ k8 := by omega
  have ik8k10 : (k8 : Int) ≤ (k10 : Int) := by omega
  have nk8k10 : k8 ≤ k10 := by omega
  have ikkk10 : (kk : Int) ≤ (k10 : Int) := by omega
  have nkkk10 : kk ≤ k10 := by omega
  have lk8 : (k8 : Int) ≤ (s.length : Int) := by omega
  have lk10 : (k10 : Int) ≤ (s.length : Int) := by omega
  have HR := Lib.hid (show topsR (s.drop k10) = (l, mm, ef) by rw [← hk10]; exact hr)
  have HTE := Lib.hid (takeEnd s k10)
  have HXX := Lib.hid (show (s.drop k10).length ≤ 1000000 by rw [List.length_drop]; omega)
  have g1 : (ef == 0) = false := by rw [beq_eq_false_iff_ne]; exact h0
  have g2 : (ef != 0) = true := by simp [bne, g1]
  clear h g1 hv hkl hp he hs10 hr h0
  go_enter Try.func44, Try.ntmps44
  go_wp2_with (first
    | (go_at_call 81; clear c0 d0 r0 c1 d1 r1 c2 d2 r2 c3 d3 r3 c4 d4 r4 c5 d5 r5 c6 d6 r6; (with_reducible refine (ref04_fixOk _ s false d kk rfl HX.out HV.out H.out).mono ?_); rintro e_ wn ⟨rfl, h⟩; obtain ⟨gb, hgb⟩ : ∃ b, wn.heap.size = b := ⟨_, rfl⟩; obtain ⟨qb, hqb⟩ : ∃ b, gb + 1 = b := ⟨_, rfl⟩; have h := (h.allocRaw #[.bool false, .string (bb d), .int .i64 kk, .int .i64 0] 128).allocRaw #[.bool false, .string (bb d), .int .i64 0, .int .i64 (-1), .int .i64 (-1), .slice none 0 0, .bool false] 66; simp only [World.size_alloc, hgb, hqb] at h; have y0 := h.p1.rawCell 0; have y1 := h.p1.rawCell 1; have y2 := h.p1.rawCell 2; have y3 := h.p1.rawCell 3; simp at y0 y1 y2 y3; have c0 := h.p2.rawCell 0; have c1 := h.p2.rawCell 1; have c2 := h.p2.rawCell 2; have c3 := h.p2.rawCell 3; have c4 := h.p2.rawCell 4; have c5 := h.p2.rawCell 5; have c6 := h.p2.rawCell 6; simp at c0 c1 c2 c3 c4 c5 c6; have d0 := h.p3.rawCell 0; have r0 := h.p3.rawFree 0; have d1 := h.p3.rawCell 1; have r1 := h.p3.rawFree 1; have d2 := h.p3.rawCell 2; have r2 := h.p3.rawFree 2; have d3 := h.p3.rawCell 3; have r3 := h.p3.rawFree 3; have d4 := h.p3.rawCell 4; have r4 := h.p3.rawFree 4; have d5 := h.p3.rawCell 5; have r5 := h.p3.rawFree 5; have d6 := h.p3.rawCell 6; have r6 := h.p3.rawFree 6; simp at d0 d1 d2 d3 d4 d5 d6; replace H := Lib.hid h; clear h)
    | (go_at_call 76; (with_reducible refine (sr_intT _ ((s.drop kk).take 8) HT8.out p HP.out HT88.out H.out).mono ?_); rintro e_ wn ⟨rfl, h⟩; clear c0 d0 r0 c1 d1 r1 c2 d2 r2 c3 d3 r3 c4 d4 r4 c5 d5 r5 c6 d6 r6; have f3 := h.rawFree 3; have q3 := h.rawCell 3; simp at q3; have h := (show St W0 (wn.setCell ⟨qb, 3, none⟩ (.int .i64 p)) K (.raw qb #[.bool false, .string (bb d), .int .i64 0, .int .i64 p, .int .i64 (-1), .slice none 0 0, .bool false] 66 :: _) from h.rawSet 3 (.int .i64 p)); have c0 := h.p2.rawCell 0; have c1 := h.p2.rawCell 1; have c2 := h.p2.rawCell 2; have c3 := h.p2.rawCell 3; have c4 := h.p2.rawCell 4; have c5 := h.p2.rawCell 5; have c6 := h.p2.rawCell 6; simp at c0 c1 c2 c3 c4 c5 c6; have d0 := h.p3.rawCell 0; have r0 := h.p3.rawFree 0; have d1 := h.p3.rawCell 1; have r1 := h.p3.rawFree 1; have d2 := h.p3.rawCell 2; have r2 := h.p3.rawFree 2; have d3 := h.p3.rawCell 3; have r3 := h.p3.rawFree 3; have d4 := h.p3.rawCell 4; have r4 := h.p3.rawFree 4; have d5 := h.p3.rawCell 5; have r5 := h.p3.rawFree 5; have d6 := h.p3.rawCell 6; have r6 := h.p3.rawFree 6; simp at d0 d1 d2 d3 d4 d5 d6; replace H := Lib.hid h; clear h)
    | (go_at_call 76; (with_reducible refine (sr_intT _ ((s.drop k8).take 2) HT2.out e HE.out HT28.out H.out).mono ?_); rintro e_ wn ⟨rfl, h⟩; clear c0 d0 r0 c1 d1 r1 c2 d2 r2 c3 d3 r3 c4 d4 r4 c5 d5 r5 c6 d6 r6; have f4 := h.rawFree 4; have q4 := h.rawCell 4; simp at q4; have h := (show St W0 (wn.setCell ⟨qb, 4, none⟩ (.int .i64 e)) K (.raw qb #[.bool false, .string (bb d), .int .i64 0, .int .i64 p, .int .i64 e, .slice none 0 0, .bool false] 66 :: _) from h.rawSet 4 (.int .i64 e)); have c0 := h.p2.rawCell 0; have c1 := h.p2.rawCell 1; have c2 := h.p2.rawCell 2; have c3 := h.p2.rawCell 3; have c4 := h.p2.rawCell 4; have c5 := h.p2.rawCell 5; have c6 := h.p2.rawCell 6; simp at c0 c1 c2 c3 c4 c5 c6; have d0 := h.p3.rawCell 0; have r0 := h.p3.rawFree 0; have d1 := h.p3.rawCell 1; have r1 := h.p3.rawFree 1; have d2 := h.p3.rawCell 2; have r2 := h.p3.rawFree 2; have d3 := h.p3.rawCell 3; have r3 := h.p3.rawFree 3; have d4 := h.p3.rawCell 4; have r4 := h.p3.rawFree 4; have d5 := h.p3.rawCell 5; have r5 := h.p3.rawFree 5; have d6 := h.p3.rawCell 6; have r6 := h.p3.rawFree 6; simp at d0 d1 d2 d3 d4 d5 d6; replace H := Lib.hid h; clear h)
    | (go_at_call 26; (with_reducible refine (ref14_readTopicsT _ (s.drop k10) HTE.out HXX.out l mm ef HR.out H.out).mono ?_); rintro e_ wn ⟨v_, lr, rfl, hlr, h⟩; clear c0 d0 r0 c1 d1 r1 c2 d2 r2 c3 d3 r3 c4 d4 r4 c5 d5 r5 c6 d6 r6; obtain ⟨q, cap, rfl⟩ := tops_form (Know.has_right (Know.has_refl _)) h; have HLR := Lib.hid hlr; clear hlr; have c0 := h.p2.rawCell 0; have c1 := h.p2.rawCell 1; have c2 := h.p2.rawCell 2; have c3 := h.p2.rawCell 3; have c4 := h.p2.rawCell 4; have c5 := h.p2.rawCell 5; have c6 := h.p2.rawCell 6; simp at c0 c1 c2 c3 c4 c5 c6; have d0 := h.p3.rawCell 0; have r0 := h.p3.rawFree 0; have d1 := h.p3.rawCell 1; have r1 := h.p3.rawFree 1; have d2 := h.p3.rawCell 2; have r2 := h.p3.rawFree 2; have d3 := h.p3.rawCell 3; have r3 := h.p3.rawFree 3; have d4 := h.p3.rawCell 4; have r4 := h.p3.rawFree 4; have d5 := h.p3.rawCell 5; have r5 := h.p3.rawFree 5; have d6 := h.p3.rawCell 6; have r6 := h.p3.rawFree 6; simp at d0 d1 d2 d3 d4 d5 d6; replace H := Lib.hid h; clear h))
  have hz : St W0 _ _ (.raw rb #[.bool false, .string ⟨#[]⟩, .int .i64 0, .int .i64 0, .int .i64 0, .slice none 0 0, .bool false] 66 :: _) := St.sets7 _ _ _ _ _ _ _ (H.out.p3)
  refine bodyPost_ret (rc_cell_tmp3 rfl _ _ rb [.bool false, .string ⟨#[]⟩, .int .i64 0, .int .i64 0, .int .i64 0, .slice none 0 0, .bool false] _ rfl (rc_range hz) Try.underlying66 rfl (by kernel_rfl)) rfl ?_
  exact ⟨rfl, (hz.drop.drop.drop.drop).know (Know.has_left (Know.has_refl _))⟩

set_option maxHeartbeats 8000000 in
set_option maxRecDepth 100000 in
theorem r18_24_chk (v : Int) (s : Bs) (hsl : s.length ≤ 2000) (kk : Nat) (d : Bs) (hv : refixed 2 s = .ok (⟨false, d⟩, kk)) (hkl : kk ≤ s.length) (hs10 : kk + 10 ≤ s.length) (p e : Int) (hp : sInt ((s.drop (kk)).take 8) = p) (he : sInt ((s.drop (kk + 8)).take 2) = e) (l : List TopS) (mm : Nat) (hr : topsR (s.drop (kk + 10)) = (l, mm, 0)) (hml : kk + 10 + mm ≤ s.length) (E : Int) (hE : addE d p e l = E) (h0 : E ≠ 0) {W0 w : World} {K : Know} {L : List Res} (h : St W0 w K L) :
    Calls Try.prog 44 #[.int .i64 24, .int .i64 v, .string (bb s)] w fun en w' => en = .returned (.tuple #[.agg #[.bool false, .string ⟨#[]⟩, .int .i64 0, .int .i64 0, .int .i64 0, .slice none 0 0, .bool false], .int .i64 0, .int .i64 E]) ∧ St W0 w' K L := by
  obtain ⟨rb, hrb⟩ : ∃ b, w.heap.size = b := ⟨_, rfl⟩
  obtain ⟨nb, hnb⟩ : ∃ b, rb + 1 = b := ⟨_, rfl⟩
  have g1 := (h.allocRaw #[.bool false, .string ⟨#[]⟩, .int .i64 0, .int .i64 0, .int .i64 0, .slice none 0 0, .bool false] 66).allocRaw #[.bool false, .string ⟨#[]⟩, .int .i64 0, .int .i64 0, .int .i64 0, .slice none 0 0, .bool false] 66
  simp only [World.size_alloc, hrb, hnb] at g1
  have H := Lib.hid g1
  have HX := Lib.hid (show s.length ≤ 140737488355328 by omega)
  have c0 := g1.rawCell 0; have c1 := g1.rawCell 1; have c2 := g1.rawCell 2; have c3 := g1.rawCell 3; have c4 := g1.rawCell 4; have c5 := g1.rawCell 5; have c6 := g1.rawCell 6; simp at c0 c1 c2 c3 c4 c5 c6
  have d0 := g1.p1.rawCell 0; have r0 := g1.p1.rawFree 0; have d1 := g1.p1.rawCell 1; have r1 := g1.p1.rawFree 1; have d2 := g1.p1.rawCell 2; have r2 := g1.p1.rawFree 2; have d3 := g1.p1.rawCell 3; have r3 := g1.p1.rawFree 3; have d4 := g1.p1.rawCell 4; have r4 := g1.p1.rawFree 4; have d5 := g1.p1.rawCell 5; have r5 := g1.p1.rawFree 5; have d6 := g1.p1.rawCell 6; have r6 := g1.p1.rawFree 6; simp at d0 d1 d2 d3 d4 d5 d6
  have HV := Lib.hid hv
  have hki : (kk : Int) ≤ (s.length : Int) := by omega
  have hw0 : IntKind.i64.wrap ((s.length : Int) - (kk : Int)) = (s.length : Int) - (kk : Int) := by rw [IntKind.wrap_i64]; omega
  have hsj : ¬ (s.length : Int) - (kk : Int) < 10 := by omega
  obtain ⟨k8, hk8⟩ : ∃ x, kk + 8 = x := ⟨_, rfl⟩
  have hk8w : IntKind.i64.wrap ((kk : Int) + 8) = (k8 : Int) := by rw [IntKind.wrap_i64]; omega
  have hk8i : (kk : Int) + 8 = (k8 : Int) := by omega
  obtain ⟨k10, hk10⟩ : ∃ x, kk + 10 = x := ⟨_, rfl⟩
  have hk10w : IntKind.i64.wrap ((kk : Int) + 10) = (k10 : Int) := by rw [IntKind.wrap_i64]; omega
  have hk10i : (kk : Int) + 10 = (k10 : Int) := by omega
  have HT8 := Lib.hid (show List.take (k8 - kk) (s.drop kk) = (s.drop kk).take 8 by rw [← hk8, Nat.add_sub_cancel_left])
  have HT88 := Lib.hid (show ((s.drop kk).take 8).length ≤ 8 by rw [List.length_take]; omega)
  have HT2 := Lib.hid (show List.take (k10 - k8) (s.drop k8) = (s.drop k8).take 2 by rw [show k10 - k8 = 2 by omega])
  have HT28 := Lib.hid (show ((s.drop k8).take 2).length ≤ 8 by rw [List.length_take]; omega)
  have HP := Lib.hid (show sInt ((s.drop kk).take 8) = p by exact hp)
  have HE := Lib.hid (show sInt ((s.drop k8).take 2) = e by rw [← hk8]; exact he)
  have ikkk8 : (kk : Int) ≤ (k8 : Int) := by omega
  have nkkk8 : kk ≤ k8 := by omega
  have ik8k10 : (k8 : Int) ≤ (k10 : Int) := by omega
  have nk8k10 : k8 ≤ k10 := by omega
  have ikkk10 : (kk : Int) ≤ (k10 : Int) := by omega
  have nkkk10 : kk ≤ k10 := by omega
  have lk8 : (k8 : Int) ≤ (s.length : Int) := by omega
  have lk10 : (k10 : Int) ≤ (s.length : Int) := by omega
  have HR := Lib.hid (show topsR (s.drop k10) = (l, mm, 0) by rw [← hk10]; exact hr)
  have HTE := Lib.hid (takeEnd s k10)
  have HXX := Lib.hid (show (s.drop k10).length ≤ 1000000 by rw [List.length_drop]; omega)
  have hmi : (mm : Int) ≤ 1000000 := by omega
  obtain ⟨kE, hkE⟩ : ∃ x, k10 + mm = x := ⟨_, rfl⟩
  have hkEw : IntKind.i64.wrap ((k10 : Int) + (mm : Int)) = (kE : Int) := by rw [IntKind.wrap_i64]; omega
  have hkEi : (k10 : Int) + mm = (kE : Int) := by omega
  have HFLL := Lib.hid (show FewL l from topsP_few (topsR_ok hr) (by rw [List.length_drop]; omega))
  have HEE := Lib.hid hE
  have g1 : (E == 0) = false := by rw [beq_eq_false_iff_ne]; exact h0
  have g2 : (E != 0) = true := by simp [bne, g1]
  clear h g1 hv hkl hp he hs10 hr hml hE h0
  go_enter Try.func44, Try.ntmps44
  go_wp2_with (first
    | (go_at_call 81; clear c0 d0 r0 c1 d1 r1 c2 d2 r2 c3 d3 r3 c4 d4 r4 c5 d5 r5 c6 d6 r6; (with_reducible refine (ref04_fixOk _ s false d kk rfl HX.out HV.out H.out).mono ?_); rintro e_ wn ⟨rfl, h⟩; obtain ⟨gb, hgb⟩ : ∃ b, wn.heap.size = b := ⟨_, rfl⟩; obtain ⟨qb, hqb⟩ : ∃ b, gb + 1 = b := ⟨_, rfl⟩; have h := (h.allocRaw #[.bool false, .string (bb d), .int .i64 kk, .int .i64 0] 128).allocRaw #[.bool false, .string (bb d), .int .i64 0, .int .i64 (-1), .int .i64 (-1), .slice none 0 0, .bool false] 66; simp only [World.size_alloc, hgb, hqb] at h; have y0 := h.p1.rawCell 0; have y1 := h.p1.rawCell 1; have y2 := h.p1.rawCell 2; have y3 := h.p1.rawCell 3; simp at y0 y1 y2 y3; have c0 := h.p2.rawCell 0; have c1 := h.p2.rawCell 1; have c2 := h.p2.rawCell 2; have c3 := h.p2.rawCell 3; have c4 := h.p2.rawCell 4; have c5 := h.p2.rawCell 5; have c6 := h.p2.rawCell 6; simp at c0 c1 c2 c3 c4 c5 c6; have d0 := h.p3.rawCell 0; have r0 := h.p3.rawFree 0; have d1 := h.p3.rawCell 1; have r1 := h.p3.rawFree 1; have d2 := h.p3.rawCell 2; have r2 := h.p3.rawFree 2; have d3 := h.p3.rawCell 3; have r3 := h.p3.rawFree 3; have d4 := h.p3.rawCell 4; have r4 := h.p3.rawFree 4; have d5 := h.p3.rawCell 5; have r5 := h.p3.rawFree 5; have d6 := h.p3.rawCell 6; have r6 := h.p3.rawFree 6; simp at d0 d1 d2 d3 d4 d5 d6; replace H := Lib.hid h; clear h)
    | (go_at_call 76; (with_reducible refine (sr_intT _ ((s.drop kk).take 8) HT8.out p HP.out HT88.out H.out).mono ?_); rintro e_ wn ⟨rfl, h⟩; clear c0 d0 r0 c1 d1 r1 c2 d2 r2 c3 d3 r3 c4 d4 r4 c5 d5 r5 c6 d6 r6; have f3 := h.rawFree 3; have q3 := h.rawCell 3; simp at q3; have h := (show St W0 (wn.setCell ⟨qb, 3, none⟩ (.int .i64 p)) K (.raw qb #[.bool false, .string (bb d), .int .i64 0, .int .i64 p, .int .i64 (-1), .slice none 0 0, .bool false] 66 :: _) from h.rawSet 3 (.int .i64 p)); have c0 := h.p2.rawCell 0; have c1 := h.p2.rawCell 1; have c2 := h.p2.rawCell 2; have c3 := h.p2.rawCell 3; have c4 := h.p2.rawCell 4; have c5 := h.p2.rawCell 5; have c6 := h.p2.rawCell 6; simp at c0 c1 c2 c3 c4 c5 c6; have d0 := h.p3.rawCell 0; have r0 := h.p3.rawFree 0; have d1 := h.p3.rawCell 1; have r1 := h.p3.rawFree 1; have d2 := h.p3.rawCell 2; have r2 := h.p3.rawFree 2; have d3 := h.p3.rawCell 3; have r3 := h.p3.rawFree 3; have d4 := h.p3.rawCell 4; have r4 := h.p3.rawFree 4; have d5 := h.p3.rawCell 5; have r5 := h.p3.rawFree 5; have d6 := h.p3.rawCell 6; have r6 := h.p3.rawFree 6; simp at d0 d1 d2 d3 d4 d5 d6; replace H := Lib.hid h; clear h)
    | (go_at_call 76; (with_reducible refine (sr_intT _ ((s.drop k8).take 2) HT2.out e HE.out HT28.out H.out).mono ?_); rintro e_ wn ⟨rfl, h⟩; clear c0 d0 r0 c1 d1 r1 c2 d2 r2 c3 d3 r3 c4 d4 r4 c5 d5 r5 c6 d6 r6; have f4 := h.rawFree 4; have q4 := h.rawCell 4; simp at q4; have h := (show St W0 (wn.setCell ⟨qb, 4, none⟩ (.int .i64 e)) K (.raw qb #[.bool false, .string (bb d), .int .i64 0, .int .i64 p, .int .i64 e, .slice none 0 0, .bool false] 66 :: _) from h.rawSet 4 (.int .i64 e)); have c0 := h.p2.rawCell 0; have c1 := h.p2.rawCell 1; have c2 := h.p2.rawCell 2; have c3 := h.p2.rawCell 3; have c4 := h.p2.rawCell 4; have c5 := h.p2.rawCell 5; have c6 := h.p2.rawCell 6; simp at c0 c1 c2 c3 c4 c5 c6; have d0 := h.p3.rawCell 0; have r0 := h.p3.rawFree 0; have d1 := h.p3.rawCell 1; have r1 := h.p3.rawFree 1; have d2 := h.p3.rawCell 2; have r2 := h.p3.rawFree 2; have d3 := h.p3.rawCell 3; have r3 := h.p3.rawFree 3; have d4 := h.p3.rawCell 4; have r4 := h.p3.rawFree 4; have d5 := h.p3.rawCell 5; have r5 := h.p3.rawFree 5; have d6 := h.p3.rawCell 6; have r6 := h.p3.rawFree 6; simp at d0 d1 d2 d3 d4 d5 d6; replace H := Lib.hid h; clear h)
    | (go_at_call 26; (with_reducible refine (ref14_readTopicsT _ (s.drop k10) HTE.out HXX.out l mm 0 HR.out H.out).mono ?_); rintro e_ wn ⟨v_, lr, rfl, hlr, h⟩; clear c0 d0 r0 c1 d1 r1 c2 d2 r2 c3 d3 r3 c4 d4 r4 c5 d5 r5 c6 d6 r6; obtain ⟨q, cap, rfl⟩ := tops_form (Know.has_right (Know.has_refl _)) h; have HLR := Lib.hid hlr; clear hlr; have f5 := h.rawFree 5; have q5 := h.rawCell 5; simp at q5; have h := (show St W0 (wn.setCell ⟨qb, 5, none⟩ (.slice q lr.length cap)) (K.and (Know.tops (.slice q lr.length cap) lr)) (.raw qb #[.bool false, .string (bb d), .int .i64 0, .int .i64 p, .int .i64 e, .slice q lr.length cap, .bool false] 66 :: _) from h.rawSet 5 (.slice q lr.length cap)); have x0 := h.rawCell 0; have x1 := h.rawCell 1; have x2 := h.rawCell 2; have x3 := h.rawCell 3; have x4 := h.rawCell 4; have x5 := h.rawCell 5; have x6 := h.rawCell 6; simp at x0 x1 x2 x3 x4 x5 x6; have c0 := h.p2.rawCell 0; have c1 := h.p2.rawCell 1; have c2 := h.p2.rawCell 2; have c3 := h.p2.rawCell 3; have c4 := h.p2.rawCell 4; have c5 := h.p2.rawCell 5; have c6 := h.p2.rawCell 6; simp at c0 c1 c2 c3 c4 c5 c6; have d0 := h.p3.rawCell 0; have r0 := h.p3.rawFree 0; have d1 := h.p3.rawCell 1; have r1 := h.p3.rawFree 1; have d2 := h.p3.rawCell 2; have r2 := h.p3.rawFree 2; have d3 := h.p3.rawCell 3; have r3 := h.p3.rawFree 3; have d4 := h.p3.rawCell 4; have r4 := h.p3.rawFree 4; have d5 := h.p3.rawCell 5; have r5 := h.p3.rawFree 5; have d6 := h.p3.rawCell 6; have r6 := h.p3.rawFree 6; simp at d0 d1 d2 d3 d4 d5 d6; replace H := Lib.hid h; clear h)
    | (go_at_call 40; clear x0 x1 x2 x3 x4 x5 x6; (with_reducible refine (ref18_check24N v d p e lr q cap E (by rw [HLR.out]; exact HEE.out) (fewT_of (by rw [HLR.out]; exact HFLL.out)) (Know.has_right (Know.has_refl _)) H.out).mono ?_); rintro e_ wn ⟨rfl, h⟩; clear c0 d0 r0 c1 d1 r1 c2 d2 r2 c3 d3 r3 c4 d4 r4 c5 d5 r5 c6 d6 r6; have x0 := h.rawCell 0; have x1 := h.rawCell 1; have x2 := h.rawCell 2; have x3 := h.rawCell 3; have x4 := h.rawCell 4; have x5 := h.rawCell 5; have x6 := h.rawCell 6; simp at x0 x1 x2 x3 x4 x5 x6; have c0 := h.p2.rawCell 0; have c1 := h.p2.rawCell 1; have c2 := h.p2.rawCell 2; have c3 := h.p2.rawCell 3; have c4 := h.p2.rawCell 4; have c5 := h.p2.rawCell 5; have c6 := h.p2.rawCell 6; simp at c0 c1 c2 c3 c4 c5 c6; have d0 := h.p3.rawCell 0; have r0 := h.p3.rawFree 0; have d1 := h.p3.rawCell 1; have r1 := h.p3.rawFree 1; have d2 := h.p3.rawCell 2; have r2 := h.p3.rawFree 2; have d3 := h.p3.rawCell 3; have r3 := h.p3.rawFree 3; have d4 := h.p3.rawCell 4; have r4 := h.p3.rawFree 4; have d5 := h.p3.rawCell 5; have r5 := h.p3.rawFree 5; have d6 := h.p3.rawCell 6; have r6 := h.p3.rawFree 6; simp at d0 d1 d2 d3 d4 d5 d6; replace H := Lib.hid h; clear h))
  have hz : St W0 _ _ (.raw rb #[.bool false, .string ⟨#[]⟩, .int .i64 0, .int .i64 0, .int .i64 0, .slice none 0 0, .bool false] 66 :: _) := St.sets7 _ _ _ _ _ _ _ (H.out.p3)
  refine bodyPost_ret (rc_cell_tmp3 rfl _ _ rb [.bool false, .string ⟨#[]⟩, .int .i64 0, .int .i64 0, .int .i64 0, .slice none 0 0, .bool false] _ rfl (rc_range hz) Try.underlying66 rfl (by kernel_rfl)) rfl ?_
  exact ⟨rfl, (hz.drop.drop.drop.drop).know (Know.has_left (Know.has_refl _))⟩

set_option maxHeartbeats 8000000 in
set_option maxRecDepth 100000 in
theorem r18_24_ok (v : Int) (s : Bs) (hsl : s.length ≤ 2000) (kk : Nat) (d : Bs) (hv : refixed 2 s = .ok (⟨false, d⟩, kk)) (hkl : kk ≤ s.length) (hs10 : kk + 10 ≤ s.length) (p e : Int) (hp : sInt ((s.drop (kk)).take 8) = p) (he : sInt ((s.drop (kk + 8)).take 2) = e) (l : List TopS) (mm : Nat) (hr : topsR (s.drop (kk + 10)) = (l, mm, 0)) (hml : kk + 10 + mm ≤ s.length) (hE : addE d p e l = 0) {W0 w : World} {K : Know} {L : List Res} (h : St W0 w K L) :
    Calls Try.prog 44 #[.int .i64 24, .int .i64 v, .string (bb s)] w fun en w' => ∃ (q : Option Addr) (cap : Nat) (lr : List (TopS × Value)), en = .returned (.tuple #[.agg #[.bool false, .string (bb d), .int .i64 0, .int .i64 p, .int .i64 e, .slice q lr.length cap, .bool false], .int .i64 ((kk + 10 + mm : Nat) : Int), .int .i64 0]) ∧ lr.map (·.1) = l ∧ St W0 w' (K.and (Know.tops (.slice q lr.length cap) lr)) L := by
  obtain ⟨rb, hrb⟩ : ∃ b, w.heap.size = b := ⟨_, rfl⟩
  obtain ⟨nb, hnb⟩ : ∃ b, rb + 1 = b := ⟨_, rfl⟩
  have g1 := (h.allocRaw #[.bool false, .string ⟨#[]⟩, .int .i64 0, .int .i64 0, .int .i64 0, .slice none 0 0, .bool false] 66).allocRaw #[.bool false, .string ⟨#[]⟩, .int .i64 0, .int .i64 0, .int .i64 0, .slice none 0 0, .bool false] 66
  simp only [World.size_alloc, hrb, hnb] at g1
  have H := Lib.hid g1
  have HX := Lib.hid (show s.length ≤ 140737488355328 by omega)
  have c0 := g1.rawCell 0; have c1 := g1.rawCell 1; have c2 := g1.rawCell 2; have c3 := g1.rawCell 3; have c4 := g1.rawCell 4; have c5 := g1.rawCell 5; have c6 := g1.rawCell 6; simp at c0 c1 c2 c3 c4 c5 c6
  have d0 := g1.p1.rawCell 0; have r0 := g1.p1.rawFree 0; have d1 := g1.p1.rawCell 1; have r1 := g1.p1.rawFree 1; have d2 := g1.p1.rawCell 2; have r2 := g1.p1.rawFree 2; have d3 := g1.p1.rawCell 3; have r3 := g1.p1.rawFree 3; have d4 := g1.p1.rawCell 4; have r4 := g1.p1.rawFree 4; have d5 := g1.p1.rawCell 5; have r5 := g1.p1.rawFree 5; have d6 := g1.p1.rawCell 6; have r6 := g1.p1.rawFree 6; simp at d0 d1 d2 d3 d4 d5 d6
  have HV := Lib.hid hv
  have hki : (kk : Int) ≤ (s.length : Int) := by omega
  have hw0 : IntKind.i64.wrap ((s.length : Int) - (kk : Int)) = (s.length : Int) - (kk : Int) := by rw [IntKind.wrap_i64]; omega
  have hsj : ¬ (s.length : Int) - (kk : Int) < 10 := by omega
  obtain ⟨k8, hk8⟩ : ∃ x, kk + 8 = x := ⟨_, rfl⟩
  have hk8w : IntKind.i64.wrap ((kk : Int) + 8) = (k8 : Int) := by rw [IntKind.wrap_i64]; omega
  have hk8i : (kk : Int) + 8 = (k8 : Int) := by omega
  obtain ⟨k10, hk10⟩ : ∃ x, kk + 10 = x := ⟨_, rfl⟩
  have hk10w : IntKind.i64.wrap ((kk : Int) + 10) = (k10 : Int) := by rw [IntKind.wrap_i64]; omega
  have hk10i : (kk : Int) + 10 = (k10 : Int) := by omega
  have HT8 := Lib.hid (show List.take (k8 - kk) (s.drop kk) = (s.drop kk).take 8 by rw [← hk8, Nat.add_sub_cancel_left])
  have HT88 := Lib.hid (show ((s.drop kk).take 8).length ≤ 8 by rw [List.length_take]; omega)
  have HT2 := Lib.hid (show List.take (k10 - k8) (s.drop k8) = (s.drop k8).take 2 by rw [show k10 - k8 = 2 by omega])
  have HT28 := Lib.hid (show ((s.drop k8).take 2).length ≤ 8 by rw [List.length_take]; omega)
  have HP := Lib.hid (show sInt ((s.drop kk).take 8) = p by exact hp)
  have HE := Lib.hid (show sInt ((s.drop k8).take 2) = e by rw [← hk8]; exact he)
  have ikkk8 : (kk : Int) ≤ (k8 : Int) := by omega
  have nkkk8 : kk ≤ k8 := by omega
  have ik8k10 : (k8 : Int) ≤ (k10 : Int) := by omega
  have nk8k10 : k8 ≤ k10 := by omega
  have ikkk10 : (kk : Int) ≤ (k10 : Int) := by omega
  have nkkk10 : kk ≤ k10 := by omega
  have lk8 : (k8 : Int) ≤ (s.length : Int) := by omega
  have lk10 : (k10 : Int) ≤ (s.length : Int) := by omega
  have HR := Lib.hid (show topsR (s.drop k10) = (l, mm, 0) by rw [← hk10]; exact hr)
  have HTE := Lib.hid (takeEnd s k10)
  have HXX := Lib.hid (show (s.drop k10).length ≤ 1000000 by rw [List.length_drop]; omega)
  have hmi : (mm : Int) ≤ 1000000 := by omega
  obtain ⟨kE, hkE⟩ : ∃ x, k10 + mm = x := ⟨_, rfl⟩
  have hkEw : IntKind.i64.wrap ((k10 : Int) + (mm : Int)) = (kE : Int) := by rw [IntKind.wrap_i64]; omega
  have hkEi : (k10 : Int) + mm = (kE : Int) := by omega
  have HFLL := Lib.hid (show FewL l from topsP_few (topsR_ok hr) (by rw [List.length_drop]; omega))
  have HEE := Lib.hid hE
  have hmany : (kk + 10 + mm : Nat) = kE := by omega
  rw [hmany]
  clear h g1 hv hkl hp he hs10 hr hml hE
  go_enter Try.func44, Try.ntmps44
  go_wp2_with (first
    | (go_at_call 81; clear c0 d0 r0 c1 d1 r1 c2 d2 r2 c3 d3 r3 c4 d4 r4 c5 d5 r5 c6 d6 r6; (with_reducible refine (ref04_fixOk _ s false d kk rfl HX.out HV.out H.out).mono ?_); rintro e_ wn ⟨rfl, h⟩; obtain ⟨gb, hgb⟩ : ∃ b, wn.heap.size = b := ⟨_, rfl⟩; obtain ⟨qb, hqb⟩ : ∃ b, gb + 1 = b := ⟨_, rfl⟩; have h := (h.allocRaw #[.bool false, .string (bb d), .int .i64 kk, .int .i64 0] 128).allocRaw #[.bool false, .string (bb d), .int .i64 0, .int .i64 (-1), .int .i64 (-1), .slice none 0 0, .bool false] 66; simp only [World.size_alloc, hgb, hqb] at h; have y0 := h.p1.rawCell 0; have y1 := h.p1.rawCell 1; have y2 := h.p1.rawCell 2; have y3 := h.p1.rawCell 3; simp at y0 y1 y2 y3; have c0 := h.p2.rawCell 0; have c1 := h.p2.rawCell 1; have c2 := h.p2.rawCell 2; have c3 := h.p2.rawCell 3; have c4 := h.p2.rawCell 4; have c5 := h.p2.rawCell 5; have c6 := h.p2.rawCell 6; simp at c0 c1 c2 c3 c4 c5 c6; have d0 := h.p3.rawCell 0; have r0 := h.p3.rawFree 0; have d1 := h.p3.rawCell 1; have r1 := h.p3.rawFree 1; have d2 := h.p3.rawCell 2; have r2 := h.p3.rawFree 2; have d3 := h.p3.rawCell 3; have r3 := h.p3.rawFree 3; have d4 := h.p3.rawCell 4; have r4 := h.p3.rawFree 4; have d5 := h.p3.rawCell 5; have r5 := h.p3.rawFree 5; have d6 := h.p3.rawCell 6; have r6 := h.p3.rawFree 6; simp at d0 d1 d2 d3 d4 d5 d6; replace H := Lib.hid h; clear h)
    | (go_at_call 76; (with_reducible refine (sr_intT _ ((s.drop kk).take 8) HT8.out p HP.out HT88.out H.out).mono ?_); rintro e_ wn ⟨rfl, h⟩; clear c0 d0 r0 c1 d1 r1 c2 d2 r2 c3 d3 r3 c4 d4 r4 c5 d5 r5 c6 d6 r6; have f3 := h.rawFree 3; have q3 := h.rawCell 3; simp at q3; have h := (show St W0 (wn.setCell ⟨qb, 3, none⟩ (.int .i64 p)) K (.raw qb #[.bool false, .string (bb d), .int .i64 0, .int .i64 p, .int .i64 (-1), .slice none 0 0, .bool false] 66 :: _) from h.rawSet 3 (.int .i64 p)); have c0 := h.p2.rawCell 0; have c1 := h.p2.rawCell 1; have c2 := h.p2.rawCell 2; have c3 := h.p2.rawCell 3; have c4 := h.p2.rawCell 4; have c5 := h.p2.rawCell 5; have c6 := h.p2.rawCell 6; simp at c0 c1 c2 c3 c4 c5 c6; have d0 := h.p3.rawCell 0; have r0 := h.p3.rawFree 0; have d1 := h.p3.rawCell 1; have r1 := h.p3.rawFree 1; have d2 := h.p3.rawCell 2; have r2 := h.p3.rawFree 2; have d3 := h.p3.rawCell 3; have r3 := h.p3.rawFree 3; have d4 := h.p3.rawCell 4; have r4 := h.p3.rawFree 4; have d5 := h.p3.rawCell 5; have r5 := h.p3.rawFree 5; have d6 := h.p3.rawCell 6; have r6 := h.p3.rawFree 6; simp at d0 d1 d2 d3 d4 d5 d6; replace H := Lib.hid h; clear h)
    | (go_at_call 76; (with_reducible refine (sr_intT _ ((s.drop k8).take 2) HT2.out e HE.out HT28.out H.out).mono ?_); rintro e_ wn ⟨rfl, h⟩; clear c0 d0 r0 c1 d1 r1 c2 d2 r2 c3 d3 r3 c4 d4 r4 c5 d5 r5 c6 d6 r6; have f4 := h.rawFree 4; have q4 := h.rawCell 4; simp at q4; have h := (show St W0 (wn.setCell ⟨qb, 4, none⟩ (.int .i64 e)) K (.raw qb #[.bool false, .string (bb d), .int .i64 0, .int .i64 p, .int .i64 e, .slice none 0 0, .bool false] 66 :: _) from h.rawSet 4 (.int .i64 e)); have c0 := h.p2.rawCell 0; have c1 := h.p2.rawCell 1; have c2 := h.p2.rawCell 2; have c3 := h.p2.rawCell 3; have c4 := h.p2.rawCell 4; have c5 := h.p2.rawCell 5; have c6 := h.p2.rawCell 6; simp at c0 c1 c2 c3 c4 c5 c6; have d0 := h.p3.rawCell 0; have r0 := h.p3.rawFree 0; have d1 := h.p3.rawCell 1; have r1 := h.p3.rawFree 1; have d2 := h.p3.rawCell 2; have r2 := h.p3.rawFree 2; have d3 := h.p3.rawCell 3; have r3 := h.p3.rawFree 3; have d4 := h.p3.rawCell 4; have r4 := h.p3.rawFree 4; have d5 := h.p3.rawCell 5; have r5 := h.p3.rawFree 5; have d6 := h.p3.rawCell 6; have r6 := h.p3.rawFree 6; simp at d0 d1 d2 d3 d4 d5 d6; replace H := Lib.hid h; clear h)
    | (go_at_call 26; (with_reducible refine (ref14_readTopicsT _ (s.drop k10) HTE.out HXX.out l mm 0 HR.out H.out).mono ?_); rintro e_ wn ⟨v_, lr, rfl, hlr, h⟩; clear c0 d0 r0 c1 d1 r1 c2 d2 r2 c3 d3 r3 c4 d4 r4 c5 d5 r5 c6 d6 r6; obtain ⟨q, cap, rfl⟩ := tops_form (Know.has_right (Know.has_refl _)) h; have HLR := Lib.hid hlr; clear hlr; have f5 := h.rawFree 5; have q5 := h.rawCell 5; simp at q5; have h := (show St W0 (wn.setCell ⟨qb, 5, none⟩ (.slice q lr.length cap)) (K.and (Know.tops (.slice q lr.length cap) lr)) (.raw qb #[.bool false, .string (bb d), .int .i64 0, .int .i64 p, .int .i64 e, .slice q lr.length cap, .bool false] 66 :: _) from h.rawSet 5 (.slice q lr.length cap)); have x0 := h.rawCell 0; have x1 := h.rawCell 1; have x2 := h.rawCell 2; have x3 := h.rawCell 3; have x4 := h.rawCell 4; have x5 := h.rawCell 5; have x6 := h.rawCell 6; simp at x0 x1 x2 x3 x4 x5 x6; have c0 := h.p2.rawCell 0; have c1 := h.p2.rawCell 1; have c2 := h.p2.rawCell 2; have c3 := h.p2.rawCell 3; have c4 := h.p2.rawCell 4; have c5 := h.p2.rawCell 5; have c6 := h.p2.rawCell 6; simp at c0 c1 c2 c3 c4 c5 c6; have d0 := h.p3.rawCell 0; have r0 := h.p3.rawFree 0; have d1 := h.p3.rawCell 1; have r1 := h.p3.rawFree 1; have d2 := h.p3.rawCell 2; have r2 := h.p3.rawFree 2; have d3 := h.p3.rawCell 3; have r3 := h.p3.rawFree 3; have d4 := h.p3.rawCell 4; have r4 := h.p3.rawFree 4; have d5 := h.p3.rawCell 5; have r5 := h.p3.rawFree 5; have d6 := h.p3.rawCell 6; have r6 := h.p3.rawFree 6; simp at d0 d1 d2 d3 d4 d5 d6; replace H := Lib.hid h; clear h)
    | (go_at_call 40; clear x0 x1 x2 x3 x4 x5 x6; (with_reducible refine (ref18_check24N v d p e lr q cap 0 (by rw [HLR.out]; exact HEE.out) (fewT_of (by rw [HLR.out]; exact HFLL.out)) (Know.has_right (Know.has_refl _)) H.out).mono ?_); rintro e_ wn ⟨rfl, h⟩; clear c0 d0 r0 c1 d1 r1 c2 d2 r2 c3 d3 r3 c4 d4 r4 c5 d5 r5 c6 d6 r6; have x0 := h.rawCell 0; have x1 := h.rawCell 1; have x2 := h.rawCell 2; have x3 := h.rawCell 3; have x4 := h.rawCell 4; have x5 := h.rawCell 5; have x6 := h.rawCell 6; simp at x0 x1 x2 x3 x4 x5 x6; have c0 := h.p2.rawCell 0; have c1 := h.p2.rawCell 1; have c2 := h.p2.rawCell 2; have c3 := h.p2.rawCell 3; have c4 := h.p2.rawCell 4; have c5 := h.p2.rawCell 5; have c6 := h.p2.rawCell 6; simp at c0 c1 c2 c3 c4 c5 c6; have d0 := h.p3.rawCell 0; have r0 := h.p3.rawFree 0; have d1 := h.p3.rawCell 1; have r1 := h.p3.rawFree 1; have d2 := h.p3.rawCell 2; have r2 := h.p3.rawFree 2; have d3 := h.p3.rawCell 3; have r3 := h.p3.rawFree 3; have d4 := h.p3.rawCell 4; have r4 := h.p3.rawFree 4; have d5 := h.p3.rawCell 5; have r5 := h.p3.rawFree 5; have d6 := h.p3.rawCell 6; have r6 := h.p3.rawFree 6; simp at d0 d1 d2 d3 d4 d5 d6; replace H := Lib.hid h; clear h))
  have hz : St W0 _ _ (.raw rb #[.bool false, .string (bb d), .int .i64 0, .int .i64 p, .int .i64 e, .slice q lr.length cap, .bool false] 66 :: _) := St.sets7 _ _ _ _ _ _ _ (H.out.p3)
  refine bodyPost_ret (rc_cell_tmp3 rfl _ _ rb [.bool false, .string (bb d), .int .i64 0, .int .i64 p, .int .i64 e, .slice q lr.length cap, .bool false] _ rfl (rc_range hz) Try.underlying66 rfl (by kernel_rfl)) rfl ?_
  exact ⟨q, cap, lr, rfl, HLR.out, hz.drop.drop.drop.drop⟩

end Go.Proofs.Ytombolmicfjjpaa
