/- Requests of transactions: are they whole. -/
import Derived.Test.YtombolmicfjjpaaGTxnReads10
import Derived.RegionTactic
import Derived.Deep.RegionHeld3
import Derived.Deep.DeepCutAuto
import Derived.Test.YtombolmicfjjpaaGTxnReads6
import Derived.Test.YtombolmicfjjpaaGTxnReads5
import Derived.Handy
/- End, read by definition. -/
namespace Go.Proofs.Ytombolmicfjjpaa
open Go.RowKit

set_option maxHeartbeats 8000000 in
set_option maxRecDepth 100000 in
theorem r18_26_err (v : Int) (s : Bs) (hsl : s.length ≤ 2000) (ef : Int) (hv : refixed 2 s = .error ef) (h0 : ef ≠ 0) {W0 w : World} {K : Know} {L : List Res} (h : St W0 w K L) :
    Calls Try.prog 44 #[.int .i64 26, .int .i64 v, .string (bb s)] w fun en w' => en = .returned (.tuple #[.agg #[.bool false, .string ⟨#[]⟩, .int .i64 0, .int .i64 0, .int .i64 0, .slice none 0 0, .bool false], .int .i64 0, .int .i64 ef]) ∧ St W0 w' K L := by
  obtain ⟨rb, hrb⟩ : ∃ b, w.heap.size = b := ⟨_, rfl⟩
  obtain ⟨nb, hnb⟩ : ∃ b, rb + 1 = b := ⟨_, rfl⟩
  have g1 := (h.allocRaw #[.bool false, .string ⟨#[]⟩, .int .i64 0, .int .i64 0, .int .i64 0, .slice none 0 0, .bool false] 66).allocRaw #[.bool false, .string ⟨#[]⟩, .int .i64 0, .int .i64 0, .int .i64 0, .slice none 0 0, .bool false] 66
  simp only [World.size_alloc, hrb, hnb] at g1
  have H := Lib.hid g1
  have HX := Lib.hid (show s.length ≤ 140737488355328 by omega)
  have c0 := g1.rawCell 0; have c1 := g1.rawCell 1; have c2 := g1.rawCell 2; have c3 := g1.rawCell 3; have c4 := g1.rawCell 4; have c5 := g1.rawCell 5; have c6 := g1.rawCell 6; simp at c0 c1 c2 c3 c4 c5 c6
  have d0 := g1.p1.rawCell 0; have r0 := g1.p1.rawFree 0; have d1 := g1.p1.rawCell 1; have r1 := g1.p1.rawFree 1; have d2 := g1.p1.rawCell 2; have r2 := g1.p1.rawFree 2; have d3 := g1.p1.rawCell 3; have r3 := g1.p1.rawFree 3; have d4 := g1.p1.rawCell 4; have r4 := g1.p1.rawFree 4; have d5 := g1.p1.rawCell 5; have r5 := g1.p1.rawFree 5; have d6 := g1.p1.rawCell 6; have r6 := g1.p1.rawFree 6; simp at d0 d1 d2 d3 d4 d5 d6
  have HV := Lib.hid hv
  have g1 : (ef == 0) = false := by rw [beq_eq_false_iff_ne]; exact h0
  have g2 : (ef != 0) = true := by simp [bne, g1]
  clear h g1 hv h0
  go_enter Try.func44, Try.ntmps44
  go_wp2_with (go_at_call 81; clear c0 d0 r0 c1 d1 r1 c2 d2 r2 c3 d3 r3 c4 d4 r4 c5 d5 r5 c6 d6 r6; (with_reducible refine (ref04_fixErr _ s ef rfl HX.out HV.out H.out).mono ?_); rintro e_ wn ⟨rfl, h⟩; obtain ⟨gb, hgb⟩ : ∃ b, wn.heap.size = b := ⟨_, rfl⟩; have h := h.allocRaw #[.bool false, .string ⟨#[]⟩, .int .i64 0, .int .i64 ef] 128; rw [hgb] at h; have c0 := h.p1.rawCell 0; have c1 := h.p1.rawCell 1; have c2 := h.p1.rawCell 2; have c3 := h.p1.rawCell 3; have c4 := h.p1.rawCell 4; have c5 := h.p1.rawCell 5; have c6 := h.p1.rawCell 6; simp at c0 c1 c2 c3 c4 c5 c6; have d0 := h.p2.rawCell 0; have r0 := h.p2.rawFree 0; have d1 := h.p2.rawCell 1; have r1 := h.p2.rawFree 1; have d2 := h.p2.rawCell 2; have r2 := h.p2.rawFree 2; have d3 := h.p2.rawCell 3; have r3 := h.p2.rawFree 3; have d4 := h.p2.rawCell 4; have r4 := h.p2.rawFree 4; have d5 := h.p2.rawCell 5; have r5 := h.p2.rawFree 5; have d6 := h.p2.rawCell 6; have r6 := h.p2.rawFree 6; simp at d0 d1 d2 d3 d4 d5 d6; replace H := Lib.hid h; clear h)
  clear c0 d0 r0 c1 d1 r1 c2 d2 r2 c3 d3 r3 c4 d4 r4 c5 d5 r5 c6 d6 r6
  have hs := H.out.drew
  have HKQ := Lib.hid (show ∀ w', St W0 w' K (.raw gb #[.bool false, .string ⟨#[]⟩, .int .i64 0, .int .i64 ef] 128 :: .raw nb #[.bool false, .string ⟨#[]⟩, .int .i64 0, .int .i64 0, .int .i64 0, .slice none 0 0, .bool false] 66 :: .raw rb #[.bool false, .string ⟨#[]⟩, .int .i64 0, .int .i64 0, .int .i64 0, .slice none 0 0, .bool false] 66 :: L) → (w'.cell? ⟨nb, 0, none⟩ = some (.bool false) ∧ w'.cell? ⟨nb, 1, none⟩ = some (.string ⟨#[]⟩) ∧ w'.cell? ⟨nb, 2, none⟩ = some (.int .i64 0) ∧ w'.cell? ⟨nb, 3, none⟩ = some (.int .i64 0) ∧ w'.cell? ⟨nb, 4, none⟩ = some (.int .i64 0) ∧ w'.cell? ⟨nb, 5, none⟩ = some (.slice none 0 0) ∧ w'.cell? ⟨nb, 6, none⟩ = some (.bool false) ∧ w'.cell? ⟨gb, 3, none⟩ = some (.int .i64 ef)) from fun w' hs => ⟨hs.p1.rawCell 0, hs.p1.rawCell 1, hs.p1.rawCell 2, hs.p1.rawCell 3, hs.p1.rawCell 4, hs.p1.rawCell 5, hs.p1.rawCell 6, hs.rawCell 3⟩)
  refine wp_region_held_drew (S := fun w' => w'.cell? ⟨nb, 0, none⟩ = some (.bool false) ∧ w'.cell? ⟨nb, 1, none⟩ = some (.string ⟨#[]⟩) ∧ w'.cell? ⟨nb, 2, none⟩ = some (.int .i64 0) ∧ w'.cell? ⟨nb, 3, none⟩ = some (.int .i64 0) ∧ w'.cell? ⟨nb, 4, none⟩ = some (.int .i64 0) ∧ w'.cell? ⟨nb, 5, none⟩ = some (.slice none 0 0) ∧ w'.cell? ⟨nb, 6, none⟩ = some (.bool false) ∧ w'.cell? ⟨gb, 3, none⟩ = some (.int .i64 ef)) (by kernel_rfl) (HKQ.out _ hs) (fun hHeld => ?_)
  refine wpAnyH_take (i := 0) (oi := { dst := some 23, op := Op.load 66 (Operand.tmp 9), type := 66, pos := "ref.go:81", after := #[], guard := none }) (v := ?_) rfl (by kernel_rfl) (by kernel_rfl) (by kernel_rfl) (fun _ _ _ h => h) (Or.inl ⟨by rfl, ?_⟩) (by assumption) ?_
  rotate_left
  · intro w hSw; (try dsimp only at hSw); go_simp; try with_reducible rfl
  simp only [Act.put, List.setIfInBounds_toArray, List.set_cons_zero, List.set_cons_succ]
  refine wpAnyH_take (i := 1) (oi := { dst := some 24, op := Op.fieldAddr 128 (Operand.tmp 10) 2, type := 0, pos := "ref.go:81", after := #[{ on := 4, ground := Ground.gcOnly Departure.lateStores }], guard := none }) (v := ?_) rfl (by kernel_rfl) (by kernel_rfl) (by kernel_rfl) (fun _ _ _ h => h) (Or.inl ⟨by rfl, ?_⟩) (by assumption) ?_
  rotate_left
  · intro w hSw; (try dsimp only at hSw); go_simp; try with_reducible rfl
  simp only [Act.put, List.setIfInBounds_toArray, List.set_cons_zero, List.set_cons_succ]
  refine wpAnyH_take (i := 2) (oi := { dst := some 25, op := Op.load 3 (Operand.tmp 24), type := 3, pos := "ref.go:81", after := #[{ on := 1, ground := Ground.data }, { on := 4, ground := Ground.gcOnly Departure.lateStores }], guard := none }) (v := ?_) rfl (by kernel_rfl) (by kernel_rfl) (by kernel_rfl) (fun _ _ _ h => h) (Or.inl ⟨by rfl, ?_⟩) (by assumption) ?_
  rotate_left
  · intro w hSw; (try dsimp only at hSw); go_simp; try with_reducible rfl
  simp only [Act.put, List.setIfInBounds_toArray, List.set_cons_zero, List.set_cons_succ]
  refine wpAnyH_ready (rs := [3]) (by kernel_rfl) (by simp) (AllReadyH.cons (o := { dst := none, op := Op.store 66 (Operand.tmp 6) (Operand.tmp 23), type := 0, pos := "ref.go:81", after := #[{ on := 0, ground := Ground.data }, { on := 0, ground := Ground.phase }, { on := 1, ground := Ground.textOnly Departure.lateStores }, { on := 2, ground := Ground.textOnly Departure.lateStores }], guard := none }) rfl (fun KK hK => ?_) AllReadyH.nil)
  · have hs := hs.p2
    rw [if_pos (by rfl)]
    refine wp_store_mid 66 (.tmp 6) (.tmp 23) rfl rb 0 #[.bool false, .string ⟨#[]⟩, .int .i64 0, .int .i64 0, .int .i64 0, .slice none 0 0, .bool false] (by rfl) (by rfl) hs.there (by kernel_rfl) (by simp [Value.oneCell']) ?_
    obtain ⟨wz, ez, hs⟩ := hs.storeEx #[.bool false, .string ⟨#[]⟩, .int .i64 0, .int .i64 0, .int .i64 0, .slice none 0 0, .bool false]
    rw [ez]
    clear ez
    rw [setAll_allV] at hs
    rotate_left
    · rfl
    have hs := hs.p2.p2
    refine hK.out _ _ (HKQ.out _ hs) (fun hHeld => ?_)
    clear hK KK
    try simp only [Act.put, List.setIfInBounds_toArray, List.set_cons_zero, List.set_cons_succ]
    refine wpAnyH_take (i := 4) (oi := { dst := some 7, op := Op.assign (Operand.const (Value.int IntKind.i64 0)), type := 3, pos := "ref.go:81", after := #[{ on := 3, ground := Ground.chain }, { on := 0, ground := Ground.phase }, { on := 1, ground := Ground.textOnly Departure.lateStores }, { on := 2, ground := Ground.textOnly Departure.lateStores }, { on := 3, ground := Ground.phase }], guard := none }) (v := ?_) rfl (by kernel_rfl) (by kernel_rfl) (by kernel_rfl) (fun _ _ _ h => h) (Or.inl ⟨by rfl, ?_⟩) (by assumption) ?_
    rotate_left
    · intro w hSw; (try dsimp only at hSw); go_simp; try with_reducible rfl
    simp only [Act.put, List.setIfInBounds_toArray, List.set_cons_zero, List.set_cons_succ]
    refine wpAnyH_take (i := 5) (oi := { dst := some 8, op := Op.assign (Operand.tmp 25), type := 3, pos := "ref.go:81", after := #[{ on := 2, ground := Ground.data }, { on := 4, ground := Ground.chain }, { on := 0, ground := Ground.phase }, { on := 1, ground := Ground.phase }, { on := 2, ground := Ground.phase }, { on := 3, ground := Ground.phase }, { on := 4, ground := Ground.phase }], guard := none }) (v := ?_) rfl (by kernel_rfl) (by kernel_rfl) (by kernel_rfl) (fun _ _ _ h => h) (Or.inl ⟨by rfl, ?_⟩) (by assumption) ?_
    rotate_left
    · intro w hSw; (try dsimp only at hSw); go_simp; try with_reducible rfl
    simp only [Act.put, List.setIfInBounds_toArray, List.set_cons_zero, List.set_cons_succ]
    refine wpAnyH_done (by kernel_rfl) ?_ _
    clear hHeld
    have hz := hs.p2
    go_wp2_with fail
    refine bodyPost_ret (rc_cell_tmp3 rfl _ _ rb [.bool false, .string ⟨#[]⟩, .int .i64 0, .int .i64 0, .int .i64 0, .slice none 0 0, .bool false] _ rfl (rc_range hz) Try.underlying66 rfl (by kernel_rfl)) rfl ?_
    exact ⟨rfl, hz.drop.drop.drop⟩

set_option maxHeartbeats 8000000 in
set_option maxRecDepth 100000 in
theorem r18_26_null (v : Int) (s : Bs) (hsl : s.length ≤ 2000) (kk : Nat) (d : Bs) (hv : refixed 2 s = .ok (⟨true, d⟩, kk)) (hkl : kk ≤ s.length) {W0 w : World} {K : Know} {L : List Res} (h : St W0 w K L) :
    Calls Try.prog 44 #[.int .i64 26, .int .i64 v, .string (bb s)] w fun en w' => en = .returned (.tuple #[.agg #[.bool false, .string ⟨#[]⟩, .int .i64 0, .int .i64 0, .int .i64 0, .slice none 0 0, .bool false], .int .i64 0, .int .i64 4]) ∧ St W0 w' K L := by
  obtain ⟨rb, hrb⟩ : ∃ b, w.heap.size = b := ⟨_, rfl⟩
  obtain ⟨nb, hnb⟩ : ∃ b, rb + 1 = b := ⟨_, rfl⟩
  have g1 := (h.allocRaw #[.bool false, .string ⟨#[]⟩, .int .i64 0, .int .i64 0, .int .i64 0, .slice none 0 0, .bool false] 66).allocRaw #[.bool false, .string ⟨#[]⟩, .int .i64 0, .int .i64 0, .int .i64 0, .slice none 0 0, .bool false] 66
  simp only [World.size_alloc, hrb, hnb] at g1
  have H := Lib.hid g1
  have HX := Lib.hid (show s.length ≤ 140737488355328 by omega)
  have c0 := g1.rawCell 0; have c1 := g1.rawCell 1; have c2 := g1.rawCell 2; have c3 := g1.rawCell 3; have c4 := g1.rawCell 4; have c5 := g1.rawCell 5; have c6 := g1.rawCell 6; simp at c0 c1 c2 c3 c4 c5 c6
  have d0 := g1.p1.rawCell 0; have r0 := g1.p1.rawFree 0; have d1 := g1.p1.rawCell 1; have r1 := g1.p1.rawFree 1; have d2 := g1.p1.rawCell 2; have r2 := g1.p1.rawFree 2; have d3 := g1.p1.rawCell 3; have r3 := g1.p1.rawFree 3; have d4 := g1.p1.rawCell 4; have r4 := g1.p1.rawFree 4; have d5 := g1.p1.rawCell 5; have r5 := g1.p1.rawFree 5; have d6 := g1.p1.rawCell 6; have r6 := g1.p1.rawFree 6; simp at d0 d1 d2 d3 d4 d5 d6
  have HV := Lib.hid hv
  have hki : (kk : Int) ≤ (s.length : Int) := by omega
  have hw0 : IntKind.i64.wrap ((s.length : Int) - (kk : Int)) = (s.length : Int) - (kk : Int) := by rw [IntKind.wrap_i64]; omega
  clear h g1 hv hkl
  go_enter Try.func44, Try.ntmps44
  go_wp2_with (go_at_call 81; clear c0 d0 r0 c1 d1 r1 c2 d2 r2 c3 d3 r3 c4 d4 r4 c5 d5 r5 c6 d6 r6; (with_reducible refine (ref04_fixOk _ s true d kk rfl HX.out HV.out H.out).mono ?_); rintro e_ wn ⟨rfl, h⟩; obtain ⟨gb, hgb⟩ : ∃ b, wn.heap.size = b := ⟨_, rfl⟩; have h := h.allocRaw #[.bool true, .string (bb d), .int .i64 kk, .int .i64 0] 128; rw [hgb] at h; have c0 := h.p1.rawCell 0; have c1 := h.p1.rawCell 1; have c2 := h.p1.rawCell 2; have c3 := h.p1.rawCell 3; have c4 := h.p1.rawCell 4; have c5 := h.p1.rawCell 5; have c6 := h.p1.rawCell 6; simp at c0 c1 c2 c3 c4 c5 c6; have d0 := h.p2.rawCell 0; have r0 := h.p2.rawFree 0; have d1 := h.p2.rawCell 1; have r1 := h.p2.rawFree 1; have d2 := h.p2.rawCell 2; have r2 := h.p2.rawFree 2; have d3 := h.p2.rawCell 3; have r3 := h.p2.rawFree 3; have d4 := h.p2.rawCell 4; have r4 := h.p2.rawFree 4; have d5 := h.p2.rawCell 5; have r5 := h.p2.rawFree 5; have d6 := h.p2.rawCell 6; have r6 := h.p2.rawFree 6; simp at d0 d1 d2 d3 d4 d5 d6; replace H := Lib.hid h; clear h)
  have hz : St W0 _ _ (.raw rb #[.bool false, .string ⟨#[]⟩, .int .i64 0, .int .i64 0, .int .i64 0, .slice none 0 0, .bool false] 66 :: _) := St.sets7 _ _ _ _ _ _ _ (H.out.p2)
  refine bodyPost_ret (rc_cell_tmp3 rfl _ _ rb [.bool false, .string ⟨#[]⟩, .int .i64 0, .int .i64 0, .int .i64 0, .slice none 0 0, .bool false] _ rfl (rc_range hz) Try.underlying66 rfl (by kernel_rfl)) rfl ?_
  exact ⟨rfl, hz.drop.drop.drop⟩

set_option maxHeartbeats 8000000 in
set_option maxRecDepth 100000 in
theorem r18_26_s10 (v : Int) (s : Bs) (hsl : s.length ≤ 2000) (kk : Nat) (d : Bs) (hv : refixed 2 s = .ok (⟨false, d⟩, kk)) (hkl : kk ≤ s.length) (hs10 : s.length < kk + 10) {W0 w : World} {K : Know} {L : List Res} (h : St W0 w K L) :
    Calls Try.prog 44 #[.int .i64 26, .int .i64 v, .string (bb s)] w fun en w' => en = .returned (.tuple #[.agg #[.bool false, .string ⟨#[]⟩, .int .i64 0, .int .i64 0, .int .i64 0, .slice none 0 0, .bool false], .int .i64 0, .int .i64 1]) ∧ St W0 w' K L := by
  obtain ⟨rb, hrb⟩ : ∃ b, w.heap.size = b := ⟨_, rfl⟩
  obtain ⟨nb, hnb⟩ : ∃ b, rb + 1 = b := ⟨_, rfl⟩
  have g1 := (h.allocRaw #[.bool false, .string ⟨#[]⟩, .int .i64 0, .int .i64 0, .int .i64 0, .slice none 0 0, .bool false] 66).allocRaw #[.bool false, .string ⟨#[]⟩, .int .i64 0, .int .i64 0, .int .i64 0, .slice none 0 0, .bool false] 66
  simp only [World.size_alloc, hrb, hnb] at g1
  have H := Lib.hid g1
  have HX := Lib.hid (show s.length ≤ 140737488355328 by omega)
  have c0 := g1.rawCell 0; have c1 := g1.rawCell 1; have c2 := g1.rawCell 2; have c3 := g1.rawCell 3; have c4 := g1.rawCell 4; have c5 := g1.rawCell 5; have c6 := g1.rawCell 6; simp at c0 c1 c2 c3 c4 c5 c6
  have d0 := g1.p1.rawCell 0; have r0 := g1.p1.rawFree 0; have d1 := g1.p1.rawCell 1; have r1 := g1.p1.rawFree 1; have d2 := g1.p1.rawCell 2; have r2 := g1.p1.rawFree 2; have d3 := g1.p1.rawCell 3; have r3 := g1.p1.rawFree 3; have d4 := g1.p1.rawCell 4; have r4 := g1.p1.rawFree 4; have d5 := g1.p1.rawCell 5; have r5 := g1.p1.rawFree 5; have d6 := g1.p1.rawCell 6; have r6 := g1.p1.rawFree 6; simp at d0 d1 d2 d3 d4 d5 d6
  have HV := Lib.hid hv
  have hki : (kk : Int) ≤ (s.length : Int) := by omega
  have hw0 : IntKind.i64.wrap ((s.length : Int) - (kk : Int)) = (s.length : Int) - (kk : Int) := by rw [IntKind.wrap_i64]; omega
  have hsj : (s.length : Int) - (kk : Int) < 10 := by omega
  clear h g1 hv hkl hs10
  go_enter Try.func44, Try.ntmps44
  go_wp2_with (first
    | (go_at_call 81; clear c0 d0 r0 c1 d1 r1 c2 d2 r2 c3 d3 r3 c4 d4 r4 c5 d5 r5 c6 d6 r6; (with_reducible refine (ref04_fixOk _ s false d kk rfl HX.out HV.out H.out).mono ?_); rintro e_ wn ⟨rfl, h⟩; obtain ⟨gb, hgb⟩ : ∃ b, wn.heap.size = b := ⟨_, rfl⟩; obtain ⟨qb, hqb⟩ : ∃ b, gb + 1 = b := ⟨_, rfl⟩; have h := (h.allocRaw #[.bool false, .string (bb d), .int .i64 kk, .int .i64 0] 128).allocRaw #[.bool false, .string (bb d), .int .i64 0, .int .i64 (-1), .int .i64 (-1), .slice none 0 0, .bool false] 66; simp only [World.size_alloc, hgb, hqb] at h; have y0 := h.p1.rawCell 0; have y1 := h.p1.rawCell 1; have y2 := h.p1.rawCell 2; have y3 := h.p1.rawCell 3; simp at y0 y1 y2 y3; have c0 := h.p2.rawCell 0; have c1 := h.p2.rawCell 1; have c2 := h.p2.rawCell 2; have c3 := h.p2.rawCell 3; have c4 := h.p2.rawCell 4; have c5 := h.p2.rawCell 5; have c6 := h.p2.rawCell 6; simp at c0 c1 c2 c3 c4 c5 c6; have d0 := h.p3.rawCell 0; have r0 := h.p3.rawFree 0; have d1 := h.p3.rawCell 1; have r1 := h.p3.rawFree 1; have d2 := h.p3.rawCell 2; have r2 := h.p3.rawFree 2; have d3 := h.p3.rawCell 3; have r3 := h.p3.rawFree 3; have d4 := h.p3.rawCell 4; have r4 := h.p3.rawFree 4; have d5 := h.p3.rawCell 5; have r5 := h.p3.rawFree 5; have d6 := h.p3.rawCell 6; have r6 := h.p3.rawFree 6; simp at d0 d1 d2 d3 d4 d5 d6; replace H := Lib.hid h; clear h))
  have hz : St W0 _ _ (.raw rb #[.bool false, .string ⟨#[]⟩, .int .i64 0, .int .i64 0, .int .i64 0, .slice none 0 0, .bool false] 66 :: _) := St.sets7 _ _ _ _ _ _ _ (H.out.p3)
  refine bodyPost_ret (rc_cell_tmp3 rfl _ _ rb [.bool false, .string ⟨#[]⟩, .int .i64 0, .int .i64 0, .int .i64 0, .slice none 0 0, .bool false] _ rfl (rc_range hz) Try.underlying66 rfl (by kernel_rfl)) rfl ?_
  exact ⟨rfl, hz.drop.drop.drop.drop⟩

set_option maxHeartbeats 8000000 in
set_option maxRecDepth 100000 in
theorem r18_26_s1 (v : Int) (s : Bs) (hsl : s.length ≤ 2000) (kk : Nat) (d : Bs) (hv : refixed 2 s = .ok (⟨false, d⟩, kk)) (hkl : kk ≤ s.length) (hs10 : kk + 10 ≤ s.length) (p e : Int) (hp : sInt ((s.drop (kk)).take 8) = p) (he : sInt ((s.drop (kk + 8)).take 2) = e) (hs1 : s.length < kk + 10 + 1) {W0 w : World} {K : Know} {L : List Res} (h : St W0 w K L) :
    Calls Try.prog 44 #[.int .i64 26, .int .i64 v, .string (bb s)] w fun en w' => en = .returned (.tuple #[.agg #[.bool false, .string ⟨#[]⟩, .int .i64 0, .int .i64 0, .int .i64 0, .slice none 0 0, .bool false], .int .i64 0, .int .i64 1]) ∧ St W0 w' K L := by
  obtain ⟨rb, hrb⟩ : ∃ b, w.heap.size = b := ⟨_, rfl⟩
  obtain ⟨nb, hnb⟩ : ∃ b, rb + 1 = b := ⟨_, rfl⟩
  have g1 := (h.allocRaw #[.bool false, .string ⟨#[]⟩, .int .i64 0, .int .i64 0, .int .i64 0, .slice none 0 0, .bool false] 66).allocRaw #[.bool false, .string ⟨#[]⟩, .int .i64 0, .int .i64 0, .int .i64 0, .slice none 0 0, .bool false] 66
  simp only [World.size_alloc, hrb, hnb] at g1
  have H := Lib.hid g1
  have HX := Lib.hid (show s.length ≤ 140737488355328 by omega)
  have c0 := g1.rawCell 0; have c1 := g1.rawCell 1; have c2 := g1.rawCell 2; have c3 := g1.rawCell 3; have c4 := g1.rawCell 4; have c5 := g1.rawCell 5; have c6 := g1.rawCell 6; simp at c0 c1 c2 c3 c4 c5 c6
  have d0 := g1.p1.rawCell 0; have r0 := g1.p1.rawFree 0; have d1 := g1.p1.rawCell 1; have r1 := g1.p1.rawFree 1; have d2 := g1.p1.rawCell 2; have r2 := g1.p1.rawFree 2; have d3 := g1.p1.rawCell 3; have r3 := g1.p1.rawFree 3; have d4 := g1.p1.rawCell 4; have r4 := g1.p1.rawFree 4; have d5 := g1.p1.rawCell 5; have r5 := g1.p1.rawFree 5; have d6 := g1.p1.rawCell 6; have r6 := g1.p1.rawFree 6; simp at d0 d1 d2 d3 d4 d5 d6
  have HV := Lib.hid hv
  have hki : (kk : Int) ≤ (s.length : Int) := by omega
  have hw0 : IntKind.i64.wrap ((s.length : Int) - (kk : Int)) = (s.length : Int) - (kk : Int) := by rw [IntKind.wrap_i64]; omega
  have hsj : ¬ (s.length : Int) - (kk : Int) < 10 := by omega
  obtain ⟨k8, hk8⟩ : ∃ x, kk + 8 = x := ⟨_, rfl⟩
  have hk8w : IntKind.i64.wrap ((kk : Int) + 8) = (k8 : Int) := by rw [IntKind.wrap_i64]; omega
  have hk8i : (kk : Int) + 8 = (k8 : Int) := by omega
  obtain ⟨k10, hk10⟩ : ∃ x, kk + 10 = x := ⟨_, rfl⟩
  have hk10w : IntKind.i64.wrap ((kk : Int) + 10) = (k10 : Int) := by rw [IntKind.wrap_i64]; omega
  have hk10i : (kk : Int) + 10 = (k10 : Int) := by omega
  have HT8 := Lib.hid (show List.take (k8 - kk) (s.drop kk) = (s.drop kk).take 8 by rw [← hk8, Nat.add_sub_cancel_left])
  have HT88 := Lib.hid (show ((s.drop kk).take 8).length ≤ 8 by rw [List.length_take]; omega)
  have HT2 := Lib.hid (show List.take (k10 - k8) (s.drop k8) = (s.drop k8).take 2 by rw [show k10 - k8 = 2 by omega])
  have HT28 := Lib.hid (show ((s.drop k8).take 2).length ≤ 8 by rw [List.length_take]; omega)
  have HP := Lib.hid (show sInt ((s.drop kk).take 8) = p by exact hp)
  have HE := Lib.hid (show sInt ((s.drop k8).take 2) = e by rw [← hk8]; exact he)
  have ikkk8 : (kk : Int) ≤ (k8 : Int) := by omega
  have nkkk8 : kk ≤ k8 := by omega
  have ik8k10 : (k8 : Int) ≤ (k10 : Int) := by omega
  have nk8k10 : k8 ≤ k10 := by omega
  have ikkk10 : (kk : Int) ≤ (k10 : Int) := by omega
  have nkkk10 : kk ≤ k10 := by omega
  have lk8 : (k8 : Int) ≤ (s.length : Int) := by omega
  have lk10 : (k10 : Int) ≤ (s.length : Int) := by omega
  have hwB : IntKind.i64.wrap ((s.length : Int) - (k10 : Int)) = (s.length : Int) - (k10 : Int) := by rw [IntKind.wrap_i64]; omega
  have hsk : (s.length : Int) - (k10 : Int) < 1 := by omega
  clear h g1 hv hkl hp he hs10 hs1
  go_enter Try.func44, Try.ntmps44
  go_wp2_with (first
    | (go_at_call 81; clear c0 d0 r0 c1 d1 r1 c2 d2 r2 c3 d3 r3 c4 d4 r4 c5 d5 r5 c6 d6 r6; (with_reducible refine (ref04_fixOk _ s false d kk rfl HX.out HV.out H.out).mono ?_); rintro e_ wn ⟨rfl, h⟩; obtain ⟨gb, hgb⟩ : ∃ b, wn.heap.size = b := ⟨_, rfl⟩; obtain ⟨qb, hqb⟩ : ∃ b, gb + 1 = b := ⟨_, rfl⟩; have h := (h.allocRaw #[.bool false, .string (bb d), .int .i64 kk, .int .i64 0] 128).allocRaw #[.bool false, .string (bb d), .int .i64 0, .int .i64 (-1), .int .i64 (-1), .slice none 0 0, .bool false] 66; simp only [World.size_alloc, hgb, hqb] at h; have y0 := h.p1.rawCell 0; have y1 := h.p1.rawCell 1; have y2 := h.p1.rawCell 2; have y3 := h.p1.rawCell 3; simp at y0 y1 y2 y3; have c0 := h.p2.rawCell 0; have c1 := h.p2.rawCell 1; have c2 := h.p2.rawCell 2; have c3 := h.p2.rawCell 3; have c4 := h.p2.rawCell 4; have c5 := h.p2.rawCell 5; have c6 := h.p2.rawCell 6; simp at c0 c1 c2 c3 c4 c5 c6; have d0 := h.p3.rawCell 0; have r0 := h.p3.rawFree 0; have d1 := h.p3.rawCell 1; have r1 := h.p3.rawFree 1; have d2 := h.p3.rawCell 2; have r2 := h.p3.rawFree 2; have d3 := h.p3.rawCell 3; have r3 := h.p3.rawFree 3; have d4 := h.p3.rawCell 4; have r4 := h.p3.rawFree 4; have d5 := h.p3.rawCell 5; have r5 := h.p3.rawFree 5; have d6 := h.p3.rawCell 6; have r6 := h.p3.rawFree 6; simp at d0 d1 d2 d3 d4 d5 d6; replace H := Lib.hid h; clear h)
    | (go_at_call 76; (with_reducible refine (sr_intT _ ((s.drop kk).take 8) HT8.out p HP.out HT88.out H.out).mono ?_); rintro e_ wn ⟨rfl, h⟩; clear c0 d0 r0 c1 d1 r1 c2 d2 r2 c3 d3 r3 c4 d4 r4 c5 d5 r5 c6 d6 r6; have f3 := h.rawFree 3; have q3 := h.rawCell 3; simp at q3; have h := (show St W0 (wn.setCell ⟨qb, 3, none⟩ (.int .i64 p)) K (.raw qb #[.bool false, .string (bb d), .int .i64 0, .int .i64 p, .int .i64 (-1), .slice none 0 0, .bool false] 66 :: _) from h.rawSet 3 (.int .i64 p)); have c0 := h.p2.rawCell 0; have c1 := h.p2.rawCell 1; have c2 := h.p2.rawCell 2; have c3 := h.p2.rawCell 3; have c4 := h.p2.rawCell 4; have c5 := h.p2.rawCell 5; have c6 := h.p2.rawCell 6; simp at c0 c1 c2 c3 c4 c5 c6; have d0 := h.p3.rawCell 0; have r0 := h.p3.rawFree 0; have d1 := h.p3.rawCell 1; have r1 := h.p3.rawFree 1; have d2 := h.p3.rawCell 2; have r2 := h.p3.rawFree 2; have d3 := h.p3.rawCell 3; have r3 := h.p3.rawFree 3; have d4 := h.p3.rawCell 4; have r4 := h.p3.rawFree 4; have d5 := h.p3.rawCell 5; have r5 := h.p3.rawFree 5; have d6 := h.p3.rawCell 6; have r6 := h.p3.rawFree 6; simp at d0 d1 d2 d3 d4 d5 d6; replace H := Lib.hid h; clear h)
    | (go_at_call 76; (with_reducible refine (sr_intT _ ((s.drop k8).take 2) HT2.out e HE.out HT28.out H.out).mono ?_); rintro e_ wn ⟨rfl, h⟩; clear c0 d0 r0 c1 d1 r1 c2 d2 r2 c3 d3 r3 c4 d4 r4 c5 d5 r5 c6 d6 r6; have f4 := h.rawFree 4; have q4 := h.rawCell 4; simp at q4; have h := (show St W0 (wn.setCell ⟨qb, 4, none⟩ (.int .i64 e)) K (.raw qb #[.bool false, .string (bb d), .int .i64 0, .int .i64 p, .int .i64 e, .slice none 0 0, .bool false] 66 :: _) from h.rawSet 4 (.int .i64 e)); have f6 := h.rawFree 6; have q6 := h.rawCell 6; simp at q6; have c0 := h.p2.rawCell 0; have c1 := h.p2.rawCell 1; have c2 := h.p2.rawCell 2; have c3 := h.p2.rawCell 3; have c4 := h.p2.rawCell 4; have c5 := h.p2.rawCell 5; have c6 := h.p2.rawCell 6; simp at c0 c1 c2 c3 c4 c5 c6; have d0 := h.p3.rawCell 0; have r0 := h.p3.rawFree 0; have d1 := h.p3.rawCell 1; have r1 := h.p3.rawFree 1; have d2 := h.p3.rawCell 2; have r2 := h.p3.rawFree 2; have d3 := h.p3.rawCell 3; have r3 := h.p3.rawFree 3; have d4 := h.p3.rawCell 4; have r4 := h.p3.rawFree 4; have d5 := h.p3.rawCell 5; have r5 := h.p3.rawFree 5; have d6 := h.p3.rawCell 6; have r6 := h.p3.rawFree 6; simp at d0 d1 d2 d3 d4 d5 d6; replace H := Lib.hid h; clear h))
  have hz : St W0 _ _ (.raw rb #[.bool false, .string ⟨#[]⟩, .int .i64 0, .int .i64 0, .int .i64 0, .slice none 0 0, .bool false] 66 :: _) := St.sets7 _ _ _ _ _ _ _ (H.out.p3)
  refine bodyPost_ret (rc_cell_tmp3 rfl _ _ rb [.bool false, .string ⟨#[]⟩, .int .i64 0, .int .i64 0, .int .i64 0, .slice none 0 0, .bool false] _ rfl (rc_range hz) Try.underlying66 rfl (by kernel_rfl)) rfl ?_
  exact ⟨rfl, hz.drop.drop.drop.drop⟩

set_option maxHeartbeats 8000000 in
set_option maxRecDepth 100000 in
theorem r18_26_byte (v : Int) (s : Bs) (hsl : s.length ≤ 2000) (kk : Nat) (d : Bs) (hv : refixed 2 s = .ok (⟨false, d⟩, kk)) (hkl : kk ≤ s.length) (hs10 : kk + 10 ≤ s.length) (p e : Int) (hp : sInt ((s.drop (kk)).take 8) = p) (he : sInt ((s.drop (kk + 8)).take 2) = e) (hs1 : kk + 10 + 1 ≤ s.length) (y : UInt8) (hy : s[kk + 10]? = some y) (hb : 1 < (y.toNat : Int)) {W0 w : World} {K : Know} {L : List Res} (h : St W0 w K L) :
    Calls Try.prog 44 #[.int .i64 26, .int .i64 v, .string (bb s)] w fun en w' => en = .returned (.tuple #[.agg #[.bool false, .string ⟨#[]⟩, .int .i64 0, .int .i64 0, .int .i64 0, .slice none 0 0, .bool false], .int .i64 0, .int .i64 11]) ∧ St W0 w' K L := by
  obtain ⟨rb, hrb⟩ : ∃ b, w.heap.size = b := ⟨_, rfl⟩
  obtain ⟨nb, hnb⟩ : ∃ b, rb + 1 = b := ⟨_, rfl⟩
  have g1 := (h.allocRaw #[.bool false, .string ⟨#[]⟩, .int .i64 0, .int .i64 0, .int .i64 0, .slice none 0 0, .bool false] 66).allocRaw #[.bool false, .string ⟨#[]⟩, .int .i64 0, .int .i64 0, .int .i64 0, .slice none 0 0, .bool false] 66
  simp only [World.size_alloc, hrb, hnb] at g1
  have H := Lib.hid g1
  have HX := Lib.hid (show s.length ≤ 140737488355328 by omega)
  have c0 := g1.rawCell 0; have c1 := g1.rawCell 1; have c2 := g1.rawCell 2; have c3 := g1.rawCell 3; have c4 := g1.rawCell 4; have c5 := g1.rawCell 5; have c6 := g1.rawCell 6; simp at c0 c1 c2 c3 c4 c5 c6
  have d0 := g1.p1.rawCell 0; have r0 := g1.p1.rawFree 0; have d1 := g1.p1.rawCell 1; have r1 := g1.p1.rawFree 1; have d2 := g1.p1.rawCell 2; have r2 := g1.p1.rawFree 2; have d3 := g1.p1.rawCell 3; have r3 := g1.p1.rawFree 3; have d4 := g1.p1.rawCell 4; have r4 := g1.p1.rawFree 4; have d5 := g1.p1.rawCell 5; have r5 := g1.p1.rawFree 5; have d6 := g1.p1.rawCell 6; have r6 := g1.p1.rawFree 6; simp at d0 d1 d2 d3 d4 d5 d6
  have HV := Lib.hid hv
  have hki : (kk : Int) ≤ (s.length : Int) := by omega
  have hw0 : IntKind.i64.wrap ((s.length : Int) - (kk : Int)) = (s.length : Int) - (kk : Int) := by rw [IntKind.wrap_i64]; omega
  have hsj : ¬ (s.length : Int) - (kk : Int) < 10 := by omega
  obtain ⟨k8, hk8⟩ : ∃ x, kk + 8 = x := ⟨_, rfl⟩
  have hk8w : IntKind.i64.wrap ((kk : Int) + 8) = (k8 : Int) := by rw [IntKind.wrap_i64]; omega
  have hk8i : (kk : Int) + 8 = (k8 : Int) := by omega
  obtain ⟨k10, hk10⟩ : ∃ x, kk + 10 = x := ⟨_, rfl⟩
  have hk10w : IntKind.i64.wrap ((kk : Int) + 10) = (k10 : Int) := by rw [IntKind.wrap_i64]; omega
  have hk10i : (kk : Int) + 10 = (k10 : Int) := by omega
  have HT8 := Lib.hid (show List.take (k8 - kk) (s.drop kk) = (s.drop kk).take 8 by rw [← hk8, Nat.add_sub_cancel_left])
  have HT88 := Lib.hid (show ((s.drop kk).take 8).length ≤ 8 by rw [List.length_take]; omega)
  have HT2 := Lib.hid (show List.take (k10 - k8) (s.drop k8) = (s.drop k8).take 2 by rw [show k10 - k8 = 2 by omega])
  have HT28 := Lib.hid (show ((s.drop k8).take 2).length ≤ 8 by rw [List.length_take]; omega)
  have HP := Lib.hid (show sInt ((s.drop kk).take 8) = p by exact hp)
  have HE := Lib.hid (show sInt ((s.drop k8).take 2) = e by rw [← hk8]; exact he)
  have ikkk8 : (kk : Int) ≤ (k8 : Int) := by omega
  have nkkk8 : kk ≤ k8 := by omega
  have ik8k10 : (k8 : Int) ≤ (k10 : Int) := by omega
  have nk8k10 : k8 ≤ k10 := by omega
  have ikkk10 : (kk : Int) ≤ (k10 : Int) := by omega
  have nkkk10 : kk ≤ k10 := by omega
  have lk8 : (k8 : Int) ≤ (s.length : Int) := by omega
  have lk10 : (k10 : Int) ≤ (s.length : Int) := by omega
  have hwB : IntKind.i64.wrap ((s.length : Int) - (k10 : Int)) = (s.length : Int) - (k10 : Int) := by rw [IntKind.wrap_i64]; omega
  have hsk : ¬ (s.length : Int) - (k10 : Int) < 1 := by omega
  have hkL : (k10 : Int) < (s.length : Int) := by omega
  have hkN : k10 < s.length := by omega
  have hyq : s[k10]? = some y := by rw [← hk10]; exact hy
  have hyg : s[k10] = y := by rw [List.getElem?_eq_getElem hkN] at hyq; exact Option.some.inj hyq
  have hb2 : 1 < (((s[k10]'hkN).toNat) : Int) := by rw [hyg]; exact hb
  clear hyq hyg hb
  clear h g1 hv hkl hp he hs10 hy hs1
  go_enter Try.func44, Try.ntmps44
  go_wp2_with (first
    | (go_at_call 81; clear c0 d0 r0 c1 d1 r1 c2 d2 r2 c3 d3 r3 c4 d4 r4 c5 d5 r5 c6 d6 r6; (with_reducible refine (ref04_fixOk _ s false d kk rfl HX.out HV.out H.out).mono ?_); rintro e_ wn ⟨rfl, h⟩; obtain ⟨gb, hgb⟩ : ∃ b, wn.heap.size = b := ⟨_, rfl⟩; obtain ⟨qb, hqb⟩ : ∃ b, gb + 1 = b := ⟨_, rfl⟩; have h := (h.allocRaw #[.bool false, .string (bb d), .int .i64 kk, .int .i64 0] 128).allocRaw #[.bool false, .string (bb d), .int .i64 0, .int .i64 (-1), .int .i64 (-1), .slice none 0 0, .bool false] 66; simp only [World.size_alloc, hgb, hqb] at h; have y0 := h.p1.rawCell 0; have y1 := h.p1.rawCell 1; have y2 := h.p1.rawCell 2; have y3 := h.p1.rawCell 3; simp at y0 y1 y2 y3; have c0 := h.p2.rawCell 0; have c1 := h.p2.rawCell 1; have c2 := h.p2.rawCell 2; have c3 := h.p2.rawCell 3; have c4 := h.p2.rawCell 4; have c5 := h.p2.rawCell 5; have c6 := h.p2.rawCell 6; simp at c0 c1 c2 c3 c4 c5 c6; have d0 := h.p3.rawCell 0; have r0 := h.p3.rawFree 0; have d1 := h.p3.rawCell 1; have r1 := h.p3.rawFree 1; have d2 := h.p3.rawCell 2; have r2 := h.p3.rawFree 2; have d3 := h.p3.rawCell 3; have r3 := h.p3.rawFree 3; have d4 := h.p3.rawCell 4; have r4 := h.p3.rawFree 4; have d5 := h.p3.rawCell 5; have r5 := h.p3.rawFree 5; have d6 := h.p3.rawCell 6; have r6 := h.p3.rawFree 6; simp at d0 d1 d2 d3 d4 d5 d6; replace H := Lib.hid h; clear h)
    | (go_at_call 76; (with_reducible refine (sr_intT _ ((s.drop kk).take 8) HT8.out p HP.out HT88.out H.out).mono ?_); rintro e_ wn ⟨rfl, h⟩; clear c0 d0 r0 c1 d1 r1 c2 d2 r2 c3 d3 r3 c4 d4 r4 c5 d5 r5 c6 d6 r6; have f3 := h.rawFree 3; have q3 := h.rawCell 3; simp at q3; have h := (show St W0 (wn.setCell ⟨qb, 3, none⟩ (.int .i64 p)) K (.raw qb #[.bool false, .string (bb d), .int .i64 0, .int .i64 p, .int .i64 (-1), .slice none 0 0, .bool false] 66 :: _) from h.rawSet 3 (.int .i64 p)); have c0 := h.p2.rawCell 0; have c1 := h.p2.rawCell 1; have c2 := h.p2.rawCell 2; have c3 := h.p2.rawCell 3; have c4 := h.p2.rawCell 4; have c5 := h.p2.rawCell 5; have c6 := h.p2.rawCell 6; simp at c0 c1 c2 c3 c4 c5 c6; have d0 := h.p3.rawCell 0; have r0 := h.p3.rawFree 0; have d1 := h.p3.rawCell 1; have r1 := h.p3.rawFree 1; have d2 := h.p3.rawCell 2; have r2 := h.p3.rawFree 2; have d3 := h.p3.rawCell 3; have r3 := h.p3.rawFree 3; have d4 := h.p3.rawCell 4; have r4 := h.p3.rawFree 4; have d5 := h.p3.rawCell 5; have r5 := h.p3.rawFree 5; have d6 := h.p3.rawCell 6; have r6 := h.p3.rawFree 6; simp at d0 d1 d2 d3 d4 d5 d6; replace H := Lib.hid h; clear h)
    | (go_at_call 76; (with_reducible refine (sr_intT _ ((s.drop k8).take 2) HT2.out e HE.out HT28.out H.out).mono ?_); rintro e_ wn ⟨rfl, h⟩; clear c0 d0 r0 c1 d1 r1 c2 d2 r2 c3 d3 r3 c4 d4 r4 c5 d5 r5 c6 d6 r6; have f4 := h.rawFree 4; have q4 := h.rawCell 4; simp at q4; have h := (show St W0 (wn.setCell ⟨qb, 4, none⟩ (.int .i64 e)) K (.raw qb #[.bool false, .string (bb d), .int .i64 0, .int .i64 p, .int .i64 e, .slice none 0 0, .bool false] 66 :: _) from h.rawSet 4 (.int .i64 e)); have f6 := h.rawFree 6; have q6 := h.rawCell 6; simp at q6; have c0 := h.p2.rawCell 0; have c1 := h.p2.rawCell 1; have c2 := h.p2.rawCell 2; have c3 := h.p2.rawCell 3; have c4 := h.p2.rawCell 4; have c5 := h.p2.rawCell 5; have c6 := h.p2.rawCell 6; simp at c0 c1 c2 c3 c4 c5 c6; have d0 := h.p3.rawCell 0; have r0 := h.p3.rawFree 0; have d1 := h.p3.rawCell 1; have r1 := h.p3.rawFree 1; have d2 := h.p3.rawCell 2; have r2 := h.p3.rawFree 2; have d3 := h.p3.rawCell 3; have r3 := h.p3.rawFree 3; have d4 := h.p3.rawCell 4; have r4 := h.p3.rawFree 4; have d5 := h.p3.rawCell 5; have r5 := h.p3.rawFree 5; have d6 := h.p3.rawCell 6; have r6 := h.p3.rawFree 6; simp at d0 d1 d2 d3 d4 d5 d6; replace H := Lib.hid h; clear h))
  have hz : St W0 _ _ (.raw rb #[.bool false, .string ⟨#[]⟩, .int .i64 0, .int .i64 0, .int .i64 0, .slice none 0 0, .bool false] 66 :: _) := St.sets7 _ _ _ _ _ _ _ (H.out.p3)
  refine bodyPost_ret (rc_cell_tmp3 rfl _ _ rb [.bool false, .string ⟨#[]⟩, .int .i64 0, .int .i64 0, .int .i64 0, .slice none 0 0, .bool false] _ rfl (rc_range hz) Try.underlying66 rfl (by kernel_rfl)) rfl ?_
  exact ⟨rfl, hz.drop.drop.drop.drop⟩

set_option maxHeartbeats 8000000 in
set_option maxRecDepth 100000 in
theorem r18_26_chk (v : Int) (s : Bs) (hsl : s.length ≤ 2000) (kk : Nat) (d : Bs) (hv : refixed 2 s = .ok (⟨false, d⟩, kk)) (hkl : kk ≤ s.length) (hs10 : kk + 10 ≤ s.length) (p e : Int) (hp : sInt ((s.drop (kk)).take 8) = p) (he : sInt ((s.drop (kk + 8)).take 2) = e) (hs1 : kk + 10 + 1 ≤ s.length) (y : UInt8) (hy : s[kk + 10]? = some y) (hb : ¬ 1 < (y.toNat : Int)) (c : Bool) (hc : ((y.toNat : Int) == 1) = c) (E : Int) (hE : chkW d p e = E) (h0 : E ≠ 0) {W0 w : World} {K : Know} {L : List Res} (h : St W0 w K L) :
    Calls Try.prog 44 #[.int .i64 26, .int .i64 v, .string (bb s)] w fun en w' => en = .returned (.tuple #[.agg #[.bool false, .string ⟨#[]⟩, .int .i64 0, .int .i64 0, .int .i64 0, .slice none 0 0, .bool false], .int .i64 0, .int .i64 E]) ∧ St W0 w' K L := by
  obtain ⟨rb, hrb⟩ : ∃ b, w.heap.size = b := ⟨_, rfl⟩
  obtain ⟨nb, hnb⟩ : ∃ b, rb + 1 = b := ⟨_, rfl⟩
  have g1 := (h.allocRaw #[.bool false, .string ⟨#[]⟩, .int .i64 0, .int .i64 0, .int .i64 0, .slice none 0 0, .bool false] 66).allocRaw #[.bool false, .string ⟨#[]⟩, .int .i64 0, .int .i64 0, .int .i64 0, .slice none 0 0, .bool false] 66
  simp only [World.size_alloc, hrb, hnb] at g1
  have H := Lib.hid g1
  have HX := Lib.hid (show s.length ≤ 140737488355328 by omega)
  have c0 := g1.rawCell 0; have c1 := g1.rawCell 1; have c2 := g1.rawCell 2; have c3 := g1.rawCell 3; have c4 := g1.rawCell 4; have c5 := g1.rawCell 5; have c6 := g1.rawCell 6; simp at c0 c1 c2 c3 c4 c5 c6
  have d0 := g1.p1.rawCell 0; have r0 := g1.p1.rawFree 0; have d1 := g1.p1.rawCell 1; have r1 := g1.p1.rawFree 1; have d2 := g1.p1.rawCell 2; have r2 := g1.p1.rawFree 2; have d3 := g1.p1.rawCell 3; have r3 := g1.p1.rawFree 3; have d4 := g1.p1.rawCell 4; have r4 := g1.p1.rawFree 4; have d5 := g1.p1.rawCell 5; have r5 := g1.p1.rawFree 5; have d6 := g1.p1.rawCell 6; have r6 := g1.p1.rawFree 6; simp at d0 d1 d2 d3 d4 d5 d6
  have HV := Lib.hid hv
  have hki : (kk : Int) ≤ (s.length : Int) := by omega
  have hw0 : IntKind.i64.wrap ((s.length : Int) - (kk : Int)) = (s.length : Int) - (kk : Int) := by rw [IntKind.wrap_i64]; omega
  have hsj : ¬ (s.length : Int) - (kk : Int) < 10 := by omega
  obtain ⟨k8, hk8⟩ : ∃ x, kk + 8 = x := ⟨_, rfl⟩
  have hk8w : IntKind.i64.wrap ((kk : Int) + 8) = (k8 : Int) := by rw [IntKind.wrap_i64]; omega
  have hk8i : (kk : Int) + 8 = (k8 : Int) := by omega
  obtain ⟨k10, hk10⟩ : ∃ x, kk + 10 = x := ⟨_, rfl⟩
  have hk10w : IntKind.i64.wrap ((kk : Int) + 10) = (k10 : Int) := by rw [IntKind.wrap_i64]; omega
  have hk10i : (kk : Int) + 10 = (k10 : Int) := by omega
  have HT8 := Lib.hid (show List.take (k8 - kk) (s.drop kk) = (s.drop kk).take 8 by rw [← hk8, Nat.add_sub_cancel_left])
  have HT88 := Lib.hid (show ((s.drop kk).take 8).length ≤ 8 by rw [List.length_take]; omega)
  have HT2 := Lib.hid (show List.take (k10 - k8) (s.drop k8) = (s.drop k8).take 2 by rw [show k10 - k8 = 2 by omega])
  have HT28 := Lib.hid (show ((s.drop k8).take 2).length ≤ 8 by rw [List.length_take]; omega)
  have HP := Lib.hid (show sInt ((s.drop kk).take 8) = p by exact hp)
  have HE := Lib.hid (show sInt ((s.drop k8).take 2) = e by rw [← hk8]; exact he)
  have ikkk8 : (kk : Int) ≤ (k8 : Int) := by omega
  have nkkk8 : kk ≤ k8 := by omega
  have ik8k10 : (k8 : Int) ≤ (k10 : Int) := by omega
  have nk8k10 : k8 ≤ k10 := by omega
  have ikkk10 : (kk : Int) ≤ (k10 : Int) := by omega
  have nkkk10 : kk ≤ k10 := by omega
  have lk8 : (k8 : Int) ≤ (s.length : Int) := by omega
  have lk10 : (k10 : Int) ≤ (s.length : Int) := by omega
  have hwB : IntKind.i64.wrap ((s.length : Int) - (k10 : Int)) = (s.length : Int) - (k10 : Int) := by rw [IntKind.wrap_i64]; omega
  have hsk : ¬ (s.length : Int) - (k10 : Int) < 1 := by omega
  have hkL : (k10 : Int) < (s.length : Int) := by omega
  have hkN : k10 < s.length := by omega
  have hyq : s[k10]? = some y := by rw [← hk10]; exact hy
  have hyg : s[k10] = y := by rw [List.getElem?_eq_getElem hkN] at hyq; exact Option.some.inj hyq
  have hb2 : ¬ 1 < (((s[k10]'hkN).toNat) : Int) := by rw [hyg]; exact hb
  have hc2 : ((((s[k10]'hkN).toNat) : Int) == 1) = c := by rw [hyg]; exact hc
  clear hyq hyg hb hc
  obtain ⟨kF, hkF⟩ : ∃ x, k10 + 1 = x := ⟨_, rfl⟩
  have hkFw : IntKind.i64.wrap ((k10 : Int) + 1) = (kF : Int) := by rw [IntKind.wrap_i64]; omega
  have hkFi : (k10 : Int) + 1 = (kF : Int) := by omega
  have HEE := Lib.hid hE
  have g1 : (E == 0) = false := by rw [beq_eq_false_iff_ne]; exact h0
  have g2 : (E != 0) = true := by simp [bne, g1]
  clear h g1 hv hkl hp he hs10 hy hs1 hE h0
  go_enter Try.func44, Try.ntmps44
  go_upto_region 31 with (first
    | (go_at_call 81; clear c0 d0 r0 c1 d1 r1 c2 d2 r2 c3 d3 r3 c4 d4 r4 c5 d5 r5 c6 d6 r6; (with_reducible refine (ref04_fixOk _ s false d kk rfl HX.out HV.out H.out).mono ?_); rintro e_ wn ⟨rfl, h⟩; obtain ⟨gb, hgb⟩ : ∃ b, wn.heap.size = b := ⟨_, rfl⟩; obtain ⟨qb, hqb⟩ : ∃ b, gb + 1 = b := ⟨_, rfl⟩; have h := (h.allocRaw #[.bool false, .string (bb d), .int .i64 kk, .int .i64 0] 128).allocRaw #[.bool false, .string (bb d), .int .i64 0, .int .i64 (-1), .int .i64 (-1), .slice none 0 0, .bool false] 66; simp only [World.size_alloc, hgb, hqb] at h; have y0 := h.p1.rawCell 0; have y1 := h.p1.rawCell 1; have y2 := h.p1.rawCell 2; have y3 := h.p1.rawCell 3; simp at y0 y1 y2 y3; have c0 := h.p2.rawCell 0; have c1 := h.p2.rawCell 1; have c2 := h.p2.rawCell 2; have c3 := h.p2.rawCell 3; have c4 := h.p2.rawCell 4; have c5 := h.p2.rawCell 5; have c6 := h.p2.rawCell 6; simp at c0 c1 c2 c3 c4 c5 c6; have d0 := h.p3.rawCell 0; have r0 := h.p3.rawFree 0; have d1 := h.p3.rawCell 1; have r1 := h.p3.rawFree 1; have d2 := h.p3.rawCell 2; have r2 := h.p3.rawFree 2; have d3 := h.p3.rawCell 3; have r3 := h.p3.rawFree 3; have d4 := h.p3.rawCell 4; have r4 := h.p3.rawFree 4; have d5 := h.p3.rawCell 5; have r5 := h.p3.rawFree 5; have d6 := h.p3.rawCell 6; have r6 := h.p3.rawFree 6; simp at d0 d1 d2 d3 d4 d5 d6; replace H := Lib.hid h; clear h)
    | (go_at_call 76; (with_reducible refine (sr_intT _ ((s.drop kk).take 8) HT8.out p HP.out HT88.out H.out).mono ?_); rintro e_ wn ⟨rfl, h⟩; clear c0 d0 r0 c1 d1 r1 c2 d2 r2 c3 d3 r3 c4 d4 r4 c5 d5 r5 c6 d6 r6; have f3 := h.rawFree 3; have q3 := h.rawCell 3; simp at q3; have h := (show St W0 (wn.setCell ⟨qb, 3, none⟩ (.int .i64 p)) K (.raw qb #[.bool false, .string (bb d), .int .i64 0, .int .i64 p, .int .i64 (-1), .slice none 0 0, .bool false] 66 :: _) from h.rawSet 3 (.int .i64 p)); have c0 := h.p2.rawCell 0; have c1 := h.p2.rawCell 1; have c2 := h.p2.rawCell 2; have c3 := h.p2.rawCell 3; have c4 := h.p2.rawCell 4; have c5 := h.p2.rawCell 5; have c6 := h.p2.rawCell 6; simp at c0 c1 c2 c3 c4 c5 c6; have d0 := h.p3.rawCell 0; have r0 := h.p3.rawFree 0; have d1 := h.p3.rawCell 1; have r1 := h.p3.rawFree 1; have d2 := h.p3.rawCell 2; have r2 := h.p3.rawFree 2; have d3 := h.p3.rawCell 3; have r3 := h.p3.rawFree 3; have d4 := h.p3.rawCell 4; have r4 := h.p3.rawFree 4; have d5 := h.p3.rawCell 5; have r5 := h.p3.rawFree 5; have d6 := h.p3.rawCell 6; have r6 := h.p3.rawFree 6; simp at d0 d1 d2 d3 d4 d5 d6; replace H := Lib.hid h; clear h)
    | (go_at_call 76; (with_reducible refine (sr_intT _ ((s.drop k8).take 2) HT2.out e HE.out HT28.out H.out).mono ?_); rintro e_ wn ⟨rfl, h⟩; clear c0 d0 r0 c1 d1 r1 c2 d2 r2 c3 d3 r3 c4 d4 r4 c5 d5 r5 c6 d6 r6; have f4 := h.rawFree 4; have q4 := h.rawCell 4; simp at q4; have h := (show St W0 (wn.setCell ⟨qb, 4, none⟩ (.int .i64 e)) K (.raw qb #[.bool false, .string (bb d), .int .i64 0, .int .i64 p, .int .i64 e, .slice none 0 0, .bool false] 66 :: _) from h.rawSet 4 (.int .i64 e)); have f6 := h.rawFree 6; have q6 := h.rawCell 6; simp at q6; have c0 := h.p2.rawCell 0; have c1 := h.p2.rawCell 1; have c2 := h.p2.rawCell 2; have c3 := h.p2.rawCell 3; have c4 := h.p2.rawCell 4; have c5 := h.p2.rawCell 5; have c6 := h.p2.rawCell 6; simp at c0 c1 c2 c3 c4 c5 c6; have d0 := h.p3.rawCell 0; have r0 := h.p3.rawFree 0; have d1 := h.p3.rawCell 1; have r1 := h.p3.rawFree 1; have d2 := h.p3.rawCell 2; have r2 := h.p3.rawFree 2; have d3 := h.p3.rawCell 3; have r3 := h.p3.rawFree 3; have d4 := h.p3.rawCell 4; have r4 := h.p3.rawFree 4; have d5 := h.p3.rawCell 5; have r5 := h.p3.rawFree 5; have d6 := h.p3.rawCell 6; have r6 := h.p3.rawFree 6; simp at d0 d1 d2 d3 d4 d5 d6; replace H := Lib.hid h; clear h))
  go_cut [121] (fun _ wx => St W0 wx K (.raw qb #[.bool false, .string (bb d), .int .i64 0, .int .i64 p, .int .i64 e, .slice none 0 0, .bool c] 66 :: .raw gb #[.bool false, .string (bb d), .int .i64 kk, .int .i64 0] 128 :: .raw nb #[.bool false, .string ⟨#[]⟩, .int .i64 0, .int .i64 0, .int .i64 0, .slice none 0 0, .bool false] 66 :: .raw rb #[.bool false, .string ⟨#[]⟩, .int .i64 0, .int .i64 0, .int .i64 0, .slice none 0 0, .bool false] 66 :: L))
  case first =>
    clear c0 d0 r0 c1 d1 r1 c2 d2 r2 c3 d3 r3 c4 d4 r4 c5 d5 r5 c6 d6 r6
    go_wp2_with fail
    go_meet
    subst hc2
    exact H.out.rawSet 6 _
  clear c0 d0 r0 c1 d1 r1 c2 d2 r2 c3 d3 r3 c4 d4 r4 c5 d5 r5 c6 d6 r6 f6 q6 H
  have H := Lib.hid hcut
  clear hcut
  have x0 := H.out.rawCell 0; have x1 := H.out.rawCell 1; have x2 := H.out.rawCell 2; have x3 := H.out.rawCell 3; have x4 := H.out.rawCell 4; have x5 := H.out.rawCell 5; have x6 := H.out.rawCell 6; simp at x0 x1 x2 x3 x4 x5 x6
  have c0 := H.out.p2.rawCell 0; have c1 := H.out.p2.rawCell 1; have c2 := H.out.p2.rawCell 2; have c3 := H.out.p2.rawCell 3; have c4 := H.out.p2.rawCell 4; have c5 := H.out.p2.rawCell 5; have c6 := H.out.p2.rawCell 6; simp at c0 c1 c2 c3 c4 c5 c6
  have d0 := H.out.p3.rawCell 0; have r0 := H.out.p3.rawFree 0; have d1 := H.out.p3.rawCell 1; have r1 := H.out.p3.rawFree 1; have d2 := H.out.p3.rawCell 2; have r2 := H.out.p3.rawFree 2; have d3 := H.out.p3.rawCell 3; have r3 := H.out.p3.rawFree 3; have d4 := H.out.p3.rawCell 4; have r4 := H.out.p3.rawFree 4; have d5 := H.out.p3.rawCell 5; have r5 := H.out.p3.rawFree 5; have d6 := H.out.p3.rawCell 6; have r6 := H.out.p3.rawFree 6; simp at d0 d1 d2 d3 d4 d5 d6
  go_wp2_with (go_at_call 40; clear x0 x1 x2 x3 x4 x5 x6; (with_reducible refine (c26Z v d p e c E HEE.out H.out).mono ?_); rintro e_ wn ⟨rfl, h⟩; clear c0 d0 r0 c1 d1 r1 c2 d2 r2 c3 d3 r3 c4 d4 r4 c5 d5 r5 c6 d6 r6; have x0 := h.rawCell 0; have x1 := h.rawCell 1; have x2 := h.rawCell 2; have x3 := h.rawCell 3; have x4 := h.rawCell 4; have x5 := h.rawCell 5; have x6 := h.rawCell 6; simp at x0 x1 x2 x3 x4 x5 x6; have c0 := h.p2.rawCell 0; have c1 := h.p2.rawCell 1; have c2 := h.p2.rawCell 2; have c3 := h.p2.rawCell 3; have c4 := h.p2.rawCell 4; have c5 := h.p2.rawCell 5; have c6 := h.p2.rawCell 6; simp at c0 c1 c2 c3 c4 c5 c6; have d0 := h.p3.rawCell 0; have r0 := h.p3.rawFree 0; have d1 := h.p3.rawCell 1; have r1 := h.p3.rawFree 1; have d2 := h.p3.rawCell 2; have r2 := h.p3.rawFree 2; have d3 := h.p3.rawCell 3; have r3 := h.p3.rawFree 3; have d4 := h.p3.rawCell 4; have r4 := h.p3.rawFree 4; have d5 := h.p3.rawCell 5; have r5 := h.p3.rawFree 5; have d6 := h.p3.rawCell 6; have r6 := h.p3.rawFree 6; simp at d0 d1 d2 d3 d4 d5 d6; replace H := Lib.hid h; clear h)
  have hz : St W0 _ _ (.raw rb #[.bool false, .string ⟨#[]⟩, .int .i64 0, .int .i64 0, .int .i64 0, .slice none 0 0, .bool false] 66 :: _) := St.sets7 _ _ _ _ _ _ _ (H.out.p3)
  refine bodyPost_ret (rc_cell_tmp3 rfl _ _ rb [.bool false, .string ⟨#[]⟩, .int .i64 0, .int .i64 0, .int .i64 0, .slice none 0 0, .bool false] _ rfl (rc_range hz) Try.underlying66 rfl (by kernel_rfl)) rfl ?_
  exact ⟨rfl, hz.drop.drop.drop.drop⟩

set_option maxHeartbeats 8000000 in
set_option maxRecDepth 100000 in
theorem r18_26_ok (v : Int) (s : Bs) (hsl : s.length ≤ 2000) (kk : Nat) (d : Bs) (hv : refixed 2 s = .ok (⟨false, d⟩, kk)) (hkl : kk ≤ s.length) (hs10 : kk + 10 ≤ s.length) (p e : Int) (hp : sInt ((s.drop (kk)).take 8) = p) (he : sInt ((s.drop (kk + 8)).take 2) = e) (hs1 : kk + 10 + 1 ≤ s.length) (y : UInt8) (hy : s[kk + 10]? = some y) (hb : ¬ 1 < (y.toNat : Int)) (c : Bool) (hc : ((y.toNat : Int) == 1) = c) (hE : chkW d p e = 0) {W0 w : World} {K : Know} {L : List Res} (h : St W0 w K L) :
    Calls Try.prog 44 #[.int .i64 26, .int .i64 v, .string (bb s)] w fun en w' => en = .returned (.tuple #[.agg #[.bool false, .string (bb d), .int .i64 0, .int .i64 p, .int .i64 e, .slice none 0 0, .bool c], .int .i64 ((kk + 10 + 1 : Nat) : Int), .int .i64 0]) ∧ St W0 w' K L := by
  obtain ⟨rb, hrb⟩ : ∃ b, w.heap.size = b := ⟨_, rfl⟩
  obtain ⟨nb, hnb⟩ : ∃ b, rb + 1 = b := ⟨_, rfl⟩
  have g1 := (h.allocRaw #[.bool false, .string ⟨#[]⟩, .int .i64 0, .int .i64 0, .int .i64 0, .slice none 0 0, .bool false] 66).allocRaw #[.bool false, .string ⟨#[]⟩, .int .i64 0, .int .i64 0, .int .i64 0, .slice none 0 0, .bool false] 66
  simp only [World.size_alloc, hrb, hnb] at g1
  have H := Lib.hid g1
  have HX := Lib.hid (show s.length ≤ 140737488355328 by omega)
  have c0 := g1.rawCell 0; have c1 := g1.rawCell 1; have c2 := g1.rawCell 2; have c3 := g1.rawCell 3; have c4 := g1.rawCell 4; have c5 := g1.rawCell 5; have c6 := g1.rawCell 6; simp at c0 c1 c2 c3 c4 c5 c6
  have d0 := g1.p1.rawCell 0; have r0 := g1.p1.rawFree 0; have d1 := g1.p1.rawCell 1; have r1 := g1.p1.rawFree 1; have d2 := g1.p1.rawCell 2; have r2 := g1.p1.rawFree 2; have d3 := g1.p1.rawCell 3; have r3 := g1.p1.rawFree 3; have d4 := g1.p1.rawCell 4; have r4 := g1.p1.rawFree 4; have d5 := g1.p1.rawCell 5; have r5 := g1.p1.rawFree 5; have d6 := g1.p1.rawCell 6; have r6 := g1.p1.rawFree 6; simp at d0 d1 d2 d3 d4 d5 d6
  have HV := Lib.hid hv
  have hki : (kk : Int) ≤ (s.length : Int) := by omega
  have hw0 : IntKind.i64.wrap ((s.length : Int) - (kk : Int)) = (s.length : Int) - (kk : Int) := by rw [IntKind.wrap_i64]; omega
  have hsj : ¬ (s.length : Int) - (kk : Int) < 10 := by omega
  obtain ⟨k8, hk8⟩ : ∃ x, kk + 8 = x := ⟨_, rfl⟩
  have hk8w : IntKind.i64.wrap ((kk : Int) + 8) = (k8 : Int) := by rw [IntKind.wrap_i64]; omega
  have hk8i : (kk : Int) + 8 = (k8 : Int) := by omega
  obtain ⟨k10, hk10⟩ : ∃ x, kk + 10 = x := ⟨_, rfl⟩
  have hk10w : IntKind.i64.wrap ((kk : Int) + 10) = (k10 : Int) := by rw [IntKind.wrap_i64]; omega
  have hk10i : (kk : Int) + 10 = (k10 : Int) := by omega
  have HT8 := Lib.hid (show List.take (k8 - kk) (s.drop kk) = (s.drop kk).take 8 by rw [← hk8, Nat.add_sub_cancel_left])
  have HT88 := Lib.hid (show ((s.drop kk).take 8).length ≤ 8 by rw [List.length_take]; omega)
  have HT2 := Lib.hid (show List.take (k10 - k8) (s.drop k8) = (s.drop k8).take 2 by rw [show k10 - k8 = 2 by omega])
  have HT28 := Lib.hid (show ((s.drop k8).take 2).length ≤ 8 by rw [List.length_take]; omega)
  have HP := Lib.hid (show sInt ((s.drop kk).take 8) = p by exact hp)
  have HE := Lib.hid (show sInt ((s.drop k8).take 2) = e by rw [← hk8]; exact he)
  have ikkk8 : (kk : Int) ≤ (k8 : Int) := by omega
  have nkkk8 : kk ≤ k8 := by omega
  have ik8k10 : (k8 : Int) ≤ (k10 : Int) := by omega
  have nk8k10 : k8 ≤ k10 := by omega
  have ikkk10 : (kk : Int) ≤ (k10 : Int) := by omega
  have nkkk10 : kk ≤ k10 := by omega
  have lk8 : (k8 : Int) ≤ (s.length : Int) := by omega
  have lk10 : (k10 : Int) ≤ (s.length : Int) := by omega
  have hwB : IntKind.i64.wrap ((s.length : Int) - (k10 : Int)) = (s.length : Int) - (k10 : Int) := by rw [IntKind.wrap_i64]; omega
  have hsk : ¬ (s.length : Int) - (k10 : Int) < 1 := by omega
  have hkL : (k10 : Int) < (s.length : Int) := by omega
  have hkN : k10 < s.length := by omega
  have hyq : s[k10]? = some y := by rw [← hk10]; exact hy
  have hyg : s[k10] = y := by rw [List.getElem?_eq_getElem hkN] at hyq; exact Option.some.inj hyq
  have hb2 : ¬ 1 < (((s[k10]'hkN).toNat) : Int) := by rw [hyg]; exact hb
  have hc2 : ((((s[k10]'hkN).toNat) : Int) == 1) = c := by rw [hyg]; exact hc
  clear hyq hyg hb hc
  obtain ⟨kF, hkF⟩ : ∃ x, k10 + 1 = x := ⟨_, rfl⟩
  have hkFw : IntKind.i64.wrap ((k10 : Int) + 1) = (kF : Int) := by rw [IntKind.wrap_i64]; omega
  have hkFi : (k10 : Int) + 1 = (kF : Int) := by omega
  have HEE := Lib.hid hE
  have hmany : (kk + 10 + 1 : Nat) = kF := by omega
  rw [hmany]
  clear h g1 hv hkl hp he hs10 hy hs1 hE
  go_enter Try.func44, Try.ntmps44
  go_upto_region 31 with (first
    | (go_at_call 81; clear c0 d0 r0 c1 d1 r1 c2 d2 r2 c3 d3 r3 c4 d4 r4 c5 d5 r5 c6 d6 r6; (with_reducible refine (ref04_fixOk _ s false d kk rfl HX.out HV.out H.out).mono ?_); rintro e_ wn ⟨rfl, h⟩; obtain ⟨gb, hgb⟩ : ∃ b, wn.heap.size = b := ⟨_, rfl⟩; obtain ⟨qb, hqb⟩ : ∃ b, gb + 1 = b := ⟨_, rfl⟩; have h := (h.allocRaw #[.bool false, .string (bb d), .int .i64 kk, .int .i64 0] 128).allocRaw #[.bool false, .string (bb d), .int .i64 0, .int .i64 (-1), .int .i64 (-1), .slice none 0 0, .bool false] 66; simp only [World.size_alloc, hgb, hqb] at h; have y0 := h.p1.rawCell 0; have y1 := h.p1.rawCell 1; have y2 := h.p1.rawCell 2; have y3 := h.p1.rawCell 3; simp at y0 y1 y2 y3; have c0 := h.p2.rawCell 0; have c1 := h.p2.rawCell 1; have c2 := h.p2.rawCell 2; have c3 := h.p2.rawCell 3; have c4 := h.p2.rawCell 4; have c5 := h.p2.rawCell 5; have c6 := h.p2.rawCell 6; simp at c0 c1 c2 c3 c4 c5 c6; have d0 := h.p3.rawCell 0; have r0 := h.p3.rawFree 0; have d1 := h.p3.rawCell 1; have r1 := h.p3.rawFree 1; have d2 := h.p3.rawCell 2; have r2 := h.p3.rawFree 2; have d3 := h.p3.rawCell 3; have r3 := h.p3.rawFree 3; have d4 := h.p3.rawCell 4; have r4 := h.p3.rawFree 4; have d5 := h.p3.rawCell 5; have r5 := h.p3.rawFree 5; have d6 := h.p3.rawCell 6; have r6 := h.p3.rawFree 6; simp at d0 d1 d2 d3 d4 d5 d6; replace H := Lib.hid h; clear h)
    | (go_at_call 76; (with_reducible refine (sr_intT _ ((s.drop kk).take 8) HT8.out p HP.out HT88.out H.out).mono ?_); rintro e_ wn ⟨rfl, h⟩; clear c0 d0 r0 c1 d1 r1 c2 d2 r2 c3 d3 r3 c4 d4 r4 c5 d5 r5 c6 d6 r6; have f3 := h.rawFree 3; have q3 := h.rawCell 3; simp at q3; have h := (show St W0 (wn.setCell ⟨qb, 3, none⟩ (.int .i64 p)) K (.raw qb #[.bool false, .string (bb d), .int .i64 0, .int .i64 p, .int .i64 (-1), .slice none 0 0, .bool false] 66 :: _) from h.rawSet 3 (.int .i64 p)); have c0 := h.p2.rawCell 0; have c1 := h.p2.rawCell 1; have c2 := h.p2.rawCell 2; have c3 := h.p2.rawCell 3; have c4 := h.p2.rawCell 4; have c5 := h.p2.rawCell 5; have c6 := h.p2.rawCell 6; simp at c0 c1 c2 c3 c4 c5 c6; have d0 := h.p3.rawCell 0; have r0 := h.p3.rawFree 0; have d1 := h.p3.rawCell 1; have r1 := h.p3.rawFree 1; have d2 := h.p3.rawCell 2; have r2 := h.p3.rawFree 2; have d3 := h.p3.rawCell 3; have r3 := h.p3.rawFree 3; have d4 := h.p3.rawCell 4; have r4 := h.p3.rawFree 4; have d5 := h.p3.rawCell 5; have r5 := h.p3.rawFree 5; have d6 := h.p3.rawCell 6; have r6 := h.p3.rawFree 6; simp at d0 d1 d2 d3 d4 d5 d6; replace H := Lib.hid h; clear h)
    | (go_at_call 76; (with_reducible refine (sr_intT _ ((s.drop k8).take 2) HT2.out e HE.out HT28.out H.out).mono ?_); rintro e_ wn ⟨rfl, h⟩; clear c0 d0 r0 c1 d1 r1 c2 d2 r2 c3 d3 r3 c4 d4 r4 c5 d5 r5 c6 d6 r6; have f4 := h.rawFree 4; have q4 := h.rawCell 4; simp at q4; have h := (show St W0 (wn.setCell ⟨qb, 4, none⟩ (.int .i64 e)) K (.raw qb #[.bool false, .string (bb d), .int .i64 0, .int .i64 p, .int .i64 e, .slice none 0 0, .bool false] 66 :: _) from h.rawSet 4 (.int .i64 e)); have f6 := h.rawFree 6; have q6 := h.rawCell 6; simp at q6; have c0 := h.p2.rawCell 0; have c1 := h.p2.rawCell 1; have c2 := h.p2.rawCell 2; have c3 := h.p2.rawCell 3; have c4 := h.p2.rawCell 4; have c5 := h.p2.rawCell 5; have c6 := h.p2.rawCell 6; simp at c0 c1 c2 c3 c4 c5 c6; have d0 := h.p3.rawCell 0; have r0 := h.p3.rawFree 0; have d1 := h.p3.rawCell 1; have r1 := h.p3.rawFree 1; have d2 := h.p3.rawCell 2; have r2 := h.p3.rawFree 2; have d3 := h.p3.rawCell 3; have r3 := h.p3.rawFree 3; have d4 := h.p3.rawCell 4; have r4 := h.p3.rawFree 4; have d5 := h.p3.rawCell 5; have r5 := h.p3.rawFree 5; have d6 := h.p3.rawCell 6; have r6 := h.p3.rawFree 6; simp at d0 d1 d2 d3 d4 d5 d6; replace H := Lib.hid h; clear h))
  go_cut [121] (fun _ wx => St W0 wx K (.raw qb #[.bool false, .string (bb d), .int .i64 0, .int .i64 p, .int .i64 e, .slice none 0 0, .bool c] 66 :: .raw gb #[.bool false, .string (bb d), .int .i64 kk, .int .i64 0] 128 :: .raw nb #[.bool false, .string ⟨#[]⟩, .int .i64 0, .int .i64 0, .int .i64 0, .slice none 0 0, .bool false] 66 :: .raw rb #[.bool false, .string ⟨#[]⟩, .int .i64 0, .int .i64 0, .int .i64 0, .slice none 0 0, .bool false] 66 :: L))
  case first =>
    clear c0 d0 r0 c1 d1 r1 c2 d2 r2 c3 d3 r3 c4 d4 r4 c5 d5 r5 c6 d6 r6
    go_wp2_with fail
    go_meet
    subst hc2
    exact H.out.rawSet 6 _
  clear c0 d0 r0 c1 d1 r1 c2 d2 r2 c3 d3 r3 c4 d4 r4 c5 d5 r5 c6 d6 r6 f6 q6 H
  have H := Lib.hid hcut
  clear hcut
  have x0 := H.out.rawCell 0; have x1 := H.out.rawCell 1; have x2 := H.out.rawCell 2; have x3 := H.out.rawCell 3; have x4 := H.out.rawCell 4; have x5 := H.out.rawCell 5; have x6 := H.out.rawCell 6; simp at x0 x1 x2 x3 x4 x5 x6
  have c0 := H.out.p2.rawCell 0; have c1 := H.out.p2.rawCell 1; have c2 := H.out.p2.rawCell 2; have c3 := H.out.p2.rawCell 3; have c4 := H.out.p2.rawCell 4; have c5 := H.out.p2.rawCell 5; have c6 := H.out.p2.rawCell 6; simp at c0 c1 c2 c3 c4 c5 c6
  have d0 := H.out.p3.rawCell 0; have r0 := H.out.p3.rawFree 0; have d1 := H.out.p3.rawCell 1; have r1 := H.out.p3.rawFree 1; have d2 := H.out.p3.rawCell 2; have r2 := H.out.p3.rawFree 2; have d3 := H.out.p3.rawCell 3; have r3 := H.out.p3.rawFree 3; have d4 := H.out.p3.rawCell 4; have r4 := H.out.p3.rawFree 4; have d5 := H.out.p3.rawCell 5; have r5 := H.out.p3.rawFree 5; have d6 := H.out.p3.rawCell 6; have r6 := H.out.p3.rawFree 6; simp at d0 d1 d2 d3 d4 d5 d6
  go_wp2_with (go_at_call 40; clear x0 x1 x2 x3 x4 x5 x6; (with_reducible refine (c26Z v d p e c 0 HEE.out H.out).mono ?_); rintro e_ wn ⟨rfl, h⟩; clear c0 d0 r0 c1 d1 r1 c2 d2 r2 c3 d3 r3 c4 d4 r4 c5 d5 r5 c6 d6 r6; have x0 := h.rawCell 0; have x1 := h.rawCell 1; have x2 := h.rawCell 2; have x3 := h.rawCell 3; have x4 := h.rawCell 4; have x5 := h.rawCell 5; have x6 := h.rawCell 6; simp at x0 x1 x2 x3 x4 x5 x6; have c0 := h.p2.rawCell 0; have c1 := h.p2.rawCell 1; have c2 := h.p2.rawCell 2; have c3 := h.p2.rawCell 3; have c4 := h.p2.rawCell 4; have c5 := h.p2.rawCell 5; have c6 := h.p2.rawCell 6; simp at c0 c1 c2 c3 c4 c5 c6; have d0 := h.p3.rawCell 0; have r0 := h.p3.rawFree 0; have d1 := h.p3.rawCell 1; have r1 := h.p3.rawFree 1; have d2 := h.p3.rawCell 2; have r2 := h.p3.rawFree 2; have d3 := h.p3.rawCell 3; have r3 := h.p3.rawFree 3; have d4 := h.p3.rawCell 4; have r4 := h.p3.rawFree 4; have d5 := h.p3.rawCell 5; have r5 := h.p3.rawFree 5; have d6 := h.p3.rawCell 6; have r6 := h.p3.rawFree 6; simp at d0 d1 d2 d3 d4 d5 d6; replace H := Lib.hid h; clear h)
  have hz : St W0 _ _ (.raw rb #[.bool false, .string (bb d), .int .i64 0, .int .i64 p, .int .i64 e, .slice none 0 0, .bool c] 66 :: _) := St.sets7 _ _ _ _ _ _ _ (H.out.p3)
  refine bodyPost_ret (rc_cell_tmp3 rfl _ _ rb [.bool false, .string (bb d), .int .i64 0, .int .i64 p, .int .i64 e, .slice none 0 0, .bool c] _ rfl (rc_range hz) Try.underlying66 rfl (by kernel_rfl)) rfl ?_
  exact ⟨rfl, hz.drop.drop.drop.drop⟩

end Go.Proofs.Ytombolmicfjjpaa

/- Requests of transactions: are they whole. -/
namespace Go.Proofs.Ytombolmicfjjpaa
open Go.RowKit

theorem blob_fixedT (p : Nat) (i j : InS) (n : Bool) (d : Bs) (hx : i.fixed 2 = (⟨n, d⟩, j)) {W0 w : World} {K : Know} {L : List Res} (h : St W0 w K (.inp p i :: L)) :
    Calls Try.prog 111 #[inPtr p, .int .i64 2] w fun en w' => en = .returned (.agg #[.bool n, .string (bb d)]) ∧ St W0 w' K (.inp p j :: L) := by
  have := blob_fixed p i 2 h
  rw [hx] at this
  exact this
set_option maxHeartbeats 1000000 in
set_option maxRecDepth 100000 in
theorem ver_check (v : Int) (nl : Bool) (d : Bs) (tm p e : Int) (r : Int) (hr : begE v nl d tm p e = r) (hl : d.length ≤ 140737488355328) {W0 w : World} {K : Know} {L : List Res} (h : St W0 w K L) :
    Calls Try.prog 146 #[.agg #[.bool nl, .string (bb d), .int .i64 tm, .int .i64 p, .int .i64 e, .int .i64 v]] w fun en w' => en = .returned (.int .i64 r) ∧ St W0 w' K L := by
  have H := Lib.hid (h.allocRaw #[.bool nl, .string (bb d), .int .i64 tm, .int .i64 p, .int .i64 e, .int .i64 v] 173)
  have HR := Lib.hid hr
  have HL := Lib.hid hl
  clear h hr hl
  go_enter Try.func146, Try.ntmps146
  go_wp2_with (go_at_call 93; (with_reducible refine (beg_check v nl d tm p e _ HR.out HL.out H.out).mono ?_); rintro e_ wn ⟨rfl, h⟩; replace H := Lib.hid h; clear h)
  go_ret
  exact ⟨rfl, H.out.drop⟩
set_option maxHeartbeats 1000000 in
set_option maxRecDepth 100000 in
theorem whole_err (b : Nat) (i : InS) (e : Int) (hi : i.err = e) (h0 : e ≠ 0) (v : Value) {W0 w : World} {K : Know} {L : List Res} (h : St W0 w K (.inp b i :: L)) :
    Calls Try.prog 119 #[inPtr b, v] w fun en w' => en = .returned (.bool false) ∧ St W0 w' K (.inp b i :: L) := by
  have H := Lib.hid h
  have HI := Lib.hid hi
  have g1 : (e == 0) = false := by rw [beq_eq_false_iff_ne]; exact h0
  have g2 : (e != 0) = true := by simp [bne, g1]
  clear h hi h0
  go_enter Try.func119, Try.ntmps119
  go_wp2_with (go_at_call 27; (with_reducible refine (s_errV b _ _ HI.out H.out).mono ?_); rintro e_ wn ⟨rfl, h⟩; replace H := Lib.hid h; clear h)
  go_ret
  exact ⟨rfl, H.out⟩
theorem s_failW (p : Nat) (i j : InS) (e : Int) (hx : i.fail e = j) {W0 w : World} {K : Know} {L : List Res} (h : St W0 w K (.inp p i :: L)) :
    Calls Try.prog 73 #[inPtr p, .int .i64 e] w fun en w' => en = .returned (.tuple #[]) ∧ St W0 w' K (.inp p j :: L) := by
  subst hx; exact s_fail p i e h

set_option maxHeartbeats 2000000 in
set_option maxRecDepth 100000 in
theorem whole_beg (b : Nat) (i j : InS) (v : Int) (nl : Bool) (d : Bs) (tm p e : Int) (r : Int) (t : Bool) (hr : begE v nl d tm p e = r) (hl : d.length ≤ 140737488355328) (hi : i.err = 0) (ht : (r == 0) = t) (hj : (if r = 0 then i else i.fail r) = j) {W0 w : World} {K : Know} {L : List Res} (h : St W0 w K (.inp b i :: L)) :
    Calls Try.prog 119 #[inPtr b, .iface 173 (.agg #[.bool nl, .string (bb d), .int .i64 tm, .int .i64 p, .int .i64 e, .int .i64 v])] w fun en w' => en = .returned (.bool t) ∧ St W0 w' K (.inp b j :: L) := by
  have H := Lib.hid h
  have HI := Lib.hid hi
  have HR := Lib.hid hr
  have HL := Lib.hid hl
  clear h hr hl
  clear hi
  by_cases h0 : r = 0
  · rw [if_pos h0] at hj
    subst hj h0
    obtain rfl : true = t := ht
    go_enter Try.func119, Try.ntmps119
    go_wp2_with (first
    | (go_at_call 27; (with_reducible refine (s_errV b _ _ HI.out H.out).mono ?_); rintro e_ wn ⟨rfl, h⟩; replace H := Lib.hid h; clear h)
    | (go_at_call 146; (with_reducible refine (ver_check v nl d tm p e _ HR.out HL.out H.out).mono ?_); rintro e_ wn ⟨rfl, h⟩; replace H := Lib.hid h; clear h))
    go_ret
    exact ⟨rfl, H.out⟩
  · rw [if_neg h0] at hj
    have HJ := Lib.hid hj
    have g0 : (r == 0) = false := by rw [beq_eq_false_iff_ne]; exact h0
    have g00 : (r != 0) = true := by simp [bne, g0]
    rw [g0] at ht
    subst ht
    clear hj h0
    go_enter Try.func119, Try.ntmps119
    go_wp2_with (first
    | (go_at_call 27; (with_reducible refine (s_errV b _ _ HI.out H.out).mono ?_); rintro e_ wn ⟨rfl, h⟩; replace H := Lib.hid h; clear h)
    | (go_at_call 146; (with_reducible refine (ver_check v nl d tm p e _ HR.out HL.out H.out).mono ?_); rintro e_ wn ⟨rfl, h⟩; replace H := Lib.hid h; clear h)
    | (go_at_call 73; (with_reducible refine (s_failW b _ _ _ HJ.out H.out).mono ?_); rintro e_ wn ⟨rfl, h⟩; replace H := Lib.hid h; clear h))
    go_ret
    exact ⟨rfl, H.out⟩

set_option maxHeartbeats 2000000 in
set_option maxRecDepth 100000 in
theorem whole_add (b : Nat) (i j : InS) (d : Bs) (p e : Int) (l : List (TopS × Value)) (q : Option Addr) (cap : Nat) (r : Int) (t : Bool) (hr : addE d p e (l.map (·.1)) = r) (hl : d.length ≤ 140737488355328) (hf : FewT l) (hi : i.err = 0) (ht : (r == 0) = t) (hj : (if r = 0 then i else i.fail r) = j) {W0 w : World} {K : Know} {L : List Res} (hk : K.has (Know.tops (.slice q l.length cap) l)) (h : St W0 w K (.inp b i :: L)) :
    Calls Try.prog 119 #[inPtr b, .iface 144 (.agg #[.string (bb d), .int .i64 p, .int .i64 e, .slice q l.length cap])] w fun en w' => en = .returned (.bool t) ∧ St W0 w' K (.inp b j :: L) := by
  have H := Lib.hid h
  have HI := Lib.hid hi
  have HR := Lib.hid hr
  have HL := Lib.hid hl
  have HF := Lib.hid hf
  have HK := Lib.hid hk
  clear h hr hl hf hk
  clear hi
  by_cases h0 : r = 0
  · rw [if_pos h0] at hj
    subst hj h0
    obtain rfl : true = t := ht
    go_enter Try.func119, Try.ntmps119
    go_wp2_with (first
    | (go_at_call 27; (with_reducible refine (s_errV b _ _ HI.out H.out).mono ?_); rintro e_ wn ⟨rfl, h⟩; replace H := Lib.hid h; clear h)
    | (go_at_call 95; (with_reducible refine (add_check d p e l q cap _ HR.out HL.out HF.out HK.out H.out).mono ?_); rintro e_ wn ⟨rfl, h⟩; replace H := Lib.hid h; clear h))
    go_ret
    exact ⟨rfl, H.out⟩
  · rw [if_neg h0] at hj
    have HJ := Lib.hid hj
    have g0 : (r == 0) = false := by rw [beq_eq_false_iff_ne]; exact h0
    have g00 : (r != 0) = true := by simp [bne, g0]
    rw [g0] at ht
    subst ht
    clear hj h0
    go_enter Try.func119, Try.ntmps119
    go_wp2_with (first
    | (go_at_call 27; (with_reducible refine (s_errV b _ _ HI.out H.out).mono ?_); rintro e_ wn ⟨rfl, h⟩; replace H := Lib.hid h; clear h)
    | (go_at_call 95; (with_reducible refine (add_check d p e l q cap _ HR.out HL.out HF.out HK.out H.out).mono ?_); rintro e_ wn ⟨rfl, h⟩; replace H := Lib.hid h; clear h)
    | (go_at_call 73; (with_reducible refine (s_failW b _ _ _ HJ.out H.out).mono ?_); rintro e_ wn ⟨rfl, h⟩; replace H := Lib.hid h; clear h))
    go_ret
    exact ⟨rfl, H.out⟩

set_option maxHeartbeats 2000000 in
set_option maxRecDepth 100000 in
theorem whole_endG (b : Nat) (i j : InS) (id : Bs) (p e : Int) (c : Bool) (r : Int) (t : Bool) (hr : chkW id p e = r) (hl : id.length ≤ 140737488355328) (hi : i.err = 0) (ht : (r == 0) = t) (hj : (if r = 0 then i else i.fail r) = j) {W0 w : World} {K : Know} {L : List Res} (h : St W0 w K (.inp b i :: L)) :
    Calls Try.prog 119 #[inPtr b, .iface 136 (.agg #[.string (bb id), .int .i64 p, .int .i64 e, .bool c])] w fun en w' => en = .returned (.bool t) ∧ St W0 w' K (.inp b j :: L) := by
  have H := Lib.hid h
  have HI := Lib.hid hi
  have HR := Lib.hid hr
  have HL := Lib.hid hl
  clear h hr hl
  clear hi
  by_cases h0 : r = 0
  · rw [if_pos h0] at hj
    subst hj h0
    obtain rfl : true = t := ht
    go_enter Try.func119, Try.ntmps119
    go_wp2_with (first
    | (go_at_call 27; (with_reducible refine (s_errV b _ _ HI.out H.out).mono ?_); rintro e_ wn ⟨rfl, h⟩; replace H := Lib.hid h; clear h)
    | (go_at_call 96; (with_reducible refine (end_check id p e c _ HR.out HL.out H.out).mono ?_); rintro e_ wn ⟨rfl, h⟩; replace H := Lib.hid h; clear h))
    go_ret
    exact ⟨rfl, H.out⟩
  · rw [if_neg h0] at hj
    have HJ := Lib.hid hj
    have g0 : (r == 0) = false := by rw [beq_eq_false_iff_ne]; exact h0
    have g00 : (r != 0) = true := by simp [bne, g0]
    rw [g0] at ht
    subst ht
    clear hj h0
    go_enter Try.func119, Try.ntmps119
    go_wp2_with (first
    | (go_at_call 27; (with_reducible refine (s_errV b _ _ HI.out H.out).mono ?_); rintro e_ wn ⟨rfl, h⟩; replace H := Lib.hid h; clear h)
    | (go_at_call 96; (with_reducible refine (end_check id p e c _ HR.out HL.out H.out).mono ?_); rintro e_ wn ⟨rfl, h⟩; replace H := Lib.hid h; clear h)
    | (go_at_call 73; (with_reducible refine (s_failW b _ _ _ HJ.out H.out).mono ?_); rintro e_ wn ⟨rfl, h⟩; replace H := Lib.hid h; clear h))
    go_ret
    exact ⟨rfl, H.out⟩

theorem whole_begO (b : Nat) (i : InS) (v : Int) (nl : Bool) (d : Bs) (tm p e : Int) (hr : begE v nl d tm p e = 0) (hl : d.length ≤ 140737488355328) (hi : i.err = 0) {W0 w : World} {K : Know} {L : List Res} (h : St W0 w K (.inp b i :: L)) :
    Calls Try.prog 119 #[inPtr b, .iface 173 (.agg #[.bool nl, .string (bb d), .int .i64 tm, .int .i64 p, .int .i64 e, .int .i64 v])] w fun en w' => en = .returned (.bool true) ∧ St W0 w' K (.inp b i :: L) :=
  whole_beg b i i v nl d tm p e 0 true hr hl hi rfl (if_pos rfl) h
theorem whole_addO (b : Nat) (i : InS) (d : Bs) (p e : Int) (l : List (TopS × Value)) (q : Option Addr) (cap : Nat) (hr : addE d p e (l.map (·.1)) = 0) (hl : d.length ≤ 140737488355328) (hf : FewT l) (hi : i.err = 0) {W0 w : World} {K : Know} {L : List Res} (hk : K.has (Know.tops (.slice q l.length cap) l)) (h : St W0 w K (.inp b i :: L)) :
    Calls Try.prog 119 #[inPtr b, .iface 144 (.agg #[.string (bb d), .int .i64 p, .int .i64 e, .slice q l.length cap])] w fun en w' => en = .returned (.bool true) ∧ St W0 w' K (.inp b i :: L) :=
  whole_add b i i d p e l q cap 0 true hr hl hf hi rfl (if_pos rfl) hk h

end Go.Proofs.Ytombolmicfjjpaa
