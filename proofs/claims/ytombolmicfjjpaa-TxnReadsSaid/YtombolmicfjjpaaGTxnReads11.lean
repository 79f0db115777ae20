/- Begin, read by definition, in version 0. -/
import Derived.Test.YtombolmicfjjpaaGTxnReads5
import Derived.Test.YtombolmicfjjpaaGTxnReads10
import Derived.Test.YtombolmicfjjpaaGTxnReads9
import Derived.Test.YtombolmicfjjpaaGTxnReads6
import Derived.Deep.RegionHeld3
import Derived.Deep.DeepCutAuto
import Derived.RegionTactic
/- TxnReads: over what is called: bad bytes. -/
namespace Go.Proofs.Ytombolmicfjjpaa
open Go.RowKit

theorem s_atQ (p : Nat) (s : Bs) (n : Nat) {W0 w : World} {K : Know} {L : List Res} (h : St W0 w K (.inp p ⟨s, n, 0⟩ :: L)) :
    Calls Try.prog 29 #[inPtr p] w fun en w' => en = .returned (.int .i64 n) ∧ St W0 w' K (.inp p ⟨s, n, 0⟩ :: L) := s_at p ⟨s, n, 0⟩ h
theorem s_errQ (p : Nat) (s : Bs) (n : Nat) {W0 w : World} {K : Know} {L : List Res} (h : St W0 w K (.inp p ⟨s, n, 0⟩ :: L)) :
    Calls Try.prog 27 #[inPtr p] w fun en w' => en = .returned (.int .i64 0) ∧ St W0 w' K (.inp p ⟨s, n, 0⟩ :: L) := s_errV p _ 0 rfl h
theorem sameZQ {W0 w : World} {K : Know} {L : List Res} (h : St W0 w K L) : Calls Try.prog 42 #[.agg #[.bool false, .string ⟨#[]⟩, .int .i64 0, .int .i64 0, .int .i64 0, .slice none 0 0, .bool false], .agg #[.bool false, .string ⟨#[]⟩, .int .i64 0, .int .i64 0, .int .i64 0, .slice none 0 0, .bool false]] w fun en w' => en = .returned (.bool true) ∧ St W0 w' K L := s22Z false [] 0 0 0 false h
set_option maxHeartbeats 1000000 in
set_option maxRecDepth 100000 in
theorem trr_long (n m : Int) (s : Bs) (hl : 2000 < s.length) {W0 w : World} {K : Know} {L : List Res} (h : St W0 w K L) :
    Calls Try.prog 8 #[.int .u8 n, .int .u8 m, .string (bb s)] w fun en w' => en = .returned (.bool true) ∧ Below W0.heap.size W0 w' := by
  have H := Lib.hid h
  have hli : 2000 < (s.length : Int) := by omega
  clear h hl
  go_enter Try.func8, Try.ntmps8
  go_wp2_with (go_at_call 37; (with_reducible refine (speaks18 H.out).mono ?_); rintro e_ wn ⟨rfl, h⟩; replace H := Lib.hid h; clear h)
  go_ret
  exact ⟨rfl, H.out.below⟩
set_option maxHeartbeats 4000000 in
set_option maxRecDepth 100000 in
theorem trr_bad (n m k v E : Int) (s : Bs) (hl : s.length ≤ 2000) (hv : m.tmod 2 = v) (hv1 : IntKind.u8.wrap v = v) (hv2 : IntKind.i64.wrap v = v) (h0 : E ≠ 0) (HKN : ∀ (W0 w : World) (K : Know) (L : List Res), St W0 w K L → Calls Try.prog 38 #[.int .u8 n] w fun en w' => en = .returned (.int .i64 k) ∧ St W0 w' K L) (HP : ∀ (W0 w : World) (K : Know) (L : List Res) (b : Nat), St W0 w K (.inp b ⟨s, 0, 0⟩ :: L) → Calls Try.prog 43 #[.int .i64 k, .int .i64 v, inPtr b] w fun en w' => ∃ j, en = .returned (.agg #[.bool false, .string ⟨#[]⟩, .int .i64 0, .int .i64 0, .int .i64 0, .slice none 0 0, .bool false]) ∧ j.err = E ∧ St W0 w' K (.inp b j :: L)) (HR : ∀ (W0 w : World) (K : Know) (L : List Res), St W0 w K L → Calls Try.prog 44 #[.int .i64 k, .int .i64 v, .string (bb s)] w fun en w' => en = .returned (.tuple #[.agg #[.bool false, .string ⟨#[]⟩, .int .i64 0, .int .i64 0, .int .i64 0, .slice none 0 0, .bool false], .int .i64 0, .int .i64 E]) ∧ St W0 w' K L) {W0 w : World} {K : Know} {L : List Res} (h : St W0 w K L) :
    Calls Try.prog 8 #[.int .u8 n, .int .u8 m, .string (bb s)] w fun en w' => en = .returned (.bool true) ∧ Below W0.heap.size W0 w' := by
  have H := Lib.hid h
  have hli : ¬ 2000 < (s.length : Int) := by omega
  have HSL := Lib.hid (show s.length ≤ 140737488355328 by omega)
  have g1 : (E == 0) = false := by rw [beq_eq_false_iff_ne]; exact h0
  have g2 : (E != 0) = true := by simp [bne, g1]
  have g3 : (E == E) = true := beq_self_eq_true _
  have g4 : (E != E) = false := by simp [bne, g3]
  replace HKN := Lib.hid HKN
  replace HP := Lib.hid HP
  replace HR := Lib.hid HR
  clear h hl h0
  go_enter Try.func8, Try.ntmps8
  go_wp2_with (first
    | (go_at_call 37; (with_reducible refine (speaks18 H.out).mono ?_); rintro e_ wn ⟨rfl, h⟩; replace H := Lib.hid h; clear h)
    | (go_at_call 38; (with_reducible refine (HKN.out _ _ _ _ H.out).mono ?_); rintro e_ wn ⟨rfl, h⟩; replace H := Lib.hid h; clear h)
    | (go_at_call 24; (with_reducible refine (s_new s HSL.out H.out).mono ?_); rintro e_ wn ⟨bi, rfl, h⟩; replace H := Lib.hid h; clear h)
    | (go_at_call 43; (with_reducible refine (HP.out _ _ _ _ bi H.out).mono ?_); rintro e_ wn ⟨j, rfl, hje, h⟩; have HJE := Lib.hid hje; clear hje; obtain ⟨bx, hbx⟩ : ∃ b, wn.heap.size = b := ⟨_, rfl⟩; have h := h.allocRaw #[.bool false, .string ⟨#[]⟩, .int .i64 0, .int .i64 0, .int .i64 0, .slice none 0 0, .bool false] 66; rw [hbx] at h; replace H := Lib.hid h; clear h)
    | (go_at_call 44; (with_reducible refine (HR.out _ _ _ _ H.out).mono ?_); rintro e_ wn ⟨rfl, h⟩; obtain ⟨wb, hwb⟩ : ∃ b, wn.heap.size = b := ⟨_, rfl⟩; have h := h.allocRaw #[.bool false, .string ⟨#[]⟩, .int .i64 0, .int .i64 0, .int .i64 0, .slice none 0 0, .bool false] 66; rw [hwb] at h; replace H := Lib.hid h; clear h)
    | (go_at_call 27; (with_reducible refine (s_errV bi j E HJE.out H.out.p2).mono ?_); rintro e_ wn ⟨rfl, h⟩; have x0 := h.p2.rawCell 0; have x1 := h.p2.rawCell 1; have x2 := h.p2.rawCell 2; have x3 := h.p2.rawCell 3; have x4 := h.p2.rawCell 4; have x5 := h.p2.rawCell 5; have x6 := h.p2.rawCell 6; simp at x0 x1 x2 x3 x4 x5 x6; replace H := Lib.hid h; clear h)
    | (go_at_call 42; (with_reducible refine (sameZQ H.out).mono ?_); rintro e_ wn ⟨rfl, h⟩; replace H := Lib.hid h; clear h))
  go_ret
  exact ⟨rfl, H.out.below⟩

end Go.Proofs.Ytombolmicfjjpaa

/- TxnReads: over what is called: good bytes. -/
namespace Go.Proofs.Ytombolmicfjjpaa
open Go.RowKit

set_option maxHeartbeats 8000000 in
set_option maxRecDepth 100000 in
theorem trr_good (n m k v : Int) (s : Bs) (hl : s.length ≤ 2000) (hv : m.tmod 2 = v) (hv1 : IntKind.u8.wrap v = v) (hv2 : IntKind.i64.wrap v = v) (nl : Bool) (d : Bs) (tm p e : Int) (tl : List TopS) (c : Bool) (many : Nat) (hm : many ≤ s.length) (hf : FewL tl) (HKN : ∀ (W0 w : World) (K : Know) (L : List Res), St W0 w K L → Calls Try.prog 38 #[.int .u8 n] w fun en w' => en = .returned (.int .i64 k) ∧ St W0 w' K L) (HP : ∀ (W0 w : World) (K : Know) (L : List Res) (b : Nat), St W0 w K (.inp b ⟨s, 0, 0⟩ :: L) → Calls Try.prog 43 #[.int .i64 k, .int .i64 v, inPtr b] w fun en w' => ∃ (q : Option Addr) (cap : Nat) (lr : List (TopS × Value)), en = .returned (.agg #[.bool nl, .string (bb d), .int .i64 tm, .int .i64 p, .int .i64 e, .slice q lr.length cap, .bool c]) ∧ lr.map (·.1) = tl ∧ St W0 w' (K.and (Know.tops (.slice q lr.length cap) lr)) (.inp b ⟨s, many, 0⟩ :: L)) (HR : ∀ (W0 w : World) (K : Know) (L : List Res), St W0 w K L → Calls Try.prog 44 #[.int .i64 k, .int .i64 v, .string (bb s)] w fun en w' => ∃ (q2 : Option Addr) (cap2 : Nat) (lr2 : List (TopS × Value)), en = .returned (.tuple #[.agg #[.bool nl, .string (bb d), .int .i64 tm, .int .i64 p, .int .i64 e, .slice q2 lr2.length cap2, .bool c], .int .i64 many, .int .i64 0]) ∧ lr2.map (·.1) = tl ∧ St W0 w' (K.and (Know.tops (.slice q2 lr2.length cap2) lr2)) L) (HW : ∀ (q : Option Addr) (cap : Nat) (lr : List (TopS × Value)), lr.map (·.1) = tl → ∀ (W0 w : World) (K : Know) (L : List Res), K.has (Know.tops (.slice q lr.length cap) lr) → St W0 w K L → Calls Try.prog 41 #[.int .i64 k, .int .i64 v, .agg #[.bool nl, .string (bb d), .int .i64 tm, .int .i64 p, .int .i64 e, .slice q lr.length cap, .bool c]] w fun en w' => en = .returned (.string (bb (s.take many))) ∧ St W0 w' K L) {W0 w : World} {K : Know} {L : List Res} (h : St W0 w K L) :
    Calls Try.prog 8 #[.int .u8 n, .int .u8 m, .string (bb s)] w fun en w' => en = .returned (.bool true) ∧ Below W0.heap.size W0 w' := by
  have H := Lib.hid h
  have hli : ¬ 2000 < (s.length : Int) := by omega
  have HSL := Lib.hid (show s.length ≤ 140737488355328 by omega)
  have hmi : (many : Int) ≤ (s.length : Int) := by omega
  have gm : ((many : Int) == (many : Int)) = true := beq_self_eq_true _
  have gt : (s.take many == s.take many) = true := beq_self_eq_true _
  have HF := Lib.hid hf
  replace HKN := Lib.hid HKN
  replace HP := Lib.hid HP
  replace HR := Lib.hid HR
  replace HW := Lib.hid HW
  clear h hl hf hm
  go_enter Try.func8, Try.ntmps8
  go_upto_region 13 with (first
    | (go_at_call 37; (with_reducible refine (speaks18 H.out).mono ?_); rintro e_ wn ⟨rfl, h⟩; replace H := Lib.hid h; clear h)
    | (go_at_call 38; (with_reducible refine (HKN.out _ _ _ _ H.out).mono ?_); rintro e_ wn ⟨rfl, h⟩; replace H := Lib.hid h; clear h)
    | (go_at_call 24; (with_reducible refine (s_new s HSL.out H.out).mono ?_); rintro e_ wn ⟨bi, rfl, h⟩; replace H := Lib.hid h; clear h)
    | (go_at_call 43; (with_reducible refine (HP.out _ _ _ _ bi H.out).mono ?_); rintro e_ wn ⟨q, cap, lr, rfl, hlr, h⟩; have HLR := Lib.hid hlr; clear hlr; obtain ⟨bx, hbx⟩ : ∃ b, wn.heap.size = b := ⟨_, rfl⟩; have h := h.allocRaw #[.bool nl, .string (bb d), .int .i64 tm, .int .i64 p, .int .i64 e, .slice q lr.length cap, .bool c] 66; rw [hbx] at h; replace H := Lib.hid h; clear h)
    | (go_at_call 44; (with_reducible refine (HR.out _ _ _ _ H.out).mono ?_); rintro e_ wn ⟨q2, cap2, lr2, rfl, hlr, h⟩; have HLR2 := Lib.hid hlr; clear hlr; obtain ⟨wb, hwb⟩ : ∃ b, wn.heap.size = b := ⟨_, rfl⟩; have h := h.allocRaw #[.bool nl, .string (bb d), .int .i64 tm, .int .i64 p, .int .i64 e, .slice q2 lr2.length cap2, .bool c] 66; rw [hwb] at h; replace H := Lib.hid h; clear h)
    | (go_at_call 27; (with_reducible refine (s_errQ bi s many H.out.p2).mono ?_); rintro e_ wn ⟨rfl, h⟩; replace H := Lib.hid h; clear h))
  have HLL := Lib.hid (HLR.out.trans HLR2.out.symm)
  have HL1 := Lib.hid (lenT_of (fewT_of (by rw [HLR.out]; exact HF.out)))
  have HL2 := Lib.hid (lenT_of (fewT_of (by rw [HLR2.out]; exact HF.out)))
  have hs := H.out.drew
  have HKQ := Lib.hid (show ∀ w', St W0 w' ((K.and (Know.tops (.slice q lr.length cap) lr)).and (Know.tops (.slice q2 lr2.length cap2) lr2)) (.inp bi ⟨s, many, 0⟩ :: .raw wb #[.bool nl, .string (bb d), .int .i64 tm, .int .i64 p, .int .i64 e, .slice q2 lr2.length cap2, .bool c] 66 :: .raw bx #[.bool nl, .string (bb d), .int .i64 tm, .int .i64 p, .int .i64 e, .slice q lr.length cap, .bool c] 66 :: L) → (w'.cell? ⟨bx, 0, none⟩ = some (.bool nl) ∧ w'.cell? ⟨bx, 1, none⟩ = some (.string (bb d)) ∧ w'.cell? ⟨bx, 2, none⟩ = some (.int .i64 tm) ∧ w'.cell? ⟨bx, 3, none⟩ = some (.int .i64 p) ∧ w'.cell? ⟨bx, 4, none⟩ = some (.int .i64 e) ∧ w'.cell? ⟨bx, 5, none⟩ = some (.slice q lr.length cap) ∧ w'.cell? ⟨bx, 6, none⟩ = some (.bool c) ∧ w'.cell? ⟨wb, 0, none⟩ = some (.bool nl) ∧ w'.cell? ⟨wb, 1, none⟩ = some (.string (bb d)) ∧ w'.cell? ⟨wb, 2, none⟩ = some (.int .i64 tm) ∧ w'.cell? ⟨wb, 3, none⟩ = some (.int .i64 p) ∧ w'.cell? ⟨wb, 4, none⟩ = some (.int .i64 e) ∧ w'.cell? ⟨wb, 5, none⟩ = some (.slice q2 lr2.length cap2) ∧ w'.cell? ⟨wb, 6, none⟩ = some (.bool c)) from fun w' hs => ⟨hs.p2.rawCell 0, hs.p2.rawCell 1, hs.p2.rawCell 2, hs.p2.rawCell 3, hs.p2.rawCell 4, hs.p2.rawCell 5, hs.p2.rawCell 6, hs.p1.rawCell 0, hs.p1.rawCell 1, hs.p1.rawCell 2, hs.p1.rawCell 3, hs.p1.rawCell 4, hs.p1.rawCell 5, hs.p1.rawCell 6⟩)
  refine wp_region_held_drew (S := fun w' => w'.cell? ⟨bx, 0, none⟩ = some (.bool nl) ∧ w'.cell? ⟨bx, 1, none⟩ = some (.string (bb d)) ∧ w'.cell? ⟨bx, 2, none⟩ = some (.int .i64 tm) ∧ w'.cell? ⟨bx, 3, none⟩ = some (.int .i64 p) ∧ w'.cell? ⟨bx, 4, none⟩ = some (.int .i64 e) ∧ w'.cell? ⟨bx, 5, none⟩ = some (.slice q lr.length cap) ∧ w'.cell? ⟨bx, 6, none⟩ = some (.bool c) ∧ w'.cell? ⟨wb, 0, none⟩ = some (.bool nl) ∧ w'.cell? ⟨wb, 1, none⟩ = some (.string (bb d)) ∧ w'.cell? ⟨wb, 2, none⟩ = some (.int .i64 tm) ∧ w'.cell? ⟨wb, 3, none⟩ = some (.int .i64 p) ∧ w'.cell? ⟨wb, 4, none⟩ = some (.int .i64 e) ∧ w'.cell? ⟨wb, 5, none⟩ = some (.slice q2 lr2.length cap2) ∧ w'.cell? ⟨wb, 6, none⟩ = some (.bool c)) (by kernel_rfl) (HKQ.out _ hs) (fun hHeld => ?_)
  refine wpAnyH_take (i := 0) (oi := { dst := some 47, op := Op.load 66 (Operand.tmp 10), type := 66, pos := "law.go:110", after := #[], guard := none }) (v := ?_) rfl (by kernel_rfl) (by kernel_rfl) (by kernel_rfl) (fun _ _ _ h => h) (Or.inl ⟨by rfl, ?_⟩) (by assumption) ?_
  rotate_left
  · intro w hSw; (try dsimp only at hSw); go_simp; try with_reducible rfl
  simp only [Act.put, List.setIfInBounds_toArray, List.set_cons_zero, List.set_cons_succ]
  refine wpAnyH_take (i := 1) (oi := { dst := some 48, op := Op.load 66 (Operand.tmp 11), type := 66, pos := "law.go:110", after := #[], guard := none }) (v := ?_) rfl (by kernel_rfl) (by kernel_rfl) (by kernel_rfl) (fun _ _ _ h => h) (Or.inl ⟨by rfl, ?_⟩) (by assumption) ?_
  rotate_left
  · intro w hSw; (try dsimp only at hSw); go_simp; try with_reducible rfl
  simp only [Act.put, List.setIfInBounds_toArray, List.set_cons_zero, List.set_cons_succ]
  refine wpAnyH_ready (rs := [2]) (by kernel_rfl) (by simp) (AllReadyH.cons (o := { dst := some 49, op := Op.call { callee := Callee.value (Operand.func 42), args := #[Operand.tmp 47, Operand.tmp 48], argTypes := #[66, 66] }, type := 4, pos := "law.go:110", after := #[{ on := 0, ground := Ground.data }, { on := 1, ground := Ground.data }], guard := none }) rfl (fun KK hK => ?_) AllReadyH.nil)
  · go_simp
    go_at_call 42
    with_reducible refine (ref18_sameT nl d tm p e c lr lr2 q q2 cap cap2 HLL.out HL1.out HL2.out (Know.has_left (Know.has_right (Know.has_refl _))) (Know.has_right (Know.has_refl _)) hs).mono ?_
    rintro e wq ⟨rfl, hs⟩
    refine hK.out _ _ (HKQ.out _ hs) (fun hHeld => ?_)
    clear hK KK
    try simp only [Act.put, List.setIfInBounds_toArray, List.set_cons_zero, List.set_cons_succ]
    refine wpAnyH_take (i := 3) (oi := { dst := some 50, op := Op.move (Operand.tmp 49), type := 4, pos := "law.go:110", after := #[{ on := 2, ground := Ground.data }, { on := 2, ground := Ground.chain }], guard := none }) (v := ?_) rfl (by kernel_rfl) (by kernel_rfl) (by kernel_rfl) (fun _ _ _ h => h) (Or.inl ⟨by rfl, ?_⟩) (by assumption) ?_
    rotate_left
    · intro w hSw; (try dsimp only at hSw); go_simp; try with_reducible rfl
    simp only [Act.put, List.setIfInBounds_toArray, List.set_cons_zero, List.set_cons_succ]
    refine wpAnyH_take (i := 4) (oi := { dst := some 51, op := Op.move (Operand.tmp 9), type := 41, pos := "law.go:110", after := #[{ on := 3, ground := Ground.guard }], guard := some (3, true) }) (v := ?_) rfl (by kernel_rfl) (by kernel_rfl) (by kernel_rfl) (fun _ _ _ h => h) (Or.inl ⟨by rfl, ?_⟩) (by assumption) ?_
    rotate_left
    · intro w hSw; (try dsimp only at hSw); go_simp; try with_reducible rfl
    simp only [Act.put, List.setIfInBounds_toArray, List.set_cons_zero, List.set_cons_succ]
    refine wpAnyH_take (i := 6) (oi := { dst := some 53, op := Op.move (Operand.tmp 12), type := 3, pos := "law.go:110", after := #[{ on := 3, ground := Ground.guard }], guard := some (3, true) }) (v := ?_) rfl (by kernel_rfl) (by kernel_rfl) (by kernel_rfl) (fun _ _ _ h => h) (Or.inl ⟨by rfl, ?_⟩) (by assumption) ?_
    rotate_left
    · intro w hSw; (try dsimp only at hSw); go_simp; try with_reducible rfl
    simp only [Act.put, List.setIfInBounds_toArray, List.set_cons_zero, List.set_cons_succ]
    refine wpAnyH_ready (rs := [5]) (by kernel_rfl) (by simp) (AllReadyH.cons (o := { dst := some 52, op := Op.call { callee := Callee.value (Operand.func 29), args := #[Operand.tmp 51], argTypes := #[41] }, type := 3, pos := "law.go:110", after := #[{ on := 4, ground := Ground.data }, { on := 3, ground := Ground.chain }, { on := 3, ground := Ground.guard }], guard := some (3, true) }) rfl (fun KK hK => ?_) AllReadyH.nil)
    · go_simp
      go_at_call 29
      with_reducible refine (s_atQ bi s many hs).mono ?_
      rintro e wq ⟨rfl, hs⟩
      refine hK.out _ _ (HKQ.out _ hs) (fun hHeld => ?_)
      clear hK KK
      try simp only [Act.put, List.setIfInBounds_toArray, List.set_cons_zero, List.set_cons_succ]
      refine wpAnyH_take (i := 7) (oi := { dst := some 54, op := Op.binOp BinOp.eql 3 (Operand.tmp 52) (Operand.tmp 53) 3, type := 4, pos := "law.go:110", after := #[{ on := 5, ground := Ground.data }, { on := 6, ground := Ground.data }, { on := 3, ground := Ground.guard }], guard := some (3, true) }) (v := ?_) rfl (by kernel_rfl) (by kernel_rfl) (by kernel_rfl) (fun _ _ _ h => h) (Or.inl ⟨by rfl, ?_⟩) (by assumption) ?_
      rotate_left
      · intro w hSw; (try dsimp only at hSw); go_simp; try with_reducible rfl
      simp only [Act.put, List.setIfInBounds_toArray, List.set_cons_zero, List.set_cons_succ]
      refine wpAnyH_take (i := 8) (oi := { dst := some 55, op := Op.pick (Operand.tmp 50) (Operand.tmp 54) (Operand.const (Value.bool false)), type := 4, pos := "law.go:110", after := #[{ on := 3, ground := Ground.data }, { on := 7, ground := Ground.data }], guard := none }) (v := ?_) rfl (by kernel_rfl) (by kernel_rfl) (by kernel_rfl) (fun _ _ _ h => h) (Or.inl ⟨by rfl, ?_⟩) (by assumption) ?_
      rotate_left
      · intro w hSw; (try dsimp only at hSw); go_simp; try with_reducible rfl
      simp only [Act.put, List.setIfInBounds_toArray, List.set_cons_zero, List.set_cons_succ]
      refine wpAnyH_take (i := 9) (oi := { dst := some 56, op := Op.move (Operand.tmp 55), type := 4, pos := "law.go:110", after := #[{ on := 8, ground := Ground.data }, { on := 5, ground := Ground.chain }], guard := none }) (v := ?_) rfl (by kernel_rfl) (by kernel_rfl) (by kernel_rfl) (fun _ _ _ h => h) (Or.inl ⟨by rfl, ?_⟩) (by assumption) ?_
      rotate_left
      · intro w hSw; (try dsimp only at hSw); go_simp; try with_reducible rfl
      simp only [Act.put, List.setIfInBounds_toArray, List.set_cons_zero, List.set_cons_succ]
      refine wpAnyH_take (i := 10) (oi := { dst := some 57, op := Op.move (Operand.tmp 7), type := 3, pos := "law.go:110", after := #[{ on := 9, ground := Ground.guard }], guard := some (9, true) }) (v := ?_) rfl (by kernel_rfl) (by kernel_rfl) (by kernel_rfl) (fun _ _ _ h => h) (Or.inl ⟨by rfl, ?_⟩) (by assumption) ?_
      rotate_left
      · intro w hSw; (try dsimp only at hSw); go_simp; try with_reducible rfl
      simp only [Act.put, List.setIfInBounds_toArray, List.set_cons_zero, List.set_cons_succ]
      refine wpAnyH_take (i := 11) (oi := { dst := some 58, op := Op.move (Operand.tmp 8), type := 3, pos := "law.go:110", after := #[{ on := 9, ground := Ground.guard }], guard := some (9, true) }) (v := ?_) rfl (by kernel_rfl) (by kernel_rfl) (by kernel_rfl) (fun _ _ _ h => h) (Or.inl ⟨by rfl, ?_⟩) (by assumption) ?_
      rotate_left
      · intro w hSw; (try dsimp only at hSw); go_simp; try with_reducible rfl
      simp only [Act.put, List.setIfInBounds_toArray, List.set_cons_zero, List.set_cons_succ]
      refine wpAnyH_take (i := 12) (oi := { dst := some 59, op := Op.load 66 (Operand.tmp 10), type := 66, pos := "law.go:110", after := #[{ on := 9, ground := Ground.guard }], guard := some (9, true) }) (v := ?_) rfl (by kernel_rfl) (by kernel_rfl) (by kernel_rfl) (fun _ _ _ h => h) (Or.inl ⟨by rfl, ?_⟩) (by assumption) ?_
      rotate_left
      · intro w hSw; (try dsimp only at hSw); go_simp; try with_reducible rfl
      simp only [Act.put, List.setIfInBounds_toArray, List.set_cons_zero, List.set_cons_succ]
      refine wpAnyH_take (i := 14) (oi := { dst := some 61, op := Op.move (Operand.tmp 2), type := 9, pos := "law.go:110", after := #[{ on := 9, ground := Ground.guard }], guard := some (9, true) }) (v := ?_) rfl (by kernel_rfl) (by kernel_rfl) (by kernel_rfl) (fun _ _ _ h => h) (Or.inl ⟨by rfl, ?_⟩) (by assumption) ?_
      rotate_left
      · intro w hSw; (try dsimp only at hSw); go_simp; try with_reducible rfl
      simp only [Act.put, List.setIfInBounds_toArray, List.set_cons_zero, List.set_cons_succ]
      refine wpAnyH_take (i := 15) (oi := { dst := some 62, op := Op.move (Operand.tmp 12), type := 3, pos := "law.go:110", after := #[{ on := 9, ground := Ground.guard }], guard := some (9, true) }) (v := ?_) rfl (by kernel_rfl) (by kernel_rfl) (by kernel_rfl) (fun _ _ _ h => h) (Or.inl ⟨by rfl, ?_⟩) (by assumption) ?_
      rotate_left
      · intro w hSw; (try dsimp only at hSw); go_simp; try with_reducible rfl
      simp only [Act.put, List.setIfInBounds_toArray, List.set_cons_zero, List.set_cons_succ]
      refine wpAnyH_take (i := 16) (oi := { dst := some 63, op := Op.slice 9 (Operand.tmp 61) none (some (Operand.tmp 62)) none, type := 9, pos := "law.go:110", after := #[{ on := 14, ground := Ground.data }, { on := 15, ground := Ground.data }, { on := 9, ground := Ground.guard }], guard := some (9, true) }) (v := ?_) rfl (by kernel_rfl) (by kernel_rfl) (by kernel_rfl) (fun _ _ _ h => h) (Or.inl ⟨by rfl, ?_⟩) (by assumption) ?_
      rotate_left
      · intro w hSw; (try dsimp only at hSw); go_simp; try with_reducible rfl
      simp only [Act.put, List.setIfInBounds_toArray, List.set_cons_zero, List.set_cons_succ]
      refine wpAnyH_ready (rs := [13]) (by kernel_rfl) (by simp) (AllReadyH.cons (o := { dst := some 60, op := Op.call { callee := Callee.value (Operand.func 41), args := #[Operand.tmp 57, Operand.tmp 58, Operand.tmp 59], argTypes := #[3, 3, 66] }, type := 9, pos := "law.go:110", after := #[{ on := 10, ground := Ground.data }, { on := 11, ground := Ground.data }, { on := 12, ground := Ground.data }, { on := 9, ground := Ground.chain }, { on := 9, ground := Ground.guard }], guard := some (9, true) }) rfl (fun KK hK => ?_) AllReadyH.nil)
      · go_simp
        go_at_call 41
        with_reducible refine (HW.out q cap lr HLR.out _ _ _ _ (Know.has_left (Know.has_right (Know.has_refl _))) hs).mono ?_
        rintro e wq ⟨rfl, hs⟩
        refine hK.out _ _ (HKQ.out _ hs) (fun hHeld => ?_)
        clear hK KK
        try simp only [Act.put, List.setIfInBounds_toArray, List.set_cons_zero, List.set_cons_succ]
        refine wpAnyH_take (i := 17) (oi := { dst := some 64, op := Op.binOp BinOp.eql 9 (Operand.tmp 60) (Operand.tmp 63) 9, type := 4, pos := "law.go:110", after := #[{ on := 13, ground := Ground.data }, { on := 16, ground := Ground.data }, { on := 9, ground := Ground.guard }], guard := some (9, true) }) (v := ?_) rfl (by kernel_rfl) (by kernel_rfl) (by kernel_rfl) (fun _ _ _ h => h) (Or.inl ⟨by rfl, ?_⟩) (by assumption) ?_
        rotate_left
        · intro w hSw; (try dsimp only at hSw); go_simp; try with_reducible rfl
        simp only [Act.put, List.setIfInBounds_toArray, List.set_cons_zero, List.set_cons_succ]
        refine wpAnyH_take (i := 18) (oi := { dst := some 65, op := Op.pick (Operand.tmp 56) (Operand.tmp 64) (Operand.const (Value.bool false)), type := 4, pos := "law.go:110", after := #[{ on := 9, ground := Ground.data }, { on := 17, ground := Ground.data }], guard := none }) (v := ?_) rfl (by kernel_rfl) (by kernel_rfl) (by kernel_rfl) (fun _ _ _ h => h) (Or.inl ⟨by rfl, ?_⟩) (by assumption) ?_
        rotate_left
        · intro w hSw; (try dsimp only at hSw); go_simp; try with_reducible rfl
        simp only [Act.put, List.setIfInBounds_toArray, List.set_cons_zero, List.set_cons_succ]
        refine wpAnyH_take (i := 19) (oi := { dst := some 6, op := Op.assign (Operand.tmp 65), type := 4, pos := "law.go:110", after := #[{ on := 18, ground := Ground.data }, { on := 13, ground := Ground.chain }, { on := 0, ground := Ground.phase }, { on := 1, ground := Ground.phase }, { on := 2, ground := Ground.phase }, { on := 3, ground := Ground.phase }, { on := 4, ground := Ground.phase }, { on := 5, ground := Ground.phase }, { on := 6, ground := Ground.phase }, { on := 7, ground := Ground.phase }, { on := 8, ground := Ground.phase }, { on := 9, ground := Ground.phase }, { on := 10, ground := Ground.phase }, { on := 11, ground := Ground.phase }, { on := 12, ground := Ground.phase }, { on := 13, ground := Ground.phase }, { on := 14, ground := Ground.phase }, { on := 15, ground := Ground.phase }, { on := 16, ground := Ground.phase }, { on := 17, ground := Ground.phase }, { on := 18, ground := Ground.phase }], guard := none }) (v := ?_) rfl (by kernel_rfl) (by kernel_rfl) (by kernel_rfl) (fun _ _ _ h => h) (Or.inl ⟨by rfl, ?_⟩) (by assumption) ?_
        rotate_left
        · intro w hSw; (try dsimp only at hSw); go_simp; try with_reducible rfl
        simp only [Act.put, List.setIfInBounds_toArray, List.set_cons_zero, List.set_cons_succ]
        refine wpAnyH_done (by kernel_rfl) ?_ _
        go_wp2_with fail
        go_ret
        exact ⟨rfl, hs.below⟩

end Go.Proofs.Ytombolmicfjjpaa

/- Begin, read by definition, in version 0. -/
namespace Go.Proofs.Ytombolmicfjjpaa
open Go.RowKit

set_option maxHeartbeats 8000000 in
set_option maxRecDepth 100000 in
theorem r18_220_err (s : Bs) (hsl : s.length ≤ 2000) (ef : Int) (hv : refixed 2 s = .error ef) (h0 : ef ≠ 0) {W0 w : World} {K : Know} {L : List Res} (h : St W0 w K L) :
    Calls Try.prog 44 #[.int .i64 22, .int .i64 0, .string (bb s)] w fun en w' => en = .returned (.tuple #[.agg #[.bool false, .string ⟨#[]⟩, .int .i64 0, .int .i64 0, .int .i64 0, .slice none 0 0, .bool false], .int .i64 0, .int .i64 ef]) ∧ St W0 w' K L := by
  obtain ⟨rb, hrb⟩ : ∃ b, w.heap.size = b := ⟨_, rfl⟩
  obtain ⟨nb, hnb⟩ : ∃ b, rb + 1 = b := ⟨_, rfl⟩
  have g1 := (h.allocRaw #[.bool false, .string ⟨#[]⟩, .int .i64 0, .int .i64 0, .int .i64 0, .slice none 0 0, .bool false] 66).allocRaw #[.bool false, .string ⟨#[]⟩, .int .i64 0, .int .i64 0, .int .i64 0, .slice none 0 0, .bool false] 66
  simp only [World.size_alloc, hrb, hnb] at g1
  have H := Lib.hid g1
  have HX := Lib.hid (show s.length ≤ 140737488355328 by omega)
  have c0 := g1.rawCell 0; have c1 := g1.rawCell 1; have c2 := g1.rawCell 2; have c3 := g1.rawCell 3; have c4 := g1.rawCell 4; have c5 := g1.rawCell 5; have c6 := g1.rawCell 6; simp at c0 c1 c2 c3 c4 c5 c6
  have d0 := g1.p1.rawCell 0; have r0 := g1.p1.rawFree 0; have d1 := g1.p1.rawCell 1; have r1 := g1.p1.rawFree 1; have d2 := g1.p1.rawCell 2; have r2 := g1.p1.rawFree 2; have d3 := g1.p1.rawCell 3; have r3 := g1.p1.rawFree 3; have d4 := g1.p1.rawCell 4; have r4 := g1.p1.rawFree 4; have d5 := g1.p1.rawCell 5; have r5 := g1.p1.rawFree 5; have d6 := g1.p1.rawCell 6; have r6 := g1.p1.rawFree 6; simp at d0 d1 d2 d3 d4 d5 d6
  have HV := Lib.hid hv
  have g1 : (ef == 0) = false := by rw [beq_eq_false_iff_ne]; exact h0
  have g2 : (ef != 0) = true := by simp [bne, g1]
  clear h g1 hv h0
  go_enter Try.func44, Try.ntmps44
  go_wp2_with (go_at_call 81; clear c0 d0 r0 c1 d1 r1 c2 d2 r2 c3 d3 r3 c4 d4 r4 c5 d5 r5 c6 d6 r6; (with_reducible refine (ref04_fixErr _ s ef rfl HX.out HV.out H.out).mono ?_); rintro e_ wn ⟨rfl, h⟩; obtain ⟨gb, hgb⟩ : ∃ b, wn.heap.size = b := ⟨_, rfl⟩; have h := h.allocRaw #[.bool false, .string ⟨#[]⟩, .int .i64 0, .int .i64 ef] 128; rw [hgb] at h; have c0 := h.p1.rawCell 0; have c1 := h.p1.rawCell 1; have c2 := h.p1.rawCell 2; have c3 := h.p1.rawCell 3; have c4 := h.p1.rawCell 4; have c5 := h.p1.rawCell 5; have c6 := h.p1.rawCell 6; simp at c0 c1 c2 c3 c4 c5 c6; have d0 := h.p2.rawCell 0; have r0 := h.p2.rawFree 0; have d1 := h.p2.rawCell 1; have r1 := h.p2.rawFree 1; have d2 := h.p2.rawCell 2; have r2 := h.p2.rawFree 2; have d3 := h.p2.rawCell 3; have r3 := h.p2.rawFree 3; have d4 := h.p2.rawCell 4; have r4 := h.p2.rawFree 4; have d5 := h.p2.rawCell 5; have r5 := h.p2.rawFree 5; have d6 := h.p2.rawCell 6; have r6 := h.p2.rawFree 6; simp at d0 d1 d2 d3 d4 d5 d6; replace H := Lib.hid h; clear h)
  clear c0 d0 r0 c1 d1 r1 c2 d2 r2 c3 d3 r3 c4 d4 r4 c5 d5 r5 c6 d6 r6
  have hs := H.out.drew
  have HKQ := Lib.hid (show ∀ w', St W0 w' K (.raw gb #[.bool false, .string ⟨#[]⟩, .int .i64 0, .int .i64 ef] 128 :: .raw nb #[.bool false, .string ⟨#[]⟩, .int .i64 0, .int .i64 0, .int .i64 0, .slice none 0 0, .bool false] 66 :: .raw rb #[.bool false, .string ⟨#[]⟩, .int .i64 0, .int .i64 0, .int .i64 0, .slice none 0 0, .bool false] 66 :: L) → (w'.cell? ⟨nb, 0, none⟩ = some (.bool false) ∧ w'.cell? ⟨nb, 1, none⟩ = some (.string ⟨#[]⟩) ∧ w'.cell? ⟨nb, 2, none⟩ = some (.int .i64 0) ∧ w'.cell? ⟨nb, 3, none⟩ = some (.int .i64 0) ∧ w'.cell? ⟨nb, 4, none⟩ = some (.int .i64 0) ∧ w'.cell? ⟨nb, 5, none⟩ = some (.slice none 0 0) ∧ w'.cell? ⟨nb, 6, none⟩ = some (.bool false) ∧ w'.cell? ⟨gb, 3, none⟩ = some (.int .i64 ef)) from fun w' hs => ⟨hs.p1.rawCell 0, hs.p1.rawCell 1, hs.p1.rawCell 2, hs.p1.rawCell 3, hs.p1.rawCell 4, hs.p1.rawCell 5, hs.p1.rawCell 6, hs.rawCell 3⟩)
  refine wp_region_held_drew (S := fun w' => w'.cell? ⟨nb, 0, none⟩ = some (.bool false) ∧ w'.cell? ⟨nb, 1, none⟩ = some (.string ⟨#[]⟩) ∧ w'.cell? ⟨nb, 2, none⟩ = some (.int .i64 0) ∧ w'.cell? ⟨nb, 3, none⟩ = some (.int .i64 0) ∧ w'.cell? ⟨nb, 4, none⟩ = some (.int .i64 0) ∧ w'.cell? ⟨nb, 5, none⟩ = some (.slice none 0 0) ∧ w'.cell? ⟨nb, 6, none⟩ = some (.bool false) ∧ w'.cell? ⟨gb, 3, none⟩ = some (.int .i64 ef)) (by kernel_rfl) (HKQ.out _ hs) (fun hHeld => ?_)
  refine wpAnyH_take (i := 0) (oi := { dst := some 23, op := Op.load 66 (Operand.tmp 9), type := 66, pos := "ref.go:81", after := #[], guard := none }) (v := ?_) rfl (by kernel_rfl) (by kernel_rfl) (by kernel_rfl) (fun _ _ _ h => h) (Or.inl ⟨by rfl, ?_⟩) (by assumption) ?_
  rotate_left
  · intro w hSw; (try dsimp only at hSw); go_simp; try with_reducible rfl
  simp only [Act.put, List.setIfInBounds_toArray, List.set_cons_zero, List.set_cons_succ]
  refine wpAnyH_take (i := 1) (oi := { dst := some 24, op := Op.fieldAddr 128 (Operand.tmp 10) 2, type := 0, pos := "ref.go:81", after := #[{ on := 4, ground := Ground.gcOnly Departure.lateStores }], guard := none }) (v := ?_) rfl (by kernel_rfl) (by kernel_rfl) (by kernel_rfl) (fun _ _ _ h => h) (Or.inl ⟨by rfl, ?_⟩) (by assumption) ?_
  rotate_left
  · intro w hSw; (try dsimp only at hSw); go_simp; try with_reducible rfl
  simp only [Act.put, List.setIfInBounds_toArray, List.set_cons_zero, List.set_cons_succ]
  refine wpAnyH_take (i := 2) (oi := { dst := some 25, op := Op.load 3 (Operand.tmp 24), type := 3, pos := "ref.go:81", after := #[{ on := 1, ground := Ground.data }, { on := 4, ground := Ground.gcOnly Departure.lateStores }], guard := none }) (v := ?_) rfl (by kernel_rfl) (by kernel_rfl) (by kernel_rfl) (fun _ _ _ h => h) (Or.inl ⟨by rfl, ?_⟩) (by assumption) ?_
  rotate_left
  · intro w hSw; (try dsimp only at hSw); go_simp; try with_reducible rfl
  simp only [Act.put, List.setIfInBounds_toArray, List.set_cons_zero, List.set_cons_succ]
  refine wpAnyH_ready (rs := [3]) (by kernel_rfl) (by simp) (AllReadyH.cons (o := { dst := none, op := Op.store 66 (Operand.tmp 6) (Operand.tmp 23), type := 0, pos := "ref.go:81", after := #[{ on := 0, ground := Ground.data }, { on := 0, ground := Ground.phase }, { on := 1, ground := Ground.textOnly Departure.lateStores }, { on := 2, ground := Ground.textOnly Departure.lateStores }], guard := none }) rfl (fun KK hK => ?_) AllReadyH.nil)
  · have hs := hs.p2
    rw [if_pos (by rfl)]
    refine wp_store_mid 66 (.tmp 6) (.tmp 23) rfl rb 0 #[.bool false, .string ⟨#[]⟩, .int .i64 0, .int .i64 0, .int .i64 0, .slice none 0 0, .bool false] (by rfl) (by rfl) hs.there (by kernel_rfl) (by simp [Value.oneCell']) ?_
    obtain ⟨wz, ez, hs⟩ := hs.storeEx #[.bool false, .string ⟨#[]⟩, .int .i64 0, .int .i64 0, .int .i64 0, .slice none 0 0, .bool false]
    rw [ez]
    clear ez
    rw [setAll_allV] at hs
    rotate_left
    · rfl
    have hs := hs.p2.p2
    refine hK.out _ _ (HKQ.out _ hs) (fun hHeld => ?_)
    clear hK KK
    try simp only [Act.put, List.setIfInBounds_toArray, List.set_cons_zero, List.set_cons_succ]
    refine wpAnyH_take (i := 4) (oi := { dst := some 7, op := Op.assign (Operand.const (Value.int IntKind.i64 0)), type := 3, pos := "ref.go:81", after := #[{ on := 3, ground := Ground.chain }, { on := 0, ground := Ground.phase }, { on := 1, ground := Ground.textOnly Departure.lateStores }, { on := 2, ground := Ground.textOnly Departure.lateStores }, { on := 3, ground := Ground.phase }], guard := none }) (v := ?_) rfl (by kernel_rfl) (by kernel_rfl) (by kernel_rfl) (fun _ _ _ h => h) (Or.inl ⟨by rfl, ?_⟩) (by assumption) ?_
    rotate_left
    · intro w hSw; (try dsimp only at hSw); go_simp; try with_reducible rfl
    simp only [Act.put, List.setIfInBounds_toArray, List.set_cons_zero, List.set_cons_succ]
    refine wpAnyH_take (i := 5) (oi := { dst := some 8, op := Op.assign (Operand.tmp 25), type := 3, pos := "ref.go:81", after := #[{ on := 2, ground := Ground.data }, { on := 4, ground := Ground.chain }, { on := 0, ground := Ground.phase }, { on := 1, ground := Ground.phase }, { on := 2, ground := Ground.phase }, { on := 3, ground := Ground.phase }, { on := 4, ground := Ground.phase }], guard := none }) (v := ?_) rfl (by kernel_rfl) (by kernel_rfl) (by kernel_rfl) (fun _ _ _ h => h) (Or.inl ⟨by rfl, ?_⟩) (by assumption) ?_
    rotate_left
    · intro w hSw; (try dsimp only at hSw); go_simp; try with_reducible rfl
    simp only [Act.put, List.setIfInBounds_toArray, List.set_cons_zero, List.set_cons_succ]
    refine wpAnyH_done (by kernel_rfl) ?_ _
    clear hHeld
    have hz := hs.p2
    go_wp2_with fail
    refine bodyPost_ret (rc_cell_tmp3 rfl _ _ rb [.bool false, .string ⟨#[]⟩, .int .i64 0, .int .i64 0, .int .i64 0, .slice none 0 0, .bool false] _ rfl (rc_range hz) Try.underlying66 rfl (by kernel_rfl)) rfl ?_
    exact ⟨rfl, hz.drop.drop.drop⟩

set_option maxHeartbeats 8000000 in
set_option maxRecDepth 100000 in
theorem r18_220_s4T (s : Bs) (hsl : s.length ≤ 2000) (kk : Nat) (d : Bs) (hv : refixed 2 s = .ok (⟨true, d⟩, kk)) (hkl : kk ≤ s.length) (hs4 : s.length < kk + 4) {W0 w : World} {K : Know} {L : List Res} (h : St W0 w K L) :
    Calls Try.prog 44 #[.int .i64 22, .int .i64 0, .string (bb s)] w fun en w' => en = .returned (.tuple #[.agg #[.bool false, .string ⟨#[]⟩, .int .i64 0, .int .i64 0, .int .i64 0, .slice none 0 0, .bool false], .int .i64 0, .int .i64 1]) ∧ St W0 w' K L := by
  obtain ⟨rb, hrb⟩ : ∃ b, w.heap.size = b := ⟨_, rfl⟩
  obtain ⟨nb, hnb⟩ : ∃ b, rb + 1 = b := ⟨_, rfl⟩
  have g1 := (h.allocRaw #[.bool false, .string ⟨#[]⟩, .int .i64 0, .int .i64 0, .int .i64 0, .slice none 0 0, .bool false] 66).allocRaw #[.bool false, .string ⟨#[]⟩, .int .i64 0, .int .i64 0, .int .i64 0, .slice none 0 0, .bool false] 66
  simp only [World.size_alloc, hrb, hnb] at g1
  have H := Lib.hid g1
  have HX := Lib.hid (show s.length ≤ 140737488355328 by omega)
  have c0 := g1.rawCell 0; have c1 := g1.rawCell 1; have c2 := g1.rawCell 2; have c3 := g1.rawCell 3; have c4 := g1.rawCell 4; have c5 := g1.rawCell 5; have c6 := g1.rawCell 6; simp at c0 c1 c2 c3 c4 c5 c6
  have d0 := g1.p1.rawCell 0; have r0 := g1.p1.rawFree 0; have d1 := g1.p1.rawCell 1; have r1 := g1.p1.rawFree 1; have d2 := g1.p1.rawCell 2; have r2 := g1.p1.rawFree 2; have d3 := g1.p1.rawCell 3; have r3 := g1.p1.rawFree 3; have d4 := g1.p1.rawCell 4; have r4 := g1.p1.rawFree 4; have d5 := g1.p1.rawCell 5; have r5 := g1.p1.rawFree 5; have d6 := g1.p1.rawCell 6; have r6 := g1.p1.rawFree 6; simp at d0 d1 d2 d3 d4 d5 d6
  have HV := Lib.hid hv
  have hki : (kk : Int) ≤ (s.length : Int) := by omega
  have hw0 : IntKind.i64.wrap ((s.length : Int) - (kk : Int)) = (s.length : Int) - (kk : Int) := by rw [IntKind.wrap_i64]; omega
  have hsi : (s.length : Int) - (kk : Int) < 4 := by omega
  clear h g1 hv hkl hs4
  go_enter Try.func44, Try.ntmps44
  go_wp2_with (first
    | (go_at_call 81; clear c0 d0 r0 c1 d1 r1 c2 d2 r2 c3 d3 r3 c4 d4 r4 c5 d5 r5 c6 d6 r6; (with_reducible refine (ref04_fixOk _ s true d kk rfl HX.out HV.out H.out).mono ?_); rintro e_ wn ⟨rfl, h⟩; obtain ⟨gb, hgb⟩ : ∃ b, wn.heap.size = b := ⟨_, rfl⟩; obtain ⟨qb, hqb⟩ : ∃ b, gb + 1 = b := ⟨_, rfl⟩; have h := (h.allocRaw #[.bool true, .string (bb d), .int .i64 kk, .int .i64 0] 128).allocRaw #[.bool true, .string (bb d), .int .i64 0, .int .i64 (-1), .int .i64 (-1), .slice none 0 0, .bool false] 66; simp only [World.size_alloc, hgb, hqb] at h; have y0 := h.p1.rawCell 0; have y1 := h.p1.rawCell 1; have y2 := h.p1.rawCell 2; have y3 := h.p1.rawCell 3; simp at y0 y1 y2 y3; have c0 := h.p2.rawCell 0; have c1 := h.p2.rawCell 1; have c2 := h.p2.rawCell 2; have c3 := h.p2.rawCell 3; have c4 := h.p2.rawCell 4; have c5 := h.p2.rawCell 5; have c6 := h.p2.rawCell 6; simp at c0 c1 c2 c3 c4 c5 c6; have d0 := h.p3.rawCell 0; have r0 := h.p3.rawFree 0; have d1 := h.p3.rawCell 1; have r1 := h.p3.rawFree 1; have d2 := h.p3.rawCell 2; have r2 := h.p3.rawFree 2; have d3 := h.p3.rawCell 3; have r3 := h.p3.rawFree 3; have d4 := h.p3.rawCell 4; have r4 := h.p3.rawFree 4; have d5 := h.p3.rawCell 5; have r5 := h.p3.rawFree 5; have d6 := h.p3.rawCell 6; have r6 := h.p3.rawFree 6; simp at d0 d1 d2 d3 d4 d5 d6; replace H := Lib.hid h; clear h))
  have hz : St W0 _ _ (.raw rb #[.bool false, .string ⟨#[]⟩, .int .i64 0, .int .i64 0, .int .i64 0, .slice none 0 0, .bool false] 66 :: _) := St.sets7 _ _ _ _ _ _ _ (H.out.p3)
  refine bodyPost_ret (rc_cell_tmp3 rfl _ _ rb [.bool false, .string ⟨#[]⟩, .int .i64 0, .int .i64 0, .int .i64 0, .slice none 0 0, .bool false] _ rfl (rc_range hz) Try.underlying66 rfl (by kernel_rfl)) rfl ?_
  exact ⟨rfl, hz.drop.drop.drop.drop⟩

set_option maxHeartbeats 8000000 in
set_option maxRecDepth 100000 in
theorem r18_220_s4F (s : Bs) (hsl : s.length ≤ 2000) (kk : Nat) (d : Bs) (hv : refixed 2 s = .ok (⟨false, d⟩, kk)) (hkl : kk ≤ s.length) (hs4 : s.length < kk + 4) {W0 w : World} {K : Know} {L : List Res} (h : St W0 w K L) :
    Calls Try.prog 44 #[.int .i64 22, .int .i64 0, .string (bb s)] w fun en w' => en = .returned (.tuple #[.agg #[.bool false, .string ⟨#[]⟩, .int .i64 0, .int .i64 0, .int .i64 0, .slice none 0 0, .bool false], .int .i64 0, .int .i64 1]) ∧ St W0 w' K L := by
  obtain ⟨rb, hrb⟩ : ∃ b, w.heap.size = b := ⟨_, rfl⟩
  obtain ⟨nb, hnb⟩ : ∃ b, rb + 1 = b := ⟨_, rfl⟩
  have g1 := (h.allocRaw #[.bool false, .string ⟨#[]⟩, .int .i64 0, .int .i64 0, .int .i64 0, .slice none 0 0, .bool false] 66).allocRaw #[.bool false, .string ⟨#[]⟩, .int .i64 0, .int .i64 0, .int .i64 0, .slice none 0 0, .bool false] 66
  simp only [World.size_alloc, hrb, hnb] at g1
  have H := Lib.hid g1
  have HX := Lib.hid (show s.length ≤ 140737488355328 by omega)
  have c0 := g1.rawCell 0; have c1 := g1.rawCell 1; have c2 := g1.rawCell 2; have c3 := g1.rawCell 3; have c4 := g1.rawCell 4; have c5 := g1.rawCell 5; have c6 := g1.rawCell 6; simp at c0 c1 c2 c3 c4 c5 c6
  have d0 := g1.p1.rawCell 0; have r0 := g1.p1.rawFree 0; have d1 := g1.p1.rawCell 1; have r1 := g1.p1.rawFree 1; have d2 := g1.p1.rawCell 2; have r2 := g1.p1.rawFree 2; have d3 := g1.p1.rawCell 3; have r3 := g1.p1.rawFree 3; have d4 := g1.p1.rawCell 4; have r4 := g1.p1.rawFree 4; have d5 := g1.p1.rawCell 5; have r5 := g1.p1.rawFree 5; have d6 := g1.p1.rawCell 6; have r6 := g1.p1.rawFree 6; simp at d0 d1 d2 d3 d4 d5 d6
  have HV := Lib.hid hv
  have hki : (kk : Int) ≤ (s.length : Int) := by omega
  have hw0 : IntKind.i64.wrap ((s.length : Int) - (kk : Int)) = (s.length : Int) - (kk : Int) := by rw [IntKind.wrap_i64]; omega
  have hsi : (s.length : Int) - (kk : Int) < 4 := by omega
  clear h g1 hv hkl hs4
  go_enter Try.func44, Try.ntmps44
  go_wp2_with (first
    | (go_at_call 81; clear c0 d0 r0 c1 d1 r1 c2 d2 r2 c3 d3 r3 c4 d4 r4 c5 d5 r5 c6 d6 r6; (with_reducible refine (ref04_fixOk _ s false d kk rfl HX.out HV.out H.out).mono ?_); rintro e_ wn ⟨rfl, h⟩; obtain ⟨gb, hgb⟩ : ∃ b, wn.heap.size = b := ⟨_, rfl⟩; obtain ⟨qb, hqb⟩ : ∃ b, gb + 1 = b := ⟨_, rfl⟩; have h := (h.allocRaw #[.bool false, .string (bb d), .int .i64 kk, .int .i64 0] 128).allocRaw #[.bool false, .string (bb d), .int .i64 0, .int .i64 (-1), .int .i64 (-1), .slice none 0 0, .bool false] 66; simp only [World.size_alloc, hgb, hqb] at h; have y0 := h.p1.rawCell 0; have y1 := h.p1.rawCell 1; have y2 := h.p1.rawCell 2; have y3 := h.p1.rawCell 3; simp at y0 y1 y2 y3; have c0 := h.p2.rawCell 0; have c1 := h.p2.rawCell 1; have c2 := h.p2.rawCell 2; have c3 := h.p2.rawCell 3; have c4 := h.p2.rawCell 4; have c5 := h.p2.rawCell 5; have c6 := h.p2.rawCell 6; simp at c0 c1 c2 c3 c4 c5 c6; have d0 := h.p3.rawCell 0; have r0 := h.p3.rawFree 0; have d1 := h.p3.rawCell 1; have r1 := h.p3.rawFree 1; have d2 := h.p3.rawCell 2; have r2 := h.p3.rawFree 2; have d3 := h.p3.rawCell 3; have r3 := h.p3.rawFree 3; have d4 := h.p3.rawCell 4; have r4 := h.p3.rawFree 4; have d5 := h.p3.rawCell 5; have r5 := h.p3.rawFree 5; have d6 := h.p3.rawCell 6; have r6 := h.p3.rawFree 6; simp at d0 d1 d2 d3 d4 d5 d6; replace H := Lib.hid h; clear h))
  have hz : St W0 _ _ (.raw rb #[.bool false, .string ⟨#[]⟩, .int .i64 0, .int .i64 0, .int .i64 0, .slice none 0 0, .bool false] 66 :: _) := St.sets7 _ _ _ _ _ _ _ (H.out.p3)
  refine bodyPost_ret (rc_cell_tmp3 rfl _ _ rb [.bool false, .string ⟨#[]⟩, .int .i64 0, .int .i64 0, .int .i64 0, .slice none 0 0, .bool false] _ rfl (rc_range hz) Try.underlying66 rfl (by kernel_rfl)) rfl ?_
  exact ⟨rfl, hz.drop.drop.drop.drop⟩

set_option maxHeartbeats 8000000 in
set_option maxRecDepth 100000 in
theorem r18_220_chkT (s : Bs) (hsl : s.length ≤ 2000) (kk : Nat) (d : Bs) (hv : refixed 2 s = .ok (⟨true, d⟩, kk)) (hkl : kk ≤ s.length) (hs4 : kk + 4 ≤ s.length) (tm : Int) (htm : sInt ((s.drop kk).take 4) = tm) (E : Int) (hE : begE 0 true d tm (-1) (-1) = E) (h0 : E ≠ 0) {W0 w : World} {K : Know} {L : List Res} (h : St W0 w K L) :
    Calls Try.prog 44 #[.int .i64 22, .int .i64 0, .string (bb s)] w fun en w' => en = .returned (.tuple #[.agg #[.bool false, .string ⟨#[]⟩, .int .i64 0, .int .i64 0, .int .i64 0, .slice none 0 0, .bool false], .int .i64 0, .int .i64 E]) ∧ St W0 w' K L := by
  obtain ⟨rb, hrb⟩ : ∃ b, w.heap.size = b := ⟨_, rfl⟩
  obtain ⟨nb, hnb⟩ : ∃ b, rb + 1 = b := ⟨_, rfl⟩
  have g1 := (h.allocRaw #[.bool false, .string ⟨#[]⟩, .int .i64 0, .int .i64 0, .int .i64 0, .slice none 0 0, .bool false] 66).allocRaw #[.bool false, .string ⟨#[]⟩, .int .i64 0, .int .i64 0, .int .i64 0, .slice none 0 0, .bool false] 66
  simp only [World.size_alloc, hrb, hnb] at g1
  have H := Lib.hid g1
  have HX := Lib.hid (show s.length ≤ 140737488355328 by omega)
  have c0 := g1.rawCell 0; have c1 := g1.rawCell 1; have c2 := g1.rawCell 2; have c3 := g1.rawCell 3; have c4 := g1.rawCell 4; have c5 := g1.rawCell 5; have c6 := g1.rawCell 6; simp at c0 c1 c2 c3 c4 c5 c6
  have d0 := g1.p1.rawCell 0; have r0 := g1.p1.rawFree 0; have d1 := g1.p1.rawCell 1; have r1 := g1.p1.rawFree 1; have d2 := g1.p1.rawCell 2; have r2 := g1.p1.rawFree 2; have d3 := g1.p1.rawCell 3; have r3 := g1.p1.rawFree 3; have d4 := g1.p1.rawCell 4; have r4 := g1.p1.rawFree 4; have d5 := g1.p1.rawCell 5; have r5 := g1.p1.rawFree 5; have d6 := g1.p1.rawCell 6; have r6 := g1.p1.rawFree 6; simp at d0 d1 d2 d3 d4 d5 d6
  have HV := Lib.hid hv
  have hki : (kk : Int) ≤ (s.length : Int) := by omega
  have hw0 : IntKind.i64.wrap ((s.length : Int) - (kk : Int)) = (s.length : Int) - (kk : Int) := by rw [IntKind.wrap_i64]; omega
  have hsi : ¬ (s.length : Int) - (kk : Int) < 4 := by omega
  have HTM := Lib.hid htm
  obtain ⟨k4, hk4⟩ : ∃ x, kk + 4 = x := ⟨_, rfl⟩
  have hk4w : IntKind.i64.wrap ((kk : Int) + 4) = (k4 : Int) := by rw [IntKind.wrap_i64]; omega
  have hk4i : (kk : Int) + 4 = (k4 : Int) := by omega
  have HT4 := Lib.hid (show List.take (k4 - kk) (s.drop kk) = (s.drop kk).take 4 by rw [← hk4, Nat.add_sub_cancel_left])
  have HT48 := Lib.hid (show ((s.drop kk).take 4).length ≤ 8 by rw [List.length_take]; omega)
  have hk4l : (k4 : Int) ≤ (s.length : Int) := by omega
  have hkk4 : (kk : Int) ≤ (k4 : Int) := by omega
  have hkk4n : kk ≤ k4 := by omega
  have HEE := Lib.hid hE
  have g1 : (E == 0) = false := by rw [beq_eq_false_iff_ne]; exact h0
  have g2 : (E != 0) = true := by simp [bne, g1]
  clear h g1 hv hkl htm hs4 hE h0
  go_enter Try.func44, Try.ntmps44
  go_wp2_with (first
    | (go_at_call 81; clear c0 d0 r0 c1 d1 r1 c2 d2 r2 c3 d3 r3 c4 d4 r4 c5 d5 r5 c6 d6 r6; (with_reducible refine (ref04_fixOk _ s true d kk rfl HX.out HV.out H.out).mono ?_); rintro e_ wn ⟨rfl, h⟩; obtain ⟨gb, hgb⟩ : ∃ b, wn.heap.size = b := ⟨_, rfl⟩; obtain ⟨qb, hqb⟩ : ∃ b, gb + 1 = b := ⟨_, rfl⟩; have h := (h.allocRaw #[.bool true, .string (bb d), .int .i64 kk, .int .i64 0] 128).allocRaw #[.bool true, .string (bb d), .int .i64 0, .int .i64 (-1), .int .i64 (-1), .slice none 0 0, .bool false] 66; simp only [World.size_alloc, hgb, hqb] at h; have y0 := h.p1.rawCell 0; have y1 := h.p1.rawCell 1; have y2 := h.p1.rawCell 2; have y3 := h.p1.rawCell 3; simp at y0 y1 y2 y3; have c0 := h.p2.rawCell 0; have c1 := h.p2.rawCell 1; have c2 := h.p2.rawCell 2; have c3 := h.p2.rawCell 3; have c4 := h.p2.rawCell 4; have c5 := h.p2.rawCell 5; have c6 := h.p2.rawCell 6; simp at c0 c1 c2 c3 c4 c5 c6; have d0 := h.p3.rawCell 0; have r0 := h.p3.rawFree 0; have d1 := h.p3.rawCell 1; have r1 := h.p3.rawFree 1; have d2 := h.p3.rawCell 2; have r2 := h.p3.rawFree 2; have d3 := h.p3.rawCell 3; have r3 := h.p3.rawFree 3; have d4 := h.p3.rawCell 4; have r4 := h.p3.rawFree 4; have d5 := h.p3.rawCell 5; have r5 := h.p3.rawFree 5; have d6 := h.p3.rawCell 6; have r6 := h.p3.rawFree 6; simp at d0 d1 d2 d3 d4 d5 d6; replace H := Lib.hid h; clear h)
    | (go_at_call 76; (with_reducible refine (sr_intT _ ((s.drop kk).take 4) HT4.out tm HTM.out HT48.out H.out).mono ?_); rintro e_ wn ⟨rfl, h⟩; clear c0 d0 r0 c1 d1 r1 c2 d2 r2 c3 d3 r3 c4 d4 r4 c5 d5 r5 c6 d6 r6; have f2 := h.rawFree 2; have q2 := h.rawCell 2; simp at q2; have h := (show St W0 (wn.setCell ⟨qb, 2, none⟩ (.int .i64 tm)) K (.raw qb #[.bool true, .string (bb d), .int .i64 tm, .int .i64 (-1), .int .i64 (-1), .slice none 0 0, .bool false] 66 :: _) from h.rawSet 2 (.int .i64 tm)); have x0 := h.rawCell 0; have x1 := h.rawCell 1; have x2 := h.rawCell 2; have x3 := h.rawCell 3; have x4 := h.rawCell 4; have x5 := h.rawCell 5; have x6 := h.rawCell 6; simp at x0 x1 x2 x3 x4 x5 x6; have c0 := h.p2.rawCell 0; have c1 := h.p2.rawCell 1; have c2 := h.p2.rawCell 2; have c3 := h.p2.rawCell 3; have c4 := h.p2.rawCell 4; have c5 := h.p2.rawCell 5; have c6 := h.p2.rawCell 6; simp at c0 c1 c2 c3 c4 c5 c6; have d0 := h.p3.rawCell 0; have r0 := h.p3.rawFree 0; have d1 := h.p3.rawCell 1; have r1 := h.p3.rawFree 1; have d2 := h.p3.rawCell 2; have r2 := h.p3.rawFree 2; have d3 := h.p3.rawCell 3; have r3 := h.p3.rawFree 3; have d4 := h.p3.rawCell 4; have r4 := h.p3.rawFree 4; have d5 := h.p3.rawCell 5; have r5 := h.p3.rawFree 5; have d6 := h.p3.rawCell 6; have r6 := h.p3.rawFree 6; simp at d0 d1 d2 d3 d4 d5 d6; replace H := Lib.hid h; clear h)
    | (go_at_call 40; clear x0 x1 x2 x3 x4 x5 x6; (with_reducible refine (ref18_check22N 0 true d tm (-1) (-1) E HEE.out H.out).mono ?_); rintro e_ wn ⟨rfl, h⟩; clear c0 d0 r0 c1 d1 r1 c2 d2 r2 c3 d3 r3 c4 d4 r4 c5 d5 r5 c6 d6 r6; have x0 := h.rawCell 0; have x1 := h.rawCell 1; have x2 := h.rawCell 2; have x3 := h.rawCell 3; have x4 := h.rawCell 4; have x5 := h.rawCell 5; have x6 := h.rawCell 6; simp at x0 x1 x2 x3 x4 x5 x6; have c0 := h.p2.rawCell 0; have c1 := h.p2.rawCell 1; have c2 := h.p2.rawCell 2; have c3 := h.p2.rawCell 3; have c4 := h.p2.rawCell 4; have c5 := h.p2.rawCell 5; have c6 := h.p2.rawCell 6; simp at c0 c1 c2 c3 c4 c5 c6; have d0 := h.p3.rawCell 0; have r0 := h.p3.rawFree 0; have d1 := h.p3.rawCell 1; have r1 := h.p3.rawFree 1; have d2 := h.p3.rawCell 2; have r2 := h.p3.rawFree 2; have d3 := h.p3.rawCell 3; have r3 := h.p3.rawFree 3; have d4 := h.p3.rawCell 4; have r4 := h.p3.rawFree 4; have d5 := h.p3.rawCell 5; have r5 := h.p3.rawFree 5; have d6 := h.p3.rawCell 6; have r6 := h.p3.rawFree 6; simp at d0 d1 d2 d3 d4 d5 d6; replace H := Lib.hid h; clear h))
  have hz : St W0 _ _ (.raw rb #[.bool false, .string ⟨#[]⟩, .int .i64 0, .int .i64 0, .int .i64 0, .slice none 0 0, .bool false] 66 :: _) := St.sets7 _ _ _ _ _ _ _ (H.out.p3)
  refine bodyPost_ret (rc_cell_tmp3 rfl _ _ rb [.bool false, .string ⟨#[]⟩, .int .i64 0, .int .i64 0, .int .i64 0, .slice none 0 0, .bool false] _ rfl (rc_range hz) Try.underlying66 rfl (by kernel_rfl)) rfl ?_
  exact ⟨rfl, hz.drop.drop.drop.drop⟩

set_option maxHeartbeats 8000000 in
set_option maxRecDepth 100000 in
theorem r18_220_chkF (s : Bs) (hsl : s.length ≤ 2000) (kk : Nat) (d : Bs) (hv : refixed 2 s = .ok (⟨false, d⟩, kk)) (hkl : kk ≤ s.length) (hs4 : kk + 4 ≤ s.length) (tm : Int) (htm : sInt ((s.drop kk).take 4) = tm) (E : Int) (hE : begE 0 false d tm (-1) (-1) = E) (h0 : E ≠ 0) {W0 w : World} {K : Know} {L : List Res} (h : St W0 w K L) :
    Calls Try.prog 44 #[.int .i64 22, .int .i64 0, .string (bb s)] w fun en w' => en = .returned (.tuple #[.agg #[.bool false, .string ⟨#[]⟩, .int .i64 0, .int .i64 0, .int .i64 0, .slice none 0 0, .bool false], .int .i64 0, .int .i64 E]) ∧ St W0 w' K L := by
  obtain ⟨rb, hrb⟩ : ∃ b, w.heap.size = b := ⟨_, rfl⟩
  obtain ⟨nb, hnb⟩ : ∃ b, rb + 1 = b := ⟨_, rfl⟩
  have g1 := (h.allocRaw #[.bool false, .string ⟨#[]⟩, .int .i64 0, .int .i64 0, .int .i64 0, .slice none 0 0, .bool false] 66).allocRaw #[.bool false, .string ⟨#[]⟩, .int .i64 0, .int .i64 0, .int .i64 0, .slice none 0 0, .bool false] 66
  simp only [World.size_alloc, hrb, hnb] at g1
  have H := Lib.hid g1
  have HX := Lib.hid (show s.length ≤ 140737488355328 by omega)
  have c0 := g1.rawCell 0; have c1 := g1.rawCell 1; have c2 := g1.rawCell 2; have c3 := g1.rawCell 3; have c4 := g1.rawCell 4; have c5 := g1.rawCell 5; have c6 := g1.rawCell 6; simp at c0 c1 c2 c3 c4 c5 c6
  have d0 := g1.p1.rawCell 0; have r0 := g1.p1.rawFree 0; have d1 := g1.p1.rawCell 1; have r1 := g1.p1.rawFree 1; have d2 := g1.p1.rawCell 2; have r2 := g1.p1.rawFree 2; have d3 := g1.p1.rawCell 3; have r3 := g1.p1.rawFree 3; have d4 := g1.p1.rawCell 4; have r4 := g1.p1.rawFree 4; have d5 := g1.p1.rawCell 5; have r5 := g1.p1.rawFree 5; have d6 := g1.p1.rawCell 6; have r6 := g1.p1.rawFree 6; simp at d0 d1 d2 d3 d4 d5 d6
  have HV := Lib.hid hv
  have hki : (kk : Int) ≤ (s.length : Int) := by omega
  have hw0 : IntKind.i64.wrap ((s.length : Int) - (kk : Int)) = (s.length : Int) - (kk : Int) := by rw [IntKind.wrap_i64]; omega
  have hsi : ¬ (s.length : Int) - (kk : Int) < 4 := by omega
  have HTM := Lib.hid htm
  obtain ⟨k4, hk4⟩ : ∃ x, kk + 4 = x := ⟨_, rfl⟩
  have hk4w : IntKind.i64.wrap ((kk : Int) + 4) = (k4 : Int) := by rw [IntKind.wrap_i64]; omega
  have hk4i : (kk : Int) + 4 = (k4 : Int) := by omega
  have HT4 := Lib.hid (show List.take (k4 - kk) (s.drop kk) = (s.drop kk).take 4 by rw [← hk4, Nat.add_sub_cancel_left])
  have HT48 := Lib.hid (show ((s.drop kk).take 4).length ≤ 8 by rw [List.length_take]; omega)
  have hk4l : (k4 : Int) ≤ (s.length : Int) := by omega
  have hkk4 : (kk : Int) ≤ (k4 : Int) := by omega
  have hkk4n : kk ≤ k4 := by omega
  have HEE := Lib.hid hE
  have g1 : (E == 0) = false := by rw [beq_eq_false_iff_ne]; exact h0
  have g2 : (E != 0) = true := by simp [bne, g1]
  clear h g1 hv hkl htm hs4 hE h0
  go_enter Try.func44, Try.ntmps44
  go_wp2_with (first
    | (go_at_call 81; clear c0 d0 r0 c1 d1 r1 c2 d2 r2 c3 d3 r3 c4 d4 r4 c5 d5 r5 c6 d6 r6; (with_reducible refine (ref04_fixOk _ s false d kk rfl HX.out HV.out H.out).mono ?_); rintro e_ wn ⟨rfl, h⟩; obtain ⟨gb, hgb⟩ : ∃ b, wn.heap.size = b := ⟨_, rfl⟩; obtain ⟨qb, hqb⟩ : ∃ b, gb + 1 = b := ⟨_, rfl⟩; have h := (h.allocRaw #[.bool false, .string (bb d), .int .i64 kk, .int .i64 0] 128).allocRaw #[.bool false, .string (bb d), .int .i64 0, .int .i64 (-1), .int .i64 (-1), .slice none 0 0, .bool false] 66; simp only [World.size_alloc, hgb, hqb] at h; have y0 := h.p1.rawCell 0; have y1 := h.p1.rawCell 1; have y2 := h.p1.rawCell 2; have y3 := h.p1.rawCell 3; simp at y0 y1 y2 y3; have c0 := h.p2.rawCell 0; have c1 := h.p2.rawCell 1; have c2 := h.p2.rawCell 2; have c3 := h.p2.rawCell 3; have c4 := h.p2.rawCell 4; have c5 := h.p2.rawCell 5; have c6 := h.p2.rawCell 6; simp at c0 c1 c2 c3 c4 c5 c6; have d0 := h.p3.rawCell 0; have r0 := h.p3.rawFree 0; have d1 := h.p3.rawCell 1; have r1 := h.p3.rawFree 1; have d2 := h.p3.rawCell 2; have r2 := h.p3.rawFree 2; have d3 := h.p3.rawCell 3; have r3 := h.p3.rawFree 3; have d4 := h.p3.rawCell 4; have r4 := h.p3.rawFree 4; have d5 := h.p3.rawCell 5; have r5 := h.p3.rawFree 5; have d6 := h.p3.rawCell 6; have r6 := h.p3.rawFree 6; simp at d0 d1 d2 d3 d4 d5 d6; replace H := Lib.hid h; clear h)
    | (go_at_call 76; (with_reducible refine (sr_intT _ ((s.drop kk).take 4) HT4.out tm HTM.out HT48.out H.out).mono ?_); rintro e_ wn ⟨rfl, h⟩; clear c0 d0 r0 c1 d1 r1 c2 d2 r2 c3 d3 r3 c4 d4 r4 c5 d5 r5 c6 d6 r6; have f2 := h.rawFree 2; have q2 := h.rawCell 2; simp at q2; have h := (show St W0 (wn.setCell ⟨qb, 2, none⟩ (.int .i64 tm)) K (.raw qb #[.bool false, .string (bb d), .int .i64 tm, .int .i64 (-1), .int .i64 (-1), .slice none 0 0, .bool false] 66 :: _) from h.rawSet 2 (.int .i64 tm)); have x0 := h.rawCell 0; have x1 := h.rawCell 1; have x2 := h.rawCell 2; have x3 := h.rawCell 3; have x4 := h.rawCell 4; have x5 := h.rawCell 5; have x6 := h.rawCell 6; simp at x0 x1 x2 x3 x4 x5 x6; have c0 := h.p2.rawCell 0; have c1 := h.p2.rawCell 1; have c2 := h.p2.rawCell 2; have c3 := h.p2.rawCell 3; have c4 := h.p2.rawCell 4; have c5 := h.p2.rawCell 5; have c6 := h.p2.rawCell 6; simp at c0 c1 c2 c3 c4 c5 c6; have d0 := h.p3.rawCell 0; have r0 := h.p3.rawFree 0; have d1 := h.p3.rawCell 1; have r1 := h.p3.rawFree 1; have d2 := h.p3.rawCell 2; have r2 := h.p3.rawFree 2; have d3 := h.p3.rawCell 3; have r3 := h.p3.rawFree 3; have d4 := h.p3.rawCell 4; have r4 := h.p3.rawFree 4; have d5 := h.p3.rawCell 5; have r5 := h.p3.rawFree 5; have d6 := h.p3.rawCell 6; have r6 := h.p3.rawFree 6; simp at d0 d1 d2 d3 d4 d5 d6; replace H := Lib.hid h; clear h)
    | (go_at_call 40; clear x0 x1 x2 x3 x4 x5 x6; (with_reducible refine (ref18_check22N 0 false d tm (-1) (-1) E HEE.out H.out).mono ?_); rintro e_ wn ⟨rfl, h⟩; clear c0 d0 r0 c1 d1 r1 c2 d2 r2 c3 d3 r3 c4 d4 r4 c5 d5 r5 c6 d6 r6; have x0 := h.rawCell 0; have x1 := h.rawCell 1; have x2 := h.rawCell 2; have x3 := h.rawCell 3; have x4 := h.rawCell 4; have x5 := h.rawCell 5; have x6 := h.rawCell 6; simp at x0 x1 x2 x3 x4 x5 x6; have c0 := h.p2.rawCell 0; have c1 := h.p2.rawCell 1; have c2 := h.p2.rawCell 2; have c3 := h.p2.rawCell 3; have c4 := h.p2.rawCell 4; have c5 := h.p2.rawCell 5; have c6 := h.p2.rawCell 6; simp at c0 c1 c2 c3 c4 c5 c6; have d0 := h.p3.rawCell 0; have r0 := h.p3.rawFree 0; have d1 := h.p3.rawCell 1; have r1 := h.p3.rawFree 1; have d2 := h.p3.rawCell 2; have r2 := h.p3.rawFree 2; have d3 := h.p3.rawCell 3; have r3 := h.p3.rawFree 3; have d4 := h.p3.rawCell 4; have r4 := h.p3.rawFree 4; have d5 := h.p3.rawCell 5; have r5 := h.p3.rawFree 5; have d6 := h.p3.rawCell 6; have r6 := h.p3.rawFree 6; simp at d0 d1 d2 d3 d4 d5 d6; replace H := Lib.hid h; clear h))
  have hz : St W0 _ _ (.raw rb #[.bool false, .string ⟨#[]⟩, .int .i64 0, .int .i64 0, .int .i64 0, .slice none 0 0, .bool false] 66 :: _) := St.sets7 _ _ _ _ _ _ _ (H.out.p3)
  refine bodyPost_ret (rc_cell_tmp3 rfl _ _ rb [.bool false, .string ⟨#[]⟩, .int .i64 0, .int .i64 0, .int .i64 0, .slice none 0 0, .bool false] _ rfl (rc_range hz) Try.underlying66 rfl (by kernel_rfl)) rfl ?_
  exact ⟨rfl, hz.drop.drop.drop.drop⟩

set_option maxHeartbeats 8000000 in
set_option maxRecDepth 100000 in
theorem r18_220_okT (s : Bs) (hsl : s.length ≤ 2000) (kk : Nat) (d : Bs) (hv : refixed 2 s = .ok (⟨true, d⟩, kk)) (hkl : kk ≤ s.length) (hs4 : kk + 4 ≤ s.length) (tm : Int) (htm : sInt ((s.drop kk).take 4) = tm) (hE : begE 0 true d tm (-1) (-1) = 0) {W0 w : World} {K : Know} {L : List Res} (h : St W0 w K L) :
    Calls Try.prog 44 #[.int .i64 22, .int .i64 0, .string (bb s)] w fun en w' => en = .returned (.tuple #[.agg #[.bool true, .string (bb d), .int .i64 tm, .int .i64 (-1), .int .i64 (-1), .slice none 0 0, .bool false], .int .i64 ((kk + 4 : Nat) : Int), .int .i64 0]) ∧ St W0 w' K L := by
  obtain ⟨rb, hrb⟩ : ∃ b, w.heap.size = b := ⟨_, rfl⟩
  obtain ⟨nb, hnb⟩ : ∃ b, rb + 1 = b := ⟨_, rfl⟩
  have g1 := (h.allocRaw #[.bool false, .string ⟨#[]⟩, .int .i64 0, .int .i64 0, .int .i64 0, .slice none 0 0, .bool false] 66).allocRaw #[.bool false, .string ⟨#[]⟩, .int .i64 0, .int .i64 0, .int .i64 0, .slice none 0 0, .bool false] 66
  simp only [World.size_alloc, hrb, hnb] at g1
  have H := Lib.hid g1
  have HX := Lib.hid (show s.length ≤ 140737488355328 by omega)
  have c0 := g1.rawCell 0; have c1 := g1.rawCell 1; have c2 := g1.rawCell 2; have c3 := g1.rawCell 3; have c4 := g1.rawCell 4; have c5 := g1.rawCell 5; have c6 := g1.rawCell 6; simp at c0 c1 c2 c3 c4 c5 c6
  have d0 := g1.p1.rawCell 0; have r0 := g1.p1.rawFree 0; have d1 := g1.p1.rawCell 1; have r1 := g1.p1.rawFree 1; have d2 := g1.p1.rawCell 2; have r2 := g1.p1.rawFree 2; have d3 := g1.p1.rawCell 3; have r3 := g1.p1.rawFree 3; have d4 := g1.p1.rawCell 4; have r4 := g1.p1.rawFree 4; have d5 := g1.p1.rawCell 5; have r5 := g1.p1.rawFree 5; have d6 := g1.p1.rawCell 6; have r6 := g1.p1.rawFree 6; simp at d0 d1 d2 d3 d4 d5 d6
  have HV := Lib.hid hv
  have hki : (kk : Int) ≤ (s.length : Int) := by omega
  have hw0 : IntKind.i64.wrap ((s.length : Int) - (kk : Int)) = (s.length : Int) - (kk : Int) := by rw [IntKind.wrap_i64]; omega
  have hsi : ¬ (s.length : Int) - (kk : Int) < 4 := by omega
  have HTM := Lib.hid htm
  obtain ⟨k4, hk4⟩ : ∃ x, kk + 4 = x := ⟨_, rfl⟩
  have hk4w : IntKind.i64.wrap ((kk : Int) + 4) = (k4 : Int) := by rw [IntKind.wrap_i64]; omega
  have hk4i : (kk : Int) + 4 = (k4 : Int) := by omega
  have HT4 := Lib.hid (show List.take (k4 - kk) (s.drop kk) = (s.drop kk).take 4 by rw [← hk4, Nat.add_sub_cancel_left])
  have HT48 := Lib.hid (show ((s.drop kk).take 4).length ≤ 8 by rw [List.length_take]; omega)
  have hk4l : (k4 : Int) ≤ (s.length : Int) := by omega
  have hkk4 : (kk : Int) ≤ (k4 : Int) := by omega
  have hkk4n : kk ≤ k4 := by omega
  have HEE := Lib.hid hE
  have hmany : (kk + 4 : Nat) = k4 := by omega
  rw [hmany]
  clear h g1 hv hkl htm hs4 hE
  go_enter Try.func44, Try.ntmps44
  go_wp2_with (first
    | (go_at_call 81; clear c0 d0 r0 c1 d1 r1 c2 d2 r2 c3 d3 r3 c4 d4 r4 c5 d5 r5 c6 d6 r6; (with_reducible refine (ref04_fixOk _ s true d kk rfl HX.out HV.out H.out).mono ?_); rintro e_ wn ⟨rfl, h⟩; obtain ⟨gb, hgb⟩ : ∃ b, wn.heap.size = b := ⟨_, rfl⟩; obtain ⟨qb, hqb⟩ : ∃ b, gb + 1 = b := ⟨_, rfl⟩; have h := (h.allocRaw #[.bool true, .string (bb d), .int .i64 kk, .int .i64 0] 128).allocRaw #[.bool true, .string (bb d), .int .i64 0, .int .i64 (-1), .int .i64 (-1), .slice none 0 0, .bool false] 66; simp only [World.size_alloc, hgb, hqb] at h; have y0 := h.p1.rawCell 0; have y1 := h.p1.rawCell 1; have y2 := h.p1.rawCell 2; have y3 := h.p1.rawCell 3; simp at y0 y1 y2 y3; have c0 := h.p2.rawCell 0; have c1 := h.p2.rawCell 1; have c2 := h.p2.rawCell 2; have c3 := h.p2.rawCell 3; have c4 := h.p2.rawCell 4; have c5 := h.p2.rawCell 5; have c6 := h.p2.rawCell 6; simp at c0 c1 c2 c3 c4 c5 c6; have d0 := h.p3.rawCell 0; have r0 := h.p3.rawFree 0; have d1 := h.p3.rawCell 1; have r1 := h.p3.rawFree 1; have d2 := h.p3.rawCell 2; have r2 := h.p3.rawFree 2; have d3 := h.p3.rawCell 3; have r3 := h.p3.rawFree 3; have d4 := h.p3.rawCell 4; have r4 := h.p3.rawFree 4; have d5 := h.p3.rawCell 5; have r5 := h.p3.rawFree 5; have d6 := h.p3.rawCell 6; have r6 := h.p3.rawFree 6; simp at d0 d1 d2 d3 d4 d5 d6; replace H := Lib.hid h; clear h)
    | (go_at_call 76; (with_reducible refine (sr_intT _ ((s.drop kk).take 4) HT4.out tm HTM.out HT48.out H.out).mono ?_); rintro e_ wn ⟨rfl, h⟩; clear c0 d0 r0 c1 d1 r1 c2 d2 r2 c3 d3 r3 c4 d4 r4 c5 d5 r5 c6 d6 r6; have f2 := h.rawFree 2; have q2 := h.rawCell 2; simp at q2; have h := (show St W0 (wn.setCell ⟨qb, 2, none⟩ (.int .i64 tm)) K (.raw qb #[.bool true, .string (bb d), .int .i64 tm, .int .i64 (-1), .int .i64 (-1), .slice none 0 0, .bool false] 66 :: _) from h.rawSet 2 (.int .i64 tm)); have x0 := h.rawCell 0; have x1 := h.rawCell 1; have x2 := h.rawCell 2; have x3 := h.rawCell 3; have x4 := h.rawCell 4; have x5 := h.rawCell 5; have x6 := h.rawCell 6; simp at x0 x1 x2 x3 x4 x5 x6; have c0 := h.p2.rawCell 0; have c1 := h.p2.rawCell 1; have c2 := h.p2.rawCell 2; have c3 := h.p2.rawCell 3; have c4 := h.p2.rawCell 4; have c5 := h.p2.rawCell 5; have c6 := h.p2.rawCell 6; simp at c0 c1 c2 c3 c4 c5 c6; have d0 := h.p3.rawCell 0; have r0 := h.p3.rawFree 0; have d1 := h.p3.rawCell 1; have r1 := h.p3.rawFree 1; have d2 := h.p3.rawCell 2; have r2 := h.p3.rawFree 2; have d3 := h.p3.rawCell 3; have r3 := h.p3.rawFree 3; have d4 := h.p3.rawCell 4; have r4 := h.p3.rawFree 4; have d5 := h.p3.rawCell 5; have r5 := h.p3.rawFree 5; have d6 := h.p3.rawCell 6; have r6 := h.p3.rawFree 6; simp at d0 d1 d2 d3 d4 d5 d6; replace H := Lib.hid h; clear h)
    | (go_at_call 40; clear x0 x1 x2 x3 x4 x5 x6; (with_reducible refine (ref18_check22N 0 true d tm (-1) (-1) 0 HEE.out H.out).mono ?_); rintro e_ wn ⟨rfl, h⟩; clear c0 d0 r0 c1 d1 r1 c2 d2 r2 c3 d3 r3 c4 d4 r4 c5 d5 r5 c6 d6 r6; have x0 := h.rawCell 0; have x1 := h.rawCell 1; have x2 := h.rawCell 2; have x3 := h.rawCell 3; have x4 := h.rawCell 4; have x5 := h.rawCell 5; have x6 := h.rawCell 6; simp at x0 x1 x2 x3 x4 x5 x6; have c0 := h.p2.rawCell 0; have c1 := h.p2.rawCell 1; have c2 := h.p2.rawCell 2; have c3 := h.p2.rawCell 3; have c4 := h.p2.rawCell 4; have c5 := h.p2.rawCell 5; have c6 := h.p2.rawCell 6; simp at c0 c1 c2 c3 c4 c5 c6; have d0 := h.p3.rawCell 0; have r0 := h.p3.rawFree 0; have d1 := h.p3.rawCell 1; have r1 := h.p3.rawFree 1; have d2 := h.p3.rawCell 2; have r2 := h.p3.rawFree 2; have d3 := h.p3.rawCell 3; have r3 := h.p3.rawFree 3; have d4 := h.p3.rawCell 4; have r4 := h.p3.rawFree 4; have d5 := h.p3.rawCell 5; have r5 := h.p3.rawFree 5; have d6 := h.p3.rawCell 6; have r6 := h.p3.rawFree 6; simp at d0 d1 d2 d3 d4 d5 d6; replace H := Lib.hid h; clear h))
  have hz : St W0 _ _ (.raw rb #[.bool true, .string (bb d), .int .i64 tm, .int .i64 (-1), .int .i64 (-1), .slice none 0 0, .bool false] 66 :: _) := St.sets7 _ _ _ _ _ _ _ (H.out.p3)
  refine bodyPost_ret (rc_cell_tmp3 rfl _ _ rb [.bool true, .string (bb d), .int .i64 tm, .int .i64 (-1), .int .i64 (-1), .slice none 0 0, .bool false] _ rfl (rc_range hz) Try.underlying66 rfl (by kernel_rfl)) rfl ?_
  exact ⟨rfl, hz.drop.drop.drop.drop⟩

set_option maxHeartbeats 8000000 in
set_option maxRecDepth 100000 in
theorem r18_220_okF (s : Bs) (hsl : s.length ≤ 2000) (kk : Nat) (d : Bs) (hv : refixed 2 s = .ok (⟨false, d⟩, kk)) (hkl : kk ≤ s.length) (hs4 : kk + 4 ≤ s.length) (tm : Int) (htm : sInt ((s.drop kk).take 4) = tm) (hE : begE 0 false d tm (-1) (-1) = 0) {W0 w : World} {K : Know} {L : List Res} (h : St W0 w K L) :
    Calls Try.prog 44 #[.int .i64 22, .int .i64 0, .string (bb s)] w fun en w' => en = .returned (.tuple #[.agg #[.bool false, .string (bb d), .int .i64 tm, .int .i64 (-1), .int .i64 (-1), .slice none 0 0, .bool false], .int .i64 ((kk + 4 : Nat) : Int), .int .i64 0]) ∧ St W0 w' K L := by
  obtain ⟨rb, hrb⟩ : ∃ b, w.heap.size = b := ⟨_, rfl⟩
  obtain ⟨nb, hnb⟩ : ∃ b, rb + 1 = b := ⟨_, rfl⟩
  have g1 := (h.allocRaw #[.bool false, .string ⟨#[]⟩, .int .i64 0, .int .i64 0, .int .i64 0, .slice none 0 0, .bool false] 66).allocRaw #[.bool false, .string ⟨#[]⟩, .int .i64 0, .int .i64 0, .int .i64 0, .slice none 0 0, .bool false] 66
  simp only [World.size_alloc, hrb, hnb] at g1
  have H := Lib.hid g1
  have HX := Lib.hid (show s.length ≤ 140737488355328 by omega)
  have c0 := g1.rawCell 0; have c1 := g1.rawCell 1; have c2 := g1.rawCell 2; have c3 := g1.rawCell 3; have c4 := g1.rawCell 4; have c5 := g1.rawCell 5; have c6 := g1.rawCell 6; simp at c0 c1 c2 c3 c4 c5 c6
  have d0 := g1.p1.rawCell 0; have r0 := g1.p1.rawFree 0; have d1 := g1.p1.rawCell 1; have r1 := g1.p1.rawFree 1; have d2 := g1.p1.rawCell 2; have r2 := g1.p1.rawFree 2; have d3 := g1.p1.rawCell 3; have r3 := g1.p1.rawFree 3; have d4 := g1.p1.rawCell 4; have r4 := g1.p1.rawFree 4; have d5 := g1.p1.rawCell 5; have r5 := g1.p1.rawFree 5; have d6 := g1.p1.rawCell 6; have r6 := g1.p1.rawFree 6; simp at d0 d1 d2 d3 d4 d5 d6
  have HV := Lib.hid hv
  have hki : (kk : Int) ≤ (s.length : Int) := by omega
  have hw0 : IntKind.i64.wrap ((s.length : Int) - (kk : Int)) = (s.length : Int) - (kk : Int) := by rw [IntKind.wrap_i64]; omega
  have hsi : ¬ (s.length : Int) - (kk : Int) < 4 := by omega
  have HTM := Lib.hid htm
  obtain ⟨k4, hk4⟩ : ∃ x, kk + 4 = x := ⟨_, rfl⟩
  have hk4w : IntKind.i64.wrap ((kk : Int) + 4) = (k4 : Int) := by rw [IntKind.wrap_i64]; omega
  have hk4i : (kk : Int) + 4 = (k4 : Int) := by omega
  have HT4 := Lib.hid (show List.take (k4 - kk) (s.drop kk) = (s.drop kk).take 4 by rw [← hk4, Nat.add_sub_cancel_left])
  have HT48 := Lib.hid (show ((s.drop kk).take 4).length ≤ 8 by rw [List.length_take]; omega)
  have hk4l : (k4 : Int) ≤ (s.length : Int) := by omega
  have hkk4 : (kk : Int) ≤ (k4 : Int) := by omega
  have hkk4n : kk ≤ k4 := by omega
  have HEE := Lib.hid hE
  have hmany : (kk + 4 : Nat) = k4 := by omega
  rw [hmany]
  clear h g1 hv hkl htm hs4 hE
  go_enter Try.func44, Try.ntmps44
  go_wp2_with (first
    | (go_at_call 81; clear c0 d0 r0 c1 d1 r1 c2 d2 r2 c3 d3 r3 c4 d4 r4 c5 d5 r5 c6 d6 r6; (with_reducible refine (ref04_fixOk _ s false d kk rfl HX.out HV.out H.out).mono ?_); rintro e_ wn ⟨rfl, h⟩; obtain ⟨gb, hgb⟩ : ∃ b, wn.heap.size = b := ⟨_, rfl⟩; obtain ⟨qb, hqb⟩ : ∃ b, gb + 1 = b := ⟨_, rfl⟩; have h := (h.allocRaw #[.bool false, .string (bb d), .int .i64 kk, .int .i64 0] 128).allocRaw #[.bool false, .string (bb d), .int .i64 0, .int .i64 (-1), .int .i64 (-1), .slice none 0 0, .bool false] 66; simp only [World.size_alloc, hgb, hqb] at h; have y0 := h.p1.rawCell 0; have y1 := h.p1.rawCell 1; have y2 := h.p1.rawCell 2; have y3 := h.p1.rawCell 3; simp at y0 y1 y2 y3; have c0 := h.p2.rawCell 0; have c1 := h.p2.rawCell 1; have c2 := h.p2.rawCell 2; have c3 := h.p2.rawCell 3; have c4 := h.p2.rawCell 4; have c5 := h.p2.rawCell 5; have c6 := h.p2.rawCell 6; simp at c0 c1 c2 c3 c4 c5 c6; have d0 := h.p3.rawCell 0; have r0 := h.p3.rawFree 0; have d1 := h.p3.rawCell 1; have r1 := h.p3.rawFree 1; have d2 := h.p3.rawCell 2; have r2 := h.p3.rawFree 2; have d3 := h.p3.rawCell 3; have r3 := h.p3.rawFree 3; have d4 := h.p3.rawCell 4; have r4 := h.p3.rawFree 4; have d5 := h.p3.rawCell 5; have r5 := h.p3.rawFree 5; have d6 := h.p3.rawCell 6; have r6 := h.p3.rawFree 6; simp at d0 d1 d2 d3 d4 d5 d6; replace H := Lib.hid h; clear h)
    | (go_at_call 76; (with_reducible refine (sr_intT _ ((s.drop kk).take 4) HT4.out tm HTM.out HT48.out H.out).mono ?_); rintro e_ wn ⟨rfl, h⟩; clear c0 d0 r0 c1 d1 r1 c2 d2 r2 c3 d3 r3 c4 d4 r4 c5 d5 r5 c6 d6 r6; have f2 := h.rawFree 2; have q2 := h.rawCell 2; simp at q2; have h := (show St W0 (wn.setCell ⟨qb, 2, none⟩ (.int .i64 tm)) K (.raw qb #[.bool false, .string (bb d), .int .i64 tm, .int .i64 (-1), .int .i64 (-1), .slice none 0 0, .bool false] 66 :: _) from h.rawSet 2 (.int .i64 tm)); have x0 := h.rawCell 0; have x1 := h.rawCell 1; have x2 := h.rawCell 2; have x3 := h.rawCell 3; have x4 := h.rawCell 4; have x5 := h.rawCell 5; have x6 := h.rawCell 6; simp at x0 x1 x2 x3 x4 x5 x6; have c0 := h.p2.rawCell 0; have c1 := h.p2.rawCell 1; have c2 := h.p2.rawCell 2; have c3 := h.p2.rawCell 3; have c4 := h.p2.rawCell 4; have c5 := h.p2.rawCell 5; have c6 := h.p2.rawCell 6; simp at c0 c1 c2 c3 c4 c5 c6; have d0 := h.p3.rawCell 0; have r0 := h.p3.rawFree 0; have d1 := h.p3.rawCell 1; have r1 := h.p3.rawFree 1; have d2 := h.p3.rawCell 2; have r2 := h.p3.rawFree 2; have d3 := h.p3.rawCell 3; have r3 := h.p3.rawFree 3; have d4 := h.p3.rawCell 4; have r4 := h.p3.rawFree 4; have d5 := h.p3.rawCell 5; have r5 := h.p3.rawFree 5; have d6 := h.p3.rawCell 6; have r6 := h.p3.rawFree 6; simp at d0 d1 d2 d3 d4 d5 d6; replace H := Lib.hid h; clear h)
    | (go_at_call 40; clear x0 x1 x2 x3 x4 x5 x6; (with_reducible refine (ref18_check22N 0 false d tm (-1) (-1) 0 HEE.out H.out).mono ?_); rintro e_ wn ⟨rfl, h⟩; clear c0 d0 r0 c1 d1 r1 c2 d2 r2 c3 d3 r3 c4 d4 r4 c5 d5 r5 c6 d6 r6; have x0 := h.rawCell 0; have x1 := h.rawCell 1; have x2 := h.rawCell 2; have x3 := h.rawCell 3; have x4 := h.rawCell 4; have x5 := h.rawCell 5; have x6 := h.rawCell 6; simp at x0 x1 x2 x3 x4 x5 x6; have c0 := h.p2.rawCell 0; have c1 := h.p2.rawCell 1; have c2 := h.p2.rawCell 2; have c3 := h.p2.rawCell 3; have c4 := h.p2.rawCell 4; have c5 := h.p2.rawCell 5; have c6 := h.p2.rawCell 6; simp at c0 c1 c2 c3 c4 c5 c6; have d0 := h.p3.rawCell 0; have r0 := h.p3.rawFree 0; have d1 := h.p3.rawCell 1; have r1 := h.p3.rawFree 1; have d2 := h.p3.rawCell 2; have r2 := h.p3.rawFree 2; have d3 := h.p3.rawCell 3; have r3 := h.p3.rawFree 3; have d4 := h.p3.rawCell 4; have r4 := h.p3.rawFree 4; have d5 := h.p3.rawCell 5; have r5 := h.p3.rawFree 5; have d6 := h.p3.rawCell 6; have r6 := h.p3.rawFree 6; simp at d0 d1 d2 d3 d4 d5 d6; replace H := Lib.hid h; clear h))
  have hz : St W0 _ _ (.raw rb #[.bool false, .string (bb d), .int .i64 tm, .int .i64 (-1), .int .i64 (-1), .slice none 0 0, .bool false] 66 :: _) := St.sets7 _ _ _ _ _ _ _ (H.out.p3)
  refine bodyPost_ret (rc_cell_tmp3 rfl _ _ rb [.bool false, .string (bb d), .int .i64 tm, .int .i64 (-1), .int .i64 (-1), .slice none 0 0, .bool false] _ rfl (rc_range hz) Try.underlying66 rfl (by kernel_rfl)) rfl ?_
  exact ⟨rfl, hz.drop.drop.drop.drop⟩

end Go.Proofs.Ytombolmicfjjpaa
