/- Whether two rows of numbers are one. -/
import Derived.Test.YtombolmicfjjpaaGTxnReads4
import Derived.Test.YtombolmicfjjpaaGTxnReads7
import Derived.Test.YtombolmicfjjpaaRef04
import Derived.Test.YtombolmicfjjpaaGTxnReads6
import Derived.Deep.RegionHeld3
import Derived.Deep.DeepCutAuto
import Derived.Test.YtombolmicfjjpaaRef06
import Derived.BigQuiet
/- Requests of transactions as bytes, by definition: Begin. -/
namespace Go.Proofs.Ytombolmicfjjpaa
open Go.RowKit

theorem ref04_fixedT (u : Bool) (s r : Bs) (hr : encF 2 ⟨u, s⟩ = r) (hs : s.length ≤ 32767) {W0 w : World} {K : Know} {L : List Res} (h : St W0 w K L) :
    Calls Try.prog 87 #[.agg #[.bool u, .string (bb s)], .int .i64 2] w fun en w' => en = .returned (.string (bb r)) ∧ St W0 w' K L := by
  subst hr
  exact ref04_fixed ⟨u, s⟩ 2 (by simp only; omega) (by decide) h

set_option maxHeartbeats 4000000 in
set_option maxRecDepth 100000 in
theorem ref18_write220 (nl : Bool) (d : Bs) (tm p e : Int) (l : List (TopS × Value)) (q : Option Addr) (cap : Nat) (c : Bool) (S : Bs) (hS : encReq 22 0 nl d tm p e (l.map (·.1)) c = S) (hil : d.length ≤ 32767) (htm : -9223372036854775808 ≤ tm ∧ tm < 9223372036854775808) (hp : -9223372036854775808 ≤ p ∧ p < 9223372036854775808) (he : -9223372036854775808 ≤ e ∧ e < 9223372036854775808) {W0 w : World} {K : Know} {L : List Res} (hk : K.has (Know.tops (.slice q l.length cap) l)) (h : St W0 w K L) :
    Calls Try.prog 41 #[.int .i64 22, .int .i64 0, .agg #[.bool nl, .string (bb d), .int .i64 tm, .int .i64 p, .int .i64 e, .slice q l.length cap, .bool c]] w fun en w' => en = .returned (.string (bb S)) ∧ St W0 w' K L := by
  obtain ⟨vb, hvb⟩ : ∃ b, w.heap.size = b := ⟨_, rfl⟩
  have h0 := h.allocRaw #[.bool nl, .string (bb d), .int .i64 tm, .int .i64 p, .int .i64 e, .slice q l.length cap, .bool c] 66
  rw [hvb] at h0
  have H := Lib.hid h0
  have HK := Lib.hid hk
  have HIL := Lib.hid hil
  have NT := Lib.hid htm
  have NP := Lib.hid hp
  have NE := Lib.hid he

  obtain ⟨g0, hg0⟩ : ∃ y, encF 2 ⟨nl, d⟩ = y := ⟨_, rfl⟩
  obtain ⟨g1, hg1⟩ : ∃ y, beBytes tm 4 = y := ⟨_, rfl⟩
  obtain ⟨y1, hy1⟩ : ∃ y, g0 ++ g1 = y := ⟨_, rfl⟩
  have hn0 : g0.length = d.length + 2 := by rw [← hg0]; unfold encF; rw [List.length_append, beBytes_length]; simp only; omega
  have hng1 : g1.length = 4 := by rw [← hg1]; exact beBytes_length _ _
  have Z0 := Lib.hid hg0
  have Zg1 := Lib.hid hg1
  have hly1 := congrArg List.length hy1
  rw [List.length_append] at hly1
  have hcaty1 : bb g0 ++ bb g1 = bb y1 := by rw [← hy1]; exact bb_append _ _
  have hgg : ¬ (9223372036854775807 < g0.length + g1.length) ∧ True := by refine ⟨?_, trivial⟩ <;> omega
  obtain ⟨qy1, _⟩ := hgg
  have hye : y1 = S := by rw [← hS]; unfold encReq; simp only [← hy1, ← hg1, ← hg0]; simp [encW]
  subst hye

  have HKP := Lib.hid (show ∀ w', St W0 w' K (.raw vb #[.bool nl, .string (bb d), .int .i64 tm, .int .i64 p, .int .i64 e, .slice q l.length cap, .bool c] 66 :: L) → (w'.cell? ⟨vb, 0, none⟩ = some (.bool nl) ∧ w'.cell? ⟨vb, 1, none⟩ = some (.string (bb d)) ∧ w'.cell? ⟨vb, 2, none⟩ = some (.int .i64 tm) ∧ w'.cell? ⟨vb, 3, none⟩ = some (.int .i64 p) ∧ w'.cell? ⟨vb, 4, none⟩ = some (.int .i64 e) ∧ w'.cell? ⟨vb, 5, none⟩ = some (.slice q l.length cap) ∧ w'.cell? ⟨vb, 6, none⟩ = some (.bool c)) from fun w' hs => ⟨hs.rawCell 0, hs.rawCell 1, hs.rawCell 2, hs.rawCell 3, hs.rawCell 4, hs.rawCell 5, hs.rawCell 6⟩)
  clear h h0 hk hil htm hp he hS  hg0 hn0 hg1 hng1 hy1 hly1
  go_enter Try.func41, Try.ntmps41
  go_wp2_with (first
    | (go_at_call 87; (with_reducible refine (ref04_fixedT nl d g0 Z0.out HIL.out H.out).mono ?_); rintro e_ wn ⟨rfl, h⟩; have c0 := h.rawCell 0; have c1 := h.rawCell 1; have c2 := h.rawCell 2; have c3 := h.rawCell 3; have c4 := h.rawCell 4; have c5 := h.rawCell 5; have c6 := h.rawCell 6; simp at c0 c1 c2 c3 c4 c5 c6; replace H := Lib.hid h; clear h)
    | (go_at_call 75; (with_reducible refine (sr_bytesV tm 4 4 rfl (by decide) g1 Zg1.out NT.out H.out).mono ?_); rintro e_ wn ⟨rfl, h⟩; have c0 := h.rawCell 0; have c1 := h.rawCell 1; have c2 := h.rawCell 2; have c3 := h.rawCell 3; have c4 := h.rawCell 4; have c5 := h.rawCell 5; have c6 := h.rawCell 6; simp at c0 c1 c2 c3 c4 c5 c6; replace H := Lib.hid h; clear h))
  go_ret
  exact ⟨rfl, H.out.drop⟩

set_option maxHeartbeats 4000000 in
set_option maxRecDepth 100000 in
theorem ref18_write221 (nl : Bool) (d : Bs) (tm p e : Int) (l : List (TopS × Value)) (q : Option Addr) (cap : Nat) (c : Bool) (S : Bs) (hS : encReq 22 1 nl d tm p e (l.map (·.1)) c = S) (hil : d.length ≤ 32767) (htm : -9223372036854775808 ≤ tm ∧ tm < 9223372036854775808) (hp : -9223372036854775808 ≤ p ∧ p < 9223372036854775808) (he : -9223372036854775808 ≤ e ∧ e < 9223372036854775808) {W0 w : World} {K : Know} {L : List Res} (hk : K.has (Know.tops (.slice q l.length cap) l)) (h : St W0 w K L) :
    Calls Try.prog 41 #[.int .i64 22, .int .i64 1, .agg #[.bool nl, .string (bb d), .int .i64 tm, .int .i64 p, .int .i64 e, .slice q l.length cap, .bool c]] w fun en w' => en = .returned (.string (bb S)) ∧ St W0 w' K L := by
  obtain ⟨vb, hvb⟩ : ∃ b, w.heap.size = b := ⟨_, rfl⟩
  have h0 := h.allocRaw #[.bool nl, .string (bb d), .int .i64 tm, .int .i64 p, .int .i64 e, .slice q l.length cap, .bool c] 66
  rw [hvb] at h0
  have H := Lib.hid h0
  have HK := Lib.hid hk
  have HIL := Lib.hid hil
  have NT := Lib.hid htm
  have NP := Lib.hid hp
  have NE := Lib.hid he

  obtain ⟨g0, hg0⟩ : ∃ y, encF 2 ⟨nl, d⟩ = y := ⟨_, rfl⟩
  obtain ⟨g1, hg1⟩ : ∃ y, beBytes tm 4 = y := ⟨_, rfl⟩
  obtain ⟨y1, hy1⟩ : ∃ y, g0 ++ g1 = y := ⟨_, rfl⟩
  obtain ⟨g2, hg2⟩ : ∃ y, beBytes p 8 = y := ⟨_, rfl⟩
  obtain ⟨y2, hy2⟩ : ∃ y, y1 ++ g2 = y := ⟨_, rfl⟩
  obtain ⟨g3, hg3⟩ : ∃ y, beBytes e 2 = y := ⟨_, rfl⟩
  obtain ⟨y3, hy3⟩ : ∃ y, y2 ++ g3 = y := ⟨_, rfl⟩
  have hn0 : g0.length = d.length + 2 := by rw [← hg0]; unfold encF; rw [List.length_append, beBytes_length]; simp only; omega
  have hng1 : g1.length = 4 := by rw [← hg1]; exact beBytes_length _ _
  have hng2 : g2.length = 8 := by rw [← hg2]; exact beBytes_length _ _
  have hng3 : g3.length = 2 := by rw [← hg3]; exact beBytes_length _ _
  have Z0 := Lib.hid hg0
  have Zg1 := Lib.hid hg1
  have hly1 := congrArg List.length hy1
  rw [List.length_append] at hly1
  have hcaty1 : bb g0 ++ bb g1 = bb y1 := by rw [← hy1]; exact bb_append _ _
  have Zg2 := Lib.hid hg2
  have hly2 := congrArg List.length hy2
  rw [List.length_append] at hly2
  have hcaty2 : bb y1 ++ bb g2 = bb y2 := by rw [← hy2]; exact bb_append _ _
  have Zg3 := Lib.hid hg3
  have hly3 := congrArg List.length hy3
  rw [List.length_append] at hly3
  have hcaty3 : bb y2 ++ bb g3 = bb y3 := by rw [← hy3]; exact bb_append _ _
  have hgg : ¬ (9223372036854775807 < g0.length + g1.length) ∧ ¬ (9223372036854775807 < y1.length + g2.length) ∧ ¬ (9223372036854775807 < y2.length + g3.length) ∧ True := by refine ⟨?_, ?_, ?_, trivial⟩ <;> omega
  obtain ⟨qy1, qy2, qy3, _⟩ := hgg
  have hye : y3 = S := by rw [← hS]; unfold encReq; simp only [← hy3, ← hy2, ← hy1, ← hg1, ← hg2, ← hg3, ← hg0]; simp [encW]
  subst hye

  have HKP := Lib.hid (show ∀ w', St W0 w' K (.raw vb #[.bool nl, .string (bb d), .int .i64 tm, .int .i64 p, .int .i64 e, .slice q l.length cap, .bool c] 66 :: L) → (w'.cell? ⟨vb, 0, none⟩ = some (.bool nl) ∧ w'.cell? ⟨vb, 1, none⟩ = some (.string (bb d)) ∧ w'.cell? ⟨vb, 2, none⟩ = some (.int .i64 tm) ∧ w'.cell? ⟨vb, 3, none⟩ = some (.int .i64 p) ∧ w'.cell? ⟨vb, 4, none⟩ = some (.int .i64 e) ∧ w'.cell? ⟨vb, 5, none⟩ = some (.slice q l.length cap) ∧ w'.cell? ⟨vb, 6, none⟩ = some (.bool c)) from fun w' hs => ⟨hs.rawCell 0, hs.rawCell 1, hs.rawCell 2, hs.rawCell 3, hs.rawCell 4, hs.rawCell 5, hs.rawCell 6⟩)
  clear h h0 hk hil htm hp he hS  hg0 hn0 hg1 hng1 hy1 hly1 hg2 hng2 hy2 hly2 hg3 hng3 hy3 hly3
  go_enter Try.func41, Try.ntmps41
  go_upto_region 6 with (first
    | (go_at_call 87; (with_reducible refine (ref04_fixedT nl d g0 Z0.out HIL.out H.out).mono ?_); rintro e_ wn ⟨rfl, h⟩; have c0 := h.rawCell 0; have c1 := h.rawCell 1; have c2 := h.rawCell 2; have c3 := h.rawCell 3; have c4 := h.rawCell 4; have c5 := h.rawCell 5; have c6 := h.rawCell 6; simp at c0 c1 c2 c3 c4 c5 c6; replace H := Lib.hid h; clear h)
    | (go_at_call 75; (with_reducible refine (sr_bytesV tm 4 4 rfl (by decide) g1 Zg1.out NT.out H.out).mono ?_); rintro e_ wn ⟨rfl, h⟩; have c0 := h.rawCell 0; have c1 := h.rawCell 1; have c2 := h.rawCell 2; have c3 := h.rawCell 3; have c4 := h.rawCell 4; have c5 := h.rawCell 5; have c6 := h.rawCell 6; simp at c0 c1 c2 c3 c4 c5 c6; replace H := Lib.hid h; clear h))
  have hs := H.out.drew
  refine wp_region_held_drew (S := fun w' => w'.cell? ⟨vb, 0, none⟩ = some (.bool nl) ∧ w'.cell? ⟨vb, 1, none⟩ = some (.string (bb d)) ∧ w'.cell? ⟨vb, 2, none⟩ = some (.int .i64 tm) ∧ w'.cell? ⟨vb, 3, none⟩ = some (.int .i64 p) ∧ w'.cell? ⟨vb, 4, none⟩ = some (.int .i64 e) ∧ w'.cell? ⟨vb, 5, none⟩ = some (.slice q l.length cap) ∧ w'.cell? ⟨vb, 6, none⟩ = some (.bool c)) (by kernel_rfl) (HKP.out _ hs) (fun hHeld => ?_)
  refine wpAnyH_take (i := 0) (oi := { dst := some 21, op := Op.move (Operand.tmp 7), type := 9, pos := "ref.go:63", after := #[], guard := none }) (v := ?_) rfl (by kernel_rfl) (by kernel_rfl) (by kernel_rfl) (fun _ _ _ h => h) (Or.inl ⟨by rfl, ?_⟩) (by assumption) ?_
  rotate_left
  · intro w hSw; (try dsimp only at hSw); go_simp; try with_reducible rfl
  simp only [Act.put, List.setIfInBounds_toArray, List.set_cons_zero, List.set_cons_succ]
  refine wpAnyH_take (i := 1) (oi := { dst := some 22, op := Op.fieldAddr 66 (Operand.tmp 5) 2, type := 0, pos := "ref.go:63", after := #[], guard := none }) (v := ?_) rfl (by kernel_rfl) (by kernel_rfl) (by kernel_rfl) (fun _ _ _ h => h) (Or.inl ⟨by rfl, ?_⟩) (by assumption) ?_
  rotate_left
  · intro w hSw; (try dsimp only at hSw); go_simp; try with_reducible rfl
  simp only [Act.put, List.setIfInBounds_toArray, List.set_cons_zero, List.set_cons_succ]
  refine wpAnyH_take (i := 2) (oi := { dst := some 23, op := Op.load 3 (Operand.tmp 22), type := 3, pos := "ref.go:63", after := #[{ on := 1, ground := Ground.data }], guard := none }) (v := ?_) rfl (by kernel_rfl) (by kernel_rfl) (by kernel_rfl) (fun _ _ _ h => h) (Or.inl ⟨by rfl, ?_⟩) (by assumption) ?_
  rotate_left
  · intro w hSw; (try dsimp only at hSw); go_simp; try with_reducible rfl
  simp only [Act.put, List.setIfInBounds_toArray, List.set_cons_zero, List.set_cons_succ]
  refine wpAnyH_take (i := 5) (oi := { dst := some 26, op := Op.fieldAddr 66 (Operand.tmp 5) 3, type := 0, pos := "ref.go:63", after := #[], guard := none }) (v := ?_) rfl (by kernel_rfl) (by kernel_rfl) (by kernel_rfl) (fun _ _ _ h => h) (Or.inl ⟨by rfl, ?_⟩) (by assumption) ?_
  rotate_left
  · intro w hSw; (try dsimp only at hSw); go_simp; try with_reducible rfl
  simp only [Act.put, List.setIfInBounds_toArray, List.set_cons_zero, List.set_cons_succ]
  refine wpAnyH_take (i := 6) (oi := { dst := some 27, op := Op.load 3 (Operand.tmp 26), type := 3, pos := "ref.go:63", after := #[{ on := 5, ground := Ground.data }], guard := none }) (v := ?_) rfl (by kernel_rfl) (by kernel_rfl) (by kernel_rfl) (fun _ _ _ h => h) (Or.inl ⟨by rfl, ?_⟩) (by assumption) ?_
  rotate_left
  · intro w hSw; (try dsimp only at hSw); go_simp; try with_reducible rfl
  simp only [Act.put, List.setIfInBounds_toArray, List.set_cons_zero, List.set_cons_succ]
  refine wpAnyH_ready (rs := [3]) (by kernel_rfl) (by simp) (AllReadyH.cons (o := { dst := some 24, op := Op.call { callee := Callee.value (Operand.func 75), args := #[Operand.tmp 23, Operand.const (Value.int IntKind.i64 8)], argTypes := #[3, 3] }, type := 9, pos := "ref.go:63", after := #[{ on := 2, ground := Ground.data }], guard := none }) rfl (fun KK hK => ?_) AllReadyH.nil)
  · go_simp
    go_at_call 75
    with_reducible refine (sr_bytesV p 8 8 rfl (by decide) g2 Zg2.out NP.out hs).mono ?_
    rintro e wq ⟨rfl, hs⟩
    refine hK.out _ _ (HKP.out _ hs) (fun hHeld => ?_)
    clear hK KK
    try simp only [Act.put, List.setIfInBounds_toArray, List.set_cons_zero, List.set_cons_succ]
    refine wpAnyH_take (i := 4) (oi := { dst := some 25, op := Op.binOp BinOp.add 9 (Operand.tmp 21) (Operand.tmp 24) 9, type := 9, pos := "ref.go:63", after := #[{ on := 0, ground := Ground.data }, { on := 3, ground := Ground.data }], guard := none }) (v := ?_) rfl (by kernel_rfl) (by kernel_rfl) (by kernel_rfl) (fun _ _ _ h => h) (Or.inl ⟨by rfl, ?_⟩) (by assumption) ?_
    rotate_left
    · intro w hSw; (try dsimp only at hSw); go_simp; try with_reducible rfl
    simp only [Act.put, List.setIfInBounds_toArray, List.set_cons_zero, List.set_cons_succ]
    refine wpAnyH_ready (rs := [7]) (by kernel_rfl) (by simp) (AllReadyH.cons (o := { dst := some 28, op := Op.call { callee := Callee.value (Operand.func 75), args := #[Operand.tmp 27, Operand.const (Value.int IntKind.i64 2)], argTypes := #[3, 3] }, type := 9, pos := "ref.go:63", after := #[{ on := 6, ground := Ground.data }, { on := 3, ground := Ground.chain }], guard := none }) rfl (fun KK hK => ?_) AllReadyH.nil)
    · go_simp
      go_at_call 75
      with_reducible refine (sr_bytesV e 2 2 rfl (by decide) g3 Zg3.out NE.out hs).mono ?_
      rintro e wq ⟨rfl, hs⟩
      refine hK.out _ _ (HKP.out _ hs) (fun hHeld => ?_)
      clear hK KK
      try simp only [Act.put, List.setIfInBounds_toArray, List.set_cons_zero, List.set_cons_succ]
      refine wpAnyH_take (i := 8) (oi := { dst := some 29, op := Op.binOp BinOp.add 9 (Operand.tmp 25) (Operand.tmp 28) 9, type := 9, pos := "ref.go:63", after := #[{ on := 4, ground := Ground.data }, { on := 7, ground := Ground.data }], guard := none }) (v := ?_) rfl (by kernel_rfl) (by kernel_rfl) (by kernel_rfl) (fun _ _ _ h => h) (Or.inl ⟨by rfl, ?_⟩) (by assumption) ?_
      rotate_left
      · intro w hSw; (try dsimp only at hSw); go_simp; try with_reducible rfl
      simp only [Act.put, List.setIfInBounds_toArray, List.set_cons_zero, List.set_cons_succ]
      refine wpAnyH_take (i := 9) (oi := { dst := some 7, op := Op.assign (Operand.tmp 29), type := 9, pos := "ref.go:63", after := #[{ on := 8, ground := Ground.data }, { on := 7, ground := Ground.chain }, { on := 0, ground := Ground.phase }, { on := 1, ground := Ground.phase }, { on := 2, ground := Ground.phase }, { on := 3, ground := Ground.phase }, { on := 4, ground := Ground.phase }, { on := 5, ground := Ground.phase }, { on := 6, ground := Ground.phase }, { on := 7, ground := Ground.phase }, { on := 8, ground := Ground.phase }], guard := none }) (v := ?_) rfl (by kernel_rfl) (by kernel_rfl) (by kernel_rfl) (fun _ _ _ h => h) (Or.inl ⟨by rfl, ?_⟩) (by assumption) ?_
      rotate_left
      · intro w hSw; (try dsimp only at hSw); go_simp; try with_reducible rfl
      simp only [Act.put, List.setIfInBounds_toArray, List.set_cons_zero, List.set_cons_succ]
      refine wpAnyH_done (by kernel_rfl) ?_ _
      have c5 := hs.rawCell 5
      have c6 := hs.rawCell 6
      simp at c5 c6
      have H := Lib.hid hs
      clear hs
      go_wp2_with (fail)
      go_ret
      exact ⟨rfl, H.out.drop⟩

end Go.Proofs.Ytombolmicfjjpaa

/- Requests of transactions as bytes, by definition: Add and End. -/
namespace Go.Proofs.Ytombolmicfjjpaa
open Go.RowKit

set_option maxHeartbeats 4000000 in
set_option maxRecDepth 100000 in
theorem ref18_write24 (v : Int) (nl : Bool) (d : Bs) (tm p e : Int) (l : List (TopS × Value)) (q : Option Addr) (cap : Nat) (c : Bool) (S : Bs) (hS : encReq 24 v nl d tm p e (l.map (·.1)) c = S) (hil : d.length ≤ 32767) (htm : -9223372036854775808 ≤ tm ∧ tm < 9223372036854775808) (hp : -9223372036854775808 ≤ p ∧ p < 9223372036854775808) (he : -9223372036854775808 ≤ e ∧ e < 9223372036854775808) (hfit : FitTs (l.map (·.1))) {W0 w : World} {K : Know} {L : List Res} (hk : K.has (Know.tops (.slice q l.length cap) l)) (h : St W0 w K L) :
    Calls Try.prog 41 #[.int .i64 24, .int .i64 v, .agg #[.bool nl, .string (bb d), .int .i64 tm, .int .i64 p, .int .i64 e, .slice q l.length cap, .bool c]] w fun en w' => en = .returned (.string (bb S)) ∧ St W0 w' K L := by
  obtain ⟨vb, hvb⟩ : ∃ b, w.heap.size = b := ⟨_, rfl⟩
  have h0 := h.allocRaw #[.bool nl, .string (bb d), .int .i64 tm, .int .i64 p, .int .i64 e, .slice q l.length cap, .bool c] 66
  rw [hvb] at h0
  have H := Lib.hid h0
  have HK := Lib.hid hk
  have HIL := Lib.hid hil
  have NT := Lib.hid htm
  have NP := Lib.hid hp
  have NE := Lib.hid he
  have HFIT := Lib.hid hfit
  obtain ⟨g0, hg0⟩ : ∃ y, encF 2 ⟨nl, d⟩ = y := ⟨_, rfl⟩
  obtain ⟨g2, hg2⟩ : ∃ y, beBytes p 8 = y := ⟨_, rfl⟩
  obtain ⟨y2, hy2⟩ : ∃ y, g0 ++ g2 = y := ⟨_, rfl⟩
  obtain ⟨g3, hg3⟩ : ∃ y, beBytes e 2 = y := ⟨_, rfl⟩
  obtain ⟨y3, hy3⟩ : ∃ y, y2 ++ g3 = y := ⟨_, rfl⟩
  obtain ⟨g4, hg4⟩ : ∃ y, encTs (l.map (·.1)) = y := ⟨_, rfl⟩
  obtain ⟨y4, hy4⟩ : ∃ y, y3 ++ g4 = y := ⟨_, rfl⟩
  have hn0 : g0.length = d.length + 2 := by rw [← hg0]; unfold encF; rw [List.length_append, beBytes_length]; simp only; omega
  have hng2 : g2.length = 8 := by rw [← hg2]; exact beBytes_length _ _
  have hng3 : g3.length = 2 := by rw [← hg3]; exact beBytes_length _ _
  have hng4 : g4.length ≤ 5000000000000 := by rw [← hg4, ← preT_all]; have h1 := preT_le _ hfit _ (Nat.le_refl _); have h2 := hfit.1; omega
  have Z0 := Lib.hid hg0
  have Zg2 := Lib.hid hg2
  have hly2 := congrArg List.length hy2
  rw [List.length_append] at hly2
  have hcaty2 : bb g0 ++ bb g2 = bb y2 := by rw [← hy2]; exact bb_append _ _
  have Zg3 := Lib.hid hg3
  have hly3 := congrArg List.length hy3
  rw [List.length_append] at hly3
  have hcaty3 : bb y2 ++ bb g3 = bb y3 := by rw [← hy3]; exact bb_append _ _
  have Zg4 := Lib.hid hg4
  have hly4 := congrArg List.length hy4
  rw [List.length_append] at hly4
  have hcaty4 : bb y3 ++ bb g4 = bb y4 := by rw [← hy4]; exact bb_append _ _
  have hgg : ¬ (9223372036854775807 < g0.length + g2.length) ∧ ¬ (9223372036854775807 < y2.length + g3.length) ∧ ¬ (9223372036854775807 < y3.length + g4.length) ∧ True := by refine ⟨?_, ?_, ?_, trivial⟩ <;> omega
  obtain ⟨qy2, qy3, qy4, _⟩ := hgg
  have hye : y4 = S := by rw [← hS]; unfold encReq; simp only [← hy4, ← hy3, ← hy2, ← hg2, ← hg3, ← hg4, ← hg0]; simp [encW]
  subst hye

  have HKP := Lib.hid (show ∀ w', St W0 w' K (.raw vb #[.bool nl, .string (bb d), .int .i64 tm, .int .i64 p, .int .i64 e, .slice q l.length cap, .bool c] 66 :: L) → (w'.cell? ⟨vb, 0, none⟩ = some (.bool nl) ∧ w'.cell? ⟨vb, 1, none⟩ = some (.string (bb d)) ∧ w'.cell? ⟨vb, 2, none⟩ = some (.int .i64 tm) ∧ w'.cell? ⟨vb, 3, none⟩ = some (.int .i64 p) ∧ w'.cell? ⟨vb, 4, none⟩ = some (.int .i64 e) ∧ w'.cell? ⟨vb, 5, none⟩ = some (.slice q l.length cap) ∧ w'.cell? ⟨vb, 6, none⟩ = some (.bool c)) from fun w' hs => ⟨hs.rawCell 0, hs.rawCell 1, hs.rawCell 2, hs.rawCell 3, hs.rawCell 4, hs.rawCell 5, hs.rawCell 6⟩)
  clear h h0 hk hil htm hp he hS hfit hg0 hn0 hg2 hng2 hy2 hly2 hg3 hng3 hy3 hly3 hg4 hng4 hy4 hly4
  go_enter Try.func41, Try.ntmps41
  go_upto_region 6 with (go_at_call 87; (with_reducible refine (ref04_fixedT nl d g0 Z0.out HIL.out H.out).mono ?_); rintro e_ wn ⟨rfl, h⟩; have c0 := h.rawCell 0; have c1 := h.rawCell 1; have c2 := h.rawCell 2; have c3 := h.rawCell 3; have c4 := h.rawCell 4; have c5 := h.rawCell 5; have c6 := h.rawCell 6; simp at c0 c1 c2 c3 c4 c5 c6; replace H := Lib.hid h; clear h)
  have hs := H.out.drew
  refine wp_region_held_drew (S := fun w' => w'.cell? ⟨vb, 0, none⟩ = some (.bool nl) ∧ w'.cell? ⟨vb, 1, none⟩ = some (.string (bb d)) ∧ w'.cell? ⟨vb, 2, none⟩ = some (.int .i64 tm) ∧ w'.cell? ⟨vb, 3, none⟩ = some (.int .i64 p) ∧ w'.cell? ⟨vb, 4, none⟩ = some (.int .i64 e) ∧ w'.cell? ⟨vb, 5, none⟩ = some (.slice q l.length cap) ∧ w'.cell? ⟨vb, 6, none⟩ = some (.bool c)) (by kernel_rfl) (HKP.out _ hs) (fun hHeld => ?_)
  refine wpAnyH_take (i := 0) (oi := { dst := some 21, op := Op.move (Operand.tmp 7), type := 9, pos := "ref.go:63", after := #[], guard := none }) (v := ?_) rfl (by kernel_rfl) (by kernel_rfl) (by kernel_rfl) (fun _ _ _ h => h) (Or.inl ⟨by rfl, ?_⟩) (by assumption) ?_
  rotate_left
  · intro w hSw; (try dsimp only at hSw); go_simp; try with_reducible rfl
  simp only [Act.put, List.setIfInBounds_toArray, List.set_cons_zero, List.set_cons_succ]
  refine wpAnyH_take (i := 1) (oi := { dst := some 22, op := Op.fieldAddr 66 (Operand.tmp 5) 2, type := 0, pos := "ref.go:63", after := #[], guard := none }) (v := ?_) rfl (by kernel_rfl) (by kernel_rfl) (by kernel_rfl) (fun _ _ _ h => h) (Or.inl ⟨by rfl, ?_⟩) (by assumption) ?_
  rotate_left
  · intro w hSw; (try dsimp only at hSw); go_simp; try with_reducible rfl
  simp only [Act.put, List.setIfInBounds_toArray, List.set_cons_zero, List.set_cons_succ]
  refine wpAnyH_take (i := 2) (oi := { dst := some 23, op := Op.load 3 (Operand.tmp 22), type := 3, pos := "ref.go:63", after := #[{ on := 1, ground := Ground.data }], guard := none }) (v := ?_) rfl (by kernel_rfl) (by kernel_rfl) (by kernel_rfl) (fun _ _ _ h => h) (Or.inl ⟨by rfl, ?_⟩) (by assumption) ?_
  rotate_left
  · intro w hSw; (try dsimp only at hSw); go_simp; try with_reducible rfl
  simp only [Act.put, List.setIfInBounds_toArray, List.set_cons_zero, List.set_cons_succ]
  refine wpAnyH_take (i := 5) (oi := { dst := some 26, op := Op.fieldAddr 66 (Operand.tmp 5) 3, type := 0, pos := "ref.go:63", after := #[], guard := none }) (v := ?_) rfl (by kernel_rfl) (by kernel_rfl) (by kernel_rfl) (fun _ _ _ h => h) (Or.inl ⟨by rfl, ?_⟩) (by assumption) ?_
  rotate_left
  · intro w hSw; (try dsimp only at hSw); go_simp; try with_reducible rfl
  simp only [Act.put, List.setIfInBounds_toArray, List.set_cons_zero, List.set_cons_succ]
  refine wpAnyH_take (i := 6) (oi := { dst := some 27, op := Op.load 3 (Operand.tmp 26), type := 3, pos := "ref.go:63", after := #[{ on := 5, ground := Ground.data }], guard := none }) (v := ?_) rfl (by kernel_rfl) (by kernel_rfl) (by kernel_rfl) (fun _ _ _ h => h) (Or.inl ⟨by rfl, ?_⟩) (by assumption) ?_
  rotate_left
  · intro w hSw; (try dsimp only at hSw); go_simp; try with_reducible rfl
  simp only [Act.put, List.setIfInBounds_toArray, List.set_cons_zero, List.set_cons_succ]
  refine wpAnyH_ready (rs := [3]) (by kernel_rfl) (by simp) (AllReadyH.cons (o := { dst := some 24, op := Op.call { callee := Callee.value (Operand.func 75), args := #[Operand.tmp 23, Operand.const (Value.int IntKind.i64 8)], argTypes := #[3, 3] }, type := 9, pos := "ref.go:63", after := #[{ on := 2, ground := Ground.data }], guard := none }) rfl (fun KK hK => ?_) AllReadyH.nil)
  · go_simp
    go_at_call 75
    with_reducible refine (sr_bytesV p 8 8 rfl (by decide) g2 Zg2.out NP.out hs).mono ?_
    rintro e wq ⟨rfl, hs⟩
    refine hK.out _ _ (HKP.out _ hs) (fun hHeld => ?_)
    clear hK KK
    try simp only [Act.put, List.setIfInBounds_toArray, List.set_cons_zero, List.set_cons_succ]
    refine wpAnyH_take (i := 4) (oi := { dst := some 25, op := Op.binOp BinOp.add 9 (Operand.tmp 21) (Operand.tmp 24) 9, type := 9, pos := "ref.go:63", after := #[{ on := 0, ground := Ground.data }, { on := 3, ground := Ground.data }], guard := none }) (v := ?_) rfl (by kernel_rfl) (by kernel_rfl) (by kernel_rfl) (fun _ _ _ h => h) (Or.inl ⟨by rfl, ?_⟩) (by assumption) ?_
    rotate_left
    · intro w hSw; (try dsimp only at hSw); go_simp; try with_reducible rfl
    simp only [Act.put, List.setIfInBounds_toArray, List.set_cons_zero, List.set_cons_succ]
    refine wpAnyH_ready (rs := [7]) (by kernel_rfl) (by simp) (AllReadyH.cons (o := { dst := some 28, op := Op.call { callee := Callee.value (Operand.func 75), args := #[Operand.tmp 27, Operand.const (Value.int IntKind.i64 2)], argTypes := #[3, 3] }, type := 9, pos := "ref.go:63", after := #[{ on := 6, ground := Ground.data }, { on := 3, ground := Ground.chain }], guard := none }) rfl (fun KK hK => ?_) AllReadyH.nil)
    · go_simp
      go_at_call 75
      with_reducible refine (sr_bytesV e 2 2 rfl (by decide) g3 Zg3.out NE.out hs).mono ?_
      rintro e wq ⟨rfl, hs⟩
      refine hK.out _ _ (HKP.out _ hs) (fun hHeld => ?_)
      clear hK KK
      try simp only [Act.put, List.setIfInBounds_toArray, List.set_cons_zero, List.set_cons_succ]
      refine wpAnyH_take (i := 8) (oi := { dst := some 29, op := Op.binOp BinOp.add 9 (Operand.tmp 25) (Operand.tmp 28) 9, type := 9, pos := "ref.go:63", after := #[{ on := 4, ground := Ground.data }, { on := 7, ground := Ground.data }], guard := none }) (v := ?_) rfl (by kernel_rfl) (by kernel_rfl) (by kernel_rfl) (fun _ _ _ h => h) (Or.inl ⟨by rfl, ?_⟩) (by assumption) ?_
      rotate_left
      · intro w hSw; (try dsimp only at hSw); go_simp; try with_reducible rfl
      simp only [Act.put, List.setIfInBounds_toArray, List.set_cons_zero, List.set_cons_succ]
      refine wpAnyH_take (i := 9) (oi := { dst := some 7, op := Op.assign (Operand.tmp 29), type := 9, pos := "ref.go:63", after := #[{ on := 8, ground := Ground.data }, { on := 7, ground := Ground.chain }, { on := 0, ground := Ground.phase }, { on := 1, ground := Ground.phase }, { on := 2, ground := Ground.phase }, { on := 3, ground := Ground.phase }, { on := 4, ground := Ground.phase }, { on := 5, ground := Ground.phase }, { on := 6, ground := Ground.phase }, { on := 7, ground := Ground.phase }, { on := 8, ground := Ground.phase }], guard := none }) (v := ?_) rfl (by kernel_rfl) (by kernel_rfl) (by kernel_rfl) (fun _ _ _ h => h) (Or.inl ⟨by rfl, ?_⟩) (by assumption) ?_
      rotate_left
      · intro w hSw; (try dsimp only at hSw); go_simp; try with_reducible rfl
      simp only [Act.put, List.setIfInBounds_toArray, List.set_cons_zero, List.set_cons_succ]
      refine wpAnyH_done (by kernel_rfl) ?_ _
      have c5 := hs.rawCell 5
      have c6 := hs.rawCell 6
      simp at c5 c6
      have H := Lib.hid hs
      clear hs
      go_wp2_with (go_at_call 33; (with_reducible refine (ref14_topics l q cap g4 Zg4.out HFIT.out HK.out H.out).mono ?_); rintro e_ wn ⟨rfl, h⟩; replace H := Lib.hid h; clear h)
      go_ret
      exact ⟨rfl, H.out.drop⟩

set_option maxHeartbeats 4000000 in
set_option maxRecDepth 100000 in
theorem ref18_write26t (v : Int) (nl : Bool) (d : Bs) (tm p e : Int) (l : List (TopS × Value)) (q : Option Addr) (cap : Nat) (S : Bs) (hS : encReq 26 v nl d tm p e (l.map (·.1)) true = S) (hil : d.length ≤ 32767) (htm : -9223372036854775808 ≤ tm ∧ tm < 9223372036854775808) (hp : -9223372036854775808 ≤ p ∧ p < 9223372036854775808) (he : -9223372036854775808 ≤ e ∧ e < 9223372036854775808) {W0 w : World} {K : Know} {L : List Res} (hk : K.has (Know.tops (.slice q l.length cap) l)) (h : St W0 w K L) :
    Calls Try.prog 41 #[.int .i64 26, .int .i64 v, .agg #[.bool nl, .string (bb d), .int .i64 tm, .int .i64 p, .int .i64 e, .slice q l.length cap, .bool true]] w fun en w' => en = .returned (.string (bb S)) ∧ St W0 w' K L := by
  obtain ⟨vb, hvb⟩ : ∃ b, w.heap.size = b := ⟨_, rfl⟩
  have h0 := h.allocRaw #[.bool nl, .string (bb d), .int .i64 tm, .int .i64 p, .int .i64 e, .slice q l.length cap, .bool true] 66
  rw [hvb] at h0
  have H := Lib.hid h0
  have HK := Lib.hid hk
  have HIL := Lib.hid hil
  have NT := Lib.hid htm
  have NP := Lib.hid hp
  have NE := Lib.hid he

  obtain ⟨g0, hg0⟩ : ∃ y, encF 2 ⟨nl, d⟩ = y := ⟨_, rfl⟩
  obtain ⟨g2, hg2⟩ : ∃ y, beBytes p 8 = y := ⟨_, rfl⟩
  obtain ⟨y2, hy2⟩ : ∃ y, g0 ++ g2 = y := ⟨_, rfl⟩
  obtain ⟨g3, hg3⟩ : ∃ y, beBytes e 2 = y := ⟨_, rfl⟩
  obtain ⟨y3, hy3⟩ : ∃ y, y2 ++ g3 = y := ⟨_, rfl⟩
  obtain ⟨g4, hg4⟩ : ∃ y, encO true = y := ⟨_, rfl⟩
  obtain ⟨y4, hy4⟩ : ∃ y, y3 ++ g4 = y := ⟨_, rfl⟩
  have hn0 : g0.length = d.length + 2 := by rw [← hg0]; unfold encF; rw [List.length_append, beBytes_length]; simp only; omega
  have hng2 : g2.length = 8 := by rw [← hg2]; exact beBytes_length _ _
  have hng3 : g3.length = 2 := by rw [← hg3]; exact beBytes_length _ _
  have hng4 : g4.length = 1 := by rw [← hg4]; rfl
  have Z0 := Lib.hid hg0
  have Zg2 := Lib.hid hg2
  have hly2 := congrArg List.length hy2
  rw [List.length_append] at hly2
  have hcaty2 : bb g0 ++ bb g2 = bb y2 := by rw [← hy2]; exact bb_append _ _
  have Zg3 := Lib.hid hg3
  have hly3 := congrArg List.length hy3
  rw [List.length_append] at hly3
  have hcaty3 : bb y2 ++ bb g3 = bb y3 := by rw [← hy3]; exact bb_append _ _
  have Zg4 := Lib.hid hg4
  have hly4 := congrArg List.length hy4
  rw [List.length_append] at hly4
  have hcaty4 : bb y3 ++ bb g4 = bb y4 := by rw [← hy4]; exact bb_append _ _
  have hgg : ¬ (9223372036854775807 < g0.length + g2.length) ∧ ¬ (9223372036854775807 < y2.length + g3.length) ∧ ¬ (9223372036854775807 < y3.length + g4.length) ∧ True := by refine ⟨?_, ?_, ?_, trivial⟩ <;> omega
  obtain ⟨qy2, qy3, qy4, _⟩ := hgg
  have hye : y4 = S := by rw [← hS]; unfold encReq; simp only [← hy4, ← hy3, ← hy2, ← hg2, ← hg3, ← hg4, ← hg0]; simp [encW]
  subst hye
  have Zg4b := Lib.hid (show beBytes 1 1 = g4 by rw [← hg4]; rfl)
  have HKP := Lib.hid (show ∀ w', St W0 w' K (.raw vb #[.bool nl, .string (bb d), .int .i64 tm, .int .i64 p, .int .i64 e, .slice q l.length cap, .bool true] 66 :: L) → (w'.cell? ⟨vb, 0, none⟩ = some (.bool nl) ∧ w'.cell? ⟨vb, 1, none⟩ = some (.string (bb d)) ∧ w'.cell? ⟨vb, 2, none⟩ = some (.int .i64 tm) ∧ w'.cell? ⟨vb, 3, none⟩ = some (.int .i64 p) ∧ w'.cell? ⟨vb, 4, none⟩ = some (.int .i64 e) ∧ w'.cell? ⟨vb, 5, none⟩ = some (.slice q l.length cap) ∧ w'.cell? ⟨vb, 6, none⟩ = some (.bool true)) from fun w' hs => ⟨hs.rawCell 0, hs.rawCell 1, hs.rawCell 2, hs.rawCell 3, hs.rawCell 4, hs.rawCell 5, hs.rawCell 6⟩)
  clear h h0 hk hil htm hp he hS  hg0 hn0 hg2 hng2 hy2 hly2 hg3 hng3 hy3 hly3 hg4 hng4 hy4 hly4
  go_enter Try.func41, Try.ntmps41
  go_upto_region 6 with (go_at_call 87; (with_reducible refine (ref04_fixedT nl d g0 Z0.out HIL.out H.out).mono ?_); rintro e_ wn ⟨rfl, h⟩; have c0 := h.rawCell 0; have c1 := h.rawCell 1; have c2 := h.rawCell 2; have c3 := h.rawCell 3; have c4 := h.rawCell 4; have c5 := h.rawCell 5; have c6 := h.rawCell 6; simp at c0 c1 c2 c3 c4 c5 c6; replace H := Lib.hid h; clear h)
  have hs := H.out.drew
  refine wp_region_held_drew (S := fun w' => w'.cell? ⟨vb, 0, none⟩ = some (.bool nl) ∧ w'.cell? ⟨vb, 1, none⟩ = some (.string (bb d)) ∧ w'.cell? ⟨vb, 2, none⟩ = some (.int .i64 tm) ∧ w'.cell? ⟨vb, 3, none⟩ = some (.int .i64 p) ∧ w'.cell? ⟨vb, 4, none⟩ = some (.int .i64 e) ∧ w'.cell? ⟨vb, 5, none⟩ = some (.slice q l.length cap) ∧ w'.cell? ⟨vb, 6, none⟩ = some (.bool true)) (by kernel_rfl) (HKP.out _ hs) (fun hHeld => ?_)
  refine wpAnyH_take (i := 0) (oi := { dst := some 21, op := Op.move (Operand.tmp 7), type := 9, pos := "ref.go:63", after := #[], guard := none }) (v := ?_) rfl (by kernel_rfl) (by kernel_rfl) (by kernel_rfl) (fun _ _ _ h => h) (Or.inl ⟨by rfl, ?_⟩) (by assumption) ?_
  rotate_left
  · intro w hSw; (try dsimp only at hSw); go_simp; try with_reducible rfl
  simp only [Act.put, List.setIfInBounds_toArray, List.set_cons_zero, List.set_cons_succ]
  refine wpAnyH_take (i := 1) (oi := { dst := some 22, op := Op.fieldAddr 66 (Operand.tmp 5) 2, type := 0, pos := "ref.go:63", after := #[], guard := none }) (v := ?_) rfl (by kernel_rfl) (by kernel_rfl) (by kernel_rfl) (fun _ _ _ h => h) (Or.inl ⟨by rfl, ?_⟩) (by assumption) ?_
  rotate_left
  · intro w hSw; (try dsimp only at hSw); go_simp; try with_reducible rfl
  simp only [Act.put, List.setIfInBounds_toArray, List.set_cons_zero, List.set_cons_succ]
  refine wpAnyH_take (i := 2) (oi := { dst := some 23, op := Op.load 3 (Operand.tmp 22), type := 3, pos := "ref.go:63", after := #[{ on := 1, ground := Ground.data }], guard := none }) (v := ?_) rfl (by kernel_rfl) (by kernel_rfl) (by kernel_rfl) (fun _ _ _ h => h) (Or.inl ⟨by rfl, ?_⟩) (by assumption) ?_
  rotate_left
  · intro w hSw; (try dsimp only at hSw); go_simp; try with_reducible rfl
  simp only [Act.put, List.setIfInBounds_toArray, List.set_cons_zero, List.set_cons_succ]
  refine wpAnyH_take (i := 5) (oi := { dst := some 26, op := Op.fieldAddr 66 (Operand.tmp 5) 3, type := 0, pos := "ref.go:63", after := #[], guard := none }) (v := ?_) rfl (by kernel_rfl) (by kernel_rfl) (by kernel_rfl) (fun _ _ _ h => h) (Or.inl ⟨by rfl, ?_⟩) (by assumption) ?_
  rotate_left
  · intro w hSw; (try dsimp only at hSw); go_simp; try with_reducible rfl
  simp only [Act.put, List.setIfInBounds_toArray, List.set_cons_zero, List.set_cons_succ]
  refine wpAnyH_take (i := 6) (oi := { dst := some 27, op := Op.load 3 (Operand.tmp 26), type := 3, pos := "ref.go:63", after := #[{ on := 5, ground := Ground.data }], guard := none }) (v := ?_) rfl (by kernel_rfl) (by kernel_rfl) (by kernel_rfl) (fun _ _ _ h => h) (Or.inl ⟨by rfl, ?_⟩) (by assumption) ?_
  rotate_left
  · intro w hSw; (try dsimp only at hSw); go_simp; try with_reducible rfl
  simp only [Act.put, List.setIfInBounds_toArray, List.set_cons_zero, List.set_cons_succ]
  refine wpAnyH_ready (rs := [3]) (by kernel_rfl) (by simp) (AllReadyH.cons (o := { dst := some 24, op := Op.call { callee := Callee.value (Operand.func 75), args := #[Operand.tmp 23, Operand.const (Value.int IntKind.i64 8)], argTypes := #[3, 3] }, type := 9, pos := "ref.go:63", after := #[{ on := 2, ground := Ground.data }], guard := none }) rfl (fun KK hK => ?_) AllReadyH.nil)
  · go_simp
    go_at_call 75
    with_reducible refine (sr_bytesV p 8 8 rfl (by decide) g2 Zg2.out NP.out hs).mono ?_
    rintro e wq ⟨rfl, hs⟩
    refine hK.out _ _ (HKP.out _ hs) (fun hHeld => ?_)
    clear hK KK
    try simp only [Act.put, List.setIfInBounds_toArray, List.set_cons_zero, List.set_cons_succ]
    refine wpAnyH_take (i := 4) (oi := { dst := some 25, op := Op.binOp BinOp.add 9 (Operand.tmp 21) (Operand.tmp 24) 9, type := 9, pos := "ref.go:63", after := #[{ on := 0, ground := Ground.data }, { on := 3, ground := Ground.data }], guard := none }) (v := ?_) rfl (by kernel_rfl) (by kernel_rfl) (by kernel_rfl) (fun _ _ _ h => h) (Or.inl ⟨by rfl, ?_⟩) (by assumption) ?_
    rotate_left
    · intro w hSw; (try dsimp only at hSw); go_simp; try with_reducible rfl
    simp only [Act.put, List.setIfInBounds_toArray, List.set_cons_zero, List.set_cons_succ]
    refine wpAnyH_ready (rs := [7]) (by kernel_rfl) (by simp) (AllReadyH.cons (o := { dst := some 28, op := Op.call { callee := Callee.value (Operand.func 75), args := #[Operand.tmp 27, Operand.const (Value.int IntKind.i64 2)], argTypes := #[3, 3] }, type := 9, pos := "ref.go:63", after := #[{ on := 6, ground := Ground.data }, { on := 3, ground := Ground.chain }], guard := none }) rfl (fun KK hK => ?_) AllReadyH.nil)
    · go_simp
      go_at_call 75
      with_reducible refine (sr_bytesV e 2 2 rfl (by decide) g3 Zg3.out NE.out hs).mono ?_
      rintro e wq ⟨rfl, hs⟩
      refine hK.out _ _ (HKP.out _ hs) (fun hHeld => ?_)
      clear hK KK
      try simp only [Act.put, List.setIfInBounds_toArray, List.set_cons_zero, List.set_cons_succ]
      refine wpAnyH_take (i := 8) (oi := { dst := some 29, op := Op.binOp BinOp.add 9 (Operand.tmp 25) (Operand.tmp 28) 9, type := 9, pos := "ref.go:63", after := #[{ on := 4, ground := Ground.data }, { on := 7, ground := Ground.data }], guard := none }) (v := ?_) rfl (by kernel_rfl) (by kernel_rfl) (by kernel_rfl) (fun _ _ _ h => h) (Or.inl ⟨by rfl, ?_⟩) (by assumption) ?_
      rotate_left
      · intro w hSw; (try dsimp only at hSw); go_simp; try with_reducible rfl
      simp only [Act.put, List.setIfInBounds_toArray, List.set_cons_zero, List.set_cons_succ]
      refine wpAnyH_take (i := 9) (oi := { dst := some 7, op := Op.assign (Operand.tmp 29), type := 9, pos := "ref.go:63", after := #[{ on := 8, ground := Ground.data }, { on := 7, ground := Ground.chain }, { on := 0, ground := Ground.phase }, { on := 1, ground := Ground.phase }, { on := 2, ground := Ground.phase }, { on := 3, ground := Ground.phase }, { on := 4, ground := Ground.phase }, { on := 5, ground := Ground.phase }, { on := 6, ground := Ground.phase }, { on := 7, ground := Ground.phase }, { on := 8, ground := Ground.phase }], guard := none }) (v := ?_) rfl (by kernel_rfl) (by kernel_rfl) (by kernel_rfl) (fun _ _ _ h => h) (Or.inl ⟨by rfl, ?_⟩) (by assumption) ?_
      rotate_left
      · intro w hSw; (try dsimp only at hSw); go_simp; try with_reducible rfl
      simp only [Act.put, List.setIfInBounds_toArray, List.set_cons_zero, List.set_cons_succ]
      refine wpAnyH_done (by kernel_rfl) ?_ _
      have c5 := hs.rawCell 5
      have c6 := hs.rawCell 6
      simp at c5 c6
      have H := Lib.hid hs
      clear hs
      go_wp2_with (go_at_call 75; (with_reducible refine (sr_bytesV 1 1 1 rfl (by decide) g4 Zg4b.out (by decide) H.out).mono ?_); rintro e_ wn ⟨rfl, h⟩; replace H := Lib.hid h; clear h)
      go_ret
      exact ⟨rfl, H.out.drop⟩

set_option maxHeartbeats 4000000 in
set_option maxRecDepth 100000 in
theorem ref18_write26f (v : Int) (nl : Bool) (d : Bs) (tm p e : Int) (l : List (TopS × Value)) (q : Option Addr) (cap : Nat) (S : Bs) (hS : encReq 26 v nl d tm p e (l.map (·.1)) false = S) (hil : d.length ≤ 32767) (htm : -9223372036854775808 ≤ tm ∧ tm < 9223372036854775808) (hp : -9223372036854775808 ≤ p ∧ p < 9223372036854775808) (he : -9223372036854775808 ≤ e ∧ e < 9223372036854775808) {W0 w : World} {K : Know} {L : List Res} (hk : K.has (Know.tops (.slice q l.length cap) l)) (h : St W0 w K L) :
    Calls Try.prog 41 #[.int .i64 26, .int .i64 v, .agg #[.bool nl, .string (bb d), .int .i64 tm, .int .i64 p, .int .i64 e, .slice q l.length cap, .bool false]] w fun en w' => en = .returned (.string (bb S)) ∧ St W0 w' K L := by
  obtain ⟨vb, hvb⟩ : ∃ b, w.heap.size = b := ⟨_, rfl⟩
  have h0 := h.allocRaw #[.bool nl, .string (bb d), .int .i64 tm, .int .i64 p, .int .i64 e, .slice q l.length cap, .bool false] 66
  rw [hvb] at h0
  have H := Lib.hid h0
  have HK := Lib.hid hk
  have HIL := Lib.hid hil
  have NT := Lib.hid htm
  have NP := Lib.hid hp
  have NE := Lib.hid he

  obtain ⟨g0, hg0⟩ : ∃ y, encF 2 ⟨nl, d⟩ = y := ⟨_, rfl⟩
  obtain ⟨g2, hg2⟩ : ∃ y, beBytes p 8 = y := ⟨_, rfl⟩
  obtain ⟨y2, hy2⟩ : ∃ y, g0 ++ g2 = y := ⟨_, rfl⟩
  obtain ⟨g3, hg3⟩ : ∃ y, beBytes e 2 = y := ⟨_, rfl⟩
  obtain ⟨y3, hy3⟩ : ∃ y, y2 ++ g3 = y := ⟨_, rfl⟩
  obtain ⟨g4, hg4⟩ : ∃ y, encO false = y := ⟨_, rfl⟩
  obtain ⟨y4, hy4⟩ : ∃ y, y3 ++ g4 = y := ⟨_, rfl⟩
  have hn0 : g0.length = d.length + 2 := by rw [← hg0]; unfold encF; rw [List.length_append, beBytes_length]; simp only; omega
  have hng2 : g2.length = 8 := by rw [← hg2]; exact beBytes_length _ _
  have hng3 : g3.length = 2 := by rw [← hg3]; exact beBytes_length _ _
  have hng4 : g4.length = 1 := by rw [← hg4]; rfl
  have Z0 := Lib.hid hg0
  have Zg2 := Lib.hid hg2
  have hly2 := congrArg List.length hy2
  rw [List.length_append] at hly2
  have hcaty2 : bb g0 ++ bb g2 = bb y2 := by rw [← hy2]; exact bb_append _ _
  have Zg3 := Lib.hid hg3
  have hly3 := congrArg List.length hy3
  rw [List.length_append] at hly3
  have hcaty3 : bb y2 ++ bb g3 = bb y3 := by rw [← hy3]; exact bb_append _ _
  have Zg4 := Lib.hid hg4
  have hly4 := congrArg List.length hy4
  rw [List.length_append] at hly4
  have hcaty4 : bb y3 ++ bb g4 = bb y4 := by rw [← hy4]; exact bb_append _ _
  have hgg : ¬ (9223372036854775807 < g0.length + g2.length) ∧ ¬ (9223372036854775807 < y2.length + g3.length) ∧ ¬ (9223372036854775807 < y3.length + g4.length) ∧ True := by refine ⟨?_, ?_, ?_, trivial⟩ <;> omega
  obtain ⟨qy2, qy3, qy4, _⟩ := hgg
  have hye : y4 = S := by rw [← hS]; unfold encReq; simp only [← hy4, ← hy3, ← hy2, ← hg2, ← hg3, ← hg4, ← hg0]; simp [encW]
  subst hye
  have Zg4b := Lib.hid (show beBytes 0 1 = g4 by rw [← hg4]; rfl)
  have HKP := Lib.hid (show ∀ w', St W0 w' K (.raw vb #[.bool nl, .string (bb d), .int .i64 tm, .int .i64 p, .int .i64 e, .slice q l.length cap, .bool false] 66 :: L) → (w'.cell? ⟨vb, 0, none⟩ = some (.bool nl) ∧ w'.cell? ⟨vb, 1, none⟩ = some (.string (bb d)) ∧ w'.cell? ⟨vb, 2, none⟩ = some (.int .i64 tm) ∧ w'.cell? ⟨vb, 3, none⟩ = some (.int .i64 p) ∧ w'.cell? ⟨vb, 4, none⟩ = some (.int .i64 e) ∧ w'.cell? ⟨vb, 5, none⟩ = some (.slice q l.length cap) ∧ w'.cell? ⟨vb, 6, none⟩ = some (.bool false)) from fun w' hs => ⟨hs.rawCell 0, hs.rawCell 1, hs.rawCell 2, hs.rawCell 3, hs.rawCell 4, hs.rawCell 5, hs.rawCell 6⟩)
  clear h h0 hk hil htm hp he hS  hg0 hn0 hg2 hng2 hy2 hly2 hg3 hng3 hy3 hly3 hg4 hng4 hy4 hly4
  go_enter Try.func41, Try.ntmps41
  go_upto_region 6 with (go_at_call 87; (with_reducible refine (ref04_fixedT nl d g0 Z0.out HIL.out H.out).mono ?_); rintro e_ wn ⟨rfl, h⟩; have c0 := h.rawCell 0; have c1 := h.rawCell 1; have c2 := h.rawCell 2; have c3 := h.rawCell 3; have c4 := h.rawCell 4; have c5 := h.rawCell 5; have c6 := h.rawCell 6; simp at c0 c1 c2 c3 c4 c5 c6; replace H := Lib.hid h; clear h)
  have hs := H.out.drew
  refine wp_region_held_drew (S := fun w' => w'.cell? ⟨vb, 0, none⟩ = some (.bool nl) ∧ w'.cell? ⟨vb, 1, none⟩ = some (.string (bb d)) ∧ w'.cell? ⟨vb, 2, none⟩ = some (.int .i64 tm) ∧ w'.cell? ⟨vb, 3, none⟩ = some (.int .i64 p) ∧ w'.cell? ⟨vb, 4, none⟩ = some (.int .i64 e) ∧ w'.cell? ⟨vb, 5, none⟩ = some (.slice q l.length cap) ∧ w'.cell? ⟨vb, 6, none⟩ = some (.bool false)) (by kernel_rfl) (HKP.out _ hs) (fun hHeld => ?_)
  refine wpAnyH_take (i := 0) (oi := { dst := some 21, op := Op.move (Operand.tmp 7), type := 9, pos := "ref.go:63", after := #[], guard := none }) (v := ?_) rfl (by kernel_rfl) (by kernel_rfl) (by kernel_rfl) (fun _ _ _ h => h) (Or.inl ⟨by rfl, ?_⟩) (by assumption) ?_
  rotate_left
  · intro w hSw; (try dsimp only at hSw); go_simp; try with_reducible rfl
  simp only [Act.put, List.setIfInBounds_toArray, List.set_cons_zero, List.set_cons_succ]
  refine wpAnyH_take (i := 1) (oi := { dst := some 22, op := Op.fieldAddr 66 (Operand.tmp 5) 2, type := 0, pos := "ref.go:63", after := #[], guard := none }) (v := ?_) rfl (by kernel_rfl) (by kernel_rfl) (by kernel_rfl) (fun _ _ _ h => h) (Or.inl ⟨by rfl, ?_⟩) (by assumption) ?_
  rotate_left
  · intro w hSw; (try dsimp only at hSw); go_simp; try with_reducible rfl
  simp only [Act.put, List.setIfInBounds_toArray, List.set_cons_zero, List.set_cons_succ]
  refine wpAnyH_take (i := 2) (oi := { dst := some 23, op := Op.load 3 (Operand.tmp 22), type := 3, pos := "ref.go:63", after := #[{ on := 1, ground := Ground.data }], guard := none }) (v := ?_) rfl (by kernel_rfl) (by kernel_rfl) (by kernel_rfl) (fun _ _ _ h => h) (Or.inl ⟨by rfl, ?_⟩) (by assumption) ?_
  rotate_left
  · intro w hSw; (try dsimp only at hSw); go_simp; try with_reducible rfl
  simp only [Act.put, List.setIfInBounds_toArray, List.set_cons_zero, List.set_cons_succ]
  refine wpAnyH_take (i := 5) (oi := { dst := some 26, op := Op.fieldAddr 66 (Operand.tmp 5) 3, type := 0, pos := "ref.go:63", after := #[], guard := none }) (v := ?_) rfl (by kernel_rfl) (by kernel_rfl) (by kernel_rfl) (fun _ _ _ h => h) (Or.inl ⟨by rfl, ?_⟩) (by assumption) ?_
  rotate_left
  · intro w hSw; (try dsimp only at hSw); go_simp; try with_reducible rfl
  simp only [Act.put, List.setIfInBounds_toArray, List.set_cons_zero, List.set_cons_succ]
  refine wpAnyH_take (i := 6) (oi := { dst := some 27, op := Op.load 3 (Operand.tmp 26), type := 3, pos := "ref.go:63", after := #[{ on := 5, ground := Ground.data }], guard := none }) (v := ?_) rfl (by kernel_rfl) (by kernel_rfl) (by kernel_rfl) (fun _ _ _ h => h) (Or.inl ⟨by rfl, ?_⟩) (by assumption) ?_
  rotate_left
  · intro w hSw; (try dsimp only at hSw); go_simp; try with_reducible rfl
  simp only [Act.put, List.setIfInBounds_toArray, List.set_cons_zero, List.set_cons_succ]
  refine wpAnyH_ready (rs := [3]) (by kernel_rfl) (by simp) (AllReadyH.cons (o := { dst := some 24, op := Op.call { callee := Callee.value (Operand.func 75), args := #[Operand.tmp 23, Operand.const (Value.int IntKind.i64 8)], argTypes := #[3, 3] }, type := 9, pos := "ref.go:63", after := #[{ on := 2, ground := Ground.data }], guard := none }) rfl (fun KK hK => ?_) AllReadyH.nil)
  · go_simp
    go_at_call 75
    with_reducible refine (sr_bytesV p 8 8 rfl (by decide) g2 Zg2.out NP.out hs).mono ?_
    rintro e wq ⟨rfl, hs⟩
    refine hK.out _ _ (HKP.out _ hs) (fun hHeld => ?_)
    clear hK KK
    try simp only [Act.put, List.setIfInBounds_toArray, List.set_cons_zero, List.set_cons_succ]
    refine wpAnyH_take (i := 4) (oi := { dst := some 25, op := Op.binOp BinOp.add 9 (Operand.tmp 21) (Operand.tmp 24) 9, type := 9, pos := "ref.go:63", after := #[{ on := 0, ground := Ground.data }, { on := 3, ground := Ground.data }], guard := none }) (v := ?_) rfl (by kernel_rfl) (by kernel_rfl) (by kernel_rfl) (fun _ _ _ h => h) (Or.inl ⟨by rfl, ?_⟩) (by assumption) ?_
    rotate_left
    · intro w hSw; (try dsimp only at hSw); go_simp; try with_reducible rfl
    simp only [Act.put, List.setIfInBounds_toArray, List.set_cons_zero, List.set_cons_succ]
    refine wpAnyH_ready (rs := [7]) (by kernel_rfl) (by simp) (AllReadyH.cons (o := { dst := some 28, op := Op.call { callee := Callee.value (Operand.func 75), args := #[Operand.tmp 27, Operand.const (Value.int IntKind.i64 2)], argTypes := #[3, 3] }, type := 9, pos := "ref.go:63", after := #[{ on := 6, ground := Ground.data }, { on := 3, ground := Ground.chain }], guard := none }) rfl (fun KK hK => ?_) AllReadyH.nil)
    · go_simp
      go_at_call 75
      with_reducible refine (sr_bytesV e 2 2 rfl (by decide) g3 Zg3.out NE.out hs).mono ?_
      rintro e wq ⟨rfl, hs⟩
      refine hK.out _ _ (HKP.out _ hs) (fun hHeld => ?_)
      clear hK KK
      try simp only [Act.put, List.setIfInBounds_toArray, List.set_cons_zero, List.set_cons_succ]
      refine wpAnyH_take (i := 8) (oi := { dst := some 29, op := Op.binOp BinOp.add 9 (Operand.tmp 25) (Operand.tmp 28) 9, type := 9, pos := "ref.go:63", after := #[{ on := 4, ground := Ground.data }, { on := 7, ground := Ground.data }], guard := none }) (v := ?_) rfl (by kernel_rfl) (by kernel_rfl) (by kernel_rfl) (fun _ _ _ h => h) (Or.inl ⟨by rfl, ?_⟩) (by assumption) ?_
      rotate_left
      · intro w hSw; (try dsimp only at hSw); go_simp; try with_reducible rfl
      simp only [Act.put, List.setIfInBounds_toArray, List.set_cons_zero, List.set_cons_succ]
      refine wpAnyH_take (i := 9) (oi := { dst := some 7, op := Op.assign (Operand.tmp 29), type := 9, pos := "ref.go:63", after := #[{ on := 8, ground := Ground.data }, { on := 7, ground := Ground.chain }, { on := 0, ground := Ground.phase }, { on := 1, ground := Ground.phase }, { on := 2, ground := Ground.phase }, { on := 3, ground := Ground.phase }, { on := 4, ground := Ground.phase }, { on := 5, ground := Ground.phase }, { on := 6, ground := Ground.phase }, { on := 7, ground := Ground.phase }, { on := 8, ground := Ground.phase }], guard := none }) (v := ?_) rfl (by kernel_rfl) (by kernel_rfl) (by kernel_rfl) (fun _ _ _ h => h) (Or.inl ⟨by rfl, ?_⟩) (by assumption) ?_
      rotate_left
      · intro w hSw; (try dsimp only at hSw); go_simp; try with_reducible rfl
      simp only [Act.put, List.setIfInBounds_toArray, List.set_cons_zero, List.set_cons_succ]
      refine wpAnyH_done (by kernel_rfl) ?_ _
      have c5 := hs.rawCell 5
      have c6 := hs.rawCell 6
      simp at c5 c6
      have H := Lib.hid hs
      clear hs
      go_wp2_with (go_at_call 75; (with_reducible refine (sr_bytesV 0 1 1 rfl (by decide) g4 Zg4b.out (by decide) H.out).mono ?_); rintro e_ wn ⟨rfl, h⟩; replace H := Lib.hid h; clear h)
      go_ret
      exact ⟨rfl, H.out.drop⟩

end Go.Proofs.Ytombolmicfjjpaa

/- Whether two rows of numbers are one. -/
namespace Go.Proofs.Ytombolmicfjjpaa
open Go.RowKit

set_option maxHeartbeats 1000000 in
set_option maxRecDepth 100000 in
theorem ints_same01 (a b : List Int) (q1 q2 : Option Addr) (cap1 cap2 : Nat) (hl : a.length ≤ 9223372036854775807) (hl2 : b.length ≤ 9223372036854775807) (r : Bool) (hr : decide (a = b) = r) {W0 w : World} {K : Know} {L : List Res} (hka : K.has (Know.flat RI (.slice q1 a.length cap1) 1 a)) (hkb : K.has (Know.flat RI (.slice q2 b.length cap2) 1 b)) (h : St W0 w K L) :
    Calls Try.prog 82 #[.slice q1 a.length cap1, .slice q2 b.length cap2] w fun en w' => en = .returned (.bool r) ∧ St W0 w' K L := by
  have H := Lib.hid h
  have HA := Lib.hid hka
  have HB := Lib.hid hkb
  clear h hka hkb
  by_cases hlen : a.length = b.length
  · have HLEN := Lib.hid hlen
    have HR := Lib.hid hr
    rw [← hlen]
    clear hr hlen
    go_enter Try.func82, Try.ntmps82
    go_wp2
    go_loopw [5] (fun iv wr => ∃ k : Nat, k ≤ a.length ∧ iv = .int .i64 k ∧ Hid (a.take k = b.take k) ∧ St W0 wr K L) (fun iv _ => a.length - (intOf iv).toNat)
    case atStart => exact ⟨0, Nat.zero_le _, rfl, Lib.hid (by simp), H.out⟩
    case round =>
      obtain ⟨k, hk, rfl, HEQ, hst⟩ := hrel
      clear H
      have H := Lib.hid hst
      clear hst
      by_cases hlt : k < a.length
      · have hltb : k < b.length := by have := HLEN.out; omega
        obtain ⟨ba, oa, hqa⟩ := flat_at HA.out H.out (by omega)
        obtain ⟨bb', ob, hqb⟩ := flat_at HB.out H.out (by omega)
        subst hqa
        subst hqb
        have c0 := int_cell HA.out H.out k hlt
        have c1 := int_cell HB.out H.out k hltb
        have ea : a.take (k + 1) = a.take k ++ [a.getD k 0] := by rw [List.take_succ_eq_append_getElem hlt, List.getD_eq_getElem?_getD, List.getElem?_eq_getElem hlt]; rfl
        have eb : b.take (k + 1) = b.take k ++ [b.getD k 0] := by rw [List.take_succ_eq_append_getElem hltb, List.getD_eq_getElem?_getD, List.getElem?_eq_getElem hltb]; rfl
        have hne : a.getD k 0 ≠ b.getD k 0 → a ≠ b := by rintro h rfl; exact h rfl
        obtain ⟨x, hx⟩ : ∃ x, a.getD k 0 = x := ⟨_, rfl⟩
        obtain ⟨y, hy⟩ : ∃ y, b.getD k 0 = y := ⟨_, rfl⟩
        rw [hx] at c0 ea hne
        rw [hy] at c1 eb hne
        have EA := Lib.hid (And.intro ea (And.intro eb hne))
        clear ea eb hne hx hy hltb
        by_cases hxy : x = y
        · subst hxy
          go_wp2
          go_quiet (fail)
          go_wp2
          go_roundw
          case rel => exact ⟨k + 1, hlt, by go_num, Lib.hid (by rw [EA.out.1, EA.out.2.1, HEQ.out]), H.out.drewN _⟩
          case measure => first | (simp [intOf]; done) | (simp [intOf]; omega)
        · have HNE := Lib.hid (EA.out.2.2 hxy)
          go_wp2
          go_quiet (fail)
          go_wp2
          go_ret
          exact ⟨ret_bool (by rw [← HR.out]; exact (decide_eq_false HNE.out).symm), H.out.drewN _⟩
      · have hke : k = a.length := by omega
        subst hke
        go_wp2
        go_ret
        refine ⟨ret_bool ?_, H.out⟩
        have h := HEQ.out
        rw [List.take_of_length_le (by omega), List.take_of_length_le (by have := HLEN.out; omega)] at h
        rw [← HR.out]
        exact (decide_eq_true h).symm
  · have HR := Lib.hid hr
    have hne : ¬ ((a.length : Int) = (b.length : Int)) := by omega
    have HLEN := Lib.hid hlen
    clear hr hlen
    go_enter Try.func82, Try.ntmps82
    go_wp2
    go_ret
    exact ⟨ret_bool (by rw [← HR.out]; exact (decide_eq_false (by rintro rfl; exact HLEN.out rfl)).symm), H.out⟩

set_option maxHeartbeats 1000000 in
set_option maxRecDepth 100000 in
theorem ints_equal (a b : List Int) (q1 q2 : Option Addr) (cap1 cap2 : Nat) (hl : a.length ≤ 9223372036854775807) (hl2 : b.length ≤ 9223372036854775807) (r : Bool) (hr : decide (a = b) = r) {W0 w : World} {K : Know} {L : List Res} (hka : K.has (Know.flat RI (.slice q1 a.length cap1) 1 a)) (hkb : K.has (Know.flat RI (.slice q2 b.length cap2) 1 b)) (h : St W0 w K L) :
    Calls Try.prog 85 #[.slice q1 a.length cap1, .slice q2 b.length cap2] w fun en w' => en = .returned (.bool r) ∧ St W0 w' K L := by
  have H := Lib.hid h
  have HA := Lib.hid hka
  have HB := Lib.hid hkb
  clear h hka hkb
  by_cases hlen : a.length = b.length
  · have HLEN := Lib.hid hlen
    have HR := Lib.hid hr
    rw [← hlen]
    clear hr hlen
    go_enter Try.func85, Try.ntmps85
    go_wp2
    go_loopw [13] (fun iv wr => ∃ k : Nat, k ≤ a.length ∧ iv = .int .i64 k ∧ Hid (a.take k = b.take k) ∧ St W0 wr K L) (fun iv _ => a.length - (intOf iv).toNat)
    case atStart => exact ⟨0, Nat.zero_le _, rfl, Lib.hid (by simp), H.out⟩
    case round =>
      obtain ⟨k, hk, rfl, HEQ, hst⟩ := hrel
      clear H
      have H := Lib.hid hst
      clear hst
      by_cases hlt : k < a.length
      · have hltb : k < b.length := by have := HLEN.out; omega
        obtain ⟨ba, oa, hqa⟩ := flat_at HA.out H.out (by omega)
        obtain ⟨bb', ob, hqb⟩ := flat_at HB.out H.out (by omega)
        subst hqa
        subst hqb
        have c0 := int_cell HA.out H.out k hlt
        have c1 := int_cell HB.out H.out k hltb
        have ea : a.take (k + 1) = a.take k ++ [a.getD k 0] := by rw [List.take_succ_eq_append_getElem hlt, List.getD_eq_getElem?_getD, List.getElem?_eq_getElem hlt]; rfl
        have eb : b.take (k + 1) = b.take k ++ [b.getD k 0] := by rw [List.take_succ_eq_append_getElem hltb, List.getD_eq_getElem?_getD, List.getElem?_eq_getElem hltb]; rfl
        have hne : a.getD k 0 ≠ b.getD k 0 → a ≠ b := by rintro h rfl; exact h rfl
        obtain ⟨x, hx⟩ : ∃ x, a.getD k 0 = x := ⟨_, rfl⟩
        obtain ⟨y, hy⟩ : ∃ y, b.getD k 0 = y := ⟨_, rfl⟩
        rw [hx] at c0 ea hne
        rw [hy] at c1 eb hne
        have EA := Lib.hid (And.intro ea (And.intro eb hne))
        clear ea eb hne hx hy hltb
        by_cases hxy : x = y
        · subst hxy
          go_wp2
          go_quiet (fail)
          go_wp2
          go_roundw
          case rel => exact ⟨k + 1, hlt, by go_num, Lib.hid (by rw [EA.out.1, EA.out.2.1, HEQ.out]), H.out.drewN _⟩
          case measure => first | (simp [intOf]; done) | (simp [intOf]; omega)
        · have HNE := Lib.hid (EA.out.2.2 hxy)
          go_wp2
          go_quiet (fail)
          go_wp2
          go_ret
          exact ⟨ret_bool (by rw [← HR.out]; exact (decide_eq_false HNE.out).symm), H.out.drewN _⟩
      · have hke : k = a.length := by omega
        subst hke
        go_wp2
        go_ret
        refine ⟨ret_bool ?_, H.out⟩
        have h := HEQ.out
        rw [List.take_of_length_le (by omega), List.take_of_length_le (by have := HLEN.out; omega)] at h
        rw [← HR.out]
        exact (decide_eq_true h).symm
  · have HR := Lib.hid hr
    have hne : ¬ ((a.length : Int) = (b.length : Int)) := by omega
    have HLEN := Lib.hid hlen
    clear hr hlen
    go_enter Try.func85, Try.ntmps85
    go_wp2
    go_ret
    exact ⟨ret_bool (by rw [← HR.out]; exact (decide_eq_false (by rintro rfl; exact HLEN.out rfl)).symm), H.out⟩

end Go.Proofs.Ytombolmicfjjpaa
