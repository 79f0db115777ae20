/- Layer 5, walked: CrcBursts. -/
import Derived.Test.YtkenneeejdngaaaL05S
import Derived.Test.YtkenneeejdngaaaStore
import Derived.Deep.RegionHeld3
import Derived.Deep.DeepCutAuto
import Derived.IntWalk
import Derived.RegionTactic
namespace Go.Proofs.Ytkenneeejdngaaa
open Go.RowKit

set_option maxHeartbeats 1000000 in
set_option maxRecDepth 100000 in
theorem crcBursts_long (s : Bs) (at' m : Int) (hat : 0 ≤ at' ∧ at' < 65536) (hm : 0 ≤ m ∧ m < 4294967296) (hl : 2000 < s.length) {W0 w : World} (h : St W0 w Know.none []) :
    Calls Try.prog 4 #[.string (bb s), .int .u16 at', .int .u32 m] w fun en w' => en = .returned (.bool true) ∧ Below W0.heap.size W0 w' := by
  have H := Lib.hid h
  have hlen : decide ((2000 : Int) < (s.length : Int)) = true := decide_eq_true (by omega)
  clear h hl hat hm
  go_enter Try.func4, Try.ntmps4
  go_wp2_with ((go_at_call 15; refine (speaks05 H.out).mono ?_; rintro e wn ⟨rfl, h⟩; replace H := Lib.hid h; clear h))
  go_ret
  exact ⟨rfl, H.out.below⟩

theorem flip_bit (d : UInt8) (r q : Nat) (hr : r < 8) (hq : q ≠ r) : (d ^^^ UInt8.ofNat (2 ^ r)).toNat.testBit q = d.toNat.testBit q := by
  have h2 : (UInt8.ofNat (2 ^ r)).toNat = 2 ^ r := by
    have : 2 ^ r < 2 ^ 8 := Nat.pow_lt_pow_right (by decide) hr
    simp
    omega
  rw [UInt8.toNat_xor, h2, Nat.testBit_xor, Nat.testBit_two_pow_of_ne (fun h => hq h.symm), Bool.xor_false]
/-- Bits that are the same outside of what is harmed. -/
def Agree (a b : Bs) (first n : Nat) : Prop := ∀ i, (i < first ∨ first + n ≤ i) → (bitsOf a).getD i false = (bitsOf b).getD i false
theorem Agree.refl (a : Bs) (f : Nat) : Agree a a f 0 := fun _ _ => rfl
theorem Agree.step {a b : Bs} {f n : Nat} (h : Agree a b f n) : Agree a b f (n + 1) := fun i hi => h i (by omega)
theorem Agree.flip {a b : Bs} {f n : Nat} (h : Agree a b f n) (c : UInt8) (hk : (f + n) / 8 < b.length) (hc : ∀ q, q ≠ (f + n) % 8 → c.toNat.testBit q = (b[(f + n) / 8]).toNat.testBit q) : Agree a (b.set ((f + n) / 8) c) f (n + 1) := by
  intro i hi
  rw [h i (by omega), bitsOf_get, bitsOf_get]
  by_cases he : i / 8 = (f + n) / 8
  · have hq : i % 8 ≠ (f + n) % 8 := by omega
    have e1 : (b.set ((f + n) / 8) c).getD (i / 8) 0 = c := by rw [he, List.getD_eq_getElem?_getD, List.getElem?_set_self hk]; rfl
    have e2 : b.getD (i / 8) 0 = b[(f + n) / 8] := by rw [he, List.getD_eq_getElem?_getD, List.getElem?_eq_getElem hk]; rfl
    rw [e1, e2, hc _ hq]
  · rw [List.getD_eq_getElem?_getD, List.getD_eq_getElem?_getD, List.getElem?_set_ne (fun h => he h.symm)]

set_option maxHeartbeats 1000000 in
set_option maxRecDepth 100000 in
theorem crcBursts_none (s : Bs) (at' m : Int) (hat : 0 ≤ at' ∧ at' < 65536) (hm : 0 ≤ m ∧ m < 4294967296) (hl : s.length = 0) {W0 w : World} (h : St W0 w Know.none []) :
    Calls Try.prog 4 #[.string (bb s), .int .u16 at', .int .u32 m] w fun en w' => en = .returned (.bool true) ∧ Below W0.heap.size W0 w' := by
  have H := Lib.hid h
  have hlen : decide ((2000 : Int) < (s.length : Int)) = false := decide_eq_false (by omega)
  have hz : ((8 * (s.length : Int)) == 0) = true := by rw [hl]; rfl
  have HL := Lib.hid (show s.length ≤ 2000 by omega)
  clear h hl hat hm
  go_enter Try.func4, Try.ntmps4
  go_upto_region 5 with ((go_at_call 15; refine (speaks05 H.out).mono ?_; rintro e wn ⟨rfl, h⟩; replace H := Lib.hid h; clear h))
  go_cut [7] (fun s7 wx => ∃ bx cap : Nat, s7 = .slice (some ⟨bx, 0, none⟩) s.length cap ∧ St W0 wx Know.none [.gen (bRow bx s)])
  case first =>
    obtain ⟨C, cap, hsz, hC, hrun⟩ := conv_st H.out s
    have H2 := (H.out.bytesNew hsz hC).drew
    go_wp2
    go_meet
    exact ⟨_, cap, rfl, H2⟩
  obtain ⟨bx, cap, rfl, h⟩ := hcut
  clear H
  have H := Lib.hid h
  clear h
  have hl := HL.out
  go_wp2
  go_ret
  exact ⟨rfl, H.out.below⟩

set_option maxHeartbeats 1000000 in
set_option maxRecDepth 100000 in
theorem crcBursts_main (s : Bs) (at' m : Int) (hat : 0 ≤ at' ∧ at' < 65536) (hm : 0 ≤ m ∧ m < 4294967296) (hl : s.length ≤ 2000) (h0 : s.length ≠ 0) {W0 w : World} (h : St W0 w Know.none []) :
    Calls Try.prog 4 #[.string (bb s), .int .u16 at', .int .u32 m] w fun en w' => en = .returned (.bool true) ∧ Below W0.heap.size W0 w' := by
  have H := Lib.hid h
  have hlen : decide ((2000 : Int) < (s.length : Int)) = false := decide_eq_false (by omega)
  have hz0 : ((8 * (s.length : Int)) == 0) = false := by rw [beq_eq_false_iff_ne]; omega
  obtain ⟨f, hf⟩ : ∃ f : Nat, at' % (8 * (s.length : Int)) = f := ⟨(at' % (8 * (s.length : Int))).toNat, by have := Int.emod_nonneg at' (show 8 * (s.length : Int) ≠ 0 by omega); omega⟩
  have hf2 : f < 8 * s.length := by have := Int.emod_lt_of_pos at' (show (0 : Int) < 8 * (s.length : Int) by omega); omega
  obtain ⟨ha0, ha1⟩ := hat
  obtain ⟨hm0, hm1⟩ := hm
  clear h
  go_enter Try.func4, Try.ntmps4
  go_upto_region 5 with ((go_at_call 15; refine (speaks05 H.out).mono ?_; rintro e wn ⟨rfl, h⟩; replace H := Lib.hid h; clear h))
  go_cut [7] (fun s7 wx => ∃ bx cap : Nat, s7 = .slice (some ⟨bx, 0, none⟩) s.length cap ∧ St W0 wx Know.none [.gen (bRow bx s)])
  case first =>
    obtain ⟨C, cap, hsz, hC, hrun⟩ := conv_st H.out s
    have H2 := (H.out.bytesNew hsz hC).drew
    go_wp2
    go_meet
    exact ⟨_, cap, rfl, H2⟩
  obtain ⟨bx, cap, rfl, h⟩ := hcut
  clear H
  have H := Lib.hid h
  clear h
  go_wp2_with (fail)
  rw [hf]
  have HF := Lib.hid hf
  clear hf
  go_loopw [10, 11, 29] (fun _ _ iv wr => ∃ (i : Nat) (y : Bs), i ≤ 32 ∧ iv = .int .i64 i ∧ y.length = s.length ∧ Agree s y f i ∧ St W0 wr Know.none [.gen (bRow bx y)]) (fun _ _ iv _ => 32 - (intOf iv).toNat)
  case atStart => exact ⟨0, s, by decide, rfl, rfl, Agree.refl s f, H.out⟩
  case round =>
    obtain ⟨i, y, hi, rfl, hyl, hag, hst⟩ := hrel
    have HY := Lib.hid hyl
    have HA := Lib.hid hag
    clear H
    have H := Lib.hid hst
    clear hyl hag hst
    by_cases hlt : i < 32
    · go_upto_region 15 with (fail)
      · have hlt2 : (f : Int) + (i : Int) < 8 * (s.length : Int) := by assumption
        obtain ⟨k, hk⟩ : ∃ k, f + i = k := ⟨_, rfl⟩
        have hki : (f : Int) + (i : Int) = (k : Int) := by omega
        rw [hki]
        obtain ⟨q, hq⟩ : ∃ q, k / 8 = q := ⟨_, rfl⟩
        obtain ⟨r, hr⟩ : ∃ r, k % 8 = r := ⟨_, rfl⟩
        have hql : q < y.length := by have := HY.out; omega
        have hr8 : r < 8 := by omega
        have dq : (k : Int) / 8 = (q : Int) := by omega
        have dr : (k : Int) % 8 = (r : Int) := by omega
        obtain ⟨z1, z2⟩ := H.out.bytesCell q hql
        obtain ⟨d, hd⟩ : ∃ d, y[q] = d := ⟨_, rfl⟩
        rw [hd] at z1
        have HD := Lib.hid hd
        have HQ := Lib.hid (And.intro hk (And.intro hq hr))
        have hqi : (q : Int) < (s.length : Int) := by have := HY.out; omega
        have wq : IntKind.i64.wrap (q : Int) = (q : Int) := IntWalk.i64_in _ (by omega)
        have wr' : IntKind.i64.wrap (r : Int) = (r : Int) := IntWalk.i64_in _ (by omega)
        obtain ⟨mk, hmk⟩ : ∃ mk, UInt8.ofNat (2 ^ r) = mk := ⟨_, rfl⟩
        have hmi : ((mk.toNat : Nat) : Int) = (2 : Int) ^ r % 256 := by rw [← hmk]; simp
        have hxor := xor_u8m d mk
        rw [hmi] at hxor
        obtain ⟨c, hc⟩ : ∃ c, d ^^^ mk = c := ⟨_, rfl⟩
        rw [hc] at hxor
        have HC := Lib.hid (show c = d ^^^ UInt8.ofNat (2 ^ r) by rw [hmk]; exact hc.symm)
        clear hmk hc hmi
        have q0 : (0 : Int) ≤ (q : Int) := by omega
        have r0 : (0 : Int) ≤ (r : Int) := by omega
        clear hd hk hq hr hki hlt2
        have hs := (H.out.bytesSet q c (c.toNat : Int) rfl).drew
        go_region
        generalize (wr.setCell ⟨bx, q, none⟩ (.int .u8 (c.toNat : Int))).drew = wy at hs ⊢
        go_wp2_with fail
        go_roundw
        case rel =>
          have hk := HQ.out.1
          have hq := HQ.out.2.1
          have hr := HQ.out.2.2
          subst hk hq hr
          exact ⟨i + 1, y.set ((f + i) / 8) c, by omega, by go_num, by rw [List.length_set]; exact HY.out, HA.out.flip c hql (fun q hq => by rw [HC.out, flip_bit d _ q hr8 hq, ← HD.out]), hs⟩
        case measure => first | (simp [intOf]; done) | (simp [intOf]; omega)
      all_goals
        go_roundw
        case rel => exact ⟨i + 1, y, by omega, by go_num, HY.out, HA.out.step, H.out⟩
        case measure => first | (simp [intOf]; done) | (simp [intOf]; omega)
    · obtain rfl : i = 32 := by omega
      go_upto_region 18 with (go_at_call 16; refine (crc_new H.out).mono ?_; rintro e wn ⟨bt, rfl, h⟩; replace H := Lib.hid h; clear h)
      have HYS := Lib.hid (HY.out.symm)
      have HSL := Lib.hid (show s.length ≤ 140737488355328 by omega)
      have HYL := Lib.hid (show y.length ≤ 140737488355328 by have := HY.out; omega)
      obtain ⟨n1, hn1⟩ : ∃ n, (crcMore 0#32 s).toNat = n := ⟨_, rfl⟩
      obtain ⟨n2, hn2⟩ : ∃ n, (crcMore 0#32 y).toNat = n := ⟨_, rfl⟩
      have HN1 := Lib.hid hn1
      have HN2 := Lib.hid hn2
      have hs := H.out.drew
      by_cases hxy : y = s
      · subst hxy
        obtain rfl : n1 = n2 := hn1.symm.trans hn2
        clear hn1 hn2
        refine wp_region_held_drew (S := fun w' => (convert 32 9 (.slice (some ⟨bx, 0, none⟩) y.length cap)).run Try.prog w' = .ok (.string (bb y)) w') (by kernel_rfl) ((hs.sel [1, 0]).bytesText _ HYS.out cap) (fun hHeld => ?_)
        refine wpAnyH_take (i := 0) (oi := { dst := some 57, op := Op.move (Operand.tmp 12), type := 24, pos := "law.go:54", after := #[], guard := none }) (v := ?_) rfl (by kernel_rfl) (by kernel_rfl) (by kernel_rfl) (fun _ _ _ h => h) (Or.inl ⟨by rfl, ?_⟩) (by assumption) ?_
        rotate_left
        · intro w hSw; (try dsimp only at hSw); go_simp; try with_reducible rfl
        simp only [Act.put, List.setIfInBounds_toArray, List.set_cons_zero, List.set_cons_succ]
        refine wpAnyH_take (i := 1) (oi := { dst := some 58, op := Op.move (Operand.tmp 0), type := 9, pos := "law.go:54", after := #[], guard := none }) (v := ?_) rfl (by kernel_rfl) (by kernel_rfl) (by kernel_rfl) (fun _ _ _ h => h) (Or.inl ⟨by rfl, ?_⟩) (by assumption) ?_
        rotate_left
        · intro w hSw; (try dsimp only at hSw); go_simp; try with_reducible rfl
        simp only [Act.put, List.setIfInBounds_toArray, List.set_cons_zero, List.set_cons_succ]
        refine wpAnyH_take (i := 4) (oi := { dst := some 61, op := Op.move (Operand.tmp 12), type := 24, pos := "law.go:54", after := #[], guard := none }) (v := ?_) rfl (by kernel_rfl) (by kernel_rfl) (by kernel_rfl) (fun _ _ _ h => h) (Or.inl ⟨by rfl, ?_⟩) (by assumption) ?_
        rotate_left
        · intro w hSw; (try dsimp only at hSw); go_simp; try with_reducible rfl
        simp only [Act.put, List.setIfInBounds_toArray, List.set_cons_zero, List.set_cons_succ]
        refine wpAnyH_take (i := 5) (oi := { dst := some 62, op := Op.move (Operand.tmp 7), type := 32, pos := "law.go:54", after := #[], guard := none }) (v := ?_) rfl (by kernel_rfl) (by kernel_rfl) (by kernel_rfl) (fun _ _ _ h => h) (Or.inl ⟨by rfl, ?_⟩) (by assumption) ?_
        rotate_left
        · intro w hSw; (try dsimp only at hSw); go_simp; try with_reducible rfl
        simp only [Act.put, List.setIfInBounds_toArray, List.set_cons_zero, List.set_cons_succ]
        refine wpAnyH_take (i := 6) (oi := { dst := some 63, op := Op.convert 32 9 (Operand.tmp 62), type := 9, pos := "law.go:54", after := #[{ on := 5, ground := Ground.data }], guard := none }) (v := ?_) rfl (by kernel_rfl) (by kernel_rfl) (by kernel_rfl) (fun _ _ _ h => h) (Or.inl ⟨by rfl, ?_⟩) (by assumption) ?_
        rotate_left
        · intro w hSw; (try dsimp only at hSw); go_simp; try with_reducible rfl
        simp only [Act.put, List.setIfInBounds_toArray, List.set_cons_zero, List.set_cons_succ]
        refine wpAnyH_take (i := 10) (oi := { dst := some 67, op := Op.move (Operand.tmp 0), type := 9, pos := "law.go:54", after := #[], guard := none }) (v := ?_) rfl (by kernel_rfl) (by kernel_rfl) (by kernel_rfl) (fun _ _ _ h => h) (Or.inl ⟨by rfl, ?_⟩) (by assumption) ?_
        rotate_left
        · intro w hSw; (try dsimp only at hSw); go_simp; try with_reducible rfl
        simp only [Act.put, List.setIfInBounds_toArray, List.set_cons_zero, List.set_cons_succ]
        refine wpAnyH_take (i := 11) (oi := { dst := some 68, op := Op.move (Operand.tmp 7), type := 32, pos := "law.go:54", after := #[], guard := none }) (v := ?_) rfl (by kernel_rfl) (by kernel_rfl) (by kernel_rfl) (fun _ _ _ h => h) (Or.inl ⟨by rfl, ?_⟩) (by assumption) ?_
        rotate_left
        · intro w hSw; (try dsimp only at hSw); go_simp; try with_reducible rfl
        simp only [Act.put, List.setIfInBounds_toArray, List.set_cons_zero, List.set_cons_succ]
        refine wpAnyH_take (i := 12) (oi := { dst := some 69, op := Op.convert 32 9 (Operand.tmp 68), type := 9, pos := "law.go:54", after := #[{ on := 11, ground := Ground.data }], guard := none }) (v := ?_) rfl (by kernel_rfl) (by kernel_rfl) (by kernel_rfl) (fun _ _ _ h => h) (Or.inl ⟨by rfl, ?_⟩) (by assumption) ?_
        rotate_left
        · intro w hSw; (try dsimp only at hSw); go_simp; try with_reducible rfl
        simp only [Act.put, List.setIfInBounds_toArray, List.set_cons_zero, List.set_cons_succ]
        refine wpAnyH_take (i := 13) (oi := { dst := some 70, op := Op.binOp BinOp.eql 9 (Operand.tmp 67) (Operand.tmp 69) 9, type := 4, pos := "law.go:54", after := #[{ on := 10, ground := Ground.data }, { on := 12, ground := Ground.data }], guard := none }) (v := ?_) rfl (by kernel_rfl) (by kernel_rfl) (by kernel_rfl) (fun _ _ _ h => h) (Or.inl ⟨by rfl, ?_⟩) (by assumption) ?_
        rotate_left
        · intro w hSw; (try dsimp only at hSw); go_simp; try with_reducible rfl
        simp only [Act.put, List.setIfInBounds_toArray, List.set_cons_zero, List.set_cons_succ]
        refine wpAnyH_ready (rs := [2, 7]) (by kernel_rfl) (by simp) (AllReadyH.cons (o := { dst := some 59, op := Op.buildSlice 22 1 #[(0, Operand.tmp 58)], type := 22, pos := "law.go:54", after := #[{ on := 1, ground := Ground.data }], guard := none }) rfl (fun KK hK => ?_) (AllReadyH.cons (o := { dst := some 64, op := Op.buildSlice 22 1 #[(0, Operand.tmp 63)], type := 22, pos := "law.go:54", after := #[{ on := 6, ground := Ground.data }], guard := none }) rfl (fun KK hK => ?_) AllReadyH.nil))
        · obtain ⟨wy, bA, ey, eb, hs⟩ := hs.allocEx #[.string (bb y)] 9
          go_simp
          try rw [ey]
          try rw [eb]
          clear ey eb
          refine hK.out _ _ ((hs.sel [2, 0, 0]).bytesText _ HYS.out cap) (fun hHeld => ?_)
          clear hK KK
          try simp only [Act.put, List.setIfInBounds_toArray, List.set_cons_zero, List.set_cons_succ]
          refine wpAnyH_ready (rs := [3, 7]) (by kernel_rfl) (by simp) (AllReadyH.cons (o := { dst := some 60, op := Op.call { callee := Callee.value (Operand.func 19), args := #[Operand.tmp 57, Operand.tmp 59], argTypes := #[24, 22] }, type := 26, pos := "law.go:54", after := #[{ on := 0, ground := Ground.data }, { on := 2, ground := Ground.data }], guard := none }) rfl (fun KK hK => ?_) (AllReadyH.cons (o := { dst := some 64, op := Op.buildSlice 22 1 #[(0, Operand.tmp 63)], type := 22, pos := "law.go:54", after := #[{ on := 6, ground := Ground.data }], guard := none }) rfl (fun KK hK => ?_) AllReadyH.nil))
          · go_simp
            go_at_call 19
            with_reducible refine (crc_sum1 bt bA y n1 HN1.out HYL.out (hs.sel [0, 0, 0])).mono ?_
            rintro e wq ⟨rfl, hs⟩
            refine hK.out _ _ ((hs.sel [1, 0]).bytesText _ HYS.out cap) (fun hHeld => ?_)
            clear hK KK
            try simp only [Act.put, List.setIfInBounds_toArray, List.set_cons_zero, List.set_cons_succ]
            refine wpAnyH_ready (rs := [7]) (by kernel_rfl) (by simp) (AllReadyH.cons (o := { dst := some 64, op := Op.buildSlice 22 1 #[(0, Operand.tmp 63)], type := 22, pos := "law.go:54", after := #[{ on := 6, ground := Ground.data }], guard := none }) rfl (fun KK hK => ?_) AllReadyH.nil)
            · obtain ⟨wy, bB, ey, eb, hs⟩ := hs.allocEx #[.string (bb y)] 9
              go_simp
              try rw [ey]
              try rw [eb]
              clear ey eb
              refine hK.out _ _ ((hs.sel [2, 0, 0]).bytesText _ HYS.out cap) (fun hHeld => ?_)
              clear hK KK
              try simp only [Act.put, List.setIfInBounds_toArray, List.set_cons_zero, List.set_cons_succ]
              refine wpAnyH_ready (rs := [8]) (by kernel_rfl) (by simp) (AllReadyH.cons (o := { dst := some 65, op := Op.call { callee := Callee.value (Operand.func 19), args := #[Operand.tmp 61, Operand.tmp 64], argTypes := #[24, 22] }, type := 26, pos := "law.go:54", after := #[{ on := 4, ground := Ground.data }, { on := 7, ground := Ground.data }, { on := 3, ground := Ground.chain }], guard := none }) rfl (fun KK hK => ?_) AllReadyH.nil)
              · go_simp
                go_at_call 19
                with_reducible refine (crc_sum1 bt bB y n1 HN1.out HYL.out (hs.sel [0, 0, 0])).mono ?_
                rintro e wq ⟨rfl, hs⟩
                refine hK.out _ _ ((hs.sel [1, 0]).bytesText _ HYS.out cap) (fun hHeld => ?_)
                clear hK KK
                try simp only [Act.put, List.setIfInBounds_toArray, List.set_cons_zero, List.set_cons_succ]
                refine wpAnyH_take (i := 9) (oi := { dst := some 66, op := Op.binOp BinOp.eql 26 (Operand.tmp 60) (Operand.tmp 65) 26, type := 4, pos := "law.go:54", after := #[{ on := 3, ground := Ground.data }, { on := 8, ground := Ground.data }], guard := none }) (v := ?_) rfl (by kernel_rfl) (by kernel_rfl) (by kernel_rfl) (fun _ _ _ h => h) (Or.inl ⟨by rfl, ?_⟩) (by assumption) ?_
                rotate_left
                · intro w hSw; (try dsimp only at hSw); go_simp; try with_reducible rfl
                simp only [Act.put, List.setIfInBounds_toArray, List.set_cons_zero, List.set_cons_succ]
                refine wpAnyH_take (i := 14) (oi := { dst := some 71, op := Op.binOp BinOp.eql 4 (Operand.tmp 66) (Operand.tmp 70) 4, type := 4, pos := "law.go:54", after := #[{ on := 9, ground := Ground.data }, { on := 13, ground := Ground.data }], guard := none }) (v := ?_) rfl (by kernel_rfl) (by kernel_rfl) (by kernel_rfl) (fun _ _ _ h => h) (Or.inl ⟨by rfl, ?_⟩) (by assumption) ?_
                rotate_left
                · intro w hSw; (try dsimp only at hSw); go_simp; try with_reducible rfl
                simp only [Act.put, List.setIfInBounds_toArray, List.set_cons_zero, List.set_cons_succ]
                refine wpAnyH_take (i := 15) (oi := { dst := some 6, op := Op.assign (Operand.tmp 71), type := 4, pos := "law.go:54", after := #[{ on := 14, ground := Ground.data }, { on := 8, ground := Ground.chain }, { on := 0, ground := Ground.phase }, { on := 1, ground := Ground.phase }, { on := 2, ground := Ground.phase }, { on := 3, ground := Ground.phase }, { on := 4, ground := Ground.phase }, { on := 5, ground := Ground.phase }, { on := 6, ground := Ground.phase }, { on := 7, ground := Ground.phase }, { on := 8, ground := Ground.phase }, { on := 9, ground := Ground.phase }, { on := 10, ground := Ground.phase }, { on := 11, ground := Ground.phase }, { on := 12, ground := Ground.phase }, { on := 13, ground := Ground.phase }, { on := 14, ground := Ground.phase }], guard := none }) (v := ?_) rfl (by kernel_rfl) (by kernel_rfl) (by kernel_rfl) (fun _ _ _ h => h) (Or.inl ⟨by rfl, ?_⟩) (by assumption) ?_
                rotate_left
                · intro w hSw; (try dsimp only at hSw); go_simp; try with_reducible rfl
                simp only [Act.put, List.setIfInBounds_toArray, List.set_cons_zero, List.set_cons_succ]
                refine wpAnyH_done (by kernel_rfl) ?_ _
                go_wp2_with fail
                go_ret
                exact ⟨rfl, hs.below⟩
          · obtain ⟨wy, bB, ey, eb, hs⟩ := hs.allocEx #[.string (bb y)] 9
            go_simp
            try rw [ey]
            try rw [eb]
            clear ey eb
            refine hK.out _ _ ((hs.sel [3, 0, 0, 0]).bytesText _ HYS.out cap) (fun hHeld => ?_)
            clear hK KK
            try simp only [Act.put, List.setIfInBounds_toArray, List.set_cons_zero, List.set_cons_succ]
            refine wpAnyH_ready (rs := [3]) (by kernel_rfl) (by simp) (AllReadyH.cons (o := { dst := some 60, op := Op.call { callee := Callee.value (Operand.func 19), args := #[Operand.tmp 57, Operand.tmp 59], argTypes := #[24, 22] }, type := 26, pos := "law.go:54", after := #[{ on := 0, ground := Ground.data }, { on := 2, ground := Ground.data }], guard := none }) rfl (fun KK hK => ?_) AllReadyH.nil)
            · go_simp
              go_at_call 19
              with_reducible refine (crc_sum1 bt bA y n1 HN1.out HYL.out (hs.sel [1, 1, 0, 0])).mono ?_
              rintro e wq ⟨rfl, hs⟩
              refine hK.out _ _ ((hs.sel [2, 0, 0]).bytesText _ HYS.out cap) (fun hHeld => ?_)
              clear hK KK
              try simp only [Act.put, List.setIfInBounds_toArray, List.set_cons_zero, List.set_cons_succ]
              refine wpAnyH_ready (rs := [8]) (by kernel_rfl) (by simp) (AllReadyH.cons (o := { dst := some 65, op := Op.call { callee := Callee.value (Operand.func 19), args := #[Operand.tmp 61, Operand.tmp 64], argTypes := #[24, 22] }, type := 26, pos := "law.go:54", after := #[{ on := 4, ground := Ground.data }, { on := 7, ground := Ground.data }, { on := 3, ground := Ground.chain }], guard := none }) rfl (fun KK hK => ?_) AllReadyH.nil)
              · go_simp
                go_at_call 19
                with_reducible refine (crc_sum1 bt bB y n1 HN1.out HYL.out (hs.sel [1, 0, 0])).mono ?_
                rintro e wq ⟨rfl, hs⟩
                refine hK.out _ _ ((hs.sel [1, 0]).bytesText _ HYS.out cap) (fun hHeld => ?_)
                clear hK KK
                try simp only [Act.put, List.setIfInBounds_toArray, List.set_cons_zero, List.set_cons_succ]
                refine wpAnyH_take (i := 9) (oi := { dst := some 66, op := Op.binOp BinOp.eql 26 (Operand.tmp 60) (Operand.tmp 65) 26, type := 4, pos := "law.go:54", after := #[{ on := 3, ground := Ground.data }, { on := 8, ground := Ground.data }], guard := none }) (v := ?_) rfl (by kernel_rfl) (by kernel_rfl) (by kernel_rfl) (fun _ _ _ h => h) (Or.inl ⟨by rfl, ?_⟩) (by assumption) ?_
                rotate_left
                · intro w hSw; (try dsimp only at hSw); go_simp; try with_reducible rfl
                simp only [Act.put, List.setIfInBounds_toArray, List.set_cons_zero, List.set_cons_succ]
                refine wpAnyH_take (i := 14) (oi := { dst := some 71, op := Op.binOp BinOp.eql 4 (Operand.tmp 66) (Operand.tmp 70) 4, type := 4, pos := "law.go:54", after := #[{ on := 9, ground := Ground.data }, { on := 13, ground := Ground.data }], guard := none }) (v := ?_) rfl (by kernel_rfl) (by kernel_rfl) (by kernel_rfl) (fun _ _ _ h => h) (Or.inl ⟨by rfl, ?_⟩) (by assumption) ?_
                rotate_left
                · intro w hSw; (try dsimp only at hSw); go_simp; try with_reducible rfl
                simp only [Act.put, List.setIfInBounds_toArray, List.set_cons_zero, List.set_cons_succ]
                refine wpAnyH_take (i := 15) (oi := { dst := some 6, op := Op.assign (Operand.tmp 71), type := 4, pos := "law.go:54", after := #[{ on := 14, ground := Ground.data }, { on := 8, ground := Ground.chain }, { on := 0, ground := Ground.phase }, { on := 1, ground := Ground.phase }, { on := 2, ground := Ground.phase }, { on := 3, ground := Ground.phase }, { on := 4, ground := Ground.phase }, { on := 5, ground := Ground.phase }, { on := 6, ground := Ground.phase }, { on := 7, ground := Ground.phase }, { on := 8, ground := Ground.phase }, { on := 9, ground := Ground.phase }, { on := 10, ground := Ground.phase }, { on := 11, ground := Ground.phase }, { on := 12, ground := Ground.phase }, { on := 13, ground := Ground.phase }, { on := 14, ground := Ground.phase }], guard := none }) (v := ?_) rfl (by kernel_rfl) (by kernel_rfl) (by kernel_rfl) (fun _ _ _ h => h) (Or.inl ⟨by rfl, ?_⟩) (by assumption) ?_
                rotate_left
                · intro w hSw; (try dsimp only at hSw); go_simp; try with_reducible rfl
                simp only [Act.put, List.setIfInBounds_toArray, List.set_cons_zero, List.set_cons_succ]
                refine wpAnyH_done (by kernel_rfl) ?_ _
                go_wp2_with fail
                go_ret
                exact ⟨rfl, hs.below⟩
        · obtain ⟨wy, bB, ey, eb, hs⟩ := hs.allocEx #[.string (bb y)] 9
          go_simp
          try rw [ey]
          try rw [eb]
          clear ey eb
          refine hK.out _ _ ((hs.sel [2, 0, 0]).bytesText _ HYS.out cap) (fun hHeld => ?_)
          clear hK KK
          try simp only [Act.put, List.setIfInBounds_toArray, List.set_cons_zero, List.set_cons_succ]
          refine wpAnyH_ready (rs := [2]) (by kernel_rfl) (by simp) (AllReadyH.cons (o := { dst := some 59, op := Op.buildSlice 22 1 #[(0, Operand.tmp 58)], type := 22, pos := "law.go:54", after := #[{ on := 1, ground := Ground.data }], guard := none }) rfl (fun KK hK => ?_) AllReadyH.nil)
          · obtain ⟨wy, bA, ey, eb, hs⟩ := hs.allocEx #[.string (bb y)] 9
            go_simp
            try rw [ey]
            try rw [eb]
            clear ey eb
            refine hK.out _ _ ((hs.sel [3, 0, 0, 0]).bytesText _ HYS.out cap) (fun hHeld => ?_)
            clear hK KK
            try simp only [Act.put, List.setIfInBounds_toArray, List.set_cons_zero, List.set_cons_succ]
            refine wpAnyH_ready (rs := [3]) (by kernel_rfl) (by simp) (AllReadyH.cons (o := { dst := some 60, op := Op.call { callee := Callee.value (Operand.func 19), args := #[Operand.tmp 57, Operand.tmp 59], argTypes := #[24, 22] }, type := 26, pos := "law.go:54", after := #[{ on := 0, ground := Ground.data }, { on := 2, ground := Ground.data }], guard := none }) rfl (fun KK hK => ?_) AllReadyH.nil)
            · go_simp
              go_at_call 19
              with_reducible refine (crc_sum1 bt bA y n1 HN1.out HYL.out (hs.sel [0, 1, 0, 0])).mono ?_
              rintro e wq ⟨rfl, hs⟩
              refine hK.out _ _ ((hs.sel [2, 0, 0]).bytesText _ HYS.out cap) (fun hHeld => ?_)
              clear hK KK
              try simp only [Act.put, List.setIfInBounds_toArray, List.set_cons_zero, List.set_cons_succ]
              refine wpAnyH_ready (rs := [8]) (by kernel_rfl) (by simp) (AllReadyH.cons (o := { dst := some 65, op := Op.call { callee := Callee.value (Operand.func 19), args := #[Operand.tmp 61, Operand.tmp 64], argTypes := #[24, 22] }, type := 26, pos := "law.go:54", after := #[{ on := 4, ground := Ground.data }, { on := 7, ground := Ground.data }, { on := 3, ground := Ground.chain }], guard := none }) rfl (fun KK hK => ?_) AllReadyH.nil)
              · go_simp
                go_at_call 19
                with_reducible refine (crc_sum1 bt bB y n1 HN1.out HYL.out (hs.sel [1, 0, 0])).mono ?_
                rintro e wq ⟨rfl, hs⟩
                refine hK.out _ _ ((hs.sel [1, 0]).bytesText _ HYS.out cap) (fun hHeld => ?_)
                clear hK KK
                try simp only [Act.put, List.setIfInBounds_toArray, List.set_cons_zero, List.set_cons_succ]
                refine wpAnyH_take (i := 9) (oi := { dst := some 66, op := Op.binOp BinOp.eql 26 (Operand.tmp 60) (Operand.tmp 65) 26, type := 4, pos := "law.go:54", after := #[{ on := 3, ground := Ground.data }, { on := 8, ground := Ground.data }], guard := none }) (v := ?_) rfl (by kernel_rfl) (by kernel_rfl) (by kernel_rfl) (fun _ _ _ h => h) (Or.inl ⟨by rfl, ?_⟩) (by assumption) ?_
                rotate_left
                · intro w hSw; (try dsimp only at hSw); go_simp; try with_reducible rfl
                simp only [Act.put, List.setIfInBounds_toArray, List.set_cons_zero, List.set_cons_succ]
                refine wpAnyH_take (i := 14) (oi := { dst := some 71, op := Op.binOp BinOp.eql 4 (Operand.tmp 66) (Operand.tmp 70) 4, type := 4, pos := "law.go:54", after := #[{ on := 9, ground := Ground.data }, { on := 13, ground := Ground.data }], guard := none }) (v := ?_) rfl (by kernel_rfl) (by kernel_rfl) (by kernel_rfl) (fun _ _ _ h => h) (Or.inl ⟨by rfl, ?_⟩) (by assumption) ?_
                rotate_left
                · intro w hSw; (try dsimp only at hSw); go_simp; try with_reducible rfl
                simp only [Act.put, List.setIfInBounds_toArray, List.set_cons_zero, List.set_cons_succ]
                refine wpAnyH_take (i := 15) (oi := { dst := some 6, op := Op.assign (Operand.tmp 71), type := 4, pos := "law.go:54", after := #[{ on := 14, ground := Ground.data }, { on := 8, ground := Ground.chain }, { on := 0, ground := Ground.phase }, { on := 1, ground := Ground.phase }, { on := 2, ground := Ground.phase }, { on := 3, ground := Ground.phase }, { on := 4, ground := Ground.phase }, { on := 5, ground := Ground.phase }, { on := 6, ground := Ground.phase }, { on := 7, ground := Ground.phase }, { on := 8, ground := Ground.phase }, { on := 9, ground := Ground.phase }, { on := 10, ground := Ground.phase }, { on := 11, ground := Ground.phase }, { on := 12, ground := Ground.phase }, { on := 13, ground := Ground.phase }, { on := 14, ground := Ground.phase }], guard := none }) (v := ?_) rfl (by kernel_rfl) (by kernel_rfl) (by kernel_rfl) (fun _ _ _ h => h) (Or.inl ⟨by rfl, ?_⟩) (by assumption) ?_
                rotate_left
                · intro w hSw; (try dsimp only at hSw); go_simp; try with_reducible rfl
                simp only [Act.put, List.setIfInBounds_toArray, List.set_cons_zero, List.set_cons_succ]
                refine wpAnyH_done (by kernel_rfl) ?_ _
                go_wp2_with fail
                go_ret
                exact ⟨rfl, hs.below⟩
      · have hn12 : ((n1 : Int) == (n2 : Int)) = false := by
          rw [beq_eq_false_iff_ne]
          intro hh
          have h1 : crcMore 0#32 s = crcMore 0#32 y := BitVec.eq_of_toNat_eq (by omega)
          exact hxy (crc_burst 0#32 s y f HYS.out HA.out h1).symm
        have hsy : (s == y) = false := by rw [beq_eq_false_iff_ne]; exact fun h => hxy h.symm
        clear hn1 hn2 hxy
        refine wp_region_held_drew (S := fun w' => (convert 32 9 (.slice (some ⟨bx, 0, none⟩) s.length cap)).run Try.prog w' = .ok (.string (bb y)) w') (by kernel_rfl) ((hs.sel [1, 0]).bytesText _ HYS.out cap) (fun hHeld => ?_)
        refine wpAnyH_take (i := 0) (oi := { dst := some 57, op := Op.move (Operand.tmp 12), type := 24, pos := "law.go:54", after := #[], guard := none }) (v := ?_) rfl (by kernel_rfl) (by kernel_rfl) (by kernel_rfl) (fun _ _ _ h => h) (Or.inl ⟨by rfl, ?_⟩) (by assumption) ?_
        rotate_left
        · intro w hSw; (try dsimp only at hSw); go_simp; try with_reducible rfl
        simp only [Act.put, List.setIfInBounds_toArray, List.set_cons_zero, List.set_cons_succ]
        refine wpAnyH_take (i := 1) (oi := { dst := some 58, op := Op.move (Operand.tmp 0), type := 9, pos := "law.go:54", after := #[], guard := none }) (v := ?_) rfl (by kernel_rfl) (by kernel_rfl) (by kernel_rfl) (fun _ _ _ h => h) (Or.inl ⟨by rfl, ?_⟩) (by assumption) ?_
        rotate_left
        · intro w hSw; (try dsimp only at hSw); go_simp; try with_reducible rfl
        simp only [Act.put, List.setIfInBounds_toArray, List.set_cons_zero, List.set_cons_succ]
        refine wpAnyH_take (i := 4) (oi := { dst := some 61, op := Op.move (Operand.tmp 12), type := 24, pos := "law.go:54", after := #[], guard := none }) (v := ?_) rfl (by kernel_rfl) (by kernel_rfl) (by kernel_rfl) (fun _ _ _ h => h) (Or.inl ⟨by rfl, ?_⟩) (by assumption) ?_
        rotate_left
        · intro w hSw; (try dsimp only at hSw); go_simp; try with_reducible rfl
        simp only [Act.put, List.setIfInBounds_toArray, List.set_cons_zero, List.set_cons_succ]
        refine wpAnyH_take (i := 5) (oi := { dst := some 62, op := Op.move (Operand.tmp 7), type := 32, pos := "law.go:54", after := #[], guard := none }) (v := ?_) rfl (by kernel_rfl) (by kernel_rfl) (by kernel_rfl) (fun _ _ _ h => h) (Or.inl ⟨by rfl, ?_⟩) (by assumption) ?_
        rotate_left
        · intro w hSw; (try dsimp only at hSw); go_simp; try with_reducible rfl
        simp only [Act.put, List.setIfInBounds_toArray, List.set_cons_zero, List.set_cons_succ]
        refine wpAnyH_take (i := 6) (oi := { dst := some 63, op := Op.convert 32 9 (Operand.tmp 62), type := 9, pos := "law.go:54", after := #[{ on := 5, ground := Ground.data }], guard := none }) (v := ?_) rfl (by kernel_rfl) (by kernel_rfl) (by kernel_rfl) (fun _ _ _ h => h) (Or.inl ⟨by rfl, ?_⟩) (by assumption) ?_
        rotate_left
        · intro w hSw; (try dsimp only at hSw); go_simp; try with_reducible rfl
        simp only [Act.put, List.setIfInBounds_toArray, List.set_cons_zero, List.set_cons_succ]
        refine wpAnyH_take (i := 10) (oi := { dst := some 67, op := Op.move (Operand.tmp 0), type := 9, pos := "law.go:54", after := #[], guard := none }) (v := ?_) rfl (by kernel_rfl) (by kernel_rfl) (by kernel_rfl) (fun _ _ _ h => h) (Or.inl ⟨by rfl, ?_⟩) (by assumption) ?_
        rotate_left
        · intro w hSw; (try dsimp only at hSw); go_simp; try with_reducible rfl
        simp only [Act.put, List.setIfInBounds_toArray, List.set_cons_zero, List.set_cons_succ]
        refine wpAnyH_take (i := 11) (oi := { dst := some 68, op := Op.move (Operand.tmp 7), type := 32, pos := "law.go:54", after := #[], guard := none }) (v := ?_) rfl (by kernel_rfl) (by kernel_rfl) (by kernel_rfl) (fun _ _ _ h => h) (Or.inl ⟨by rfl, ?_⟩) (by assumption) ?_
        rotate_left
        · intro w hSw; (try dsimp only at hSw); go_simp; try with_reducible rfl
        simp only [Act.put, List.setIfInBounds_toArray, List.set_cons_zero, List.set_cons_succ]
        refine wpAnyH_take (i := 12) (oi := { dst := some 69, op := Op.convert 32 9 (Operand.tmp 68), type := 9, pos := "law.go:54", after := #[{ on := 11, ground := Ground.data }], guard := none }) (v := ?_) rfl (by kernel_rfl) (by kernel_rfl) (by kernel_rfl) (fun _ _ _ h => h) (Or.inl ⟨by rfl, ?_⟩) (by assumption) ?_
        rotate_left
        · intro w hSw; (try dsimp only at hSw); go_simp; try with_reducible rfl
        simp only [Act.put, List.setIfInBounds_toArray, List.set_cons_zero, List.set_cons_succ]
        refine wpAnyH_take (i := 13) (oi := { dst := some 70, op := Op.binOp BinOp.eql 9 (Operand.tmp 67) (Operand.tmp 69) 9, type := 4, pos := "law.go:54", after := #[{ on := 10, ground := Ground.data }, { on := 12, ground := Ground.data }], guard := none }) (v := ?_) rfl (by kernel_rfl) (by kernel_rfl) (by kernel_rfl) (fun _ _ _ h => h) (Or.inl ⟨by rfl, ?_⟩) (by assumption) ?_
        rotate_left
        · intro w hSw; (try dsimp only at hSw); go_simp; try with_reducible rfl
        simp only [Act.put, List.setIfInBounds_toArray, List.set_cons_zero, List.set_cons_succ]
        refine wpAnyH_ready (rs := [2, 7]) (by kernel_rfl) (by simp) (AllReadyH.cons (o := { dst := some 59, op := Op.buildSlice 22 1 #[(0, Operand.tmp 58)], type := 22, pos := "law.go:54", after := #[{ on := 1, ground := Ground.data }], guard := none }) rfl (fun KK hK => ?_) (AllReadyH.cons (o := { dst := some 64, op := Op.buildSlice 22 1 #[(0, Operand.tmp 63)], type := 22, pos := "law.go:54", after := #[{ on := 6, ground := Ground.data }], guard := none }) rfl (fun KK hK => ?_) AllReadyH.nil))
        · obtain ⟨wy, bA, ey, eb, hs⟩ := hs.allocEx #[.string (bb s)] 9
          go_simp
          try rw [ey]
          try rw [eb]
          clear ey eb
          refine hK.out _ _ ((hs.sel [2, 0, 0]).bytesText _ HYS.out cap) (fun hHeld => ?_)
          clear hK KK
          try simp only [Act.put, List.setIfInBounds_toArray, List.set_cons_zero, List.set_cons_succ]
          refine wpAnyH_ready (rs := [3, 7]) (by kernel_rfl) (by simp) (AllReadyH.cons (o := { dst := some 60, op := Op.call { callee := Callee.value (Operand.func 19), args := #[Operand.tmp 57, Operand.tmp 59], argTypes := #[24, 22] }, type := 26, pos := "law.go:54", after := #[{ on := 0, ground := Ground.data }, { on := 2, ground := Ground.data }], guard := none }) rfl (fun KK hK => ?_) (AllReadyH.cons (o := { dst := some 64, op := Op.buildSlice 22 1 #[(0, Operand.tmp 63)], type := 22, pos := "law.go:54", after := #[{ on := 6, ground := Ground.data }], guard := none }) rfl (fun KK hK => ?_) AllReadyH.nil))
          · go_simp
            go_at_call 19
            with_reducible refine (crc_sum1 bt bA s n1 HN1.out HSL.out (hs.sel [0, 0, 0])).mono ?_
            rintro e wq ⟨rfl, hs⟩
            refine hK.out _ _ ((hs.sel [1, 0]).bytesText _ HYS.out cap) (fun hHeld => ?_)
            clear hK KK
            try simp only [Act.put, List.setIfInBounds_toArray, List.set_cons_zero, List.set_cons_succ]
            refine wpAnyH_ready (rs := [7]) (by kernel_rfl) (by simp) (AllReadyH.cons (o := { dst := some 64, op := Op.buildSlice 22 1 #[(0, Operand.tmp 63)], type := 22, pos := "law.go:54", after := #[{ on := 6, ground := Ground.data }], guard := none }) rfl (fun KK hK => ?_) AllReadyH.nil)
            · obtain ⟨wy, bB, ey, eb, hs⟩ := hs.allocEx #[.string (bb y)] 9
              go_simp
              try rw [ey]
              try rw [eb]
              clear ey eb
              refine hK.out _ _ ((hs.sel [2, 0, 0]).bytesText _ HYS.out cap) (fun hHeld => ?_)
              clear hK KK
              try simp only [Act.put, List.setIfInBounds_toArray, List.set_cons_zero, List.set_cons_succ]
              refine wpAnyH_ready (rs := [8]) (by kernel_rfl) (by simp) (AllReadyH.cons (o := { dst := some 65, op := Op.call { callee := Callee.value (Operand.func 19), args := #[Operand.tmp 61, Operand.tmp 64], argTypes := #[24, 22] }, type := 26, pos := "law.go:54", after := #[{ on := 4, ground := Ground.data }, { on := 7, ground := Ground.data }, { on := 3, ground := Ground.chain }], guard := none }) rfl (fun KK hK => ?_) AllReadyH.nil)
              · go_simp
                go_at_call 19
                with_reducible refine (crc_sum1 bt bB y n2 HN2.out HYL.out (hs.sel [0, 0, 0])).mono ?_
                rintro e wq ⟨rfl, hs⟩
                refine hK.out _ _ ((hs.sel [1, 0]).bytesText _ HYS.out cap) (fun hHeld => ?_)
                clear hK KK
                try simp only [Act.put, List.setIfInBounds_toArray, List.set_cons_zero, List.set_cons_succ]
                refine wpAnyH_take (i := 9) (oi := { dst := some 66, op := Op.binOp BinOp.eql 26 (Operand.tmp 60) (Operand.tmp 65) 26, type := 4, pos := "law.go:54", after := #[{ on := 3, ground := Ground.data }, { on := 8, ground := Ground.data }], guard := none }) (v := ?_) rfl (by kernel_rfl) (by kernel_rfl) (by kernel_rfl) (fun _ _ _ h => h) (Or.inl ⟨by rfl, ?_⟩) (by assumption) ?_
                rotate_left
                · intro w hSw; (try dsimp only at hSw); go_simp; try with_reducible rfl
                simp only [Act.put, List.setIfInBounds_toArray, List.set_cons_zero, List.set_cons_succ]
                refine wpAnyH_take (i := 14) (oi := { dst := some 71, op := Op.binOp BinOp.eql 4 (Operand.tmp 66) (Operand.tmp 70) 4, type := 4, pos := "law.go:54", after := #[{ on := 9, ground := Ground.data }, { on := 13, ground := Ground.data }], guard := none }) (v := ?_) rfl (by kernel_rfl) (by kernel_rfl) (by kernel_rfl) (fun _ _ _ h => h) (Or.inl ⟨by rfl, ?_⟩) (by assumption) ?_
                rotate_left
                · intro w hSw; (try dsimp only at hSw); go_simp; try with_reducible rfl
                simp only [Act.put, List.setIfInBounds_toArray, List.set_cons_zero, List.set_cons_succ]
                refine wpAnyH_take (i := 15) (oi := { dst := some 6, op := Op.assign (Operand.tmp 71), type := 4, pos := "law.go:54", after := #[{ on := 14, ground := Ground.data }, { on := 8, ground := Ground.chain }, { on := 0, ground := Ground.phase }, { on := 1, ground := Ground.phase }, { on := 2, ground := Ground.phase }, { on := 3, ground := Ground.phase }, { on := 4, ground := Ground.phase }, { on := 5, ground := Ground.phase }, { on := 6, ground := Ground.phase }, { on := 7, ground := Ground.phase }, { on := 8, ground := Ground.phase }, { on := 9, ground := Ground.phase }, { on := 10, ground := Ground.phase }, { on := 11, ground := Ground.phase }, { on := 12, ground := Ground.phase }, { on := 13, ground := Ground.phase }, { on := 14, ground := Ground.phase }], guard := none }) (v := ?_) rfl (by kernel_rfl) (by kernel_rfl) (by kernel_rfl) (fun _ _ _ h => h) (Or.inl ⟨by rfl, ?_⟩) (by assumption) ?_
                rotate_left
                · intro w hSw; (try dsimp only at hSw); go_simp; try with_reducible rfl
                simp only [Act.put, List.setIfInBounds_toArray, List.set_cons_zero, List.set_cons_succ]
                refine wpAnyH_done (by kernel_rfl) ?_ _
                go_wp2_with fail
                go_ret
                exact ⟨rfl, hs.below⟩
          · obtain ⟨wy, bB, ey, eb, hs⟩ := hs.allocEx #[.string (bb y)] 9
            go_simp
            try rw [ey]
            try rw [eb]
            clear ey eb
            refine hK.out _ _ ((hs.sel [3, 0, 0, 0]).bytesText _ HYS.out cap) (fun hHeld => ?_)
            clear hK KK
            try simp only [Act.put, List.setIfInBounds_toArray, List.set_cons_zero, List.set_cons_succ]
            refine wpAnyH_ready (rs := [3]) (by kernel_rfl) (by simp) (AllReadyH.cons (o := { dst := some 60, op := Op.call { callee := Callee.value (Operand.func 19), args := #[Operand.tmp 57, Operand.tmp 59], argTypes := #[24, 22] }, type := 26, pos := "law.go:54", after := #[{ on := 0, ground := Ground.data }, { on := 2, ground := Ground.data }], guard := none }) rfl (fun KK hK => ?_) AllReadyH.nil)
            · go_simp
              go_at_call 19
              with_reducible refine (crc_sum1 bt bA s n1 HN1.out HSL.out (hs.sel [1, 1, 0, 0])).mono ?_
              rintro e wq ⟨rfl, hs⟩
              refine hK.out _ _ ((hs.sel [2, 0, 0]).bytesText _ HYS.out cap) (fun hHeld => ?_)
              clear hK KK
              try simp only [Act.put, List.setIfInBounds_toArray, List.set_cons_zero, List.set_cons_succ]
              refine wpAnyH_ready (rs := [8]) (by kernel_rfl) (by simp) (AllReadyH.cons (o := { dst := some 65, op := Op.call { callee := Callee.value (Operand.func 19), args := #[Operand.tmp 61, Operand.tmp 64], argTypes := #[24, 22] }, type := 26, pos := "law.go:54", after := #[{ on := 4, ground := Ground.data }, { on := 7, ground := Ground.data }, { on := 3, ground := Ground.chain }], guard := none }) rfl (fun KK hK => ?_) AllReadyH.nil)
              · go_simp
                go_at_call 19
                with_reducible refine (crc_sum1 bt bB y n2 HN2.out HYL.out (hs.sel [1, 0, 0])).mono ?_
                rintro e wq ⟨rfl, hs⟩
                refine hK.out _ _ ((hs.sel [1, 0]).bytesText _ HYS.out cap) (fun hHeld => ?_)
                clear hK KK
                try simp only [Act.put, List.setIfInBounds_toArray, List.set_cons_zero, List.set_cons_succ]
                refine wpAnyH_take (i := 9) (oi := { dst := some 66, op := Op.binOp BinOp.eql 26 (Operand.tmp 60) (Operand.tmp 65) 26, type := 4, pos := "law.go:54", after := #[{ on := 3, ground := Ground.data }, { on := 8, ground := Ground.data }], guard := none }) (v := ?_) rfl (by kernel_rfl) (by kernel_rfl) (by kernel_rfl) (fun _ _ _ h => h) (Or.inl ⟨by rfl, ?_⟩) (by assumption) ?_
                rotate_left
                · intro w hSw; (try dsimp only at hSw); go_simp; try with_reducible rfl
                simp only [Act.put, List.setIfInBounds_toArray, List.set_cons_zero, List.set_cons_succ]
                refine wpAnyH_take (i := 14) (oi := { dst := some 71, op := Op.binOp BinOp.eql 4 (Operand.tmp 66) (Operand.tmp 70) 4, type := 4, pos := "law.go:54", after := #[{ on := 9, ground := Ground.data }, { on := 13, ground := Ground.data }], guard := none }) (v := ?_) rfl (by kernel_rfl) (by kernel_rfl) (by kernel_rfl) (fun _ _ _ h => h) (Or.inl ⟨by rfl, ?_⟩) (by assumption) ?_
                rotate_left
                · intro w hSw; (try dsimp only at hSw); go_simp; try with_reducible rfl
                simp only [Act.put, List.setIfInBounds_toArray, List.set_cons_zero, List.set_cons_succ]
                refine wpAnyH_take (i := 15) (oi := { dst := some 6, op := Op.assign (Operand.tmp 71), type := 4, pos := "law.go:54", after := #[{ on := 14, ground := Ground.data }, { on := 8, ground := Ground.chain }, { on := 0, ground := Ground.phase }, { on := 1, ground := Ground.phase }, { on := 2, ground := Ground.phase }, { on := 3, ground := Ground.phase }, { on := 4, ground := Ground.phase }, { on := 5, ground := Ground.phase }, { on := 6, ground := Ground.phase }, { on := 7, ground := Ground.phase }, { on := 8, ground := Ground.phase }, { on := 9, ground := Ground.phase }, { on := 10, ground := Ground.phase }, { on := 11, ground := Ground.phase }, { on := 12, ground := Ground.phase }, { on := 13, ground := Ground.phase }, { on := 14, ground := Ground.phase }], guard := none }) (v := ?_) rfl (by kernel_rfl) (by kernel_rfl) (by kernel_rfl) (fun _ _ _ h => h) (Or.inl ⟨by rfl, ?_⟩) (by assumption) ?_
                rotate_left
                · intro w hSw; (try dsimp only at hSw); go_simp; try with_reducible rfl
                simp only [Act.put, List.setIfInBounds_toArray, List.set_cons_zero, List.set_cons_succ]
                refine wpAnyH_done (by kernel_rfl) ?_ _
                go_wp2_with fail
                go_ret
                exact ⟨rfl, hs.below⟩
        · obtain ⟨wy, bB, ey, eb, hs⟩ := hs.allocEx #[.string (bb y)] 9
          go_simp
          try rw [ey]
          try rw [eb]
          clear ey eb
          refine hK.out _ _ ((hs.sel [2, 0, 0]).bytesText _ HYS.out cap) (fun hHeld => ?_)
          clear hK KK
          try simp only [Act.put, List.setIfInBounds_toArray, List.set_cons_zero, List.set_cons_succ]
          refine wpAnyH_ready (rs := [2]) (by kernel_rfl) (by simp) (AllReadyH.cons (o := { dst := some 59, op := Op.buildSlice 22 1 #[(0, Operand.tmp 58)], type := 22, pos := "law.go:54", after := #[{ on := 1, ground := Ground.data }], guard := none }) rfl (fun KK hK => ?_) AllReadyH.nil)
          · obtain ⟨wy, bA, ey, eb, hs⟩ := hs.allocEx #[.string (bb s)] 9
            go_simp
            try rw [ey]
            try rw [eb]
            clear ey eb
            refine hK.out _ _ ((hs.sel [3, 0, 0, 0]).bytesText _ HYS.out cap) (fun hHeld => ?_)
            clear hK KK
            try simp only [Act.put, List.setIfInBounds_toArray, List.set_cons_zero, List.set_cons_succ]
            refine wpAnyH_ready (rs := [3]) (by kernel_rfl) (by simp) (AllReadyH.cons (o := { dst := some 60, op := Op.call { callee := Callee.value (Operand.func 19), args := #[Operand.tmp 57, Operand.tmp 59], argTypes := #[24, 22] }, type := 26, pos := "law.go:54", after := #[{ on := 0, ground := Ground.data }, { on := 2, ground := Ground.data }], guard := none }) rfl (fun KK hK => ?_) AllReadyH.nil)
            · go_simp
              go_at_call 19
              with_reducible refine (crc_sum1 bt bA s n1 HN1.out HSL.out (hs.sel [0, 1, 0, 0])).mono ?_
              rintro e wq ⟨rfl, hs⟩
              refine hK.out _ _ ((hs.sel [2, 0, 0]).bytesText _ HYS.out cap) (fun hHeld => ?_)
              clear hK KK
              try simp only [Act.put, List.setIfInBounds_toArray, List.set_cons_zero, List.set_cons_succ]
              refine wpAnyH_ready (rs := [8]) (by kernel_rfl) (by simp) (AllReadyH.cons (o := { dst := some 65, op := Op.call { callee := Callee.value (Operand.func 19), args := #[Operand.tmp 61, Operand.tmp 64], argTypes := #[24, 22] }, type := 26, pos := "law.go:54", after := #[{ on := 4, ground := Ground.data }, { on := 7, ground := Ground.data }, { on := 3, ground := Ground.chain }], guard := none }) rfl (fun KK hK => ?_) AllReadyH.nil)
              · go_simp
                go_at_call 19
                with_reducible refine (crc_sum1 bt bB y n2 HN2.out HYL.out (hs.sel [1, 0, 0])).mono ?_
                rintro e wq ⟨rfl, hs⟩
                refine hK.out _ _ ((hs.sel [1, 0]).bytesText _ HYS.out cap) (fun hHeld => ?_)
                clear hK KK
                try simp only [Act.put, List.setIfInBounds_toArray, List.set_cons_zero, List.set_cons_succ]
                refine wpAnyH_take (i := 9) (oi := { dst := some 66, op := Op.binOp BinOp.eql 26 (Operand.tmp 60) (Operand.tmp 65) 26, type := 4, pos := "law.go:54", after := #[{ on := 3, ground := Ground.data }, { on := 8, ground := Ground.data }], guard := none }) (v := ?_) rfl (by kernel_rfl) (by kernel_rfl) (by kernel_rfl) (fun _ _ _ h => h) (Or.inl ⟨by rfl, ?_⟩) (by assumption) ?_
                rotate_left
                · intro w hSw; (try dsimp only at hSw); go_simp; try with_reducible rfl
                simp only [Act.put, List.setIfInBounds_toArray, List.set_cons_zero, List.set_cons_succ]
                refine wpAnyH_take (i := 14) (oi := { dst := some 71, op := Op.binOp BinOp.eql 4 (Operand.tmp 66) (Operand.tmp 70) 4, type := 4, pos := "law.go:54", after := #[{ on := 9, ground := Ground.data }, { on := 13, ground := Ground.data }], guard := none }) (v := ?_) rfl (by kernel_rfl) (by kernel_rfl) (by kernel_rfl) (fun _ _ _ h => h) (Or.inl ⟨by rfl, ?_⟩) (by assumption) ?_
                rotate_left
                · intro w hSw; (try dsimp only at hSw); go_simp; try with_reducible rfl
                simp only [Act.put, List.setIfInBounds_toArray, List.set_cons_zero, List.set_cons_succ]
                refine wpAnyH_take (i := 15) (oi := { dst := some 6, op := Op.assign (Operand.tmp 71), type := 4, pos := "law.go:54", after := #[{ on := 14, ground := Ground.data }, { on := 8, ground := Ground.chain }, { on := 0, ground := Ground.phase }, { on := 1, ground := Ground.phase }, { on := 2, ground := Ground.phase }, { on := 3, ground := Ground.phase }, { on := 4, ground := Ground.phase }, { on := 5, ground := Ground.phase }, { on := 6, ground := Ground.phase }, { on := 7, ground := Ground.phase }, { on := 8, ground := Ground.phase }, { on := 9, ground := Ground.phase }, { on := 10, ground := Ground.phase }, { on := 11, ground := Ground.phase }, { on := 12, ground := Ground.phase }, { on := 13, ground := Ground.phase }, { on := 14, ground := Ground.phase }], guard := none }) (v := ?_) rfl (by kernel_rfl) (by kernel_rfl) (by kernel_rfl) (fun _ _ _ h => h) (Or.inl ⟨by rfl, ?_⟩) (by assumption) ?_
                rotate_left
                · intro w hSw; (try dsimp only at hSw); go_simp; try with_reducible rfl
                simp only [Act.put, List.setIfInBounds_toArray, List.set_cons_zero, List.set_cons_succ]
                refine wpAnyH_done (by kernel_rfl) ?_ _
                go_wp2_with fail
                go_ret
                exact ⟨rfl, hs.below⟩
theorem crcBursts_any (s : Bs) (at' m : Int) (w : World) (_ : s.length ≤ maxLen) (hat : 0 ≤ at' ∧ at' < 65536) (hm : 0 ≤ m ∧ m < 4294967296) :
    Calls Try.prog 4 #[.string (bb s), .int .u16 at', .int .u32 m] w fun en w' => en = .returned (.bool true) ∧ Below w.heap.size w w' := by
  have h : St w w Know.none [] := St.start trivial
  by_cases hl : 2000 < s.length
  · exact crcBursts_long s at' m hat hm hl h
  by_cases h0 : s.length = 0
  · exact crcBursts_none s at' m hat hm h0 h
  · exact crcBursts_main s at' m hat hm (by omega) h0 h

end Go.Proofs.Ytkenneeejdngaaa
