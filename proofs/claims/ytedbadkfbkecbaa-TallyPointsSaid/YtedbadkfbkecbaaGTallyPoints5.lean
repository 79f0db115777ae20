/- Contracts: sums by division. -/
import Derived.Test.YtedbadkfbkecbaaGTallyPoints4
import Derived.Test.YtedbadkfbkecbaaSep
import Derived.Deep.OwnRows
import Derived.Test.YtedbadkfbkecbaaGTallyPoints2
import Derived.Deep.RegionHeld3
import Derived.Deep.DeepCutAuto
import Derived.IntWalk
/- Contracts: a division, bit by bit (what its walk stands on). -/
namespace Go.Proofs.Ytedbadkfbkecbaa
open Go.RowKit

def cellsB (l : List Bool) : Array Value := (l.map fun b => Value.int .i64 (bitN b)).toArray
theorem cellsB_get (l : List Bool) (j : Nat) (h : j < l.length) : (cellsB l)[j]? = some (.int .i64 (bitN (l.getD j false))) := by
  unfold cellsB
  rw [List.getElem?_toArray, List.getElem?_map, List.getD_eq_getElem?_getD, List.getElem?_eq_getElem h]
  rfl
theorem cellsB_set (l : List Bool) (k : Nat) (b : Bool) (x : Int) (hx : ((bitN b : Nat) : Int) = x) : (cellsB l).setIfInBounds k (.int .i64 x) = cellsB (l.set k b) := by
  subst hx
  unfold cellsB
  rw [List.setIfInBounds_toArray, List.map_set]
theorem cellsB_made (n : Nat) : madeCells #[.int .i64 0] n = cellsB (List.replicate n false) := by
  refine Array.ext_getElem? fun i => ?_
  by_cases hi : i < n
  · rw [cellsB_get _ _ (by simpa using hi), List.getD_eq_getElem?_getD, List.getElem?_replicate, if_pos hi]
    simp [madeCells, hi, Nat.mod_one, bitN]
  · rw [Array.getElem?_eq_none (by rw [size_madeCells]; first | omega | (simp; omega)), Array.getElem?_eq_none (by simp [cellsB]; omega)]
theorem ext_getD {a b : List Bool} (hl : a.length = b.length) (h : ∀ x, x < a.length → a.getD x false = b.getD x false) : a = b := by
  refine List.ext_getElem hl fun i h1 h2 => ?_
  have := h i h1
  rw [List.getD_eq_getElem?_getD, List.getD_eq_getElem?_getD, List.getElem?_eq_getElem h1, List.getElem?_eq_getElem h2] at this
  exact this
def fillB (s : Bs) (m : Nat) : Nat → List Bool
  | 0 => List.replicate m false
  | k + 1 => (fillB s m k).set k ((bitsOf s).getD k false)
theorem fillB_len (s : Bs) (m k : Nat) : (fillB s m k).length = m := by
  induction k with
  | zero => show (List.replicate _ _).length = _; rw [List.length_replicate]
  | succ k ih => show (List.set _ _ _).length = _; rw [List.length_set, ih]
theorem fillB_get (s : Bs) (m k : Nat) (h : k ≤ m) (x : Nat) : (fillB s m k).getD x false = if x < k then (bitsOf s).getD x false else false := by
  induction k with
  | zero =>
    show (List.replicate _ _).getD x false = _
    rw [List.getD_eq_getElem?_getD, List.getElem?_replicate]
    split <;> rfl
  | succ k ih =>
    have ih := ih (by omega)
    show ((fillB s m k).set k _).getD x false = _
    rw [getD_set _ _ _ _ (by rw [fillB_len]; omega)]
    by_cases hx : x = k
    · subst hx; rw [if_pos rfl, if_pos (by omega)]
    · rw [if_neg hx, ih]
      by_cases h2 : x < k
      · rw [if_pos h2, if_pos (by omega)]
      · rw [if_neg h2, if_neg (by omega)]
theorem fillB_row (s : Bs) (n : Nat) (h : 8 * s.length = n) : fillB s (n + 32) n = rowOf s := by
  refine ext_getD (by rw [fillB_len, rowOf_len, h]) fun x _ => ?_
  rw [fillB_get _ _ _ (by omega), rowOf_get]
  split
  · rfl
  · next hx =>
    rw [List.getD_eq_getElem?_getD, List.getElem?_eq_none (by rw [bitsOf_length]; omega)]
    rfl
/-- Row by row, what the places of the row are told to be. -/
theorem St.bitCell {W0 w : World} {K : Know} {L : List Res} {b : Nat} {l : List Bool} {T : TypeId} (h : St W0 w K (.raw b (cellsB l) T :: L)) (k : Nat) (hk : k < l.length) (c : Bool) (hc : l.getD k false = c) : w.cell? ⟨b, k, none⟩ = some (.int .i64 (bitN c)) := by
  rw [h.rawCell k, cellsB_get l k hk, hc]
theorem St.bitSet {W0 w : World} {K : Know} {L : List Res} {b : Nat} {l : List Bool} {T : TypeId} (h : St W0 w K (.raw b (cellsB l) T :: L)) (k : Nat) (c : Bool) (x : Int) (hx : ((bitN c : Nat) : Int) = x) : St W0 (w.setCell ⟨b, k, none⟩ (.int .i64 x)) K (.raw b (cellsB (l.set k c)) T :: L) := by
  rw [← cellsB_set l k c x hx]
  exact h.rawSet k _
theorem make_bits (n N : Nat) (h : n + 32 = N) (hn : N ≤ 9000000) (w : World) : (Instr.makeSlice 55 (.int .i64 (N : Int)) (.int .i64 (N : Int))).run Try.prog w = .ok (.slice (some ⟨w.heap.size, 0, none⟩) N N) (w.alloc (.cells (cellsB (List.replicate N false)) 3 (0, 0))) := by
  rw [← cellsB_made]
  exact run_make_row' 55 3 (.int .i64 0) 8 Try.underlying55 (by kernel_rfl) rfl .i64 .i64 N (by omega) (by omega) w
theorem ref05_powerQ (n : Nat) (hn : n < 32) (c : Bool) (hc : pw n = c) {W0 w : World} {K : Know} {L : List Res} (h : St W0 w K L) :
    Calls Try.prog 36 #[.int .i64 n] w fun en w' => en = .returned (.int .i64 (bitN c)) ∧ St W0 w' K L := by
  subst hc
  exact ref05_power n hn h
theorem ref05_bitQ (s : Bs) (i : Nat) (hi : i < 8 * s.length) (hs : s.length ≤ 1000000) (c : Bool) (hc : (bitsOf s).getD i false = c) {W0 w : World} {K : Know} {L : List Res} (h : St W0 w K L) :
    Calls Try.prog 35 #[.string (bb s), .int .i64 i] w fun en w' => en = .returned (.int .i64 (bitN c)) ∧ St W0 w' K L := by
  subst hc
  exact ref05_bit s i hi hs h

end Go.Proofs.Ytedbadkfbkecbaa

/- Contracts: sums by division. -/
namespace Go.Proofs.Ytedbadkfbkecbaa
open Go.RowKit

set_option maxHeartbeats 1000000 in
set_option maxRecDepth 100000 in
theorem ref05_sumW (s : Bs) (hs : s.length ≤ 1000000) {W0 w : World} {K : Know} {L : List Res} (h : St W0 w K L) :
    Calls Try.prog 23 #[.string (bb s)] w fun en w' => en = .returned (.int .u32 (crcMore 0#32 s).toNat) ∧ St W0 w' K L := by
  have H := Lib.hid h
  clear h
  obtain ⟨n, hn⟩ : ∃ n, 8 * s.length = n := ⟨_, rfl⟩
  obtain ⟨N, hN⟩ : ∃ N, n + 32 = N := ⟨_, rfl⟩
  have e8 : (8 : Int) * (s.length : Int) = (n : Int) := by omega
  have eN : (n : Int) + 32 = (N : Int) := by omega
  have hn2 : n ≤ 8000000 := by omega
  have hmk := make_bits n N hN (by omega)
  have HN := Lib.hid hn
  have HN2 := Lib.hid hN
  have HS := Lib.hid hs
  clear hn hN hs
  go_enter Try.func23, Try.ntmps23
  go_wp2
  have hal := H.out.allocRaw (cellsB (List.replicate N false)) 3
  obtain ⟨bL, hbL⟩ : ∃ b, w.heap.size = b := ⟨_, rfl⟩
  rw [hbL] at hal ⊢
  clear H hmk hbL
  have H := Lib.hid hal
  clear hal
  go_loopw [5] (fun iv wr => ∃ k : Nat, k ≤ n ∧ iv = .int .i64 k ∧ St W0 wr K (.raw bL (cellsB (fillB s N k)) 3 :: L)) (fun iv _ => n - (intOf iv).toNat)
  case atStart => exact ⟨0, Nat.zero_le _, rfl, H.out⟩
  case round =>
    obtain ⟨k, hk, rfl, hst⟩ := hrel
    clear H
    have H := Lib.hid hst
    clear hst
    by_cases hlt : k < n
    · have hki : (k : Int) < (n : Int) := by omega
      have hkN : (k : Int) < (N : Int) := by omega
      have HI := Lib.hid (show k < 8 * s.length by rw [HN.out]; exact hlt)
      have HI2 := Lib.hid (show k < (fillB s N k).length by rw [fillB_len]; omega)
      obtain ⟨c, hc⟩ : ∃ c, (bitsOf s).getD k false = c := ⟨_, rfl⟩
      have HC := Lib.hid hc
      clear hc
      go_wp2_with (go_at_call 35; (with_reducible refine (ref05_bitQ s k HI.out HS.out c HC.out H.out).mono ?_); rintro e wn ⟨rfl, h⟩; replace H := Lib.hid h; clear h; have c0 := H.out.bitCell k HI2.out _ rfl; have f0 := H.out.rawFree k)
      go_roundw
      case rel =>
        have e : fillB s N (k + 1) = (fillB s N k).set k c := by rw [← HC.out]; rfl
        exact ⟨k + 1, hlt, by go_num, by rw [e]; exact H.out.bitSet k c _ rfl⟩
      case measure => first | (simp [intOf]; done) | (simp [intOf]; omega)
    · obtain rfl : n = k := by omega
      have h := H.out
      have e : fillB s N n = rowOf s := by have := fillB_row s n HN.out; rw [HN2.out] at this; exact this
      rw [e] at h
      have HRL := Lib.hid (show (rowOf s).length = N by rw [rowOf_len, HN.out, HN2.out])
      clear H
      have H := Lib.hid h
      clear h
      clear hlt e hk
      have hN2 : (32 : Int) ≤ (N : Int) := by omega
      go_wp2
      go_loopw [6] (fun iv wr => ∃ k : Nat, k ≤ 32 ∧ iv = .int .i64 k ∧ St W0 wr K (.raw bL (cellsB (turned k (rowOf s))) 3 :: L)) (fun iv _ => 32 - (intOf iv).toNat)
      case atStart => exact ⟨0, Nat.zero_le _, rfl, H.out⟩
      case round =>
        obtain ⟨k, hk, rfl, hst⟩ := hrel
        clear H
        have H := Lib.hid hst
        clear hst
        by_cases hlt : k < 32
        · have hki : (k : Int) < 32 := by omega
          have hkN : (k : Int) < (N : Int) := by omega
          obtain ⟨c, hc⟩ : ∃ c, (turned k (rowOf s)).getD k false = c := ⟨_, rfl⟩
          have hkl : k < (turned k (rowOf s)).length := by rw [turned_len, HRL.out]; omega
          have c0 := H.out.bitCell k hkl c hc
          have f0 := H.out.rawFree k
          have HE := Lib.hid (show turned (k + 1) (rowOf s) = (turned k (rowOf s)).set k (!c) by rw [← hc]; rfl)
          clear hc hkl
          cases c
          all_goals
            simp only [bitN, Bool.false_eq_true, if_false, if_true] at c0
            go_wp2
            go_roundw
            case rel => exact ⟨k + 1, hlt, by go_num, by rw [HE.out]; exact H.out.bitSet k _ _ rfl⟩
            case measure => first | (simp [intOf]; done) | (simp [intOf]; omega)
        · obtain rfl : k = 32 := by omega
          obtain ⟨M, hM⟩ : ∃ M, turned 32 (rowOf s) = M := ⟨_, rfl⟩
          have h := H.out
          rw [hM] at h
          have HML := Lib.hid (show M.length = N by rw [← hM, turned_len]; exact HRL.out)
          have HM := Lib.hid hM
          clear H hlt hk hM
          have H := Lib.hid h
          clear h
          go_wp2
          go_loopw [7] (fun iv wr => ∃ k : Nat, k ≤ n ∧ iv = .int .i64 k ∧ St W0 wr K (.raw bL (cellsB (outer M k)) 3 :: L)) (fun iv _ => n - (intOf iv).toNat)
          case atStart => exact ⟨0, Nat.zero_le _, rfl, H.out⟩
          case round =>
            obtain ⟨i, hi, rfl, hst⟩ := hrel
            clear H
            have H := Lib.hid hst
            clear hst
            by_cases hlt : i < n
            · have hki : (i : Int) < (n : Int) := by omega
              have hkN : (i : Int) < (N : Int) := by omega
              obtain ⟨c, hc⟩ : ∃ c, (outer M i).getD i false = c := ⟨_, rfl⟩
              have c0 := H.out.bitCell i (by rw [outer_len, HML.out]; omega) c hc
              cases c
              · have HE := Lib.hid (show outer M (i + 1) = outer M i by show (if (outer M i).getD i false then _ else _ : List Bool) = _; rw [hc]; rfl)
                clear hc
                simp only [bitN, Bool.false_eq_true, if_false, if_true] at c0
                go_wp2
                go_roundw
                case rel => exact ⟨i + 1, hlt, by go_num, by rw [HE.out]; exact H.out⟩
                case measure => first | (simp [intOf]; done) | (simp [intOf]; omega)
              · have HE := Lib.hid (show outer M (i + 1) = inner (outer M i) i 32 by show (if (outer M i).getD i false then _ else _ : List Bool) = _; rw [hc]; rfl)
                clear hc
                simp only [bitN, Bool.false_eq_true, if_false, if_true] at c0
                obtain ⟨B, hB⟩ : ∃ B, outer M i = B := ⟨_, rfl⟩
                have h := H.out
                rw [hB] at HE h
                have HBL := Lib.hid (show B.length = N by rw [← hB, outer_len]; exact HML.out)
                clear H hB
                have H := Lib.hid h
                clear h
                go_wp2
                clear c0
                go_loopw [8] (fun kv wr => ∃ q : Nat, q ≤ 32 ∧ kv = .int .i64 ((q : Int) + 1) ∧ St W0 wr K (.raw bL (cellsB (inner B i q)) 3 :: L)) (fun kv _ => 33 - (intOf kv).toNat)
                case atStart => exact ⟨0, Nat.zero_le _, rfl, H.out⟩
                case round =>
                  obtain ⟨q, hq, rfl, hst⟩ := hrel
                  clear H
                  have H := Lib.hid hst
                  clear hst
                  by_cases hlt2 : q < 32
                  · obtain ⟨p, hp⟩ : ∃ p, 31 - q = p := ⟨_, rfl⟩
                    obtain ⟨x, hx⟩ : ∃ x, i + (q + 1) = x := ⟨_, rfl⟩
                    obtain ⟨kk, hkk⟩ : ∃ kk, q + 1 = kk := ⟨_, rfl⟩
                    have e1 : (q : Int) + 1 = (kk : Int) := by omega
                    rw [e1]
                    have e2 : (i : Int) + (kk : Int) = (x : Int) := by omega
                    have e3 : (32 : Int) - (kk : Int) = (p : Int) := by omega
                    have b1 : (kk : Int) ≤ 32 := by omega
                    have b2 : (x : Int) < (N : Int) := by omega
                    have b3 : (p : Int) < 32 := by omega
                    have HX := Lib.hid (show x < (inner B i q).length by rw [inner_len, HBL.out]; omega)
                    obtain ⟨a, ha⟩ : ∃ a, (inner B i q).getD x false = a := ⟨_, rfl⟩
                    obtain ⟨d, hd⟩ : ∃ d, pw p = d := ⟨_, rfl⟩
                    have HP := Lib.hid (show p < 32 by omega)
                    have HA := Lib.hid ha
                    have HD := Lib.hid hd
                    have HN3 := Lib.hid (show inner B i (q + 1) = (inner B i q).set x (a ^^ d) by
                      show (inner B i q).set (i + (q + 1)) ((inner B i q).getD (i + (q + 1)) false ^^ pw (31 - q)) = _
                      rw [hx, hp, ha, hd])
                    have HQ := Lib.hid e1
                    have h1 : (bitN a : Int) ≤ 1 := by cases a <;> decide
                    have h2 : (bitN d : Int) ≤ 1 := by cases d <;> decide
                    have h3 : ((bitN a : Int) + (bitN d : Int)).tmod 2 = (bitN (a ^^ d) : Int) := by cases a <;> cases d <;> rfl
                    obtain ⟨va, hva⟩ : ∃ v, bitN a = v := ⟨_, rfl⟩
                    obtain ⟨vd, hvd⟩ : ∃ v, bitN d = v := ⟨_, rfl⟩
                    obtain ⟨vx, hvx⟩ : ∃ v, bitN (a ^^ d) = v := ⟨_, rfl⟩
                    rw [hva] at h1 h3
                    rw [hvd] at h2 h3
                    rw [hvx] at h3
                    have HVA := Lib.hid hva
                    have HVD := Lib.hid hvd
                    have HVX := Lib.hid (show ((bitN (a ^^ d) : Nat) : Int) = (vx : Int) by rw [hvx])
                    have w1 : IntKind.i64.wrap (x : Int) = (x : Int) := IntWalk.i64_in _ (by omega)
                    have w2 : IntKind.i64.wrap (p : Int) = (p : Int) := IntWalk.i64_in _ (by omega)
                    have w3 : IntKind.i64.wrap ((va : Int) + (vd : Int)) = (va : Int) + (vd : Int) := IntWalk.i64_in _ (by omega)
                    have h4 : ((bitN (a ^^ d) : Nat) : Int) ≤ 1 := by cases a <;> cases d <;> decide
                    rw [HVX.out] at h4
                    have w4 : IntKind.i64.wrap (vx : Int) = (vx : Int) := IntWalk.i64_in _ (by omega)
                    clear hp hx hkk ha hd hva hvd hvx
                    go_upto_region 18 with (fail)
                    have hs := H.out.drew
                    refine wp_region_held_drew (S := fun _ => True) (by kernel_rfl) trivial (fun hHeld => ?_)
                    refine wpAnyH_take (i := 0) (oi := { dst := some 54, op := Op.move (Operand.tmp 4), type := 55, pos := "ref.go:37", after := #[], guard := none }) (v := ?_) rfl (by kernel_rfl) (by kernel_rfl) (by kernel_rfl) (fun _ _ _ h => h) (Or.inl ⟨by rfl, ?_⟩) (by assumption) ?_
                    rotate_left
                    · intro w hSw; (try dsimp only at hSw); go_simp; try with_reducible rfl
                    simp only [Act.put, List.setIfInBounds_toArray, List.set_cons_zero, List.set_cons_succ]
                    refine wpAnyH_take (i := 1) (oi := { dst := some 55, op := Op.move (Operand.tmp 7), type := 3, pos := "ref.go:37", after := #[], guard := none }) (v := ?_) rfl (by kernel_rfl) (by kernel_rfl) (by kernel_rfl) (fun _ _ _ h => h) (Or.inl ⟨by rfl, ?_⟩) (by assumption) ?_
                    rotate_left
                    · intro w hSw; (try dsimp only at hSw); go_simp; try with_reducible rfl
                    simp only [Act.put, List.setIfInBounds_toArray, List.set_cons_zero, List.set_cons_succ]
                    refine wpAnyH_take (i := 2) (oi := { dst := some 56, op := Op.move (Operand.tmp 8), type := 3, pos := "ref.go:37", after := #[], guard := none }) (v := ?_) rfl (by kernel_rfl) (by kernel_rfl) (by kernel_rfl) (fun _ _ _ h => h) (Or.inl ⟨by rfl, ?_⟩) (by assumption) ?_
                    rotate_left
                    · intro w hSw; (try dsimp only at hSw); go_simp; try with_reducible rfl
                    simp only [Act.put, List.setIfInBounds_toArray, List.set_cons_zero, List.set_cons_succ]
                    refine wpAnyH_take (i := 3) (oi := { dst := some 57, op := Op.binOp BinOp.add 3 (Operand.tmp 55) (Operand.tmp 56) 3, type := 3, pos := "ref.go:37", after := #[{ on := 1, ground := Ground.data }, { on := 2, ground := Ground.data }], guard := none }) (v := ?_) rfl (by kernel_rfl) (by kernel_rfl) (by kernel_rfl) (fun _ _ _ h => h) (Or.inl ⟨by rfl, ?_⟩) (by assumption) ?_
                    rotate_left
                    · intro w hSw; (try dsimp only at hSw); go_simp; try with_reducible rfl
                    simp only [Act.put, List.setIfInBounds_toArray, List.set_cons_zero, List.set_cons_succ]
                    refine wpAnyH_take (i := 4) (oi := { dst := some 58, op := Op.move (Operand.tmp 4), type := 55, pos := "ref.go:37", after := #[], guard := none }) (v := ?_) rfl (by kernel_rfl) (by kernel_rfl) (by kernel_rfl) (fun _ _ _ h => h) (Or.inl ⟨by rfl, ?_⟩) (by assumption) ?_
                    rotate_left
                    · intro w hSw; (try dsimp only at hSw); go_simp; try with_reducible rfl
                    simp only [Act.put, List.setIfInBounds_toArray, List.set_cons_zero, List.set_cons_succ]
                    refine wpAnyH_take (i := 5) (oi := { dst := some 59, op := Op.move (Operand.tmp 7), type := 3, pos := "ref.go:37", after := #[], guard := none }) (v := ?_) rfl (by kernel_rfl) (by kernel_rfl) (by kernel_rfl) (fun _ _ _ h => h) (Or.inl ⟨by rfl, ?_⟩) (by assumption) ?_
                    rotate_left
                    · intro w hSw; (try dsimp only at hSw); go_simp; try with_reducible rfl
                    simp only [Act.put, List.setIfInBounds_toArray, List.set_cons_zero, List.set_cons_succ]
                    refine wpAnyH_take (i := 6) (oi := { dst := some 60, op := Op.move (Operand.tmp 8), type := 3, pos := "ref.go:37", after := #[], guard := none }) (v := ?_) rfl (by kernel_rfl) (by kernel_rfl) (by kernel_rfl) (fun _ _ _ h => h) (Or.inl ⟨by rfl, ?_⟩) (by assumption) ?_
                    rotate_left
                    · intro w hSw; (try dsimp only at hSw); go_simp; try with_reducible rfl
                    simp only [Act.put, List.setIfInBounds_toArray, List.set_cons_zero, List.set_cons_succ]
                    refine wpAnyH_take (i := 7) (oi := { dst := some 61, op := Op.binOp BinOp.add 3 (Operand.tmp 59) (Operand.tmp 60) 3, type := 3, pos := "ref.go:37", after := #[{ on := 5, ground := Ground.data }, { on := 6, ground := Ground.data }], guard := none }) (v := ?_) rfl (by kernel_rfl) (by kernel_rfl) (by kernel_rfl) (fun _ _ _ h => h) (Or.inl ⟨by rfl, ?_⟩) (by assumption) ?_
                    rotate_left
                    · intro w hSw; (try dsimp only at hSw); go_simp; try with_reducible rfl
                    simp only [Act.put, List.setIfInBounds_toArray, List.set_cons_zero, List.set_cons_succ]
                    refine wpAnyH_take (i := 8) (oi := { dst := some 62, op := Op.indexAddr 55 (Operand.tmp 58) (Operand.tmp 61), type := 0, pos := "ref.go:37", after := #[{ on := 4, ground := Ground.data }, { on := 7, ground := Ground.data }], guard := none }) (v := ?_) rfl (by kernel_rfl) (by kernel_rfl) (by kernel_rfl) (fun _ _ _ h => h) (Or.inl ⟨by rfl, ?_⟩) (by assumption) ?_
                    rotate_left
                    · intro w hSw; (try dsimp only at hSw); go_simp; try with_reducible rfl
                    simp only [Act.put, List.setIfInBounds_toArray, List.set_cons_zero, List.set_cons_succ]
                    refine wpAnyH_take (i := 10) (oi := { dst := some 64, op := Op.move (Operand.tmp 8), type := 3, pos := "ref.go:37", after := #[], guard := none }) (v := ?_) rfl (by kernel_rfl) (by kernel_rfl) (by kernel_rfl) (fun _ _ _ h => h) (Or.inl ⟨by rfl, ?_⟩) (by assumption) ?_
                    rotate_left
                    · intro w hSw; (try dsimp only at hSw); go_simp; try with_reducible rfl
                    simp only [Act.put, List.setIfInBounds_toArray, List.set_cons_zero, List.set_cons_succ]
                    refine wpAnyH_take (i := 11) (oi := { dst := some 65, op := Op.binOp BinOp.sub 3 (Operand.const (Value.int IntKind.i64 32)) (Operand.tmp 64) 3, type := 3, pos := "ref.go:37", after := #[{ on := 10, ground := Ground.data }], guard := none }) (v := ?_) rfl (by kernel_rfl) (by kernel_rfl) (by kernel_rfl) (fun _ _ _ h => h) (Or.inl ⟨by rfl, ?_⟩) (by assumption) ?_
                    rotate_left
                    · intro w hSw; (try dsimp only at hSw); go_simp; try with_reducible rfl
                    simp only [Act.put, List.setIfInBounds_toArray, List.set_cons_zero, List.set_cons_succ]
                    refine wpAnyH_ready (rs := [9, 12]) (by kernel_rfl) (by simp) (AllReadyH.cons (o := { dst := some 63, op := Op.load 3 (Operand.tmp 62), type := 3, pos := "ref.go:37", after := #[{ on := 8, ground := Ground.data }], guard := none }) rfl (fun KK hK => ?_) (AllReadyH.cons (o := { dst := some 66, op := Op.call { callee := Callee.value (Operand.func 36), args := #[Operand.tmp 65], argTypes := #[3] }, type := 3, pos := "ref.go:37", after := #[{ on := 11, ground := Ground.data }], guard := none }) rfl (fun KK hK => ?_) AllReadyH.nil))
                    · have c0 := hs.bitCell x HX.out a HA.out
                      rw [HVA.out] at c0
                      go_simp
                      refine hK.out _ _ (trivial) (fun hHeld => ?_)
                      clear hK KK
                      try simp only [Act.put, List.setIfInBounds_toArray, List.set_cons_zero, List.set_cons_succ]
                      refine wpAnyH_ready (rs := [12]) (by kernel_rfl) (by simp) (AllReadyH.cons (o := { dst := some 66, op := Op.call { callee := Callee.value (Operand.func 36), args := #[Operand.tmp 65], argTypes := #[3] }, type := 3, pos := "ref.go:37", after := #[{ on := 11, ground := Ground.data }], guard := none }) rfl (fun KK hK => ?_) AllReadyH.nil)
                      · go_simp
                        go_at_call 36
                        with_reducible refine (ref05_powerQ p HP.out d HD.out hs).mono ?_
                        rw [HVD.out]
                        rintro e wq ⟨rfl, hs⟩
                        refine hK.out _ _ (trivial) (fun hHeld => ?_)
                        clear hK KK
                        try simp only [Act.put, List.setIfInBounds_toArray, List.set_cons_zero, List.set_cons_succ]
                        refine wpAnyH_take (i := 13) (oi := { dst := some 67, op := Op.binOp BinOp.add 3 (Operand.tmp 63) (Operand.tmp 66) 3, type := 3, pos := "ref.go:37", after := #[{ on := 9, ground := Ground.data }, { on := 12, ground := Ground.data }], guard := none }) (v := ?_) rfl (by kernel_rfl) (by kernel_rfl) (by kernel_rfl) (fun _ _ _ h => h) (Or.inl ⟨by rfl, ?_⟩) (by assumption) ?_
                        rotate_left
                        · intro w hSw; (try dsimp only at hSw); go_simp; try with_reducible rfl
                        simp only [Act.put, List.setIfInBounds_toArray, List.set_cons_zero, List.set_cons_succ]
                        refine wpAnyH_take (i := 14) (oi := { dst := some 68, op := Op.binOp BinOp.rem 3 (Operand.tmp 67) (Operand.const (Value.int IntKind.i64 2)) 3, type := 3, pos := "ref.go:37", after := #[{ on := 13, ground := Ground.data }], guard := none }) (v := ?_) rfl (by kernel_rfl) (by kernel_rfl) (by kernel_rfl) (fun _ _ _ h => h) (Or.inl ⟨by rfl, ?_⟩) (by assumption) ?_
                        rotate_left
                        · intro w hSw; (try dsimp only at hSw); go_simp; try with_reducible rfl
                        simp only [Act.put, List.setIfInBounds_toArray, List.set_cons_zero, List.set_cons_succ]
                        refine wpAnyH_take (i := 15) (oi := { dst := some 69, op := Op.indexAddr 55 (Operand.tmp 54) (Operand.tmp 57), type := 0, pos := "ref.go:37", after := #[{ on := 0, ground := Ground.data }, { on := 3, ground := Ground.data }, { on := 0, ground := Ground.phase }, { on := 1, ground := Ground.phase }, { on := 2, ground := Ground.phase }, { on := 3, ground := Ground.phase }, { on := 4, ground := Ground.phase }, { on := 5, ground := Ground.phase }, { on := 6, ground := Ground.phase }, { on := 7, ground := Ground.phase }, { on := 8, ground := Ground.phase }, { on := 9, ground := Ground.phase }, { on := 10, ground := Ground.phase }, { on := 11, ground := Ground.phase }, { on := 12, ground := Ground.phase }, { on := 13, ground := Ground.phase }, { on := 14, ground := Ground.phase }], guard := none }) (v := ?_) rfl (by kernel_rfl) (by kernel_rfl) (by kernel_rfl) (fun _ _ _ h => h) (Or.inl ⟨by rfl, ?_⟩) (by assumption) ?_
                        rotate_left
                        · intro w hSw; (try dsimp only at hSw); go_simp; try with_reducible rfl
                        simp only [Act.put, List.setIfInBounds_toArray, List.set_cons_zero, List.set_cons_succ]
                        refine wpAnyH_ready (rs := [16]) (by kernel_rfl) (by simp) (AllReadyH.cons (o := { dst := none, op := Op.store 3 (Operand.tmp 69) (Operand.tmp 68), type := 0, pos := "ref.go:37", after := #[{ on := 15, ground := Ground.data }, { on := 14, ground := Ground.data }, { on := 12, ground := Ground.chain }, { on := 0, ground := Ground.phase }, { on := 1, ground := Ground.phase }, { on := 2, ground := Ground.phase }, { on := 3, ground := Ground.phase }, { on := 4, ground := Ground.phase }, { on := 5, ground := Ground.phase }, { on := 6, ground := Ground.phase }, { on := 7, ground := Ground.phase }, { on := 8, ground := Ground.phase }, { on := 9, ground := Ground.phase }, { on := 10, ground := Ground.phase }, { on := 11, ground := Ground.phase }, { on := 12, ground := Ground.phase }, { on := 13, ground := Ground.phase }, { on := 14, ground := Ground.phase }], guard := none }) rfl (fun KK hK => ?_) AllReadyH.nil)
                        · have f0 := hs.rawFree x
                          have c0 := hs.bitCell x HX.out a HA.out
                          go_simp
                          refine hK.out _ _ (trivial) (fun hHeld => ?_)
                          clear hK KK
                          try simp only [Act.put, List.setIfInBounds_toArray, List.set_cons_zero, List.set_cons_succ]
                          have hs := hs.bitSet x (a ^^ d) (vx : Int) HVX.out
                          refine wpAnyH_done (by kernel_rfl) ?_ _
                          rw [← HN3.out] at hs
                          go_wp2_with fail
                          go_roundw
                          case rel =>
                            clear hHeld c0 f0
                            exact ⟨_, _, _, _, _, _, _, _, _, _, _, _, _, _, _, _, _, _, _, _, _, ⟨q + 1, hlt2, by rw [← HQ.out]; go_num, hs⟩, rfl⟩
                          case measure => first | (simp [intOf]; done) | (simp [intOf]; omega)
                    · go_simp
                      go_at_call 36
                      with_reducible refine (ref05_powerQ p HP.out d HD.out hs).mono ?_
                      rw [HVD.out]
                      rintro e wq ⟨rfl, hs⟩
                      refine hK.out _ _ (trivial) (fun hHeld => ?_)
                      clear hK KK
                      try simp only [Act.put, List.setIfInBounds_toArray, List.set_cons_zero, List.set_cons_succ]
                      refine wpAnyH_ready (rs := [9]) (by kernel_rfl) (by simp) (AllReadyH.cons (o := { dst := some 63, op := Op.load 3 (Operand.tmp 62), type := 3, pos := "ref.go:37", after := #[{ on := 8, ground := Ground.data }], guard := none }) rfl (fun KK hK => ?_) AllReadyH.nil)
                      · have c0 := hs.bitCell x HX.out a HA.out
                        rw [HVA.out] at c0
                        go_simp
                        refine hK.out _ _ (trivial) (fun hHeld => ?_)
                        clear hK KK
                        try simp only [Act.put, List.setIfInBounds_toArray, List.set_cons_zero, List.set_cons_succ]
                        refine wpAnyH_take (i := 13) (oi := { dst := some 67, op := Op.binOp BinOp.add 3 (Operand.tmp 63) (Operand.tmp 66) 3, type := 3, pos := "ref.go:37", after := #[{ on := 9, ground := Ground.data }, { on := 12, ground := Ground.data }], guard := none }) (v := ?_) rfl (by kernel_rfl) (by kernel_rfl) (by kernel_rfl) (fun _ _ _ h => h) (Or.inl ⟨by rfl, ?_⟩) (by assumption) ?_
                        rotate_left
                        · intro w hSw; (try dsimp only at hSw); go_simp; try with_reducible rfl
                        simp only [Act.put, List.setIfInBounds_toArray, List.set_cons_zero, List.set_cons_succ]
                        refine wpAnyH_take (i := 14) (oi := { dst := some 68, op := Op.binOp BinOp.rem 3 (Operand.tmp 67) (Operand.const (Value.int IntKind.i64 2)) 3, type := 3, pos := "ref.go:37", after := #[{ on := 13, ground := Ground.data }], guard := none }) (v := ?_) rfl (by kernel_rfl) (by kernel_rfl) (by kernel_rfl) (fun _ _ _ h => h) (Or.inl ⟨by rfl, ?_⟩) (by assumption) ?_
                        rotate_left
                        · intro w hSw; (try dsimp only at hSw); go_simp; try with_reducible rfl
                        simp only [Act.put, List.setIfInBounds_toArray, List.set_cons_zero, List.set_cons_succ]
                        refine wpAnyH_take (i := 15) (oi := { dst := some 69, op := Op.indexAddr 55 (Operand.tmp 54) (Operand.tmp 57), type := 0, pos := "ref.go:37", after := #[{ on := 0, ground := Ground.data }, { on := 3, ground := Ground.data }, { on := 0, ground := Ground.phase }, { on := 1, ground := Ground.phase }, { on := 2, ground := Ground.phase }, { on := 3, ground := Ground.phase }, { on := 4, ground := Ground.phase }, { on := 5, ground := Ground.phase }, { on := 6, ground := Ground.phase }, { on := 7, ground := Ground.phase }, { on := 8, ground := Ground.phase }, { on := 9, ground := Ground.phase }, { on := 10, ground := Ground.phase }, { on := 11, ground := Ground.phase }, { on := 12, ground := Ground.phase }, { on := 13, ground := Ground.phase }, { on := 14, ground := Ground.phase }], guard := none }) (v := ?_) rfl (by kernel_rfl) (by kernel_rfl) (by kernel_rfl) (fun _ _ _ h => h) (Or.inl ⟨by rfl, ?_⟩) (by assumption) ?_
                        rotate_left
                        · intro w hSw; (try dsimp only at hSw); go_simp; try with_reducible rfl
                        simp only [Act.put, List.setIfInBounds_toArray, List.set_cons_zero, List.set_cons_succ]
                        refine wpAnyH_ready (rs := [16]) (by kernel_rfl) (by simp) (AllReadyH.cons (o := { dst := none, op := Op.store 3 (Operand.tmp 69) (Operand.tmp 68), type := 0, pos := "ref.go:37", after := #[{ on := 15, ground := Ground.data }, { on := 14, ground := Ground.data }, { on := 12, ground := Ground.chain }, { on := 0, ground := Ground.phase }, { on := 1, ground := Ground.phase }, { on := 2, ground := Ground.phase }, { on := 3, ground := Ground.phase }, { on := 4, ground := Ground.phase }, { on := 5, ground := Ground.phase }, { on := 6, ground := Ground.phase }, { on := 7, ground := Ground.phase }, { on := 8, ground := Ground.phase }, { on := 9, ground := Ground.phase }, { on := 10, ground := Ground.phase }, { on := 11, ground := Ground.phase }, { on := 12, ground := Ground.phase }, { on := 13, ground := Ground.phase }, { on := 14, ground := Ground.phase }], guard := none }) rfl (fun KK hK => ?_) AllReadyH.nil)
                        · have f0 := hs.rawFree x
                          have c0 := hs.bitCell x HX.out a HA.out
                          go_simp
                          refine hK.out _ _ (trivial) (fun hHeld => ?_)
                          clear hK KK
                          try simp only [Act.put, List.setIfInBounds_toArray, List.set_cons_zero, List.set_cons_succ]
                          have hs := hs.bitSet x (a ^^ d) (vx : Int) HVX.out
                          refine wpAnyH_done (by kernel_rfl) ?_ _
                          rw [← HN3.out] at hs
                          go_wp2_with fail
                          go_roundw
                          case rel =>
                            clear hHeld c0 f0
                            exact ⟨_, _, _, _, _, _, _, _, _, _, _, _, _, _, _, _, _, _, _, _, _, ⟨q + 1, hlt2, by rw [← HQ.out]; go_num, hs⟩, rfl⟩
                          case measure => first | (simp [intOf]; done) | (simp [intOf]; omega)
                  · obtain rfl : q = 32 := by omega
                    have h := H.out
                    rw [← HE.out] at h
                    clear H
                    have H := Lib.hid h
                    clear h
                    go_wp2
                    go_roundw
                    case rel => exact ⟨i + 1, hlt, by go_num, H.out⟩
                    case measure => first | (simp [intOf]; done) | (simp [intOf]; omega)
            · obtain rfl : n = i := by omega
              have HF := Lib.hid (show readOut (fun j => !(outer M n).getD (n + j) false) 32 = (crcMore 0#32 s).toNat by
                have := divided_sum s
                unfold divided at this
                rw [HN.out, HM.out] at this
                exact this)
              obtain ⟨D, hD⟩ : ∃ D, outer M n = D := ⟨_, rfl⟩
              have h := H.out
              rw [hD] at HF h
              have HDL := Lib.hid (show D.length = N by rw [← hD, outer_len]; exact HML.out)
              clear H hD
              have H := Lib.hid h
              clear h hlt
              go_wp2
              go_loopw [10, 9] (fun iv ov wr => ∃ j : Nat, j ≤ 32 ∧ iv = .int .i64 ((j : Int) - 1) ∧ ov = .int .u32 (readOut (fun j => !D.getD (n + j) false) (32 - j) : Nat) ∧ St W0 wr K (.raw bL (cellsB (D)) 3 :: L)) (fun iv _ _ => (intOf iv + 1).toNat)
              case atStart => exact ⟨32, Nat.le_refl _, rfl, rfl, H.out⟩
              case round =>
                obtain ⟨j, hj, rfl, rfl, hst⟩ := hrel
                clear H
                have H := Lib.hid hst
                clear hst
                match j with
                | 0 =>
                  rw [show (((0 : Nat) : Int) - 1) = -1 from rfl, show 32 - 0 = 32 from rfl, HF.out]
                  go_wp2
                  go_ret
                  exact ⟨rfl, H.out.drop⟩
                | j + 1 =>
                  rw [show (((j + 1 : Nat) : Int) - 1) = (j : Int) by omega]
                  obtain ⟨x, hx⟩ : ∃ x, n + j = x := ⟨_, rfl⟩
                  have e2 : (n : Int) + (j : Int) = (x : Int) := by omega
                  have b2 : (x : Int) < (N : Int) := by omega
                  have b1 : (j : Int) < 32 := by omega
                  obtain ⟨c, hc⟩ : ∃ c, D.getD x false = c := ⟨_, rfl⟩
                  have c0 := H.out.bitCell x (by rw [HDL.out]; have := HN2.out; omega) c hc
                  obtain ⟨R, hR⟩ : ∃ R, readOut (fun j => !D.getD (n + j) false) (32 - (j + 1)) = R := ⟨_, rfl⟩
                  have HR := Lib.hid (show readOut (fun j => !D.getD (n + j) false) (32 - j) = R * 2 + (if c then 0 else 1) by
                    rw [show 32 - j = 32 - (j + 1) + 1 by omega]
                    show readOut _ _ * 2 + (if !D.getD (n + (31 - (32 - (j + 1)))) false then 1 else 0) = _
                    rw [hR, show 31 - (32 - (j + 1)) = j by omega, hx, hc]
                    cases c <;> rfl)
                  have hb : R < 2147483648 := by
                    have h1 := readOut_lt (fun j => !D.getD (n + j) false) (32 - (j + 1))
                    rw [hR] at h1
                    have h2 : 2 ^ (32 - (j + 1)) ≤ 2 ^ 31 := Nat.pow_le_pow_right (by decide) (by omega)
                    omega
                  rw [hR]
                  clear hx hc hR
                  cases c
                  all_goals
                    simp only [bitN, Bool.false_eq_true, if_false, if_true] at c0 HR
                    go_wp2
                    go_roundw
                    case rel => exact ⟨j, by omega, rfl, by rw [HR.out]; go_num, H.out⟩
                    case measure => first | (simp [intOf]; done) | (simp [intOf]; omega)

end Go.Proofs.Ytedbadkfbkecbaa
