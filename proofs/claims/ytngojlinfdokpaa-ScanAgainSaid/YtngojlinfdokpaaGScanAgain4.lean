/- A text. -/
import Derived.Test.YtngojlinfdokpaaGScanAgain3
import Derived.Deep.RegionHeld3
import Derived.Deep.DeepCutAuto
import Derived.Test.YtngojlinfdokpaaBase
import Derived.Test.YtngojlinfdokpaaS1
import Derived.Test.YtngojlinfdokpaaGScanAgain1
import Derived.Test.YtngojlinfdokpaaRef06b
import Derived.Test.YtngojlinfdokpaaGScanAgain2
/- A text. -/
namespace Go.Proofs.Ytngojlinfdokpaa
open Go.RowKit

theorem crc_two (a c : Bs) : (crcParts 0#32 [a, c]).toNat = (crcMore 0#32 (a ++ c)).toNat := by
 rw [crcParts_flat]
 simp
theorem crc_sum2 (b r : Nat) (a c : Bs) (x : Nat) (hx : (crcParts 0#32 [a, c]).toNat = x) (hs : ∀ s ∈ [a, c], s.length ≤ 140737488355328) (hl : [a, c].length ≤ 9223372036854775807) {W0 w : World} {K : Know} {L : List Res} (h : St W0 w K (.raw r #[.string (bb a), .string (bb c)] 9 :: .raw b (tabC 256) 110 :: L)) :
 Calls Try.prog 43 #[tabPtr b, .slice (some ⟨r, 0, none⟩) 2 2] w fun en w' => en = .returned (.int .u32 x) ∧ St W0 w' K (.raw b (tabC 256) 110 :: L) := crc_sumR b r 2 [a, c] x rfl hx hs hl h
set_option maxHeartbeats 1000000 in
set_option maxRecDepth 100000 in
theorem bat_sum (said rows : Bs) (x : Nat) (hx : (crcMore 0#32 (said.drop 21 ++ rows)).toNat = x) (hl : 21 ≤ said.length) (hl2 : said.length ≤ 140737488355328) (hr : rows.length ≤ 140737488355328) {W0 w : World} {K : Know} {L : List Res} (h : St W0 w K L) :
   Calls Try.prog 31 #[.string (bb said), .string (bb rows)] w fun en w' => en = .returned (.int .i64 x) ∧ St W0 w' K L := by
 have H := Lib.hid h
 have HX := Lib.hid (show (crcParts 0#32 [said.drop 21, rows]).toNat = x by rw [crc_two]; exact hx)
 have HSS := Lib.hid (show ∀ s ∈ [said.drop 21, rows], s.length ≤ 140737488355328 by
   intro s hs
   simp only [List.mem_cons, List.not_mem_nil, or_false] at hs
   rcases hs with rfl | rfl
   · rw [List.length_drop]; omega
   · exact hr)
 have HLS := Lib.hid (show [said.drop 21, rows].length ≤ 9223372036854775807 by simp)
 have HT := Lib.hid (show List.take (said.length - 21) (List.drop 21 said) = said.drop 21 from List.take_of_length_le (by rw [List.length_drop]; omega))
 have hx32 : x < 4294967296 := by rw [← hx]; exact (crcMore 0#32 (said.drop 21 ++ rows)).isLt
 have l21 : (21 : Int) ≤ (said.length : Int) := by omega
 have w1 : IntKind.i64.wrap (x : Int) = (x : Int) := IntWalk.i64_in _ (by omega)
 have w2 : wrap64 (x : Int) = (x : Int) := by unfold wrap64; omega
 clear h hx hl hl2 hr hx32
 go_enter Try.func31, Try.ntmps31
 go_upto_region 1 with (fail)
 have hs := H.out.drew
 refine wp_region_held_drew (S := fun _ => True) (by kernel_rfl) trivial (fun hHeld => ?_)
 clear H
 generalize w.drew = wd at hs ⊢
 refine wpAnyH_take (i := 1) (oi := ⟨some 6, .move (.tmp 0), 9, "batch.go:63", #[], none⟩) (v := ?_) rfl (by kernel_rfl) (by kernel_rfl) (by kernel_rfl) (fun _ _ _ h => h) (Or.inl ⟨by rfl, ?_⟩) (by assumption) ?_
 rotate_left
 · intro w hSw; (try dsimp only at hSw); go_simp; try with_reducible rfl
 simp only [Act.put, sA, sB, sC]
 refine wpAnyH_take (i := 2) (oi := ⟨some 7, .slice 9 (.tmp 6) (some (.const (Value.int IntKind.i64 21))) none none, 9, "batch.go:63", #[.mk 1 .data], none⟩) (v := ?_) rfl (by kernel_rfl) (by kernel_rfl) (by kernel_rfl) (fun _ _ _ h => h) (Or.inl ⟨by rfl, ?_⟩) (by assumption) ?_
 rotate_left
 · intro w hSw; (try dsimp only at hSw); go_simp; try with_reducible rfl
 simp only [Act.put, sA, sB, sC]
 refine wpAnyH_take (i := 3) (oi := ⟨some 8, .move (.tmp 1), 9, "batch.go:63", #[], none⟩) (v := ?_) rfl (by kernel_rfl) (by kernel_rfl) (by kernel_rfl) (fun _ _ _ h => h) (Or.inl ⟨by rfl, ?_⟩) (by assumption) ?_
 rotate_left
 · intro w hSw; (try dsimp only at hSw); go_simp; try with_reducible rfl
 simp only [Act.put, sA, sB, sC]
 refine wpAnyH_ready (rs := [0, 4]) (by kernel_rfl) (by simp) (AllReadyH.cons (o := ⟨some 5, .call { callee := .value (.func 42), args := #[], argTypes := #[] }, 92, "batch.go:63", #[], none⟩) rfl (fun KK hK => ?_) (AllReadyH.cons (o := ⟨some 9, .buildSlice 42 2 #[(0, .tmp 7), (1, .tmp 8)], 42, "batch.go:63", #[.mk 2 .data, .mk 3 .data], none⟩) rfl (fun KK hK => ?_) AllReadyH.nil))
 · go_simp
   go_at_call 42
   with_reducible refine (crc_new hs).mono ?_
   rintro e wq ⟨bt, rfl, hs⟩
   refine hK.out _ _ (trivial) (fun hHeld => ?_)
   clear hK KK
   try simp only [Act.put, sA, sB, sC]
   refine wpAnyH_ready (rs := [4]) (by kernel_rfl) (by simp) (AllReadyH.cons (o := ⟨some 9, .buildSlice 42 2 #[(0, .tmp 7), (1, .tmp 8)], 42, "batch.go:63", #[.mk 2 .data, .mk 3 .data], none⟩) rfl (fun KK hK => ?_) AllReadyH.nil)
   · obtain ⟨wy, bS, ey, eb, hs⟩ := hs.allocEx #[.string (bb (said.drop 21)), .string (bb rows)] 9
     go_simp
     try rw [HT.out]
     try rw [ey]
     try rw [eb]
     clear ey eb
     refine hK.out _ _ (trivial) (fun hHeld => ?_)
     clear hK KK
     try simp only [Act.put, sA, sB, sC]
     refine wpAnyH_ready (rs := [5]) (by kernel_rfl) (by simp) (AllReadyH.cons (o := ⟨some 10, .call { callee := .value (.func 43), args := #[.tmp 5, .tmp 9], argTypes := #[92, 42] }, 91, "batch.go:63", #[.mk 0 .data, .mk 4 .data, .mk 0 .chain], none⟩) rfl (fun KK hK => ?_) AllReadyH.nil)
     · go_simp
       go_at_call 43
       with_reducible refine (crc_sum2 bt bS (said.drop 21) rows x HX.out HSS.out HLS.out (hs)).mono ?_
       rintro e wq ⟨rfl, hs⟩
       refine hK.out _ _ (trivial) (fun hHeld => ?_)
       clear hK KK
       try simp only [Act.put, sA, sB, sC]
       refine wpAnyH_take (i := 6) (oi := ⟨some 11, .convert 91 3 (.tmp 10), 3, "batch.go:63", #[.mk 5 .data], none⟩) (v := ?_) rfl (by kernel_rfl) (by kernel_rfl) (by kernel_rfl) (fun _ _ _ h => h) (Or.inl ⟨by rfl, ?_⟩) (by assumption) ?_
       rotate_left
       · intro w hSw; (try dsimp only at hSw); go_simp; try with_reducible rfl
       simp only [Act.put, sA, sB, sC]
       refine wpAnyH_take (i := 7) (oi := ⟨some 4, .assign (.tmp 11), 3, "batch.go:63", #[.mk 6 .data, .mk 5 .chain, .mk 0 .phase, .mk 1 .phase, .mk 2 .phase, .mk 3 .phase, .mk 4 .phase, .mk 5 .phase, .mk 6 .phase], none⟩) (v := ?_) rfl (by kernel_rfl) (by kernel_rfl) (by kernel_rfl) (fun _ _ _ h => h) (Or.inl ⟨by rfl, ?_⟩) (by assumption) ?_
       rotate_left
       · intro w hSw; (try dsimp only at hSw); go_simp; try with_reducible rfl
       simp only [Act.put, sA, sB, sC]
       refine wpAnyH_done (by kernel_rfl) ?_ _
       clear hHeld
       go_wp2_with fail
       go_ret
       exact ⟨rfl, hs.drop⟩
 · obtain ⟨wy, bS, ey, eb, hs⟩ := hs.allocEx #[.string (bb (said.drop 21)), .string (bb rows)] 9
   go_simp
   try rw [HT.out]
   try rw [ey]
   try rw [eb]
   clear ey eb
   refine hK.out _ _ (trivial) (fun hHeld => ?_)
   clear hK KK
   try simp only [Act.put, sA, sB, sC]
   refine wpAnyH_ready (rs := [0]) (by kernel_rfl) (by simp) (AllReadyH.cons (o := ⟨some 5, .call { callee := .value (.func 42), args := #[], argTypes := #[] }, 92, "batch.go:63", #[], none⟩) rfl (fun KK hK => ?_) AllReadyH.nil)
   · go_simp
     go_at_call 42
     with_reducible refine (crc_new hs).mono ?_
     rintro e wq ⟨bt, rfl, hs⟩
     refine hK.out _ _ (trivial) (fun hHeld => ?_)
     clear hK KK
     try simp only [Act.put, sA, sB, sC]
     refine wpAnyH_ready (rs := [5]) (by kernel_rfl) (by simp) (AllReadyH.cons (o := ⟨some 10, .call { callee := .value (.func 43), args := #[.tmp 5, .tmp 9], argTypes := #[92, 42] }, 91, "batch.go:63", #[.mk 0 .data, .mk 4 .data, .mk 0 .chain], none⟩) rfl (fun KK hK => ?_) AllReadyH.nil)
     · go_simp
       go_at_call 43
       with_reducible refine (crc_sum2 bt bS (said.drop 21) rows x HX.out HSS.out HLS.out (hs.p1)).mono ?_
       rintro e wq ⟨rfl, hs⟩
       refine hK.out _ _ (trivial) (fun hHeld => ?_)
       clear hK KK
       try simp only [Act.put, sA, sB, sC]
       refine wpAnyH_take (i := 6) (oi := ⟨some 11, .convert 91 3 (.tmp 10), 3, "batch.go:63", #[.mk 5 .data], none⟩) (v := ?_) rfl (by kernel_rfl) (by kernel_rfl) (by kernel_rfl) (fun _ _ _ h => h) (Or.inl ⟨by rfl, ?_⟩) (by assumption) ?_
       rotate_left
       · intro w hSw; (try dsimp only at hSw); go_simp; try with_reducible rfl
       simp only [Act.put, sA, sB, sC]
       refine wpAnyH_take (i := 7) (oi := ⟨some 4, .assign (.tmp 11), 3, "batch.go:63", #[.mk 6 .data, .mk 5 .chain, .mk 0 .phase, .mk 1 .phase, .mk 2 .phase, .mk 3 .phase, .mk 4 .phase, .mk 5 .phase, .mk 6 .phase], none⟩) (v := ?_) rfl (by kernel_rfl) (by kernel_rfl) (by kernel_rfl) (fun _ _ _ h => h) (Or.inl ⟨by rfl, ?_⟩) (by assumption) ?_
       rotate_left
       · intro w hSw; (try dsimp only at hSw); go_simp; try with_reducible rfl
       simp only [Act.put, sA, sB, sC]
       refine wpAnyH_done (by kernel_rfl) ?_ _
       clear hHeld
       go_wp2_with fail
       go_ret
       exact ⟨rfl, hs.drop⟩

end Go.Proofs.Ytngojlinfdokpaa

/- A text. -/
namespace Go.Proofs.Ytngojlinfdokpaa
open Go.RowKit

def bitAt (n : Int) (i : Nat) : Bool := decide (n / 2 ^ i % 2 = 1)
def R64 (n : Int) : Prop := -9223372036854775808 ≤ n ∧ n < 9223372036854775808
theorem wrap_nat0 (k : Nat) (h : k < 18446744073709551616) : IntKind.i64.wrap (k : Int) = 0 ↔ k = 0 := by
 rw [IntKind.wrap_i64]; omega
theorem ofInt64_toNat (n : Int) : ((BitVec.ofInt 64 n).toNat : Int) = n % 18446744073709551616 := by
 rw [BitVec.toNat_ofInt]
 have : (0 : Int) ≤ n % ((2 ^ 64 : Nat) : Int) := Int.emod_nonneg _ (by decide)
 rw [Int.toNat_of_nonneg this]
 rfl
theorem ofInt64_bit (n : Int) (i : Nat) (hi : i < 64) : (BitVec.ofInt 64 n).toNat.testBit i = bitAt n i := by
 obtain ⟨m, hm⟩ : ∃ m, (BitVec.ofInt 64 n).toNat = m := ⟨_, rfl⟩
 have h := ofInt64_toNat n
 rw [hm] at h
 rw [hm, Nat.testBit_eq_decide_div_mod_eq]
 unfold bitAt
 apply decide_eq_decide.mpr
 have hd : ((2 : Int) ^ i) * (2 * 2 ^ (63 - i)) = 18446744073709551616 := by
  rw [← Int.mul_assoc, Int.mul_comm _ 2, Int.mul_assoc, ← Int.pow_add, show i + (63 - i) = 63 by omega]; decide
 have hp : (0 : Int) < 2 ^ i := Int.pow_pos (by decide)
 have e : n = (m : Int) + 2 ^ i * (2 * (2 ^ (63 - i) * (n / 18446744073709551616))) := by
  have h1 := Int.mul_ediv_add_emod n 18446744073709551616
  rw [← Int.mul_assoc 2, ← Int.mul_assoc (2 ^ i), hd]
  omega
 have e2 : n / 2 ^ i = (m : Int) / 2 ^ i + 2 * (2 ^ (63 - i) * (n / 18446744073709551616)) := by
  have := Int.add_mul_ediv_left (m : Int) (2 * (2 ^ (63 - i) * (n / 18446744073709551616))) (Int.ne_of_gt hp)
  rw [← e] at this
  exact this
 have e3 : ((m : Int) / 2 ^ i) = ((m / 2 ^ i : Nat) : Int) := by
  rw [Int.natCast_ediv, Int.natCast_pow]; rfl
 rw [e2, e3, Int.add_mul_emod_self_left]
 omega
theorem and_pow (n : Int) (i : Nat) (hi : i < 63) (m : Int) (hm : BitVec.ofInt 64 m = BitVec.twoPow 64 i) : (bits .and .i64 n m != 0) = bitAt n i := by
 have e : bits .and .i64 n m = IntKind.i64.wrap ((BitVec.ofInt 64 n &&& BitVec.ofInt 64 m).toNat : Int) := rfl
 have hb : (BitVec.ofInt 64 n).getLsbD i = bitAt n i := ofInt64_bit n i (by omega)
 have hp : 2 ^ i < 2 ^ 64 := Nat.pow_lt_pow_right (by decide) (by omega)
 rw [e, hm, BitVec.and_twoPow, hb]
 cases bitAt n i
 · rw [if_neg (by decide)]
   decide
 · rw [if_pos rfl, bne_iff_ne, Ne, wrap_nat0 _ (BitVec.isLt _), BitVec.toNat_twoPow, Nat.mod_eq_of_lt hp]
   exact Nat.ne_of_gt (Nat.two_pow_pos i)
theorem and7 (n : Int) : (bits .and .i64 n 7 != 0) = (bitAt n 0 || bitAt n 1 || bitAt n 2) := by
 have e : bits .and .i64 n 7 = IntKind.i64.wrap ((BitVec.ofInt 64 n &&& BitVec.ofInt 64 7).toNat : Int) := rfl
 have hlt := (BitVec.ofInt 64 n &&& BitVec.ofInt 64 7).isLt
 have hz := wrap_nat0 _ hlt
 have h2 : (BitVec.ofInt 64 n &&& BitVec.ofInt 64 7).toNat = (BitVec.ofInt 64 n).toNat % 8 := by
  rw [BitVec.toNat_and, show (BitVec.ofInt 64 7).toNat = 2 ^ 3 - 1 by decide, Nat.and_two_pow_sub_one_eq_mod]
 have h3 := ofInt64_toNat n
 rw [h2] at e hz
 rw [Bool.eq_iff_iff, bne_iff_ne, e, Ne, hz]
 unfold bitAt
 simp
 omega
theorem andNot56 (n : Int) (hn : R64 n) (h : (bitAt n 0 || bitAt n 1 || bitAt n 2) = false) : (bits .andNot .i64 n 56 != 0) = (decide (n < 0) || decide (63 < n)) := by
 have h8 : n % 8 = 0 := by unfold bitAt at h; simp at h; omega
 by_cases h1 : 0 ≤ n ∧ n ≤ 63
 · rw [decide_eq_false (by omega), decide_eq_false (by omega)]
   obtain ⟨q, hq⟩ : ∃ q, n = 8 * q := ⟨n / 8, by omega⟩
   rcases (by omega : q = 0 ∨ q = 1 ∨ q = 2 ∨ q = 3 ∨ q = 4 ∨ q = 5 ∨ q = 6 ∨ q = 7) with h | h | h | h | h | h | h | h <;> (subst h; subst hq; decide)
 · have hr : (decide (n < 0) || decide (63 < n)) = true := by simp; omega
   rw [hr, bne_iff_ne]
   intro h0
   have e : bits .andNot .i64 n 56 = IntKind.i64.wrap ((BitVec.ofInt 64 n &&& ~~~ BitVec.ofInt 64 56).toNat : Int) := rfl
   rw [e, wrap_nat0 _ (BitVec.isLt _)] at h0
   have h2 : ∀ i, 6 ≤ i → (BitVec.ofInt 64 n).toNat.testBit i = false := by
    intro i hi
    by_cases h64 : i < 64
    · have h4 := congrArg (fun k => Nat.testBit k i) h0
      have h5 : (BitVec.ofInt 64 n &&& ~~~ BitVec.ofInt 64 56).getLsbD i = false := by
       have : (BitVec.ofInt 64 n &&& ~~~ BitVec.ofInt 64 56).toNat.testBit i = false := by rw [h0]; exact Nat.zero_testBit i
       exact this
      rw [BitVec.getLsbD_and, BitVec.getLsbD_not] at h5
      have h6 : (BitVec.ofInt 64 56).getLsbD i = false := by
       have : (BitVec.ofInt 64 56).toNat = 56 := by decide
       unfold BitVec.getLsbD
       rw [this]
       exact Nat.testBit_lt_two_pow (Nat.lt_of_lt_of_le (by decide : 56 < 2 ^ 6) (Nat.pow_le_pow_right (by decide) hi))
      rw [h6] at h5
      have h11 : (BitVec.ofInt 64 n).getLsbD i = false := by cases hc : (BitVec.ofInt 64 n).getLsbD i <;> simp_all
      exact h11
    · exact BitVec.getLsbD_of_ge _ _ (by omega)
   have h7 : (BitVec.ofInt 64 n).toNat < 2 ^ 6 := Nat.lt_pow_two_of_testBit _ h2
   have h8 := ofInt64_toNat n
   have h9 := hn.1
   have h10 := hn.2
   omega
def chk (n : Int) : Int := if (bitAt n 0 || bitAt n 1 || bitAt n 2) = true then 9 else if (decide (n < 0) || decide (63 < n) || (bitAt n 5 && !bitAt n 4)) = true then 8 else 0
def attrN (a t c : Bool) (k : Nat) : Int := (if a && decide (0 < k) then 8 else 0) + (if t && decide (1 < k) then 16 else 0) + (if c && decide (2 < k) then 32 else 0)

end Go.Proofs.Ytngojlinfdokpaa

/- A text. -/
namespace Go.Proofs.Ytngojlinfdokpaa
open Go.RowKit

theorem and8 (n : Int) : (bits .and .i64 n 8 != 0) = bitAt n 3 := and_pow n 3 (by decide) 8 (by decide)
theorem and16 (n : Int) : (bits .and .i64 n 16 != 0) = bitAt n 4 := and_pow n 4 (by decide) 16 (by decide)
theorem and32 (n : Int) : (bits .and .i64 n 32 != 0) = bitAt n 5 := and_pow n 5 (by decide) 32 (by decide)
theorem and16z (n : Int) : (bits .and .i64 n 16 == 0) = !bitAt n 4 := by rw [← and16]; simp [bne]
set_option maxHeartbeats 1000000 in
set_option maxRecDepth 100000 in
theorem attr_read (n : Int) (w : World) :
  Calls Try.prog 77 #[.int .i64 n] w fun en w' => en = .returned (.tuple #[.bool (bitAt n 3), .bool (bitAt n 4), .bool (bitAt n 5)]) ∧ w = w' := by
 have h1 := and8 n
 have h2 := and16 n
 have h3 := and32 n
 go_enter Try.func77, Try.ntmps77
 go_wp2
 go_ret3
 rw [← h1, ← h2, ← h3]
 exact ⟨rfl, rfl⟩
set_option maxHeartbeats 1000000 in
set_option maxRecDepth 100000 in
theorem attr_check (n : Int) (hn : R64 n) (w : World) :
   Calls Try.prog 75 #[.int .i64 n] w fun en w' => en = .returned (.int .i64 (chk n)) ∧ w = w' := by
 have a7 := and7 n
 have a56 := andNot56 n hn
 have a16 := and16z n
 have a32 := and32 n
 clear hn
 have hc : chk n = chk n := rfl
 conv at hc => rhs; unfold chk
 cases hb : (bitAt n 0 || bitAt n 1 || bitAt n 2)
 · rw [hb] at a7 hc
   rw [hb] at a56
   replace a56 := a56 rfl
   cases hd : (decide (n < 0) || decide (63 < n))
   · rw [hd] at a56 hc
     cases h5 : bitAt n 5
     · rw [h5] at a32 hc
       have HC := Lib.hid (show chk n = 0 from hc)
       clear hc hd hb h5
       go_enter Try.func75, Try.ntmps75
       go_wp2
       go_ret
       rw [HC.out]
       exact ⟨rfl, rfl⟩
     · rw [h5] at a32 hc
       cases h4 : bitAt n 4
       · rw [h4] at a16 hc
         have HC := Lib.hid (show chk n = 8 from hc)
         clear hc hd hb h5 h4
         go_enter Try.func75, Try.ntmps75
         go_wp2
         go_ret
         rw [HC.out]
         exact ⟨rfl, rfl⟩
       · rw [h4] at a16 hc
         have HC := Lib.hid (show chk n = 0 from hc)
         clear hc hd hb h5 h4
         go_enter Try.func75, Try.ntmps75
         go_wp2
         go_ret
         rw [HC.out]
         exact ⟨rfl, rfl⟩
   · rw [hd] at a56 hc
     have HC := Lib.hid (show chk n = 8 from hc)
     clear hc hd hb
     go_enter Try.func75, Try.ntmps75
     go_wp2
     go_ret
     rw [HC.out]
     exact ⟨rfl, rfl⟩
 · rw [hb] at a7 hc
   have HC := Lib.hid (show chk n = 9 from hc)
   clear hc hb a56
   go_enter Try.func75, Try.ntmps75
   go_wp2
   go_ret
   rw [HC.out]
   exact ⟨rfl, rfl⟩

abbrev aBatch (base leader : Int) (a t c : Bool) (last first max prod epoch sq : Int) (ro : Option Addr) (e k : Nat) : Value :=
  .agg #[.int .i64 base, .int .i64 leader, .bool a, .bool t, .bool c, .int .i64 last, .int .i64 first, .int .i64 max, .int .i64 prod, .int .i64 epoch, .int .i64 sq, .slice ro e k]
set_option maxHeartbeats 1000000 in
set_option maxRecDepth 100000 in
theorem attr_of (base leader : Int) (a t c : Bool) (last first max prod epoch sq : Int) (ro : Option Addr) (e k : Nat) {W0 w : World} {K : Know} {L : List Res} (h : St W0 w K L) :
  Calls Try.prog 40 #[aBatch base leader a t c last first max prod epoch sq ro e k] w fun en w' => en = .returned (.int .i64 (attrN a t c 3)) ∧ St W0 w' K L := by
 have H := Lib.hid h
 clear h
 go_enter Try.func40, Try.ntmps40
 go_wp2
 go_loop [4, 15] (fun nv kv => ∃ (k : Nat), k ≤ 3 ∧ kv = .int .i64 k ∧ nv = .int .i64 (attrN a t c k)) (fun _ kv => 3 - (intOf kv).toNat)
 case atStart => exact ⟨0, by decide, rfl, by simp [attrN]⟩
 case round =>
  obtain ⟨k, hk, rfl, rfl⟩ := hrel
  have e1 : attrN true t c 1 = bits .or .i64 (attrN true t c 0) 8 := by cases t <;> cases c <;> decide
  have e2 : attrN a true c 2 = bits .or .i64 (attrN a true c 1) 16 := by cases a <;> cases c <;> decide
  have e3 : attrN a t true 3 = bits .or .i64 (attrN a t true 2) 32 := by cases a <;> cases t <;> decide
  have f1 : attrN false t c 1 = attrN false t c 0 := by cases t <;> cases c <;> decide
  have f2 : attrN a false c 2 = attrN a false c 1 := by cases a <;> cases c <;> decide
  have f3 : attrN a t false 3 = attrN a t false 2 := by cases a <;> cases t <;> decide
  have E := Lib.hid (And.intro e1 (And.intro e2 (And.intro e3 (And.intro f1 (And.intro f2 f3)))))
  clear e1 e2 e3 f1 f2 f3
  have i0 : ∀ w : World, (Instr.index 106 (.agg #[.bool a, .bool t, .bool c]) (.int .i64 0)).run Try.prog w = .ok (.bool a) w := fun _ => by kernel_rfl
  have i1 : ∀ w : World, (Instr.index 106 (.agg #[.bool a, .bool t, .bool c]) (.int .i64 1)).run Try.prog w = .ok (.bool t) w := fun _ => by kernel_rfl
  have i2 : ∀ w : World, (Instr.index 106 (.agg #[.bool a, .bool t, .bool c]) (.int .i64 2)).run Try.prog w = .ok (.bool c) w := fun _ => by kernel_rfl
  rcases (by omega : k = 0 ∨ k = 1 ∨ k = 2 ∨ k = 3) with h | h | h | h
  · subst h
    cases a
    all_goals
     go_wp2
     go_round
     case rel => exact ⟨1, by decide, rfl, congrArg (Value.int .i64) (by first | exact E.out.2.2.2.1.symm | exact E.out.1.symm)⟩
     case measure => decide
  · subst h
    cases t
    all_goals
     go_wp2
     go_round
     case rel => exact ⟨2, by decide, rfl, congrArg (Value.int .i64) (by first | exact E.out.2.2.2.2.1.symm | exact E.out.2.1.symm)⟩
     case measure => decide
  · subst h
    cases c
    all_goals
     go_wp2
     go_round
     case rel => exact ⟨3, by decide, rfl, congrArg (Value.int .i64) (by first | exact E.out.2.2.2.2.2.symm | exact E.out.2.2.1.symm)⟩
     case measure => decide
  · subst h
    go_wp2
    go_ret
    exact ⟨rfl, (H.out.alloc _).alloc _⟩

end Go.Proofs.Ytngojlinfdokpaa

/- A text. -/
namespace Go.Proofs.Ytngojlinfdokpaa
open Go.RowKit

theorem setAll_get : ∀ (vs : List Value) (o : Nat) (c : Array Value) (i : Nat), (setAll c o vs)[i]? = if o ≤ i ∧ i < o + vs.length ∧ i < c.size then vs[i - o]? else c[i]?
  | [], o, c, i => by
    show c[i]? = _
    rw [if_neg (by simp; omega)]
  | v :: r, o, c, i => by
    show (setAll (c.setIfInBounds o v) (o + 1) r)[i]? = _
    rw [setAll_get r (o + 1) _ i]
    simp only [Array.size_setIfInBounds, List.length_cons]
    by_cases h1 : o + 1 ≤ i ∧ i < o + 1 + r.length ∧ i < c.size
    · rw [if_pos h1, if_pos (by omega)]
      obtain ⟨k, rfl⟩ : ∃ k, i = o + 1 + k := ⟨i - (o + 1), by omega⟩
      rw [show o + 1 + k - (o + 1) = k by omega, show o + 1 + k - o = k + 1 by omega]
      rfl
    · rw [if_neg h1, Array.getElem?_setIfInBounds]
      by_cases h2 : o = i
      · subst h2
        rw [if_pos rfl]
        by_cases h3 : o < c.size
        · rw [if_pos h3, if_pos (by omega), Nat.sub_self]; rfl
        · rw [if_neg h3, if_neg (by omega), Array.getElem?_eq_none (by omega)]
      · rw [if_neg h2, if_neg (by omega)]
theorem setAll_all (c cs : Array Value) (h : c.size = cs.size) : setAll c 0 cs.toList = cs := by
 refine Array.ext_getElem? fun i => ?_
 rw [setAll_get]
 by_cases h1 : i < cs.size
 · rw [if_pos (by simp; omega), Nat.sub_zero, Array.getElem?_toList]
 · rw [if_neg (by simp; omega), Array.getElem?_eq_none (by omega), Array.getElem?_eq_none (by omega)]
theorem attr_ofE (base leader : Int) (app txn ctl : Bool) (last first maxt prod epoch sq : Int)  (q : Option Addr) (n cap : Nat) {W0 w : World} {K : Know} {L : List Res} (h : St W0 w K L) :
 Calls Try.prog 40 #[.agg #[.int .i64 base, .int .i64 leader, .bool app, .bool txn, .bool ctl, .int .i64 last, .int .i64 first, .int .i64 maxt, .int .i64 prod, .int .i64 epoch, .int .i64 sq, .slice q n cap]] w fun en w' => en = .returned (.int .i64 (attrN app txn ctl 3)) ∧ St W0 w' K L := attr_of base leader app txn ctl last first maxt prod epoch sq q n cap h
set_option maxHeartbeats 2000000 in
set_option maxRecDepth 100000 in
theorem bat_head (base leader : Int) (app txn ctl : Bool) (last first maxt prod epoch sq : Int) (l : List (RecS × Value)) (q : Option Addr) (cap : Nat) (size : Nat) (hsz : size ≤ 140737488355328) {W0 w : World} {K : Know} {L : List Res} (h : St W0 w K L) :
   Calls Try.prog 29 #[.agg #[.int .i64 base, .int .i64 leader, .bool app, .bool txn, .bool ctl, .int .i64 last, .int .i64 first, .int .i64 maxt, .int .i64 prod, .int .i64 epoch, .int .i64 sq, .slice q l.length cap], .int .i64 size] w fun en w' => en = .returned (.agg #[.int .i64 base, .int .i64 (49 + size), .int .i64 leader, .int .i64 0, .int .i64 (attrN app txn ctl 3), .int .i64 last, .int .i64 first, .int .i64 maxt, .int .i64 prod, .int .i64 epoch, .int .i64 sq, .int .i64 l.length]) ∧ St W0 w' K L := by
 have g1 := h.allocRaw #[.int .i64 base, .int .i64 leader, .bool app, .bool txn, .bool ctl, .int .i64 last, .int .i64 first, .int .i64 maxt, .int .i64 prod, .int .i64 epoch, .int .i64 sq, .slice q l.length cap] 37
 have g2 := (g1.allocRaw #[.int .i64 0, .int .i64 0, .int .i64 0, .int .i64 0, .int .i64 0, .int .i64 0, .int .i64 0, .int .i64 0, .int .i64 0, .int .i64 0, .int .i64 0, .int .i64 0] 73).p1
 obtain ⟨hb, hhb⟩ : ∃ b, w.heap.size = b := ⟨_, rfl⟩
 obtain ⟨rb, hrb⟩ : ∃ b, hb + 1 = b := ⟨_, rfl⟩
 simp only [World.size_alloc, hhb, hrb] at g2
 have H := Lib.hid g2
 have w1 : IntKind.i64.wrap (49 + (size : Int)) = 49 + (size : Int) := IntWalk.i64_in _ (by omega)
 clear g1 g2 h hsz
 go_enter Try.func29, Try.ntmps29
 go_upto_region 1 with (fail)
 have hs := H.out.drew
 refine wp_region_held_drew (S := fun w' => w'.cell? ⟨hb, 0, none⟩ = some (.int .i64 base) ∧ w'.cell? ⟨hb, 1, none⟩ = some (.int .i64 leader) ∧ w'.cell? ⟨hb, 2, none⟩ = some (.bool app) ∧ w'.cell? ⟨hb, 3, none⟩ = some (.bool txn) ∧ w'.cell? ⟨hb, 4, none⟩ = some (.bool ctl) ∧ w'.cell? ⟨hb, 5, none⟩ = some (.int .i64 last) ∧ w'.cell? ⟨hb, 6, none⟩ = some (.int .i64 first) ∧ w'.cell? ⟨hb, 7, none⟩ = some (.int .i64 maxt) ∧ w'.cell? ⟨hb, 8, none⟩ = some (.int .i64 prod) ∧ w'.cell? ⟨hb, 9, none⟩ = some (.int .i64 epoch) ∧ w'.cell? ⟨hb, 10, none⟩ = some (.int .i64 sq) ∧ w'.cell? ⟨hb, 11, none⟩ = some (.slice q l.length cap)) (by kernel_rfl) (let ⟨x0, x1, x2, x3, x4, x5, x6, x7, x8, x9, x10, x11, _⟩ := raw12 (b := hb) (hs); ⟨x0, x1, x2, x3, x4, x5, x6, x7, x8, x9, x10, x11⟩) (fun hHeld => ?_)
 refine wpAnyH_take (i := 0) (oi := ⟨some 5, .fieldAddr 37 (.tmp 2) 0, 0, "batch.go:46", #[], none⟩) (v := ?_) rfl (by kernel_rfl) (by kernel_rfl) (by kernel_rfl) (fun _ _ _ h => h) (Or.inl ⟨by rfl, ?_⟩) (by assumption) ?_
 rotate_left
 · intro w hSw; (try dsimp only at hSw); go_simp; try with_reducible rfl
 simp only [Act.put, sA, sB, sC]
 refine wpAnyH_take (i := 1) (oi := ⟨some 6, .load 3 (.tmp 5), 3, "batch.go:46", #[.mk 0 .data], none⟩) (v := ?_) rfl (by kernel_rfl) (by kernel_rfl) (by kernel_rfl) (fun _ _ _ h => h) (Or.inl ⟨by rfl, ?_⟩) (by assumption) ?_
 rotate_left
 · intro w hSw; (try dsimp only at hSw); go_simp; try with_reducible rfl
 simp only [Act.put, sA, sB, sC]
 refine wpAnyH_take (i := 2) (oi := ⟨some 7, .move (.tmp 1), 3, "batch.go:46", #[], none⟩) (v := ?_) rfl (by kernel_rfl) (by kernel_rfl) (by kernel_rfl) (fun _ _ _ h => h) (Or.inl ⟨by rfl, ?_⟩) (by assumption) ?_
 rotate_left
 · intro w hSw; (try dsimp only at hSw); go_simp; try with_reducible rfl
 simp only [Act.put, sA, sB, sC]
 refine wpAnyH_take (i := 3) (oi := ⟨some 8, .binOp .add 3 (.const (Value.int IntKind.i64 49)) (.tmp 7) 3, 3, "batch.go:46", #[.mk 2 .data], none⟩) (v := ?_) rfl (by kernel_rfl) (by kernel_rfl) (by kernel_rfl) (fun _ _ _ h => h) (Or.inl ⟨by rfl, ?_⟩) (by assumption) ?_
 rotate_left
 · intro w hSw; (try dsimp only at hSw); go_simp; try with_reducible rfl
 simp only [Act.put, sA, sB, sC]
 refine wpAnyH_take (i := 4) (oi := ⟨some 9, .fieldAddr 37 (.tmp 2) 1, 0, "batch.go:46", #[], none⟩) (v := ?_) rfl (by kernel_rfl) (by kernel_rfl) (by kernel_rfl) (fun _ _ _ h => h) (Or.inl ⟨by rfl, ?_⟩) (by assumption) ?_
 rotate_left
 · intro w hSw; (try dsimp only at hSw); go_simp; try with_reducible rfl
 simp only [Act.put, sA, sB, sC]
 refine wpAnyH_take (i := 5) (oi := ⟨some 10, .load 3 (.tmp 9), 3, "batch.go:46", #[.mk 4 .data], none⟩) (v := ?_) rfl (by kernel_rfl) (by kernel_rfl) (by kernel_rfl) (fun _ _ _ h => h) (Or.inl ⟨by rfl, ?_⟩) (by assumption) ?_
 rotate_left
 · intro w hSw; (try dsimp only at hSw); go_simp; try with_reducible rfl
 simp only [Act.put, sA, sB, sC]
 refine wpAnyH_take (i := 6) (oi := ⟨some 11, .load 37 (.tmp 2), 37, "batch.go:46", #[], none⟩) (v := ?_) rfl (by kernel_rfl) (by kernel_rfl) (by kernel_rfl) (fun _ _ _ h => h) (Or.inl ⟨by rfl, ?_⟩) (by assumption) ?_
 rotate_left
 · intro w hSw; (try dsimp only at hSw); go_simp; try with_reducible rfl
 simp only [Act.put, sA, sB, sC]
 refine wpAnyH_take (i := 8) (oi := ⟨some 13, .fieldAddr 37 (.tmp 2) 5, 0, "batch.go:46", #[], none⟩) (v := ?_) rfl (by kernel_rfl) (by kernel_rfl) (by kernel_rfl) (fun _ _ _ h => h) (Or.inl ⟨by rfl, ?_⟩) (by assumption) ?_
 rotate_left
 · intro w hSw; (try dsimp only at hSw); go_simp; try with_reducible rfl
 simp only [Act.put, sA, sB, sC]
 refine wpAnyH_take (i := 9) (oi := ⟨some 14, .load 3 (.tmp 13), 3, "batch.go:46", #[.mk 8 .data], none⟩) (v := ?_) rfl (by kernel_rfl) (by kernel_rfl) (by kernel_rfl) (fun _ _ _ h => h) (Or.inl ⟨by rfl, ?_⟩) (by assumption) ?_
 rotate_left
 · intro w hSw; (try dsimp only at hSw); go_simp; try with_reducible rfl
 simp only [Act.put, sA, sB, sC]
 refine wpAnyH_take (i := 10) (oi := ⟨some 15, .fieldAddr 37 (.tmp 2) 6, 0, "batch.go:46", #[], none⟩) (v := ?_) rfl (by kernel_rfl) (by kernel_rfl) (by kernel_rfl) (fun _ _ _ h => h) (Or.inl ⟨by rfl, ?_⟩) (by assumption) ?_
 rotate_left
 · intro w hSw; (try dsimp only at hSw); go_simp; try with_reducible rfl
 simp only [Act.put, sA, sB, sC]
 refine wpAnyH_take (i := 11) (oi := ⟨some 16, .load 3 (.tmp 15), 3, "batch.go:46", #[.mk 10 .data], none⟩) (v := ?_) rfl (by kernel_rfl) (by kernel_rfl) (by kernel_rfl) (fun _ _ _ h => h) (Or.inl ⟨by rfl, ?_⟩) (by assumption) ?_
 rotate_left
 · intro w hSw; (try dsimp only at hSw); go_simp; try with_reducible rfl
 simp only [Act.put, sA, sB, sC]
 refine wpAnyH_take (i := 12) (oi := ⟨some 17, .fieldAddr 37 (.tmp 2) 7, 0, "batch.go:46", #[], none⟩) (v := ?_) rfl (by kernel_rfl) (by kernel_rfl) (by kernel_rfl) (fun _ _ _ h => h) (Or.inl ⟨by rfl, ?_⟩) (by assumption) ?_
 rotate_left
 · intro w hSw; (try dsimp only at hSw); go_simp; try with_reducible rfl
 simp only [Act.put, sA, sB, sC]
 refine wpAnyH_take (i := 13) (oi := ⟨some 18, .load 3 (.tmp 17), 3, "batch.go:46", #[.mk 12 .data], none⟩) (v := ?_) rfl (by kernel_rfl) (by kernel_rfl) (by kernel_rfl) (fun _ _ _ h => h) (Or.inl ⟨by rfl, ?_⟩) (by assumption) ?_
 rotate_left
 · intro w hSw; (try dsimp only at hSw); go_simp; try with_reducible rfl
 simp only [Act.put, sA, sB, sC]
 refine wpAnyH_take (i := 14) (oi := ⟨some 19, .fieldAddr 37 (.tmp 2) 8, 0, "batch.go:46", #[], none⟩) (v := ?_) rfl (by kernel_rfl) (by kernel_rfl) (by kernel_rfl) (fun _ _ _ h => h) (Or.inl ⟨by rfl, ?_⟩) (by assumption) ?_
 rotate_left
 · intro w hSw; (try dsimp only at hSw); go_simp; try with_reducible rfl
 simp only [Act.put, sA, sB, sC]
 refine wpAnyH_take (i := 15) (oi := ⟨some 20, .load 3 (.tmp 19), 3, "batch.go:46", #[.mk 14 .data], none⟩) (v := ?_) rfl (by kernel_rfl) (by kernel_rfl) (by kernel_rfl) (fun _ _ _ h => h) (Or.inl ⟨by rfl, ?_⟩) (by assumption) ?_
 rotate_left
 · intro w hSw; (try dsimp only at hSw); go_simp; try with_reducible rfl
 simp only [Act.put, sA, sB, sC]
 refine wpAnyH_take (i := 16) (oi := ⟨some 21, .fieldAddr 37 (.tmp 2) 9, 0, "batch.go:46", #[], none⟩) (v := ?_) rfl (by kernel_rfl) (by kernel_rfl) (by kernel_rfl) (fun _ _ _ h => h) (Or.inl ⟨by rfl, ?_⟩) (by assumption) ?_
 rotate_left
 · intro w hSw; (try dsimp only at hSw); go_simp; try with_reducible rfl
 simp only [Act.put, sA, sB, sC]
 refine wpAnyH_take (i := 17) (oi := ⟨some 22, .load 3 (.tmp 21), 3, "batch.go:46", #[.mk 16 .data], none⟩) (v := ?_) rfl (by kernel_rfl) (by kernel_rfl) (by kernel_rfl) (fun _ _ _ h => h) (Or.inl ⟨by rfl, ?_⟩) (by assumption) ?_
 rotate_left
 · intro w hSw; (try dsimp only at hSw); go_simp; try with_reducible rfl
 simp only [Act.put, sA, sB, sC]
 refine wpAnyH_take (i := 18) (oi := ⟨some 23, .fieldAddr 37 (.tmp 2) 10, 0, "batch.go:46", #[], none⟩) (v := ?_) rfl (by kernel_rfl) (by kernel_rfl) (by kernel_rfl) (fun _ _ _ h => h) (Or.inl ⟨by rfl, ?_⟩) (by assumption) ?_
 rotate_left
 · intro w hSw; (try dsimp only at hSw); go_simp; try with_reducible rfl
 simp only [Act.put, sA, sB, sC]
 refine wpAnyH_take (i := 19) (oi := ⟨some 24, .load 3 (.tmp 23), 3, "batch.go:46", #[.mk 18 .data], none⟩) (v := ?_) rfl (by kernel_rfl) (by kernel_rfl) (by kernel_rfl) (fun _ _ _ h => h) (Or.inl ⟨by rfl, ?_⟩) (by assumption) ?_
 rotate_left
 · intro w hSw; (try dsimp only at hSw); go_simp; try with_reducible rfl
 simp only [Act.put, sA, sB, sC]
 refine wpAnyH_take (i := 20) (oi := ⟨some 25, .fieldAddr 37 (.tmp 2) 11, 0, "batch.go:46", #[], none⟩) (v := ?_) rfl (by kernel_rfl) (by kernel_rfl) (by kernel_rfl) (fun _ _ _ h => h) (Or.inl ⟨by rfl, ?_⟩) (by assumption) ?_
 rotate_left
 · intro w hSw; (try dsimp only at hSw); go_simp; try with_reducible rfl
 simp only [Act.put, sA, sB, sC]
 refine wpAnyH_take (i := 21) (oi := ⟨some 26, .load 35 (.tmp 25), 35, "batch.go:46", #[.mk 20 .data], none⟩) (v := ?_) rfl (by kernel_rfl) (by kernel_rfl) (by kernel_rfl) (fun _ _ _ h => h) (Or.inl ⟨by rfl, ?_⟩) (by assumption) ?_
 rotate_left
 · intro w hSw; (try dsimp only at hSw); go_simp; try with_reducible rfl
 simp only [Act.put, sA, sB, sC]
 refine wpAnyH_take (i := 22) (oi := ⟨some 27, .call { callee := .builtin .len, args := #[.tmp 26], argTypes := #[35] }, 3, "batch.go:46", #[.mk 21 .data], none⟩) (v := ?_) rfl (by kernel_rfl) (by kernel_rfl) (by kernel_rfl) (fun _ _ _ h => h) (Or.inl ⟨by rfl, ?_⟩) (by assumption) ?_
 rotate_left
 · intro w hSw; (try dsimp only at hSw); go_simp; try with_reducible rfl
 simp only [Act.put, sA, sB, sC]
 refine wpAnyH_ready (rs := [7]) (by kernel_rfl) (by simp) (AllReadyH.cons (o := ⟨some 12, .call { callee := .value (.func 40), args := #[.tmp 11], argTypes := #[37] }, 3, "batch.go:47", #[.mk 6 .data], none⟩) rfl (fun KK hK => ?_) AllReadyH.nil)
 · go_simp
   go_at_call 40
   with_reducible refine (attr_ofE base leader app txn ctl last first maxt prod epoch sq q l.length cap hs).mono ?_
   rintro e wq ⟨rfl, hs⟩
   refine hK.out _ _ (let ⟨x0, x1, x2, x3, x4, x5, x6, x7, x8, x9, x10, x11, _⟩ := raw12 (b := hb) (hs); ⟨x0, x1, x2, x3, x4, x5, x6, x7, x8, x9, x10, x11⟩) (fun hHeld => ?_)
   clear hK KK
   try simp only [Act.put, sA, sB, sC]
   refine wpAnyH_take (i := 23) (oi := ⟨some 28, .build 73 #[(0, .tmp 6), (1, .tmp 8), (2, .tmp 10), (4, .tmp 12), (5, .tmp 14), (6, .tmp 16), (7, .tmp 18), (8, .tmp 20), (9, .tmp 22), (10, .tmp 24), (11, .tmp 27)], 73, "batch.go:46", #[.mk 1 .data, .mk 3 .data, .mk 5 .data, .mk 7 .data, .mk 9 .data, .mk 11 .data, .mk 13 .data, .mk 15 .data, .mk 17 .data, .mk 19 .data, .mk 22 .data], none⟩) (v := ?_) rfl (by kernel_rfl) (by kernel_rfl) (by kernel_rfl) (fun _ _ _ h => h) (Or.inl ⟨by rfl, ?_⟩) (by assumption) ?_
   rotate_left
   · intro w hSw; (try dsimp only at hSw); go_simp; try with_reducible rfl
   simp only [Act.put, sA, sB, sC]
   refine wpAnyH_ready (rs := [24]) (by kernel_rfl) (by simp) (AllReadyH.cons (o := ⟨none, .store 73 (.tmp 4) (.tmp 28), 0, "batch.go:46", #[.mk 23 .data, .mk 7 .chain, .mk 0 .phase, .mk 1 .phase, .mk 2 .phase, .mk 3 .phase, .mk 4 .phase, .mk 5 .phase, .mk 6 .phase, .mk 7 .phase, .mk 8 .phase, .mk 9 .phase, .mk 10 .phase, .mk 11 .phase, .mk 12 .phase, .mk 13 .phase, .mk 14 .phase, .mk 15 .phase, .mk 16 .phase, .mk 17 .phase, .mk 18 .phase, .mk 19 .phase, .mk 20 .phase, .mk 21 .phase, .mk 22 .phase, .mk 23 .phase], none⟩) rfl (fun KK hK => ?_) AllReadyH.nil)
   · have hs := hs.p1
     rw [if_pos (by rfl)]
     refine wp_store_mid 73 (.tmp 4) (.tmp 28) rfl rb 0 #[.int .i64 base, .int .i64 (49 + size), .int .i64 leader, .int .i64 0, .int .i64 (attrN app txn ctl 3), .int .i64 last, .int .i64 first, .int .i64 maxt, .int .i64 prod, .int .i64 epoch, .int .i64 sq, .int .i64 l.length] (by rfl) (by rfl) hs.there (by kernel_rfl) (by simp [Value.oneCell']) ?_
     obtain ⟨wz, ez, hs⟩ := hs.storeEx #[.int .i64 base, .int .i64 (49 + size), .int .i64 leader, .int .i64 0, .int .i64 (attrN app txn ctl 3), .int .i64 last, .int .i64 first, .int .i64 maxt, .int .i64 prod, .int .i64 epoch, .int .i64 sq, .int .i64 l.length]
     rw [ez]
     clear ez
     refine hK.out _ _ (let ⟨x0, x1, x2, x3, x4, x5, x6, x7, x8, x9, x10, x11, _⟩ := raw12 (b := hb) (hs.p1); ⟨x0, x1, x2, x3, x4, x5, x6, x7, x8, x9, x10, x11⟩) (fun hHeld => ?_)
     clear hK KK
     try simp only [Act.put, sA, sB, sC]
     refine wpAnyH_done (by kernel_rfl) ?_ _
     clear hHeld
     rw [setAll_all] at hs
     rotate_left
     · rfl
     have hz : St W0 _ K (.raw rb #[.int .i64 base, .int .i64 (49 + size), .int .i64 leader, .int .i64 0, .int .i64 (attrN app txn ctl 3), .int .i64 last, .int .i64 first, .int .i64 maxt, .int .i64 prod, .int .i64 epoch, .int .i64 sq, .int .i64 l.length] 73 :: _) := hs
     go_wp2_with fail
     refine bodyPost_ret (rc_cell_only rfl _ _ rb [.int .i64 base, .int .i64 (49 + size), .int .i64 leader, .int .i64 0, .int .i64 (attrN app txn ctl 3), .int .i64 last, .int .i64 first, .int .i64 maxt, .int .i64 prod, .int .i64 epoch, .int .i64 sq, .int .i64 l.length] _ rfl (rc_range hz) Try.underlying73 rfl (by kernel_rfl)) rfl ?_
     exact ⟨rfl, hz.drop.drop⟩

end Go.Proofs.Ytngojlinfdokpaa

/- A text. -/
namespace Go.Proofs.Ytngojlinfdokpaa
open Go.RowKit

end Go.Proofs.Ytngojlinfdokpaa

/- A text. -/
namespace Go.Proofs.Ytngojlinfdokpaa
open Go.RowKit

end Go.Proofs.Ytngojlinfdokpaa

/- A text. -/
namespace Go.Proofs.Ytngojlinfdokpaa
open Go.RowKit

end Go.Proofs.Ytngojlinfdokpaa

/- A text. -/
namespace Go.Proofs.Ytngojlinfdokpaa
open Go.RowKit

end Go.Proofs.Ytngojlinfdokpaa

/- A text. -/
namespace Go.Proofs.Ytngojlinfdokpaa
open Go.RowKit

end Go.Proofs.Ytngojlinfdokpaa

/- A text. -/
namespace Go.Proofs.Ytngojlinfdokpaa
open Go.RowKit

end Go.Proofs.Ytngojlinfdokpaa

/- A text. -/
namespace Go.Proofs.Ytngojlinfdokpaa
open Go.RowKit

end Go.Proofs.Ytngojlinfdokpaa

/- A text. -/
namespace Go.Proofs.Ytngojlinfdokpaa
open Go.RowKit

end Go.Proofs.Ytngojlinfdokpaa

/- A text. -/
namespace Go.Proofs.Ytngojlinfdokpaa
open Go.RowKit

theorem glue {l a : Bs} {n m : Nat} (h : a = (l.drop n).take m) : a ++ l.drop (n + m) = l.drop n := by
 rw [h, ← List.drop_drop, List.take_append_drop]
theorem reInner_one {s : Bs} {x : RecS} (h : reInner s = .ok x) : recF x = s ∧ recOk x = 0 ∧ x.R ∧ x.sum ≤ s.length := by
 unfold reInner at h
 cases h0 : getIntN 1 s with
 | error e => rw [h0] at h; cases h
 | ok a =>
  rw [h0] at h
  simp only at h
  by_cases ha : a.1 = 0
  · rw [if_pos ha] at h
    obtain ⟨c, t, rfl⟩ : ∃ c t, s = c :: t := by
     cases s with
     | nil => cases h0
     | cons c t => exact ⟨c, t, rfl⟩
    have hc : c = 0 := by
     have : (.ok (sByte c, 1) : Except Int (Int × Nat)) = .ok a := by rw [← h0]; unfold getIntN; rw [if_neg (by simp)]; rfl
     cases this
     have hn := c.toNat_lt
     have h2 : sByte c = 0 := ha
     unfold sByte at h2
     exact UInt8.toNat_inj.1 (show c.toNat = 0 by split at h2 <;> omega)
    subst hc
    cases h1 : vgetL ((0 :: t : Bs).drop 1) with
    | error e => rw [h1] at h; cases h
    | ok x1 =>
     obtain ⟨tm, k⟩ := x1
     rw [h1] at h
     simp only at h
     cases h2 : vgetI ((0 :: t : Bs).drop (1 + k)) with
     | error e => rw [h2] at h; cases h
     | ok x2 =>
      obtain ⟨o, m⟩ := x2
      rw [h2] at h
      simp only at h
      by_cases ho : o < 0
      · rw [if_pos ho] at h; cases h
      rw [if_neg ho] at h
      cases h3 : revaried ((0 :: t : Bs).drop (1 + k + m)) with
      | error e => rw [h3] at h; cases h
      | ok x3 =>
       obtain ⟨kb, ka⟩ := x3
       rw [h3] at h
       simp only at h
       cases h4 : revaried ((0 :: t : Bs).drop (1 + k + m + ka)) with
       | error e => rw [h4] at h; cases h
       | ok x4 =>
        obtain ⟨vb, va⟩ := x4
        rw [h4] at h
        simp only at h
        cases h5 : reHdrs ((0 :: t : Bs).drop (1 + k + m + ka + va)) with
        | error e => rw [h5] at h; cases h
        | ok x5 =>
         obtain ⟨l, ha5⟩ := x5
         rw [h5] at h
         simp only at h
         by_cases hf : 1 + k + m + ka + va + ha5 = (0 :: t : Bs).length
         · rw [if_pos hf] at h
           cases h
           obtain ⟨g1, _, _, r1, r2⟩ := vgetL_one h1
           obtain ⟨g2, _, _, r3, r4⟩ := vgetI_one h2
           obtain ⟨g3, _, b3, c3, _, d3⟩ := revaried_one h3
           obtain ⟨g4, _, b4, c4, _, d4⟩ := revaried_one h4
           obtain ⟨g5, _, b5, c5, d5⟩ := reHdrs_one h5
           refine ⟨?_, ?_, ⟨⟨r1, r2⟩, by constructor <;> simp only <;> omega⟩, ?_⟩
           · unfold recF
             simp only
             have q5 := glue g5
             rw [List.drop_eq_nil_of_le (by omega), List.append_nil] at q5
             rw [q5, glue g4, glue g3]
             have q2 : encI o ++ (0 :: t : Bs).drop (1 + k + m) = (0 :: t : Bs).drop (1 + k) := glue g2
             have q1 : encI tm ++ (0 :: t : Bs).drop (1 + k) = (0 :: t : Bs).drop 1 := glue g1
             rw [q2, q1]
             rfl
           · unfold recOk RecS.allRight
             simp only
             rw [if_neg (by omega), c3, c4, c5]
             rfl
           · unfold RecS.sum
             simp only
             have e3 : kb.data.length ≤ ka := by split at d3 <;> omega
             have e4 : vb.data.length ≤ va := by split at d4 <;> omega
             omega
         · rw [if_neg hf] at h; cases h
  · rw [if_neg ha] at h; cases h
theorem reRec_one {s : Bs} {x : RecS} {m : Nat} (h : reRec s = .ok (x, m)) : encR x = s.take m ∧ recOk x = 0 ∧ x.R ∧ x.sum ≤ s.length ∧ 0 < m ∧ m ≤ s.length := by
 unfold reRec at h
 cases h1 : revaried s with
 | error e => rw [h1] at h; cases h
 | ok b =>
  obtain ⟨⟨n, d⟩, k⟩ := b
  rw [h1] at h
  simp only at h
  obtain ⟨g1, g2, g3, _, _, g5⟩ := revaried_one h1
  cases n with
  | true => cases h
  | false =>
   simp only [Bool.false_eq_true, if_false] at h
   cases h2 : reInner d with
   | error e => rw [h2] at h; cases h
   | ok y =>
    rw [h2] at h
    cases h
    obtain ⟨k1, k2, k3, k4⟩ := reInner_one h2
    simp at g5
    exact ⟨by unfold encR; rw [k1]; exact g1, k2, k3, by omega, g2, g3⟩
end Go.Proofs.Ytngojlinfdokpaa

/- A text. -/
namespace Go.Proofs.Ytngojlinfdokpaa
open Go.RowKit

theorem hsum_fit : ∀ (l : List HdrS) (N : Nat), hsum l ≤ N → ∀ x ∈ l, x.key.length ≤ N ∧ x.val.data.length ≤ N
  | [], _, _, _, h => by cases h
  | y :: t, N, hh, x, hx => by
    simp only [hsum, List.map_cons, List.sum_cons] at hh
    rcases List.mem_cons.1 hx with rfl | hx
    · omega
    · exact hsum_fit t N (by simp only [hsum]; omega) x hx
theorem unp_fit : ∀ (n : Nat) (rows : Bs) (pos : Nat) (rs : List RecS), pos ≤ rows.length → unp n ⟨rows, pos, 0⟩ = .ok rs → rs.length = n ∧ rs.length + pos ≤ rows.length ∧ ∀ x ∈ rs, x.R ∧ recOk x = 0 ∧ x.sum ≤ rows.length
  | 0, rows, pos, rs, hp, h => by
    unfold unp at h
    split at h
    · cases h; exact ⟨rfl, by simpa using hp, fun x hx => by cases hx⟩
    · cases h
  | n + 1, rows, pos, rs, hp, h => by
    have h : (if (⟨rows, pos, 0⟩ : InS).left = 0 then .error 10 else if (⟨rows, pos, 0⟩ : InS).record.2.err = 0 then consE (⟨rows, pos, 0⟩ : InS).record.1 (unp n (⟨rows, pos, 0⟩ : InS).record.2) else .error (⟨rows, pos, 0⟩ : InS).record.2.err) = .ok rs := h
    by_cases c1 : (⟨rows, pos, 0⟩ : InS).left = 0
    · rw [if_pos c1] at h; cases h
    rw [if_neg c1] at h
    cases hr : reRec (rows.drop pos) with
    | error e =>
      obtain ⟨he, q, _, hf⟩ := rds_rec.err rows pos e hp hr
      rw [hf] at h
      simp only at h
      rw [if_neg he] at h
      cases h
    | ok y =>
      obtain ⟨x, m⟩ := y
      obtain ⟨hpm, hf⟩ := rds_rec.ok rows pos x m hp hr
      rw [hf] at h
      simp only [if_true] at h
      cases hu : unp n ⟨rows, pos + m, 0⟩ with
      | error e => rw [hu] at h; cases h
      | ok t =>
        rw [hu] at h
        have h : Except.ok (x :: t) = Except.ok rs := h
        injection h with h
        subst h
        obtain ⟨i1, i2, i3⟩ := unp_fit n rows (pos + m) t hpm hu
        obtain ⟨_, j1, j2, j3, j4, j5⟩ := reRec_one hr
        rw [List.length_drop] at j3 j5
        refine ⟨by simp [i1], by simp only [List.length_cons]; omega, fun y hy => ?_⟩
        rcases List.mem_cons.1 hy with rfl | hy
        · exact ⟨j2, j1, by omega⟩
        · exact i3 y hy
theorem unp_fitB {n : Nat} {rows : Bs} {rs : List RecS} {l : List (RecS × Value)} (hu : unp n ⟨rows, 0, 0⟩ = .ok rs) (hl : l.map (·.1) = rs) (hr : rows.length ≤ 1000000) : FitB l ∧ l.length ≤ 1000000 := by
 obtain ⟨i1, i2, i3⟩ := unp_fit n rows 0 rs (Nat.zero_le _) hu
 constructor
 · intro x hx
   have hm : x.1 ∈ rs := by rw [← hl]; exact List.mem_map.2 ⟨x, hx, rfl⟩
   obtain ⟨a, _, c⟩ := i3 x.1 hm
   refine ⟨a, fun y hy => ?_, by omega⟩
   have h1 : hsum x.1.hdrs ≤ 1000000 := by unfold RecS.sum at c; omega
   have := hsum_fit x.1.hdrs 1000000 h1 y hy
   omega
 · have : l.length = rs.length := by rw [← hl, List.length_map]
   omega
def asmB (x : PreS) (said rows : Bs) : Except Int BatS :=
  if ((crcMore 0#32 (said.drop 21 ++ rows)).toNat : Int) ≠ x.sum then .error 5
  else if chk x.attr ≠ 0 then .error (chk x.attr)
  else match unp x.count.toNat ⟨rows, 0, 0⟩ with
    | .error e => .error e
    | .ok rs => if batErr ⟨x.base, x.leader, bitAt x.attr 3, bitAt x.attr 4, bitAt x.attr 5, x.last, x.first, x.maxt, x.prod, x.epoch, x.seq, rs⟩ = 0 then .ok ⟨x.base, x.leader, bitAt x.attr 3, bitAt x.attr 4, bitAt x.attr 5, x.last, x.first, x.maxt, x.prod, x.epoch, x.seq, rs⟩ else .error (batErr ⟨x.base, x.leader, bitAt x.attr 3, bitAt x.attr 4, bitAt x.attr 5, x.last, x.first, x.maxt, x.prod, x.epoch, x.seq, rs⟩)
theorem attr_readE (n : Int) {W0 w : World} {K : Know} {L : List Res} (h : St W0 w K L) :
 Calls Try.prog 77 #[.int .i64 n] w fun en w' => en = .returned (.tuple #[.bool (bitAt n 3), .bool (bitAt n 4), .bool (bitAt n 5)]) ∧ St W0 w' K L := (attr_read n w).mono fun _ _ hh => ⟨hh.1, hh.2 ▸ h⟩
theorem attr_checkE (n e : Int) (he : chk n = e) (hn : R64 n) {W0 w : World} {K : Know} {L : List Res} (h : St W0 w K L) :
 Calls Try.prog 75 #[.int .i64 n] w fun en w' => en = .returned (.int .i64 e) ∧ St W0 w' K L := (attr_check n hn w).mono fun _ _ hh => ⟨he ▸ hh.1, hh.2 ▸ h⟩

end Go.Proofs.Ytngojlinfdokpaa

/- A text. -/
namespace Go.Proofs.Ytngojlinfdokpaa
open Go.RowKit

theorem s_takeE (b : Nat) (i j : InS) (n : Int) (s : Bs) (hx : i.take n = (s, j)) {W0 w : World} {K : Know} {L : List Res} (h : St W0 w K (.inp b i :: L)) :
  Calls Try.prog 61 #[inPtr b, .int .i64 n] w fun en w' => en = .returned (.string (bb s)) ∧ St W0 w' K (.inp b j :: L) := by
 have := s_take b i n h; rw [hx] at this; exact this
theorem s_failE (b : Nat) (i j : InS) (e : Int) (hx : i.fail e = j) {W0 w : World} {K : Know} {L : List Res} (h : St W0 w K (.inp b i :: L)) :
  Calls Try.prog 62 #[inPtr b, .int .i64 e] w fun en w' => en = .returned (.tuple #[]) ∧ St W0 w' K (.inp b j :: L) := by
 subst hx; exact s_fail b i e h
theorem unp_ne : ∀ (n : Nat) (i : InS) (e : Int), unp n i = .error e → e ≠ 0
  | 0, i, e, h => by
    unfold unp at h
    split at h
    · cases h
    · cases h; decide
  | n + 1, i, e, h => by
    have h : (if i.left = 0 then .error 10 else if i.record.2.err = 0 then consE i.record.1 (unp n i.record.2) else .error i.record.2.err) = .error e := h
    by_cases c1 : i.left = 0
    · rw [if_pos c1] at h; cases h; decide
    rw [if_neg c1] at h
    by_cases c2 : i.record.2.err = 0
    · rw [if_pos c2] at h
      cases hu : unp n i.record.2 with
      | ok t => rw [hu] at h; cases h
      | error f =>
        rw [hu] at h
        have h : Except.error f = Except.error e := h
        injection h with h
        subst h
        exact unp_ne n _ _ hu
    · rw [if_neg c2] at h
      injection h with h
      exact h ▸ c2
theorem asmB_ne {x : PreS} {said rows : Bs} {e : Int} (h : asmB x said rows = .error e) : e ≠ 0 := by
 unfold asmB at h
 split at h
 · cases h; decide
 split at h
 · cases h; assumption
 split at h
 · rename_i f hu
   cases h
   exact unp_ne _ _ _ hu
 · split at h
   · cases h
   · cases h; assumption
theorem asmB_ok {x : PreS} {said rows : Bs} {b : BatS} (h : asmB x said rows = .ok b) : ((crcMore 0#32 (said.drop 21 ++ rows)).toNat : Int) = x.sum ∧ chk x.attr = 0 ∧ ∃ rs, unp x.count.toNat ⟨rows, 0, 0⟩ = .ok rs ∧ batErr (⟨x.base, x.leader, bitAt x.attr 3, bitAt x.attr 4, bitAt x.attr 5, x.last, x.first, x.maxt, x.prod, x.epoch, x.seq, rs⟩ : BatS) = 0 ∧ b = (⟨x.base, x.leader, bitAt x.attr 3, bitAt x.attr 4, bitAt x.attr 5, x.last, x.first, x.maxt, x.prod, x.epoch, x.seq, rs⟩ : BatS) := by
 unfold asmB at h
 split at h
 · cases h
 rename_i h1
 split at h
 · cases h
 rename_i h2
 have h1 : ((crcMore 0#32 (said.drop 21 ++ rows)).toNat : Int) = x.sum := by
   by_cases hh : ((crcMore 0#32 (said.drop 21 ++ rows)).toNat : Int) = x.sum
   · exact hh
   · exact absurd hh h1
 have h2 : chk x.attr = 0 := by
   by_cases hh : chk x.attr = 0
   · exact hh
   · exact absurd hh h2
 split at h
 · cases h
 · rename_i rs hu
   split at h
   · rename_i hb
     cases h
     exact ⟨h1, h2, rs, hu, hb, rfl⟩
   · cases h

end Go.Proofs.Ytngojlinfdokpaa

/- A text. -/
namespace Go.Proofs.Ytngojlinfdokpaa
open Go.RowKit

end Go.Proofs.Ytngojlinfdokpaa

/- A text. -/
namespace Go.Proofs.Ytngojlinfdokpaa
open Go.RowKit

theorem encInts_append (a b : List (Int × Nat)) : encInts (a ++ b) = encInts a ++ encInts b := List.flatMap_append
theorem FitsAll.nil : FitsAll [] := fun _ hx => by cases hx
theorem FitsAll.append {a b : List (Int × Nat)} (h : FitsAll a) (k : FitsAll b) : FitsAll (a ++ b) := fun x hx => (List.mem_append.1 hx).elim (h x) (k x)
theorem FitsAll.one {n : Int} {z : Nat} (h : fits n z) : FitsAll [(n, z)] := fun x hx => by simp at hx; subst hx; exact h
theorem sumItem_fits (n : Int) (h0 : ¬ n < 0) (h1 : ¬ 4294967295 < n) : fits (sumItem n) 4 := by
 have e4 : half 4 = 2147483648 := by decide
 unfold fits sumItem
 rw [if_neg (by omega)]
 refine ⟨by decide, by decide, ?_⟩
 have : (4 : Int).toNat = 4 := rfl
 rw [this, e4]
 split <;> omega
theorem sumItem_bad (n : Int) (h : n < 0 ∨ 4294967295 < n) : ¬ fits (sumItem n) 4 := by
 have e : sumItem n = 4294967296 := if_pos h
 rw [e]
 decide
end Go.Proofs.Ytngojlinfdokpaa

/- A text. -/
namespace Go.Proofs.Ytngojlinfdokpaa
open Go.RowKit

def preX (s : Bs) : PreS × Int := preOfL (intsOf preSizes s)
def rePre (s : Bs) : Except Int PreS := if s.length < 61 then .error 1 else if (preX s).2 = 2 then (if (preX s).1.len < 49 then .error 4 else if (preX s).1.count < 0 then .error 10 else .ok (preX s).1) else .error 6
theorem InS.fail_stuck_Pre6 {i : InS} (h : i.err ≠ 0) (e : Int) : i.fail e = i := if_neg h
theorem InS.fail_ok0 (s : Bs) (p : Nat) (e : Int) : (⟨s, p, 0⟩ : InS).fail e = ⟨s, p, e⟩ := rfl
theorem preChk_stuck (x : PreS) (m : Int) {i : InS} (h : i.err ≠ 0) : preChk x m i = i := by
 unfold preChk
 simp only [InS.fail_stuck_Pre6 h, ite_self]
theorem pre_okA (s : Bs) (pos : Nat) (hp : pos + 61 ≤ s.length) : (⟨s, pos, 0⟩ : InS).pre = match rePre (s.drop pos) with | .ok x => (x, ⟨s, pos + 61, 0⟩) | .error e => (PreS.zero, ⟨s, pos + 61, e⟩) := by
 have h1 := ints_ok preSizes s pos (by decide) hp
 have h2 : preSizes.sum = 61 := rfl
 rw [h2] at h1
 unfold InS.pre
 rw [h1]
 unfold rePre preX
 rw [if_neg (by rw [List.length_drop]; omega)]
 obtain ⟨x, m⟩ := preOfL (intsOf preSizes (s.drop pos))
 simp only [preChk]
 by_cases hm : m = 2
 · rw [if_pos hm, if_pos hm]
   by_cases hl : x.len < 49
   · rw [if_pos hl, if_pos hl, InS.fail_ok0, InS.fail_stuck_Pre6 (show (4 : Int) ≠ 0 by decide), ite_self, if_neg (show ¬ (4 : Int) = 0 by decide)]
   · rw [if_neg hl, if_neg hl]
     by_cases hc : x.count < 0
     · rw [if_pos hc, if_pos hc, InS.fail_ok0, if_neg (show ¬ (10 : Int) = 0 by decide)]
     · rw [if_neg hc, if_neg hc, if_pos rfl]
 · have hs : ∀ e : Int, (⟨s, pos + 61, 6⟩ : InS).fail e = ⟨s, pos + 61, 6⟩ := fun e => InS.fail_stuck_Pre6 (show (6 : Int) ≠ 0 by decide) e
   rw [if_neg hm, if_neg hm, InS.fail_ok0]
   simp only [hs, ite_self]
   rw [if_neg (show ¬ (6 : Int) = 0 by decide)]
theorem pre_shortA (s : Bs) (pos : Nat) (hp : pos ≤ s.length) (hs : s.length < pos + 61) : ∃ q, q ≤ s.length ∧ (⟨s, pos, 0⟩ : InS).pre = (PreS.zero, ⟨s, q, 1⟩) := by
 obtain ⟨q, h1, h2⟩ := ints_short preSizes s pos (by decide) hp hs
 refine ⟨q, h1, ?_⟩
 unfold InS.pre
 rw [h2, preChk_stuck _ _ (show (1 : Int) ≠ 0 by decide)]
 simp only
 rw [if_neg (by decide)]
theorem rePre_short {s : Bs} (h : s.length < 61) : rePre s = .error 1 := if_pos h
theorem intsOf_take : ∀ (l : List Nat) (s : Bs) (n : Nat), l.sum ≤ n → intsOf l (s.take n) = intsOf l s
  | [], _, _, _ => rfl
  | k :: t, s, n, h => by
    rw [List.sum_cons] at h
    unfold intsOf
    rw [List.take_take, Nat.min_eq_left (by omega), List.drop_take, intsOf_take t (s.drop k) (n - k) (by omega)]
theorem rePre_take (s : Bs) (h : 61 ≤ s.length) : rePre (s.take 61) = rePre s := by
 unfold rePre preX
 rw [intsOf_take preSizes s 61 (by decide), List.length_take, Nat.min_eq_left h, if_neg (show ¬ 61 < 61 by decide), if_neg (show ¬ s.length < 61 by omega)]
theorem sInt_range4 (s : Bs) (h : s.length ≤ 4) : -2147483648 ≤ sInt s ∧ sInt s < 2147483648 := by
 rcases (by omega : s.length = 0 ∨ (1 ≤ s.length ∧ s.length ≤ 4)) with h0 | h0
 · have : s = [] := List.length_eq_zero_iff.1 h0
   subst this
   decide
 · have h1 := (sInt_fits s s.length h0.1 (by omega) rfl).2.2
   rw [Int.toNat_natCast] at h1
   have h2 : half s.length ≤ 2147483648 := by
    rcases (by omega : s.length = 1 ∨ s.length = 2 ∨ s.length = 3 ∨ s.length = 4) with h | h | h | h <;> rw [h] <;> decide
   omega
theorem preX_eq (s : Bs) : preX s = (⟨sInt (s.take 8), sInt ((s.drop 8).take 4), sInt ((s.drop 12).take 4), sInt ((s.drop 17).take 4) % 4294967296, sInt ((s.drop 21).take 2), sInt ((s.drop 23).take 4), sInt ((s.drop 27).take 8), sInt ((s.drop 35).take 8), sInt ((s.drop 43).take 8), sInt ((s.drop 51).take 2), sInt ((s.drop 53).take 4), sInt ((s.drop 57).take 4)⟩, sInt ((s.drop 16).take 1)) := by
 unfold preX preSizes
 simp only [intsOf, List.drop_drop, Nat.reduceAdd]
 rfl
theorem preX_len (s : Bs) : -2147483648 ≤ (preX s).1.len ∧ (preX s).1.len < 2147483648 := by
 rw [preX_eq]
 exact sInt_range4 _ (by rw [List.length_take]; omega)
def peekS (s : Bs) : Int × Int := if s.length < 61 then (0, 0) else match rePre s with | .ok x => (x.len + 12, 0) | .error e => (0, e)
theorem rePre_ok {s : Bs} {x : PreS} (h : rePre s = .ok x) : 61 ≤ s.length ∧ (preX s).1 = x ∧ (preX s).2 = 2 ∧ 49 ≤ x.len ∧ 0 ≤ x.count := by
 unfold rePre at h
 split at h
 · cases h
 split at h
 · split at h
   · cases h
   · split at h
     · cases h
     · cases h
       exact ⟨by omega, rfl, by assumption, by omega, by omega⟩
 · cases h
theorem rePre_err {s : Bs} {e : Int} (h : rePre s = .error e) : e ≠ 0 := by
 unfold rePre at h
 split at h
 · cases h; decide
 split at h
 · split at h
   · cases h; decide
   · split at h
     · cases h; decide
     · cases h
 · cases h; decide

theorem prefix_readQ (p : Nat) (i j : InS) (x : PreS) (hx : i.pre = (x, j)) {W0 w : World} {K : Know} {L : List Res} (h : St W0 w K (.inp p i :: L)) :
  Calls Try.prog 60 #[inPtr p] w fun en w' => en = .returned (.agg #[.int .i64 x.base, .int .i64 x.len, .int .i64 x.leader, .int .i64 x.sum, .int .i64 x.attr, .int .i64 x.last, .int .i64 x.first, .int .i64 x.maxt, .int .i64 x.prod, .int .i64 x.epoch, .int .i64 x.seq, .int .i64 x.count]) ∧ St W0 w' K (.inp p j :: L) := by
 have := prefix_read p i h; rw [hx] at this; exact this

set_option maxHeartbeats 1000000 in
set_option maxRecDepth 100000 in
theorem prefix_peek_short (s : Bs) (hs : s.length < 61) {W0 w : World} {K : Know} {L : List Res} (h : St W0 w K L) :
  Calls Try.prog 44 #[.string (bb s)] w fun en w' => en = .returned (.tuple #[.int .i64 0, .int .i64 0]) ∧ St W0 w' K L := by
 have hd : decide ((s.length : Int) < 61) = true := decide_eq_true (by omega)
 have H := Lib.hid h
 clear h hs
 go_enter Try.func44, Try.ntmps44
 go_wp2
 go_ret2
 exact ⟨rfl, H.out⟩

set_option maxHeartbeats 1000000 in
set_option maxRecDepth 100000 in
theorem prefix_peek_ok (s : Bs) (x : PreS) (j : InS) (h61 : 61 ≤ s.length) (hl : s.length ≤ 140737488355328) (hp : (⟨s.take 61, 0, 0⟩ : InS).pre = (x, j)) (hj : j.err = 0) (hx : -2147483648 ≤ x.len ∧ x.len < 2147483648) {W0 w : World} {K : Know} {L : List Res} (h : St W0 w K L) :
  Calls Try.prog 44 #[.string (bb s)] w fun en w' => en = .returned (.tuple #[.int .i64 (x.len + 12), .int .i64 0]) ∧ St W0 w' K L := by
 have hd : decide ((s.length : Int) < 61) = false := decide_eq_false (by omega)
 have H := Lib.hid h
 have HP := Lib.hid hp
 have HJ := Lib.hid hj
 have HL := Lib.hid (show (s.take 61).length ≤ 140737488355328 by rw [List.length_take]; omega)
 obtain ⟨b1, b2⟩ := hx
 clear h hp hj hl 
 go_enter Try.func44, Try.ntmps44
 go_wp2_with (first
  | (go_at_call 45; refine (s_new _ HL.out H.out).mono ?_; rintro e wn ⟨bi, rfl, h⟩; replace H := Lib.hid h; clear h)
  | (go_at_call 60; (with_reducible refine (prefix_readQ _ _ j x HP.out H.out).mono ?_); rintro e wn ⟨rfl, h⟩; replace H := Lib.hid h; clear h; replace H := Lib.hid (H.out.allocRaw #[.int .i64 x.base, .int .i64 x.len, .int .i64 x.leader, .int .i64 x.sum, .int .i64 x.attr, .int .i64 x.last, .int .i64 x.first, .int .i64 x.maxt, .int .i64 x.prod, .int .i64 x.epoch, .int .i64 x.seq, .int .i64 x.count] 73).p1)
  | (go_at_call 47; (with_reducible refine (s_err _ _ H.out).mono ?_); (repeat first | rw [HJ.out]); rintro e wn ⟨rfl, h⟩; replace H := Lib.hid h; clear h; have y1 := H.out.p1.rawCell 1; simp at y1))
 go_ret2
 exact ⟨rfl, H.out.drop.drop⟩

set_option maxHeartbeats 1000000 in
set_option maxRecDepth 100000 in
theorem prefix_peek_bad (s : Bs) (x : PreS) (j : InS) (h61 : 61 ≤ s.length) (hl : s.length ≤ 140737488355328) (hp : (⟨s.take 61, 0, 0⟩ : InS).pre = (x, j)) (e : Int) (hj : j.err = e) (he : e ≠ 0) {W0 w : World} {K : Know} {L : List Res} (h : St W0 w K L) :
  Calls Try.prog 44 #[.string (bb s)] w fun en w' => en = .returned (.tuple #[.int .i64 0, .int .i64 e]) ∧ St W0 w' K L := by
 have hd : decide ((s.length : Int) < 61) = false := decide_eq_false (by omega)
 have H := Lib.hid h
 have HP := Lib.hid hp
 have HJ := Lib.hid hj
 have HL := Lib.hid (show (s.take 61).length ≤ 140737488355328 by rw [List.length_take]; omega)
 have heb : (e != 0) = true := by rw [bne_iff_ne]; exact he
 clear h hp hj hl he
 go_enter Try.func44, Try.ntmps44
 go_wp2_with (first
  | (go_at_call 45; refine (s_new _ HL.out H.out).mono ?_; rintro e wn ⟨bi, rfl, h⟩; replace H := Lib.hid h; clear h)
  | (go_at_call 60; (with_reducible refine (prefix_readQ _ _ j x HP.out H.out).mono ?_); rintro e wn ⟨rfl, h⟩; replace H := Lib.hid h; clear h; replace H := Lib.hid (H.out.allocRaw #[.int .i64 x.base, .int .i64 x.len, .int .i64 x.leader, .int .i64 x.sum, .int .i64 x.attr, .int .i64 x.last, .int .i64 x.first, .int .i64 x.maxt, .int .i64 x.prod, .int .i64 x.epoch, .int .i64 x.seq, .int .i64 x.count] 73).p1)
  | (go_at_call 47; (with_reducible refine (s_err _ _ H.out).mono ?_); (repeat first | rw [HJ.out]); rintro e wn ⟨rfl, h⟩; replace H := Lib.hid h; clear h; have y1 := H.out.p1.rawCell 1; simp at y1))
 go_ret2
 exact ⟨rfl, H.out.drop.drop⟩

theorem prefix_peek (s : Bs) (n e : Int) (hp : peekS s = (n, e)) (hl : s.length ≤ 140737488355328) {W0 w : World} {K : Know} {L : List Res} (h : St W0 w K L) :
   Calls Try.prog 44 #[.string (bb s)] w fun en w' => en = .returned (.tuple #[.int .i64 n, .int .i64 e]) ∧ St W0 w' K L := by
 unfold peekS at hp
 by_cases h1 : s.length < 61
 · rw [if_pos h1] at hp
   cases hp
   exact prefix_peek_short s h1 h
 · rw [if_neg h1] at hp
   have h61 : (s.take 61).length = 61 := by rw [List.length_take]; omega
   have hp2 := pre_okA (s.take 61) 0 (by omega)
   rw [List.drop_zero, rePre_take s (by omega)] at hp2
   cases hr : rePre s with
   | ok x =>
    rw [hr] at hp hp2
    cases hp
    have hx := preX_len s
    rw [(rePre_ok hr).2.1] at hx
    exact prefix_peek_ok s x _ (by omega) hl hp2 rfl hx h
   | error e' =>
    rw [hr] at hp hp2
    cases hp
    exact prefix_peek_bad s _ _ (by omega) hl hp2 e rfl (rePre_err hr) h

end Go.Proofs.Ytngojlinfdokpaa

/- A text. -/
namespace Go.Proofs.Ytngojlinfdokpaa
open Go.RowKit

def reBat (s : Bs) : Except Int (BatS × Nat) := match rePre s with
  | .error e => .error e
  | .ok x => if s.length < 61 + (x.len - 49).toNat then .error 1 else match asmB x (s.take 61) ((s.drop 61).take (x.len - 49).toNat) with
    | .error e => .error e
    | .ok b => .ok (b, 61 + (x.len - 49).toNat)
theorem pre_ranges {s : Bs} {x : PreS} (h : rePre s = .ok x) : (-2147483648 ≤ x.len ∧ x.len < 2147483648) ∧ 49 ≤ x.len ∧ R64 x.attr ∧ 0 ≤ x.count ∧ x.count ≤ 2147483647 ∧ x.first ≤ 9223372036854775807 := by
 obtain ⟨h1, h2, _, h3, h4⟩ := rePre_ok h
 have hl := preX_len s
 rw [h2] at hl
 rw [preX_eq] at h2
 have h2 := h2.symm
 subst h2
 simp only at *
 have a := sInt_range ((s.drop 21).take 2) (by rw [List.length_take]; omega)
 have b := sInt_range ((s.drop 27).take 8) (by rw [List.length_take]; omega)
 have c := sInt_range4 ((s.drop 57).take 4) (by rw [List.length_take]; omega)
 exact ⟨hl, h3, a, h4, by omega, by omega⟩
theorem reBat_ne {s : Bs} {e : Int} (h : reBat s = .error e) : e ≠ 0 := by
 unfold reBat at h
 split at h
 · rename_i f hp
   cases h
   exact rePre_err hp
 · split at h
   · cases h; decide
   · split at h
     · rename_i f ha
       cases h
       exact asmB_ne ha
     · cases h
theorem reBat_ok {s : Bs} {b : BatS} {n : Nat} (h : reBat s = .ok (b, n)) : ∃ x, rePre s = .ok x ∧ n = 61 + (x.len - 49).toNat ∧ n ≤ s.length ∧ asmB x (s.take 61) ((s.drop 61).take (x.len - 49).toNat) = .ok b := by
 unfold reBat at h
 split at h
 · cases h
 · rename_i x hp
   split at h
   · cases h
   · split at h
     · cases h
     · rename_i c ha
       cases h
       exact ⟨x, hp, rfl, by omega, ha⟩

end Go.Proofs.Ytngojlinfdokpaa

/- A text. -/
namespace Go.Proofs.Ytngojlinfdokpaa
open Go.RowKit

def firstS (R : Bs) : Except Int (Option (BatS × Nat)) :=
  if R.length < 61 then .ok none else match rePre R with
  | .error e => .error e
  | .ok x => if R.length < 61 + (x.len - 49).toNat then .ok none else match asmB x (R.take 61) ((R.drop 61).take (x.len - 49).toNat) with
    | .error e => .error e
    | .ok b => .ok (some (b, 61 + (x.len - 49).toNat))
theorem rePre_app (R M : Bs) (h : 61 ≤ R.length) : rePre (R ++ M) = rePre R := by
 rw [← rePre_take (R ++ M) (by rw [List.length_append]; omega), ← rePre_take R h, List.take_append_of_le_length h]
theorem fs_app {R : Bs} (M : Bs) (h : firstS R ≠ .ok none) : firstS (R ++ M) = firstS R := by
 unfold firstS at h ⊢
 by_cases c1 : R.length < 61
 · rw [if_pos c1] at h; exact absurd rfl h
 rw [if_neg c1] at h ⊢
 rw [if_neg (by rw [List.length_append]; omega), rePre_app R M (by omega)]
 cases hp : rePre R with
 | error e2 => rfl
 | ok x =>
  rw [hp] at h
  simp only at h ⊢
  by_cases c2 : R.length < 61 + (x.len - 49).toNat
  · rw [if_pos c2] at h; exact absurd rfl h
  rw [if_neg c2]
  rw [if_neg (by rw [List.length_append]; omega), List.take_append_of_le_length (by omega), List.drop_append_of_le_length (by omega), List.take_append_of_le_length (by rw [List.length_drop]; omega)]
theorem fs_err {R : Bs} {e : Int} (h : firstS R = .error e) : e ≠ 0 := by
 unfold firstS at h
 by_cases c1 : R.length < 61
 · rw [if_pos c1] at h; cases h
 rw [if_neg c1] at h
 cases hp : rePre R with
 | error e2 => rw [hp] at h; cases h; exact rePre_err hp
 | ok x =>
  rw [hp] at h
  simp only at h
  by_cases c2 : R.length < 61 + (x.len - 49).toNat
  · rw [if_pos c2] at h; cases h
  rw [if_neg c2] at h
  cases ha : asmB x (R.take 61) ((R.drop 61).take (x.len - 49).toNat) with
  | error e2 => rw [ha] at h; cases h; exact asmB_ne ha
  | ok b => rw [ha] at h; cases h
def LiteB (N : Nat) (b : BatS) : Prop := b.recs.length ≤ N ∧ ∀ x ∈ b.recs, x.sum ≤ N
theorem fs_some {R : Bs} {b : BatS} {n : Nat} (h : firstS R = .ok (some (b, n))) : (61 ≤ n ∧ n ≤ R.length) ∧ LiteB R.length b := by
 unfold firstS at h
 by_cases c1 : R.length < 61
 · rw [if_pos c1] at h; cases h
 rw [if_neg c1] at h
 cases hp : rePre R with
 | error e2 => rw [hp] at h; cases h
 | ok x =>
  rw [hp] at h
  simp only at h
  by_cases c2 : R.length < 61 + (x.len - 49).toNat
  · rw [if_pos c2] at h; cases h
  rw [if_neg c2] at h
  cases ha : asmB x (R.take 61) ((R.drop 61).take (x.len - 49).toNat) with
  | error e2 => rw [ha] at h; cases h
  | ok b2 =>
   rw [ha] at h
   cases h
   refine ⟨⟨by omega, by omega⟩, ?_⟩
   obtain ⟨_, _, rs, hu, _, hb⟩ := asmB_ok ha
   obtain ⟨_, h2, h3⟩ := unp_fit _ _ 0 rs (Nat.zero_le _) hu
   rw [List.length_take, List.length_drop] at h2
   have hr : b.recs = rs := by rw [hb]
   refine ⟨by rw [hr]; omega, fun y hy => ?_⟩
   have := (h3 y (by rw [← hr]; exact hy)).2.2
   rw [List.length_take, List.length_drop] at this
   omega
theorem fs_take {R : Bs} {b : BatS} {n k : Nat} (h : firstS R = .ok (some (b, n))) (hk : n ≤ k) : firstS (R.take k) = .ok (some (b, n)) := by
 by_cases hkl : R.length ≤ k
 · rw [List.take_of_length_le hkl]; exact h
 by_cases hn : firstS (R.take k) = .ok none
 · exfalso
   have hs := h
   unfold firstS at hs hn
   by_cases c1 : R.length < 61
   · rw [if_pos c1] at hs; cases hs
   have h61 := (fs_some h).1
   have hl : (R.take k).length = k := by rw [List.length_take]; omega
   rw [if_neg c1] at hs
   rw [if_neg (by rw [hl]; omega)] at hn
   have hpp := rePre_app (R.take k) (R.drop k) (by rw [hl]; omega)
   rw [List.take_append_drop] at hpp
   rw [← hpp] at hn
   cases hp : rePre R with
   | error e2 => rw [hp] at hs; cases hs
   | ok x =>
    rw [hp] at hs hn
    simp only at hs hn
    by_cases c2 : R.length < 61 + (x.len - 49).toNat
    · rw [if_pos c2] at hs; cases hs
    rw [if_neg c2] at hs
    have hm : 61 + (x.len - 49).toNat = n := by
     cases ha : asmB x (R.take 61) ((R.drop 61).take (x.len - 49).toNat) with
     | error e2 => rw [ha] at hs; cases hs
     | ok b2 => rw [ha] at hs; cases hs; rfl
    rw [if_neg (by rw [hl]; omega)] at hn
    cases ha : asmB x ((R.take k).take 61) (((R.take k).drop 61).take (x.len - 49).toNat) with
    | error e2 => rw [ha] at hn; cases hn
    | ok b2 => rw [ha] at hn; cases hn
 · have := fs_app (R.drop k) hn
   rw [List.take_append_drop] at this
   rw [← this]; exact h
def scanN : Nat → Bs → List BatS × Bs × Int
  | 0, R => ([], R, 0)
  | f + 1, R => match firstS R with
    | .error e => ([], R, e)
    | .ok none => ([], R, 0)
    | .ok (some y) => (y.1 :: (scanN f (R.drop y.2)).1, (scanN f (R.drop y.2)).2)
theorem scanN_fuel : ∀ (f g : Nat) (R : Bs), R.length ≤ f → R.length ≤ g → scanN f R = scanN g R := by
 intro f
 induction f with
 | zero =>
  intro g R h1 _
  have h0 : firstS R = .ok none := by unfold firstS; rw [if_pos (by omega)]
  cases g with
  | zero => rfl
  | succ g => unfold scanN; rw [h0]
 | succ f ih =>
  intro g R h1 h2
  cases g with
  | zero =>
   have h0 : firstS R = .ok none := by unfold firstS; rw [if_pos (by omega)]
   unfold scanN; rw [h0]
  | succ g =>
   unfold scanN
   cases hf : firstS R with
   | error e => rfl
   | ok o =>
    cases o with
    | none => rfl
    | some y =>
     obtain ⟨b, n⟩ := y
     have h3 := (fs_some hf).1
     simp only
     rw [ih g (R.drop n) (by rw [List.length_drop]; omega) (by rw [List.length_drop]; omega)]
def scanS (R : Bs) : List BatS × Bs × Int := scanN R.length R
theorem scanS_step (R : Bs) : scanS R = match firstS R with
    | .error e => ([], R, e)
    | .ok none => ([], R, 0)
    | .ok (some y) => (y.1 :: (scanS (R.drop y.2)).1, (scanS (R.drop y.2)).2) := by
  have h1 : scanS R = scanN (R.length + 1) R := scanN_fuel _ _ R (Nat.le_refl _) (by omega)
  rw [h1]
  show (match firstS R with
    | .error e => ([], R, e)
    | .ok none => ([], R, 0)
    | .ok (some y) => (y.1 :: (scanN R.length (R.drop y.2)).1, (scanN R.length (R.drop y.2)).2)) = _
  cases hf : firstS R with
  | error e => rfl
  | ok o =>
    cases o with
    | none => rfl
    | some y =>
      have : scanN R.length (R.drop y.2) = scanS (R.drop y.2) := scanN_fuel _ _ _ (by rw [List.length_drop]; omega) (Nat.le_refl _)
      simp only
      rw [this]
theorem scanS_some {R : Bs} {b : BatS} {n : Nat} (h : firstS R = .ok (some (b, n))) : scanS R = (b :: (scanS (R.drop n)).1, (scanS (R.drop n)).2) := by
 rw [scanS_step, h]
theorem scanS_none {R : Bs} (h : firstS R = .ok none) : scanS R = ([], R, 0) := by rw [scanS_step, h]
theorem scanS_err {R : Bs} {e : Int} (h : firstS R = .error e) : scanS R = ([], R, e) := by rw [scanS_step, h]
theorem scan_app (M : Bs) : ∀ (f : Nat) (R : Bs), R.length ≤ f → scanS (R ++ M) = if (scanS R).2.2 ≠ 0 then ((scanS R).1, (scanS R).2.1 ++ M, (scanS R).2.2) else ((scanS R).1 ++ (scanS ((scanS R).2.1 ++ M)).1, (scanS ((scanS R).2.1 ++ M)).2) := by
 intro f
 induction f with
 | zero =>
  intro R h
  have h0 : firstS R = .ok none := by unfold firstS; rw [if_pos (by omega)]
  rw [scanS_none h0]
  simp
 | succ f ih =>
  intro R h
  cases hf : firstS R with
  | error e =>
   have h1 := fs_app M (by rw [hf]; simp : firstS R ≠ .ok none)
   rw [hf] at h1
   rw [scanS_err h1, scanS_err hf]
   simp only
   rw [if_pos (fs_err hf)]
  | ok o =>
   cases o with
   | none =>
    rw [scanS_none hf]
    simp
   | some y =>
    obtain ⟨b, n⟩ := y
    have h1 := fs_app M (by rw [hf]; simp : firstS R ≠ .ok none)
    rw [hf] at h1
    have h3 := (fs_some hf).1
    rw [scanS_some h1, scanS_some hf, List.drop_append_of_le_length h3.2, ih (R.drop n) (by rw [List.length_drop]; omega)]
    simp only
    by_cases c : (scanS (R.drop n)).2.2 ≠ 0
    · rw [if_pos c, if_pos c]
    · rw [if_neg c, if_neg c, List.cons_append]
theorem scan_rest : ∀ (f : Nat) (R : Bs), R.length ≤ f → ∃ k, k ≤ R.length ∧ (scanS R).2.1 = R.drop k ∧ ((scanS R).2.2 = 0 → firstS (R.drop k) = .ok none) ∧ ((scanS R).2.2 ≠ 0 → firstS (R.drop k) = .error (scanS R).2.2) ∧ scanS (R.take k) = ((scanS R).1, [], 0) ∧ (∀ b ∈ (scanS R).1, LiteB R.length b) ∧ 61 * (scanS R).1.length ≤ k := by
 intro f
 induction f with
 | zero =>
  intro R h
  have h0 : firstS R = .ok none := by unfold firstS; rw [if_pos (by omega)]
  refine ⟨0, Nat.zero_le _, ?_⟩
  rw [scanS_none h0, List.drop_zero, List.take_zero]
  exact ⟨rfl, fun _ => h0, fun hh => absurd rfl hh, scanS_none (by unfold firstS; rw [if_pos (by decide)]), (fun b hb => by cases hb), by simp⟩
 | succ f ih =>
  intro R h
  cases hf : firstS R with
  | error e =>
   refine ⟨0, Nat.zero_le _, ?_⟩
   rw [scanS_err hf, List.drop_zero, List.take_zero]
   exact ⟨rfl, fun hh => absurd hh (fs_err hf), fun _ => hf, scanS_none (by unfold firstS; rw [if_pos (by decide)]), (fun b hb => by cases hb), by simp⟩
  | ok o =>
   cases o with
   | none =>
    refine ⟨0, Nat.zero_le _, ?_⟩
    rw [scanS_none hf, List.drop_zero, List.take_zero]
    exact ⟨rfl, fun _ => hf, fun hh => absurd rfl hh, scanS_none (by unfold firstS; rw [if_pos (by decide)]), (fun b hb => by cases hb), by simp⟩
   | some y =>
    obtain ⟨b, n⟩ := y
    obtain ⟨h3, hlb⟩ := fs_some hf
    obtain ⟨k, a1, a2, a3, a4, a5, a6, a7⟩ := ih (R.drop n) (by rw [List.length_drop]; omega)
    rw [List.length_drop] at a1
    rw [List.drop_drop] at a2 a3 a4
    refine ⟨n + k, by omega, ?_⟩
    rw [scanS_some hf]
    refine ⟨a2, a3, a4, ?_, ?_, by simp only [List.length_cons]; omega⟩
    · have h4 : firstS (R.take (n + k)) = .ok (some (b, n)) := fs_take hf (by omega)
      have h5 : (R.take (n + k)).drop n = (R.drop n).take k := by rw [List.drop_take, Nat.add_sub_cancel_left]
      rw [scanS_some h4, h5, a5]
    · intro x hx
      rcases List.mem_cons.1 hx with rfl | hx
      · exact hlb
      · have := a6 x hx
        rw [List.length_drop] at this
        exact ⟨by have := this.1; omega, fun z hz => by have := this.2 z hz; omega⟩
def finS (R : Bs) : List BatS × Nat × Bs × Int := ((scanS R).1, R.length - (scanS R).2.1.length, (if (scanS R).2.2 ≠ 0 then [] else (scanS R).2.1), (scanS R).2.2)
theorem fin_nil : finS [] = ([], 0, [], 0) := by
 have h0 : firstS [] = .ok none := by unfold firstS; rw [if_pos (by decide)]
 unfold finS
 rw [scanS_none h0]
 rfl
theorem fin_bad (R c : Bs) (h : (finS R).2.2.2 ≠ 0) : finS (R ++ c) = finS R := by
 have h0 : (scanS R).2.2 ≠ 0 := h
 obtain ⟨k, a1, a2, _⟩ := scan_rest _ R (Nat.le_refl _)
 unfold finS
 rw [scan_app c _ R (Nat.le_refl _), if_pos h0]
 simp only
 rw [if_pos h0, if_pos h0, List.length_append, List.length_append]
 congr 2
 rw [a2, List.length_drop]
 omega
theorem fin_good (R c : Bs) (h : (finS R).2.2.2 = 0) : finS (R ++ c) = ((finS R).1 ++ (scanS ((finS R).2.2.1 ++ c)).1, (finS R).2.1 + (((finS R).2.2.1 ++ c).length - (scanS ((finS R).2.2.1 ++ c)).2.1.length), (if (scanS ((finS R).2.2.1 ++ c)).2.2 ≠ 0 then [] else (scanS ((finS R).2.2.1 ++ c)).2.1), (scanS ((finS R).2.2.1 ++ c)).2.2) := by
 have h0 : ¬ (scanS R).2.2 ≠ 0 := by
  have : (scanS R).2.2 = 0 := h
  rw [this]; simp
 obtain ⟨k, a1, a2, _⟩ := scan_rest _ R (Nat.le_refl _)
 have hr : (finS R).2.2.1 = (scanS R).2.1 := by unfold finS; simp only; rw [if_neg h0]
 have hv : (finS R).2.1 = R.length - (scanS R).2.1.length := rfl
 have hb : (finS R).1 = (scanS R).1 := rfl
 rw [hr, hv, hb]
 unfold finS
 rw [scan_app c _ R (Nat.le_refl _), if_neg h0]
 simp only
 congr 2
 obtain ⟨k2, b1, b2, _⟩ := scan_rest _ ((scanS R).2.1 ++ c) (Nat.le_refl _)
 rw [List.length_append] at b1
 have l2 := congrArg List.length b2
 rw [List.length_drop, List.length_append] at l2
 have l1 := congrArg List.length a2
 rw [List.length_drop] at l1
 rw [List.length_append, List.length_append]
 omega
def stopS (rest : Bs) (e : Int) : Int := if e ≠ 0 then 2 else if rest ≠ [] then 1 else 0

end Go.Proofs.Ytngojlinfdokpaa
