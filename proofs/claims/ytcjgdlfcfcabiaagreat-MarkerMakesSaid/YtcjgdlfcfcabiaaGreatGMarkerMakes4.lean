/- Contracts of cursitorref10. -/
import Derived.Test.YtcjgdlfcfcabiaaGreatGMarkerMakes3
import Derived.Test.YtcjgdlfcfcabiaaGreatGMarkerMakes1
import Derived.Test.YtcjgdlfcfcabiaaGreatBase
import Derived.Test.YtcjgdlfcfcabiaaGreatS1
import Derived.Deep.RegionWith
import Derived.Test.YtcjgdlfcfcabiaaGreatSep
import Derived.Deep.MidRow
import Derived.Deep.RegionHeld3
import Derived.Deep.DeepCutAuto
import Derived.Test.YtcjgdlfcfcabiaaGreatRef06b
import Derived.Test.YtcjgdlfcfcabiaaGreatL06F
import Derived.Test.YtcjgdlfcfcabiaaGreatGMarkerMakes2
/- Records of a batch, read. -/
namespace Go.Proofs.YtcjgdlfcfcabiaaGreat
open Go.RowKit

set_option maxHeartbeats 2000000 in
set_option maxRecDepth 100000 in
theorem bat_unpack_ok (rows : Bs) (n : Nat) (hn : n ≤ 2147483647) (hsl : rows.length ≤ 140737488355328) (rs : List RecS) (hu : unp n ⟨rows, 0, 0⟩ = .ok rs) {W0 w : World} {K : Know} {L : List Res} (h : St W0 w K L) :
    Calls Tryz.prog 84 #[.string (bb rows), .int .i64 n] w fun en w' => ∃ (v : Value) (l : List (RecS × Value)), en = .returned (.tuple #[v, .int .i64 0]) ∧ l.map (·.1) = rs ∧ St W0 w' (K.and (Know.recs v l)) L := by
  obtain ⟨tot, htot⟩ : ∃ t, unp n ⟨rows, 0, 0⟩ = t := ⟨_, rfl⟩
  have HTT := Lib.hid (htot.symm.trans hu)
  have HT := Lib.hid (show preU [] (unp (n - 0) ⟨rows, 0, 0⟩) = tot by rw [preU_nil]; exact htot)
  have HSL := Lib.hid hsl
  have HNB := Lib.hid hn
  have H := Lib.hid h
  clear h hu htot hsl hn 
  go_enter Tryz.func84, Tryz.ntmps84
  go_wp2_with (go_at_call 22; (with_reducible refine (s_new rows HSL.out H.out).mono ?_); rintro e_ wn ⟨bi, rfl, h⟩; replace H := Lib.hid h; clear h)
  go_loopw [7, 11] (fun lv iv wr => ∃ (k : Nat) (acc : List (RecS × Value)) (i2 : InS) (K2 : Know), k ≤ n ∧ iv = .int .i64 k ∧ acc.length = k ∧ Hid (preU (acc.map (·.1)) (unp (n - k) i2) = tot) ∧ Hid (K2.has K) ∧ Hid (∀ x ∈ acc, K2.has (Know.flat RHdr x.2 3 x.1.hdrs)) ∧ St W0 wr K2 (.row lv 45 7 acc.length (acc.flatMap rcells) :: .inp bi i2 :: L)) (fun _ iv _ => n - (intOf iv).toNat)
  case atStart => exact ⟨0, [], _, K, Nat.zero_le _, rfl, rfl, HT, Lib.hid (Know.has_refl _), Lib.hid (fun x h => by cases h), H.out.nilRow 45 7⟩
  case round =>
    obtain ⟨k, acc, i2, K2, hk, rfl, hacc, HC, HK2, HALL, hst⟩ := hrel
    have HACC := Lib.hid hacc
    have HKB := Lib.hid (show k ≤ 2147483647 by have := HNB.out; omega)
    clear H hacc
    have H := Lib.hid hst
    clear hst
    obtain ⟨lf, hlf⟩ : ∃ m, i2.left = m := ⟨_, rfl⟩
    have HLF := Lib.hid hlf
    by_cases hlt : k < n
    · have hc := HC.out
      rw [show n - k = (n - (k + 1)) + 1 by omega] at hc
      have hc : preU (acc.map (·.1)) (if i2.left = 0 then .error 10 else if i2.record.2.err = 0 then consE i2.record.1 (unp (n - (k + 1)) i2.record.2) else .error i2.record.2.err) = tot := hc
      have hki : (k : Int) < (n : Int) := by omega
      have hnb : (n : Int) ≤ 2147483647 := by have := HNB.out; omega
      rw [hlf] at hc
      by_cases c1 : lf = 0
      · rw [if_pos c1] at hc
        have hc2 : Except.error 10 = tot := hc
        have hc3 := hc2.trans HTT.out
        cases hc3
      · rw [if_neg c1] at hc
        obtain ⟨⟨x, i3⟩, hx⟩ : ∃ r, i2.record = r := ⟨_, rfl⟩
        have HRD := Lib.hid hx
        rw [hx] at hc
        simp only at hc
        have bl : ((lf : Int) == 0) = false := by rw [beq_eq_false_iff_ne]; omega
        have bl2 : ¬ (lf = 0) := c1
        by_cases c2 : i3.err = 0
        · rw [if_pos c2, ← preU_snoc] at hc
          have HER := Lib.hid c2
          have HC2 := Lib.hid hc
          clear hc hx c1 c2 hlf
          go_wp2_with (first
    | (go_at_call 54; (with_reducible refine (s_leftQ bi i2 _ HLF.out H.out.p1).mono ?_); rintro e_ wn ⟨rfl, h⟩; replace H := Lib.hid h; clear h; replace H := Lib.hid H.out.p1)
    | (go_at_call 103; (with_reducible refine (rec_readQ bi i2 x i3 HRD.out H.out.p1).mono ?_); rintro e_ wn ⟨v1, rfl, h⟩; obtain ⟨q1, c1, hv1⟩ := flat_form (Know.has_right (Know.has_refl _)) h; subst hv1; replace H := Lib.hid h; clear h; replace H := Lib.hid H.out.p1)
    | (at_builtin; refine wpl_app1_st rfl _ _ 22 rfl 45 Tryz.underlying22 elem_rec _ _ _ rfl H.out [.int .i64 x.time, .int .i64 x.off, .bool x.key.null, .string (bb x.key.data), .bool x.val.null, .string (bb x.val.data), .slice q1 x.hdrs.length c1] 45 rfl rfl (by simp [Value.oneCell']) (by have := HACC.out; have := HKB.out; unfold maxLen; omega) (by have := HACC.out; have := HKB.out; omega) ?_; intro v' w' h; replace H := Lib.hid h; clear h)
    | (go_at_call 51; (with_reducible refine (s_errE bi i3 _ HER.out H.out.p1).mono ?_); rintro e_ wn ⟨rfl, h⟩; replace H := Lib.hid h; clear h; replace H := Lib.hid H.out.p1))
          go_roundw
          case rel => exact ⟨k + 1, acc ++ [(x, .slice q1 x.hdrs.length c1)], i3, K2.and (Know.flat RHdr (.slice q1 x.hdrs.length c1) 3 x.hdrs), hlt, by go_num, by rw [List.length_append, HACC.out]; rfl, Lib.hid (by rw [List.map_append]; exact HC2.out), Lib.hid (Know.has_trans (Know.has_left (Know.has_refl _)) HK2.out), Lib.hid (fun y hy => by
            rcases List.mem_append.1 hy with hy | hy
            · exact Know.has_trans (Know.has_left (Know.has_refl _)) (HALL.out y hy)
            · rw [List.mem_singleton.1 hy]; exact Know.has_right (Know.has_refl _)), by rw [List.length_append, List.flatMap_append]; simpa [rcells] using H.out⟩
          case measure => first | (simp [intOf]; done) | (simp [intOf]; omega)
        · rw [if_neg c2] at hc
          have hc2 : Except.error i3.err = tot := hc
          have hc3 := hc2.trans HTT.out
          cases hc3
    · obtain rfl : n = k := by omega
      have hc := HC.out
      rw [Nat.sub_self] at hc
      have hc : preU (acc.map (·.1)) (if i2.left = 0 then .ok [] else .error 10) = tot := hc
      rw [hlf] at hc
      by_cases c1 : lf = 0
      · rw [if_pos c1] at hc
        have hc2 : Except.ok (acc.map (·.1) ++ []) = tot := hc
        have hc3 := hc2.trans HTT.out
        subst c1
        have HRS := Lib.hid (show acc.map (·.1) = rs by injection hc3 with h; rw [List.append_nil] at h; exact h)
        clear hc hc2 hc3 hlf
        go_wp2_with (go_at_call 54; (with_reducible refine (s_leftQ bi i2 _ HLF.out H.out.p1).mono ?_); rintro e_ wn ⟨rfl, h⟩; replace H := Lib.hid h; clear h; replace H := Lib.hid H.out.p1)
        go_ret2
        have hf := (H.out.freezeRow (R := RRec) (fun y _ => ⟨rfl, rfl⟩)).drop
        exact ⟨_, acc, rfl, HRS.out, hf.know (fun w F hh => ⟨HK2.out _ _ hh.1, hh.2, fun y hy => HALL.out y hy _ _ hh.1⟩)⟩
      · rw [if_neg c1] at hc
        have hc2 : Except.error 10 = tot := hc
        have hc3 := hc2.trans HTT.out
        cases hc3

end Go.Proofs.YtcjgdlfcfcabiaaGreat

/- Sums: remainders, bit by bit and byte by byte. -/
namespace Go.Proofs.YtcjgdlfcfcabiaaGreat
open Go.RowKit

abbrev W32 := BitVec 32
def cP : W32 := 0x82F63B78#32
def b2w (b : Bool) : W32 := if b then 1#32 else 0#32
def step (r : W32) : W32 := (r >>> 1) ^^^ (if r.getLsbD 0 then cP else 0#32)
def stepN : Nat → W32 → W32
  | 0, r => r
  | n + 1, r => stepN n (step r)

theorem xlc (a b c : W32) : a ^^^ (b ^^^ c) = b ^^^ (a ^^^ c) := by rw [← BitVec.xor_assoc, BitVec.xor_comm a b, BitVec.xor_assoc]
theorem xcan (a b : W32) : a ^^^ (a ^^^ b) = b := by rw [← BitVec.xor_assoc, BitVec.xor_self, BitVec.zero_xor]
theorem step_xor (a b : W32) : step (a ^^^ b) = step a ^^^ step b := by
  unfold step
  have e : (a ^^^ b) >>> 1 = (a >>> 1) ^^^ (b >>> 1) := by
    apply BitVec.eq_of_getLsbD_eq
    intro i hi
    simp
  rw [e, BitVec.getLsbD_xor]
  cases a.getLsbD 0 <;> cases b.getLsbD 0 <;> simp [BitVec.xor_assoc, BitVec.xor_comm, xlc, xcan]
theorem stepN_xor (n : Nat) (a b : W32) : stepN n (a ^^^ b) = stepN n a ^^^ stepN n b := by
  induction n generalizing a b with
  | zero => rfl
  | succ n ih => show stepN n (step (a ^^^ b)) = _; rw [step_xor, ih]; rfl
theorem step_shl (x : W32) (h : x.getLsbD 31 = false) : step (x <<< 1) = x := by
  unfold step
  have h0 : (x <<< 1).getLsbD 0 = false := by simp
  rw [h0]
  apply BitVec.eq_of_getLsbD_eq
  intro i hi
  by_cases h31 : i = 31
  · subst h31; simp; rw [← BitVec.getLsbD_eq_getElem]; exact h
  · have : 1 + i < 32 := by omega
    simp [this]
    rw [← BitVec.getLsbD_eq_getElem]

def feedBit (r : W32) (b : Bool) : W32 := step (r ^^^ b2w b)
def feed (r : W32) (l : List Bool) : W32 := l.foldl feedBit r
def word : List Bool → W32
  | [] => 0#32
  | b :: t => b2w b ^^^ (word t <<< 1)
theorem word_bit : ∀ (l : List Bool) (i : Nat), i < 32 → (word l).getLsbD i = l.getD i false
  | [], i, _ => by simp [word]
  | b :: t, 0, _ => by simp [word]; cases b <;> rfl
  | b :: t, i + 1, hi => by
    have ih := word_bit t i (by omega)
    have hb : (b2w b).getLsbD (i + 1) = false := by cases b <;> simp [b2w]
    simp only [word, BitVec.getLsbD_xor, hb, Bool.false_xor]
    have : (word t <<< 1).getLsbD (i + 1) = (word t).getLsbD i := by simp [hi]; rw [← BitVec.getLsbD_eq_getElem]
    rw [this, ih]
    simp
theorem feed_word : ∀ (l : List Bool) (r : W32), l.length ≤ 32 → feed r l = stepN l.length (r ^^^ word l)
  | [], r, _ => by simp [feed, word, stepN]
  | b :: t, r, h => by
    have hl : t.length ≤ 31 := by simpa using h
    have ht : (word t).getLsbD 31 = false := by
      rw [word_bit t 31 (by decide), List.getD_eq_getElem?_getD, List.getElem?_eq_none (by omega)]
      rfl
    have e : feed r (b :: t) = feed (step (r ^^^ b2w b)) t := rfl
    rw [e, feed_word t _ (by omega)]
    show _ = stepN t.length (step (r ^^^ word (b :: t)))
    rw [word, ← BitVec.xor_assoc, step_xor (r ^^^ b2w b), step_shl _ ht]
theorem feed_append (r : W32) (l m : List Bool) : feed r (l ++ m) = feed (feed r l) m := List.foldl_append
def byteBits (c : UInt8) : List Bool := (List.range 8).map (fun i => c.toNat.testBit i)
def bitsOf (s : Bs) : List Bool := s.flatMap byteBits
def tab (n : Nat) : W32 := stepN 8 (BitVec.ofNat 32 n)
def byteStep (r : W32) (c : UInt8) : W32 := tab (r.toNat % 256 ^^^ c.toNat) ^^^ (r >>> 8)
theorem byteBits_word (c : UInt8) : word (byteBits c) = BitVec.ofNat 32 c.toNat := by
  apply BitVec.eq_of_getLsbD_eq
  intro i hi
  rw [word_bit _ _ hi, BitVec.getLsbD_ofNat]
  unfold byteBits
  by_cases h : i < 8
  · simp [List.getD_eq_getElem?_getD, h, hi]
  · have : c.toNat < 2 ^ i := Nat.lt_of_lt_of_le c.toNat_lt (Nat.pow_le_pow_right (by decide) (by omega))
    rw [List.getD_eq_getElem?_getD, List.getElem?_eq_none (by simp; omega), Nat.testBit_lt_two_pow this]
    simp
theorem shl_stepN : ∀ (n : Nat) (x : W32), n ≤ 32 → (∀ i, 32 - n ≤ i → x.getLsbD i = false) → stepN n (x <<< n) = x
  | 0, x, _, _ => by simp [stepN]
  | n + 1, x, hn, h => by
    show stepN n (step (x <<< (n + 1))) = x
    have e : x <<< (n + 1) = (x <<< n) <<< 1 := by rw [BitVec.shiftLeft_add]
    rw [e, step_shl]
    · exact shl_stepN n x (by omega) (fun i hi => h i (by omega))
    · rw [BitVec.getLsbD_shiftLeft, h (31 - n) (by omega)]
      simp
theorem byteStep_eq (r : W32) (c : UInt8) : byteStep r c = stepN 8 (r ^^^ BitVec.ofNat 32 c.toNat) := by
  have h1 : r ^^^ BitVec.ofNat 32 c.toNat = BitVec.ofNat 32 (r.toNat % 256 ^^^ c.toNat) ^^^ ((r >>> 8) <<< 8) := by
    apply BitVec.eq_of_getLsbD_eq
    intro i hi
    have hm : (r.toNat % 256).testBit i = (decide (i < 8) && r.toNat.testBit i) := by rw [show (256 : Nat) = 2 ^ 8 from rfl, Nat.testBit_mod_two_pow]
    simp only [BitVec.getLsbD_xor, BitVec.getLsbD_ofNat, Nat.testBit_xor, hm, BitVec.getLsbD_shiftLeft, BitVec.getLsbD_ushiftRight, hi, decide_true, Bool.true_and]
    by_cases h : i < 8
    · simp [h]; rfl
    · have h8 : 8 + (i - 8) = i := by omega
      have : c.toNat < 2 ^ i := Nat.lt_of_lt_of_le c.toNat_lt (Nat.pow_le_pow_right (by decide) (by omega))
      simp [h, h8, Nat.testBit_lt_two_pow this]
  rw [h1, stepN_xor, shl_stepN 8 (r >>> 8) (by decide) (by intro i hi; rw [BitVec.getLsbD_ushiftRight]; exact BitVec.getLsbD_of_ge _ _ (by omega))]
  rfl
theorem byteStep_feed (r : W32) (c : UInt8) : byteStep r c = feed r (byteBits c) := by
  rw [feed_word _ _ (by simp [byteBits]), byteStep_eq, byteBits_word]
  simp [byteBits]
def crcRaw (r : W32) (s : Bs) : W32 := s.foldl byteStep r
theorem crcRaw_feed (r : W32) (s : Bs) : crcRaw r s = feed r (bitsOf s) := by
  induction s generalizing r with
  | nil => rfl
  | cons c t ih =>
    show crcRaw (byteStep r c) t = _
    rw [ih, byteStep_feed]
    show _ = feed r (byteBits c ++ bitsOf t)
    rw [feed_append]
theorem crcRaw_append (r : W32) (a b : Bs) : crcRaw r (a ++ b) = crcRaw (crcRaw r a) b := List.foldl_append
/-- The sum of bytes behind others. -/
def crcMore (sum : W32) (s : Bs) : W32 := ~~~ (crcRaw (~~~ sum) s)
theorem crcMore_append (sum : W32) (a b : Bs) : crcMore sum (a ++ b) = crcMore (crcMore sum a) b := by
  unfold crcMore; rw [crcRaw_append, BitVec.not_not]
theorem crcMore_nil (sum : W32) : crcMore sum [] = sum := by unfold crcMore crcRaw; simp
theorem bitsOf_length (s : Bs) : (bitsOf s).length = 8 * s.length := by
  induction s with
  | nil => rfl
  | cons c t ih => simp only [bitsOf, List.flatMap_cons, List.length_append, List.length_cons] at ih ⊢; rw [ih]; simp [byteBits]; omega
theorem bitsOf_get (s : Bs) (i : Nat) : (bitsOf s).getD i false = ((s.getD (i / 8) 0).toNat.testBit (i % 8)) := by
  induction s generalizing i with
  | nil => simp [bitsOf]
  | cons c t ih =>
    have e : bitsOf (c :: t) = byteBits c ++ bitsOf t := rfl
    rw [e, List.getD_eq_getElem?_getD]
    have hl : (byteBits c).length = 8 := by simp [byteBits]
    by_cases h : i < 8
    · rw [List.getElem?_append_left (by omega)]
      have h0 : i / 8 = 0 := by omega
      have h1 : i % 8 = i := by omega
      rw [h0, h1]
      simp [byteBits, h]
    · rw [List.getElem?_append_right (by omega), hl, ← List.getD_eq_getElem?_getD, ih]
      obtain ⟨q, hq⟩ : ∃ q, i / 8 = q + 1 := ⟨i / 8 - 1, by omega⟩
      rw [show (i - 8) / 8 = q by omega, show (i - 8) % 8 = i % 8 by omega, hq]
      simp
end Go.Proofs.YtcjgdlfcfcabiaaGreat

/- Contracts of package crc. -/
namespace Go.Proofs.YtcjgdlfcfcabiaaGreat
open Go.RowKit

theorem xor_u32 (a b : W32) : bits .xor .u32 (a.toNat : Int) (b.toNat : Int) = ((a ^^^ b).toNat : Int) := by
  have ha := a.isLt
  have hb := b.isLt
  have hab := (a ^^^ b).isLt
  rw [bits_xor_u32, BitVec.toNat_xor] at *
  have e1 : ((a.toNat : Int) % 4294967296).toNat = a.toNat := by omega
  have e2 : ((b.toNat : Int) % 4294967296).toNat = b.toNat := by omega
  rw [e1, e2, IntKind.wrap_u32]
  omega
theorem and1_u32 (a : W32) : bits .and .u32 (a.toNat : Int) 1 = if a.getLsbD 0 then 1 else 0 := by
  have ha := a.isLt
  rw [bits_and_u32]
  have e1 : ((a.toNat : Int) % 4294967296).toNat = a.toNat := by omega
  have e2 : ((1 : Int) % 4294967296).toNat = 1 := by decide
  rw [e1, e2, Nat.and_one_is_mod, IntKind.wrap_u32]
  have : a.getLsbD 0 = decide (a.toNat % 2 = 1) := by rw [BitVec.getLsbD, Nat.testBit_zero]
  rw [this]
  by_cases h : a.toNat % 2 = 1 <;> simp [h]
  omega
theorem xor_u32_lit (a : W32) : bits .xor .u32 (a.toNat : Int) 2197175160 = ((a ^^^ cP).toNat : Int) := xor_u32 a cP
theorem shr1_u32 (a : W32) : (a.toNat : Int) / 2 = ((a >>> 1).toNat : Int) := by
  rw [BitVec.toNat_ushiftRight, Nat.shiftRight_eq_div_pow]; omega
theorem shr8_u32 (a : W32) : (a.toNat : Int) / 256 = ((a >>> 8).toNat : Int) := by
  rw [BitVec.toNat_ushiftRight, Nat.shiftRight_eq_div_pow]; omega
theorem not_u32 (a : W32) : bits .xor .u32 IntKind.u32.max (a.toNat : Int) = ((~~~ a).toNat : Int) := by
  have e : IntKind.u32.max = ((BitVec.allOnes 32).toNat : Int) := by decide
  rw [e, xor_u32, BitVec.xor_comm, BitVec.xor_allOnes]

set_option maxHeartbeats 1000000 in
set_option maxRecDepth 100000 in
theorem crc_remainder (r : W32) (w : World) :
    Calls Tryz.prog 91 #[.int .u32 r.toNat] w fun en w' => en = .returned (.int .u32 (stepN 8 r).toNat) ∧ w = w' := by
  go_enter Tryz.func91, Tryz.ntmps91
  go_wp2
  go_loop [0, 4] (fun rv kv => ∃ (k : Nat) (x : W32), k ≤ 8 ∧ kv = .int .i64 k ∧ rv = .int .u32 x.toNat ∧ stepN (8 - k) x = stepN 8 r) (fun _ kv => 8 - (intOf kv).toNat)
  case atStart => exact ⟨0, r, by decide, rfl, rfl, rfl⟩
  case round =>
    obtain ⟨k, x, hk, rfl, rfl, hx⟩ := hrel
    have HX := Lib.hid hx
    clear hx
    by_cases h8 : k < 8
    · have ha := and1_u32 x
      have hs := shr1_u32 x
      have hx := x.isLt
      cases hb : x.getLsbD 0
      all_goals
        rw [hb] at ha
        go_wp2
        go_round
        case rel =>
          refine ⟨k + 1, step x, by omega, by go_num, ?_, ?_⟩
          · refine congrArg _ ?_
            unfold step
            rw [hb]
            first
              | (rw [if_pos rfl, ← xor_u32_lit]; exact congrArg (bits .xor .u32 · 2197175160) hs)
              | exact hs.trans (by simp)
          · rw [← HX.out, show 8 - k = (8 - (k + 1)) + 1 by omega]
            rfl
        case measure => first | (simp [intOf]; done) | (simp [intOf]; omega)
    · have hk8 : k = 8 := by omega
      subst hk8
      go_wp2
      go_ret
      rw [← HX.out]
      exact ⟨rfl, rfl⟩

theorem crc_rem (k : Nat) (hk : k < 256) (w : World) :
    Calls Tryz.prog 91 #[.int .u32 (k : Int)] w fun en w' => en = .returned (.int .u32 (tab k).toNat) ∧ w = w' := by
  have h := crc_remainder (BitVec.ofNat 32 k) w
  have hn : (BitVec.ofNat 32 k).toNat = k := by simp; omega
  rw [hn] at h
  exact h

/-- The remainders of all bytes. -/
def tabC (n : Nat) : Array Value := ((List.range 256).map fun j => if j < n then Value.int .u32 (tab j).toNat else Value.int .u32 0).toArray
theorem tabC_size (n : Nat) : (tabC n).size = 256 := by simp [tabC]
theorem tabC_get (n j : Nat) (h : j < 256) : (tabC n)[j]? = some (if j < n then Value.int .u32 (tab j).toNat else Value.int .u32 0) := by
  simp [tabC, h]
theorem tabC_set (n : Nat) (h : n < 256) : (tabC n).setIfInBounds n (.int .u32 (tab n).toNat) = tabC (n + 1) := by
  apply Array.ext_getElem?
  intro j
  by_cases hj : j < 256
  · rw [tabC_get (n + 1) j hj, Array.getElem?_setIfInBounds]
    by_cases e : n = j
    · subst e
      simp [tabC_size, hj]
    · rw [if_neg e, tabC_get n j hj]
      by_cases h1 : j < n
      · rw [if_pos h1, if_pos (by omega)]
      · rw [if_neg h1, if_neg (by omega)]
  · rw [Array.getElem?_eq_none (by simp [tabC_size]; omega), Array.getElem?_eq_none (by rw [tabC_size]; omega)]
theorem zero_tab : Tryz.zeroCells131 = tabC 0 := by kernel_rfl
def bIx (m : Nat) (c : UInt8) : Nat := m ^^^ c.toNat
def xor32 (a b : W32) : Nat := (a ^^^ b).toNat
theorem bIx_lt {m : Nat} (hm : m < 256) (c : UInt8) : bIx m c < 256 := Nat.xor_lt_two_pow (n := 8) hm c.toNat_lt
theorem bIx_xor {m : Nat} (hm : m < 256) (c : UInt8) : bits .xor .u8 (m : Int) (c.toNat : Int) = (bIx m c : Int) := by
  have hc := c.toNat_lt
  have hq := bIx_lt hm c
  unfold bIx at *
  rw [bits_xor_u8]
  have e1 : ((m : Int) % 256).toNat = m := by omega
  have e2 : ((c.toNat : Int) % 256).toNat = c.toNat := by omega
  rw [e1, e2, IntKind.wrap_u8]
  omega
abbrev tabPtr (b : Nat) : Value := .pointer (some ⟨b, 0, none⟩)

set_option maxHeartbeats 1000000 in
set_option maxRecDepth 100000 in
theorem crc_new {W0 w : World} {K : Know} {L : List Res} (h : St W0 w K L) :
    Calls Tryz.prog 59 #[] w fun en w' => ∃ b, en = .returned (tabPtr b) ∧ St W0 w' K (.raw b (tabC 256) 131 :: L) := by
  have H := Lib.hid h
  clear h
  go_enter Tryz.func59, Tryz.ntmps59
  go_wp2
  rw [zero_tab]
  go_loopw [4] (fun iv wr => ∃ k : Nat, k ≤ 256 ∧ iv = .int .i64 k ∧ St W0 wr K (.raw w.heap.size (tabC k) 131 :: L)) (fun iv _ => 256 - (intOf iv).toNat)
  case atStart => exact ⟨0, by decide, rfl, H.out.allocRaw _ _⟩
  case round =>
    obtain ⟨k, hk, rfl, hs⟩ := hrel
    have HS := Lib.hid hs
    clear hs
    by_cases hlt : k < 256
    · have hc := HS.out.rawCell k
      rw [tabC_get k k hlt, if_neg (by omega)] at hc
      have hf := HS.out.rawFree k
      have hw : IntKind.u32.wrap (k : Int) = (k : Int) := by rw [IntKind.wrap_u32]; omega
      have hlt2 : (k : Int) < 256 := by omega
      have hk0 : (0 : Int) ≤ (k : Int) := by omega
      go_wp2_with fail
      go_region_with (go_at_call 91; refine (crc_rem k hlt _).mono ?_; rintro e wn ⟨rfl, rfl⟩)
      go_wp2
      go_roundw
      case rel =>
        refine ⟨k + 1, by omega, by go_num, ?_⟩
        have h2 := (HS.out.drew).rawSet k (.int .u32 (tab k).toNat)
        rw [tabC_set k hlt] at h2
        exact h2
      case measure => first | (simp [intOf]; done) | (simp [intOf]; omega)
    · have hk : k = 256 := by omega
      subst hk
      go_wp2
      go_ret
      exact ⟨_, rfl, HS.out⟩

set_option maxHeartbeats 1000000 in
set_option maxRecDepth 100000 in
theorem crc_more (b : Nat) (sum : W32) (s : Bs) (hs : s.length ≤ 140737488355328) {W0 w : World} {K : Know} {L : List Res} (h : St W0 w K (.raw b (tabC 256) 131 :: L)) :
    Calls Tryz.prog 92 #[tabPtr b, .int .u32 sum.toNat, .string (bb s)] w fun en w' => en = .returned (.int .u32 (crcMore sum s).toNat) ∧ St W0 w' K (.raw b (tabC 256) 131 :: L) := by
  have H := Lib.hid h
  have hsum := sum.isLt
  obtain ⟨nb, hnb⟩ : ∃ nb, ~~~ sum = nb := ⟨_, rfl⟩
  have hn := not_u32 sum
  rw [hnb] at hn
  have HNB := Lib.hid hnb
  clear h hnb
  go_enter Tryz.func92, Tryz.ntmps92
  go_wp2
  go_loopw [7, 13] (fun rv kv wr => ∃ k : Nat, k ≤ s.length ∧ kv = .int .i64 k ∧ rv = .int .u32 (crcRaw nb (s.take k)).toNat ∧ St W0 wr K (.raw b (tabC 256) 131 :: L)) (fun _ kv _ => s.length - (intOf kv).toNat)
  case atStart => exact ⟨0, Nat.zero_le _, rfl, rfl, H.out⟩
  case round =>
    obtain ⟨k, hk, rfl, rfl, hst⟩ := hrel
    have HS := Lib.hid hst
    clear hst
    obtain ⟨r, hr⟩ : ∃ r, crcRaw nb (s.take k) = r := ⟨_, rfl⟩
    rw [hr]
    have HR := Lib.hid hr
    clear hr
    by_cases hlt : k < s.length
    · have hrl := r.isLt
      have hstep : crcRaw nb (s.take (k + 1)) = byteStep r s[k] := by
        rw [List.take_succ_eq_append_getElem hlt, crcRaw_append, HR.out]; rfl
      have HST := Lib.hid hstep
      clear hstep
      obtain ⟨m, hm⟩ : ∃ m, r.toNat % 256 = m := ⟨_, rfl⟩
      obtain ⟨y, hy⟩ : ∃ y, r >>> 8 = y := ⟨_, rfl⟩
      have hm0 : m < 256 := by omega
      have hcell : ∀ c : UInt8, wr.cell? ⟨b, bIx m c, none⟩ = some (.int .u32 (tab (bIx m c)).toNat) := fun c => by
        have h := HS.out.rawCell (bIx m c)
        rw [tabC_get 256 _ (bIx_lt hm0 c), if_pos (bIx_lt hm0 c)] at h
        exact h
      have hx := bIx_xor hm0
      have hm2 : IntKind.u8.wrap (r.toNat : Int) = (m : Int) := by rw [IntKind.wrap_u8]; omega
      have hs8 := shr8_u32 r
      rw [hy] at hs8
      have hxz : ∀ t : W32, bits .xor .u32 (t.toNat : Int) (y.toNat : Int) = (xor32 t y : Int) := fun t => xor_u32 t y
      have hq0 : ∀ c : UInt8, (0 : Int) ≤ (bIx m c : Int) := fun c => by omega
      have hq1 : ∀ c : UInt8, (bIx m c : Int) < 256 := fun c => by have := bIx_lt hm0 c; omega
      have HZ := Lib.hid (show (byteStep r s[k]).toNat = xor32 (tab (bIx m s[k])) y by unfold byteStep xor32 bIx; rw [hm, hy])
      clear hm hy hrl hm0
      have hk0 : (0 : Int) ≤ (k : Int) := by omega
      have hk1 : (k : Int) < s.length := by omega
      go_wp2_with fail
      go_quiet (fail)
      go_wp2
      go_roundw
      case rel =>
        refine ⟨k + 1, hlt, by go_num, ?_, HS.out.drewN _⟩
        rw [HST.out, HZ.out]
        exact congrArg (Value.int .u32) ((congrArg (bits .xor .u32 _) hs8).trans (hxz _))
      case measure => first | (simp [intOf]; done) | (simp [intOf]; omega)
    · have hk : k = s.length := by omega
      subst hk
      obtain ⟨nr, hnr⟩ : ∃ nr, ~~~ r = nr := ⟨_, rfl⟩
      have hn2 := not_u32 r
      rw [hnr] at hn2
      have HNR := Lib.hid hnr
      clear hnr
      rw [List.take_length] at HR
      go_wp2
      go_ret
      refine ⟨?_, HS.out⟩
      unfold crcMore
      rw [HNB.out, HR.out, HNR.out]
      rfl

/-- Texts, one behind the other. -/
def RStr (_ : World) (cs : List Value) (x : Bs) : Prop := cs = [.string (bb x)]
def strRows (D : Nat → Prop) (w : World) (v : Value) (l : List Bs) : Prop := RowsOf RStr D w v 1 l
theorem rstr_keep {D : Nat → Prop} {w w' : World} {v : Value} {l : List Bs} (h : strRows D w v l) (hs : w.heap.size ≤ w'.heap.size) (hk : ∀ k, k < w.heap.size → D k → w'.heap[k]? = w.heap[k]?) : strRows D w' v l := by
  obtain ⟨p, cap, rfl, h⟩ := h
  refine ⟨p, cap, rfl, fun h0 => ?_⟩
  obtain ⟨b, off, rfl, hb, hlt, hc⟩ := h h0
  refine ⟨b, off, rfl, hb, Nat.lt_of_lt_of_le hlt hs, fun i hi => ?_⟩
  obtain ⟨cs, h1, h2, h3⟩ := hc i hi
  exact ⟨cs, h1, h2, fun f u hu => (World.cell?_of_block (w := w) (a := ⟨b, off + (i * 1 + f), none⟩) (hk b hlt hb)).trans (h3 f u hu)⟩
def Know.strs (v : Value) (l : List Bs) : Know := ⟨fun w F => strRows F w v l, fun _ _ _ h hs hk => rstr_keep h hs hk, fun _ _ _ h hs => h.mono (fun _ _ h => hs _ h) (fun _ _ h => h)⟩
theorem strRows.at {D : Nat → Prop} {w : World} {v : Value} {l : List Bs} (h : strRows D w v l) :
    ∃ p cap, v = .slice p l.length cap ∧ (0 < l.length → ∃ b off, p = some ⟨b, off, none⟩ ∧ ∀ i (h : i < l.length), w.cell? ⟨b, off + i, none⟩ = some (.string (bb l[i]))) := by
  obtain ⟨p, cap, rfl, h⟩ := h
  refine ⟨p, cap, rfl, fun h0 => ?_⟩
  obtain ⟨b, off, rfl, _, _, hc⟩ := h h0
  refine ⟨b, off, rfl, fun i hi => ?_⟩
  obtain ⟨cs, h1, h2, h3⟩ := hc i hi
  unfold RStr at h2
  subst h2
  have := h3 0 _ rfl
  simpa using this
def crcParts (sum : W32) (l : List Bs) : W32 := l.foldl crcMore sum
theorem crcParts_snoc (sum : W32) (l : List Bs) (s : Bs) : crcParts sum (l ++ [s]) = crcMore (crcParts sum l) s := List.foldl_append
theorem crcParts_flat (sum : W32) (l : List Bs) : crcParts sum l = crcMore sum l.flatten := by
  induction l generalizing sum with
  | nil => exact (crcMore_nil sum).symm
  | cons a t ih =>
    show crcParts (crcMore sum a) t = _
    rw [ih, List.flatten_cons, crcMore_append]

set_option maxHeartbeats 1000000 in
set_option maxRecDepth 100000 in
theorem crc_sum (b : Nat) (v : Value) (l : List Bs) (hl : l.length ≤ 9223372036854775807) (hs : ∀ s ∈ l, s.length ≤ 140737488355328) {W0 w : World} {K : Know} {L : List Res} (hk : K.has (Know.strs v l)) (h : St W0 w K (.raw b (tabC 256) 131 :: L)) :
    Calls Tryz.prog 60 #[tabPtr b, v] w fun en w' => en = .returned (.int .u32 (crcParts 0#32 l).toNat) ∧ St W0 w' K (.raw b (tabC 256) 131 :: L) := by
  have H := Lib.hid h
  have HS := Lib.hid hs
  have HK := Lib.hid hk
  obtain ⟨F, hF, _⟩ := h.get
  obtain ⟨p, cap, rfl, _⟩ := (hk _ _ hF).at
  clear h hs hk hF
  go_enter Tryz.func60, Tryz.ntmps60
  go_wp2
  go_loopw [5, 10] (fun rv kv wr => ∃ k : Nat, k ≤ l.length ∧ kv = .int .i64 k ∧ rv = .int .u32 (crcParts 0#32 (l.take k)).toNat ∧ St W0 wr K (.raw b (tabC 256) 131 :: L)) (fun _ kv _ => l.length - (intOf kv).toNat)
  case atStart => exact ⟨0, Nat.zero_le _, rfl, rfl, H.out⟩
  case round =>
    obtain ⟨k, hk, rfl, rfl, hst⟩ := hrel
    have HST := Lib.hid hst
    obtain ⟨F2, hF2, _⟩ := hst.get
    obtain ⟨p2, cap2, hv2, hrow⟩ := (HK.out _ _ hF2).at
    clear hst hF2
    obtain ⟨r, hr⟩ : ∃ r, crcParts 0#32 (l.take k) = r := ⟨_, rfl⟩
    rw [hr]
    have HR := Lib.hid hr
    clear hr
    by_cases hlt : k < l.length
    · obtain ⟨bb', off, hp, hcells⟩ := hrow (by omega)
      have hpp : p = some ⟨bb', off, none⟩ := by simp at hv2; rw [hv2.1, hp]
      subst hpp
      have hc := hcells k hlt
      have HL := Lib.hid (HS.out l[k] (List.getElem_mem hlt))
      have HN := Lib.hid (show crcParts 0#32 (l.take (k + 1)) = crcMore r l[k] by rw [List.take_succ_eq_append_getElem hlt, crcParts_snoc, HR.out])
      clear hcells hv2 hp hrow
      generalize l[k] = s at *
      go_wp2_with (go_at_call 92; refine (crc_more b r s HL.out HST.out).mono ?_; rintro e wn ⟨rfl, h⟩; have H2 := Lib.hid h; clear h)
      go_roundw
      case rel => exact ⟨k + 1, hlt, by go_num, by rw [HN.out], H2.out⟩
      case measure => first | (simp [intOf]; done) | (simp [intOf]; omega)
    · have hk : k = l.length := by omega
      subst hk
      rw [List.take_length] at HR
      go_wp2
      go_ret
      exact ⟨by rw [HR.out]; rfl, HST.out⟩

end Go.Proofs.YtcjgdlfcfcabiaaGreat

/- Sums of one text, and of one that is harmed. -/
namespace Go.Proofs.YtcjgdlfcfcabiaaGreat
open Go.RowKit

end Go.Proofs.YtcjgdlfcfcabiaaGreat

/- Bytes of one's own, made of a text. -/
namespace Go.Proofs.YtcjgdlfcfcabiaaGreat
open Go.RowKit

end Go.Proofs.YtcjgdlfcfcabiaaGreat

/- Layer 5, walked: what it stands on. -/
namespace Go.Proofs.YtcjgdlfcfcabiaaGreat
open Go.RowKit

theorem St.freezeStrs {W0 w : World} {K : Know} {L : List Res} {r : Nat} (l : List Bs) (h : St W0 w K (.raw r (l.map fun s => Value.string (bb s)).toArray 9 :: L)) : St W0 w (K.and (Know.strs (.slice (some ⟨r, 0, none⟩) l.length l.length) l)) L := by
  refine h.freeze fun F S1 _ h1 => ?_
  have hlt := heap_lt h1.1
  refine ⟨some ⟨r, 0, none⟩, l.length, rfl, fun _ => ⟨r, 0, rfl, .inr ⟨(h1.2 r).2 rfl, hlt⟩, hlt, fun i hi => ?_⟩⟩
  refine ⟨[.string (bb l[i])], rfl, rfl, fun f u hu => ?_⟩
  rw [cell_at h1.1]
  cases f with
  | zero =>
    simp at hu
    subst hu
    simp [hi]
  | succ f => simp at hu
theorem crc_sumR (b r n : Nat) (l : List Bs) (x : Nat) (hn : l.length = n) (hx : (crcParts 0#32 l).toNat = x) (hs : ∀ s ∈ l, s.length ≤ 140737488355328) (hl : l.length ≤ 9223372036854775807) {W0 w : World} {K : Know} {L : List Res} (h : St W0 w K (.raw r (l.map fun s => Value.string (bb s)).toArray 9 :: .raw b (tabC 256) 131 :: L)) :
    Calls Tryz.prog 60 #[tabPtr b, .slice (some ⟨r, 0, none⟩) n n] w fun en w' => en = .returned (.int .u32 x) ∧ St W0 w' K (.raw b (tabC 256) 131 :: L) := by
  subst hn; subst hx
  exact (crc_sum b _ l hl hs (Know.has_right (Know.has_refl _)) (h.freezeStrs l)).mono fun en w' hh => ⟨hh.1, hh.2.know (Know.has_left (Know.has_refl _))⟩
end Go.Proofs.YtcjgdlfcfcabiaaGreat

/- A whole value stored into a block of one's own. -/
namespace Go.Proofs.YtcjgdlfcfcabiaaGreat
open Go.RowKit

def setAll : Array Value → Nat → List Value → Array Value
  | c, _, [] => c
  | c, o, v :: r => setAll (c.setIfInBounds o v) (o + 1) r
theorem St.there {W0 w : World} {K : Know} {L : List Res} {b : Nat} {c : Array Value} {T : TypeId} (h : St W0 w K (.raw b c T :: L)) : w.there b 0 c.size := fun j hj => by
  rw [Nat.zero_add]
  exact ⟨by rw [h.rawCell j, Array.getElem?_eq_getElem hj]; rfl, h.rawFree j⟩
theorem St.rawSets {W0 : World} {K : Know} {L : List Res} {b : Nat} {T : TypeId} : ∀ (vs : List Value) (o : Nat) (c : Array Value) (w : World), St W0 w K (.raw b c T :: L) → St W0 (w.setCells b o vs) K (.raw b (setAll c o vs) T :: L)
  | [], _, _, _, h => h
  | v :: r, o, _, _, h => St.rawSets r (o + 1) _ _ (h.rawSet o v)
/-- A whole value stored into a block of one's own, the new world under a name. -/
theorem St.storeEx {W0 w : World} {K : Know} {L : List Res} {b : Nat} {c : Array Value} {T : TypeId} (h : St W0 w K (.raw b c T :: L)) (cs : Array Value) : ∃ wz, w.setCells b 0 cs.toList = wz ∧ St W0 wz K (.raw b (setAll c 0 cs.toList) T :: L) := ⟨_, rfl, h.rawSets _ _ _ _⟩
theorem St.allocEx {W0 w : World} {K : Know} {L : List Res} (h : St W0 w K L) (c : Array Value) (T : TypeId) : ∃ wy b, w.alloc (.cells c T (0, 0)) = wy ∧ w.heap.size = b ∧ St W0 wy K (.raw b c T :: L) := ⟨_, _, rfl, rfl, h.allocRaw c T⟩

end Go.Proofs.YtcjgdlfcfcabiaaGreat

/- Batches: their sums. -/
namespace Go.Proofs.YtcjgdlfcfcabiaaGreat
open Go.RowKit

theorem crc_two (a c : Bs) : (crcParts 0#32 [a, c]).toNat = (crcMore 0#32 (a ++ c)).toNat := by
  rw [crcParts_flat]
  simp
theorem crc_sum2 (b r : Nat) (a c : Bs) (x : Nat) (hx : (crcParts 0#32 [a, c]).toNat = x) (hs : ∀ s ∈ [a, c], s.length ≤ 140737488355328) (hl : [a, c].length ≤ 9223372036854775807) {W0 w : World} {K : Know} {L : List Res} (h : St W0 w K (.raw r #[.string (bb a), .string (bb c)] 9 :: .raw b (tabC 256) 131 :: L)) :
    Calls Tryz.prog 60 #[tabPtr b, .slice (some ⟨r, 0, none⟩) 2 2] w fun en w' => en = .returned (.int .u32 x) ∧ St W0 w' K (.raw b (tabC 256) 131 :: L) := crc_sumR b r 2 [a, c] x rfl hx hs hl h
set_option maxHeartbeats 1000000 in
set_option maxRecDepth 100000 in
theorem bat_sum (said rows : Bs) (x : Nat) (hx : (crcMore 0#32 (said.drop 21 ++ rows)).toNat = x) (hl : 21 ≤ said.length) (hl2 : said.length ≤ 140737488355328) (hr : rows.length ≤ 140737488355328) {W0 w : World} {K : Know} {L : List Res} (h : St W0 w K L) :
    Calls Tryz.prog 28 #[.string (bb said), .string (bb rows)] w fun en w' => en = .returned (.int .i64 x) ∧ St W0 w' K L := by
  have H := Lib.hid h
  have HX := Lib.hid (show (crcParts 0#32 [said.drop 21, rows]).toNat = x by rw [crc_two]; exact hx)
  have HSS := Lib.hid (show ∀ s ∈ [said.drop 21, rows], s.length ≤ 140737488355328 by
    intro s hs
    simp only [List.mem_cons, List.not_mem_nil, or_false] at hs
    rcases hs with rfl | rfl
    · rw [List.length_drop]; omega
    · exact hr)
  have HLS := Lib.hid (show [said.drop 21, rows].length ≤ 9223372036854775807 by simp)
  have HT := Lib.hid (show List.take (said.length - 21) (List.drop 21 said) = said.drop 21 from List.take_of_length_le (by rw [List.length_drop]; omega))
  have hx32 : x < 4294967296 := by rw [← hx]; exact (crcMore 0#32 (said.drop 21 ++ rows)).isLt
  have l21 : (21 : Int) ≤ (said.length : Int) := by omega
  have w1 : IntKind.i64.wrap (x : Int) = (x : Int) := IntWalk.i64_in _ (by omega)
  have w2 : wrap64 (x : Int) = (x : Int) := by unfold wrap64; omega
  clear h hx hl hl2 hr hx32
  go_enter Tryz.func28, Tryz.ntmps28
  go_upto_region 1 with (fail)
  have hs := H.out.drew
  refine wp_region_held_drew (S := fun _ => True) (by kernel_rfl) trivial (fun hHeld => ?_)
  clear H
  generalize w.drew = wd at hs ⊢
  refine wpAnyH_take (i := 1) (oi := { dst := some 6, op := Op.move (Operand.tmp 0), type := 9, pos := "batch.go:63", after := #[], guard := none }) (v := ?_) rfl (by kernel_rfl) (by kernel_rfl) (by kernel_rfl) (fun _ _ _ h => h) (Or.inl ⟨by rfl, ?_⟩) (by assumption) ?_
  rotate_left
  · intro w hSw; (try dsimp only at hSw); go_simp; try with_reducible rfl
  simp only [Act.put, List.setIfInBounds_toArray, List.set_cons_zero, List.set_cons_succ]
  refine wpAnyH_take (i := 2) (oi := { dst := some 7, op := Op.slice 9 (Operand.tmp 6) (some (Operand.const (Value.int IntKind.i64 21))) none none, type := 9, pos := "batch.go:63", after := #[{ on := 1, ground := Ground.data }], guard := none }) (v := ?_) rfl (by kernel_rfl) (by kernel_rfl) (by kernel_rfl) (fun _ _ _ h => h) (Or.inl ⟨by rfl, ?_⟩) (by assumption) ?_
  rotate_left
  · intro w hSw; (try dsimp only at hSw); go_simp; try with_reducible rfl
  simp only [Act.put, List.setIfInBounds_toArray, List.set_cons_zero, List.set_cons_succ]
  refine wpAnyH_take (i := 3) (oi := { dst := some 8, op := Op.move (Operand.tmp 1), type := 9, pos := "batch.go:63", after := #[], guard := none }) (v := ?_) rfl (by kernel_rfl) (by kernel_rfl) (by kernel_rfl) (fun _ _ _ h => h) (Or.inl ⟨by rfl, ?_⟩) (by assumption) ?_
  rotate_left
  · intro w hSw; (try dsimp only at hSw); go_simp; try with_reducible rfl
  simp only [Act.put, List.setIfInBounds_toArray, List.set_cons_zero, List.set_cons_succ]
  refine wpAnyH_ready (rs := [0, 4]) (by kernel_rfl) (by simp) (AllReadyH.cons (o := { dst := some 5, op := Op.call { callee := Callee.value (Operand.func 59), args := #[], argTypes := #[] }, type := 98, pos := "batch.go:63", after := #[], guard := none }) rfl (fun KK hK => ?_) (AllReadyH.cons (o := { dst := some 9, op := Op.buildSlice 133 2 #[(0, Operand.tmp 7), (1, Operand.tmp 8)], type := 133, pos := "batch.go:63", after := #[{ on := 2, ground := Ground.data }, { on := 3, ground := Ground.data }], guard := none }) rfl (fun KK hK => ?_) AllReadyH.nil))
  · go_simp
    go_at_call 59
    with_reducible refine (crc_new hs).mono ?_
    rintro e wq ⟨bt, rfl, hs⟩
    refine hK.out _ _ (trivial) (fun hHeld => ?_)
    clear hK KK
    try simp only [Act.put, List.setIfInBounds_toArray, List.set_cons_zero, List.set_cons_succ]
    refine wpAnyH_ready (rs := [4]) (by kernel_rfl) (by simp) (AllReadyH.cons (o := { dst := some 9, op := Op.buildSlice 133 2 #[(0, Operand.tmp 7), (1, Operand.tmp 8)], type := 133, pos := "batch.go:63", after := #[{ on := 2, ground := Ground.data }, { on := 3, ground := Ground.data }], guard := none }) rfl (fun KK hK => ?_) AllReadyH.nil)
    · obtain ⟨wy, bS, ey, eb, hs⟩ := hs.allocEx #[.string (bb (said.drop 21)), .string (bb rows)] 9
      go_simp
      try rw [HT.out]
      try rw [ey]
      try rw [eb]
      clear ey eb
      refine hK.out _ _ (trivial) (fun hHeld => ?_)
      clear hK KK
      try simp only [Act.put, List.setIfInBounds_toArray, List.set_cons_zero, List.set_cons_succ]
      refine wpAnyH_ready (rs := [5]) (by kernel_rfl) (by simp) (AllReadyH.cons (o := { dst := some 10, op := Op.call { callee := Callee.value (Operand.func 60), args := #[Operand.tmp 5, Operand.tmp 9], argTypes := #[98, 133] }, type := 77, pos := "batch.go:63", after := #[{ on := 0, ground := Ground.data }, { on := 4, ground := Ground.data }, { on := 0, ground := Ground.chain }], guard := none }) rfl (fun KK hK => ?_) AllReadyH.nil)
      · go_simp
        go_at_call 60
        with_reducible refine (crc_sum2 bt bS (said.drop 21) rows x HX.out HSS.out HLS.out (hs)).mono ?_
        rintro e wq ⟨rfl, hs⟩
        refine hK.out _ _ (trivial) (fun hHeld => ?_)
        clear hK KK
        try simp only [Act.put, List.setIfInBounds_toArray, List.set_cons_zero, List.set_cons_succ]
        refine wpAnyH_take (i := 6) (oi := { dst := some 11, op := Op.convert 77 3 (Operand.tmp 10), type := 3, pos := "batch.go:63", after := #[{ on := 5, ground := Ground.data }], guard := none }) (v := ?_) rfl (by kernel_rfl) (by kernel_rfl) (by kernel_rfl) (fun _ _ _ h => h) (Or.inl ⟨by rfl, ?_⟩) (by assumption) ?_
        rotate_left
        · intro w hSw; (try dsimp only at hSw); go_simp; try with_reducible rfl
        simp only [Act.put, List.setIfInBounds_toArray, List.set_cons_zero, List.set_cons_succ]
        refine wpAnyH_take (i := 7) (oi := { dst := some 4, op := Op.assign (Operand.tmp 11), type := 3, pos := "batch.go:63", after := #[{ on := 6, ground := Ground.data }, { on := 5, ground := Ground.chain }, { on := 0, ground := Ground.phase }, { on := 1, ground := Ground.phase }, { on := 2, ground := Ground.phase }, { on := 3, ground := Ground.phase }, { on := 4, ground := Ground.phase }, { on := 5, ground := Ground.phase }, { on := 6, ground := Ground.phase }], guard := none }) (v := ?_) rfl (by kernel_rfl) (by kernel_rfl) (by kernel_rfl) (fun _ _ _ h => h) (Or.inl ⟨by rfl, ?_⟩) (by assumption) ?_
        rotate_left
        · intro w hSw; (try dsimp only at hSw); go_simp; try with_reducible rfl
        simp only [Act.put, List.setIfInBounds_toArray, List.set_cons_zero, List.set_cons_succ]
        refine wpAnyH_done (by kernel_rfl) ?_ _
        clear hHeld
        go_wp2_with fail
        go_ret
        exact ⟨rfl, hs.drop⟩
  · obtain ⟨wy, bS, ey, eb, hs⟩ := hs.allocEx #[.string (bb (said.drop 21)), .string (bb rows)] 9
    go_simp
    try rw [HT.out]
    try rw [ey]
    try rw [eb]
    clear ey eb
    refine hK.out _ _ (trivial) (fun hHeld => ?_)
    clear hK KK
    try simp only [Act.put, List.setIfInBounds_toArray, List.set_cons_zero, List.set_cons_succ]
    refine wpAnyH_ready (rs := [0]) (by kernel_rfl) (by simp) (AllReadyH.cons (o := { dst := some 5, op := Op.call { callee := Callee.value (Operand.func 59), args := #[], argTypes := #[] }, type := 98, pos := "batch.go:63", after := #[], guard := none }) rfl (fun KK hK => ?_) AllReadyH.nil)
    · go_simp
      go_at_call 59
      with_reducible refine (crc_new hs).mono ?_
      rintro e wq ⟨bt, rfl, hs⟩
      refine hK.out _ _ (trivial) (fun hHeld => ?_)
      clear hK KK
      try simp only [Act.put, List.setIfInBounds_toArray, List.set_cons_zero, List.set_cons_succ]
      refine wpAnyH_ready (rs := [5]) (by kernel_rfl) (by simp) (AllReadyH.cons (o := { dst := some 10, op := Op.call { callee := Callee.value (Operand.func 60), args := #[Operand.tmp 5, Operand.tmp 9], argTypes := #[98, 133] }, type := 77, pos := "batch.go:63", after := #[{ on := 0, ground := Ground.data }, { on := 4, ground := Ground.data }, { on := 0, ground := Ground.chain }], guard := none }) rfl (fun KK hK => ?_) AllReadyH.nil)
      · go_simp
        go_at_call 60
        with_reducible refine (crc_sum2 bt bS (said.drop 21) rows x HX.out HSS.out HLS.out (hs.p1)).mono ?_
        rintro e wq ⟨rfl, hs⟩
        refine hK.out _ _ (trivial) (fun hHeld => ?_)
        clear hK KK
        try simp only [Act.put, List.setIfInBounds_toArray, List.set_cons_zero, List.set_cons_succ]
        refine wpAnyH_take (i := 6) (oi := { dst := some 11, op := Op.convert 77 3 (Operand.tmp 10), type := 3, pos := "batch.go:63", after := #[{ on := 5, ground := Ground.data }], guard := none }) (v := ?_) rfl (by kernel_rfl) (by kernel_rfl) (by kernel_rfl) (fun _ _ _ h => h) (Or.inl ⟨by rfl, ?_⟩) (by assumption) ?_
        rotate_left
        · intro w hSw; (try dsimp only at hSw); go_simp; try with_reducible rfl
        simp only [Act.put, List.setIfInBounds_toArray, List.set_cons_zero, List.set_cons_succ]
        refine wpAnyH_take (i := 7) (oi := { dst := some 4, op := Op.assign (Operand.tmp 11), type := 3, pos := "batch.go:63", after := #[{ on := 6, ground := Ground.data }, { on := 5, ground := Ground.chain }, { on := 0, ground := Ground.phase }, { on := 1, ground := Ground.phase }, { on := 2, ground := Ground.phase }, { on := 3, ground := Ground.phase }, { on := 4, ground := Ground.phase }, { on := 5, ground := Ground.phase }, { on := 6, ground := Ground.phase }], guard := none }) (v := ?_) rfl (by kernel_rfl) (by kernel_rfl) (by kernel_rfl) (fun _ _ _ h => h) (Or.inl ⟨by rfl, ?_⟩) (by assumption) ?_
        rotate_left
        · intro w hSw; (try dsimp only at hSw); go_simp; try with_reducible rfl
        simp only [Act.put, List.setIfInBounds_toArray, List.set_cons_zero, List.set_cons_succ]
        refine wpAnyH_done (by kernel_rfl) ?_ _
        clear hHeld
        go_wp2_with fail
        go_ret
        exact ⟨rfl, hs.drop⟩

end Go.Proofs.YtcjgdlfcfcabiaaGreat

/- Bits of an attribute, as numbers. -/
namespace Go.Proofs.YtcjgdlfcfcabiaaGreat
open Go.RowKit

def bitAt (n : Int) (i : Nat) : Bool := decide (n / 2 ^ i % 2 = 1)
def R64 (n : Int) : Prop := -9223372036854775808 ≤ n ∧ n < 9223372036854775808
theorem wrap_nat0 (k : Nat) (h : k < 18446744073709551616) : IntKind.i64.wrap (k : Int) = 0 ↔ k = 0 := by
  rw [IntKind.wrap_i64]; omega
theorem ofInt64_toNat (n : Int) : ((BitVec.ofInt 64 n).toNat : Int) = n % 18446744073709551616 := by
  rw [BitVec.toNat_ofInt]
  have : (0 : Int) ≤ n % ((2 ^ 64 : Nat) : Int) := Int.emod_nonneg _ (by decide)
  rw [Int.toNat_of_nonneg this]
  rfl
theorem ofInt64_bit (n : Int) (i : Nat) (hi : i < 64) : (BitVec.ofInt 64 n).toNat.testBit i = bitAt n i := by
  obtain ⟨m, hm⟩ : ∃ m, (BitVec.ofInt 64 n).toNat = m := ⟨_, rfl⟩
  have h := ofInt64_toNat n
  rw [hm] at h
  rw [hm, Nat.testBit_eq_decide_div_mod_eq]
  unfold bitAt
  apply decide_eq_decide.mpr
  have hd : ((2 : Int) ^ i) * (2 * 2 ^ (63 - i)) = 18446744073709551616 := by
    rw [← Int.mul_assoc, Int.mul_comm _ 2, Int.mul_assoc, ← Int.pow_add, show i + (63 - i) = 63 by omega]; decide
  have hp : (0 : Int) < 2 ^ i := Int.pow_pos (by decide)
  have e : n = (m : Int) + 2 ^ i * (2 * (2 ^ (63 - i) * (n / 18446744073709551616))) := by
    have h1 := Int.mul_ediv_add_emod n 18446744073709551616
    rw [← Int.mul_assoc 2, ← Int.mul_assoc (2 ^ i), hd]
    omega
  have e2 : n / 2 ^ i = (m : Int) / 2 ^ i + 2 * (2 ^ (63 - i) * (n / 18446744073709551616)) := by
    have := Int.add_mul_ediv_left (m : Int) (2 * (2 ^ (63 - i) * (n / 18446744073709551616))) (Int.ne_of_gt hp)
    rw [← e] at this
    exact this
  have e3 : ((m : Int) / 2 ^ i) = ((m / 2 ^ i : Nat) : Int) := by
    rw [Int.natCast_ediv, Int.natCast_pow]; rfl
  rw [e2, e3, Int.add_mul_emod_self_left]
  omega
theorem and_pow (n : Int) (i : Nat) (hi : i < 63) (m : Int) (hm : BitVec.ofInt 64 m = BitVec.twoPow 64 i) : (bits .and .i64 n m != 0) = bitAt n i := by
  have e : bits .and .i64 n m = IntKind.i64.wrap ((BitVec.ofInt 64 n &&& BitVec.ofInt 64 m).toNat : Int) := rfl
  have hb : (BitVec.ofInt 64 n).getLsbD i = bitAt n i := ofInt64_bit n i (by omega)
  have hp : 2 ^ i < 2 ^ 64 := Nat.pow_lt_pow_right (by decide) (by omega)
  rw [e, hm, BitVec.and_twoPow, hb]
  cases bitAt n i
  · rw [if_neg (by decide)]
    decide
  · rw [if_pos rfl, bne_iff_ne, Ne, wrap_nat0 _ (BitVec.isLt _), BitVec.toNat_twoPow, Nat.mod_eq_of_lt hp]
    exact Nat.ne_of_gt (Nat.two_pow_pos i)
theorem and7 (n : Int) : (bits .and .i64 n 7 != 0) = (bitAt n 0 || bitAt n 1 || bitAt n 2) := by
  have e : bits .and .i64 n 7 = IntKind.i64.wrap ((BitVec.ofInt 64 n &&& BitVec.ofInt 64 7).toNat : Int) := rfl
  have hlt := (BitVec.ofInt 64 n &&& BitVec.ofInt 64 7).isLt
  have hz := wrap_nat0 _ hlt
  have h2 : (BitVec.ofInt 64 n &&& BitVec.ofInt 64 7).toNat = (BitVec.ofInt 64 n).toNat % 8 := by
    rw [BitVec.toNat_and, show (BitVec.ofInt 64 7).toNat = 2 ^ 3 - 1 by decide, Nat.and_two_pow_sub_one_eq_mod]
  have h3 := ofInt64_toNat n
  rw [h2] at e hz
  rw [Bool.eq_iff_iff, bne_iff_ne, e, Ne, hz]
  unfold bitAt
  simp
  omega
theorem andNot56 (n : Int) (hn : R64 n) (h : (bitAt n 0 || bitAt n 1 || bitAt n 2) = false) : (bits .andNot .i64 n 56 != 0) = (decide (n < 0) || decide (63 < n)) := by
  have h8 : n % 8 = 0 := by unfold bitAt at h; simp at h; omega
  by_cases h1 : 0 ≤ n ∧ n ≤ 63
  · rw [decide_eq_false (by omega), decide_eq_false (by omega)]
    obtain ⟨q, hq⟩ : ∃ q, n = 8 * q := ⟨n / 8, by omega⟩
    rcases (by omega : q = 0 ∨ q = 1 ∨ q = 2 ∨ q = 3 ∨ q = 4 ∨ q = 5 ∨ q = 6 ∨ q = 7) with h | h | h | h | h | h | h | h <;> (subst h; subst hq; decide)
  · have hr : (decide (n < 0) || decide (63 < n)) = true := by simp; omega
    rw [hr, bne_iff_ne]
    intro h0
    have e : bits .andNot .i64 n 56 = IntKind.i64.wrap ((BitVec.ofInt 64 n &&& ~~~ BitVec.ofInt 64 56).toNat : Int) := rfl
    rw [e, wrap_nat0 _ (BitVec.isLt _)] at h0
    have h2 : ∀ i, 6 ≤ i → (BitVec.ofInt 64 n).toNat.testBit i = false := by
      intro i hi
      by_cases h64 : i < 64
      · have h4 := congrArg (fun k => Nat.testBit k i) h0
        have h5 : (BitVec.ofInt 64 n &&& ~~~ BitVec.ofInt 64 56).getLsbD i = false := by
          have : (BitVec.ofInt 64 n &&& ~~~ BitVec.ofInt 64 56).toNat.testBit i = false := by rw [h0]; exact Nat.zero_testBit i
          exact this
        rw [BitVec.getLsbD_and, BitVec.getLsbD_not] at h5
        have h6 : (BitVec.ofInt 64 56).getLsbD i = false := by
          have : (BitVec.ofInt 64 56).toNat = 56 := by decide
          unfold BitVec.getLsbD
          rw [this]
          exact Nat.testBit_lt_two_pow (Nat.lt_of_lt_of_le (by decide : 56 < 2 ^ 6) (Nat.pow_le_pow_right (by decide) hi))
        rw [h6] at h5
        have h11 : (BitVec.ofInt 64 n).getLsbD i = false := by cases hc : (BitVec.ofInt 64 n).getLsbD i <;> simp_all
        exact h11
      · exact BitVec.getLsbD_of_ge _ _ (by omega)
    have h7 : (BitVec.ofInt 64 n).toNat < 2 ^ 6 := Nat.lt_pow_two_of_testBit _ h2
    have h8 := ofInt64_toNat n
    have h9 := hn.1
    have h10 := hn.2
    omega
def chk (n : Int) : Int := if (bitAt n 0 || bitAt n 1 || bitAt n 2) = true then 9 else if (decide (n < 0) || decide (63 < n) || (bitAt n 5 && !bitAt n 4)) = true then 8 else 0
def attrN (a t c : Bool) (k : Nat) : Int := (if a && decide (0 < k) then 8 else 0) + (if t && decide (1 < k) then 16 else 0) + (if c && decide (2 < k) then 32 else 0)

end Go.Proofs.YtcjgdlfcfcabiaaGreat

/- Contracts of package attr. -/
namespace Go.Proofs.YtcjgdlfcfcabiaaGreat
open Go.RowKit

theorem and8 (n : Int) : (bits .and .i64 n 8 != 0) = bitAt n 3 := and_pow n 3 (by decide) 8 (by decide)
theorem and16 (n : Int) : (bits .and .i64 n 16 != 0) = bitAt n 4 := and_pow n 4 (by decide) 16 (by decide)
theorem and32 (n : Int) : (bits .and .i64 n 32 != 0) = bitAt n 5 := and_pow n 5 (by decide) 32 (by decide)
theorem and16z (n : Int) : (bits .and .i64 n 16 == 0) = !bitAt n 4 := by rw [← and16]; simp [bne]
set_option maxHeartbeats 1000000 in
set_option maxRecDepth 100000 in
theorem attr_read (n : Int) (w : World) :
    Calls Tryz.prog 85 #[.int .i64 n] w fun en w' => en = .returned (.tuple #[.bool (bitAt n 3), .bool (bitAt n 4), .bool (bitAt n 5)]) ∧ w = w' := by
  have h1 := and8 n
  have h2 := and16 n
  have h3 := and32 n
  go_enter Tryz.func85, Tryz.ntmps85
  go_wp2
  go_ret3
  rw [← h1, ← h2, ← h3]
  exact ⟨rfl, rfl⟩
set_option maxHeartbeats 1000000 in
set_option maxRecDepth 100000 in
theorem attr_check (n : Int) (hn : R64 n) (w : World) :
    Calls Tryz.prog 83 #[.int .i64 n] w fun en w' => en = .returned (.int .i64 (chk n)) ∧ w = w' := by
  have a7 := and7 n
  have a56 := andNot56 n hn
  have a16 := and16z n
  have a32 := and32 n
  clear hn
  have hc : chk n = chk n := rfl
  conv at hc => rhs; unfold chk
  cases hb : (bitAt n 0 || bitAt n 1 || bitAt n 2)
  · rw [hb] at a7 hc
    rw [hb] at a56
    replace a56 := a56 rfl
    cases hd : (decide (n < 0) || decide (63 < n))
    · rw [hd] at a56 hc
      cases h5 : bitAt n 5
      · rw [h5] at a32 hc
        have HC := Lib.hid (show chk n = 0 from hc)
        clear hc hd hb h5
        go_enter Tryz.func83, Tryz.ntmps83
        go_wp2
        go_ret
        rw [HC.out]
        exact ⟨rfl, rfl⟩
      · rw [h5] at a32 hc
        cases h4 : bitAt n 4
        · rw [h4] at a16 hc
          have HC := Lib.hid (show chk n = 8 from hc)
          clear hc hd hb h5 h4
          go_enter Tryz.func83, Tryz.ntmps83
          go_wp2
          go_ret
          rw [HC.out]
          exact ⟨rfl, rfl⟩
        · rw [h4] at a16 hc
          have HC := Lib.hid (show chk n = 0 from hc)
          clear hc hd hb h5 h4
          go_enter Tryz.func83, Tryz.ntmps83
          go_wp2
          go_ret
          rw [HC.out]
          exact ⟨rfl, rfl⟩
    · rw [hd] at a56 hc
      have HC := Lib.hid (show chk n = 8 from hc)
      clear hc hd hb
      go_enter Tryz.func83, Tryz.ntmps83
      go_wp2
      go_ret
      rw [HC.out]
      exact ⟨rfl, rfl⟩
  · rw [hb] at a7 hc
    have HC := Lib.hid (show chk n = 9 from hc)
    clear hc hb a56
    go_enter Tryz.func83, Tryz.ntmps83
    go_wp2
    go_ret
    rw [HC.out]
    exact ⟨rfl, rfl⟩

abbrev aBatch (base leader : Int) (a t c : Bool) (last first max prod epoch sq : Int) (ro : Option Addr) (e k : Nat) : Value :=
  .agg #[.int .i64 base, .int .i64 leader, .bool a, .bool t, .bool c, .int .i64 last, .int .i64 first, .int .i64 max, .int .i64 prod, .int .i64 epoch, .int .i64 sq, .slice ro e k]
set_option maxHeartbeats 1000000 in
set_option maxRecDepth 100000 in
theorem attr_of (base leader : Int) (a t c : Bool) (last first max prod epoch sq : Int) (ro : Option Addr) (e k : Nat) {W0 w : World} {K : Know} {L : List Res} (h : St W0 w K L) :
    Calls Tryz.prog 57 #[aBatch base leader a t c last first max prod epoch sq ro e k] w fun en w' => en = .returned (.int .i64 (attrN a t c 3)) ∧ St W0 w' K L := by
  have H := Lib.hid h
  clear h
  go_enter Tryz.func57, Tryz.ntmps57
  go_wp2
  go_loop [4, 15] (fun nv kv => ∃ (k : Nat), k ≤ 3 ∧ kv = .int .i64 k ∧ nv = .int .i64 (attrN a t c k)) (fun _ kv => 3 - (intOf kv).toNat)
  case atStart => exact ⟨0, by decide, rfl, by simp [attrN]⟩
  case round =>
    obtain ⟨k, hk, rfl, rfl⟩ := hrel
    have e1 : attrN true t c 1 = bits .or .i64 (attrN true t c 0) 8 := by cases t <;> cases c <;> decide
    have e2 : attrN a true c 2 = bits .or .i64 (attrN a true c 1) 16 := by cases a <;> cases c <;> decide
    have e3 : attrN a t true 3 = bits .or .i64 (attrN a t true 2) 32 := by cases a <;> cases t <;> decide
    have f1 : attrN false t c 1 = attrN false t c 0 := by cases t <;> cases c <;> decide
    have f2 : attrN a false c 2 = attrN a false c 1 := by cases a <;> cases c <;> decide
    have f3 : attrN a t false 3 = attrN a t false 2 := by cases a <;> cases t <;> decide
    have E := Lib.hid (And.intro e1 (And.intro e2 (And.intro e3 (And.intro f1 (And.intro f2 f3)))))
    clear e1 e2 e3 f1 f2 f3
    have i0 : ∀ w : World, (Instr.index 127 (.agg #[.bool a, .bool t, .bool c]) (.int .i64 0)).run Tryz.prog w = .ok (.bool a) w := fun _ => by kernel_rfl
    have i1 : ∀ w : World, (Instr.index 127 (.agg #[.bool a, .bool t, .bool c]) (.int .i64 1)).run Tryz.prog w = .ok (.bool t) w := fun _ => by kernel_rfl
    have i2 : ∀ w : World, (Instr.index 127 (.agg #[.bool a, .bool t, .bool c]) (.int .i64 2)).run Tryz.prog w = .ok (.bool c) w := fun _ => by kernel_rfl
    rcases (by omega : k = 0 ∨ k = 1 ∨ k = 2 ∨ k = 3) with h | h | h | h
    · subst h
      cases a
      all_goals
        go_wp2
        go_round
        case rel => exact ⟨1, by decide, rfl, congrArg (Value.int .i64) (by first | exact E.out.2.2.2.1.symm | exact E.out.1.symm)⟩
        case measure => decide
    · subst h
      cases t
      all_goals
        go_wp2
        go_round
        case rel => exact ⟨2, by decide, rfl, congrArg (Value.int .i64) (by first | exact E.out.2.2.2.2.1.symm | exact E.out.2.1.symm)⟩
        case measure => decide
    · subst h
      cases c
      all_goals
        go_wp2
        go_round
        case rel => exact ⟨3, by decide, rfl, congrArg (Value.int .i64) (by first | exact E.out.2.2.2.2.2.symm | exact E.out.2.2.1.symm)⟩
        case measure => decide
    · subst h
      go_wp2
      go_ret
      exact ⟨rfl, (H.out.alloc _).alloc _⟩

end Go.Proofs.YtcjgdlfcfcabiaaGreat

/- Batches: what stands ahead of their records. -/
namespace Go.Proofs.YtcjgdlfcfcabiaaGreat
open Go.RowKit

theorem setAll_get : ∀ (vs : List Value) (o : Nat) (c : Array Value) (i : Nat), (setAll c o vs)[i]? = if o ≤ i ∧ i < o + vs.length ∧ i < c.size then vs[i - o]? else c[i]?
  | [], o, c, i => by
    show c[i]? = _
    rw [if_neg (by simp; omega)]
  | v :: r, o, c, i => by
    show (setAll (c.setIfInBounds o v) (o + 1) r)[i]? = _
    rw [setAll_get r (o + 1) _ i]
    simp only [Array.size_setIfInBounds, List.length_cons]
    by_cases h1 : o + 1 ≤ i ∧ i < o + 1 + r.length ∧ i < c.size
    · rw [if_pos h1, if_pos (by omega)]
      obtain ⟨k, rfl⟩ : ∃ k, i = o + 1 + k := ⟨i - (o + 1), by omega⟩
      rw [show o + 1 + k - (o + 1) = k by omega, show o + 1 + k - o = k + 1 by omega]
      rfl
    · rw [if_neg h1, Array.getElem?_setIfInBounds]
      by_cases h2 : o = i
      · subst h2
        rw [if_pos rfl]
        by_cases h3 : o < c.size
        · rw [if_pos h3, if_pos (by omega), Nat.sub_self]; rfl
        · rw [if_neg h3, if_neg (by omega), Array.getElem?_eq_none (by omega)]
      · rw [if_neg h2, if_neg (by omega)]
theorem setAll_all (c cs : Array Value) (h : c.size = cs.size) : setAll c 0 cs.toList = cs := by
  refine Array.ext_getElem? fun i => ?_
  rw [setAll_get]
  by_cases h1 : i < cs.size
  · rw [if_pos (by simp; omega), Nat.sub_zero, Array.getElem?_toList]
  · rw [if_neg (by simp; omega), Array.getElem?_eq_none (by omega), Array.getElem?_eq_none (by omega)]
theorem attr_ofE (base leader : Int) (app txn ctl : Bool) (last first maxt prod epoch sq : Int)  (q : Option Addr) (n cap : Nat) {W0 w : World} {K : Know} {L : List Res} (h : St W0 w K L) :
    Calls Tryz.prog 57 #[.agg #[.int .i64 base, .int .i64 leader, .bool app, .bool txn, .bool ctl, .int .i64 last, .int .i64 first, .int .i64 maxt, .int .i64 prod, .int .i64 epoch, .int .i64 sq, .slice q n cap]] w fun en w' => en = .returned (.int .i64 (attrN app txn ctl 3)) ∧ St W0 w' K L := attr_of base leader app txn ctl last first maxt prod epoch sq q n cap h
set_option maxHeartbeats 2000000 in
set_option maxRecDepth 100000 in
theorem bat_head (base leader : Int) (app txn ctl : Bool) (last first maxt prod epoch sq : Int) (l : List (RecS × Value)) (q : Option Addr) (cap : Nat) (size : Nat) (hsz : size ≤ 140737488355328) {W0 w : World} {K : Know} {L : List Res} (h : St W0 w K L) :
    Calls Tryz.prog 26 #[.agg #[.int .i64 base, .int .i64 leader, .bool app, .bool txn, .bool ctl, .int .i64 last, .int .i64 first, .int .i64 maxt, .int .i64 prod, .int .i64 epoch, .int .i64 sq, .slice q l.length cap], .int .i64 size] w fun en w' => en = .returned (.agg #[.int .i64 base, .int .i64 (49 + size), .int .i64 leader, .int .i64 0, .int .i64 (attrN app txn ctl 3), .int .i64 last, .int .i64 first, .int .i64 maxt, .int .i64 prod, .int .i64 epoch, .int .i64 sq, .int .i64 l.length]) ∧ St W0 w' K L := by
  have g1 := h.allocRaw #[.int .i64 base, .int .i64 leader, .bool app, .bool txn, .bool ctl, .int .i64 last, .int .i64 first, .int .i64 maxt, .int .i64 prod, .int .i64 epoch, .int .i64 sq, .slice q l.length cap] 24
  have g2 := (g1.allocRaw #[.int .i64 0, .int .i64 0, .int .i64 0, .int .i64 0, .int .i64 0, .int .i64 0, .int .i64 0, .int .i64 0, .int .i64 0, .int .i64 0, .int .i64 0, .int .i64 0] 62).p1
  obtain ⟨hb, hhb⟩ : ∃ b, w.heap.size = b := ⟨_, rfl⟩
  obtain ⟨rb, hrb⟩ : ∃ b, hb + 1 = b := ⟨_, rfl⟩
  simp only [World.size_alloc, hhb, hrb] at g2
  have H := Lib.hid g2
  have w1 : IntKind.i64.wrap (49 + (size : Int)) = 49 + (size : Int) := IntWalk.i64_in _ (by omega)
  clear g1 g2 h hsz
  go_enter Tryz.func26, Tryz.ntmps26
  go_upto_region 1 with (fail)
  have hs := H.out.drew
  refine wp_region_held_drew (S := fun w' => w'.cell? ⟨hb, 0, none⟩ = some (.int .i64 base) ∧ w'.cell? ⟨hb, 1, none⟩ = some (.int .i64 leader) ∧ w'.cell? ⟨hb, 2, none⟩ = some (.bool app) ∧ w'.cell? ⟨hb, 3, none⟩ = some (.bool txn) ∧ w'.cell? ⟨hb, 4, none⟩ = some (.bool ctl) ∧ w'.cell? ⟨hb, 5, none⟩ = some (.int .i64 last) ∧ w'.cell? ⟨hb, 6, none⟩ = some (.int .i64 first) ∧ w'.cell? ⟨hb, 7, none⟩ = some (.int .i64 maxt) ∧ w'.cell? ⟨hb, 8, none⟩ = some (.int .i64 prod) ∧ w'.cell? ⟨hb, 9, none⟩ = some (.int .i64 epoch) ∧ w'.cell? ⟨hb, 10, none⟩ = some (.int .i64 sq) ∧ w'.cell? ⟨hb, 11, none⟩ = some (.slice q l.length cap)) (by kernel_rfl) (let ⟨x0, x1, x2, x3, x4, x5, x6, x7, x8, x9, x10, x11, _⟩ := raw12 (b := hb) (hs); ⟨x0, x1, x2, x3, x4, x5, x6, x7, x8, x9, x10, x11⟩) (fun hHeld => ?_)
  refine wpAnyH_take (i := 0) (oi := { dst := some 5, op := Op.fieldAddr 24 (Operand.tmp 2) 0, type := 0, pos := "batch.go:46", after := #[], guard := none }) (v := ?_) rfl (by kernel_rfl) (by kernel_rfl) (by kernel_rfl) (fun _ _ _ h => h) (Or.inl ⟨by rfl, ?_⟩) (by assumption) ?_
  rotate_left
  · intro w hSw; (try dsimp only at hSw); go_simp; try with_reducible rfl
  simp only [Act.put, List.setIfInBounds_toArray, List.set_cons_zero, List.set_cons_succ]
  refine wpAnyH_take (i := 1) (oi := { dst := some 6, op := Op.load 3 (Operand.tmp 5), type := 3, pos := "batch.go:46", after := #[{ on := 0, ground := Ground.data }], guard := none }) (v := ?_) rfl (by kernel_rfl) (by kernel_rfl) (by kernel_rfl) (fun _ _ _ h => h) (Or.inl ⟨by rfl, ?_⟩) (by assumption) ?_
  rotate_left
  · intro w hSw; (try dsimp only at hSw); go_simp; try with_reducible rfl
  simp only [Act.put, List.setIfInBounds_toArray, List.set_cons_zero, List.set_cons_succ]
  refine wpAnyH_take (i := 2) (oi := { dst := some 7, op := Op.move (Operand.tmp 1), type := 3, pos := "batch.go:46", after := #[], guard := none }) (v := ?_) rfl (by kernel_rfl) (by kernel_rfl) (by kernel_rfl) (fun _ _ _ h => h) (Or.inl ⟨by rfl, ?_⟩) (by assumption) ?_
  rotate_left
  · intro w hSw; (try dsimp only at hSw); go_simp; try with_reducible rfl
  simp only [Act.put, List.setIfInBounds_toArray, List.set_cons_zero, List.set_cons_succ]
  refine wpAnyH_take (i := 3) (oi := { dst := some 8, op := Op.binOp BinOp.add 3 (Operand.const (Value.int IntKind.i64 49)) (Operand.tmp 7) 3, type := 3, pos := "batch.go:46", after := #[{ on := 2, ground := Ground.data }], guard := none }) (v := ?_) rfl (by kernel_rfl) (by kernel_rfl) (by kernel_rfl) (fun _ _ _ h => h) (Or.inl ⟨by rfl, ?_⟩) (by assumption) ?_
  rotate_left
  · intro w hSw; (try dsimp only at hSw); go_simp; try with_reducible rfl
  simp only [Act.put, List.setIfInBounds_toArray, List.set_cons_zero, List.set_cons_succ]
  refine wpAnyH_take (i := 4) (oi := { dst := some 9, op := Op.fieldAddr 24 (Operand.tmp 2) 1, type := 0, pos := "batch.go:46", after := #[], guard := none }) (v := ?_) rfl (by kernel_rfl) (by kernel_rfl) (by kernel_rfl) (fun _ _ _ h => h) (Or.inl ⟨by rfl, ?_⟩) (by assumption) ?_
  rotate_left
  · intro w hSw; (try dsimp only at hSw); go_simp; try with_reducible rfl
  simp only [Act.put, List.setIfInBounds_toArray, List.set_cons_zero, List.set_cons_succ]
  refine wpAnyH_take (i := 5) (oi := { dst := some 10, op := Op.load 3 (Operand.tmp 9), type := 3, pos := "batch.go:46", after := #[{ on := 4, ground := Ground.data }], guard := none }) (v := ?_) rfl (by kernel_rfl) (by kernel_rfl) (by kernel_rfl) (fun _ _ _ h => h) (Or.inl ⟨by rfl, ?_⟩) (by assumption) ?_
  rotate_left
  · intro w hSw; (try dsimp only at hSw); go_simp; try with_reducible rfl
  simp only [Act.put, List.setIfInBounds_toArray, List.set_cons_zero, List.set_cons_succ]
  refine wpAnyH_take (i := 6) (oi := { dst := some 11, op := Op.load 24 (Operand.tmp 2), type := 24, pos := "batch.go:46", after := #[], guard := none }) (v := ?_) rfl (by kernel_rfl) (by kernel_rfl) (by kernel_rfl) (fun _ _ _ h => h) (Or.inl ⟨by rfl, ?_⟩) (by assumption) ?_
  rotate_left
  · intro w hSw; (try dsimp only at hSw); go_simp; try with_reducible rfl
  simp only [Act.put, List.setIfInBounds_toArray, List.set_cons_zero, List.set_cons_succ]
  refine wpAnyH_take (i := 8) (oi := { dst := some 13, op := Op.fieldAddr 24 (Operand.tmp 2) 5, type := 0, pos := "batch.go:46", after := #[], guard := none }) (v := ?_) rfl (by kernel_rfl) (by kernel_rfl) (by kernel_rfl) (fun _ _ _ h => h) (Or.inl ⟨by rfl, ?_⟩) (by assumption) ?_
  rotate_left
  · intro w hSw; (try dsimp only at hSw); go_simp; try with_reducible rfl
  simp only [Act.put, List.setIfInBounds_toArray, List.set_cons_zero, List.set_cons_succ]
  refine wpAnyH_take (i := 9) (oi := { dst := some 14, op := Op.load 3 (Operand.tmp 13), type := 3, pos := "batch.go:46", after := #[{ on := 8, ground := Ground.data }], guard := none }) (v := ?_) rfl (by kernel_rfl) (by kernel_rfl) (by kernel_rfl) (fun _ _ _ h => h) (Or.inl ⟨by rfl, ?_⟩) (by assumption) ?_
  rotate_left
  · intro w hSw; (try dsimp only at hSw); go_simp; try with_reducible rfl
  simp only [Act.put, List.setIfInBounds_toArray, List.set_cons_zero, List.set_cons_succ]
  refine wpAnyH_take (i := 10) (oi := { dst := some 15, op := Op.fieldAddr 24 (Operand.tmp 2) 6, type := 0, pos := "batch.go:46", after := #[], guard := none }) (v := ?_) rfl (by kernel_rfl) (by kernel_rfl) (by kernel_rfl) (fun _ _ _ h => h) (Or.inl ⟨by rfl, ?_⟩) (by assumption) ?_
  rotate_left
  · intro w hSw; (try dsimp only at hSw); go_simp; try with_reducible rfl
  simp only [Act.put, List.setIfInBounds_toArray, List.set_cons_zero, List.set_cons_succ]
  refine wpAnyH_take (i := 11) (oi := { dst := some 16, op := Op.load 3 (Operand.tmp 15), type := 3, pos := "batch.go:46", after := #[{ on := 10, ground := Ground.data }], guard := none }) (v := ?_) rfl (by kernel_rfl) (by kernel_rfl) (by kernel_rfl) (fun _ _ _ h => h) (Or.inl ⟨by rfl, ?_⟩) (by assumption) ?_
  rotate_left
  · intro w hSw; (try dsimp only at hSw); go_simp; try with_reducible rfl
  simp only [Act.put, List.setIfInBounds_toArray, List.set_cons_zero, List.set_cons_succ]
  refine wpAnyH_take (i := 12) (oi := { dst := some 17, op := Op.fieldAddr 24 (Operand.tmp 2) 7, type := 0, pos := "batch.go:46", after := #[], guard := none }) (v := ?_) rfl (by kernel_rfl) (by kernel_rfl) (by kernel_rfl) (fun _ _ _ h => h) (Or.inl ⟨by rfl, ?_⟩) (by assumption) ?_
  rotate_left
  · intro w hSw; (try dsimp only at hSw); go_simp; try with_reducible rfl
  simp only [Act.put, List.setIfInBounds_toArray, List.set_cons_zero, List.set_cons_succ]
  refine wpAnyH_take (i := 13) (oi := { dst := some 18, op := Op.load 3 (Operand.tmp 17), type := 3, pos := "batch.go:46", after := #[{ on := 12, ground := Ground.data }], guard := none }) (v := ?_) rfl (by kernel_rfl) (by kernel_rfl) (by kernel_rfl) (fun _ _ _ h => h) (Or.inl ⟨by rfl, ?_⟩) (by assumption) ?_
  rotate_left
  · intro w hSw; (try dsimp only at hSw); go_simp; try with_reducible rfl
  simp only [Act.put, List.setIfInBounds_toArray, List.set_cons_zero, List.set_cons_succ]
  refine wpAnyH_take (i := 14) (oi := { dst := some 19, op := Op.fieldAddr 24 (Operand.tmp 2) 8, type := 0, pos := "batch.go:46", after := #[], guard := none }) (v := ?_) rfl (by kernel_rfl) (by kernel_rfl) (by kernel_rfl) (fun _ _ _ h => h) (Or.inl ⟨by rfl, ?_⟩) (by assumption) ?_
  rotate_left
  · intro w hSw; (try dsimp only at hSw); go_simp; try with_reducible rfl
  simp only [Act.put, List.setIfInBounds_toArray, List.set_cons_zero, List.set_cons_succ]
  refine wpAnyH_take (i := 15) (oi := { dst := some 20, op := Op.load 3 (Operand.tmp 19), type := 3, pos := "batch.go:46", after := #[{ on := 14, ground := Ground.data }], guard := none }) (v := ?_) rfl (by kernel_rfl) (by kernel_rfl) (by kernel_rfl) (fun _ _ _ h => h) (Or.inl ⟨by rfl, ?_⟩) (by assumption) ?_
  rotate_left
  · intro w hSw; (try dsimp only at hSw); go_simp; try with_reducible rfl
  simp only [Act.put, List.setIfInBounds_toArray, List.set_cons_zero, List.set_cons_succ]
  refine wpAnyH_take (i := 16) (oi := { dst := some 21, op := Op.fieldAddr 24 (Operand.tmp 2) 9, type := 0, pos := "batch.go:46", after := #[], guard := none }) (v := ?_) rfl (by kernel_rfl) (by kernel_rfl) (by kernel_rfl) (fun _ _ _ h => h) (Or.inl ⟨by rfl, ?_⟩) (by assumption) ?_
  rotate_left
  · intro w hSw; (try dsimp only at hSw); go_simp; try with_reducible rfl
  simp only [Act.put, List.setIfInBounds_toArray, List.set_cons_zero, List.set_cons_succ]
  refine wpAnyH_take (i := 17) (oi := { dst := some 22, op := Op.load 3 (Operand.tmp 21), type := 3, pos := "batch.go:46", after := #[{ on := 16, ground := Ground.data }], guard := none }) (v := ?_) rfl (by kernel_rfl) (by kernel_rfl) (by kernel_rfl) (fun _ _ _ h => h) (Or.inl ⟨by rfl, ?_⟩) (by assumption) ?_
  rotate_left
  · intro w hSw; (try dsimp only at hSw); go_simp; try with_reducible rfl
  simp only [Act.put, List.setIfInBounds_toArray, List.set_cons_zero, List.set_cons_succ]
  refine wpAnyH_take (i := 18) (oi := { dst := some 23, op := Op.fieldAddr 24 (Operand.tmp 2) 10, type := 0, pos := "batch.go:46", after := #[], guard := none }) (v := ?_) rfl (by kernel_rfl) (by kernel_rfl) (by kernel_rfl) (fun _ _ _ h => h) (Or.inl ⟨by rfl, ?_⟩) (by assumption) ?_
  rotate_left
  · intro w hSw; (try dsimp only at hSw); go_simp; try with_reducible rfl
  simp only [Act.put, List.setIfInBounds_toArray, List.set_cons_zero, List.set_cons_succ]
  refine wpAnyH_take (i := 19) (oi := { dst := some 24, op := Op.load 3 (Operand.tmp 23), type := 3, pos := "batch.go:46", after := #[{ on := 18, ground := Ground.data }], guard := none }) (v := ?_) rfl (by kernel_rfl) (by kernel_rfl) (by kernel_rfl) (fun _ _ _ h => h) (Or.inl ⟨by rfl, ?_⟩) (by assumption) ?_
  rotate_left
  · intro w hSw; (try dsimp only at hSw); go_simp; try with_reducible rfl
  simp only [Act.put, List.setIfInBounds_toArray, List.set_cons_zero, List.set_cons_succ]
  refine wpAnyH_take (i := 20) (oi := { dst := some 25, op := Op.fieldAddr 24 (Operand.tmp 2) 11, type := 0, pos := "batch.go:46", after := #[], guard := none }) (v := ?_) rfl (by kernel_rfl) (by kernel_rfl) (by kernel_rfl) (fun _ _ _ h => h) (Or.inl ⟨by rfl, ?_⟩) (by assumption) ?_
  rotate_left
  · intro w hSw; (try dsimp only at hSw); go_simp; try with_reducible rfl
  simp only [Act.put, List.setIfInBounds_toArray, List.set_cons_zero, List.set_cons_succ]
  refine wpAnyH_take (i := 21) (oi := { dst := some 26, op := Op.load 22 (Operand.tmp 25), type := 22, pos := "batch.go:46", after := #[{ on := 20, ground := Ground.data }], guard := none }) (v := ?_) rfl (by kernel_rfl) (by kernel_rfl) (by kernel_rfl) (fun _ _ _ h => h) (Or.inl ⟨by rfl, ?_⟩) (by assumption) ?_
  rotate_left
  · intro w hSw; (try dsimp only at hSw); go_simp; try with_reducible rfl
  simp only [Act.put, List.setIfInBounds_toArray, List.set_cons_zero, List.set_cons_succ]
  refine wpAnyH_take (i := 22) (oi := { dst := some 27, op := Op.call { callee := Callee.builtin Builtin.len, args := #[Operand.tmp 26], argTypes := #[22] }, type := 3, pos := "batch.go:46", after := #[{ on := 21, ground := Ground.data }], guard := none }) (v := ?_) rfl (by kernel_rfl) (by kernel_rfl) (by kernel_rfl) (fun _ _ _ h => h) (Or.inl ⟨by rfl, ?_⟩) (by assumption) ?_
  rotate_left
  · intro w hSw; (try dsimp only at hSw); go_simp; try with_reducible rfl
  simp only [Act.put, List.setIfInBounds_toArray, List.set_cons_zero, List.set_cons_succ]
  refine wpAnyH_ready (rs := [7]) (by kernel_rfl) (by simp) (AllReadyH.cons (o := { dst := some 12, op := Op.call { callee := Callee.value (Operand.func 57), args := #[Operand.tmp 11], argTypes := #[24] }, type := 3, pos := "batch.go:47", after := #[{ on := 6, ground := Ground.data }], guard := none }) rfl (fun KK hK => ?_) AllReadyH.nil)
  · go_simp
    go_at_call 57
    with_reducible refine (attr_ofE base leader app txn ctl last first maxt prod epoch sq q l.length cap hs).mono ?_
    rintro e wq ⟨rfl, hs⟩
    refine hK.out _ _ (let ⟨x0, x1, x2, x3, x4, x5, x6, x7, x8, x9, x10, x11, _⟩ := raw12 (b := hb) (hs); ⟨x0, x1, x2, x3, x4, x5, x6, x7, x8, x9, x10, x11⟩) (fun hHeld => ?_)
    clear hK KK
    try simp only [Act.put, List.setIfInBounds_toArray, List.set_cons_zero, List.set_cons_succ]
    refine wpAnyH_take (i := 23) (oi := { dst := some 28, op := Op.build 62 #[(0, Operand.tmp 6), (1, Operand.tmp 8), (2, Operand.tmp 10), (4, Operand.tmp 12), (5, Operand.tmp 14), (6, Operand.tmp 16), (7, Operand.tmp 18), (8, Operand.tmp 20), (9, Operand.tmp 22), (10, Operand.tmp 24), (11, Operand.tmp 27)], type := 62, pos := "batch.go:46", after := #[{ on := 1, ground := Ground.data }, { on := 3, ground := Ground.data }, { on := 5, ground := Ground.data }, { on := 7, ground := Ground.data }, { on := 9, ground := Ground.data }, { on := 11, ground := Ground.data }, { on := 13, ground := Ground.data }, { on := 15, ground := Ground.data }, { on := 17, ground := Ground.data }, { on := 19, ground := Ground.data }, { on := 22, ground := Ground.data }], guard := none }) (v := ?_) rfl (by kernel_rfl) (by kernel_rfl) (by kernel_rfl) (fun _ _ _ h => h) (Or.inl ⟨by rfl, ?_⟩) (by assumption) ?_
    rotate_left
    · intro w hSw; (try dsimp only at hSw); go_simp; try with_reducible rfl
    simp only [Act.put, List.setIfInBounds_toArray, List.set_cons_zero, List.set_cons_succ]
    refine wpAnyH_ready (rs := [24]) (by kernel_rfl) (by simp) (AllReadyH.cons (o := { dst := none, op := Op.store 62 (Operand.tmp 4) (Operand.tmp 28), type := 0, pos := "batch.go:46", after := #[{ on := 23, ground := Ground.data }, { on := 7, ground := Ground.chain }, { on := 0, ground := Ground.phase }, { on := 1, ground := Ground.phase }, { on := 2, ground := Ground.phase }, { on := 3, ground := Ground.phase }, { on := 4, ground := Ground.phase }, { on := 5, ground := Ground.phase }, { on := 6, ground := Ground.phase }, { on := 7, ground := Ground.phase }, { on := 8, ground := Ground.phase }, { on := 9, ground := Ground.phase }, { on := 10, ground := Ground.phase }, { on := 11, ground := Ground.phase }, { on := 12, ground := Ground.phase }, { on := 13, ground := Ground.phase }, { on := 14, ground := Ground.phase }, { on := 15, ground := Ground.phase }, { on := 16, ground := Ground.phase }, { on := 17, ground := Ground.phase }, { on := 18, ground := Ground.phase }, { on := 19, ground := Ground.phase }, { on := 20, ground := Ground.phase }, { on := 21, ground := Ground.phase }, { on := 22, ground := Ground.phase }, { on := 23, ground := Ground.phase }], guard := none }) rfl (fun KK hK => ?_) AllReadyH.nil)
    · have hs := hs.p1
      rw [if_pos (by rfl)]
      refine wp_store_mid 62 (.tmp 4) (.tmp 28) rfl rb 0 #[.int .i64 base, .int .i64 (49 + size), .int .i64 leader, .int .i64 0, .int .i64 (attrN app txn ctl 3), .int .i64 last, .int .i64 first, .int .i64 maxt, .int .i64 prod, .int .i64 epoch, .int .i64 sq, .int .i64 l.length] (by rfl) (by rfl) hs.there (by kernel_rfl) (by simp [Value.oneCell']) ?_
      obtain ⟨wz, ez, hs⟩ := hs.storeEx #[.int .i64 base, .int .i64 (49 + size), .int .i64 leader, .int .i64 0, .int .i64 (attrN app txn ctl 3), .int .i64 last, .int .i64 first, .int .i64 maxt, .int .i64 prod, .int .i64 epoch, .int .i64 sq, .int .i64 l.length]
      rw [ez]
      clear ez
      refine hK.out _ _ (let ⟨x0, x1, x2, x3, x4, x5, x6, x7, x8, x9, x10, x11, _⟩ := raw12 (b := hb) (hs.p1); ⟨x0, x1, x2, x3, x4, x5, x6, x7, x8, x9, x10, x11⟩) (fun hHeld => ?_)
      clear hK KK
      try simp only [Act.put, List.setIfInBounds_toArray, List.set_cons_zero, List.set_cons_succ]
      refine wpAnyH_done (by kernel_rfl) ?_ _
      clear hHeld
      rw [setAll_all] at hs
      rotate_left
      · rfl
      have hz : St W0 _ K (.raw rb #[.int .i64 base, .int .i64 (49 + size), .int .i64 leader, .int .i64 0, .int .i64 (attrN app txn ctl 3), .int .i64 last, .int .i64 first, .int .i64 maxt, .int .i64 prod, .int .i64 epoch, .int .i64 sq, .int .i64 l.length] 62 :: _) := hs
      go_wp2_with fail
      refine bodyPost_ret (rc_cell_only rfl _ _ rb [.int .i64 base, .int .i64 (49 + size), .int .i64 leader, .int .i64 0, .int .i64 (attrN app txn ctl 3), .int .i64 last, .int .i64 first, .int .i64 maxt, .int .i64 prod, .int .i64 epoch, .int .i64 sq, .int .i64 l.length] _ rfl (rc_range hz) Tryz.underlying62 rfl (by kernel_rfl)) rfl ?_
      exact ⟨rfl, hz.drop.drop⟩

end Go.Proofs.YtcjgdlfcfcabiaaGreat

/- Contracts: reading a record, by the document. -/
namespace Go.Proofs.YtcjgdlfcfcabiaaGreat
open Go.RowKit

end Go.Proofs.YtcjgdlfcfcabiaaGreat

/- Contracts: what stands in a record, by the document. -/
namespace Go.Proofs.YtcjgdlfcfcabiaaGreat
open Go.RowKit

end Go.Proofs.YtcjgdlfcfcabiaaGreat

/- Layer 6, walked: HeaderReads. -/
namespace Go.Proofs.YtcjgdlfcfcabiaaGreat
open Go.RowKit

end Go.Proofs.YtcjgdlfcfcabiaaGreat

/- Contracts: what stands in a record, by the document: where it goes wrong. -/
namespace Go.Proofs.YtcjgdlfcfcabiaaGreat
open Go.RowKit

end Go.Proofs.YtcjgdlfcfcabiaaGreat

/- Contracts: what stands in a record, by the document: headers. -/
namespace Go.Proofs.YtcjgdlfcfcabiaaGreat
open Go.RowKit

end Go.Proofs.YtcjgdlfcfcabiaaGreat

/- Contracts: what stands in a record, by the document: all of it. -/
namespace Go.Proofs.YtcjgdlfcfcabiaaGreat
open Go.RowKit

end Go.Proofs.YtcjgdlfcfcabiaaGreat

/- Contracts: what stands in a record, by the document: in all. -/
namespace Go.Proofs.YtcjgdlfcfcabiaaGreat
open Go.RowKit

end Go.Proofs.YtcjgdlfcfcabiaaGreat

/- Contracts: reading a record, by the document: in all. -/
namespace Go.Proofs.YtcjgdlfcfcabiaaGreat
open Go.RowKit

end Go.Proofs.YtcjgdlfcfcabiaaGreat

/- One spelling of a record (pure). -/
namespace Go.Proofs.YtcjgdlfcfcabiaaGreat
open Go.RowKit

theorem glue {l a : Bs} {n m : Nat} (h : a = (l.drop n).take m) : a ++ l.drop (n + m) = l.drop n := by
  rw [h, ← List.drop_drop, List.take_append_drop]
theorem reInner_one {s : Bs} {x : RecS} (h : reInner s = .ok x) : recF x = s ∧ recOk x = 0 ∧ x.R ∧ x.sum ≤ s.length := by
  unfold reInner at h
  cases h0 : getIntN 1 s with
  | error e => rw [h0] at h; cases h
  | ok a =>
    rw [h0] at h
    simp only at h
    by_cases ha : a.1 = 0
    · rw [if_pos ha] at h
      obtain ⟨c, t, rfl⟩ : ∃ c t, s = c :: t := by
        cases s with
        | nil => cases h0
        | cons c t => exact ⟨c, t, rfl⟩
      have hc : c = 0 := by
        have : (.ok (sByte c, 1) : Except Int (Int × Nat)) = .ok a := by rw [← h0]; unfold getIntN; rw [if_neg (by simp)]; rfl
        cases this
        have hn := c.toNat_lt
        have h2 : sByte c = 0 := ha
        unfold sByte at h2
        exact UInt8.toNat_inj.1 (show c.toNat = 0 by split at h2 <;> omega)
      subst hc
      cases h1 : vgetL ((0 :: t : Bs).drop 1) with
      | error e => rw [h1] at h; cases h
      | ok x1 =>
        obtain ⟨tm, k⟩ := x1
        rw [h1] at h
        simp only at h
        cases h2 : vgetI ((0 :: t : Bs).drop (1 + k)) with
        | error e => rw [h2] at h; cases h
        | ok x2 =>
          obtain ⟨o, m⟩ := x2
          rw [h2] at h
          simp only at h
          by_cases ho : o < 0
          · rw [if_pos ho] at h; cases h
          rw [if_neg ho] at h
          cases h3 : revaried ((0 :: t : Bs).drop (1 + k + m)) with
          | error e => rw [h3] at h; cases h
          | ok x3 =>
            obtain ⟨kb, ka⟩ := x3
            rw [h3] at h
            simp only at h
            cases h4 : revaried ((0 :: t : Bs).drop (1 + k + m + ka)) with
            | error e => rw [h4] at h; cases h
            | ok x4 =>
              obtain ⟨vb, va⟩ := x4
              rw [h4] at h
              simp only at h
              cases h5 : reHdrs ((0 :: t : Bs).drop (1 + k + m + ka + va)) with
              | error e => rw [h5] at h; cases h
              | ok x5 =>
                obtain ⟨l, ha5⟩ := x5
                rw [h5] at h
                simp only at h
                by_cases hf : 1 + k + m + ka + va + ha5 = (0 :: t : Bs).length
                · rw [if_pos hf] at h
                  cases h
                  obtain ⟨g1, _, _, r1, r2⟩ := vgetL_one h1
                  obtain ⟨g2, _, _, r3, r4⟩ := vgetI_one h2
                  obtain ⟨g3, _, b3, c3, _, d3⟩ := revaried_one h3
                  obtain ⟨g4, _, b4, c4, _, d4⟩ := revaried_one h4
                  obtain ⟨g5, _, b5, c5, d5⟩ := reHdrs_one h5
                  refine ⟨?_, ?_, ⟨⟨r1, r2⟩, by constructor <;> simp only <;> omega⟩, ?_⟩
                  · unfold recF
                    simp only
                    have q5 := glue g5
                    rw [List.drop_eq_nil_of_le (by omega), List.append_nil] at q5
                    rw [q5, glue g4, glue g3]
                    have q2 : encI o ++ (0 :: t : Bs).drop (1 + k + m) = (0 :: t : Bs).drop (1 + k) := glue g2
                    have q1 : encI tm ++ (0 :: t : Bs).drop (1 + k) = (0 :: t : Bs).drop 1 := glue g1
                    rw [q2, q1]
                    rfl
                  · unfold recOk RecS.allRight
                    simp only
                    rw [if_neg (by omega), c3, c4, c5]
                    rfl
                  · unfold RecS.sum
                    simp only
                    have e3 : kb.data.length ≤ ka := by split at d3 <;> omega
                    have e4 : vb.data.length ≤ va := by split at d4 <;> omega
                    omega
                · rw [if_neg hf] at h; cases h
    · rw [if_neg ha] at h; cases h
theorem reRec_one {s : Bs} {x : RecS} {m : Nat} (h : reRec s = .ok (x, m)) : encR x = s.take m ∧ recOk x = 0 ∧ x.R ∧ x.sum ≤ s.length ∧ 0 < m ∧ m ≤ s.length := by
  unfold reRec at h
  cases h1 : revaried s with
  | error e => rw [h1] at h; cases h
  | ok b =>
    obtain ⟨⟨n, d⟩, k⟩ := b
    rw [h1] at h
    simp only at h
    obtain ⟨g1, g2, g3, _, _, g5⟩ := revaried_one h1
    cases n with
    | true => cases h
    | false =>
      simp only [Bool.false_eq_true, if_false] at h
      cases h2 : reInner d with
      | error e => rw [h2] at h; cases h
      | ok y =>
        rw [h2] at h
        cases h
        obtain ⟨k1, k2, k3, k4⟩ := reInner_one h2
        simp at g5
        exact ⟨by unfold encR; rw [k1]; exact g1, k2, k3, by omega, g2, g3⟩
end Go.Proofs.YtcjgdlfcfcabiaaGreat

/- Batches assembled (pure). -/
namespace Go.Proofs.YtcjgdlfcfcabiaaGreat
open Go.RowKit

theorem hsum_fit : ∀ (l : List HdrS) (N : Nat), hsum l ≤ N → ∀ x ∈ l, x.key.length ≤ N ∧ x.val.data.length ≤ N
  | [], _, _, _, h => by cases h
  | y :: t, N, hh, x, hx => by
    simp only [hsum, List.map_cons, List.sum_cons] at hh
    rcases List.mem_cons.1 hx with rfl | hx
    · omega
    · exact hsum_fit t N (by simp only [hsum]; omega) x hx
theorem unp_fit : ∀ (n : Nat) (rows : Bs) (pos : Nat) (rs : List RecS), pos ≤ rows.length → unp n ⟨rows, pos, 0⟩ = .ok rs → rs.length = n ∧ rs.length + pos ≤ rows.length ∧ ∀ x ∈ rs, x.R ∧ recOk x = 0 ∧ x.sum ≤ rows.length
  | 0, rows, pos, rs, hp, h => by
    unfold unp at h
    split at h
    · cases h; exact ⟨rfl, by simpa using hp, fun x hx => by cases hx⟩
    · cases h
  | n + 1, rows, pos, rs, hp, h => by
    have h : (if (⟨rows, pos, 0⟩ : InS).left = 0 then .error 10 else if (⟨rows, pos, 0⟩ : InS).record.2.err = 0 then consE (⟨rows, pos, 0⟩ : InS).record.1 (unp n (⟨rows, pos, 0⟩ : InS).record.2) else .error (⟨rows, pos, 0⟩ : InS).record.2.err) = .ok rs := h
    by_cases c1 : (⟨rows, pos, 0⟩ : InS).left = 0
    · rw [if_pos c1] at h; cases h
    rw [if_neg c1] at h
    cases hr : reRec (rows.drop pos) with
    | error e =>
      obtain ⟨he, q, _, hf⟩ := rds_rec.err rows pos e hp hr
      rw [hf] at h
      simp only at h
      rw [if_neg he] at h
      cases h
    | ok y =>
      obtain ⟨x, m⟩ := y
      obtain ⟨hpm, hf⟩ := rds_rec.ok rows pos x m hp hr
      rw [hf] at h
      simp only [if_true] at h
      cases hu : unp n ⟨rows, pos + m, 0⟩ with
      | error e => rw [hu] at h; cases h
      | ok t =>
        rw [hu] at h
        have h : Except.ok (x :: t) = Except.ok rs := h
        injection h with h
        subst h
        obtain ⟨i1, i2, i3⟩ := unp_fit n rows (pos + m) t hpm hu
        obtain ⟨_, j1, j2, j3, j4, j5⟩ := reRec_one hr
        rw [List.length_drop] at j3 j5
        refine ⟨by simp [i1], by simp only [List.length_cons]; omega, fun y hy => ?_⟩
        rcases List.mem_cons.1 hy with rfl | hy
        · exact ⟨j2, j1, by omega⟩
        · exact i3 y hy
theorem unp_fitB {n : Nat} {rows : Bs} {rs : List RecS} {l : List (RecS × Value)} (hu : unp n ⟨rows, 0, 0⟩ = .ok rs) (hl : l.map (·.1) = rs) (hr : rows.length ≤ 1000000) : FitB l ∧ l.length ≤ 1000000 := by
  obtain ⟨i1, i2, i3⟩ := unp_fit n rows 0 rs (Nat.zero_le _) hu
  constructor
  · intro x hx
    have hm : x.1 ∈ rs := by rw [← hl]; exact List.mem_map.2 ⟨x, hx, rfl⟩
    obtain ⟨a, _, c⟩ := i3 x.1 hm
    refine ⟨a, fun y hy => ?_, by omega⟩
    have h1 : hsum x.1.hdrs ≤ 1000000 := by unfold RecS.sum at c; omega
    have := hsum_fit x.1.hdrs 1000000 h1 y hy
    omega
  · have : l.length = rs.length := by rw [← hl, List.length_map]
    omega
/-- The batch that a prefix and rows are, or why none. -/
def asmB (x : PreS) (said rows : Bs) : Except Int BatS :=
  if ((crcMore 0#32 (said.drop 21 ++ rows)).toNat : Int) ≠ x.sum then .error 5
  else if chk x.attr ≠ 0 then .error (chk x.attr)
  else match unp x.count.toNat ⟨rows, 0, 0⟩ with
    | .error e => .error e
    | .ok rs => if batErr ⟨x.base, x.leader, bitAt x.attr 3, bitAt x.attr 4, bitAt x.attr 5, x.last, x.first, x.maxt, x.prod, x.epoch, x.seq, rs⟩ = 0 then .ok ⟨x.base, x.leader, bitAt x.attr 3, bitAt x.attr 4, bitAt x.attr 5, x.last, x.first, x.maxt, x.prod, x.epoch, x.seq, rs⟩ else .error (batErr ⟨x.base, x.leader, bitAt x.attr 3, bitAt x.attr 4, bitAt x.attr 5, x.last, x.first, x.maxt, x.prod, x.epoch, x.seq, rs⟩)
theorem attr_readE (n : Int) {W0 w : World} {K : Know} {L : List Res} (h : St W0 w K L) :
    Calls Tryz.prog 85 #[.int .i64 n] w fun en w' => en = .returned (.tuple #[.bool (bitAt n 3), .bool (bitAt n 4), .bool (bitAt n 5)]) ∧ St W0 w' K L := (attr_read n w).mono fun _ _ hh => ⟨hh.1, hh.2 ▸ h⟩
theorem attr_checkE (n e : Int) (he : chk n = e) (hn : R64 n) {W0 w : World} {K : Know} {L : List Res} (h : St W0 w K L) :
    Calls Tryz.prog 83 #[.int .i64 n] w fun en w' => en = .returned (.int .i64 e) ∧ St W0 w' K L := (attr_check n hn w).mono fun _ _ hh => ⟨he ▸ hh.1, hh.2 ▸ h⟩

end Go.Proofs.YtcjgdlfcfcabiaaGreat

/- Batches of bytes (pure). -/
namespace Go.Proofs.YtcjgdlfcfcabiaaGreat
open Go.RowKit

theorem s_takeE (b : Nat) (i j : InS) (n : Int) (s : Bs) (hx : i.take n = (s, j)) {W0 w : World} {K : Know} {L : List Res} (h : St W0 w K (.inp b i :: L)) :
    Calls Tryz.prog 49 #[inPtr b, .int .i64 n] w fun en w' => en = .returned (.string (bb s)) ∧ St W0 w' K (.inp b j :: L) := by
  have := s_take b i n h; rw [hx] at this; exact this
theorem s_closeE (b : Nat) (i j : InS) (e : Int) (hx : i.close = j) (he : j.err = e) {W0 w : World} {K : Know} {L : List Res} (h : St W0 w K (.inp b i :: L)) :
    Calls Tryz.prog 24 #[inPtr b] w fun en w' => en = .returned (.int .i64 e) ∧ St W0 w' K (.inp b j :: L) := by
  subst hx he; exact s_close b i h
theorem asmB_ok {x : PreS} {said rows : Bs} {b : BatS} (h : asmB x said rows = .ok b) : ((crcMore 0#32 (said.drop 21 ++ rows)).toNat : Int) = x.sum ∧ chk x.attr = 0 ∧ ∃ rs, unp x.count.toNat ⟨rows, 0, 0⟩ = .ok rs ∧ batErr (⟨x.base, x.leader, bitAt x.attr 3, bitAt x.attr 4, bitAt x.attr 5, x.last, x.first, x.maxt, x.prod, x.epoch, x.seq, rs⟩ : BatS) = 0 ∧ b = (⟨x.base, x.leader, bitAt x.attr 3, bitAt x.attr 4, bitAt x.attr 5, x.last, x.first, x.maxt, x.prod, x.epoch, x.seq, rs⟩ : BatS) := by
  unfold asmB at h
  split at h
  · cases h
  rename_i h1
  split at h
  · cases h
  rename_i h2
  have h1 : ((crcMore 0#32 (said.drop 21 ++ rows)).toNat : Int) = x.sum := by
    by_cases hh : ((crcMore 0#32 (said.drop 21 ++ rows)).toNat : Int) = x.sum
    · exact hh
    · exact absurd hh h1
  have h2 : chk x.attr = 0 := by
    by_cases hh : chk x.attr = 0
    · exact hh
    · exact absurd hh h2
  split at h
  · cases h
  · rename_i rs hu
    split at h
    · rename_i hb
      cases h
      exact ⟨h1, h2, rs, hu, hb, rfl⟩
    · cases h

end Go.Proofs.YtcjgdlfcfcabiaaGreat

/- Contracts of cursitorref10. -/
namespace Go.Proofs.YtcjgdlfcfcabiaaGreat
open Go.RowKit

end Go.Proofs.YtcjgdlfcfcabiaaGreat
