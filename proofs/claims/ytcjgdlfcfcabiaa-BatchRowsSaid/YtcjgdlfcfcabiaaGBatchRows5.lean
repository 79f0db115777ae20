/- Contracts: reading a record, by the document: in all. -/
import Derived.Test.YtcjgdlfcfcabiaaGBatchRows4
import Derived.Test.YtcjgdlfcfcabiaaS1
import Derived.Deep.RegionWith
import Derived.Test.YtcjgdlfcfcabiaaGBatchRows1
import Derived.Test.YtcjgdlfcfcabiaaSep
import Derived.Deep.MidRow
import Derived.Deep.RegionHeld3
import Derived.Deep.DeepCutAuto
import Derived.Test.YtcjgdlfcfcabiaaBase
import Derived.Test.YtcjgdlfcfcabiaaRec8
import Derived.Test.YtcjgdlfcfcabiaaRef06b
import Derived.Test.YtcjgdlfcfcabiaaL06F
/- Contracts of package crc. -/
namespace Go.Proofs.Ytcjgdlfcfcabiaa
open Go.RowKit

theorem xor_u32 (a b : W32) : bits .xor .u32 (a.toNat : Int) (b.toNat : Int) = ((a ^^^ b).toNat : Int) := by
  have ha := a.isLt
  have hb := b.isLt
  have hab := (a ^^^ b).isLt
  rw [bits_xor_u32, BitVec.toNat_xor] at *
  have e1 : ((a.toNat : Int) % 4294967296).toNat = a.toNat := by omega
  have e2 : ((b.toNat : Int) % 4294967296).toNat = b.toNat := by omega
  rw [e1, e2, IntKind.wrap_u32]
  omega
theorem and1_u32 (a : W32) : bits .and .u32 (a.toNat : Int) 1 = if a.getLsbD 0 then 1 else 0 := by
  have ha := a.isLt
  rw [bits_and_u32]
  have e1 : ((a.toNat : Int) % 4294967296).toNat = a.toNat := by omega
  have e2 : ((1 : Int) % 4294967296).toNat = 1 := by decide
  rw [e1, e2, Nat.and_one_is_mod, IntKind.wrap_u32]
  have : a.getLsbD 0 = decide (a.toNat % 2 = 1) := by rw [BitVec.getLsbD, Nat.testBit_zero]
  rw [this]
  by_cases h : a.toNat % 2 = 1 <;> simp [h]
  omega
theorem xor_u32_lit (a : W32) : bits .xor .u32 (a.toNat : Int) 2197175160 = ((a ^^^ cP).toNat : Int) := xor_u32 a cP
theorem shr1_u32 (a : W32) : (a.toNat : Int) / 2 = ((a >>> 1).toNat : Int) := by
  rw [BitVec.toNat_ushiftRight, Nat.shiftRight_eq_div_pow]; omega
theorem shr8_u32 (a : W32) : (a.toNat : Int) / 256 = ((a >>> 8).toNat : Int) := by
  rw [BitVec.toNat_ushiftRight, Nat.shiftRight_eq_div_pow]; omega
theorem not_u32 (a : W32) : bits .xor .u32 IntKind.u32.max (a.toNat : Int) = ((~~~ a).toNat : Int) := by
  have e : IntKind.u32.max = ((BitVec.allOnes 32).toNat : Int) := by decide
  rw [e, xor_u32, BitVec.xor_comm, BitVec.xor_allOnes]

set_option maxHeartbeats 1000000 in
set_option maxRecDepth 100000 in
theorem crc_remainder (r : W32) (w : World) :
    Calls Try.prog 95 #[.int .u32 r.toNat] w fun en w' => en = .returned (.int .u32 (stepN 8 r).toNat) ∧ w = w' := by
  go_enter Try.func95, Try.ntmps95
  go_wp2
  go_loop [0, 4] (fun rv kv => ∃ (k : Nat) (x : W32), k ≤ 8 ∧ kv = .int .i64 k ∧ rv = .int .u32 x.toNat ∧ stepN (8 - k) x = stepN 8 r) (fun _ kv => 8 - (intOf kv).toNat)
  case atStart => exact ⟨0, r, by decide, rfl, rfl, rfl⟩
  case round =>
    obtain ⟨k, x, hk, rfl, rfl, hx⟩ := hrel
    have HX := Lib.hid hx
    clear hx
    by_cases h8 : k < 8
    · have ha := and1_u32 x
      have hs := shr1_u32 x
      have hx := x.isLt
      cases hb : x.getLsbD 0
      all_goals
        rw [hb] at ha
        go_wp2
        go_round
        case rel =>
          refine ⟨k + 1, step x, by omega, by go_num, ?_, ?_⟩
          · refine congrArg _ ?_
            unfold step
            rw [hb]
            first
              | (rw [if_pos rfl, ← xor_u32_lit]; exact congrArg (bits .xor .u32 · 2197175160) hs)
              | exact hs.trans (by simp)
          · rw [← HX.out, show 8 - k = (8 - (k + 1)) + 1 by omega]
            rfl
        case measure => first | (simp [intOf]; done) | (simp [intOf]; omega)
    · have hk8 : k = 8 := by omega
      subst hk8
      go_wp2
      go_ret
      rw [← HX.out]
      exact ⟨rfl, rfl⟩

theorem crc_rem (k : Nat) (hk : k < 256) (w : World) :
    Calls Try.prog 95 #[.int .u32 (k : Int)] w fun en w' => en = .returned (.int .u32 (tab k).toNat) ∧ w = w' := by
  have h := crc_remainder (BitVec.ofNat 32 k) w
  have hn : (BitVec.ofNat 32 k).toNat = k := by simp; omega
  rw [hn] at h
  exact h

/-- The remainders of all bytes. -/
def tabC (n : Nat) : Array Value := ((List.range 256).map fun j => if j < n then Value.int .u32 (tab j).toNat else Value.int .u32 0).toArray
theorem tabC_size (n : Nat) : (tabC n).size = 256 := by simp [tabC]
theorem tabC_get (n j : Nat) (h : j < 256) : (tabC n)[j]? = some (if j < n then Value.int .u32 (tab j).toNat else Value.int .u32 0) := by
  simp [tabC, h]
theorem tabC_set (n : Nat) (h : n < 256) : (tabC n).setIfInBounds n (.int .u32 (tab n).toNat) = tabC (n + 1) := by
  apply Array.ext_getElem?
  intro j
  by_cases hj : j < 256
  · rw [tabC_get (n + 1) j hj, Array.getElem?_setIfInBounds]
    by_cases e : n = j
    · subst e
      simp [tabC_size, hj]
    · rw [if_neg e, tabC_get n j hj]
      by_cases h1 : j < n
      · rw [if_pos h1, if_pos (by omega)]
      · rw [if_neg h1, if_neg (by omega)]
  · rw [Array.getElem?_eq_none (by simp [tabC_size]; omega), Array.getElem?_eq_none (by rw [tabC_size]; omega)]
theorem zero_tab : Try.zeroCells136 = tabC 0 := by kernel_rfl
def bIx (m : Nat) (c : UInt8) : Nat := m ^^^ c.toNat
def xor32 (a b : W32) : Nat := (a ^^^ b).toNat
theorem bIx_lt {m : Nat} (hm : m < 256) (c : UInt8) : bIx m c < 256 := Nat.xor_lt_two_pow (n := 8) hm c.toNat_lt
theorem bIx_xor {m : Nat} (hm : m < 256) (c : UInt8) : bits .xor .u8 (m : Int) (c.toNat : Int) = (bIx m c : Int) := by
  have hc := c.toNat_lt
  have hq := bIx_lt hm c
  unfold bIx at *
  rw [bits_xor_u8]
  have e1 : ((m : Int) % 256).toNat = m := by omega
  have e2 : ((c.toNat : Int) % 256).toNat = c.toNat := by omega
  rw [e1, e2, IntKind.wrap_u8]
  omega
abbrev tabPtr (b : Nat) : Value := .pointer (some ⟨b, 0, none⟩)

set_option maxHeartbeats 1000000 in
set_option maxRecDepth 100000 in
theorem crc_new {W0 w : World} {K : Know} {L : List Res} (h : St W0 w K L) :
    Calls Try.prog 82 #[] w fun en w' => ∃ b, en = .returned (tabPtr b) ∧ St W0 w' K (.raw b (tabC 256) 136 :: L) := by
  have H := Lib.hid h
  clear h
  go_enter Try.func82, Try.ntmps82
  go_wp2
  rw [zero_tab]
  go_loopw [4] (fun iv wr => ∃ k : Nat, k ≤ 256 ∧ iv = .int .i64 k ∧ St W0 wr K (.raw w.heap.size (tabC k) 136 :: L)) (fun iv _ => 256 - (intOf iv).toNat)
  case atStart => exact ⟨0, by decide, rfl, H.out.allocRaw _ _⟩
  case round =>
    obtain ⟨k, hk, rfl, hs⟩ := hrel
    have HS := Lib.hid hs
    clear hs
    by_cases hlt : k < 256
    · have hc := HS.out.rawCell k
      rw [tabC_get k k hlt, if_neg (by omega)] at hc
      have hf := HS.out.rawFree k
      have hw : IntKind.u32.wrap (k : Int) = (k : Int) := by rw [IntKind.wrap_u32]; omega
      have hlt2 : (k : Int) < 256 := by omega
      have hk0 : (0 : Int) ≤ (k : Int) := by omega
      go_wp2_with fail
      go_region_with (go_at_call 95; refine (crc_rem k hlt _).mono ?_; rintro e wn ⟨rfl, rfl⟩)
      go_wp2
      go_roundw
      case rel =>
        refine ⟨k + 1, by omega, by go_num, ?_⟩
        have h2 := (HS.out.drew).rawSet k (.int .u32 (tab k).toNat)
        rw [tabC_set k hlt] at h2
        exact h2
      case measure => first | (simp [intOf]; done) | (simp [intOf]; omega)
    · have hk : k = 256 := by omega
      subst hk
      go_wp2
      go_ret
      exact ⟨_, rfl, HS.out⟩

set_option maxHeartbeats 1000000 in
set_option maxRecDepth 100000 in
theorem crc_more (b : Nat) (sum : W32) (s : Bs) (hs : s.length ≤ 140737488355328) {W0 w : World} {K : Know} {L : List Res} (h : St W0 w K (.raw b (tabC 256) 136 :: L)) :
    Calls Try.prog 96 #[tabPtr b, .int .u32 sum.toNat, .string (bb s)] w fun en w' => en = .returned (.int .u32 (crcMore sum s).toNat) ∧ St W0 w' K (.raw b (tabC 256) 136 :: L) := by
  have H := Lib.hid h
  have hsum := sum.isLt
  obtain ⟨nb, hnb⟩ : ∃ nb, ~~~ sum = nb := ⟨_, rfl⟩
  have hn := not_u32 sum
  rw [hnb] at hn
  have HNB := Lib.hid hnb
  clear h hnb
  go_enter Try.func96, Try.ntmps96
  go_wp2
  go_loopw [7, 13] (fun rv kv wr => ∃ k : Nat, k ≤ s.length ∧ kv = .int .i64 k ∧ rv = .int .u32 (crcRaw nb (s.take k)).toNat ∧ St W0 wr K (.raw b (tabC 256) 136 :: L)) (fun _ kv _ => s.length - (intOf kv).toNat)
  case atStart => exact ⟨0, Nat.zero_le _, rfl, rfl, H.out⟩
  case round =>
    obtain ⟨k, hk, rfl, rfl, hst⟩ := hrel
    have HS := Lib.hid hst
    clear hst
    obtain ⟨r, hr⟩ : ∃ r, crcRaw nb (s.take k) = r := ⟨_, rfl⟩
    rw [hr]
    have HR := Lib.hid hr
    clear hr
    by_cases hlt : k < s.length
    · have hrl := r.isLt
      have hstep : crcRaw nb (s.take (k + 1)) = byteStep r s[k] := by
        rw [List.take_succ_eq_append_getElem hlt, crcRaw_append, HR.out]; rfl
      have HST := Lib.hid hstep
      clear hstep
      obtain ⟨m, hm⟩ : ∃ m, r.toNat % 256 = m := ⟨_, rfl⟩
      obtain ⟨y, hy⟩ : ∃ y, r >>> 8 = y := ⟨_, rfl⟩
      have hm0 : m < 256 := by omega
      have hcell : ∀ c : UInt8, wr.cell? ⟨b, bIx m c, none⟩ = some (.int .u32 (tab (bIx m c)).toNat) := fun c => by
        have h := HS.out.rawCell (bIx m c)
        rw [tabC_get 256 _ (bIx_lt hm0 c), if_pos (bIx_lt hm0 c)] at h
        exact h
      have hx := bIx_xor hm0
      have hm2 : IntKind.u8.wrap (r.toNat : Int) = (m : Int) := by rw [IntKind.wrap_u8]; omega
      have hs8 := shr8_u32 r
      rw [hy] at hs8
      have hxz : ∀ t : W32, bits .xor .u32 (t.toNat : Int) (y.toNat : Int) = (xor32 t y : Int) := fun t => xor_u32 t y
      have hq0 : ∀ c : UInt8, (0 : Int) ≤ (bIx m c : Int) := fun c => by omega
      have hq1 : ∀ c : UInt8, (bIx m c : Int) < 256 := fun c => by have := bIx_lt hm0 c; omega
      have HZ := Lib.hid (show (byteStep r s[k]).toNat = xor32 (tab (bIx m s[k])) y by unfold byteStep xor32 bIx; rw [hm, hy])
      clear hm hy hrl hm0
      have hk0 : (0 : Int) ≤ (k : Int) := by omega
      have hk1 : (k : Int) < s.length := by omega
      go_wp2_with fail
      go_quiet (fail)
      go_wp2
      go_roundw
      case rel =>
        refine ⟨k + 1, hlt, by go_num, ?_, HS.out.drewN _⟩
        rw [HST.out, HZ.out]
        exact congrArg (Value.int .u32) ((congrArg (bits .xor .u32 _) hs8).trans (hxz _))
      case measure => first | (simp [intOf]; done) | (simp [intOf]; omega)
    · have hk : k = s.length := by omega
      subst hk
      obtain ⟨nr, hnr⟩ : ∃ nr, ~~~ r = nr := ⟨_, rfl⟩
      have hn2 := not_u32 r
      rw [hnr] at hn2
      have HNR := Lib.hid hnr
      clear hnr
      rw [List.take_length] at HR
      go_wp2
      go_ret
      refine ⟨?_, HS.out⟩
      unfold crcMore
      rw [HNB.out, HR.out, HNR.out]
      rfl

/-- Texts, one behind the other. -/
def RStr (_ : World) (cs : List Value) (x : Bs) : Prop := cs = [.string (bb x)]
def strRows (D : Nat → Prop) (w : World) (v : Value) (l : List Bs) : Prop := RowsOf RStr D w v 1 l
theorem rstr_keep {D : Nat → Prop} {w w' : World} {v : Value} {l : List Bs} (h : strRows D w v l) (hs : w.heap.size ≤ w'.heap.size) (hk : ∀ k, k < w.heap.size → D k → w'.heap[k]? = w.heap[k]?) : strRows D w' v l := by
  obtain ⟨p, cap, rfl, h⟩ := h
  refine ⟨p, cap, rfl, fun h0 => ?_⟩
  obtain ⟨b, off, rfl, hb, hlt, hc⟩ := h h0
  refine ⟨b, off, rfl, hb, Nat.lt_of_lt_of_le hlt hs, fun i hi => ?_⟩
  obtain ⟨cs, h1, h2, h3⟩ := hc i hi
  exact ⟨cs, h1, h2, fun f u hu => (World.cell?_of_block (w := w) (a := ⟨b, off + (i * 1 + f), none⟩) (hk b hlt hb)).trans (h3 f u hu)⟩
def Know.strs (v : Value) (l : List Bs) : Know := ⟨fun w F => strRows F w v l, fun _ _ _ h hs hk => rstr_keep h hs hk, fun _ _ _ h hs => h.mono (fun _ _ h => hs _ h) (fun _ _ h => h)⟩
theorem strRows.at {D : Nat → Prop} {w : World} {v : Value} {l : List Bs} (h : strRows D w v l) :
    ∃ p cap, v = .slice p l.length cap ∧ (0 < l.length → ∃ b off, p = some ⟨b, off, none⟩ ∧ ∀ i (h : i < l.length), w.cell? ⟨b, off + i, none⟩ = some (.string (bb l[i]))) := by
  obtain ⟨p, cap, rfl, h⟩ := h
  refine ⟨p, cap, rfl, fun h0 => ?_⟩
  obtain ⟨b, off, rfl, _, _, hc⟩ := h h0
  refine ⟨b, off, rfl, fun i hi => ?_⟩
  obtain ⟨cs, h1, h2, h3⟩ := hc i hi
  unfold RStr at h2
  subst h2
  have := h3 0 _ rfl
  simpa using this
def crcParts (sum : W32) (l : List Bs) : W32 := l.foldl crcMore sum
theorem crcParts_snoc (sum : W32) (l : List Bs) (s : Bs) : crcParts sum (l ++ [s]) = crcMore (crcParts sum l) s := List.foldl_append
theorem crcParts_flat (sum : W32) (l : List Bs) : crcParts sum l = crcMore sum l.flatten := by
  induction l generalizing sum with
  | nil => exact (crcMore_nil sum).symm
  | cons a t ih =>
    show crcParts (crcMore sum a) t = _
    rw [ih, List.flatten_cons, crcMore_append]

set_option maxHeartbeats 1000000 in
set_option maxRecDepth 100000 in
theorem crc_sum (b : Nat) (v : Value) (l : List Bs) (hl : l.length ≤ 9223372036854775807) (hs : ∀ s ∈ l, s.length ≤ 140737488355328) {W0 w : World} {K : Know} {L : List Res} (hk : K.has (Know.strs v l)) (h : St W0 w K (.raw b (tabC 256) 136 :: L)) :
    Calls Try.prog 83 #[tabPtr b, v] w fun en w' => en = .returned (.int .u32 (crcParts 0#32 l).toNat) ∧ St W0 w' K (.raw b (tabC 256) 136 :: L) := by
  have H := Lib.hid h
  have HS := Lib.hid hs
  have HK := Lib.hid hk
  obtain ⟨F, hF, _⟩ := h.get
  obtain ⟨p, cap, rfl, _⟩ := (hk _ _ hF).at
  clear h hs hk hF
  go_enter Try.func83, Try.ntmps83
  go_wp2
  go_loopw [5, 10] (fun rv kv wr => ∃ k : Nat, k ≤ l.length ∧ kv = .int .i64 k ∧ rv = .int .u32 (crcParts 0#32 (l.take k)).toNat ∧ St W0 wr K (.raw b (tabC 256) 136 :: L)) (fun _ kv _ => l.length - (intOf kv).toNat)
  case atStart => exact ⟨0, Nat.zero_le _, rfl, rfl, H.out⟩
  case round =>
    obtain ⟨k, hk, rfl, rfl, hst⟩ := hrel
    have HST := Lib.hid hst
    obtain ⟨F2, hF2, _⟩ := hst.get
    obtain ⟨p2, cap2, hv2, hrow⟩ := (HK.out _ _ hF2).at
    clear hst hF2
    obtain ⟨r, hr⟩ : ∃ r, crcParts 0#32 (l.take k) = r := ⟨_, rfl⟩
    rw [hr]
    have HR := Lib.hid hr
    clear hr
    by_cases hlt : k < l.length
    · obtain ⟨bb', off, hp, hcells⟩ := hrow (by omega)
      have hpp : p = some ⟨bb', off, none⟩ := by simp at hv2; rw [hv2.1, hp]
      subst hpp
      have hc := hcells k hlt
      have HL := Lib.hid (HS.out l[k] (List.getElem_mem hlt))
      have HN := Lib.hid (show crcParts 0#32 (l.take (k + 1)) = crcMore r l[k] by rw [List.take_succ_eq_append_getElem hlt, crcParts_snoc, HR.out])
      clear hcells hv2 hp hrow
      generalize l[k] = s at *
      go_wp2_with (go_at_call 96; refine (crc_more b r s HL.out HST.out).mono ?_; rintro e wn ⟨rfl, h⟩; have H2 := Lib.hid h; clear h)
      go_roundw
      case rel => exact ⟨k + 1, hlt, by go_num, by rw [HN.out], H2.out⟩
      case measure => first | (simp [intOf]; done) | (simp [intOf]; omega)
    · have hk : k = l.length := by omega
      subst hk
      rw [List.take_length] at HR
      go_wp2
      go_ret
      exact ⟨by rw [HR.out]; rfl, HST.out⟩

end Go.Proofs.Ytcjgdlfcfcabiaa

/- Sums of one text, and of one that is harmed. -/
namespace Go.Proofs.Ytcjgdlfcfcabiaa
open Go.RowKit

theorem St.freezeStr {W0 w : World} {K : Know} {L : List Res} {r : Nat} {s : Bs} (h : St W0 w K (.raw r #[.string (bb s)] 9 :: L)) : St W0 w (K.and (Know.strs (.slice (some ⟨r, 0, none⟩) 1 1) [s])) L := by
  refine h.freeze fun F S1 _ h1 => ?_
  have hlt := heap_lt h1.1
  refine ⟨some ⟨r, 0, none⟩, 1, rfl, fun _ => ⟨r, 0, rfl, .inr ⟨(h1.2 r).2 rfl, hlt⟩, hlt, fun i hi => ?_⟩⟩
  have hi0 : i = 0 := by simp at hi; omega
  subst hi0
  refine ⟨[.string (bb s)], rfl, rfl, fun f u hu => ?_⟩
  rw [cell_at h1.1]
  cases f with
  | zero => simp at hu; subst hu; rfl
  | succ f => simp at hu
theorem crc_sum1 (b r : Nat) (s : Bs) (n : Nat) (hn : (crcMore 0#32 s).toNat = n) (hs : s.length ≤ 140737488355328) {W0 w : World} {K : Know} {L : List Res} (h : St W0 w K (.raw r #[.string (bb s)] 9 :: .raw b (tabC 256) 136 :: L)) :
    Calls Try.prog 83 #[tabPtr b, .slice (some ⟨r, 0, none⟩) 1 1] w fun en w' => en = .returned (.int .u32 n) ∧ St W0 w' K (.raw b (tabC 256) 136 :: L) := by
  subst hn
  exact (crc_sum b _ [s] (by simp) (fun t ht => by simp at ht; subst ht; exact hs) (Know.has_right (Know.has_refl _)) h.freezeStr).mono fun en w' hh => ⟨hh.1, hh.2.know (Know.has_left (Know.has_refl _))⟩
theorem crc_moreQ (b : Nat) (sum r : W32) (n : Nat) (s t : Bs) (hn : r.toNat = n) (hr : crcMore sum s = r) (ht : t = s) (hs : s.length ≤ 140737488355328) {W0 w : World} {K : Know} {L : List Res} (h : St W0 w K (.raw b (tabC 256) 136 :: L)) :
    Calls Try.prog 96 #[tabPtr b, .int .u32 sum.toNat, .string (bb t)] w fun en w' => en = .returned (.int .u32 n) ∧ St W0 w' K (.raw b (tabC 256) 136 :: L) := by
  subst hn; subst hr; subst ht; exact crc_more b sum t hs h
theorem crc_set (s : Bs) (j : Nat) (hj : j < s.length) (c : UInt8) : (crcMore 0#32 (s.set j c) = crcMore 0#32 s) ↔ c = s[j] := by
  constructor
  · intro h
    have hb := crc_burst 0#32 (s.set j c) s (8 * j) (by simp) ?_ h
    · have := congrArg (fun l : Bs => l[j]?) hb
      simp [hj] at this
      exact this
    · intro i hi
      rw [bitsOf_get, bitsOf_get]
      have hne : i / 8 ≠ j := by omega
      rw [List.getD_eq_getElem?_getD, List.getD_eq_getElem?_getD, List.getElem?_set_ne (by omega)]
  · rintro rfl
    rw [List.set_getElem_self]
theorem xor_u8m (c m : UInt8) : bits .xor .u8 (c.toNat : Int) (m.toNat : Int) = ((c ^^^ m).toNat : Int) := by
  rw [bits_xor_u8]
  have h1 := c.toNat_lt
  have h2 := m.toNat_lt
  have e1 : ((c.toNat : Int) % 256).toNat = c.toNat := by omega
  have e2 : ((m.toNat : Int) % 256).toNat = m.toNat := by omega
  have h3 : c.toNat ^^^ m.toNat < 2 ^ 8 := Nat.xor_lt_two_pow (by omega) (by omega)
  rw [e1, e2, IntKind.wrap_u8, UInt8.toNat_xor]
  omega
theorem xor_same (c m : UInt8) : c ^^^ m = c ↔ m = 0 := by
  constructor
  · intro h
    have : c ^^^ (c ^^^ m) = c ^^^ c := by rw [h]
    rw [← UInt8.xor_assoc, UInt8.xor_self, UInt8.zero_xor] at this
    exact this
  · rintro rfl; simp

end Go.Proofs.Ytcjgdlfcfcabiaa

/- Bytes of one's own, made of a text. -/
namespace Go.Proofs.Ytcjgdlfcfcabiaa
open Go.RowKit

def bRow (b : Nat) (s : Bs) : Gen where
  p w S := (∃ (C : Array Value) (fz : Nat × Nat), w.heap[b]? = some (.cells C 5 fz) ∧ s.length ≤ C.size ∧ s.length ≤ fz.1 ∧ ∀ j (h : j < s.length), C[j]? = some (.int .u8 (s[j].toNat : Int))) ∧ ∀ k, S k ↔ k = b
  keep := by
    rintro w w' S ⟨⟨C, fz, h1, h2, h3, h4⟩, h5⟩ hs hk
    exact ⟨⟨C, fz, (hk b (heap_lt h1) ((h5 b).2 rfl)).trans h1, h2, h3, h4⟩, h5⟩
theorem St.bytesGet {W0 w : World} {K : Know} {L : List Res} {b : Nat} {s : Bs} (h : St W0 w K (.gen (bRow b s) :: L)) : ∃ (C : Array Value) (fz : Nat × Nat), w.heap[b]? = some (.cells C 5 fz) ∧ s.length ≤ C.size ∧ s.length ≤ fz.1 ∧ ∀ j (h : j < s.length), C[j]? = some (.int .u8 (s[j].toNat : Int)) := by
  obtain ⟨_, S, F, ⟨S1, S2, h1, _⟩, _⟩ := h
  exact h1.1
theorem St.bytesNew {W0 w : World} {K : Know} {L : List Res} (h : St W0 w K L) {C : Array Value} {s : Bs} (hs : s.length ≤ C.size) (hC : ∀ j (h : j < s.length), C[j]? = some (.int .u8 (s[j].toNat : Int))) : St W0 (w.alloc (.cells C 5 (C.size, C.size + 1))) K (.gen (bRow w.heap.size s) :: L) :=
  h.new (S1 := fun k => k = w.heap.size) ((Keeps.refl _ _).alloc _) ⟨⟨C, _, heap_alloc_new w _, hs, hs, hC⟩, fun _ => Iff.rfl⟩ (by rintro j rfl; simp)
theorem St.bytesCell {W0 w : World} {K : Know} {L : List Res} {b : Nat} {s : Bs} (h : St W0 w K (.gen (bRow b s) :: L)) (j : Nat) (hj : j < s.length) : w.cell? ⟨b, j, none⟩ = some (.int .u8 (s[j].toNat : Int)) ∧ w.frozen? ⟨b, j, none⟩ = false := by
  obtain ⟨C, fz, h1, h2, h3, h4⟩ := h.bytesGet
  refine ⟨(cell_at h1 j).trans (h4 j hj), ?_⟩
  have : ¬ fz.1 ≤ j := by omega
  simp [World.frozen?, h1, this]
theorem St.bytesSet {W0 w : World} {K : Know} {L : List Res} {b : Nat} {s : Bs} (h : St W0 w K (.gen (bRow b s) :: L)) (j : Nat) (c : UInt8) (v : Int) (hv : v = (c.toNat : Int)) : St W0 (w.setCell ⟨b, j, none⟩ (.int .u8 v)) K (.gen (bRow b (s.set j c)) :: L) := by
  subst hv
  refine h.step fun S1 h1 => ?_
  obtain ⟨⟨C, fz, g1, g2, g3, g4⟩, g5⟩ := h1
  refine ⟨S1, ⟨⟨C.setIfInBounds j (.int .u8 (c.toNat : Int)), fz, heap_setCell_self g1 _, by simpa using g2, by simpa using g3, ?_⟩, g5⟩, (Keeps.refl _ _).setCell _ _ (.inl ((g5 b).2 rfl)), fun k hk => ⟨.inl hk, ?_⟩⟩
  · intro i hi
    have hi' : i < s.length := by simpa using hi
    rw [Array.getElem?_setIfInBounds]
    by_cases hij : j = i
    · subst hij
      rw [if_pos rfl, if_pos (by omega)]
      simp
    · rw [if_neg hij, g4 i hi', List.getElem_set_ne hij]
  · have := (g5 k).1 hk
    subst this
    simpa using heap_lt g1
theorem St.bytesText {W0 w : World} {K : Know} {L : List Res} {b : Nat} {s : Bs} (h : St W0 w K (.gen (bRow b s) :: L)) (n : Nat) (hn : n = s.length) (cap : Nat) : (convert 36 9 (.slice (some ⟨b, 0, none⟩) n cap)).run Try.prog w = .ok (.string (bb s)) w := by
  subst hn
  refine run_convert_bytes_back (P := Try.prog) w 36 9 5 ⟨b, 0, none⟩ cap s Try.underlying36 Try.underlying5 Try.underlying9 (fun j hj => ?_)
  have ha : (⟨b, 0, none⟩ : Addr).add j = ⟨b, j, none⟩ := by unfold Addr.add; split <;> simp_all
  rw [ha]
  exact (h.bytesCell j hj).1
theorem conv_bytes' (w : World) (s : Bs) :
    ∃ C cap, s.length ≤ C.size ∧ (∀ j (h : j < s.length), C[j]? = some (.int .u8 (s[j].toNat : Int))) ∧
      (convert 9 36 (.string (bb s))).run Try.prog w = .ok (.slice (some ⟨w.heap.size, 0, none⟩) s.length cap) (w.drew.alloc (.cells C 5 (C.size, C.size + 1))) := by
  obtain ⟨C, cap, hC, hr⟩ := conv_bytes (P := Try.prog) w 9 36 5 s Try.underlying9 Try.underlying36 Try.underlying5
  refine ⟨C, cap, ?_, hC, hr⟩
  rcases Nat.eq_zero_or_pos s.length with h0 | h0
  · omega
  · have h1 := hC (s.length - 1) (by omega)
    have := (Array.getElem?_eq_some_iff.1 h1).1
    omega

end Go.Proofs.Ytcjgdlfcfcabiaa

/- Layer 5, walked: what it stands on. -/
namespace Go.Proofs.Ytcjgdlfcfcabiaa
open Go.RowKit

theorem St.freezeStrs {W0 w : World} {K : Know} {L : List Res} {r : Nat} (l : List Bs) (h : St W0 w K (.raw r (l.map fun s => Value.string (bb s)).toArray 9 :: L)) : St W0 w (K.and (Know.strs (.slice (some ⟨r, 0, none⟩) l.length l.length) l)) L := by
  refine h.freeze fun F S1 _ h1 => ?_
  have hlt := heap_lt h1.1
  refine ⟨some ⟨r, 0, none⟩, l.length, rfl, fun _ => ⟨r, 0, rfl, .inr ⟨(h1.2 r).2 rfl, hlt⟩, hlt, fun i hi => ?_⟩⟩
  refine ⟨[.string (bb l[i])], rfl, rfl, fun f u hu => ?_⟩
  rw [cell_at h1.1]
  cases f with
  | zero =>
    simp at hu
    subst hu
    simp [hi]
  | succ f => simp at hu
theorem crc_sumR (b r n : Nat) (l : List Bs) (x : Nat) (hn : l.length = n) (hx : (crcParts 0#32 l).toNat = x) (hs : ∀ s ∈ l, s.length ≤ 140737488355328) (hl : l.length ≤ 9223372036854775807) {W0 w : World} {K : Know} {L : List Res} (h : St W0 w K (.raw r (l.map fun s => Value.string (bb s)).toArray 9 :: .raw b (tabC 256) 136 :: L)) :
    Calls Try.prog 83 #[tabPtr b, .slice (some ⟨r, 0, none⟩) n n] w fun en w' => en = .returned (.int .u32 x) ∧ St W0 w' K (.raw b (tabC 256) 136 :: L) := by
  subst hn; subst hx
  exact (crc_sum b _ l hl hs (Know.has_right (Know.has_refl _)) (h.freezeStrs l)).mono fun en w' hh => ⟨hh.1, hh.2.know (Know.has_left (Know.has_refl _))⟩
theorem crc_sum0 (b : Nat) {W0 w : World} {K : Know} {L : List Res} (h : St W0 w K (.raw b (tabC 256) 136 :: L)) :
    Calls Try.prog 83 #[tabPtr b, .slice none 0 0] w fun en w' => en = .returned (.int .u32 0) ∧ St W0 w' K (.raw b (tabC 256) 136 :: L) :=
  crc_sum b (.slice none 0 0) [] (by simp) (by simp) (fun _ _ _ => ⟨none, 0, rfl, fun h => absurd h (by simp)⟩) h
theorem conv_st {W0 w : World} {K : Know} {L : List Res} (_h : St W0 w K L) (s : Bs) :
    ∃ C cap, s.length ≤ C.size ∧ (∀ j (h : j < s.length), C[j]? = some (.int .u8 (s[j].toNat : Int))) ∧
      (convert 9 36 (.string (bb s))).run Try.prog w = .ok (.slice (some ⟨w.heap.size, 0, none⟩) s.length cap) (w.drew.alloc (.cells C 5 (C.size, C.size + 1))) := conv_bytes' w s

end Go.Proofs.Ytcjgdlfcfcabiaa

/- A whole value stored into a block of one's own. -/
namespace Go.Proofs.Ytcjgdlfcfcabiaa
open Go.RowKit

def setAll : Array Value → Nat → List Value → Array Value
  | c, _, [] => c
  | c, o, v :: r => setAll (c.setIfInBounds o v) (o + 1) r
theorem St.there {W0 w : World} {K : Know} {L : List Res} {b : Nat} {c : Array Value} {T : TypeId} (h : St W0 w K (.raw b c T :: L)) : w.there b 0 c.size := fun j hj => by
  rw [Nat.zero_add]
  exact ⟨by rw [h.rawCell j, Array.getElem?_eq_getElem hj]; rfl, h.rawFree j⟩
theorem St.rawSets {W0 : World} {K : Know} {L : List Res} {b : Nat} {T : TypeId} : ∀ (vs : List Value) (o : Nat) (c : Array Value) (w : World), St W0 w K (.raw b c T :: L) → St W0 (w.setCells b o vs) K (.raw b (setAll c o vs) T :: L)
  | [], _, _, _, h => h
  | v :: r, o, _, _, h => St.rawSets r (o + 1) _ _ (h.rawSet o v)
/-- A whole value stored into a block of one's own, the new world under a name. -/
theorem St.storeEx {W0 w : World} {K : Know} {L : List Res} {b : Nat} {c : Array Value} {T : TypeId} (h : St W0 w K (.raw b c T :: L)) (cs : Array Value) : ∃ wz, w.setCells b 0 cs.toList = wz ∧ St W0 wz K (.raw b (setAll c 0 cs.toList) T :: L) := ⟨_, rfl, h.rawSets _ _ _ _⟩
theorem St.allocEx {W0 w : World} {K : Know} {L : List Res} (h : St W0 w K L) (c : Array Value) (T : TypeId) : ∃ wy b, w.alloc (.cells c T (0, 0)) = wy ∧ w.heap.size = b ∧ St W0 wy K (.raw b c T :: L) := ⟨_, _, rfl, rfl, h.allocRaw c T⟩

end Go.Proofs.Ytcjgdlfcfcabiaa

/- Batches: their sums. -/
namespace Go.Proofs.Ytcjgdlfcfcabiaa
open Go.RowKit

theorem crc_two (a c : Bs) : (crcParts 0#32 [a, c]).toNat = (crcMore 0#32 (a ++ c)).toNat := by
  rw [crcParts_flat]
  simp
theorem crc_sum2 (b r : Nat) (a c : Bs) (x : Nat) (hx : (crcParts 0#32 [a, c]).toNat = x) (hs : ∀ s ∈ [a, c], s.length ≤ 140737488355328) (hl : [a, c].length ≤ 9223372036854775807) {W0 w : World} {K : Know} {L : List Res} (h : St W0 w K (.raw r #[.string (bb a), .string (bb c)] 9 :: .raw b (tabC 256) 136 :: L)) :
    Calls Try.prog 83 #[tabPtr b, .slice (some ⟨r, 0, none⟩) 2 2] w fun en w' => en = .returned (.int .u32 x) ∧ St W0 w' K (.raw b (tabC 256) 136 :: L) := crc_sumR b r 2 [a, c] x rfl hx hs hl h
set_option maxHeartbeats 1000000 in
set_option maxRecDepth 100000 in
theorem bat_sum (said rows : Bs) (x : Nat) (hx : (crcMore 0#32 (said.drop 21 ++ rows)).toNat = x) (hl : 21 ≤ said.length) (hl2 : said.length ≤ 140737488355328) (hr : rows.length ≤ 140737488355328) {W0 w : World} {K : Know} {L : List Res} (h : St W0 w K L) :
    Calls Try.prog 57 #[.string (bb said), .string (bb rows)] w fun en w' => en = .returned (.int .i64 x) ∧ St W0 w' K L := by
  have H := Lib.hid h
  have HX := Lib.hid (show (crcParts 0#32 [said.drop 21, rows]).toNat = x by rw [crc_two]; exact hx)
  have HSS := Lib.hid (show ∀ s ∈ [said.drop 21, rows], s.length ≤ 140737488355328 by
    intro s hs
    simp only [List.mem_cons, List.not_mem_nil, or_false] at hs
    rcases hs with rfl | rfl
    · rw [List.length_drop]; omega
    · exact hr)
  have HLS := Lib.hid (show [said.drop 21, rows].length ≤ 9223372036854775807 by simp)
  have HT := Lib.hid (show List.take (said.length - 21) (List.drop 21 said) = said.drop 21 from List.take_of_length_le (by rw [List.length_drop]; omega))
  have hx32 : x < 4294967296 := by rw [← hx]; exact (crcMore 0#32 (said.drop 21 ++ rows)).isLt
  have l21 : (21 : Int) ≤ (said.length : Int) := by omega
  have w1 : IntKind.i64.wrap (x : Int) = (x : Int) := IntWalk.i64_in _ (by omega)
  have w2 : wrap64 (x : Int) = (x : Int) := by unfold wrap64; omega
  clear h hx hl hl2 hr hx32
  go_enter Try.func57, Try.ntmps57
  go_upto_region 1 with (fail)
  have hs := H.out.drew
  refine wp_region_held_drew (S := fun _ => True) (by kernel_rfl) trivial (fun hHeld => ?_)
  clear H
  generalize w.drew = wd at hs ⊢
  refine wpAnyH_take (i := 1) (oi := { dst := some 6, op := Op.move (Operand.tmp 0), type := 9, pos := "batch.go:63", after := #[], guard := none }) (v := ?_) rfl (by kernel_rfl) (by kernel_rfl) (by kernel_rfl) (fun _ _ _ h => h) (Or.inl ⟨by rfl, ?_⟩) (by assumption) ?_
  rotate_left
  · intro w hSw; (try dsimp only at hSw); go_simp; try with_reducible rfl
  simp only [Act.put, List.setIfInBounds_toArray, List.set_cons_zero, List.set_cons_succ]
  refine wpAnyH_take (i := 2) (oi := { dst := some 7, op := Op.slice 9 (Operand.tmp 6) (some (Operand.const (Value.int IntKind.i64 21))) none none, type := 9, pos := "batch.go:63", after := #[{ on := 1, ground := Ground.data }], guard := none }) (v := ?_) rfl (by kernel_rfl) (by kernel_rfl) (by kernel_rfl) (fun _ _ _ h => h) (Or.inl ⟨by rfl, ?_⟩) (by assumption) ?_
  rotate_left
  · intro w hSw; (try dsimp only at hSw); go_simp; try with_reducible rfl
  simp only [Act.put, List.setIfInBounds_toArray, List.set_cons_zero, List.set_cons_succ]
  refine wpAnyH_take (i := 3) (oi := { dst := some 8, op := Op.move (Operand.tmp 1), type := 9, pos := "batch.go:63", after := #[], guard := none }) (v := ?_) rfl (by kernel_rfl) (by kernel_rfl) (by kernel_rfl) (fun _ _ _ h => h) (Or.inl ⟨by rfl, ?_⟩) (by assumption) ?_
  rotate_left
  · intro w hSw; (try dsimp only at hSw); go_simp; try with_reducible rfl
  simp only [Act.put, List.setIfInBounds_toArray, List.set_cons_zero, List.set_cons_succ]
  refine wpAnyH_ready (rs := [0, 4]) (by kernel_rfl) (by simp) (AllReadyH.cons (o := { dst := some 5, op := Op.call { callee := Callee.value (Operand.func 82), args := #[], argTypes := #[] }, type := 121, pos := "batch.go:63", after := #[], guard := none }) rfl (fun KK hK => ?_) (AllReadyH.cons (o := { dst := some 9, op := Op.buildSlice 138 2 #[(0, Operand.tmp 7), (1, Operand.tmp 8)], type := 138, pos := "batch.go:63", after := #[{ on := 2, ground := Ground.data }, { on := 3, ground := Ground.data }], guard := none }) rfl (fun KK hK => ?_) AllReadyH.nil))
  · go_simp
    go_at_call 82
    with_reducible refine (crc_new hs).mono ?_
    rintro e wq ⟨bt, rfl, hs⟩
    refine hK.out _ _ (trivial) (fun hHeld => ?_)
    clear hK KK
    try simp only [Act.put, List.setIfInBounds_toArray, List.set_cons_zero, List.set_cons_succ]
    refine wpAnyH_ready (rs := [4]) (by kernel_rfl) (by simp) (AllReadyH.cons (o := { dst := some 9, op := Op.buildSlice 138 2 #[(0, Operand.tmp 7), (1, Operand.tmp 8)], type := 138, pos := "batch.go:63", after := #[{ on := 2, ground := Ground.data }, { on := 3, ground := Ground.data }], guard := none }) rfl (fun KK hK => ?_) AllReadyH.nil)
    · obtain ⟨wy, bS, ey, eb, hs⟩ := hs.allocEx #[.string (bb (said.drop 21)), .string (bb rows)] 9
      go_simp
      try rw [HT.out]
      try rw [ey]
      try rw [eb]
      clear ey eb
      refine hK.out _ _ (trivial) (fun hHeld => ?_)
      clear hK KK
      try simp only [Act.put, List.setIfInBounds_toArray, List.set_cons_zero, List.set_cons_succ]
      refine wpAnyH_ready (rs := [5]) (by kernel_rfl) (by simp) (AllReadyH.cons (o := { dst := some 10, op := Op.call { callee := Callee.value (Operand.func 83), args := #[Operand.tmp 5, Operand.tmp 9], argTypes := #[121, 138] }, type := 66, pos := "batch.go:63", after := #[{ on := 0, ground := Ground.data }, { on := 4, ground := Ground.data }, { on := 0, ground := Ground.chain }], guard := none }) rfl (fun KK hK => ?_) AllReadyH.nil)
      · go_simp
        go_at_call 83
        with_reducible refine (crc_sum2 bt bS (said.drop 21) rows x HX.out HSS.out HLS.out (hs)).mono ?_
        rintro e wq ⟨rfl, hs⟩
        refine hK.out _ _ (trivial) (fun hHeld => ?_)
        clear hK KK
        try simp only [Act.put, List.setIfInBounds_toArray, List.set_cons_zero, List.set_cons_succ]
        refine wpAnyH_take (i := 6) (oi := { dst := some 11, op := Op.convert 66 3 (Operand.tmp 10), type := 3, pos := "batch.go:63", after := #[{ on := 5, ground := Ground.data }], guard := none }) (v := ?_) rfl (by kernel_rfl) (by kernel_rfl) (by kernel_rfl) (fun _ _ _ h => h) (Or.inl ⟨by rfl, ?_⟩) (by assumption) ?_
        rotate_left
        · intro w hSw; (try dsimp only at hSw); go_simp; try with_reducible rfl
        simp only [Act.put, List.setIfInBounds_toArray, List.set_cons_zero, List.set_cons_succ]
        refine wpAnyH_take (i := 7) (oi := { dst := some 4, op := Op.assign (Operand.tmp 11), type := 3, pos := "batch.go:63", after := #[{ on := 6, ground := Ground.data }, { on := 5, ground := Ground.chain }, { on := 0, ground := Ground.phase }, { on := 1, ground := Ground.phase }, { on := 2, ground := Ground.phase }, { on := 3, ground := Ground.phase }, { on := 4, ground := Ground.phase }, { on := 5, ground := Ground.phase }, { on := 6, ground := Ground.phase }], guard := none }) (v := ?_) rfl (by kernel_rfl) (by kernel_rfl) (by kernel_rfl) (fun _ _ _ h => h) (Or.inl ⟨by rfl, ?_⟩) (by assumption) ?_
        rotate_left
        · intro w hSw; (try dsimp only at hSw); go_simp; try with_reducible rfl
        simp only [Act.put, List.setIfInBounds_toArray, List.set_cons_zero, List.set_cons_succ]
        refine wpAnyH_done (by kernel_rfl) ?_ _
        clear hHeld
        go_wp2_with fail
        go_ret
        exact ⟨rfl, hs.drop⟩
  · obtain ⟨wy, bS, ey, eb, hs⟩ := hs.allocEx #[.string (bb (said.drop 21)), .string (bb rows)] 9
    go_simp
    try rw [HT.out]
    try rw [ey]
    try rw [eb]
    clear ey eb
    refine hK.out _ _ (trivial) (fun hHeld => ?_)
    clear hK KK
    try simp only [Act.put, List.setIfInBounds_toArray, List.set_cons_zero, List.set_cons_succ]
    refine wpAnyH_ready (rs := [0]) (by kernel_rfl) (by simp) (AllReadyH.cons (o := { dst := some 5, op := Op.call { callee := Callee.value (Operand.func 82), args := #[], argTypes := #[] }, type := 121, pos := "batch.go:63", after := #[], guard := none }) rfl (fun KK hK => ?_) AllReadyH.nil)
    · go_simp
      go_at_call 82
      with_reducible refine (crc_new hs).mono ?_
      rintro e wq ⟨bt, rfl, hs⟩
      refine hK.out _ _ (trivial) (fun hHeld => ?_)
      clear hK KK
      try simp only [Act.put, List.setIfInBounds_toArray, List.set_cons_zero, List.set_cons_succ]
      refine wpAnyH_ready (rs := [5]) (by kernel_rfl) (by simp) (AllReadyH.cons (o := { dst := some 10, op := Op.call { callee := Callee.value (Operand.func 83), args := #[Operand.tmp 5, Operand.tmp 9], argTypes := #[121, 138] }, type := 66, pos := "batch.go:63", after := #[{ on := 0, ground := Ground.data }, { on := 4, ground := Ground.data }, { on := 0, ground := Ground.chain }], guard := none }) rfl (fun KK hK => ?_) AllReadyH.nil)
      · go_simp
        go_at_call 83
        with_reducible refine (crc_sum2 bt bS (said.drop 21) rows x HX.out HSS.out HLS.out (hs.p1)).mono ?_
        rintro e wq ⟨rfl, hs⟩
        refine hK.out _ _ (trivial) (fun hHeld => ?_)
        clear hK KK
        try simp only [Act.put, List.setIfInBounds_toArray, List.set_cons_zero, List.set_cons_succ]
        refine wpAnyH_take (i := 6) (oi := { dst := some 11, op := Op.convert 66 3 (Operand.tmp 10), type := 3, pos := "batch.go:63", after := #[{ on := 5, ground := Ground.data }], guard := none }) (v := ?_) rfl (by kernel_rfl) (by kernel_rfl) (by kernel_rfl) (fun _ _ _ h => h) (Or.inl ⟨by rfl, ?_⟩) (by assumption) ?_
        rotate_left
        · intro w hSw; (try dsimp only at hSw); go_simp; try with_reducible rfl
        simp only [Act.put, List.setIfInBounds_toArray, List.set_cons_zero, List.set_cons_succ]
        refine wpAnyH_take (i := 7) (oi := { dst := some 4, op := Op.assign (Operand.tmp 11), type := 3, pos := "batch.go:63", after := #[{ on := 6, ground := Ground.data }, { on := 5, ground := Ground.chain }, { on := 0, ground := Ground.phase }, { on := 1, ground := Ground.phase }, { on := 2, ground := Ground.phase }, { on := 3, ground := Ground.phase }, { on := 4, ground := Ground.phase }, { on := 5, ground := Ground.phase }, { on := 6, ground := Ground.phase }], guard := none }) (v := ?_) rfl (by kernel_rfl) (by kernel_rfl) (by kernel_rfl) (fun _ _ _ h => h) (Or.inl ⟨by rfl, ?_⟩) (by assumption) ?_
        rotate_left
        · intro w hSw; (try dsimp only at hSw); go_simp; try with_reducible rfl
        simp only [Act.put, List.setIfInBounds_toArray, List.set_cons_zero, List.set_cons_succ]
        refine wpAnyH_done (by kernel_rfl) ?_ _
        clear hHeld
        go_wp2_with fail
        go_ret
        exact ⟨rfl, hs.drop⟩

end Go.Proofs.Ytcjgdlfcfcabiaa

/- Bits of an attribute, as numbers. -/
namespace Go.Proofs.Ytcjgdlfcfcabiaa
open Go.RowKit

def bitAt (n : Int) (i : Nat) : Bool := decide (n / 2 ^ i % 2 = 1)
def R64 (n : Int) : Prop := -9223372036854775808 ≤ n ∧ n < 9223372036854775808
theorem wrap_nat0 (k : Nat) (h : k < 18446744073709551616) : IntKind.i64.wrap (k : Int) = 0 ↔ k = 0 := by
  rw [IntKind.wrap_i64]; omega
theorem ofInt64_toNat (n : Int) : ((BitVec.ofInt 64 n).toNat : Int) = n % 18446744073709551616 := by
  rw [BitVec.toNat_ofInt]
  have : (0 : Int) ≤ n % ((2 ^ 64 : Nat) : Int) := Int.emod_nonneg _ (by decide)
  rw [Int.toNat_of_nonneg this]
  rfl
theorem ofInt64_bit (n : Int) (i : Nat) (hi : i < 64) : (BitVec.ofInt 64 n).toNat.testBit i = bitAt n i := by
  obtain ⟨m, hm⟩ : ∃ m, (BitVec.ofInt 64 n).toNat = m := ⟨_, rfl⟩
  have h := ofInt64_toNat n
  rw [hm] at h
  rw [hm, Nat.testBit_eq_decide_div_mod_eq]
  unfold bitAt
  apply decide_eq_decide.mpr
  have hd : ((2 : Int) ^ i) * (2 * 2 ^ (63 - i)) = 18446744073709551616 := by
    rw [← Int.mul_assoc, Int.mul_comm _ 2, Int.mul_assoc, ← Int.pow_add, show i + (63 - i) = 63 by omega]; decide
  have hp : (0 : Int) < 2 ^ i := Int.pow_pos (by decide)
  have e : n = (m : Int) + 2 ^ i * (2 * (2 ^ (63 - i) * (n / 18446744073709551616))) := by
    have h1 := Int.mul_ediv_add_emod n 18446744073709551616
    rw [← Int.mul_assoc 2, ← Int.mul_assoc (2 ^ i), hd]
    omega
  have e2 : n / 2 ^ i = (m : Int) / 2 ^ i + 2 * (2 ^ (63 - i) * (n / 18446744073709551616)) := by
    have := Int.add_mul_ediv_left (m : Int) (2 * (2 ^ (63 - i) * (n / 18446744073709551616))) (Int.ne_of_gt hp)
    rw [← e] at this
    exact this
  have e3 : ((m : Int) / 2 ^ i) = ((m / 2 ^ i : Nat) : Int) := by
    rw [Int.natCast_ediv, Int.natCast_pow]; rfl
  rw [e2, e3, Int.add_mul_emod_self_left]
  omega
theorem and_pow (n : Int) (i : Nat) (hi : i < 63) (m : Int) (hm : BitVec.ofInt 64 m = BitVec.twoPow 64 i) : (bits .and .i64 n m != 0) = bitAt n i := by
  have e : bits .and .i64 n m = IntKind.i64.wrap ((BitVec.ofInt 64 n &&& BitVec.ofInt 64 m).toNat : Int) := rfl
  have hb : (BitVec.ofInt 64 n).getLsbD i = bitAt n i := ofInt64_bit n i (by omega)
  have hp : 2 ^ i < 2 ^ 64 := Nat.pow_lt_pow_right (by decide) (by omega)
  rw [e, hm, BitVec.and_twoPow, hb]
  cases bitAt n i
  · rw [if_neg (by decide)]
    decide
  · rw [if_pos rfl, bne_iff_ne, Ne, wrap_nat0 _ (BitVec.isLt _), BitVec.toNat_twoPow, Nat.mod_eq_of_lt hp]
    exact Nat.ne_of_gt (Nat.two_pow_pos i)
theorem and7 (n : Int) : (bits .and .i64 n 7 != 0) = (bitAt n 0 || bitAt n 1 || bitAt n 2) := by
  have e : bits .and .i64 n 7 = IntKind.i64.wrap ((BitVec.ofInt 64 n &&& BitVec.ofInt 64 7).toNat : Int) := rfl
  have hlt := (BitVec.ofInt 64 n &&& BitVec.ofInt 64 7).isLt
  have hz := wrap_nat0 _ hlt
  have h2 : (BitVec.ofInt 64 n &&& BitVec.ofInt 64 7).toNat = (BitVec.ofInt 64 n).toNat % 8 := by
    rw [BitVec.toNat_and, show (BitVec.ofInt 64 7).toNat = 2 ^ 3 - 1 by decide, Nat.and_two_pow_sub_one_eq_mod]
  have h3 := ofInt64_toNat n
  rw [h2] at e hz
  rw [Bool.eq_iff_iff, bne_iff_ne, e, Ne, hz]
  unfold bitAt
  simp
  omega
theorem andNot56 (n : Int) (hn : R64 n) (h : (bitAt n 0 || bitAt n 1 || bitAt n 2) = false) : (bits .andNot .i64 n 56 != 0) = (decide (n < 0) || decide (63 < n)) := by
  have h8 : n % 8 = 0 := by unfold bitAt at h; simp at h; omega
  by_cases h1 : 0 ≤ n ∧ n ≤ 63
  · rw [decide_eq_false (by omega), decide_eq_false (by omega)]
    obtain ⟨q, hq⟩ : ∃ q, n = 8 * q := ⟨n / 8, by omega⟩
    rcases (by omega : q = 0 ∨ q = 1 ∨ q = 2 ∨ q = 3 ∨ q = 4 ∨ q = 5 ∨ q = 6 ∨ q = 7) with h | h | h | h | h | h | h | h <;> (subst h; subst hq; decide)
  · have hr : (decide (n < 0) || decide (63 < n)) = true := by simp; omega
    rw [hr, bne_iff_ne]
    intro h0
    have e : bits .andNot .i64 n 56 = IntKind.i64.wrap ((BitVec.ofInt 64 n &&& ~~~ BitVec.ofInt 64 56).toNat : Int) := rfl
    rw [e, wrap_nat0 _ (BitVec.isLt _)] at h0
    have h2 : ∀ i, 6 ≤ i → (BitVec.ofInt 64 n).toNat.testBit i = false := by
      intro i hi
      by_cases h64 : i < 64
      · have h4 := congrArg (fun k => Nat.testBit k i) h0
        have h5 : (BitVec.ofInt 64 n &&& ~~~ BitVec.ofInt 64 56).getLsbD i = false := by
          have : (BitVec.ofInt 64 n &&& ~~~ BitVec.ofInt 64 56).toNat.testBit i = false := by rw [h0]; exact Nat.zero_testBit i
          exact this
        rw [BitVec.getLsbD_and, BitVec.getLsbD_not] at h5
        have h6 : (BitVec.ofInt 64 56).getLsbD i = false := by
          have : (BitVec.ofInt 64 56).toNat = 56 := by decide
          unfold BitVec.getLsbD
          rw [this]
          exact Nat.testBit_lt_two_pow (Nat.lt_of_lt_of_le (by decide : 56 < 2 ^ 6) (Nat.pow_le_pow_right (by decide) hi))
        rw [h6] at h5
        have h11 : (BitVec.ofInt 64 n).getLsbD i = false := by cases hc : (BitVec.ofInt 64 n).getLsbD i <;> simp_all
        exact h11
      · exact BitVec.getLsbD_of_ge _ _ (by omega)
    have h7 : (BitVec.ofInt 64 n).toNat < 2 ^ 6 := Nat.lt_pow_two_of_testBit _ h2
    have h8 := ofInt64_toNat n
    have h9 := hn.1
    have h10 := hn.2
    omega
theorem tmod2 (x : Int) : x.tmod 2 = if 0 ≤ x then x % 2 else -((-x) % 2) := by
  split
  · rw [Int.tmod_eq_emod_of_nonneg (by assumption)]
  · rw [← Int.tmod_eq_emod_of_nonneg (by omega), Int.neg_tmod, Int.neg_neg]
theorem halve {x : Int} (hx : R64 x) : wrap64 ((wrap64 (x - (wrap64 ((if 0 ≤ x then x % 2 else -((-x) % 2)) + 2)).tmod 2)).tdiv 2) = x / 2 := by
  have h1 := hx.1
  have h2 := hx.2
  have e1 : (wrap64 ((if 0 ≤ x then x % 2 else -((-x) % 2)) + 2)).tmod 2 = x % 2 := by
    have : wrap64 ((if 0 ≤ x then x % 2 else -((-x) % 2)) + 2) = (if 0 ≤ x then x % 2 else -((-x) % 2)) + 2 := by
      unfold wrap64; split <;> omega
    rw [this, Int.tmod_eq_emod_of_nonneg (by split <;> omega)]
    split <;> omega
  rw [e1]
  have e2 : wrap64 (x - x % 2) = 2 * (x / 2) := by unfold wrap64; omega
  rw [e2, Int.mul_tdiv_cancel_left _ (by decide)]
  unfold wrap64; omega
def chk (n : Int) : Int := if (bitAt n 0 || bitAt n 1 || bitAt n 2) = true then 9 else if (decide (n < 0) || decide (63 < n) || (bitAt n 5 && !bitAt n 4)) = true then 8 else 0
def attrN (a t c : Bool) (k : Nat) : Int := (if a && decide (0 < k) then 8 else 0) + (if t && decide (1 < k) then 16 else 0) + (if c && decide (2 < k) then 32 else 0)

end Go.Proofs.Ytcjgdlfcfcabiaa

/- Contracts of package attr. -/
namespace Go.Proofs.Ytcjgdlfcfcabiaa
open Go.RowKit

theorem and8 (n : Int) : (bits .and .i64 n 8 != 0) = bitAt n 3 := and_pow n 3 (by decide) 8 (by decide)
theorem and16 (n : Int) : (bits .and .i64 n 16 != 0) = bitAt n 4 := and_pow n 4 (by decide) 16 (by decide)
theorem and32 (n : Int) : (bits .and .i64 n 32 != 0) = bitAt n 5 := and_pow n 5 (by decide) 32 (by decide)
theorem and16z (n : Int) : (bits .and .i64 n 16 == 0) = !bitAt n 4 := by rw [← and16]; simp [bne]
set_option maxHeartbeats 1000000 in
set_option maxRecDepth 100000 in
theorem attr_read (n : Int) (w : World) :
    Calls Try.prog 14 #[.int .i64 n] w fun en w' => en = .returned (.tuple #[.bool (bitAt n 3), .bool (bitAt n 4), .bool (bitAt n 5)]) ∧ w = w' := by
  have h1 := and8 n
  have h2 := and16 n
  have h3 := and32 n
  go_enter Try.func14, Try.ntmps14
  go_wp2
  go_ret3
  rw [← h1, ← h2, ← h3]
  exact ⟨rfl, rfl⟩
set_option maxHeartbeats 1000000 in
set_option maxRecDepth 100000 in
theorem attr_check (n : Int) (hn : R64 n) (w : World) :
    Calls Try.prog 15 #[.int .i64 n] w fun en w' => en = .returned (.int .i64 (chk n)) ∧ w = w' := by
  have a7 := and7 n
  have a56 := andNot56 n hn
  have a16 := and16z n
  have a32 := and32 n
  clear hn
  have hc : chk n = chk n := rfl
  conv at hc => rhs; unfold chk
  cases hb : (bitAt n 0 || bitAt n 1 || bitAt n 2)
  · rw [hb] at a7 hc
    rw [hb] at a56
    replace a56 := a56 rfl
    cases hd : (decide (n < 0) || decide (63 < n))
    · rw [hd] at a56 hc
      cases h5 : bitAt n 5
      · rw [h5] at a32 hc
        have HC := Lib.hid (show chk n = 0 from hc)
        clear hc hd hb h5
        go_enter Try.func15, Try.ntmps15
        go_wp2
        go_ret
        rw [HC.out]
        exact ⟨rfl, rfl⟩
      · rw [h5] at a32 hc
        cases h4 : bitAt n 4
        · rw [h4] at a16 hc
          have HC := Lib.hid (show chk n = 8 from hc)
          clear hc hd hb h5 h4
          go_enter Try.func15, Try.ntmps15
          go_wp2
          go_ret
          rw [HC.out]
          exact ⟨rfl, rfl⟩
        · rw [h4] at a16 hc
          have HC := Lib.hid (show chk n = 0 from hc)
          clear hc hd hb h5 h4
          go_enter Try.func15, Try.ntmps15
          go_wp2
          go_ret
          rw [HC.out]
          exact ⟨rfl, rfl⟩
    · rw [hd] at a56 hc
      have HC := Lib.hid (show chk n = 8 from hc)
      clear hc hd hb
      go_enter Try.func15, Try.ntmps15
      go_wp2
      go_ret
      rw [HC.out]
      exact ⟨rfl, rfl⟩
  · rw [hb] at a7 hc
    have HC := Lib.hid (show chk n = 9 from hc)
    clear hc hb a56
    go_enter Try.func15, Try.ntmps15
    go_wp2
    go_ret
    rw [HC.out]
    exact ⟨rfl, rfl⟩

set_option maxHeartbeats 1000000 in
set_option maxRecDepth 100000 in
theorem law_bit (n : Int) (i : Nat) (hi : i ≤ 6) (hn : R64 n) (w : World) :
    Calls Try.prog 13 #[.int .i64 n, .int .i64 (i : Int)] w fun en w' => en = .returned (.bool (bitAt n i)) ∧ w = w' := by
  go_enter Try.func13, Try.ntmps13
  go_wp2
  go_loop [0, 6] (fun xv kv => ∃ (k : Nat) (x : Int), k ≤ i ∧ kv = .int .i64 k ∧ xv = .int .i64 x ∧ R64 x ∧ x = n / 2 ^ k) (fun _ kv => i - (intOf kv).toNat)
  case atStart => exact ⟨0, n, by omega, rfl, rfl, hn, by simp⟩
  case round =>
    obtain ⟨k, x, hk, rfl, rfl, hx, hx2⟩ := hrel
    have HX := Lib.hid hx2
    clear hx2
    have hx3 := hx.1
    have hx4 := hx.2
    clear hn
    by_cases h8 : k < i
    · go_wp2
      go_round
      case rel =>
        refine ⟨k + 1, x / 2, by omega, by go_num, congrArg (Value.int .i64) ?_, ⟨by omega, by omega⟩, ?_⟩
        · rw [tmod2 x]
          exact halve hx
        · rw [HX.out, Int.pow_succ, Int.ediv_ediv_of_nonneg (Int.le_of_lt (Int.pow_pos (by decide)))]
      case measure => first | (simp [intOf]; done) | (simp [intOf]; omega)
    · have hk8 : k = i := by omega
      subst hk8
      go_wp2
      go_ret
      refine ⟨congrArg (fun b => Ending.returned (Value.bool b)) ?_, rfl⟩
      unfold bitAt
      rw [← HX.out, tmod2 x, Bool.eq_iff_iff]
      simp
      split <;> omega
theorem attrN_3 (a t c : Bool) : attrN a t c 3 = attrN a t c 3 := rfl
abbrev aBatch (base leader : Int) (a t c : Bool) (last first max prod epoch sq : Int) (ro : Option Addr) (e k : Nat) : Value :=
  .agg #[.int .i64 base, .int .i64 leader, .bool a, .bool t, .bool c, .int .i64 last, .int .i64 first, .int .i64 max, .int .i64 prod, .int .i64 epoch, .int .i64 sq, .slice ro e k]
set_option maxHeartbeats 1000000 in
set_option maxRecDepth 100000 in
theorem attr_of (base leader : Int) (a t c : Bool) (last first max prod epoch sq : Int) (ro : Option Addr) (e k : Nat) {W0 w : World} {K : Know} {L : List Res} (h : St W0 w K L) :
    Calls Try.prog 16 #[aBatch base leader a t c last first max prod epoch sq ro e k] w fun en w' => en = .returned (.int .i64 (attrN a t c 3)) ∧ St W0 w' K L := by
  have H := Lib.hid h
  clear h
  go_enter Try.func16, Try.ntmps16
  go_wp2
  go_loop [4, 15] (fun nv kv => ∃ (k : Nat), k ≤ 3 ∧ kv = .int .i64 k ∧ nv = .int .i64 (attrN a t c k)) (fun _ kv => 3 - (intOf kv).toNat)
  case atStart => exact ⟨0, by decide, rfl, by simp [attrN]⟩
  case round =>
    obtain ⟨k, hk, rfl, rfl⟩ := hrel
    have e1 : attrN true t c 1 = bits .or .i64 (attrN true t c 0) 8 := by cases t <;> cases c <;> decide
    have e2 : attrN a true c 2 = bits .or .i64 (attrN a true c 1) 16 := by cases a <;> cases c <;> decide
    have e3 : attrN a t true 3 = bits .or .i64 (attrN a t true 2) 32 := by cases a <;> cases t <;> decide
    have f1 : attrN false t c 1 = attrN false t c 0 := by cases t <;> cases c <;> decide
    have f2 : attrN a false c 2 = attrN a false c 1 := by cases a <;> cases c <;> decide
    have f3 : attrN a t false 3 = attrN a t false 2 := by cases a <;> cases t <;> decide
    have E := Lib.hid (And.intro e1 (And.intro e2 (And.intro e3 (And.intro f1 (And.intro f2 f3)))))
    clear e1 e2 e3 f1 f2 f3
    have i0 : ∀ w : World, (Instr.index 81 (.agg #[.bool a, .bool t, .bool c]) (.int .i64 0)).run Try.prog w = .ok (.bool a) w := fun _ => by kernel_rfl
    have i1 : ∀ w : World, (Instr.index 81 (.agg #[.bool a, .bool t, .bool c]) (.int .i64 1)).run Try.prog w = .ok (.bool t) w := fun _ => by kernel_rfl
    have i2 : ∀ w : World, (Instr.index 81 (.agg #[.bool a, .bool t, .bool c]) (.int .i64 2)).run Try.prog w = .ok (.bool c) w := fun _ => by kernel_rfl
    rcases (by omega : k = 0 ∨ k = 1 ∨ k = 2 ∨ k = 3) with h | h | h | h
    · subst h
      cases a
      all_goals
        go_wp2
        go_round
        case rel => exact ⟨1, by decide, rfl, congrArg (Value.int .i64) (by first | exact E.out.2.2.2.1.symm | exact E.out.1.symm)⟩
        case measure => decide
    · subst h
      cases t
      all_goals
        go_wp2
        go_round
        case rel => exact ⟨2, by decide, rfl, congrArg (Value.int .i64) (by first | exact E.out.2.2.2.2.1.symm | exact E.out.2.1.symm)⟩
        case measure => decide
    · subst h
      cases c
      all_goals
        go_wp2
        go_round
        case rel => exact ⟨3, by decide, rfl, congrArg (Value.int .i64) (by first | exact E.out.2.2.2.2.2.symm | exact E.out.2.2.1.symm)⟩
        case measure => decide
    · subst h
      go_wp2
      go_ret
      exact ⟨rfl, (H.out.alloc _).alloc _⟩

end Go.Proofs.Ytcjgdlfcfcabiaa

/- Ends of transactions as batches (pure). -/
namespace Go.Proofs.Ytcjgdlfcfcabiaa
open Go.RowKit

theorem rc_cell_tmp {P : Program} {fn : Func} {p t : Tmp} {ty : TypeId} (h : fn.results = #[.cell p ty, .tmp t]) (tmps : Array Value) (w : World) (b : Nat) (cs : List Value) (d : TypeDesc)
    (hp : tmps.getD p undef = .pointer (some ⟨b, 0, none⟩)) (hc : w.rangeAt b 0 cs) (hu : P.underlying ty = some d) (hd : d.isRow = true) (hi : (P.info? ty).map (·.size) = some cs.length) :
    (results fn tmps).run P w = .ok (.tuple #[.agg cs.toArray, tmps.getD t undef]) w := by
  have hp' : tmps[p]?.getD undef = .pointer (some ⟨b, 0, none⟩) := by simpa using hp
  simp [results, h, hp', asAddr, run_loadVar_mid w b 0 ty cs d hc hu hd hi]
theorem rc_cell_only {P : Program} {fn : Func} {p : Tmp} {ty : TypeId} (h : fn.results = #[.cell p ty]) (tmps : Array Value) (w : World) (b : Nat) (cs : List Value) (d : TypeDesc)
    (hp : tmps.getD p undef = .pointer (some ⟨b, 0, none⟩)) (hc : w.rangeAt b 0 cs) (hu : P.underlying ty = some d) (hd : d.isRow = true) (hi : (P.info? ty).map (·.size) = some cs.length) :
    (results fn tmps).run P w = .ok (.agg cs.toArray) w := by
  have hp' : tmps[p]?.getD undef = .pointer (some ⟨b, 0, none⟩) := by simpa using hp
  simp [results, h, hp', asAddr, run_loadVar_mid w b 0 ty cs d hc hu hd hi]
theorem rc_range {W0 w : World} {K : Know} {L : List Res} {b : Nat} {c : List Value} {T : TypeId} (h : St W0 w K (.raw b c.toArray T :: L)) : w.rangeAt b 0 c := by
  intro j v hv
  rw [Nat.zero_add, h.rawCell j]
  simpa using hv
theorem raw5e {W0 w : World} {K : Know} {L : List Res} {b : Nat} {a0 a1 a2 a3 a4 : Value} {T : TypeId} (h : St W0 w K (.raw b #[a0, a1, a2, a3, a4] T :: L)) :
    (w.cell? ⟨b, 0, none⟩ = some a0 ∧ w.cell? ⟨b, 1, none⟩ = some a1 ∧ w.cell? ⟨b, 2, none⟩ = some a2 ∧ w.cell? ⟨b, 3, none⟩ = some a3 ∧ w.cell? ⟨b, 4, none⟩ = some a4) ∧
    (w.frozen? ⟨b, 0, none⟩ = false ∧ w.frozen? ⟨b, 1, none⟩ = false ∧ w.frozen? ⟨b, 2, none⟩ = false ∧ w.frozen? ⟨b, 3, none⟩ = false ∧ w.frozen? ⟨b, 4, none⟩ = false) :=
  ⟨⟨(h.rawCell 0).trans rfl, (h.rawCell 1).trans rfl, (h.rawCell 2).trans rfl, (h.rawCell 3).trans rfl, (h.rawCell 4).trans rfl⟩, h.rawFree 0, h.rawFree 1, h.rawFree 2, h.rawFree 3, h.rawFree 4⟩
theorem St.sets12 {W0 w : World} {K : Know} {L : List Res} {b : Nat} {T : TypeId} {a0 a1 a2 a3 a4 a5 a6 a7 a8 a9 a10 a11 : Value} (v0 v1 v2 v3 v4 v5 v6 v7 v8 v9 v10 v11 : Value) (h : St W0 w K (.raw b #[a0, a1, a2, a3, a4, a5, a6, a7, a8, a9, a10, a11] T :: L)) : St W0 ((((((((((((w.setCell ⟨b, 0, none⟩ v0).setCell ⟨b, 1, none⟩ v1).setCell ⟨b, 2, none⟩ v2).setCell ⟨b, 3, none⟩ v3).setCell ⟨b, 4, none⟩ v4).setCell ⟨b, 5, none⟩ v5).setCell ⟨b, 6, none⟩ v6).setCell ⟨b, 7, none⟩ v7).setCell ⟨b, 8, none⟩ v8).setCell ⟨b, 9, none⟩ v9).setCell ⟨b, 10, none⟩ v10).setCell ⟨b, 11, none⟩ v11) K (.raw b #[v0, v1, v2, v3, v4, v5, v6, v7, v8, v9, v10, v11] T :: L) := by
  have h : St W0 _ K (.raw b #[v0, a1, a2, a3, a4, a5, a6, a7, a8, a9, a10, a11] T :: L) := h.rawSet 0 v0
  have h : St W0 _ K (.raw b #[v0, v1, a2, a3, a4, a5, a6, a7, a8, a9, a10, a11] T :: L) := h.rawSet 1 v1
  have h : St W0 _ K (.raw b #[v0, v1, v2, a3, a4, a5, a6, a7, a8, a9, a10, a11] T :: L) := h.rawSet 2 v2
  have h : St W0 _ K (.raw b #[v0, v1, v2, v3, a4, a5, a6, a7, a8, a9, a10, a11] T :: L) := h.rawSet 3 v3
  have h : St W0 _ K (.raw b #[v0, v1, v2, v3, v4, a5, a6, a7, a8, a9, a10, a11] T :: L) := h.rawSet 4 v4
  have h : St W0 _ K (.raw b #[v0, v1, v2, v3, v4, v5, a6, a7, a8, a9, a10, a11] T :: L) := h.rawSet 5 v5
  have h : St W0 _ K (.raw b #[v0, v1, v2, v3, v4, v5, v6, a7, a8, a9, a10, a11] T :: L) := h.rawSet 6 v6
  have h : St W0 _ K (.raw b #[v0, v1, v2, v3, v4, v5, v6, v7, a8, a9, a10, a11] T :: L) := h.rawSet 7 v7
  have h : St W0 _ K (.raw b #[v0, v1, v2, v3, v4, v5, v6, v7, v8, a9, a10, a11] T :: L) := h.rawSet 8 v8
  have h : St W0 _ K (.raw b #[v0, v1, v2, v3, v4, v5, v6, v7, v8, v9, a10, a11] T :: L) := h.rawSet 9 v9
  have h : St W0 _ K (.raw b #[v0, v1, v2, v3, v4, v5, v6, v7, v8, v9, v10, a11] T :: L) := h.rawSet 10 v10
  have h : St W0 _ K (.raw b #[v0, v1, v2, v3, v4, v5, v6, v7, v8, v9, v10, v11] T :: L) := h.rawSet 11 v11
  exact h
/-- How a batch ends a transaction: whose, of which epoch, how, when, by whom, and that it does. -/
def endOf (b : BatS) : Int × Int × Int × Int × Int × Bool :=
  if b.ctl = true ∧ batErr b = 0 then match b.recs with
    | x :: _ => (b.prod, b.epoch, (ctlOf x).1, b.first + x.time, (ctlOf x).2.1, true)
    | [] => (0, 0, 0, 0, 0, false)
  else (0, 0, 0, 0, 0, false)
theorem rowsC_time {first last : Int} {x : RecS} {t : List RecS} {ah g g2 : Int} (h : rowsC first last (x :: t) ah g = .ok g2) : -first ≤ x.time ∧ x.time ≤ 9223372036854775807 - first := by
  rw [rowsC_cons] at h
  by_cases c1 : x.off ≤ ah ∨ last < x.off
  · rw [if_pos c1] at h; cases h
  rw [if_neg c1] at h
  by_cases c2 : x.time < -first ∨ 9223372036854775807 - first < x.time
  · rw [if_pos c2] at h; cases h
  omega
theorem batErr_ctl (b : BatS) (h : batErr b = 0) (hc : b.ctl = true) : ∃ x, b.recs = [x] ∧ (ctlOf x).2.2 = 0 ∧ (-b.first ≤ x.time ∧ x.time ≤ 9223372036854775807 - b.first) ∧ 0 ≤ b.first := by
  unfold batErr at h
  by_cases p1 : b.placed = false
  · rw [if_pos p1] at h; cases h
  rw [if_neg p1] at h
  by_cases p2 : b.ctl = true ∧ b.txn = false
  · rw [if_pos p2] at h; cases h
  rw [if_neg p2] at h
  by_cases p3 : b.signed = false
  · rw [if_pos p3] at h; cases h
  rw [if_neg p3] at h
  by_cases p4 : b.ctl = true ∧ b.recs.length ≠ 1
  · rw [if_pos p4] at h; cases h
  rw [if_neg p4] at h
  by_cases p5 : recsC b.recs ≠ 0
  · rw [if_pos p5] at h; exact absurd h p5
  rw [if_neg p5] at h
  by_cases p6 : b.ctl = true ∧ b.ends ≠ 0
  · rw [if_pos p6] at h; exact absurd h p6.2
  rw [if_neg p6] at h
  have hl : b.recs.length = 1 := by
    by_cases hh : b.recs.length = 1
    · exact hh
    · exact absurd ⟨hc, hh⟩ p4
  obtain ⟨x, hx⟩ := List.length_eq_one_iff.1 hl
  have hp : b.placed = true := by cases hh : b.placed with
    | false => exact absurd hh p1
    | true => rfl
  have hp2 := (of_decide_eq_true hp).2.2.2.2.1
  have he : b.ends = 0 := by
    by_cases hh : b.ends = 0
    · exact hh
    · exact absurd ⟨hc, hh⟩ p6
  unfold BatS.ends at he
  rw [hx] at he
  refine ⟨x, hx, he, ?_, hp2⟩
  unfold BatS.rows at h
  rw [hx] at h
  cases hr : rowsC b.first b.last [x] (-1) b.first with
  | error e =>
    rw [hr] at h
    have h : e = 0 := h
    subst h
    rw [rowsC_cons] at hr
    by_cases c1 : x.off ≤ -1 ∨ b.last < x.off
    · rw [if_pos c1] at hr; cases hr
    rw [if_neg c1] at hr
    by_cases c2 : x.time < -b.first ∨ 9223372036854775807 - b.first < x.time
    · rw [if_pos c2] at hr; cases hr
    rw [if_neg c2] at hr
    cases hr
  | ok g => exact rowsC_time hr

end Go.Proofs.Ytcjgdlfcfcabiaa

/- Batches: what stands ahead of their records. -/
namespace Go.Proofs.Ytcjgdlfcfcabiaa
open Go.RowKit

theorem setAll_get : ∀ (vs : List Value) (o : Nat) (c : Array Value) (i : Nat), (setAll c o vs)[i]? = if o ≤ i ∧ i < o + vs.length ∧ i < c.size then vs[i - o]? else c[i]?
  | [], o, c, i => by
    show c[i]? = _
    rw [if_neg (by simp; omega)]
  | v :: r, o, c, i => by
    show (setAll (c.setIfInBounds o v) (o + 1) r)[i]? = _
    rw [setAll_get r (o + 1) _ i]
    simp only [Array.size_setIfInBounds, List.length_cons]
    by_cases h1 : o + 1 ≤ i ∧ i < o + 1 + r.length ∧ i < c.size
    · rw [if_pos h1, if_pos (by omega)]
      obtain ⟨k, rfl⟩ : ∃ k, i = o + 1 + k := ⟨i - (o + 1), by omega⟩
      rw [show o + 1 + k - (o + 1) = k by omega, show o + 1 + k - o = k + 1 by omega]
      rfl
    · rw [if_neg h1, Array.getElem?_setIfInBounds]
      by_cases h2 : o = i
      · subst h2
        rw [if_pos rfl]
        by_cases h3 : o < c.size
        · rw [if_pos h3, if_pos (by omega), Nat.sub_self]; rfl
        · rw [if_neg h3, if_neg (by omega), Array.getElem?_eq_none (by omega)]
      · rw [if_neg h2, if_neg (by omega)]
theorem setAll_all (c cs : Array Value) (h : c.size = cs.size) : setAll c 0 cs.toList = cs := by
  refine Array.ext_getElem? fun i => ?_
  rw [setAll_get]
  by_cases h1 : i < cs.size
  · rw [if_pos (by simp; omega), Nat.sub_zero, Array.getElem?_toList]
  · rw [if_neg (by simp; omega), Array.getElem?_eq_none (by omega), Array.getElem?_eq_none (by omega)]
theorem attr_ofE (base leader : Int) (app txn ctl : Bool) (last first maxt prod epoch sq : Int)  (q : Option Addr) (n cap : Nat) {W0 w : World} {K : Know} {L : List Res} (h : St W0 w K L) :
    Calls Try.prog 16 #[.agg #[.int .i64 base, .int .i64 leader, .bool app, .bool txn, .bool ctl, .int .i64 last, .int .i64 first, .int .i64 maxt, .int .i64 prod, .int .i64 epoch, .int .i64 sq, .slice q n cap]] w fun en w' => en = .returned (.int .i64 (attrN app txn ctl 3)) ∧ St W0 w' K L := attr_of base leader app txn ctl last first maxt prod epoch sq q n cap h
set_option maxHeartbeats 2000000 in
set_option maxRecDepth 100000 in
theorem bat_head (base leader : Int) (app txn ctl : Bool) (last first maxt prod epoch sq : Int) (l : List (RecS × Value)) (q : Option Addr) (cap : Nat) (size : Nat) (hsz : size ≤ 140737488355328) {W0 w : World} {K : Know} {L : List Res} (h : St W0 w K L) :
    Calls Try.prog 55 #[.agg #[.int .i64 base, .int .i64 leader, .bool app, .bool txn, .bool ctl, .int .i64 last, .int .i64 first, .int .i64 maxt, .int .i64 prod, .int .i64 epoch, .int .i64 sq, .slice q l.length cap], .int .i64 size] w fun en w' => en = .returned (.agg #[.int .i64 base, .int .i64 (49 + size), .int .i64 leader, .int .i64 0, .int .i64 (attrN app txn ctl 3), .int .i64 last, .int .i64 first, .int .i64 maxt, .int .i64 prod, .int .i64 epoch, .int .i64 sq, .int .i64 l.length]) ∧ St W0 w' K L := by
  have g1 := h.allocRaw #[.int .i64 base, .int .i64 leader, .bool app, .bool txn, .bool ctl, .int .i64 last, .int .i64 first, .int .i64 maxt, .int .i64 prod, .int .i64 epoch, .int .i64 sq, .slice q l.length cap] 32
  have g2 := (g1.allocRaw #[.int .i64 0, .int .i64 0, .int .i64 0, .int .i64 0, .int .i64 0, .int .i64 0, .int .i64 0, .int .i64 0, .int .i64 0, .int .i64 0, .int .i64 0, .int .i64 0] 35).p1
  obtain ⟨hb, hhb⟩ : ∃ b, w.heap.size = b := ⟨_, rfl⟩
  obtain ⟨rb, hrb⟩ : ∃ b, hb + 1 = b := ⟨_, rfl⟩
  simp only [World.size_alloc, hhb, hrb] at g2
  have H := Lib.hid g2
  have w1 : IntKind.i64.wrap (49 + (size : Int)) = 49 + (size : Int) := IntWalk.i64_in _ (by omega)
  clear g1 g2 h hsz
  go_enter Try.func55, Try.ntmps55
  go_upto_region 1 with (fail)
  have hs := H.out.drew
  refine wp_region_held_drew (S := fun w' => w'.cell? ⟨hb, 0, none⟩ = some (.int .i64 base) ∧ w'.cell? ⟨hb, 1, none⟩ = some (.int .i64 leader) ∧ w'.cell? ⟨hb, 2, none⟩ = some (.bool app) ∧ w'.cell? ⟨hb, 3, none⟩ = some (.bool txn) ∧ w'.cell? ⟨hb, 4, none⟩ = some (.bool ctl) ∧ w'.cell? ⟨hb, 5, none⟩ = some (.int .i64 last) ∧ w'.cell? ⟨hb, 6, none⟩ = some (.int .i64 first) ∧ w'.cell? ⟨hb, 7, none⟩ = some (.int .i64 maxt) ∧ w'.cell? ⟨hb, 8, none⟩ = some (.int .i64 prod) ∧ w'.cell? ⟨hb, 9, none⟩ = some (.int .i64 epoch) ∧ w'.cell? ⟨hb, 10, none⟩ = some (.int .i64 sq) ∧ w'.cell? ⟨hb, 11, none⟩ = some (.slice q l.length cap)) (by kernel_rfl) (let ⟨x0, x1, x2, x3, x4, x5, x6, x7, x8, x9, x10, x11, _⟩ := raw12 (b := hb) (hs); ⟨x0, x1, x2, x3, x4, x5, x6, x7, x8, x9, x10, x11⟩) (fun hHeld => ?_)
  refine wpAnyH_take (i := 0) (oi := { dst := some 5, op := Op.fieldAddr 32 (Operand.tmp 2) 0, type := 0, pos := "batch.go:46", after := #[], guard := none }) (v := ?_) rfl (by kernel_rfl) (by kernel_rfl) (by kernel_rfl) (fun _ _ _ h => h) (Or.inl ⟨by rfl, ?_⟩) (by assumption) ?_
  rotate_left
  · intro w hSw; (try dsimp only at hSw); go_simp; try with_reducible rfl
  simp only [Act.put, List.setIfInBounds_toArray, List.set_cons_zero, List.set_cons_succ]
  refine wpAnyH_take (i := 1) (oi := { dst := some 6, op := Op.load 3 (Operand.tmp 5), type := 3, pos := "batch.go:46", after := #[{ on := 0, ground := Ground.data }], guard := none }) (v := ?_) rfl (by kernel_rfl) (by kernel_rfl) (by kernel_rfl) (fun _ _ _ h => h) (Or.inl ⟨by rfl, ?_⟩) (by assumption) ?_
  rotate_left
  · intro w hSw; (try dsimp only at hSw); go_simp; try with_reducible rfl
  simp only [Act.put, List.setIfInBounds_toArray, List.set_cons_zero, List.set_cons_succ]
  refine wpAnyH_take (i := 2) (oi := { dst := some 7, op := Op.move (Operand.tmp 1), type := 3, pos := "batch.go:46", after := #[], guard := none }) (v := ?_) rfl (by kernel_rfl) (by kernel_rfl) (by kernel_rfl) (fun _ _ _ h => h) (Or.inl ⟨by rfl, ?_⟩) (by assumption) ?_
  rotate_left
  · intro w hSw; (try dsimp only at hSw); go_simp; try with_reducible rfl
  simp only [Act.put, List.setIfInBounds_toArray, List.set_cons_zero, List.set_cons_succ]
  refine wpAnyH_take (i := 3) (oi := { dst := some 8, op := Op.binOp BinOp.add 3 (Operand.const (Value.int IntKind.i64 49)) (Operand.tmp 7) 3, type := 3, pos := "batch.go:46", after := #[{ on := 2, ground := Ground.data }], guard := none }) (v := ?_) rfl (by kernel_rfl) (by kernel_rfl) (by kernel_rfl) (fun _ _ _ h => h) (Or.inl ⟨by rfl, ?_⟩) (by assumption) ?_
  rotate_left
  · intro w hSw; (try dsimp only at hSw); go_simp; try with_reducible rfl
  simp only [Act.put, List.setIfInBounds_toArray, List.set_cons_zero, List.set_cons_succ]
  refine wpAnyH_take (i := 4) (oi := { dst := some 9, op := Op.fieldAddr 32 (Operand.tmp 2) 1, type := 0, pos := "batch.go:46", after := #[], guard := none }) (v := ?_) rfl (by kernel_rfl) (by kernel_rfl) (by kernel_rfl) (fun _ _ _ h => h) (Or.inl ⟨by rfl, ?_⟩) (by assumption) ?_
  rotate_left
  · intro w hSw; (try dsimp only at hSw); go_simp; try with_reducible rfl
  simp only [Act.put, List.setIfInBounds_toArray, List.set_cons_zero, List.set_cons_succ]
  refine wpAnyH_take (i := 5) (oi := { dst := some 10, op := Op.load 3 (Operand.tmp 9), type := 3, pos := "batch.go:46", after := #[{ on := 4, ground := Ground.data }], guard := none }) (v := ?_) rfl (by kernel_rfl) (by kernel_rfl) (by kernel_rfl) (fun _ _ _ h => h) (Or.inl ⟨by rfl, ?_⟩) (by assumption) ?_
  rotate_left
  · intro w hSw; (try dsimp only at hSw); go_simp; try with_reducible rfl
  simp only [Act.put, List.setIfInBounds_toArray, List.set_cons_zero, List.set_cons_succ]
  refine wpAnyH_take (i := 6) (oi := { dst := some 11, op := Op.load 32 (Operand.tmp 2), type := 32, pos := "batch.go:46", after := #[], guard := none }) (v := ?_) rfl (by kernel_rfl) (by kernel_rfl) (by kernel_rfl) (fun _ _ _ h => h) (Or.inl ⟨by rfl, ?_⟩) (by assumption) ?_
  rotate_left
  · intro w hSw; (try dsimp only at hSw); go_simp; try with_reducible rfl
  simp only [Act.put, List.setIfInBounds_toArray, List.set_cons_zero, List.set_cons_succ]
  refine wpAnyH_take (i := 8) (oi := { dst := some 13, op := Op.fieldAddr 32 (Operand.tmp 2) 5, type := 0, pos := "batch.go:46", after := #[], guard := none }) (v := ?_) rfl (by kernel_rfl) (by kernel_rfl) (by kernel_rfl) (fun _ _ _ h => h) (Or.inl ⟨by rfl, ?_⟩) (by assumption) ?_
  rotate_left
  · intro w hSw; (try dsimp only at hSw); go_simp; try with_reducible rfl
  simp only [Act.put, List.setIfInBounds_toArray, List.set_cons_zero, List.set_cons_succ]
  refine wpAnyH_take (i := 9) (oi := { dst := some 14, op := Op.load 3 (Operand.tmp 13), type := 3, pos := "batch.go:46", after := #[{ on := 8, ground := Ground.data }], guard := none }) (v := ?_) rfl (by kernel_rfl) (by kernel_rfl) (by kernel_rfl) (fun _ _ _ h => h) (Or.inl ⟨by rfl, ?_⟩) (by assumption) ?_
  rotate_left
  · intro w hSw; (try dsimp only at hSw); go_simp; try with_reducible rfl
  simp only [Act.put, List.setIfInBounds_toArray, List.set_cons_zero, List.set_cons_succ]
  refine wpAnyH_take (i := 10) (oi := { dst := some 15, op := Op.fieldAddr 32 (Operand.tmp 2) 6, type := 0, pos := "batch.go:46", after := #[], guard := none }) (v := ?_) rfl (by kernel_rfl) (by kernel_rfl) (by kernel_rfl) (fun _ _ _ h => h) (Or.inl ⟨by rfl, ?_⟩) (by assumption) ?_
  rotate_left
  · intro w hSw; (try dsimp only at hSw); go_simp; try with_reducible rfl
  simp only [Act.put, List.setIfInBounds_toArray, List.set_cons_zero, List.set_cons_succ]
  refine wpAnyH_take (i := 11) (oi := { dst := some 16, op := Op.load 3 (Operand.tmp 15), type := 3, pos := "batch.go:46", after := #[{ on := 10, ground := Ground.data }], guard := none }) (v := ?_) rfl (by kernel_rfl) (by kernel_rfl) (by kernel_rfl) (fun _ _ _ h => h) (Or.inl ⟨by rfl, ?_⟩) (by assumption) ?_
  rotate_left
  · intro w hSw; (try dsimp only at hSw); go_simp; try with_reducible rfl
  simp only [Act.put, List.setIfInBounds_toArray, List.set_cons_zero, List.set_cons_succ]
  refine wpAnyH_take (i := 12) (oi := { dst := some 17, op := Op.fieldAddr 32 (Operand.tmp 2) 7, type := 0, pos := "batch.go:46", after := #[], guard := none }) (v := ?_) rfl (by kernel_rfl) (by kernel_rfl) (by kernel_rfl) (fun _ _ _ h => h) (Or.inl ⟨by rfl, ?_⟩) (by assumption) ?_
  rotate_left
  · intro w hSw; (try dsimp only at hSw); go_simp; try with_reducible rfl
  simp only [Act.put, List.setIfInBounds_toArray, List.set_cons_zero, List.set_cons_succ]
  refine wpAnyH_take (i := 13) (oi := { dst := some 18, op := Op.load 3 (Operand.tmp 17), type := 3, pos := "batch.go:46", after := #[{ on := 12, ground := Ground.data }], guard := none }) (v := ?_) rfl (by kernel_rfl) (by kernel_rfl) (by kernel_rfl) (fun _ _ _ h => h) (Or.inl ⟨by rfl, ?_⟩) (by assumption) ?_
  rotate_left
  · intro w hSw; (try dsimp only at hSw); go_simp; try with_reducible rfl
  simp only [Act.put, List.setIfInBounds_toArray, List.set_cons_zero, List.set_cons_succ]
  refine wpAnyH_take (i := 14) (oi := { dst := some 19, op := Op.fieldAddr 32 (Operand.tmp 2) 8, type := 0, pos := "batch.go:46", after := #[], guard := none }) (v := ?_) rfl (by kernel_rfl) (by kernel_rfl) (by kernel_rfl) (fun _ _ _ h => h) (Or.inl ⟨by rfl, ?_⟩) (by assumption) ?_
  rotate_left
  · intro w hSw; (try dsimp only at hSw); go_simp; try with_reducible rfl
  simp only [Act.put, List.setIfInBounds_toArray, List.set_cons_zero, List.set_cons_succ]
  refine wpAnyH_take (i := 15) (oi := { dst := some 20, op := Op.load 3 (Operand.tmp 19), type := 3, pos := "batch.go:46", after := #[{ on := 14, ground := Ground.data }], guard := none }) (v := ?_) rfl (by kernel_rfl) (by kernel_rfl) (by kernel_rfl) (fun _ _ _ h => h) (Or.inl ⟨by rfl, ?_⟩) (by assumption) ?_
  rotate_left
  · intro w hSw; (try dsimp only at hSw); go_simp; try with_reducible rfl
  simp only [Act.put, List.setIfInBounds_toArray, List.set_cons_zero, List.set_cons_succ]
  refine wpAnyH_take (i := 16) (oi := { dst := some 21, op := Op.fieldAddr 32 (Operand.tmp 2) 9, type := 0, pos := "batch.go:46", after := #[], guard := none }) (v := ?_) rfl (by kernel_rfl) (by kernel_rfl) (by kernel_rfl) (fun _ _ _ h => h) (Or.inl ⟨by rfl, ?_⟩) (by assumption) ?_
  rotate_left
  · intro w hSw; (try dsimp only at hSw); go_simp; try with_reducible rfl
  simp only [Act.put, List.setIfInBounds_toArray, List.set_cons_zero, List.set_cons_succ]
  refine wpAnyH_take (i := 17) (oi := { dst := some 22, op := Op.load 3 (Operand.tmp 21), type := 3, pos := "batch.go:46", after := #[{ on := 16, ground := Ground.data }], guard := none }) (v := ?_) rfl (by kernel_rfl) (by kernel_rfl) (by kernel_rfl) (fun _ _ _ h => h) (Or.inl ⟨by rfl, ?_⟩) (by assumption) ?_
  rotate_left
  · intro w hSw; (try dsimp only at hSw); go_simp; try with_reducible rfl
  simp only [Act.put, List.setIfInBounds_toArray, List.set_cons_zero, List.set_cons_succ]
  refine wpAnyH_take (i := 18) (oi := { dst := some 23, op := Op.fieldAddr 32 (Operand.tmp 2) 10, type := 0, pos := "batch.go:46", after := #[], guard := none }) (v := ?_) rfl (by kernel_rfl) (by kernel_rfl) (by kernel_rfl) (fun _ _ _ h => h) (Or.inl ⟨by rfl, ?_⟩) (by assumption) ?_
  rotate_left
  · intro w hSw; (try dsimp only at hSw); go_simp; try with_reducible rfl
  simp only [Act.put, List.setIfInBounds_toArray, List.set_cons_zero, List.set_cons_succ]
  refine wpAnyH_take (i := 19) (oi := { dst := some 24, op := Op.load 3 (Operand.tmp 23), type := 3, pos := "batch.go:46", after := #[{ on := 18, ground := Ground.data }], guard := none }) (v := ?_) rfl (by kernel_rfl) (by kernel_rfl) (by kernel_rfl) (fun _ _ _ h => h) (Or.inl ⟨by rfl, ?_⟩) (by assumption) ?_
  rotate_left
  · intro w hSw; (try dsimp only at hSw); go_simp; try with_reducible rfl
  simp only [Act.put, List.setIfInBounds_toArray, List.set_cons_zero, List.set_cons_succ]
  refine wpAnyH_take (i := 20) (oi := { dst := some 25, op := Op.fieldAddr 32 (Operand.tmp 2) 11, type := 0, pos := "batch.go:46", after := #[], guard := none }) (v := ?_) rfl (by kernel_rfl) (by kernel_rfl) (by kernel_rfl) (fun _ _ _ h => h) (Or.inl ⟨by rfl, ?_⟩) (by assumption) ?_
  rotate_left
  · intro w hSw; (try dsimp only at hSw); go_simp; try with_reducible rfl
  simp only [Act.put, List.setIfInBounds_toArray, List.set_cons_zero, List.set_cons_succ]
  refine wpAnyH_take (i := 21) (oi := { dst := some 26, op := Op.load 30 (Operand.tmp 25), type := 30, pos := "batch.go:46", after := #[{ on := 20, ground := Ground.data }], guard := none }) (v := ?_) rfl (by kernel_rfl) (by kernel_rfl) (by kernel_rfl) (fun _ _ _ h => h) (Or.inl ⟨by rfl, ?_⟩) (by assumption) ?_
  rotate_left
  · intro w hSw; (try dsimp only at hSw); go_simp; try with_reducible rfl
  simp only [Act.put, List.setIfInBounds_toArray, List.set_cons_zero, List.set_cons_succ]
  refine wpAnyH_take (i := 22) (oi := { dst := some 27, op := Op.call { callee := Callee.builtin Builtin.len, args := #[Operand.tmp 26], argTypes := #[30] }, type := 3, pos := "batch.go:46", after := #[{ on := 21, ground := Ground.data }], guard := none }) (v := ?_) rfl (by kernel_rfl) (by kernel_rfl) (by kernel_rfl) (fun _ _ _ h => h) (Or.inl ⟨by rfl, ?_⟩) (by assumption) ?_
  rotate_left
  · intro w hSw; (try dsimp only at hSw); go_simp; try with_reducible rfl
  simp only [Act.put, List.setIfInBounds_toArray, List.set_cons_zero, List.set_cons_succ]
  refine wpAnyH_ready (rs := [7]) (by kernel_rfl) (by simp) (AllReadyH.cons (o := { dst := some 12, op := Op.call { callee := Callee.value (Operand.func 16), args := #[Operand.tmp 11], argTypes := #[32] }, type := 3, pos := "batch.go:47", after := #[{ on := 6, ground := Ground.data }], guard := none }) rfl (fun KK hK => ?_) AllReadyH.nil)
  · go_simp
    go_at_call 16
    with_reducible refine (attr_ofE base leader app txn ctl last first maxt prod epoch sq q l.length cap hs).mono ?_
    rintro e wq ⟨rfl, hs⟩
    refine hK.out _ _ (let ⟨x0, x1, x2, x3, x4, x5, x6, x7, x8, x9, x10, x11, _⟩ := raw12 (b := hb) (hs); ⟨x0, x1, x2, x3, x4, x5, x6, x7, x8, x9, x10, x11⟩) (fun hHeld => ?_)
    clear hK KK
    try simp only [Act.put, List.setIfInBounds_toArray, List.set_cons_zero, List.set_cons_succ]
    refine wpAnyH_take (i := 23) (oi := { dst := some 28, op := Op.build 35 #[(0, Operand.tmp 6), (1, Operand.tmp 8), (2, Operand.tmp 10), (4, Operand.tmp 12), (5, Operand.tmp 14), (6, Operand.tmp 16), (7, Operand.tmp 18), (8, Operand.tmp 20), (9, Operand.tmp 22), (10, Operand.tmp 24), (11, Operand.tmp 27)], type := 35, pos := "batch.go:46", after := #[{ on := 1, ground := Ground.data }, { on := 3, ground := Ground.data }, { on := 5, ground := Ground.data }, { on := 7, ground := Ground.data }, { on := 9, ground := Ground.data }, { on := 11, ground := Ground.data }, { on := 13, ground := Ground.data }, { on := 15, ground := Ground.data }, { on := 17, ground := Ground.data }, { on := 19, ground := Ground.data }, { on := 22, ground := Ground.data }], guard := none }) (v := ?_) rfl (by kernel_rfl) (by kernel_rfl) (by kernel_rfl) (fun _ _ _ h => h) (Or.inl ⟨by rfl, ?_⟩) (by assumption) ?_
    rotate_left
    · intro w hSw; (try dsimp only at hSw); go_simp; try with_reducible rfl
    simp only [Act.put, List.setIfInBounds_toArray, List.set_cons_zero, List.set_cons_succ]
    refine wpAnyH_ready (rs := [24]) (by kernel_rfl) (by simp) (AllReadyH.cons (o := { dst := none, op := Op.store 35 (Operand.tmp 4) (Operand.tmp 28), type := 0, pos := "batch.go:46", after := #[{ on := 23, ground := Ground.data }, { on := 7, ground := Ground.chain }, { on := 0, ground := Ground.phase }, { on := 1, ground := Ground.phase }, { on := 2, ground := Ground.phase }, { on := 3, ground := Ground.phase }, { on := 4, ground := Ground.phase }, { on := 5, ground := Ground.phase }, { on := 6, ground := Ground.phase }, { on := 7, ground := Ground.phase }, { on := 8, ground := Ground.phase }, { on := 9, ground := Ground.phase }, { on := 10, ground := Ground.phase }, { on := 11, ground := Ground.phase }, { on := 12, ground := Ground.phase }, { on := 13, ground := Ground.phase }, { on := 14, ground := Ground.phase }, { on := 15, ground := Ground.phase }, { on := 16, ground := Ground.phase }, { on := 17, ground := Ground.phase }, { on := 18, ground := Ground.phase }, { on := 19, ground := Ground.phase }, { on := 20, ground := Ground.phase }, { on := 21, ground := Ground.phase }, { on := 22, ground := Ground.phase }, { on := 23, ground := Ground.phase }], guard := none }) rfl (fun KK hK => ?_) AllReadyH.nil)
    · have hs := hs.p1
      rw [if_pos (by rfl)]
      refine wp_store_mid 35 (.tmp 4) (.tmp 28) rfl rb 0 #[.int .i64 base, .int .i64 (49 + size), .int .i64 leader, .int .i64 0, .int .i64 (attrN app txn ctl 3), .int .i64 last, .int .i64 first, .int .i64 maxt, .int .i64 prod, .int .i64 epoch, .int .i64 sq, .int .i64 l.length] (by rfl) (by rfl) hs.there (by kernel_rfl) (by simp [Value.oneCell']) ?_
      obtain ⟨wz, ez, hs⟩ := hs.storeEx #[.int .i64 base, .int .i64 (49 + size), .int .i64 leader, .int .i64 0, .int .i64 (attrN app txn ctl 3), .int .i64 last, .int .i64 first, .int .i64 maxt, .int .i64 prod, .int .i64 epoch, .int .i64 sq, .int .i64 l.length]
      rw [ez]
      clear ez
      refine hK.out _ _ (let ⟨x0, x1, x2, x3, x4, x5, x6, x7, x8, x9, x10, x11, _⟩ := raw12 (b := hb) (hs.p1); ⟨x0, x1, x2, x3, x4, x5, x6, x7, x8, x9, x10, x11⟩) (fun hHeld => ?_)
      clear hK KK
      try simp only [Act.put, List.setIfInBounds_toArray, List.set_cons_zero, List.set_cons_succ]
      refine wpAnyH_done (by kernel_rfl) ?_ _
      clear hHeld
      rw [setAll_all] at hs
      rotate_left
      · rfl
      have hz : St W0 _ K (.raw rb #[.int .i64 base, .int .i64 (49 + size), .int .i64 leader, .int .i64 0, .int .i64 (attrN app txn ctl 3), .int .i64 last, .int .i64 first, .int .i64 maxt, .int .i64 prod, .int .i64 epoch, .int .i64 sq, .int .i64 l.length] 35 :: _) := hs
      go_wp2_with fail
      refine bodyPost_ret (rc_cell_only rfl _ _ rb [.int .i64 base, .int .i64 (49 + size), .int .i64 leader, .int .i64 0, .int .i64 (attrN app txn ctl 3), .int .i64 last, .int .i64 first, .int .i64 maxt, .int .i64 prod, .int .i64 epoch, .int .i64 sq, .int .i64 l.length] _ rfl (rc_range hz) Try.underlying35 rfl (by kernel_rfl)) rfl ?_
      exact ⟨rfl, hz.drop.drop⟩

end Go.Proofs.Ytcjgdlfcfcabiaa

/- Contracts: reading a record, by the document. -/
namespace Go.Proofs.Ytcjgdlfcfcabiaa
open Go.RowKit

theorem raw9 {W0 w : World} {K : Know} {L : List Res} {b : Nat} {T : TypeId} {v0 v1 v2 v3 v4 v5 v6 v7 v8 : Value} (h : St W0 w K (.raw b #[v0, v1, v2, v3, v4, v5, v6, v7, v8] T :: L)) :
    w.cell? ⟨b, 0, none⟩ = some v0 ∧ w.cell? ⟨b, 1, none⟩ = some v1 ∧ w.cell? ⟨b, 2, none⟩ = some v2 ∧ w.cell? ⟨b, 3, none⟩ = some v3 ∧ w.cell? ⟨b, 4, none⟩ = some v4 ∧ w.cell? ⟨b, 5, none⟩ = some v5 ∧ w.cell? ⟨b, 6, none⟩ = some v6 ∧ w.cell? ⟨b, 7, none⟩ = some v7 ∧ w.cell? ⟨b, 8, none⟩ = some v8 ∧
    w.frozen? ⟨b, 0, none⟩ = false ∧ w.frozen? ⟨b, 1, none⟩ = false ∧ w.frozen? ⟨b, 2, none⟩ = false ∧ w.frozen? ⟨b, 3, none⟩ = false ∧ w.frozen? ⟨b, 4, none⟩ = false ∧ w.frozen? ⟨b, 5, none⟩ = false ∧ w.frozen? ⟨b, 6, none⟩ = false ∧ w.frozen? ⟨b, 7, none⟩ = false ∧ w.frozen? ⟨b, 8, none⟩ = false :=
  ⟨h.rawCell 0, h.rawCell 1, h.rawCell 2, h.rawCell 3, h.rawCell 4, h.rawCell 5, h.rawCell 6, h.rawCell 7, h.rawCell 8, h.rawFree 0, h.rawFree 1, h.rawFree 2, h.rawFree 3, h.rawFree 4, h.rawFree 5, h.rawFree 6, h.rawFree 7, h.rawFree 8⟩
theorem raw_all4r {W0 w : World} {K : Know} {L : List Res} {b : Nat} {T : TypeId} {x y z u : Value} (h : St W0 w K (.raw b #[x, y, z, u] T :: L)) :
    w.cell? ⟨b, 0, none⟩ = some x ∧ w.cell? ⟨b, 1, none⟩ = some y ∧ w.cell? ⟨b, 2, none⟩ = some z ∧ w.cell? ⟨b, 3, none⟩ = some u := ⟨h.rawCell 0, h.rawCell 1, h.rawCell 2, h.rawCell 3⟩

end Go.Proofs.Ytcjgdlfcfcabiaa

/- Contracts: what stands in a record, by the document. -/
namespace Go.Proofs.Ytcjgdlfcfcabiaa
open Go.RowKit

theorem c_ne {c : UInt8} (hc : c ≠ 0) : ((c.toNat : Int) != 0) = true := by
  rw [bne_iff_ne]
  intro hh
  exact hc (UInt8.toNat_inj.1 (by simpa using hh))
end Go.Proofs.Ytcjgdlfcfcabiaa

/- Layer 6, walked: HeaderReads. -/
namespace Go.Proofs.Ytcjgdlfcfcabiaa
open Go.RowKit

end Go.Proofs.Ytcjgdlfcfcabiaa

/- Contracts: what stands in a record, by the document: where it goes wrong. -/
namespace Go.Proofs.Ytcjgdlfcfcabiaa
open Go.RowKit

end Go.Proofs.Ytcjgdlfcfcabiaa

/- Contracts: what stands in a record, by the document: headers. -/
namespace Go.Proofs.Ytcjgdlfcfcabiaa
open Go.RowKit

end Go.Proofs.Ytcjgdlfcfcabiaa

/- Contracts: what stands in a record, by the document: all of it. -/
namespace Go.Proofs.Ytcjgdlfcfcabiaa
open Go.RowKit

end Go.Proofs.Ytcjgdlfcfcabiaa

/- Contracts: what stands in a record, by the document: in all. -/
namespace Go.Proofs.Ytcjgdlfcfcabiaa
open Go.RowKit

theorem ri_attr {s : Bs} {a : Int} (h0 : getIntN 1 s = .ok (a, 1)) (ha : a ≠ 0) : reInner s = .error 8 := by unfold reInner; rw [h0]; simp only; rw [if_neg ha]
theorem ri_time {s : Bs} {e : Int} (h0 : getIntN 1 s = .ok (0, 1)) (h1 : vgetL (s.drop 1) = .error e) : reInner s = .error e := by unfold reInner; rw [h0]; simp only [if_true]; rw [h1]
theorem ri_off {s : Bs} {e t : Int} {k : Nat} (h0 : getIntN 1 s = .ok (0, 1)) (h1 : vgetL (s.drop 1) = .ok (t, k)) (h2 : vgetI (s.drop (1 + k)) = .error e) : reInner s = .error e := by
  unfold reInner; rw [h0]; simp only [if_true]; rw [h1]; simp only; rw [h2]
theorem ri_neg {s : Bs} {t o : Int} {k m : Nat} (h0 : getIntN 1 s = .ok (0, 1)) (h1 : vgetL (s.drop 1) = .ok (t, k)) (h2 : vgetI (s.drop (1 + k)) = .ok (o, m)) (ho : o < 0) : reInner s = .error 11 := by
  unfold reInner; rw [h0]; simp only [if_true]; rw [h1]; simp only; rw [h2]; simp only; rw [if_pos ho]
theorem ri_rest {s : Bs} {t o : Int} {k m : Nat} (h0 : getIntN 1 s = .ok (0, 1)) (h1 : vgetL (s.drop 1) = .ok (t, k)) (h2 : vgetI (s.drop (1 + k)) = .ok (o, m)) (ho : ¬ o < 0) : reInner s =
    match revaried (s.drop (1 + k + m)) with
          | .error e => .error e
          | .ok kk => match revaried (s.drop (1 + k + m + kk.2)) with
            | .error e => .error e
            | .ok v => match reHdrs (s.drop (1 + k + m + kk.2 + v.2)) with
              | .error e => .error e
              | .ok h => if 1 + k + m + kk.2 + v.2 + h.2 = s.length then .ok ⟨t, o, kk.1, v.1, h.1⟩ else .error 2 := by
  unfold reInner; rw [h0]; simp only [if_true]; rw [h1]; simp only; rw [h2]; simp only; rw [if_neg ho]
  rfl
def Post9 (r : Except Int RecS) (K : Know) (W0 : World) (L : List Res) (en : Ending) (w' : World) : Prop := match r with
  | .ok x => ∃ v, en = .returned (.agg #[.int .i64 x.time, .int .i64 x.off, .bool x.key.null, .string (bb x.key.data), .bool x.val.null, .string (bb x.val.data), v, .int .i64 0, .int .i64 0]) ∧ St W0 w' (K.and (Know.flat RHdr v 3 x.hdrs)) L
  | .error e => en = .returned (.agg #[.int .i64 0, .int .i64 0, .bool false, .string ⟨#[]⟩, .bool false, .string ⟨#[]⟩, .slice none 0 0, .int .i64 0, .int .i64 e]) ∧ St W0 w' K L
theorem vgetF_lt {top most : Nat} {l : Bs} {u k : Nat} (ht : top < 128) (hm : top = 1 ∧ most = 10 ∨ top = 15 ∧ most = 5) (h : vgetF top most 0 0 l = .ok (u, k)) : u < 18446744073709551616 := by
  rcases hm with ⟨rfl, rfl⟩ | ⟨rfl, rfl⟩
  · have h1 : vgetL l = .ok (backN u, k) := by unfold vgetL; rw [h]
    obtain ⟨_, _, _, g4, g5⟩ := vgetL_one h1
    unfold backN at g4 g5
    omega
  · have h1 : vgetI l = .ok (backN u, k) := by unfold vgetI; rw [h]
    obtain ⟨_, _, _, g4, g5⟩ := vgetI_one h1
    unfold backN at g4 g5
    omega
theorem vgetF_nz {top most : Nat} {l : Bs} {e : Int} (h : vgetF top most 0 0 l = .error e) : (e != 0) = true := bne_iff_ne.2 (digs_err top most 0 0 l 0 e (Nat.zero_le _) (by rw [List.drop_zero]; exact h)).1
theorem reHdrs_nz {l : Bs} {e : Int} (h : reHdrs l = .error e) : (e != 0) = true := bne_iff_ne.2 (rds_hdrs.err l 0 e (Nat.zero_le _) (by rw [List.drop_zero]; exact h)).1

end Go.Proofs.Ytcjgdlfcfcabiaa

/- Contracts: reading a record, by the document: in all. -/
namespace Go.Proofs.Ytcjgdlfcfcabiaa
open Go.RowKit

def PostR (r : Except Int (RecS × Nat)) (K : Know) (W0 : World) (L : List Res) (en : Ending) (w' : World) : Prop := match r with
  | .ok x => ∃ v, en = .returned (.agg #[.int .i64 x.1.time, .int .i64 x.1.off, .bool x.1.key.null, .string (bb x.1.key.data), .bool x.1.val.null, .string (bb x.1.val.data), v, .int .i64 x.2, .int .i64 0]) ∧ St W0 w' (K.and (Know.flat RHdr v 3 x.1.hdrs)) L
  | .error e => ∃ m : Int, en = .returned (.agg #[.int .i64 0, .int .i64 0, .bool false, .string ⟨#[]⟩, .bool false, .string ⟨#[]⟩, .slice none 0 0, .int .i64 m, .int .i64 e]) ∧ St W0 w' K L
end Go.Proofs.Ytcjgdlfcfcabiaa
