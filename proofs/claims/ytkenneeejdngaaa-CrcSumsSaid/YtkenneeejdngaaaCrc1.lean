/- Contracts of package crc. -/
import Derived.Test.YtkenneeejdngaaaCrcP
import Derived.Test.YtkenneeejdngaaaS1
import Derived.Deep.RegionWith
namespace Go.Proofs.Ytkenneeejdngaaa
open Go.RowKit

theorem xor_u32 (a b : W32) : bits .xor .u32 (a.toNat : Int) (b.toNat : Int) = ((a ^^^ b).toNat : Int) := by
  have ha := a.isLt
  have hb := b.isLt
  have hab := (a ^^^ b).isLt
  rw [bits_xor_u32, BitVec.toNat_xor] at *
  have e1 : ((a.toNat : Int) % 4294967296).toNat = a.toNat := by omega
  have e2 : ((b.toNat : Int) % 4294967296).toNat = b.toNat := by omega
  rw [e1, e2, IntKind.wrap_u32]
  omega
theorem and1_u32 (a : W32) : bits .and .u32 (a.toNat : Int) 1 = if a.getLsbD 0 then 1 else 0 := by
  have ha := a.isLt
  rw [bits_and_u32]
  have e1 : ((a.toNat : Int) % 4294967296).toNat = a.toNat := by omega
  have e2 : ((1 : Int) % 4294967296).toNat = 1 := by decide
  rw [e1, e2, Nat.and_one_is_mod, IntKind.wrap_u32]
  have : a.getLsbD 0 = decide (a.toNat % 2 = 1) := by rw [BitVec.getLsbD, Nat.testBit_zero]
  rw [this]
  by_cases h : a.toNat % 2 = 1 <;> simp [h]
  omega
theorem xor_u32_lit (a : W32) : bits .xor .u32 (a.toNat : Int) 2197175160 = ((a ^^^ cP).toNat : Int) := xor_u32 a cP
theorem shr1_u32 (a : W32) : (a.toNat : Int) / 2 = ((a >>> 1).toNat : Int) := by
  rw [BitVec.toNat_ushiftRight, Nat.shiftRight_eq_div_pow]; omega
theorem shr8_u32 (a : W32) : (a.toNat : Int) / 256 = ((a >>> 8).toNat : Int) := by
  rw [BitVec.toNat_ushiftRight, Nat.shiftRight_eq_div_pow]; omega
theorem not_u32 (a : W32) : bits .xor .u32 IntKind.u32.max (a.toNat : Int) = ((~~~ a).toNat : Int) := by
  have e : IntKind.u32.max = ((BitVec.allOnes 32).toNat : Int) := by decide
  rw [e, xor_u32, BitVec.xor_comm, BitVec.xor_allOnes]

set_option maxHeartbeats 1000000 in
set_option maxRecDepth 100000 in
theorem crc_remainder (r : W32) (w : World) :
    Calls Try.prog 55 #[.int .u32 r.toNat] w fun en w' => en = .returned (.int .u32 (stepN 8 r).toNat) ∧ w = w' := by
  go_enter Try.func55, Try.ntmps55
  go_wp2
  go_loop [0, 4] (fun rv kv => ∃ (k : Nat) (x : W32), k ≤ 8 ∧ kv = .int .i64 k ∧ rv = .int .u32 x.toNat ∧ stepN (8 - k) x = stepN 8 r) (fun _ kv => 8 - (intOf kv).toNat)
  case atStart => exact ⟨0, r, by decide, rfl, rfl, rfl⟩
  case round =>
    obtain ⟨k, x, hk, rfl, rfl, hx⟩ := hrel
    have HX := Lib.hid hx
    clear hx
    by_cases h8 : k < 8
    · have ha := and1_u32 x
      have hs := shr1_u32 x
      have hx := x.isLt
      cases hb : x.getLsbD 0
      all_goals
        rw [hb] at ha
        go_wp2
        go_round
        case rel =>
          refine ⟨k + 1, step x, by omega, by go_num, ?_, ?_⟩
          · refine congrArg _ ?_
            unfold step
            rw [hb]
            first
              | (rw [if_pos rfl, ← xor_u32_lit]; exact congrArg (bits .xor .u32 · 2197175160) hs)
              | exact hs.trans (by simp)
          · rw [← HX.out, show 8 - k = (8 - (k + 1)) + 1 by omega]
            rfl
        case measure => first | (simp [intOf]; done) | (simp [intOf]; omega)
    · have hk8 : k = 8 := by omega
      subst hk8
      go_wp2
      go_ret
      rw [← HX.out]
      exact ⟨rfl, rfl⟩

theorem crc_rem (k : Nat) (hk : k < 256) (w : World) :
    Calls Try.prog 55 #[.int .u32 (k : Int)] w fun en w' => en = .returned (.int .u32 (tab k).toNat) ∧ w = w' := by
  have h := crc_remainder (BitVec.ofNat 32 k) w
  have hn : (BitVec.ofNat 32 k).toNat = k := by simp; omega
  rw [hn] at h
  exact h

/-- The remainders of all bytes. -/
def tabC (n : Nat) : Array Value := ((List.range 256).map fun j => if j < n then Value.int .u32 (tab j).toNat else Value.int .u32 0).toArray
theorem tabC_size (n : Nat) : (tabC n).size = 256 := by simp [tabC]
theorem tabC_get (n j : Nat) (h : j < 256) : (tabC n)[j]? = some (if j < n then Value.int .u32 (tab j).toNat else Value.int .u32 0) := by
  simp [tabC, h]
theorem tabC_set (n : Nat) (h : n < 256) : (tabC n).setIfInBounds n (.int .u32 (tab n).toNat) = tabC (n + 1) := by
  apply Array.ext_getElem?
  intro j
  by_cases hj : j < 256
  · rw [tabC_get (n + 1) j hj, Array.getElem?_setIfInBounds]
    by_cases e : n = j
    · subst e
      simp [tabC_size, hj]
    · rw [if_neg e, tabC_get n j hj]
      by_cases h1 : j < n
      · rw [if_pos h1, if_pos (by omega)]
      · rw [if_neg h1, if_neg (by omega)]
  · rw [Array.getElem?_eq_none (by simp [tabC_size]; omega), Array.getElem?_eq_none (by rw [tabC_size]; omega)]
theorem zero_tab : Try.zeroCells90 = tabC 0 := by kernel_rfl
def bIx (m : Nat) (c : UInt8) : Nat := m ^^^ c.toNat
def xor32 (a b : W32) : Nat := (a ^^^ b).toNat
theorem bIx_lt {m : Nat} (hm : m < 256) (c : UInt8) : bIx m c < 256 := Nat.xor_lt_two_pow (n := 8) hm c.toNat_lt
theorem bIx_xor {m : Nat} (hm : m < 256) (c : UInt8) : bits .xor .u8 (m : Int) (c.toNat : Int) = (bIx m c : Int) := by
  have hc := c.toNat_lt
  have hq := bIx_lt hm c
  unfold bIx at *
  rw [bits_xor_u8]
  have e1 : ((m : Int) % 256).toNat = m := by omega
  have e2 : ((c.toNat : Int) % 256).toNat = c.toNat := by omega
  rw [e1, e2, IntKind.wrap_u8]
  omega
abbrev tabPtr (b : Nat) : Value := .pointer (some ⟨b, 0, none⟩)

set_option maxHeartbeats 1000000 in
set_option maxRecDepth 100000 in
theorem crc_new {W0 w : World} {K : Know} {L : List Res} (h : St W0 w K L) :
    Calls Try.prog 16 #[] w fun en w' => ∃ b, en = .returned (tabPtr b) ∧ St W0 w' K (.raw b (tabC 256) 90 :: L) := by
  have H := Lib.hid h
  clear h
  go_enter Try.func16, Try.ntmps16
  go_wp2
  rw [zero_tab]
  go_loopw [4] (fun iv wr => ∃ k : Nat, k ≤ 256 ∧ iv = .int .i64 k ∧ St W0 wr K (.raw w.heap.size (tabC k) 90 :: L)) (fun iv _ => 256 - (intOf iv).toNat)
  case atStart => exact ⟨0, by decide, rfl, H.out.allocRaw _ _⟩
  case round =>
    obtain ⟨k, hk, rfl, hs⟩ := hrel
    have HS := Lib.hid hs
    clear hs
    by_cases hlt : k < 256
    · have hc := HS.out.rawCell k
      rw [tabC_get k k hlt, if_neg (by omega)] at hc
      have hf := HS.out.rawFree k
      have hw : IntKind.u32.wrap (k : Int) = (k : Int) := by rw [IntKind.wrap_u32]; omega
      have hlt2 : (k : Int) < 256 := by omega
      have hk0 : (0 : Int) ≤ (k : Int) := by omega
      go_wp2_with fail
      go_region_with (go_at_call 55; refine (crc_rem k hlt _).mono ?_; rintro e wn ⟨rfl, rfl⟩)
      go_wp2
      go_roundw
      case rel =>
        refine ⟨k + 1, by omega, by go_num, ?_⟩
        have h2 := (HS.out.drew).rawSet k (.int .u32 (tab k).toNat)
        rw [tabC_set k hlt] at h2
        exact h2
      case measure => first | (simp [intOf]; done) | (simp [intOf]; omega)
    · have hk : k = 256 := by omega
      subst hk
      go_wp2
      go_ret
      exact ⟨_, rfl, HS.out⟩

set_option maxHeartbeats 1000000 in
set_option maxRecDepth 100000 in
theorem crc_more (b : Nat) (sum : W32) (s : Bs) (hs : s.length ≤ 140737488355328) {W0 w : World} {K : Know} {L : List Res} (h : St W0 w K (.raw b (tabC 256) 90 :: L)) :
    Calls Try.prog 17 #[tabPtr b, .int .u32 sum.toNat, .string (bb s)] w fun en w' => en = .returned (.int .u32 (crcMore sum s).toNat) ∧ St W0 w' K (.raw b (tabC 256) 90 :: L) := by
  have H := Lib.hid h
  have hsum := sum.isLt
  obtain ⟨nb, hnb⟩ : ∃ nb, ~~~ sum = nb := ⟨_, rfl⟩
  have hn := not_u32 sum
  rw [hnb] at hn
  have HNB := Lib.hid hnb
  clear h hnb
  go_enter Try.func17, Try.ntmps17
  go_wp2
  go_loopw [7, 13] (fun rv kv wr => ∃ k : Nat, k ≤ s.length ∧ kv = .int .i64 k ∧ rv = .int .u32 (crcRaw nb (s.take k)).toNat ∧ St W0 wr K (.raw b (tabC 256) 90 :: L)) (fun _ kv _ => s.length - (intOf kv).toNat)
  case atStart => exact ⟨0, Nat.zero_le _, rfl, rfl, H.out⟩
  case round =>
    obtain ⟨k, hk, rfl, rfl, hst⟩ := hrel
    have HS := Lib.hid hst
    clear hst
    obtain ⟨r, hr⟩ : ∃ r, crcRaw nb (s.take k) = r := ⟨_, rfl⟩
    rw [hr]
    have HR := Lib.hid hr
    clear hr
    by_cases hlt : k < s.length
    · have hrl := r.isLt
      have hstep : crcRaw nb (s.take (k + 1)) = byteStep r s[k] := by
        rw [List.take_succ_eq_append_getElem hlt, crcRaw_append, HR.out]; rfl
      have HST := Lib.hid hstep
      clear hstep
      obtain ⟨m, hm⟩ : ∃ m, r.toNat % 256 = m := ⟨_, rfl⟩
      obtain ⟨y, hy⟩ : ∃ y, r >>> 8 = y := ⟨_, rfl⟩
      have hm0 : m < 256 := by omega
      have hcell : ∀ c : UInt8, wr.cell? ⟨b, bIx m c, none⟩ = some (.int .u32 (tab (bIx m c)).toNat) := fun c => by
        have h := HS.out.rawCell (bIx m c)
        rw [tabC_get 256 _ (bIx_lt hm0 c), if_pos (bIx_lt hm0 c)] at h
        exact h
      have hx := bIx_xor hm0
      have hm2 : IntKind.u8.wrap (r.toNat : Int) = (m : Int) := by rw [IntKind.wrap_u8]; omega
      have hs8 := shr8_u32 r
      rw [hy] at hs8
      have hxz : ∀ t : W32, bits .xor .u32 (t.toNat : Int) (y.toNat : Int) = (xor32 t y : Int) := fun t => xor_u32 t y
      have hq0 : ∀ c : UInt8, (0 : Int) ≤ (bIx m c : Int) := fun c => by omega
      have hq1 : ∀ c : UInt8, (bIx m c : Int) < 256 := fun c => by have := bIx_lt hm0 c; omega
      have HZ := Lib.hid (show (byteStep r s[k]).toNat = xor32 (tab (bIx m s[k])) y by unfold byteStep xor32 bIx; rw [hm, hy])
      clear hm hy hrl hm0
      have hk0 : (0 : Int) ≤ (k : Int) := by omega
      have hk1 : (k : Int) < s.length := by omega
      go_wp2_with fail
      go_quiet (fail)
      go_wp2
      go_roundw
      case rel =>
        refine ⟨k + 1, hlt, by go_num, ?_, HS.out.drewN _⟩
        rw [HST.out, HZ.out]
        exact congrArg (Value.int .u32) ((congrArg (bits .xor .u32 _) hs8).trans (hxz _))
      case measure => first | (simp [intOf]; done) | (simp [intOf]; omega)
    · have hk : k = s.length := by omega
      subst hk
      obtain ⟨nr, hnr⟩ : ∃ nr, ~~~ r = nr := ⟨_, rfl⟩
      have hn2 := not_u32 r
      rw [hnr] at hn2
      have HNR := Lib.hid hnr
      clear hnr
      rw [List.take_length] at HR
      go_wp2
      go_ret
      refine ⟨?_, HS.out⟩
      unfold crcMore
      rw [HNB.out, HR.out, HNR.out]
      rfl

/-- Texts, one behind the other. -/
def RStr (_ : World) (cs : List Value) (x : Bs) : Prop := cs = [.string (bb x)]
def strRows (D : Nat → Prop) (w : World) (v : Value) (l : List Bs) : Prop := RowsOf RStr D w v 1 l
theorem rstr_keep {D : Nat → Prop} {w w' : World} {v : Value} {l : List Bs} (h : strRows D w v l) (hs : w.heap.size ≤ w'.heap.size) (hk : ∀ k, k < w.heap.size → D k → w'.heap[k]? = w.heap[k]?) : strRows D w' v l := by
  obtain ⟨p, cap, rfl, h⟩ := h
  refine ⟨p, cap, rfl, fun h0 => ?_⟩
  obtain ⟨b, off, rfl, hb, hlt, hc⟩ := h h0
  refine ⟨b, off, rfl, hb, Nat.lt_of_lt_of_le hlt hs, fun i hi => ?_⟩
  obtain ⟨cs, h1, h2, h3⟩ := hc i hi
  exact ⟨cs, h1, h2, fun f u hu => (World.cell?_of_block (w := w) (a := ⟨b, off + (i * 1 + f), none⟩) (hk b hlt hb)).trans (h3 f u hu)⟩
def Know.strs (v : Value) (l : List Bs) : Know := ⟨fun w F => strRows F w v l, fun _ _ _ h hs hk => rstr_keep h hs hk, fun _ _ _ h hs => h.mono (fun _ _ h => hs _ h) (fun _ _ h => h)⟩
theorem strRows.at {D : Nat → Prop} {w : World} {v : Value} {l : List Bs} (h : strRows D w v l) :
    ∃ p cap, v = .slice p l.length cap ∧ (0 < l.length → ∃ b off, p = some ⟨b, off, none⟩ ∧ ∀ i (h : i < l.length), w.cell? ⟨b, off + i, none⟩ = some (.string (bb l[i]))) := by
  obtain ⟨p, cap, rfl, h⟩ := h
  refine ⟨p, cap, rfl, fun h0 => ?_⟩
  obtain ⟨b, off, rfl, _, _, hc⟩ := h h0
  refine ⟨b, off, rfl, fun i hi => ?_⟩
  obtain ⟨cs, h1, h2, h3⟩ := hc i hi
  unfold RStr at h2
  subst h2
  have := h3 0 _ rfl
  simpa using this
def crcParts (sum : W32) (l : List Bs) : W32 := l.foldl crcMore sum
theorem crcParts_snoc (sum : W32) (l : List Bs) (s : Bs) : crcParts sum (l ++ [s]) = crcMore (crcParts sum l) s := List.foldl_append
theorem crcParts_flat (sum : W32) (l : List Bs) : crcParts sum l = crcMore sum l.flatten := by
  induction l generalizing sum with
  | nil => exact (crcMore_nil sum).symm
  | cons a t ih =>
    show crcParts (crcMore sum a) t = _
    rw [ih, List.flatten_cons, crcMore_append]

set_option maxHeartbeats 1000000 in
set_option maxRecDepth 100000 in
theorem crc_sum (b : Nat) (v : Value) (l : List Bs) (hl : l.length ≤ 9223372036854775807) (hs : ∀ s ∈ l, s.length ≤ 140737488355328) {W0 w : World} {K : Know} {L : List Res} (hk : K.has (Know.strs v l)) (h : St W0 w K (.raw b (tabC 256) 90 :: L)) :
    Calls Try.prog 19 #[tabPtr b, v] w fun en w' => en = .returned (.int .u32 (crcParts 0#32 l).toNat) ∧ St W0 w' K (.raw b (tabC 256) 90 :: L) := by
  have H := Lib.hid h
  have HS := Lib.hid hs
  have HK := Lib.hid hk
  obtain ⟨F, hF, _⟩ := h.get
  obtain ⟨p, cap, rfl, _⟩ := (hk _ _ hF).at
  clear h hs hk hF
  go_enter Try.func19, Try.ntmps19
  go_wp2
  go_loopw [5, 10] (fun rv kv wr => ∃ k : Nat, k ≤ l.length ∧ kv = .int .i64 k ∧ rv = .int .u32 (crcParts 0#32 (l.take k)).toNat ∧ St W0 wr K (.raw b (tabC 256) 90 :: L)) (fun _ kv _ => l.length - (intOf kv).toNat)
  case atStart => exact ⟨0, Nat.zero_le _, rfl, rfl, H.out⟩
  case round =>
    obtain ⟨k, hk, rfl, rfl, hst⟩ := hrel
    have HST := Lib.hid hst
    obtain ⟨F2, hF2, _⟩ := hst.get
    obtain ⟨p2, cap2, hv2, hrow⟩ := (HK.out _ _ hF2).at
    clear hst hF2
    obtain ⟨r, hr⟩ : ∃ r, crcParts 0#32 (l.take k) = r := ⟨_, rfl⟩
    rw [hr]
    have HR := Lib.hid hr
    clear hr
    by_cases hlt : k < l.length
    · obtain ⟨bb', off, hp, hcells⟩ := hrow (by omega)
      have hpp : p = some ⟨bb', off, none⟩ := by simp at hv2; rw [hv2.1, hp]
      subst hpp
      have hc := hcells k hlt
      have HL := Lib.hid (HS.out l[k] (List.getElem_mem hlt))
      have HN := Lib.hid (show crcParts 0#32 (l.take (k + 1)) = crcMore r l[k] by rw [List.take_succ_eq_append_getElem hlt, crcParts_snoc, HR.out])
      clear hcells hv2 hp hrow
      generalize l[k] = s at *
      go_wp2_with (go_at_call 17; refine (crc_more b r s HL.out HST.out).mono ?_; rintro e wn ⟨rfl, h⟩; have H2 := Lib.hid h; clear h)
      go_roundw
      case rel => exact ⟨k + 1, hlt, by go_num, by rw [HN.out], H2.out⟩
      case measure => first | (simp [intOf]; done) | (simp [intOf]; omega)
    · have hk : k = l.length := by omega
      subst hk
      rw [List.take_length] at HR
      go_wp2
      go_ret
      exact ⟨by rw [HR.out]; rfl, HST.out⟩

end Go.Proofs.Ytkenneeejdngaaa
