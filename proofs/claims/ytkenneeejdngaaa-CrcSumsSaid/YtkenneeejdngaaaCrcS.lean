/- Sums of one text, and of one that is harmed. -/
import Derived.Test.YtkenneeejdngaaaCrc1
import Derived.Test.YtkenneeejdngaaaSel
namespace Go.Proofs.Ytkenneeejdngaaa
open Go.RowKit

theorem St.freezeStr {W0 w : World} {K : Know} {L : List Res} {r : Nat} {s : Bs} (h : St W0 w K (.raw r #[.string (bb s)] 9 :: L)) : St W0 w (K.and (Know.strs (.slice (some ⟨r, 0, none⟩) 1 1) [s])) L := by
  refine h.freeze fun F S1 _ h1 => ?_
  have hlt := heap_lt h1.1
  refine ⟨some ⟨r, 0, none⟩, 1, rfl, fun _ => ⟨r, 0, rfl, .inr ⟨(h1.2 r).2 rfl, hlt⟩, hlt, fun i hi => ?_⟩⟩
  have hi0 : i = 0 := by simp at hi; omega
  subst hi0
  refine ⟨[.string (bb s)], rfl, rfl, fun f u hu => ?_⟩
  rw [cell_at h1.1]
  cases f with
  | zero => simp at hu; subst hu; rfl
  | succ f => simp at hu
theorem crc_sum1 (b r : Nat) (s : Bs) (n : Nat) (hn : (crcMore 0#32 s).toNat = n) (hs : s.length ≤ 140737488355328) {W0 w : World} {K : Know} {L : List Res} (h : St W0 w K (.raw r #[.string (bb s)] 9 :: .raw b (tabC 256) 90 :: L)) :
    Calls Try.prog 19 #[tabPtr b, .slice (some ⟨r, 0, none⟩) 1 1] w fun en w' => en = .returned (.int .u32 n) ∧ St W0 w' K (.raw b (tabC 256) 90 :: L) := by
  subst hn
  exact (crc_sum b _ [s] (by simp) (fun t ht => by simp at ht; subst ht; exact hs) (Know.has_right (Know.has_refl _)) h.freezeStr).mono fun en w' hh => ⟨hh.1, hh.2.know (Know.has_left (Know.has_refl _))⟩
theorem crc_moreQ (b : Nat) (sum r : W32) (n : Nat) (s t : Bs) (hn : r.toNat = n) (hr : crcMore sum s = r) (ht : t = s) (hs : s.length ≤ 140737488355328) {W0 w : World} {K : Know} {L : List Res} (h : St W0 w K (.raw b (tabC 256) 90 :: L)) :
    Calls Try.prog 17 #[tabPtr b, .int .u32 sum.toNat, .string (bb t)] w fun en w' => en = .returned (.int .u32 n) ∧ St W0 w' K (.raw b (tabC 256) 90 :: L) := by
  subst hn; subst hr; subst ht; exact crc_more b sum t hs h
theorem crc_set (s : Bs) (j : Nat) (hj : j < s.length) (c : UInt8) : (crcMore 0#32 (s.set j c) = crcMore 0#32 s) ↔ c = s[j] := by
  constructor
  · intro h
    have hb := crc_burst 0#32 (s.set j c) s (8 * j) (by simp) ?_ h
    · have := congrArg (fun l : Bs => l[j]?) hb
      simp [hj] at this
      exact this
    · intro i hi
      rw [bitsOf_get, bitsOf_get]
      have hne : i / 8 ≠ j := by omega
      rw [List.getD_eq_getElem?_getD, List.getD_eq_getElem?_getD, List.getElem?_set_ne (by omega)]
  · rintro rfl
    rw [List.set_getElem_self]
theorem xor_u8m (c m : UInt8) : bits .xor .u8 (c.toNat : Int) (m.toNat : Int) = ((c ^^^ m).toNat : Int) := by
  rw [bits_xor_u8]
  have h1 := c.toNat_lt
  have h2 := m.toNat_lt
  have e1 : ((c.toNat : Int) % 256).toNat = c.toNat := by omega
  have e2 : ((m.toNat : Int) % 256).toNat = m.toNat := by omega
  have h3 : c.toNat ^^^ m.toNat < 2 ^ 8 := Nat.xor_lt_two_pow (by omega) (by omega)
  rw [e1, e2, IntKind.wrap_u8, UInt8.toNat_xor]
  omega
theorem xor_same (c m : UInt8) : c ^^^ m = c ↔ m = 0 := by
  constructor
  · intro h
    have : c ^^^ (c ^^^ m) = c ^^^ c := by rw [h]
    rw [← UInt8.xor_assoc, UInt8.xor_self, UInt8.zero_xor] at this
    exact this
  · rintro rfl; simp

end Go.Proofs.Ytkenneeejdngaaa
