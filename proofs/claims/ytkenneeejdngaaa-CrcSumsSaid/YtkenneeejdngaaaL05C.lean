/- Layer 5, walked: CrcSums. -/
import Derived.Test.YtkenneeejdngaaaRef05S
import Derived.Test.YtkenneeejdngaaaL05S
namespace Go.Proofs.Ytkenneeejdngaaa
open Go.RowKit

theorem strs_at {W0 w : World} {K : Know} {L : List Res} {q : Option Addr} {n cap : Nat} {l : List Bs} (hk : K.has (Know.strs (.slice q n cap) l)) (h : St W0 w K L) (h0 : 0 < l.length) : ∃ b off, q = some ⟨b, off, none⟩ := by
  obtain ⟨F, hF, _⟩ := h.get
  obtain ⟨q2, cap2, hv, hr⟩ := strRows.at (hk _ _ hF)
  obtain ⟨b, off, hq, _⟩ := hr h0
  simp at hv
  exact ⟨b, off, hv.1.trans hq⟩
theorem strs_cell {W0 w : World} {K : Know} {L : List Res} {b off n cap : Nat} {l : List Bs} (hk : K.has (Know.strs (.slice (some ⟨b, off, none⟩) n cap) l)) (h : St W0 w K L) (i : Nat) (hi : i < l.length) (x : Bs) (hx : l[i] = x) :
    w.cell? ⟨b, off + i, none⟩ = some (.string (bb x)) := by
  subst hx
  obtain ⟨F, hF, _⟩ := h.get
  obtain ⟨q2, cap2, hv, hr⟩ := strRows.at (hk _ _ hF)
  obtain ⟨b2, off2, hq, hc⟩ := hr (by omega)
  rw [hq] at hv
  simp at hv
  obtain ⟨⟨rfl, rfl⟩, _, _⟩ := hv
  exact hc i hi
theorem flat_take (l : List Bs) (k : Nat) (h : k < l.length) (x : Bs) (hx : l[k] = x) : (l.take (k + 1)).flatten = (l.take k).flatten ++ x := by
  subst hx
  rw [List.take_succ_eq_append_getElem h, List.flatten_append]
  simp
theorem crc_moreA (b : Nat) (A s : Bs) (X Y : Nat) (hX : (crcMore 0#32 A).toNat = X) (hY : (crcMore 0#32 (A ++ s)).toNat = Y) (hs : s.length ≤ 140737488355328) {W0 w : World} {K : Know} {L : List Res} (h : St W0 w K (.raw b (tabC 256) 90 :: L)) :
    Calls Try.prog 17 #[tabPtr b, .int .u32 X, .string (bb s)] w fun en w' => en = .returned (.int .u32 Y) ∧ St W0 w' K (.raw b (tabC 256) 90 :: L) := by
  subst hX; subst hY
  rw [crcMore_append]
  exact crc_more b _ s hs h
theorem crc_sumA (b : Nat) (v : Value) (l : List Bs) (A : Bs) (X : Nat) (hA : l.flatten = A) (hX : (crcMore 0#32 A).toNat = X) (hl : l.length ≤ 9223372036854775807) (hs : ∀ s ∈ l, s.length ≤ 140737488355328) {W0 w : World} {K : Know} {L : List Res} (hk : K.has (Know.strs v l)) (h : St W0 w K (.raw b (tabC 256) 90 :: L)) :
    Calls Try.prog 19 #[tabPtr b, v] w fun en w' => en = .returned (.int .u32 X) ∧ St W0 w' K (.raw b (tabC 256) 90 :: L) := by
  subst hA; subst hX
  rw [← crcParts_flat]
  exact crc_sum b v l hl hs hk h
theorem ref05_sumQ (s : Bs) (hs : s.length ≤ 300) (X : Nat) (hX : (crcMore 0#32 s).toNat = X) {W0 w : World} {K : Know} {L : List Res} (h : St W0 w K L) :
    Calls Try.prog 18 #[.string (bb s)] w fun en w' => en = .returned (.int .u32 X) ∧ St W0 w' K L := by
  subst hX
  exact ref05_sum s hs h

set_option maxHeartbeats 1000000 in
set_option maxRecDepth 100000 in
theorem crcSums_main (l : List Bs) (q : Option Addr) (cap : Nat) (hl : l.length ≤ 9223372036854775807) (hs : ∀ s ∈ l, s.length ≤ 140737488355328) {W0 w : World} {K : Know} (hk : K.has (Know.strs (.slice q l.length cap) l)) (h : St W0 w K []) :
    Calls Try.prog 3 #[.slice q l.length cap] w fun en w' => en = .returned (.bool true) ∧ Below W0.heap.size W0 w' := by
  have H := Lib.hid h
  have HL := Lib.hid hl
  have HS := Lib.hid hs
  have HK := Lib.hid hk
  clear h hl hs hk
  go_enter Try.func3, Try.ntmps3
  go_wp2_with (go_at_call 15; (with_reducible refine (speaks05 H.out).mono ?_); rintro e wn ⟨rfl, h⟩; replace H := Lib.hid h; clear h)
  go_loopw [3, 5, 15] (fun av _ iv wr => ∃ k : Nat, k ≤ l.length ∧ iv = .int .i64 k ∧ av = .string (bb (l.take k).flatten) ∧ Hid ((l.take k).flatten.length ≤ 300) ∧ St W0 wr K []) (fun _ _ iv _ => l.length - (intOf iv).toNat)
  case atStart => exact ⟨0, Nat.zero_le _, rfl, rfl, Lib.hid (by simp), H.out⟩
  case round =>
    obtain ⟨k, hk, rfl, rfl, HA, hst⟩ := hrel
    clear H
    have H := Lib.hid hst
    clear hst
    by_cases hlt : k < l.length
    · obtain ⟨b, off, rfl⟩ := strs_at HK.out H.out (by omega)
      obtain ⟨x, hx⟩ : ∃ x, l[k] = x := ⟨_, rfl⟩
      have c0 := strs_cell HK.out H.out k hlt x hx
      have ht := flat_take l k hlt x hx
      have hxs : x.length ≤ 140737488355328 := HS.out x (by rw [← hx]; exact List.getElem_mem _)
      obtain ⟨A, hA⟩ : ∃ A, (l.take k).flatten = A := ⟨_, rfl⟩
      rw [hA] at HA ht ⊢
      obtain ⟨B, hB⟩ : ∃ B, A ++ x = B := ⟨_, rfl⟩
      rw [hB] at ht
      have hcat : bb A ++ bb x = bb B := by rw [← hB]; exact bb_append _ _
      have hAl := HA.out
      have hg : ¬ (9223372036854775807 < A.length + x.length) := by omega
      have hki : (k : Int) < (l.length : Int) := by omega
      by_cases hlen : B.length ≤ 300
      · have d1 : decide ((300 : Int) < (B.length : Int)) = false := decide_eq_false (by omega)
        have HT := Lib.hid ht
        have HB := Lib.hid hlen
        clear hx ht hxs hA hlen hB hAl
        go_wp2
        have hw : wrap64 ((k : Int) + 1) = ((k + 1 : Nat) : Int) := by have := HL.out; unfold wrap64; omega
        rw [hw]
        go_roundw
        case rel => exact ⟨k + 1, hlt, rfl, by rw [HT.out], Lib.hid (by rw [HT.out]; exact HB.out), H.out⟩
        case measure => first | (simp [intOf]; done) | (simp [intOf]; omega)
      · have d1 : decide ((300 : Int) < (B.length : Int)) = true := decide_eq_true (by omega)
        clear hx ht hxs hA hlen hB hAl
        go_wp2
        go_ret
        exact ⟨rfl, H.out.below⟩
    · obtain rfl : l.length = k := by omega
      rw [List.take_length] at HA ⊢
      obtain ⟨A, hA⟩ : ∃ A, l.flatten = A := ⟨_, rfl⟩
      rw [hA] at HA ⊢
      obtain ⟨X, hX⟩ : ∃ X, (crcMore 0#32 A).toNat = X := ⟨_, rfl⟩
      have HAA := Lib.hid hA
      have HX := Lib.hid hX
      have HAL := Lib.hid (show A.length ≤ 140737488355328 by have := HA.out; omega)
      have Z0 := Lib.hid (show (crcMore 0#32 (l.take 0).flatten).toNat = 0 by rw [List.take_zero]; show (crcMore 0#32 []).toNat = 0; rw [crcMore_nil]; rfl)
      clear hA hX hlt hk
      go_wp2_with (go_at_call 16; (with_reducible refine (crc_new H.out).mono ?_); rintro e wn ⟨bt, rfl, h⟩; replace H := Lib.hid h; clear h)
      go_loopw [7, 9, 29] (fun sv _ iv wr => ∃ (k Y : Nat), k ≤ l.length ∧ iv = .int .i64 k ∧ sv = .int .u32 Y ∧ Hid ((crcMore 0#32 (l.take k).flatten).toNat = Y) ∧ St W0 wr K [.raw bt (tabC 256) 90]) (fun _ _ iv _ => l.length - (intOf iv).toNat)
      case atStart => exact ⟨0, 0, Nat.zero_le _, rfl, rfl, Z0, H.out⟩
      case round =>
        obtain ⟨k, Y, hk, rfl, rfl, HY, hst⟩ := hrel
        clear H
        have H := Lib.hid hst
        clear hst
        by_cases hlt : k < l.length
        · obtain ⟨b, off, rfl⟩ := strs_at HK.out H.out (by omega)
          obtain ⟨x, hx⟩ : ∃ x, l[k] = x := ⟨_, rfl⟩
          have c0 := strs_cell HK.out H.out k hlt x hx
          have ht := flat_take l k hlt x hx
          have HXS := Lib.hid (HS.out x (by rw [← hx]; exact List.getElem_mem _))
          obtain ⟨Z, hZ⟩ : ∃ Z, (crcMore 0#32 ((l.take k).flatten ++ x)).toNat = Z := ⟨_, rfl⟩
          have HZ := Lib.hid hZ
          have HZ2 := Lib.hid (show (crcMore 0#32 (l.take (k + 1)).flatten).toNat = Z by rw [ht]; exact hZ)
          have hki : (k : Int) < (l.length : Int) := by omega
          clear hx ht hZ
          go_wp2_with (go_at_call 17; (with_reducible refine (crc_moreA bt _ x Y Z HY.out HZ.out HXS.out H.out).mono ?_); rintro e wn ⟨rfl, h⟩; replace H := Lib.hid h; clear h)
          have hw : wrap64 ((k : Int) + 1) = ((k + 1 : Nat) : Int) := by have := HL.out; unfold wrap64; omega
          rw [hw]
          go_roundw
          case rel => exact ⟨k + 1, Z, hlt, rfl, rfl, HZ2, H.out⟩
          case measure => first | (simp [intOf]; done) | (simp [intOf]; omega)
        · obtain rfl : l.length = k := by omega
          obtain rfl : X = Y := by
            have := HY.out
            rw [List.take_length, HAA.out, HX.out] at this
            exact this
          have k1 : True := trivial
          go_wp2_with (first
            | (go_at_call 18; (with_reducible refine (ref05_sumQ A HA.out X HX.out H.out).mono ?_); rintro e wn ⟨rfl, h⟩; replace H := Lib.hid h; clear h)
            | (go_at_call 19; have _t := k1; clear _t; (with_reducible refine (crc_sumA bt _ l A X HAA.out HX.out HL.out HS.out HK.out H.out).mono ?_); rintro e wn ⟨rfl, h⟩; replace H := Lib.hid h; clear h; clear k1)
            | (go_at_call 19; (with_reducible refine (crc_sum1 bt _ A X HX.out HAL.out (H.out.allocRaw #[.string (bb A)] 9)).mono ?_); rintro e wn ⟨rfl, h⟩; replace H := Lib.hid h; clear h))
          go_ret
          exact ⟨rfl, H.out.below⟩
theorem crcSums_any (l : List Bs) (v : Value) (w : World) (hl : l.length ≤ maxLen) (hs : ∀ s ∈ l, s.length ≤ 140737488351232) (hr : RowsOf RStr (· < w.heap.size) w v 1 l) :
    Calls Try.prog 3 #[v] w fun en w' => en = .returned (.bool true) ∧ Below w.heap.size w w' := by
  have h : St w w (Know.strs v l) [] := St.start hr
  obtain ⟨q, cap, hv⟩ : ∃ q cap, v = .slice q l.length cap := by obtain ⟨p, cap, hv, _⟩ := hr; exact ⟨p, cap, hv⟩
  subst hv
  exact crcSums_main l q cap hl (fun s h => Nat.le_trans (hs s h) (by decide)) (Know.has_refl _) h

end Go.Proofs.Ytkenneeejdngaaa
