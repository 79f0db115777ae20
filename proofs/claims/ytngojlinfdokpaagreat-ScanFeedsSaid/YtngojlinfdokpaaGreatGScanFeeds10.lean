/- A text. -/
import Derived.Test.YtngojlinfdokpaaGreatGScanFeeds9
import Derived.Test.YtngojlinfdokpaaGreatSep
import Derived.Deep.OwnRows
import Derived.Test.YtngojlinfdokpaaGreatGScanFeeds4
import Derived.Deep.RegionHeld3
import Derived.Deep.DeepCutAuto
import Derived.IntWalk
import Derived.Test.YtngojlinfdokpaaGreatGScanFeeds1
import Derived.Test.YtngojlinfdokpaaGreatGScanFeeds6
import Derived.Test.YtngojlinfdokpaaGreatGrow
import Derived.Test.YtngojlinfdokpaaGreatGScanFeeds8
import Derived.Laws.CopyOwn
/- A text. -/
namespace Go.Proofs.YtngojlinfdokpaaGreat
open Go.RowKit

set_option maxHeartbeats 1000000 in
set_option maxRecDepth 100000 in
theorem ref05_power (n : Nat) (hn : n < 32) {W0 w : World} {K : Know} {L : List Res} (h : St W0 w K L) :
  Calls Tryz.prog 54 #[.int .i64 n] w fun en w' => en = .returned (.int .i64 (bitN (pw n))) ∧ St W0 w' K L := by
 have H := Lib.hid h
 clear h
 go_enter Tryz.func54, Tryz.ntmps54
 go_wp2
 have hal := H.out.allocRaw pwC 3
 obtain ⟨bP, hbP⟩ : ∃ b, w.heap.size = b := ⟨_, rfl⟩
 rw [hbP] at hal
 clear H
 have H := Lib.hid hal
 clear hal
 go_loopw [2, 4] (fun s2 iv wr => ∃ k : Nat, k ≤ 17 ∧ s2 = .int .i64 0 ∧ iv = .int .i64 k ∧ (∀ j, j < k → pwL.getD j 0 ≠ n) ∧ St W0 wr K (.raw bP pwC 3 :: L)) (fun _ iv _ => 17 - (intOf iv).toNat)
 case atStart => exact ⟨0, by omega, rfl, rfl, (fun j h => absurd h (by omega)), H.out⟩
 case round =>
  obtain ⟨k, hk, rfl, rfl, hno, hst⟩ := hrel
  clear H
  have H := Lib.hid hst
  have HNO := Lib.hid hno
  clear hst hno
  by_cases hlt : k < 17
  · have c0 := H.out.rawCell k
    rw [pw_cell k hlt] at c0
    obtain ⟨m, hm⟩ : ∃ m, pwL.getD k 0 = m := ⟨_, rfl⟩
    rw [hm] at c0
    have hki : (k : Int) < 17 := by omega
    by_cases he : m = n
    · subst he
      have HY := Lib.hid (show pw m = true by rw [← hm]; exact pw_yes k hlt)
      clear hm
      go_wp2
      go_ret
      exact ⟨by rw [HY.out]; rfl, H.out.drop⟩
    · have he2 : ((m : Int) == (n : Int)) = false := by rw [beq_eq_false_iff_ne]; omega
      have HN2 := Lib.hid (show ∀ j, j < k + 1 → pwL.getD j 0 ≠ n by
       intro j hj
       by_cases hjk : j = k
       · subst hjk; rw [hm]; exact he
       · exact HNO.out j (by omega))
      clear hm
      go_wp2
      go_roundw
      case rel => exact ⟨k + 1, hlt, rfl, by go_num, HN2.out, H.out⟩
      case measure => first | (simp [intOf]; done) | (simp [intOf]; omega)
  · have hkl : k = 17 := by omega
    subst hkl
    go_wp2
    go_ret
    exact ⟨by rw [pw_no n HNO.out]; rfl, H.out.drop⟩
set_option maxHeartbeats 1000000 in
set_option maxRecDepth 100000 in
theorem ref05_bit (s : Bs) (i : Nat) (hi : i < 8 * s.length) (hs : s.length ≤ 1000000) {W0 w : World} {K : Know} {L : List Res} (h : St W0 w K L) :
  Calls Tryz.prog 53 #[.string (bb s), .int .i64 i] w fun en w' => en = .returned (.int .i64 (bitN ((bitsOf s).getD i false))) ∧ St W0 w' K L := by
 have H := Lib.hid h
 clear h
 obtain ⟨q, hq⟩ : ∃ q, i / 8 = q := ⟨_, rfl⟩
 obtain ⟨r, hr⟩ : ∃ r, i % 8 = r := ⟨_, rfl⟩
 have t1 : (i : Int).tdiv 8 = (q : Int) := by rw [← hq]; rfl
 have t2 : (i : Int).tmod 8 = (r : Int) := by rw [← hr]; rfl
 have hqs : q < s.length := by omega
 have hr8 : r < 8 := by omega
 have HB := Lib.hid (show (s[q].toNat / 2 ^ r) % 2 = bitN ((bitsOf s).getD i false) by have := bit_div s i hi (by omega); simp only [hq, hr] at this; exact this)
 clear hq hr
 go_enter Tryz.func53, Tryz.ntmps53
 go_wp2
 go_loopw [5, 6] (fun c iv wr => ∃ k : Nat, k ≤ r ∧ c = .int .i64 ((s[q].toNat / 2 ^ k : Nat) : Int) ∧ iv = .int .i64 k ∧ St W0 wr K L) (fun _ iv _ => r - (intOf iv).toNat)
 case atStart => exact ⟨0, Nat.zero_le _, by have h8 := s[q].toNat_lt; simp; unfold wrap64; omega, rfl, H.out⟩
 case round =>
  obtain ⟨k, hk, rfl, rfl, hst⟩ := hrel
  clear H
  have H := Lib.hid hst
  clear hst
  obtain ⟨c, hc⟩ : ∃ c, s[q].toNat / 2 ^ k = c := ⟨_, rfl⟩
  have hc8 : c < 256 := by
    have h1 : s[q].toNat / 2 ^ k ≤ s[q].toNat := Nat.div_le_self _ _
    have h2 := s[q].toNat_lt
    omega
  rw [hc]
  by_cases hlt : k < r
  · have hki : (k : Int) < (r : Int) := by omega
    have HC := Lib.hid (show s[q].toNat / 2 ^ (k + 1) = c / 2 by rw [Nat.pow_succ, ← Nat.div_div_eq_div_mul, hc])
    have t3 : (c : Int).tdiv 2 = ((c / 2 : Nat) : Int) := rfl
    clear hc
    go_wp2
    go_roundw
    case rel => exact ⟨k + 1, hlt, by rw [HC.out]; rfl, by go_num, H.out⟩
    case measure => first | (simp [intOf]; done) | (simp [intOf]; omega)
  · have hkl : k = r := by omega
    subst hkl
    rw [hc] at HB
    have t3 : (c : Int).tmod 2 = ((c % 2 : Nat) : Int) := rfl
    clear hc
    go_wp2
    go_ret
    exact ⟨by rw [← HB.out]; rfl, H.out⟩
def cellsB (l : List Bool) : Array Value := (l.map fun b => Value.int .i64 (bitN b)).toArray
theorem cellsB_get (l : List Bool) (j : Nat) (h : j < l.length) : (cellsB l)[j]? = some (.int .i64 (bitN (l.getD j false))) := by
 unfold cellsB
 rw [List.getElem?_toArray, List.getElem?_map, List.getD_eq_getElem?_getD, List.getElem?_eq_getElem h]
 rfl
theorem cellsB_set (l : List Bool) (k : Nat) (b : Bool) (x : Int) (hx : ((bitN b : Nat) : Int) = x) : (cellsB l).setIfInBounds k (.int .i64 x) = cellsB (l.set k b) := by
 subst hx
 unfold cellsB
 rw [List.setIfInBounds_toArray, List.map_set]
theorem cellsB_made (n : Nat) : madeCells #[.int .i64 0] n = cellsB (List.replicate n false) := by
 refine Array.ext_getElem? fun i => ?_
 by_cases hi : i < n
 · rw [cellsB_get _ _ (by simpa using hi), List.getD_eq_getElem?_getD, List.getElem?_replicate, if_pos hi]
   simp [madeCells, hi, Nat.mod_one, bitN]
 · rw [Array.getElem?_eq_none (by rw [size_madeCells]; first | omega | (simp; omega)), Array.getElem?_eq_none (by simp [cellsB]; omega)]
theorem ext_getD {a b : List Bool} (hl : a.length = b.length) (h : ∀ x, x < a.length → a.getD x false = b.getD x false) : a = b := by
 refine List.ext_getElem hl fun i h1 h2 => ?_
 have := h i h1
 rw [List.getD_eq_getElem?_getD, List.getD_eq_getElem?_getD, List.getElem?_eq_getElem h1, List.getElem?_eq_getElem h2] at this
 exact this
def fillB (s : Bs) (m : Nat) : Nat → List Bool
  | 0 => List.replicate m false
  | k + 1 => (fillB s m k).set k ((bitsOf s).getD k false)
theorem fillB_len (s : Bs) (m k : Nat) : (fillB s m k).length = m := by
 induction k with
 | zero => show (List.replicate _ _).length = _; rw [List.length_replicate]
 | succ k ih => show (List.set _ _ _).length = _; rw [List.length_set, ih]
theorem fillB_get (s : Bs) (m k : Nat) (h : k ≤ m) (x : Nat) : (fillB s m k).getD x false = if x < k then (bitsOf s).getD x false else false := by
 induction k with
 | zero =>
  show (List.replicate _ _).getD x false = _
  rw [List.getD_eq_getElem?_getD, List.getElem?_replicate]
  split <;> rfl
 | succ k ih =>
  have ih := ih (by omega)
  show ((fillB s m k).set k _).getD x false = _
  rw [getD_set _ _ _ _ (by rw [fillB_len]; omega)]
  by_cases hx : x = k
  · subst hx; rw [if_pos rfl, if_pos (by omega)]
  · rw [if_neg hx, ih]
    by_cases h2 : x < k
    · rw [if_pos h2, if_pos (by omega)]
    · rw [if_neg h2, if_neg (by omega)]
theorem fillB_row (s : Bs) (n : Nat) (h : 8 * s.length = n) : fillB s (n + 32) n = rowOf s := by
 refine ext_getD (by rw [fillB_len, rowOf_len, h]) fun x _ => ?_
 rw [fillB_get _ _ _ (by omega), rowOf_get]
 split
 · rfl
 · next hx =>
   rw [List.getD_eq_getElem?_getD, List.getElem?_eq_none (by rw [bitsOf_length]; omega)]
   rfl
theorem St.bitCell {W0 w : World} {K : Know} {L : List Res} {b : Nat} {l : List Bool} {T : TypeId} (h : St W0 w K (.raw b (cellsB l) T :: L)) (k : Nat) (hk : k < l.length) (c : Bool) (hc : l.getD k false = c) : w.cell? ⟨b, k, none⟩ = some (.int .i64 (bitN c)) := by
 rw [h.rawCell k, cellsB_get l k hk, hc]
theorem St.bitSet {W0 w : World} {K : Know} {L : List Res} {b : Nat} {l : List Bool} {T : TypeId} (h : St W0 w K (.raw b (cellsB l) T :: L)) (k : Nat) (c : Bool) (x : Int) (hx : ((bitN c : Nat) : Int) = x) : St W0 (w.setCell ⟨b, k, none⟩ (.int .i64 x)) K (.raw b (cellsB (l.set k c)) T :: L) := by
 rw [← cellsB_set l k c x hx]
 exact h.rawSet k _
theorem make_bits (n N : Nat) (h : n + 32 = N) (hn : N ≤ 9000000) (w : World) : (Instr.makeSlice 40 (.int .i64 (N : Int)) (.int .i64 (N : Int))).run Tryz.prog w = .ok (.slice (some ⟨w.heap.size, 0, none⟩) N N) (w.alloc (.cells (cellsB (List.replicate N false)) 3 (0, 0))) := by
 rw [← cellsB_made]
 exact run_make_row' 40 3 (.int .i64 0) 8 Tryz.underlying40 (by kernel_rfl) rfl .i64 .i64 N (by omega) (by omega) w
theorem ref05_powerQ (n : Nat) (hn : n < 32) (c : Bool) (hc : pw n = c) {W0 w : World} {K : Know} {L : List Res} (h : St W0 w K L) :
  Calls Tryz.prog 54 #[.int .i64 n] w fun en w' => en = .returned (.int .i64 (bitN c)) ∧ St W0 w' K L := by
 subst hc
 exact ref05_power n hn h
theorem ref05_bitQ (s : Bs) (i : Nat) (hi : i < 8 * s.length) (hs : s.length ≤ 1000000) (c : Bool) (hc : (bitsOf s).getD i false = c) {W0 w : World} {K : Know} {L : List Res} (h : St W0 w K L) :
  Calls Tryz.prog 53 #[.string (bb s), .int .i64 i] w fun en w' => en = .returned (.int .i64 (bitN c)) ∧ St W0 w' K L := by
 subst hc
 exact ref05_bit s i hi hs h
set_option maxHeartbeats 1000000 in
set_option maxRecDepth 100000 in
theorem ref05_sumW (s : Bs) (hs : s.length ≤ 1000000) {W0 w : World} {K : Know} {L : List Res} (h : St W0 w K L) :
  Calls Tryz.prog 29 #[.string (bb s)] w fun en w' => en = .returned (.int .u32 (crcMore 0#32 s).toNat) ∧ St W0 w' K L := by
 have H := Lib.hid h
 clear h
 obtain ⟨n, hn⟩ : ∃ n, 8 * s.length = n := ⟨_, rfl⟩
 obtain ⟨N, hN⟩ : ∃ N, n + 32 = N := ⟨_, rfl⟩
 have e8 : (8 : Int) * (s.length : Int) = (n : Int) := by omega
 have eN : (n : Int) + 32 = (N : Int) := by omega
 have hn2 : n ≤ 8000000 := by omega
 have hmk := make_bits n N hN (by omega)
 have HN := Lib.hid hn
 have HN2 := Lib.hid hN
 have HS := Lib.hid hs
 clear hn hN hs
 go_enter Tryz.func29, Tryz.ntmps29
 go_wp2
 have hal := H.out.allocRaw (cellsB (List.replicate N false)) 3
 obtain ⟨bL, hbL⟩ : ∃ b, w.heap.size = b := ⟨_, rfl⟩
 rw [hbL] at hal ⊢
 clear H hmk hbL
 have H := Lib.hid hal
 clear hal
 go_loopw [5] (fun iv wr => ∃ k : Nat, k ≤ n ∧ iv = .int .i64 k ∧ St W0 wr K (.raw bL (cellsB (fillB s N k)) 3 :: L)) (fun iv _ => n - (intOf iv).toNat)
 case atStart => exact ⟨0, Nat.zero_le _, rfl, H.out⟩
 case round =>
  obtain ⟨k, hk, rfl, hst⟩ := hrel
  clear H
  have H := Lib.hid hst
  clear hst
  by_cases hlt : k < n
  · have hki : (k : Int) < (n : Int) := by omega
    have hkN : (k : Int) < (N : Int) := by omega
    have HI := Lib.hid (show k < 8 * s.length by rw [HN.out]; exact hlt)
    have HI2 := Lib.hid (show k < (fillB s N k).length by rw [fillB_len]; omega)
    obtain ⟨c, hc⟩ : ∃ c, (bitsOf s).getD k false = c := ⟨_, rfl⟩
    have HC := Lib.hid hc
    clear hc
    go_wp2_with (go_at_call 53; (with_reducible refine (ref05_bitQ s k HI.out HS.out c HC.out H.out).mono ?_); rintro e wn ⟨rfl, h⟩; replace H := Lib.hid h; clear h; have c0 := H.out.bitCell k HI2.out _ rfl; have f0 := H.out.rawFree k)
    go_roundw
    case rel =>
     have e : fillB s N (k + 1) = (fillB s N k).set k c := by rw [← HC.out]; rfl
     exact ⟨k + 1, hlt, by go_num, by rw [e]; exact H.out.bitSet k c _ rfl⟩
    case measure => first | (simp [intOf]; done) | (simp [intOf]; omega)
  · obtain rfl : n = k := by omega
    have h := H.out
    have e : fillB s N n = rowOf s := by have := fillB_row s n HN.out; rw [HN2.out] at this; exact this
    rw [e] at h
    have HRL := Lib.hid (show (rowOf s).length = N by rw [rowOf_len, HN.out, HN2.out])
    clear H
    have H := Lib.hid h
    clear h
    clear hlt e hk
    have hN2 : (32 : Int) ≤ (N : Int) := by omega
    go_wp2
    go_loopw [6] (fun iv wr => ∃ k : Nat, k ≤ 32 ∧ iv = .int .i64 k ∧ St W0 wr K (.raw bL (cellsB (turned k (rowOf s))) 3 :: L)) (fun iv _ => 32 - (intOf iv).toNat)
    case atStart => exact ⟨0, Nat.zero_le _, rfl, H.out⟩
    case round =>
     obtain ⟨k, hk, rfl, hst⟩ := hrel
     clear H
     have H := Lib.hid hst
     clear hst
     by_cases hlt : k < 32
     · have hki : (k : Int) < 32 := by omega
       have hkN : (k : Int) < (N : Int) := by omega
       obtain ⟨c, hc⟩ : ∃ c, (turned k (rowOf s)).getD k false = c := ⟨_, rfl⟩
       have hkl : k < (turned k (rowOf s)).length := by rw [turned_len, HRL.out]; omega
       have c0 := H.out.bitCell k hkl c hc
       have f0 := H.out.rawFree k
       have HE := Lib.hid (show turned (k + 1) (rowOf s) = (turned k (rowOf s)).set k (!c) by rw [← hc]; rfl)
       clear hc hkl
       cases c
       all_goals
        simp only [bitN, Bool.false_eq_true, if_false, if_true] at c0
        go_wp2
        go_roundw
        case rel => exact ⟨k + 1, hlt, by go_num, by rw [HE.out]; exact H.out.bitSet k _ _ rfl⟩
        case measure => first | (simp [intOf]; done) | (simp [intOf]; omega)
     · obtain rfl : k = 32 := by omega
       obtain ⟨M, hM⟩ : ∃ M, turned 32 (rowOf s) = M := ⟨_, rfl⟩
       have h := H.out
       rw [hM] at h
       have HML := Lib.hid (show M.length = N by rw [← hM, turned_len]; exact HRL.out)
       have HM := Lib.hid hM
       clear H hlt hk hM
       have H := Lib.hid h
       clear h
       go_wp2
       go_loopw [7] (fun iv wr => ∃ k : Nat, k ≤ n ∧ iv = .int .i64 k ∧ St W0 wr K (.raw bL (cellsB (outer M k)) 3 :: L)) (fun iv _ => n - (intOf iv).toNat)
       case atStart => exact ⟨0, Nat.zero_le _, rfl, H.out⟩
       case round =>
        obtain ⟨i, hi, rfl, hst⟩ := hrel
        clear H
        have H := Lib.hid hst
        clear hst
        by_cases hlt : i < n
        · have hki : (i : Int) < (n : Int) := by omega
          have hkN : (i : Int) < (N : Int) := by omega
          obtain ⟨c, hc⟩ : ∃ c, (outer M i).getD i false = c := ⟨_, rfl⟩
          have c0 := H.out.bitCell i (by rw [outer_len, HML.out]; omega) c hc
          cases c
          · have HE := Lib.hid (show outer M (i + 1) = outer M i by show (if (outer M i).getD i false then _ else _ : List Bool) = _; rw [hc]; rfl)
            clear hc
            simp only [bitN, Bool.false_eq_true, if_false, if_true] at c0
            go_wp2
            go_roundw
            case rel => exact ⟨i + 1, hlt, by go_num, by rw [HE.out]; exact H.out⟩
            case measure => first | (simp [intOf]; done) | (simp [intOf]; omega)
          · have HE := Lib.hid (show outer M (i + 1) = inner (outer M i) i 32 by show (if (outer M i).getD i false then _ else _ : List Bool) = _; rw [hc]; rfl)
            clear hc
            simp only [bitN, Bool.false_eq_true, if_false, if_true] at c0
            obtain ⟨B, hB⟩ : ∃ B, outer M i = B := ⟨_, rfl⟩
            have h := H.out
            rw [hB] at HE h
            have HBL := Lib.hid (show B.length = N by rw [← hB, outer_len]; exact HML.out)
            clear H hB
            have H := Lib.hid h
            clear h
            go_wp2
            clear c0
            go_loopw [8] (fun kv wr => ∃ q : Nat, q ≤ 32 ∧ kv = .int .i64 ((q : Int) + 1) ∧ St W0 wr K (.raw bL (cellsB (inner B i q)) 3 :: L)) (fun kv _ => 33 - (intOf kv).toNat)
            case atStart => exact ⟨0, Nat.zero_le _, rfl, H.out⟩
            case round =>
             obtain ⟨q, hq, rfl, hst⟩ := hrel
             clear H
             have H := Lib.hid hst
             clear hst
             by_cases hlt2 : q < 32
             · obtain ⟨p, hp⟩ : ∃ p, 31 - q = p := ⟨_, rfl⟩
               obtain ⟨x, hx⟩ : ∃ x, i + (q + 1) = x := ⟨_, rfl⟩
               obtain ⟨kk, hkk⟩ : ∃ kk, q + 1 = kk := ⟨_, rfl⟩
               have e1 : (q : Int) + 1 = (kk : Int) := by omega
               rw [e1]
               have e2 : (i : Int) + (kk : Int) = (x : Int) := by omega
               have e3 : (32 : Int) - (kk : Int) = (p : Int) := by omega
               have b1 : (kk : Int) ≤ 32 := by omega
               have b2 : (x : Int) < (N : Int) := by omega
               have b3 : (p : Int) < 32 := by omega
               have HX := Lib.hid (show x < (inner B i q).length by rw [inner_len, HBL.out]; omega)
               obtain ⟨a, ha⟩ : ∃ a, (inner B i q).getD x false = a := ⟨_, rfl⟩
               obtain ⟨d, hd⟩ : ∃ d, pw p = d := ⟨_, rfl⟩
               have HP := Lib.hid (show p < 32 by omega)
               have HA := Lib.hid ha
               have HD := Lib.hid hd
               have HN3 := Lib.hid (show inner B i (q + 1) = (inner B i q).set x (a ^^ d) by
                 show (inner B i q).set (i + (q + 1)) ((inner B i q).getD (i + (q + 1)) false ^^ pw (31 - q)) = _
                 rw [hx, hp, ha, hd])
               have HQ := Lib.hid e1
               have h1 : (bitN a : Int) ≤ 1 := by cases a <;> decide
               have h2 : (bitN d : Int) ≤ 1 := by cases d <;> decide
               have h3 : ((bitN a : Int) + (bitN d : Int)).tmod 2 = (bitN (a ^^ d) : Int) := by cases a <;> cases d <;> rfl
               obtain ⟨va, hva⟩ : ∃ v, bitN a = v := ⟨_, rfl⟩
               obtain ⟨vd, hvd⟩ : ∃ v, bitN d = v := ⟨_, rfl⟩
               obtain ⟨vx, hvx⟩ : ∃ v, bitN (a ^^ d) = v := ⟨_, rfl⟩
               rw [hva] at h1 h3
               rw [hvd] at h2 h3
               rw [hvx] at h3
               have HVA := Lib.hid hva
               have HVD := Lib.hid hvd
               have HVX := Lib.hid (show ((bitN (a ^^ d) : Nat) : Int) = (vx : Int) by rw [hvx])
               have w1 : IntKind.i64.wrap (x : Int) = (x : Int) := IntWalk.i64_in _ (by omega)
               have w2 : IntKind.i64.wrap (p : Int) = (p : Int) := IntWalk.i64_in _ (by omega)
               have w3 : IntKind.i64.wrap ((va : Int) + (vd : Int)) = (va : Int) + (vd : Int) := IntWalk.i64_in _ (by omega)
               have h4 : ((bitN (a ^^ d) : Nat) : Int) ≤ 1 := by cases a <;> cases d <;> decide
               rw [HVX.out] at h4
               have w4 : IntKind.i64.wrap (vx : Int) = (vx : Int) := IntWalk.i64_in _ (by omega)
               clear hp hx hkk ha hd hva hvd hvx
               go_upto_region 18 with (fail)
               have hs := H.out.drew
               refine wp_region_held_drew (S := fun _ => True) (by kernel_rfl) trivial (fun hHeld => ?_)
               refine tQ 0 ⟨some 54, .move (.tmp 4), 40, "ref.go:37", #[], none⟩ ?_; simp only [Act.put, sA, sB, sC]
               refine tQ 1 ⟨some 55, .move (.tmp 7), 3, "ref.go:37", #[], none⟩ ?_; simp only [Act.put, sA, sB, sC]
               refine tQ 2 ⟨some 56, .move (.tmp 8), 3, "ref.go:37", #[], none⟩ ?_; simp only [Act.put, sA, sB, sC]
               refine tQ 3 ⟨some 57, .binOp .add 3 (.tmp 55) (.tmp 56) 3, 3, "ref.go:37", #[.mk 1 .data, .mk 2 .data], none⟩ ?_; simp only [Act.put, sA, sB, sC]
               refine tQ 4 ⟨some 58, .move (.tmp 4), 40, "ref.go:37", #[], none⟩ ?_; simp only [Act.put, sA, sB, sC]
               refine tQ 5 ⟨some 59, .move (.tmp 7), 3, "ref.go:37", #[], none⟩ ?_; simp only [Act.put, sA, sB, sC]
               refine tQ 6 ⟨some 60, .move (.tmp 8), 3, "ref.go:37", #[], none⟩ ?_; simp only [Act.put, sA, sB, sC]
               refine tQ 7 ⟨some 61, .binOp .add 3 (.tmp 59) (.tmp 60) 3, 3, "ref.go:37", #[.mk 5 .data, .mk 6 .data], none⟩ ?_; simp only [Act.put, sA, sB, sC]
               refine tQ 8 ⟨some 62, .indexAddr 40 (.tmp 58) (.tmp 61), 0, "ref.go:37", #[.mk 4 .data, .mk 7 .data], none⟩ ?_; simp only [Act.put, sA, sB, sC]
               refine tQ 10 ⟨some 64, .move (.tmp 8), 3, "ref.go:37", #[], none⟩ ?_; simp only [Act.put, sA, sB, sC]
               refine tQ 11 ⟨some 65, .binOp .sub 3 (.const (Value.int IntKind.i64 32)) (.tmp 64) 3, 3, "ref.go:37", #[.mk 10 .data], none⟩ ?_; simp only [Act.put, sA, sB, sC]
               refine wpAnyH_ready (rs := [9, 12]) (by kernel_rfl) (by simp) (AllReadyH.cons (o := ⟨some 63, .load 3 (.tmp 62), 3, "ref.go:37", #[.mk 8 .data], none⟩) rfl (fun KK hK => ?_) (AllReadyH.cons (o := ⟨some 66, .call { callee := .value (.func 54), args := #[.tmp 65], argTypes := #[3] }, 3, "ref.go:37", #[.mk 11 .data], none⟩) rfl (fun KK hK => ?_) AllReadyH.nil))
               · have c0 := hs.bitCell x HX.out a HA.out
                 rw [HVA.out] at c0
                 go_simp
                 refine hK.out _ _ (trivial) (fun hHeld => ?_)
                 clear hK KK
                 try simp only [Act.put, sA, sB, sC]
                 refine wpAnyH_ready (rs := [12]) (by kernel_rfl) (by simp) (AllReadyH.cons (o := ⟨some 66, .call { callee := .value (.func 54), args := #[.tmp 65], argTypes := #[3] }, 3, "ref.go:37", #[.mk 11 .data], none⟩) rfl (fun KK hK => ?_) AllReadyH.nil)
                 · go_simp
                   go_at_call 54
                   with_reducible refine (ref05_powerQ p HP.out d HD.out hs).mono ?_
                   rw [HVD.out]
                   rintro e wq ⟨rfl, hs⟩
                   refine hK.out _ _ (trivial) (fun hHeld => ?_)
                   clear hK KK
                   try simp only [Act.put, sA, sB, sC]
                   refine tQ 13 ⟨some 67, .binOp .add 3 (.tmp 63) (.tmp 66) 3, 3, "ref.go:37", #[.mk 9 .data, .mk 12 .data], none⟩ ?_; simp only [Act.put, sA, sB, sC]
                   refine tQ 14 ⟨some 68, .binOp .rem 3 (.tmp 67) (.const (Value.int IntKind.i64 2)) 3, 3, "ref.go:37", #[.mk 13 .data], none⟩ ?_; simp only [Act.put, sA, sB, sC]
                   refine tQ 15 ⟨some 69, .indexAddr 40 (.tmp 54) (.tmp 57), 0, "ref.go:37", #[.mk 0 .data, .mk 3 .data, .mk 0 .phase, .mk 1 .phase, .mk 2 .phase, .mk 3 .phase, .mk 4 .phase, .mk 5 .phase, .mk 6 .phase, .mk 7 .phase, .mk 8 .phase, .mk 9 .phase, .mk 10 .phase, .mk 11 .phase, .mk 12 .phase, .mk 13 .phase, .mk 14 .phase], none⟩ ?_; simp only [Act.put, sA, sB, sC]
                   refine wpAnyH_ready (rs := [16]) (by kernel_rfl) (by simp) (AllReadyH.cons (o := ⟨none, .store 3 (.tmp 69) (.tmp 68), 0, "ref.go:37", #[.mk 15 .data, .mk 14 .data, .mk 12 .chain, .mk 0 .phase, .mk 1 .phase, .mk 2 .phase, .mk 3 .phase, .mk 4 .phase, .mk 5 .phase, .mk 6 .phase, .mk 7 .phase, .mk 8 .phase, .mk 9 .phase, .mk 10 .phase, .mk 11 .phase, .mk 12 .phase, .mk 13 .phase, .mk 14 .phase], none⟩) rfl (fun KK hK => ?_) AllReadyH.nil)
                   · have f0 := hs.rawFree x
                     have c0 := hs.bitCell x HX.out a HA.out
                     go_simp
                     refine hK.out _ _ (trivial) (fun hHeld => ?_)
                     clear hK KK
                     try simp only [Act.put, sA, sB, sC]
                     have hs := hs.bitSet x (a ^^ d) (vx : Int) HVX.out
                     refine wpAnyH_done (by kernel_rfl) ?_ _
                     rw [← HN3.out] at hs
                     go_wp2_with fail
                     go_roundw
                     case rel =>
                      clear hHeld c0 f0
                      exact ⟨_, _, _, _, _, _, _, _, _, _, _, _, _, _, _, _, _, _, _, _, _, ⟨q + 1, hlt2, by rw [← HQ.out]; go_num, hs⟩, rfl⟩
                     case measure => first | (simp [intOf]; done) | (simp [intOf]; omega)
               · go_simp
                 go_at_call 54
                 with_reducible refine (ref05_powerQ p HP.out d HD.out hs).mono ?_
                 rw [HVD.out]
                 rintro e wq ⟨rfl, hs⟩
                 refine hK.out _ _ (trivial) (fun hHeld => ?_)
                 clear hK KK
                 try simp only [Act.put, sA, sB, sC]
                 refine wpAnyH_ready (rs := [9]) (by kernel_rfl) (by simp) (AllReadyH.cons (o := ⟨some 63, .load 3 (.tmp 62), 3, "ref.go:37", #[.mk 8 .data], none⟩) rfl (fun KK hK => ?_) AllReadyH.nil)
                 · have c0 := hs.bitCell x HX.out a HA.out
                   rw [HVA.out] at c0
                   go_simp
                   refine hK.out _ _ (trivial) (fun hHeld => ?_)
                   clear hK KK
                   try simp only [Act.put, sA, sB, sC]
                   refine tQ 13 ⟨some 67, .binOp .add 3 (.tmp 63) (.tmp 66) 3, 3, "ref.go:37", #[.mk 9 .data, .mk 12 .data], none⟩ ?_; simp only [Act.put, sA, sB, sC]
                   refine tQ 14 ⟨some 68, .binOp .rem 3 (.tmp 67) (.const (Value.int IntKind.i64 2)) 3, 3, "ref.go:37", #[.mk 13 .data], none⟩ ?_; simp only [Act.put, sA, sB, sC]
                   refine tQ 15 ⟨some 69, .indexAddr 40 (.tmp 54) (.tmp 57), 0, "ref.go:37", #[.mk 0 .data, .mk 3 .data, .mk 0 .phase, .mk 1 .phase, .mk 2 .phase, .mk 3 .phase, .mk 4 .phase, .mk 5 .phase, .mk 6 .phase, .mk 7 .phase, .mk 8 .phase, .mk 9 .phase, .mk 10 .phase, .mk 11 .phase, .mk 12 .phase, .mk 13 .phase, .mk 14 .phase], none⟩ ?_; simp only [Act.put, sA, sB, sC]
                   refine wpAnyH_ready (rs := [16]) (by kernel_rfl) (by simp) (AllReadyH.cons (o := ⟨none, .store 3 (.tmp 69) (.tmp 68), 0, "ref.go:37", #[.mk 15 .data, .mk 14 .data, .mk 12 .chain, .mk 0 .phase, .mk 1 .phase, .mk 2 .phase, .mk 3 .phase, .mk 4 .phase, .mk 5 .phase, .mk 6 .phase, .mk 7 .phase, .mk 8 .phase, .mk 9 .phase, .mk 10 .phase, .mk 11 .phase, .mk 12 .phase, .mk 13 .phase, .mk 14 .phase], none⟩) rfl (fun KK hK => ?_) AllReadyH.nil)
                   · have f0 := hs.rawFree x
                     have c0 := hs.bitCell x HX.out a HA.out
                     go_simp
                     refine hK.out _ _ (trivial) (fun hHeld => ?_)
                     clear hK KK
                     try simp only [Act.put, sA, sB, sC]
                     have hs := hs.bitSet x (a ^^ d) (vx : Int) HVX.out
                     refine wpAnyH_done (by kernel_rfl) ?_ _
                     rw [← HN3.out] at hs
                     go_wp2_with fail
                     go_roundw
                     case rel =>
                      clear hHeld c0 f0
                      exact ⟨_, _, _, _, _, _, _, _, _, _, _, _, _, _, _, _, _, _, _, _, _, ⟨q + 1, hlt2, by rw [← HQ.out]; go_num, hs⟩, rfl⟩
                     case measure => first | (simp [intOf]; done) | (simp [intOf]; omega)
             · obtain rfl : q = 32 := by omega
               have h := H.out
               rw [← HE.out] at h
               clear H
               have H := Lib.hid h
               clear h
               go_wp2
               go_roundw
               case rel => exact ⟨i + 1, hlt, by go_num, H.out⟩
               case measure => first | (simp [intOf]; done) | (simp [intOf]; omega)
        · obtain rfl : n = i := by omega
          have HF := Lib.hid (show readOut (fun j => !(outer M n).getD (n + j) false) 32 = (crcMore 0#32 s).toNat by
            have := divided_sum s
            unfold divided at this
            rw [HN.out, HM.out] at this
            exact this)
          obtain ⟨D, hD⟩ : ∃ D, outer M n = D := ⟨_, rfl⟩
          have h := H.out
          rw [hD] at HF h
          have HDL := Lib.hid (show D.length = N by rw [← hD, outer_len]; exact HML.out)
          clear H hD
          have H := Lib.hid h
          clear h hlt
          go_wp2
          go_loopw [10, 9] (fun iv ov wr => ∃ j : Nat, j ≤ 32 ∧ iv = .int .i64 ((j : Int) - 1) ∧ ov = .int .u32 (readOut (fun j => !D.getD (n + j) false) (32 - j) : Nat) ∧ St W0 wr K (.raw bL (cellsB (D)) 3 :: L)) (fun iv _ _ => (intOf iv + 1).toNat)
          case atStart => exact ⟨32, Nat.le_refl _, rfl, rfl, H.out⟩
          case round =>
            obtain ⟨j, hj, rfl, rfl, hst⟩ := hrel
            clear H
            have H := Lib.hid hst
            clear hst
            match j with
            | 0 =>
             rw [show (((0 : Nat) : Int) - 1) = -1 from rfl, show 32 - 0 = 32 from rfl, HF.out]
             go_wp2
             go_ret
             exact ⟨rfl, H.out.drop⟩
            | j + 1 =>
             rw [show (((j + 1 : Nat) : Int) - 1) = (j : Int) by omega]
             obtain ⟨x, hx⟩ : ∃ x, n + j = x := ⟨_, rfl⟩
             have e2 : (n : Int) + (j : Int) = (x : Int) := by omega
             have b2 : (x : Int) < (N : Int) := by omega
             have b1 : (j : Int) < 32 := by omega
             obtain ⟨c, hc⟩ : ∃ c, D.getD x false = c := ⟨_, rfl⟩
             have c0 := H.out.bitCell x (by rw [HDL.out]; have := HN2.out; omega) c hc
             obtain ⟨R, hR⟩ : ∃ R, readOut (fun j => !D.getD (n + j) false) (32 - (j + 1)) = R := ⟨_, rfl⟩
             have HR := Lib.hid (show readOut (fun j => !D.getD (n + j) false) (32 - j) = R * 2 + (if c then 0 else 1) by
               rw [show 32 - j = 32 - (j + 1) + 1 by omega]
               show readOut _ _ * 2 + (if !D.getD (n + (31 - (32 - (j + 1)))) false then 1 else 0) = _
               rw [hR, show 31 - (32 - (j + 1)) = j by omega, hx, hc]
               cases c <;> rfl)
             have hb : R < 2147483648 := by
               have h1 := readOut_lt (fun j => !D.getD (n + j) false) (32 - (j + 1))
               rw [hR] at h1
               have h2 : 2 ^ (32 - (j + 1)) ≤ 2 ^ 31 := Nat.pow_le_pow_right (by decide) (by omega)
               omega
             rw [hR]
             clear hx hc hR
             cases c
             all_goals
               simp only [bitN, Bool.false_eq_true, if_false, if_true] at c0 HR
               go_wp2
               go_roundw
               case rel => exact ⟨j, by omega, rfl, by rw [HR.out]; go_num, H.out⟩
               case measure => first | (simp [intOf]; done) | (simp [intOf]; omega)
theorem ref05_sumX (s : Bs) (hs : s.length ≤ 1000000) (x : Nat) (hx : (crcMore 0#32 s).toNat = x) {W0 w : World} {K : Know} {L : List Res} (h : St W0 w K L) :
  Calls Tryz.prog 29 #[.string (bb s)] w fun en w' => en = .returned (.int .u32 x) ∧ St W0 w' K L := by
 subst hx
 exact ref05_sumW s hs h
structure EndS where
  n1 : Int
  n2 : Int
  n3 : Int
  n4 : Int
  n5 : Int
def EndS.R (x : EndS) : Prop := Rn x.n1 ∧ Rn x.n2 ∧ Rn x.n3 ∧ Rn x.n4 ∧ Rn x.n5
def batcells (x : BatR) : List Value := [.int .i64 x.b.base, .int .i64 x.b.leader, .bool x.b.app, .bool x.b.txn, .bool x.b.ctl, .int .i64 x.b.last, .int .i64 x.b.first, .int .i64 x.b.maxt, .int .i64 x.b.prod, .int .i64 x.b.epoch, .int .i64 x.b.seq, .slice x.q x.l.length x.cap]
structure Good1 (x : BatR) : Prop where
  so : SmallOk x.b
  recs : x.l.map (·.1) = x.b.recs
  len : x.b.enc.length ≤ 14000
  told : x.b.ctl = true → (endOf x.b).2.2.2.2.2 = true
theorem elem_bat : ElemT Tryz.prog 43 (.agg #[.int .i64 0, .int .i64 0, .bool false, .bool false, .bool false, .int .i64 0, .int .i64 0, .int .i64 0, .int .i64 0, .int .i64 0, .int .i64 0, .slice none 0 0]) 12 96 := elemT_of (by kernel_rfl) rfl (by decide)
def noneB : BatS := ⟨0, 0, false, false, false, 0, 0, 0, -1, -1, -1, []⟩
theorem so_none : SmallOk noneB where
 fit := fun x hx => by cases hx
 len := by decide
 err := by decide +kernel
 rng := by unfold BatS.R noneB Rn; decide
theorem encode_none (s : Bs) (hs : noneB.enc = s) {W0 w : World} {K : Know} {L : List Res} (h : St W0 w K L) :
  Calls Tryz.prog 16 #[.agg #[.int .i64 0, .int .i64 0, .bool false, .bool false, .bool false, .int .i64 0, .int .i64 0, .int .i64 0, .int .i64 (-1), .int .i64 (-1), .int .i64 (-1), .slice none 0 0]] w fun en w' => en = .returned (.tuple #[.string (bb s), .int .i64 0]) ∧ St W0 w' K L := by
 subst hs
 exact bat_encode_enc noneB [] none 0 rfl so_none (recs_nilK K) h
def Reads (v0 : Value) (n0 : Nat) (s0 : Bs) (R : Bs) (v : Value) : Prop :=
  (v = .slice none 0 0 ∧ R = []) ∨ ∃ ad c, v = .slice (some ad) R.length c ∧ R.length ≤ c ∧ ∀ (W0 w : World) (K : Know) (L : List Res), St W0 w K (.row v0 5 1 n0 (bvals s0) :: L) → ∀ k, k ≤ R.length → ∀ c', (convert 22 9 (.slice (some ad) k c')).run Tryz.prog w = .ok (.string (bb (R.take k))) w
theorem first_none_any {v0 : Value} {n0 : Nat} {s0 : Bs} (R : Bs) (v : Value) (hv : Reads v0 n0 s0 R v) (hr : R.length ≤ 1000000) (hf : firstS R = .ok none) {W0 w : World} {K : Know} {L : List Res} (h : St W0 w K (.row v0 5 1 n0 (bvals s0) :: L)) :
  Calls Tryz.prog 20 #[v] w fun en w' => en = .returned (.tuple #[.agg #[.int .i64 0, .int .i64 0, .bool false, .bool false, .bool false, .int .i64 0, .int .i64 0, .int .i64 0, .int .i64 0, .int .i64 0, .int .i64 0, .slice none 0 0], .int .i64 0, .int .i64 0]) ∧ St W0 w' K (.row v0 5 1 n0 (bvals s0) :: L) := by
 rcases hv with ⟨rfl, _⟩ | ⟨ad, c, rfl, hc, hcv⟩
 · exact first_none h
 unfold firstS at hf
 by_cases c1 : R.length < 61
 · exact first_short ad R.length c R rfl hc hr hcv c1 h
 rw [if_neg c1] at hf
 cases hp : rePre R with
 | error e => rw [hp] at hf; cases hf
 | ok x =>
  rw [hp] at hf
  simp only at hf
  by_cases c2 : R.length < 61 + (x.len - 49).toNat
  · exact first_torn ad R.length c R rfl hc hr hcv c1 x hp c2 h
  rw [if_neg c2] at hf
  cases ha : asmB x (R.take 61) ((R.drop 61).take (x.len - 49).toNat) with
  | error e => rw [ha] at hf; cases hf
  | ok b => rw [ha] at hf; cases hf
theorem first_err_any {v0 : Value} {n0 : Nat} {s0 : Bs} (R : Bs) (v : Value) (hv : Reads v0 n0 s0 R v) (hr : R.length ≤ 1000000) (e : Int) (hf : firstS R = .error e) {W0 w : World} {K : Know} {L : List Res} (h : St W0 w K (.row v0 5 1 n0 (bvals s0) :: L)) :
  Calls Tryz.prog 20 #[v] w fun en w' => ∃ n : Nat, en = .returned (.tuple #[.agg #[.int .i64 0, .int .i64 0, .bool false, .bool false, .bool false, .int .i64 0, .int .i64 0, .int .i64 0, .int .i64 0, .int .i64 0, .int .i64 0, .slice none 0 0], .int .i64 n, .int .i64 e]) ∧ St W0 w' K (.row v0 5 1 n0 (bvals s0) :: L) := by
 unfold firstS at hf
 by_cases c1 : R.length < 61
 · rw [if_pos c1] at hf; cases hf
 rcases hv with ⟨_, rfl⟩ | ⟨ad, c, rfl, hc, hcv⟩
 · exact absurd (by decide) c1
 rw [if_neg c1] at hf
 cases hp : rePre R with
 | error e2 =>
  rw [hp] at hf
  cases hf
  exact (first_pre ad R.length c R rfl hc hr hcv c1 e hp h).mono fun _ _ hh => ⟨0, hh⟩
 | ok x =>
  rw [hp] at hf
  simp only at hf
  by_cases c2 : R.length < 61 + (x.len - 49).toNat
  · rw [if_pos c2] at hf; cases hf
  rw [if_neg c2] at hf
  cases ha : asmB x (R.take 61) ((R.drop 61).take (x.len - 49).toNat) with
  | error e2 =>
   rw [ha] at hf
   cases hf
   have hb := reBat_take hp (by omega)
   rw [ha] at hb
   exact (first_bad ad R.length c R rfl hc hr hcv c1 x hp _ rfl (by omega) e hb h).mono fun _ _ hh => ⟨_, hh⟩
  | ok b => rw [ha] at hf; cases hf
theorem first_some_any {v0 : Value} {n0 : Nat} {s0 : Bs} (R : Bs) (v : Value) (hv : Reads v0 n0 s0 R v) (hr : R.length ≤ 1000000) (b : BatS) (n : Nat) (hf : firstS R = .ok (some (b, n))) {W0 w : World} {K : Know} {L : List Res} (h : St W0 w K (.row v0 5 1 n0 (bvals s0) :: L)) :
  Calls Tryz.prog 20 #[v] w fun en w' => ∃ (q : Option Addr) (l : List (RecS × Value)) (cap2 : Nat), en = .returned (.tuple #[.agg #[.int .i64 b.base, .int .i64 b.leader, .bool b.app, .bool b.txn, .bool b.ctl, .int .i64 b.last, .int .i64 b.first, .int .i64 b.maxt, .int .i64 b.prod, .int .i64 b.epoch, .int .i64 b.seq, .slice q l.length cap2], .int .i64 n, .int .i64 0]) ∧ l.map (·.1) = b.recs ∧ St W0 w' (K.and (Know.recs (.slice q l.length cap2) l)) (.row v0 5 1 n0 (bvals s0) :: L) := by
 unfold firstS at hf
 by_cases c1 : R.length < 61
 · rw [if_pos c1] at hf; cases hf
 rcases hv with ⟨_, rfl⟩ | ⟨ad, c, rfl, hc, hcv⟩
 · exact absurd (by decide) c1
 rw [if_neg c1] at hf
 cases hp : rePre R with
 | error e2 => rw [hp] at hf; cases hf
 | ok x =>
  rw [hp] at hf
  simp only at hf
  by_cases c2 : R.length < 61 + (x.len - 49).toNat
  · rw [if_pos c2] at hf; cases hf
  rw [if_neg c2] at hf
  cases ha : asmB x (R.take 61) ((R.drop 61).take (x.len - 49).toNat) with
  | error e2 => rw [ha] at hf; cases hf
  | ok b2 =>
   rw [ha] at hf
   cases hf
   have hb := reBat_take hp (by omega)
   rw [ha] at hb
   exact first_good ad R.length c R rfl hc hr hcv c1 x hp _ rfl (by omega) b hb h
def LiteR (x : BatR) : Prop := x.l.map (·.1) = x.b.recs ∧ LiteB 1000000 x.b
theorem bats_know {K : Know} {v : Value} {l : List BatR} (h1 : K.has (Know.flat RBat v 12 l)) (h2 : ∀ x ∈ l, K.has (Know.recs (.slice x.q x.l.length x.cap) x.l)) : K.has (Know.bats v l) := fun w F h => ⟨h1 w F h, fun x hx => h2 x hx w F h⟩
theorem bats_nilS (K : Know) : K.has (Know.bats (.slice none 0 0) []) := bats_know (fun _ _ _ => ⟨none, 0, rfl, fun h => absurd h (by simp)⟩) (fun x hx => by cases hx)
theorem St.freezeBats {W0 w : World} {K : Know} {L : List Res} {v : Value} {T : TypeId} {l : List BatR} (h : St W0 w K (.row v T 12 l.length (l.flatMap batcells) :: L)) (ht : ∀ x ∈ l, K.has (Know.recs (.slice x.q x.l.length x.cap) x.l)) : St W0 w (K.and (Know.bats v l)) L := by
 have hf := h.freezeRow (R := RBat) (fun x _ => ⟨rfl, rfl⟩)
 exact hf.know (K' := K.and (Know.bats v l)) (fun w F hh => ⟨hh.1, hh.2, fun x hx => ht x hx _ _ hh.1⟩)
def FeedJ (sb valid : Nat) (chunk T : Bs) (W0 : World) (K : Know) (L : List Res) (l : Nat) (a' : Act) (w' : World) : Prop :=
  (l = 0 ∧ ∃ (at_ : Nat) (lv v : Value) (acc : List BatR) (K2 : Know) (u : Nat → Value), a' = { tmps := ((.pointer (some ⟨sb, 0, none⟩) : Value) :: (.string (bb chunk) : Value) :: u 2 :: u 3 :: (.slice none 0 0 : Value) :: lv :: (.int .i64 at_ : Value) :: u 7 :: u 8 :: u 9 :: u 10 :: u 11 :: u 12 :: u 13 :: u 14 :: u 15 :: u 16 :: u 17 :: u 18 :: u 19 :: u 20 :: u 21 :: u 22 :: u 23 :: u 24 :: u 25 :: u 26 :: u 27 :: u 28 :: u 29 :: u 30 :: u 31 :: u 32 :: u 33 :: u 34 :: u 35 :: u 36 :: u 37 :: u 38 :: u 39 :: u 40 :: u 41 :: u 42 :: u 43 :: u 44 :: u 45 :: u 46 :: u 47 :: u 48 :: u 49 :: u 50 :: u 51 :: u 52 :: u 53 :: u 54 :: u 55 :: u 56 :: u 57 :: u 58 :: u 59 :: u 60 :: u 61 :: u 62 :: u 63 :: u 64 :: u 65 :: u 66 :: u 67 :: u 68 :: u 69 :: u 70 :: u 71 :: u 72 :: u 73 :: u 74 :: u 75 :: u 76 :: u 77 :: u 78 :: u 79 :: u 80 :: u 81 :: u 82 :: u 83 :: u 84 :: u 85 :: u 86 :: []).toArray, defers := [] } ∧ at_ ≤ T.length ∧ scanS T = (acc.map BatR.b ++ (scanS (T.drop at_)).1, (scanS (T.drop at_)).2) ∧ K2.has K ∧ (∀ x ∈ acc, K2.has (Know.recs (.slice x.q x.l.length x.cap) x.l)) ∧ (∀ x ∈ acc, LiteR x) ∧ 61 * acc.length ≤ at_ ∧ St W0 w' K2 (.row lv 43 12 acc.length (acc.flatMap batcells) :: .raw sb #[.int .i64 valid, v, .int .i64 0] 52 :: .row (v) 5 1 T.length (bvals T) :: L)) ∨
  (l = 1 ∧ ∃ (at_ : Nat) (lv v : Value) (acc : List BatR) (K2 : Know) (e : Int) (u : Nat → Value), a' = { tmps := ((.pointer (some ⟨sb, 0, none⟩) : Value) :: (.string (bb chunk) : Value) :: u 2 :: u 3 :: (.slice none 0 0 : Value) :: lv :: (.int .i64 at_ : Value) :: u 7 :: u 8 :: (.int .i64 e : Value) :: u 10 :: u 11 :: u 12 :: u 13 :: u 14 :: u 15 :: u 16 :: u 17 :: u 18 :: u 19 :: u 20 :: u 21 :: u 22 :: u 23 :: u 24 :: u 25 :: u 26 :: u 27 :: u 28 :: u 29 :: u 30 :: u 31 :: u 32 :: u 33 :: u 34 :: u 35 :: u 36 :: u 37 :: u 38 :: u 39 :: u 40 :: u 41 :: u 42 :: u 43 :: u 44 :: u 45 :: u 46 :: u 47 :: u 48 :: u 49 :: u 50 :: u 51 :: u 52 :: u 53 :: u 54 :: u 55 :: u 56 :: u 57 :: u 58 :: u 59 :: u 60 :: u 61 :: u 62 :: u 63 :: u 64 :: u 65 :: u 66 :: u 67 :: u 68 :: u 69 :: u 70 :: u 71 :: u 72 :: u 73 :: u 74 :: u 75 :: u 76 :: u 77 :: u 78 :: u 79 :: u 80 :: u 81 :: u 82 :: u 83 :: u 84 :: u 85 :: u 86 :: []).toArray, defers := [] } ∧ at_ ≤ T.length ∧ scanS T = (acc.map BatR.b, T.drop at_, e) ∧ K2.has K ∧ (∀ x ∈ acc, K2.has (Know.recs (.slice x.q x.l.length x.cap) x.l)) ∧ (∀ x ∈ acc, LiteR x) ∧ 61 * acc.length ≤ at_ ∧ St W0 w' K2 (.row lv 43 12 acc.length (acc.flatMap batcells) :: .raw sb #[.int .i64 valid, v, .int .i64 0] 52 :: .row (v) 5 1 T.length (bvals T) :: L))
def FeedM (T : Bs) (l : Nat) (a : Act) (_ : World) : Nat := if l = 0 then T.length + 1 - (intOf (a.tmps.getD 6 undef)).toNat else 0

theorem FeedM_lt1 {T : Bs} {a a' : Act} {w w' : World} {at_ : Nat} (h : FeedM T 0 a w = T.length + 1 - at_) (h2 : at_ ≤ T.length) : FeedM T 1 a' w' < FeedM T 0 a w := by
 rw [h]
 show 0 < _
 omega
theorem FeedM_lt0 {T : Bs} {a a' : Act} {w w' : World} {at_ n : Nat} (h : FeedM T 0 a w = T.length + 1 - at_) (h2 : at_ ≤ T.length) (h3 : 0 < n) (h4 : FeedM T 0 a' w' = T.length + 1 - (at_ + n)) : FeedM T 0 a' w' < FeedM T 0 a w := by
 rw [h, h4]
 omega

theorem FeedJ.elim0 {sb valid : Nat} {chunk T : Bs} {W0 : World} {K : Know} {L : List Res} {a' : Act} {w' : World} {P : Act → World → Prop} (h : FeedJ sb valid chunk T W0 K L 0 a' w')
    (go : ∀ (at_ : Nat) (lv v : Value) (acc : List BatR) (K2 : Know) (u : Nat → Value), at_ ≤ T.length → scanS T = (acc.map BatR.b ++ (scanS (T.drop at_)).1, (scanS (T.drop at_)).2) → K2.has K → (∀ x ∈ acc, K2.has (Know.recs (.slice x.q x.l.length x.cap) x.l)) → (∀ x ∈ acc, LiteR x) → 61 * acc.length ≤ at_ → St W0 w' K2 (.row lv 43 12 acc.length (acc.flatMap batcells) :: .raw sb #[.int .i64 valid, v, .int .i64 0] 52 :: .row (v) 5 1 T.length (bvals T) :: L) → FeedM T 0 a' w' = T.length + 1 - at_ → P { tmps := ((.pointer (some ⟨sb, 0, none⟩) : Value) :: (.string (bb chunk) : Value) :: u 2 :: u 3 :: (.slice none 0 0 : Value) :: lv :: (.int .i64 at_ : Value) :: u 7 :: u 8 :: u 9 :: u 10 :: u 11 :: u 12 :: u 13 :: u 14 :: u 15 :: u 16 :: u 17 :: u 18 :: u 19 :: u 20 :: u 21 :: u 22 :: u 23 :: u 24 :: u 25 :: u 26 :: u 27 :: u 28 :: u 29 :: u 30 :: u 31 :: u 32 :: u 33 :: u 34 :: u 35 :: u 36 :: u 37 :: u 38 :: u 39 :: u 40 :: u 41 :: u 42 :: u 43 :: u 44 :: u 45 :: u 46 :: u 47 :: u 48 :: u 49 :: u 50 :: u 51 :: u 52 :: u 53 :: u 54 :: u 55 :: u 56 :: u 57 :: u 58 :: u 59 :: u 60 :: u 61 :: u 62 :: u 63 :: u 64 :: u 65 :: u 66 :: u 67 :: u 68 :: u 69 :: u 70 :: u 71 :: u 72 :: u 73 :: u 74 :: u 75 :: u 76 :: u 77 :: u 78 :: u 79 :: u 80 :: u 81 :: u 82 :: u 83 :: u 84 :: u 85 :: u 86 :: []).toArray, defers := [] } w') : P a' w' := by
  rcases h with ⟨_, at_, lv, v, acc, K2, u, rfl, h1, h2, h3, h4, h5, h6, h7⟩ | ⟨h, _⟩
  · exact go _ _ _ _ _ _ h1 h2 h3 h4 h5 h6 h7 rfl
  · cases h
theorem FeedJ.mk0 {sb valid : Nat} {chunk T : Bs} {W0 : World} {K : Know} {L : List Res} {a' : Act} {w' : World} (at_ : Nat) (lv v : Value) (acc : List BatR) (K2 : Know) (ha : a' = (fun u : Nat → Value => ({ tmps := ((.pointer (some ⟨sb, 0, none⟩) : Value) :: (.string (bb chunk) : Value) :: u 2 :: u 3 :: (.slice none 0 0 : Value) :: lv :: (.int .i64 at_ : Value) :: u 7 :: u 8 :: u 9 :: u 10 :: u 11 :: u 12 :: u 13 :: u 14 :: u 15 :: u 16 :: u 17 :: u 18 :: u 19 :: u 20 :: u 21 :: u 22 :: u 23 :: u 24 :: u 25 :: u 26 :: u 27 :: u 28 :: u 29 :: u 30 :: u 31 :: u 32 :: u 33 :: u 34 :: u 35 :: u 36 :: u 37 :: u 38 :: u 39 :: u 40 :: u 41 :: u 42 :: u 43 :: u 44 :: u 45 :: u 46 :: u 47 :: u 48 :: u 49 :: u 50 :: u 51 :: u 52 :: u 53 :: u 54 :: u 55 :: u 56 :: u 57 :: u 58 :: u 59 :: u 60 :: u 61 :: u 62 :: u 63 :: u 64 :: u 65 :: u 66 :: u 67 :: u 68 :: u 69 :: u 70 :: u 71 :: u 72 :: u 73 :: u 74 :: u 75 :: u 76 :: u 77 :: u 78 :: u 79 :: u 80 :: u 81 :: u 82 :: u 83 :: u 84 :: u 85 :: u 86 :: []).toArray, defers := [] } : Act)) (fun i => a'.tmps.getD i undef)) (h1 : at_ ≤ T.length) (h2 : scanS T = (acc.map BatR.b ++ (scanS (T.drop at_)).1, (scanS (T.drop at_)).2)) (h3 : K2.has K) (h4 : ∀ x ∈ acc, K2.has (Know.recs (.slice x.q x.l.length x.cap) x.l)) (h5 : ∀ x ∈ acc, LiteR x) (h6 : 61 * acc.length ≤ at_) (h7 : St W0 w' K2 (.row lv 43 12 acc.length (acc.flatMap batcells) :: .raw sb #[.int .i64 valid, v, .int .i64 0] 52 :: .row (v) 5 1 T.length (bvals T) :: L)) : FeedJ sb valid chunk T W0 K L 0 a' w' :=
 .inl ⟨rfl, at_, lv, v, acc, K2, (fun i => a'.tmps.getD i undef), ha, h1, h2, h3, h4, h5, h6, h7⟩

theorem FeedJ.elim1 {sb valid : Nat} {chunk T : Bs} {W0 : World} {K : Know} {L : List Res} {a' : Act} {w' : World} {P : Act → World → Prop} (h : FeedJ sb valid chunk T W0 K L 1 a' w')
    (go : ∀ (at_ : Nat) (lv v : Value) (acc : List BatR) (K2 : Know) (e : Int) (u : Nat → Value), at_ ≤ T.length → scanS T = (acc.map BatR.b, T.drop at_, e) → K2.has K → (∀ x ∈ acc, K2.has (Know.recs (.slice x.q x.l.length x.cap) x.l)) → (∀ x ∈ acc, LiteR x) → 61 * acc.length ≤ at_ → St W0 w' K2 (.row lv 43 12 acc.length (acc.flatMap batcells) :: .raw sb #[.int .i64 valid, v, .int .i64 0] 52 :: .row (v) 5 1 T.length (bvals T) :: L) → FeedM T 1 a' w' = 0 → P { tmps := ((.pointer (some ⟨sb, 0, none⟩) : Value) :: (.string (bb chunk) : Value) :: u 2 :: u 3 :: (.slice none 0 0 : Value) :: lv :: (.int .i64 at_ : Value) :: u 7 :: u 8 :: (.int .i64 e : Value) :: u 10 :: u 11 :: u 12 :: u 13 :: u 14 :: u 15 :: u 16 :: u 17 :: u 18 :: u 19 :: u 20 :: u 21 :: u 22 :: u 23 :: u 24 :: u 25 :: u 26 :: u 27 :: u 28 :: u 29 :: u 30 :: u 31 :: u 32 :: u 33 :: u 34 :: u 35 :: u 36 :: u 37 :: u 38 :: u 39 :: u 40 :: u 41 :: u 42 :: u 43 :: u 44 :: u 45 :: u 46 :: u 47 :: u 48 :: u 49 :: u 50 :: u 51 :: u 52 :: u 53 :: u 54 :: u 55 :: u 56 :: u 57 :: u 58 :: u 59 :: u 60 :: u 61 :: u 62 :: u 63 :: u 64 :: u 65 :: u 66 :: u 67 :: u 68 :: u 69 :: u 70 :: u 71 :: u 72 :: u 73 :: u 74 :: u 75 :: u 76 :: u 77 :: u 78 :: u 79 :: u 80 :: u 81 :: u 82 :: u 83 :: u 84 :: u 85 :: u 86 :: []).toArray, defers := [] } w') : P a' w' := by
  rcases h with ⟨h, _⟩ | ⟨_, at_, lv, v, acc, K2, e, u, rfl, h1, h2, h3, h4, h5, h6, h7⟩
  · cases h
  · exact go _ _ _ _ _ _ _ h1 h2 h3 h4 h5 h6 h7 rfl
theorem FeedJ.mk1 {sb valid : Nat} {chunk T : Bs} {W0 : World} {K : Know} {L : List Res} {a' : Act} {w' : World} (at_ : Nat) (lv v : Value) (acc : List BatR) (K2 : Know) (e : Int) (ha : a' = (fun u : Nat → Value => ({ tmps := ((.pointer (some ⟨sb, 0, none⟩) : Value) :: (.string (bb chunk) : Value) :: u 2 :: u 3 :: (.slice none 0 0 : Value) :: lv :: (.int .i64 at_ : Value) :: u 7 :: u 8 :: (.int .i64 e : Value) :: u 10 :: u 11 :: u 12 :: u 13 :: u 14 :: u 15 :: u 16 :: u 17 :: u 18 :: u 19 :: u 20 :: u 21 :: u 22 :: u 23 :: u 24 :: u 25 :: u 26 :: u 27 :: u 28 :: u 29 :: u 30 :: u 31 :: u 32 :: u 33 :: u 34 :: u 35 :: u 36 :: u 37 :: u 38 :: u 39 :: u 40 :: u 41 :: u 42 :: u 43 :: u 44 :: u 45 :: u 46 :: u 47 :: u 48 :: u 49 :: u 50 :: u 51 :: u 52 :: u 53 :: u 54 :: u 55 :: u 56 :: u 57 :: u 58 :: u 59 :: u 60 :: u 61 :: u 62 :: u 63 :: u 64 :: u 65 :: u 66 :: u 67 :: u 68 :: u 69 :: u 70 :: u 71 :: u 72 :: u 73 :: u 74 :: u 75 :: u 76 :: u 77 :: u 78 :: u 79 :: u 80 :: u 81 :: u 82 :: u 83 :: u 84 :: u 85 :: u 86 :: []).toArray, defers := [] } : Act)) (fun i => a'.tmps.getD i undef)) (h1 : at_ ≤ T.length) (h2 : scanS T = (acc.map BatR.b, T.drop at_, e)) (h3 : K2.has K) (h4 : ∀ x ∈ acc, K2.has (Know.recs (.slice x.q x.l.length x.cap) x.l)) (h5 : ∀ x ∈ acc, LiteR x) (h6 : 61 * acc.length ≤ at_) (h7 : St W0 w' K2 (.row lv 43 12 acc.length (acc.flatMap batcells) :: .raw sb #[.int .i64 valid, v, .int .i64 0] 52 :: .row (v) 5 1 T.length (bvals T) :: L)) : FeedJ sb valid chunk T W0 K L 1 a' w' :=
 .inr ⟨rfl, at_, lv, v, acc, K2, e, (fun i => a'.tmps.getD i undef), ha, h1, h2, h3, h4, h5, h6, h7⟩
theorem op_value {P : Program} {o : Oper} {a : Act} {w w' : World} {v : Value} {KK : Act → World → Prop} {Q : Exit → Act → World → Prop} (hr : (execOp a.eval o).run P w = .ok (.value v) w') (h : KK (a.put o.dst v) w') : o.wp P a w KK Q := by
 unfold Oper.wp
 rw [hr]
 exact h
theorem op_app1 {W0 w : World} {K : Know} {L : List Res} {o : Oper} {a : Act} {KK : Act → World → Prop} {Q : Exit → Act → World → Prop} (sl x : Operand) (t : TypeId)
    (ho : o.op = .call { callee := .builtin .append, args := #[sl, x], argTypes := #[t, t] })
    (e : TypeId) {z : Value} {size bytes : Nat} (ht : Tryz.prog.underlying t = some (.slice e)) (he : ElemT Tryz.prog e z size bytes)
    (v : Value) (n : Nat) (xs : List Value) (hs : a.eval sl = v) (bS : Nat) (cs : Array Value) (T : TypeId) (hst : St W0 w K (.raw bS cs T :: .row v e size n xs :: L))
    (hx : a.eval x = .slice (some ⟨bS, 0, none⟩) 1 1) (hl : cs.toList.length = size) (h1 : ∀ u ∈ cs.toList, u.oneCell' = true)
    (h63 : n + 1 ≤ maxLen) (hbytes : (n + 1) * bytes ≤ 140737488355328)
    (h : ∀ v' w', St W0 w' K (.row v' e size (n + 1) (xs ++ cs.toList) :: L) → KK (a.put o.dst v') w') : o.wp Tryz.prog a w KK Q := by
  have hc := hst.rawCell
  have hst2 := hst.p1
  obtain ⟨⟨i, g1, g2, g3, g4⟩, g5, g6⟩ := he
  obtain ⟨v', w', hr, h2, h3, h4⟩ := app_val (P := Tryz.prog) w t o.type e i z size bytes ht g1 g2 g3 g4 g5 g6 v n xs hst2.rowGet ⟨bS, 0, none⟩ 1 1 cs.toList (by omega) (fun j u hj => by
    have ha : (⟨bS, 0, none⟩ : Addr).add j = ⟨bS, j, none⟩ := by unfold Addr.add; split <;> simp_all
    rw [ha, hc j]
    simpa using hj) h1 h63 hbytes
  unfold Oper.wp execOp
  simp only [ho, resolve, invoke, builtin, Sem.run_bind, Sem.run_pure, Result.andThen_ok, List.map_toArray, List.map_cons, List.map_nil, hs, hx, hr]
  exact h v' w' (hst2.rowGrown h2 h3 h4).p1.drop
theorem op_skip {P : Program} {o : Oper} {a : Act} {w w' : World} {KK : Act → World → Prop} {Q : Exit → Act → World → Prop} (hr : (execOp a.eval o).run P w = .ok .skip w') (h : KK (a.put o.dst undef) w') : o.wp P a w KK Q := by
 unfold Oper.wp
 rw [hr]
 exact h
theorem St.setEx {W0 w : World} {K : Know} {L : List Res} {b : Nat} {c : Array Value} {T : TypeId} (h : St W0 w K (.raw b c T :: L)) (j : Nat) (v : Value) : ∃ wz, w.setCell ⟨b, j, none⟩ v = wz ∧ St W0 wz K (.raw b (c.setIfInBounds j v) T :: L) := ⟨_, rfl, h.rawSet j v⟩
theorem Keeps.setRow (w : World) (g : Nat) (c : Array Value) : Keeps (fun k => k = g) w (w.setRow g c) := ⟨rfl, rfl, rfl, by simp [World.setRow], fun k _ hk => setRow_other w g k c hk⟩
theorem bvals_dropS (s : Bs) (k : Nat) : bvals (s.drop k) = (bvals s).drop k := by unfold bvals; rw [List.map_drop]
theorem bvals_oneS (s : Bs) : ∀ v ∈ bvals s, v.oneCell' = true := by
 intro v hv
 unfold bvals at hv
 obtain ⟨c, _, rfl⟩ := List.mem_map.1 hv
 rfl
theorem take_copyS (l : List Value) (n a : Nat) (ha : a ≤ n) (hn : n ≤ l.length) : ((l.take n).drop a ++ l.drop (n - a)).take n = (l.take n).drop a ++ (l.take n).drop (n - a) := by
 have hA : ((l.take n).drop a).length = n - a := by rw [List.length_drop, List.length_take]; omega
 rw [List.take_append, hA, List.take_of_length_le (by omega), show n - (n - a) = a by omega, List.drop_take (i := n - a), show n - (n - a) = a by omega]
theorem op_copyrow {W0 w : World} {K : Know} {L : List Res} {o : Oper} {a : Act} {KK : Act → World → Prop} {Q : Exit → Act → World → Prop} (d s : Operand)
    (ho : o.op = .call { callee := .builtin .copy, args := #[d, s], argTypes := #[22, 22] }) (g cap : Nat) (T : Bs) (at_ : Nat) (hat : at_ ≤ T.length)
    (hd : a.eval d = .slice (some ⟨g, 0, none⟩) T.length cap) (sp : Option Addr) (sl sc : Nat) (hs : a.eval s = .slice sp sl sc) (hsl : sl = T.length - at_) (hsp : at_ < T.length → sp = some ⟨g, at_, none⟩)
    (hst : St W0 w K (.row (.slice (some ⟨g, 0, none⟩) T.length cap) 5 1 T.length (bvals T) :: L))
    (h : ∀ w', St W0 w' K (.row (.slice (some ⟨g, 0, none⟩) T.length cap) 5 1 T.length (bvals (T.drop at_ ++ T.drop (T.length - at_))) :: L) → KK (a.put o.dst (.int .i64 ((T.length - at_ : Nat) : Int))) w') : o.wp Tryz.prog a w KK Q := by
  subst hsl
  have hes : (Tryz.prog.info? 5).map (·.size) = some 1 := by kernel_rfl
  by_cases h0 : at_ = T.length
  · have hrun := run_copy_none (P := Tryz.prog) w 22 22 o.type 5 (some ⟨g, 0, none⟩) sp T.length cap (T.length - at_) sc Tryz.underlying22 hes (by rw [h0]; simp)
    unfold Oper.wp execOp
    simp only [ho, resolve, invoke, builtin, Sem.run_bind, Sem.run_pure, Result.andThen_ok, List.map_toArray, List.map_cons, List.map_nil, hd, hs, hrun]
    have h1 := h w (by
      rw [h0, List.drop_length, Nat.sub_self, List.drop_zero, List.nil_append]
      exact hst)
    rw [h0, Nat.sub_self] at h1
    exact h1
  · have hlt : at_ < T.length := by omega
    obtain rfl := hsp hlt
    rcases hst.rowGet.2 with ⟨hv, _⟩ | ⟨g2, cap2, cur, e1, _, e3, e4, e5, e6, e7⟩
    · cases hv
    simp at e1
    obtain ⟨rfl, rfl⟩ := e1
    have hrun := run_copy_row (P := Tryz.prog) w 22 22 o.type 5 g 0 T.length cap ⟨g, at_, none⟩ (T.length - at_) sc cur 5 (bvals (T.drop at_)) Tryz.underlying22 hes e3 (by rw [bvals_length, List.length_drop]; exact (Nat.min_eq_left (by omega)).symm)
      (fun j v hj => by
        have ha : (⟨g, at_, none⟩ : Addr).add j = ⟨g, at_ + j, none⟩ := by unfold Addr.add; split <;> simp_all
        have hjl : j < (bvals (T.drop at_)).length := (List.getElem?_eq_some_iff.1 hj).1
        rw [bvals_length, List.length_drop] at hjl
        rw [ha, hst.rowCell (at_ + j) (by omega)]
        rw [bvals_dropS, List.getElem?_drop] at hj
        exact hj) (by rw [bvals_length, List.length_drop]; omega) (bvals_oneS _)
    unfold Oper.wp execOp
    simp only [ho, resolve, invoke, builtin, Sem.run_bind, Sem.run_pure, Result.andThen_ok, List.map_toArray, List.map_cons, List.map_nil, hd, hs, hrun]
    have hk : (bvals (T.drop at_)).length = T.length - at_ := by rw [bvals_length, List.length_drop]
    have hst2 : St W0 (w.setRow g (cur.toList.take 0 ++ bvals (T.drop at_) ++ cur.toList.drop (0 + (bvals (T.drop at_)).length)).toArray) K (.row (.slice (some ⟨g, 0, none⟩) T.length cap) 5 1 T.length (bvals (T.drop at_ ++ T.drop (T.length - at_))) :: L) := by
      refine hst.step fun S1 h1 => ⟨S1, ⟨⟨?_, .inr ⟨g, cap, _, rfl, Nat.zero_le _, setRow_heap w g cur _ _ _ e3, e4, e5, ?_, ?_⟩⟩, h1.2⟩, (Keeps.setRow w g _).mono (fun k _ hk => by subst hk; exact (h1.2 _).2 rfl), fun k hk => ⟨.inl hk, ?_⟩⟩
      · rw [bvals_length, List.length_append, List.length_drop, List.length_drop]; omega
      · have hcl : cur.toList.length = cap := by rw [Array.length_toList]; omega
        simp only [List.take_zero, List.nil_append, Nat.zero_add, List.size_toArray, List.length_append, List.length_drop, hk, hcl]
        omega
      · rw [List.take_zero, List.nil_append, Nat.zero_add, hk, bvals_append, bvals_dropS, bvals_dropS, ← e7]
        simp only [Nat.mul_one]
        exact take_copyS _ _ _ hat (by have hq : cur.toList.length = cur.size := Array.length_toList; omega)
      · have := (h1.1.lt k ((h1.2 k).1 hk)).2
        simpa [World.setRow] using this
    have h1 := h _ hst2
    have hgi : goInt (((bvals (T.drop at_)).length : Nat) : Int) = .int .i64 ((T.length - at_ : Nat) : Int) := by rw [hk]; rfl
    show KK (a.put o.dst (goInt (((bvals (T.drop at_)).length : Nat) : Int))) _
    rw [hgi]
    exact h1

end Go.Proofs.YtngojlinfdokpaaGreat
