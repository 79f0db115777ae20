/- Through the layers: WholeSums. -/
import Derived.Test.YtkenneeejdngaaaCrcS
import Derived.Test.YtkenneeejdngaaaL06W
import Derived.Test.YtkenneeejdngaaaBytesR
import Derived.Deep.DeepCutAuto
namespace Go.Proofs.Ytkenneeejdngaaa
open Go.RowKit

theorem conv_st {W0 w : World} {K : Know} {L : List Res} (_h : St W0 w K L) (s : Bs) :
    ∃ C cap, s.length ≤ C.size ∧ (∀ j (h : j < s.length), C[j]? = some (.int .u8 (s[j].toNat : Int))) ∧
      (convert 9 32 (.string (bb s))).run Try.prog w = .ok (.slice (some ⟨w.heap.size, 0, none⟩) s.length cap) (w.drew.alloc (.cells C 5 (C.size, C.size + 1))) := conv_bytes' w s
theorem digits_sum : (crcMore 0#32 [49, 50, 51, 52, 53, 54, 55, 56, 57]).toNat = 3808858755 := by decide +kernel

set_option maxHeartbeats 1000000 in
set_option maxRecDepth 100000 in
theorem wholeSums_big (v : Value) (l : List HdrS) (at' : Int) (mask : UInt8) (hat : 0 ≤ at' ∧ at' < 65536) (hl : l.length ≤ 9223372036854775807) (hf : HFit l) (hs : ¬ hsum l ≤ 1000) {W0 w : World} {K : Know} (hk : K.has (Know.flat RHdr v 3 l)) (h : St W0 w K []) :
    Calls Try.prog 13 #[v, .int .u16 at', .int .u8 mask.toNat] w fun en w' => en = .returned (.bool true) ∧ Below W0.heap.size W0 w' := by
  have H := Lib.hid h
  have HK := Lib.hid hk
  have HL := Lib.hid hl
  have HF := Lib.hid hf
  have tok1 : True := trivial
  have ES := Lib.hid (show smallN l = 0 from if_neg hs)
  clear h hk hl hf hs hat
  go_enter Try.func13, Try.ntmps13
  go_wp2_with (first
    | (go_at_call 16; refine (crc_new H.out).mono ?_; rintro e wn ⟨bt, rfl, h⟩; replace H := Lib.hid h; clear h)
    | (go_at_call 19; have _t := tok1; clear _t; refine (crc_sum1 bt _ [49, 50, 51, 52, 53, 54, 55, 56, 57] 3808858755 digits_sum (by decide) (H.out.allocRaw #[.string (bb [49, 50, 51, 52, 53, 54, 55, 56, 57])] 9)).mono ?_; rintro e wn ⟨rfl, h⟩; replace H := Lib.hid h; clear h tok1)
    | (go_at_call 21; refine (l06_small2 _ l HL.out HF.out HK.out H.out).mono ?_; (repeat first | rw [ES.out]); rintro e wn ⟨rfl, h⟩; replace H := Lib.hid h; clear h))
  go_ret
  exact ⟨rfl, H.out.below⟩

set_option maxHeartbeats 1000000 in
set_option maxRecDepth 100000 in
theorem wholeSums_wrong (v : Value) (l : List HdrS) (at' : Int) (mask : UInt8) (hat : 0 ≤ at' ∧ at' < 65536) (hl : l.length ≤ 9223372036854775807) (hf : HFit l) (hs : hsum l ≤ 1000) (hr : hright l = false) {W0 w : World} {K : Know} (hk : K.has (Know.flat RHdr v 3 l)) (h : St W0 w K []) :
    Calls Try.prog 13 #[v, .int .u16 at', .int .u8 mask.toNat] w fun en w' => en = .returned (.bool true) ∧ Below W0.heap.size W0 w' := by
  have H := Lib.hid h
  have HK := Lib.hid hk
  have HL := Lib.hid hl
  have HF := Lib.hid hf
  have tok1 : True := trivial
  have ES := Lib.hid (show smallN l = 1 from if_pos hs)
  have ER := Lib.hid hr
  clear h hk hl hf hs hr hat
  go_enter Try.func13, Try.ntmps13
  go_wp2_with (first
    | (go_at_call 16; refine (crc_new H.out).mono ?_; rintro e wn ⟨bt, rfl, h⟩; replace H := Lib.hid h; clear h)
    | (go_at_call 19; have _t := tok1; clear _t; refine (crc_sum1 bt _ [49, 50, 51, 52, 53, 54, 55, 56, 57] 3808858755 digits_sum (by decide) (H.out.allocRaw #[.string (bb [49, 50, 51, 52, 53, 54, 55, 56, 57])] 9)).mono ?_; rintro e wn ⟨rfl, h⟩; replace H := Lib.hid h; clear h tok1)
    | (go_at_call 21; refine (l06_small2 _ l HL.out HF.out HK.out H.out).mono ?_; (repeat first | rw [ES.out]); rintro e wn ⟨rfl, h⟩; replace H := Lib.hid h; clear h)
    | (go_at_call 24; refine (ref06_right _ l HL.out HK.out H.out).mono ?_; (repeat first | rw [ER.out]); rintro e wn ⟨rfl, h⟩; replace H := Lib.hid h; clear h))
  go_ret
  exact ⟨rfl, H.out.below⟩

set_option maxHeartbeats 1000000 in
set_option maxRecDepth 100000 in
theorem wholeSums_right (v : Value) (l : List HdrS) (at' : Int) (mask : UInt8) (hat : 0 ≤ at' ∧ at' < 65536) (hl : l.length ≤ 9223372036854775807) (hf : HFit l) (hs : hsum l ≤ 1000) (hr : hright l = true) {W0 w : World} {K : Know} (hk : K.has (Know.flat RHdr v 3 l)) (h : St W0 w K []) :
    Calls Try.prog 13 #[v, .int .u16 at', .int .u8 mask.toNat] w fun en w' => en = .returned (.bool true) ∧ Below W0.heap.size W0 w' := by
  have H := Lib.hid h
  have HK := Lib.hid hk
  have HL := Lib.hid hl
  have HF := Lib.hid hf
  have tok1 : True := trivial
  have hsl := hsum_le l
  have ES := Lib.hid (show smallN l = 1 from if_pos hs)
  have HLL := Lib.hid (show l.length ≤ 140737488355328 by omega)
  have HRM := Lib.hid (show (⟨[], 0⟩ : OutS).ok (hsize l + 16) by unfold OutS.ok; simp only [List.length_nil]; omega)
  have hlen : (encHs l).length ≤ 50000 := by
    have h1 := encHs_le l (by omega)
    have h2 : (encI l.length).length ≤ 10 := putU_len _ (foldN_lt (by omega) (by omega))
    unfold encHs
    rw [List.length_append]; omega
  have hpos : 1 ≤ (encHs l).length := by
    have := putU_pos (foldN l.length)
    unfold encHs encI
    rw [List.length_append]; omega
  have EW := Lib.hid (putHdrs_right (o := ⟨[], 0⟩) hr (by omega))
  obtain ⟨s, hsd⟩ : ∃ s, encHs l = s := ⟨_, rfl⟩
  rw [hsd] at EW hlen hpos
  have EW := Lib.hid (show (⟨[], 0⟩ : OutS).putHdrs l = ⟨s, 0⟩ from EW.out)
  have ET := Lib.hid (show (⟨s, 0⟩ : OutS).text = (s, 0) from rfl)
  have ER := Lib.hid hr
  have hse : s.isEmpty = false := by cases s with | nil => simp at hpos | cons => rfl
  have HSL := Lib.hid (show s.length ≤ 140737488355328 by omega)
  obtain ⟨j, hj⟩ : ∃ j : Nat, at' % (s.length : Int) = j := ⟨(at' % (s.length : Int)).toNat, by have := Int.emod_nonneg at' (show (s.length : Int) ≠ 0 by omega); omega⟩
  have hjl : j < s.length := by have := Int.emod_lt_of_pos at' (show (0 : Int) < s.length by omega); omega
  have HJ := Lib.hid hj
  obtain ⟨ha0, ha1⟩ := hat
  clear h hk hl hf hs hr hsl hsd hj
  go_enter Try.func13, Try.ntmps13
  go_wp2_with (first
    | (go_at_call 16; refine (crc_new H.out).mono ?_; rintro e wn ⟨bt, rfl, h⟩; replace H := Lib.hid h; clear h)
    | (go_at_call 19; have _t := tok1; clear _t; refine (crc_sum1 bt _ [49, 50, 51, 52, 53, 54, 55, 56, 57] 3808858755 digits_sum (by decide) (H.out.allocRaw #[.string (bb [49, 50, 51, 52, 53, 54, 55, 56, 57])] 9)).mono ?_; rintro e wn ⟨rfl, h⟩; replace H := Lib.hid h; clear h tok1)
    | (go_at_call 21; refine (l06_small2 _ l HL.out HF.out HK.out H.out).mono ?_; (repeat first | rw [ES.out]); rintro e wn ⟨rfl, h⟩; replace H := Lib.hid h; clear h)
    | (go_at_call 24; refine (ref06_right _ l HL.out HK.out H.out).mono ?_; (repeat first | rw [ER.out]); rintro e wn ⟨rfl, h⟩; replace H := Lib.hid h; clear h)
    | (go_at_call 22; refine (header_write _ _ _ l HLL.out HK.out H.out.allocOut HRM.out).mono ?_; rw [EW.out]; rintro e wn ⟨rfl, h⟩; replace H := Lib.hid h; clear h)
    | (go_at_call 23; refine (so_text _ _ H.out).mono ?_; (repeat first | rw [ET.out]); rintro e wn ⟨rfl, h⟩; replace H := Lib.hid h; clear h; replace H := Lib.hid H.out.drop))
  go_loopw [11, 45] (fun sv iv wr => ∃ k : Nat, k ≤ s.length ∧ iv = .int .i64 k ∧ sv = .int .u32 (crcMore 0#32 (s.take k)).toNat ∧ St W0 wr K [.raw bt (tabC 256) 90]) (fun _ iv _ => s.length - (intOf iv).toNat)
  case atStart => exact ⟨0, Nat.zero_le _, rfl, by rw [List.take_zero, crcMore_nil]; rfl, H.out⟩
  case round =>
    obtain ⟨k, hk, rfl, rfl, hst⟩ := hrel
    by_cases hlt : k < s.length
    · have HN := Lib.hid (show crcMore (crcMore 0#32 (s.take k)) ((s.drop k).take 1) = crcMore 0#32 (s.take (k + 1)) by rw [← crcMore_append, ← List.take_add])
      have H := Lib.hid hst
      have HS1 := Lib.hid (show ((s.drop k).take 1).length ≤ 140737488355328 by rw [List.length_take]; omega)
      clear hst
      go_wp2_with (go_at_call 17; refine (crc_more bt _ _ HS1.out H.out).mono ?_; rw [HN.out]; rintro e wn ⟨rfl, h⟩; replace H := Lib.hid h; clear h)
      go_roundw
      case rel => exact ⟨k + 1, hlt, by go_num, rfl, H.out⟩
      case measure => first | (simp [intOf]; done) | (simp [intOf]; omega)
    · have hke : k = s.length := by omega
      subst hke
      rw [List.take_length]
      clear H
      have H := Lib.hid hst
      clear hst
      obtain ⟨n, hn⟩ : ∃ n, (crcMore 0#32 s).toNat = n := ⟨_, rfl⟩
      rw [hn]
      have HNN := Lib.hid hn
      clear hn
      go_upto_region 17 with fail
      go_cut [13] (fun s13 wx => ∃ bx cap : Nat, s13 = .slice (some ⟨bx, 0, none⟩) s.length cap ∧ St W0 wx K [.raw bt (tabC 256) 90, .gen (bRow bx s)])
      case first =>
        obtain ⟨C, cap, hsz, hC, hrun⟩ := conv_st H.out s
        have H2 := (H.out.bytesNew hsz hC).drew
        go_wp2
        go_meet
        exact ⟨_, cap, rfl, H2.p1⟩
      obtain ⟨bx, cap, rfl, h⟩ := hcut
      clear H
      have H := Lib.hid h
      clear h
      obtain ⟨z1, z2⟩ := H.out.p1.bytesCell j hjl
      obtain ⟨d, hd⟩ : ∃ d, s[j] = d := ⟨_, rfl⟩
      rw [hd] at z1
      have hxor := xor_u8m d mask
      have hj := HJ.out
      obtain ⟨c, hc⟩ : ∃ c, d ^^^ mask = c := ⟨_, rfl⟩
      rw [hc] at hxor
      obtain ⟨s', hs'⟩ : ∃ s', s.set j c = s' := ⟨_, rfl⟩
      have hls : s'.length = s.length := by rw [← hs']; simp
      have hiff : (crcMore 0#32 s' = crcMore 0#32 s) ↔ mask = 0 := by rw [← hs', crc_set s j hjl c, hd, ← hc, xor_same]
      have HC := Lib.hid (And.intro hs' (And.intro hls hiff))
      clear hd hc hs' hls hiff
      go_upto_region 19 with fail
      have H3 := H.out.p1.bytesSet j c (c.toNat : Int) rfl
      rw [HC.out.1] at H3
      clear H z1 z2 hxor hj
      generalize wc.setCell ⟨bx, j, none⟩ (.int .u8 (c.toNat : Int)) = wy at H3 ⊢
      have hls := HC.out.2.1
      have htext := H3.bytesText s.length hls.symm cap
      have H := Lib.hid H3.p1
      have HS2 := Lib.hid (show s'.length ≤ 140737488355328 by have := HSL.out; omega)
      have HLS := Lib.hid hls
      obtain ⟨n', hn'⟩ : ∃ n', (crcMore 0#32 s').toNat = n' := ⟨_, rfl⟩
      have HN2 := Lib.hid hn'
      have tokA : True := trivial
      have hiff : n' = n ↔ mask = 0 := by rw [← HC.out.2.2, ← hn', ← HNN.out]; exact BitVec.toNat_inj
      clear H3 hls hn'
      by_cases hm : mask = 0
      · have hnn : n' = n := hiff.2 hm
        subst hnn
        subst hm
        clear hiff
        go_wp2_with (first
          | (go_at_call 19; have _t := tokA; clear _t; refine (crc_sum1 bt _ s _ HNN.out HSL.out (H.out.allocRaw #[.string (bb s)] 9)).mono ?_; rintro e wn ⟨rfl, h⟩; replace H := Lib.hid h; clear h tokA; have htext2 := H.out.p1.bytesText s.length HLS.out.symm cap)
          | (go_at_call 19; refine (crc_sum1 bt _ s' _ HN2.out HS2.out (H.out.allocRaw #[.string (bb s')] 9)).mono ?_; rintro e wn ⟨rfl, h⟩; replace H := Lib.hid h; clear h))
        go_ret
        exact ⟨rfl, H.out.below⟩
      · have hnn : ((n' : Int) == (n : Int)) = false := by rw [beq_eq_false_iff_ne]; intro h; exact hm (hiff.1 (by omega))
        have hmm : ((mask.toNat : Int) == 0) = false := by
          rw [beq_eq_false_iff_ne]
          intro h
          have : mask.toNat = 0 := by omega
          exact hm (UInt8.toNat_inj.1 (by rw [this]; rfl))
        have HM := Lib.hid (And.intro hm hiff)
        clear hm hiff
        go_wp2_with (first
          | (go_at_call 19; have _t := tokA; clear _t; refine (crc_sum1 bt _ s _ HNN.out HSL.out (H.out.allocRaw #[.string (bb s)] 9)).mono ?_; rintro e wn ⟨rfl, h⟩; replace H := Lib.hid h; clear h tokA; have htext2 := H.out.p1.bytesText s.length HLS.out.symm cap)
          | (go_at_call 19; refine (crc_sum1 bt _ s' _ HN2.out HS2.out (H.out.allocRaw #[.string (bb s')] 9)).mono ?_; rintro e wn ⟨rfl, h⟩; replace H := Lib.hid h; clear h))
        go_ret
        exact ⟨rfl, H.out.below⟩

theorem wholeSums_any (l : List HdrS) (v : Value) (at' m : Int) (w : World) (hr : RowsOf (fun _ cs x => RHdr cs x) (· < w.heap.size) w v 3 l) (hl : l.length ≤ maxLen) (hf : HFit l) (hat : 0 ≤ at' ∧ at' < 65536) (hm : 0 ≤ m ∧ m < 256) :
    Calls Try.prog 13 #[v, .int .u16 at', .int .u8 m] w fun en w' => en = .returned (.bool true) ∧ Below w.heap.size w w' := by
  have h := rhdr_start hr
  obtain ⟨c, rfl⟩ : ∃ c : UInt8, m = (c.toNat : Int) := ⟨UInt8.ofNat m.toNat, by simp; omega⟩
  by_cases hs : hsum l ≤ 1000
  · cases hg : hright l
    · exact wholeSums_wrong v l at' c hat hl hf hs hg (Know.has_refl _) h
    · exact wholeSums_right v l at' c hat hl hf hs hg (Know.has_refl _) h
  · exact wholeSums_big v l at' c hat hl hf hs (Know.has_refl _) h

end Go.Proofs.Ytkenneeejdngaaa
