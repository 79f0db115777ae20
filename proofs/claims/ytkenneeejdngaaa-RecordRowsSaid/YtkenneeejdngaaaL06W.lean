/- Layer 6, walked: HeaderWrites. -/
import Derived.Test.YtkenneeejdngaaaRef06
import Derived.Test.YtkenneeejdngaaaL06F
namespace Go.Proofs.Ytkenneeejdngaaa
open Go.RowKit

def Fit (n : Nat) : Prop := n ≤ 140737488351232
def HFit (l : List HdrS) : Prop := ∀ x ∈ l, x.key.length ≤ 140737488351232 ∧ x.val.data.length ≤ 140737488351232
def smallN (l : List HdrS) : Int := if hsum l ≤ 1000 then 1 else 0
theorem hsum_take (l : List HdrS) (k : Nat) (hk : k < l.length) : hsum (l.take (k + 1)) = hsum (l.take k) + (l[k].key.length + l[k].val.data.length + 1) := by
  rw [List.take_succ_eq_append_getElem hk]
  unfold hsum
  rw [List.map_append, List.sum_append]
  simp
theorem hsum_take_le (l : List HdrS) (k : Nat) : hsum (l.take k) ≤ hsum l := by
  have : hsum l = hsum (l.take k) + hsum (l.drop k) := by
    unfold hsum
    rw [← List.sum_append, ← List.map_append, List.take_append_drop]
  omega
set_option maxHeartbeats 1000000 in
set_option maxRecDepth 100000 in
theorem l06_small2 (v : Value) (l : List HdrS) (hl : l.length ≤ 9223372036854775807) (hf : HFit l) {W0 w : World} {K : Know} {L : List Res} (hk : K.has (Know.flat RHdr v 3 l)) (h : St W0 w K L) :
    Calls Try.prog 21 #[v] w fun en w' => en = .returned (.int .i64 (smallN l)) ∧ St W0 w' K L := by
  obtain ⟨q, cap, rfl⟩ := flat_form hk h
  have H := Lib.hid h
  have HK := Lib.hid hk
  have HF := Lib.hid hf
  clear h hk hf
  go_enter Try.func21, Try.ntmps21
  go_wp2
  go_loopw [3, 8] (fun nv iv wr => ∃ (k m : Nat), k ≤ l.length ∧ iv = .int .i64 k ∧ nv = .int .i64 m ∧ m ≤ 1000 ∧ hsum (l.take k) = m ∧ St W0 wr K L) (fun _ iv _ => l.length - (intOf iv).toNat)
  case atStart => exact ⟨0, 0, Nat.zero_le _, rfl, rfl, Nat.zero_le _, rfl, H.out⟩
  case round =>
    obtain ⟨k, m, hk, rfl, rfl, hm, hsm, hst⟩ := hrel
    have HST := Lib.hid hst
    have HSM := Lib.hid hsm
    clear hsm
    by_cases hlt : k < l.length
    · obtain ⟨b, off, hq, c0, c1, c2⟩ := hdr_cells HK.out hst k hlt
      subst hq
      have hx1 := HF.out _ (List.getElem_mem hlt)
      have hsn := hsum_take l k hlt
      have hsl := hsum_take_le l (k + 1)
      obtain ⟨x, hx⟩ : ∃ x, l[k]'hlt = x := ⟨_, rfl⟩
      rw [hx] at c0 c1 c2 hx1 hsn
      obtain ⟨f1, f2⟩ := hx1
      have HSN := Lib.hid (And.intro hsn hsl)
      clear hst hx hsn hsl
      by_cases hbig : 1000 < m + (x.key.length + x.val.data.length + 1)
      · have hd : decide ((1000 : Int) < (m : Int) + ((x.key.length : Int) + (x.val.data.length : Int) + 1)) = true := decide_eq_true (by omega)
        have hfin : smallN l = 0 := by have := HSN.out; have := HSM.out; unfold smallN; rw [if_neg (by omega)]
        have HFIN := Lib.hid hfin
        clear hfin
        go_wp2
        go_ret
        exact ⟨ret_int HFIN.out.symm, HST.out.alloc _⟩
      · have hd : decide ((1000 : Int) < (m : Int) + ((x.key.length : Int) + (x.val.data.length : Int) + 1)) = false := decide_eq_false (by omega)
        go_wp2
        go_roundw
        case rel => exact ⟨k + 1, m + (x.key.length + x.val.data.length + 1), hlt, by go_num, by go_num, by omega, by rw [HSN.out.1, HSM.out], HST.out.alloc _⟩
        case measure => first | (simp [intOf]; done) | (simp [intOf]; omega)
    · have hke : k = l.length := by omega
      subst hke
      rw [List.take_length] at HSM
      have hfin : smallN l = 1 := by have := HSM.out; unfold smallN; rw [if_pos (by omega)]
      have HFIN := Lib.hid hfin
      clear hst hfin
      go_wp2
      go_ret
      exact ⟨ret_int HFIN.out.symm, HST.out⟩

set_option maxHeartbeats 1000000 in
set_option maxRecDepth 100000 in
theorem headerWrites_big (v : Value) (l : List HdrS) (hl : l.length ≤ 9223372036854775807) (hf : HFit l) (hs : ¬ hsum l ≤ 1000) {W0 w : World} {K : Know} (hk : K.has (Know.flat RHdr v 3 l)) (h : St W0 w K []) :
    Calls Try.prog 5 #[v] w fun en w' => en = .returned (.bool true) ∧ Below W0.heap.size W0 w' := by
  have H := Lib.hid h
  have HK := Lib.hid hk
  have HL := Lib.hid hl
  have HF := Lib.hid hf
  have ES := Lib.hid (show smallN l = 0 from if_neg hs)
  clear h hk hl hf hs
  go_enter Try.func5, Try.ntmps5
  go_wp2_with (first
    | (go_at_call 20; refine (speaks06 H.out).mono ?_; rintro e wn ⟨rfl, h⟩; replace H := Lib.hid h; clear h)
    | (go_at_call 21; refine (l06_small2 _ l HL.out HF.out HK.out H.out).mono ?_; (repeat first | rw [ES.out]); rintro e wn ⟨rfl, h⟩; replace H := Lib.hid h; clear h))
  go_ret
  exact ⟨rfl, H.out.below⟩

set_option maxHeartbeats 1000000 in
set_option maxRecDepth 100000 in
theorem headerWrites_wrong (v : Value) (l : List HdrS) (hl : l.length ≤ 9223372036854775807) (hf : HFit l) (hs : hsum l ≤ 1000) (hr : hright l = false) {W0 w : World} {K : Know} (hk : K.has (Know.flat RHdr v 3 l)) (h : St W0 w K []) :
    Calls Try.prog 5 #[v] w fun en w' => en = .returned (.bool true) ∧ Below W0.heap.size W0 w' := by
  have H := Lib.hid h
  have HK := Lib.hid hk
  have HL := Lib.hid hl
  have HF := Lib.hid hf
  have hsl := hsum_le l
  have ES := Lib.hid (show smallN l = 1 from if_pos hs)
  have HLL := Lib.hid (show l.length ≤ 140737488355328 by omega)
  have HRM := Lib.hid (show (⟨[], 0⟩ : OutS).ok (hsize l + 16) by unfold OutS.ok; simp only [List.length_nil]; omega)
  obtain ⟨o, ho⟩ : ∃ o, (⟨[], 0⟩ : OutS).putHdrs l = o := ⟨_, rfl⟩
  have EW := Lib.hid ho
  have ET := Lib.hid (show o.text = ([], 4) by have h1 := putHdrs_wrong (o := ⟨[], 0⟩) hr (by omega) rfl; rw [ho] at h1; unfold OutS.text; rw [if_neg (by rw [h1]; decide), h1])
  have ER := Lib.hid hr
  clear h hk hl hf hs hr ho hsl
  go_enter Try.func5, Try.ntmps5
  go_wp2_with (first
    | (go_at_call 20; refine (speaks06 H.out).mono ?_; rintro e wn ⟨rfl, h⟩; replace H := Lib.hid h; clear h)
    | (go_at_call 21; refine (l06_small2 _ l HL.out HF.out HK.out H.out).mono ?_; (repeat first | rw [ES.out]); rintro e wn ⟨rfl, h⟩; replace H := Lib.hid h; clear h)
    | (go_at_call 22; refine (header_write _ _ _ l HLL.out HK.out H.out.allocOut HRM.out).mono ?_; rw [EW.out]; rintro e wn ⟨rfl, h⟩; replace H := Lib.hid h; clear h)
    | (go_at_call 23; refine (so_text _ _ H.out).mono ?_; (repeat first | rw [ET.out]); rintro e wn ⟨rfl, h⟩; replace H := Lib.hid h; clear h)
    | (go_at_call 24; refine (ref06_right _ l HL.out HK.out H.out).mono ?_; (repeat first | rw [ER.out]); rintro e wn ⟨rfl, h⟩; replace H := Lib.hid h; clear h))
  go_ret
  exact ⟨rfl, H.out.below⟩

set_option maxHeartbeats 1000000 in
set_option maxRecDepth 100000 in
theorem headerWrites_right (v : Value) (l : List HdrS) (hl : l.length ≤ 9223372036854775807) (hf : HFit l) (hs : hsum l ≤ 1000) (hr : hright l = true) {W0 w : World} {K : Know} (hk : K.has (Know.flat RHdr v 3 l)) (h : St W0 w K []) :
    Calls Try.prog 5 #[v] w fun en w' => en = .returned (.bool true) ∧ Below W0.heap.size W0 w' := by
  have H := Lib.hid h
  have HK := Lib.hid hk
  have HL := Lib.hid hl
  have HF := Lib.hid hf
  have hsl := hsum_le l
  have ES := Lib.hid (show smallN l = 1 from if_pos hs)
  have HLL := Lib.hid (show l.length ≤ 140737488355328 by omega)
  have HRM := Lib.hid (show (⟨[], 0⟩ : OutS).ok (hsize l + 16) by unfold OutS.ok; simp only [List.length_nil]; omega)
  have hsz : hsize l ≤ 40000 := by omega
  have hlen : (encHs l).length ≤ 50000 := by
    have h1 := encHs_le l (by omega)
    have h2 : (encI l.length).length ≤ 10 := putU_len _ (foldN_lt (by omega) (by omega))
    unfold encHs
    rw [List.length_append]; omega
  have hback := reHdrs_back l [] hr (by omega)
  rw [List.append_nil] at hback
  have EW := Lib.hid (putHdrs_right (o := ⟨[], 0⟩) hr (by omega))
  obtain ⟨s, hsd⟩ : ∃ s, encHs l = s := ⟨_, rfl⟩
  rw [hsd] at EW hlen hback
  have EW := Lib.hid (show (⟨[], 0⟩ : OutS).putHdrs l = ⟨s, 0⟩ from EW.out)
  have ET := Lib.hid (show (⟨s, 0⟩ : OutS).text = (s, 0) from rfl)
  have ER := Lib.hid hr
  have ES2 := Lib.hid hsd
  have hrd := (rds_hdrs.ok s 0 l s.length (Nat.zero_le _) (by rw [List.drop_zero]; exact hback)).2
  rw [Nat.zero_add] at hrd
  have EH := Lib.hid hrd
  have EC := Lib.hid (show (⟨s, s.length, 0⟩ : InS).close = ⟨s, s.length, 0⟩ by unfold InS.close; rw [if_neg (by simp only [InS.left]; omega)])
  have HSL := Lib.hid (show s.length ≤ 140737488355328 by omega)
  have HSZ := Lib.hid (show hsize l ≤ 70368744177664 by omega)
  clear h hk hl hf hs hr hsl hsz hlen hback hrd hsd
  go_enter Try.func5, Try.ntmps5
  go_wp2_with (first
    | (go_at_call 20; refine (speaks06 H.out).mono ?_; rintro e wn ⟨rfl, h⟩; replace H := Lib.hid h; clear h)
    | (go_at_call 21; refine (l06_small2 _ l HL.out HF.out HK.out H.out).mono ?_; (repeat first | rw [ES.out]); rintro e wn ⟨rfl, h⟩; replace H := Lib.hid h; clear h)
    | (go_at_call 22; refine (header_write _ _ _ l HLL.out HK.out H.out.allocOut HRM.out).mono ?_; rw [EW.out]; rintro e wn ⟨rfl, h⟩; replace H := Lib.hid h; clear h)
    | (go_at_call 23; refine (so_text _ _ H.out).mono ?_; (repeat first | rw [ET.out]); rintro e wn ⟨rfl, h⟩; replace H := Lib.hid h; clear h)
    | (go_at_call 24; refine (ref06_right _ l HL.out HK.out H.out).mono ?_; (repeat first | rw [ER.out]); rintro e wn ⟨rfl, h⟩; replace H := Lib.hid h; clear h)
    | (go_at_call 25; refine (s_new s HSL.out H.out).mono ?_; rintro e wn ⟨bi, rfl, h⟩; replace H := Lib.hid h; clear h)
    | (go_at_call 26; refine (ref06_write _ l HSZ.out HK.out H.out).mono ?_; (repeat first | rw [ES2.out]); rintro e wn ⟨rfl, h⟩; replace H := Lib.hid h; clear h)
    | (go_at_call 28; refine (header_read _ _ H.out).mono ?_; rw [EH.out]; rintro e wn ⟨vr, rfl, h⟩; replace H := Lib.hid h; clear h)
    | (go_at_call 27; refine (ref06_same _ _ l l HL.out HL.out (Know.has_right (Know.has_refl _)) (Know.has_trans (Know.has_left (Know.has_refl _)) HK.out) H.out).mono ?_; rintro e wn ⟨rfl, h⟩; replace H := Lib.hid h; clear h)
    | (go_at_call 29; refine (s_close _ _ H.out).mono ?_; (repeat first | rw [EC.out]); rintro e wn ⟨rfl, h⟩; replace H := Lib.hid h; clear h))
  go_ret
  exact ⟨rfl, H.out.below⟩

theorem headerWrites_any (l : List HdrS) (v : Value) (w : World) (hr : RowsOf (fun _ cs x => RHdr cs x) (· < w.heap.size) w v 3 l) (hl : l.length ≤ maxLen) (hf : HFit l) :
    Calls Try.prog 5 #[v] w fun en w' => en = .returned (.bool true) ∧ Below w.heap.size w w' := by
  have h := rhdr_start hr
  by_cases hs : hsum l ≤ 1000
  · cases hg : hright l
    · exact headerWrites_wrong v l hl hf hs hg (Know.has_refl _) h
    · exact headerWrites_right v l hl hf hs hg (Know.has_refl _) h
  · exact headerWrites_big v l hl hf hs (Know.has_refl _) h

end Go.Proofs.Ytkenneeejdngaaa
