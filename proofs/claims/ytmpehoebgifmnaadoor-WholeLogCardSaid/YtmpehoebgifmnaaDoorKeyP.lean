/- Keys, there and back. -/
import Derived.Test.YtmpehoebgifmnaaDoorBlobP
namespace Go.Proofs.YtmpehoebgifmnaaDoor
open Go.RowKit

theorem beBytes_sInt_cons (c : UInt8) (t : Bs) : beBytes (sInt (c :: t)) (t.length + 1) = c :: t := by
  induction h : t.length generalizing t with
  | zero =>
    have : t = [] := List.eq_nil_of_length_eq_zero h
    subst this
    have hc := c.toNat_lt
    simp only [sInt, List.foldl_nil, beBytes, List.nil_append]
    congr 1
    unfold sByte
    apply UInt8.toNat_inj.1
    split <;> simp <;> omega
  | succ k ih =>
    obtain ⟨t', d, rfl⟩ : ∃ t' d, t = t' ++ [d] := ⟨t.dropLast, t.getLast (by intro h0; rw [h0] at h; simp at h), (List.dropLast_concat_getLast _).symm⟩
    have hk : t'.length = k := by simpa using h
    have hd := d.toNat_lt
    have e := sInt_snoc c t' d
    have h1 : sInt (c :: (t' ++ [d])) / 256 = sInt (c :: t') := by rw [e]; omega
    have h2 : (sInt (c :: (t' ++ [d])) % 256).toNat = d.toNat := by rw [e]; omega
    show beBytes (sInt (c :: (t' ++ [d])) / 256) (k + 1) ++ [UInt8.ofNat (sInt (c :: (t' ++ [d])) % 256).toNat] = _
    rw [h1, h2, ih t' hk, UInt8.ofNat_toNat]
    rfl
theorem beBytes_sInt (l : Bs) : beBytes (sInt l) l.length = l := by
  cases l with
  | nil => rfl
  | cons c t => exact beBytes_sInt_cons c t

theorem text_stuck {i : InS} (h : i.err ≠ 0) : i.text = ([], i) := by
  have h1 := (rds_fixed 2 (by decide) (by decide)).stuck i h
  unfold InS.text
  have h2 : i.fixed 2 = (⟨false, []⟩, i) := h1
  rw [h2]
  rfl
theorem fail_stuck {i : InS} (h : i.err ≠ 0) (e : Int) : i.fail e = i := if_neg h
theorem close_stuck {i : InS} (h : i.err ≠ 0) : i.close = i := by
  unfold InS.close; split
  · exact fail_stuck h 2
  · rfl

theorem fits_len2 (s : Bs) (h : s.length ≤ 32767) : fits (⟨false, s⟩ : BlobS).len 2 := by
  have h128 : half 2 = 32768 := by decide
  refine ⟨by decide, by decide, ?_, ?_⟩ <;> simp [BlobS.len, h128] <;> omega
def keyRight (s : Bs) : Bool := !s.isEmpty && decide (s.length ≤ 32767)
def keyBytes (s : Bs) : Bs := beBytes 0 2 ++ beBytes s.length 2 ++ s
def keyEnc (s : Bs) : Bs × Int := if keyRight s then (keyBytes s, 0) else ([], 4)
def keyA (s : Bs) : Int × InS := (⟨s, 0, 0⟩ : InS).int 2
def keyI (s : Bs) : InS := if (keyA s).1 = 0 then (keyA s).2 else (keyA s).2.fail 7
def keyJ (s : Bs) : InS := if (keyI s).text.1 = [] then (keyI s).text.2.fail 4 else (keyI s).text.2
def keyDec (s : Bs) : Bs × Int := if (keyJ s).close.err = 0 then ((keyI s).text.1, 0) else ([], (keyJ s).close.err)
def keyRd (s : Bs) : Bs × Int :=
  if s.length < 2 then ([], 1)
  else if s.take 2 ≠ [0, 0] then ([], 7)
  else if s.length < 4 then ([], 1)
  else if sInt ((s.drop 2).take 2) ≤ 0 then ([], 4)
  else if (s.length : Int) - 4 < sInt ((s.drop 2).take 2) then ([], 1)
  else if sInt ((s.drop 2).take 2) < (s.length : Int) - 4 then ([], 2)
  else (s.drop 4, 0)

theorem keyDec_bad {s : Bs} {e : Int} (he : e ≠ 0) (h : (keyJ s).err = e) : keyDec s = ([], e) := by
  subst h
  unfold keyDec
  rw [close_stuck he, if_neg he]
theorem keyJ_stuck {s : Bs} {e : Int} (he : e ≠ 0) (h : (keyI s).err = e) : (keyJ s).err = e := by
  subst h
  unfold keyJ
  rw [text_stuck he]
  simp only [if_pos]
  rw [fail_stuck he]
theorem sInt2_zero (l : Bs) (h : l.length = 2) : sInt l = 0 ↔ l = [0, 0] := by
  match l, h with
  | [a, b], _ =>
    have ha := a.toNat_lt
    have hb := b.toNat_lt
    constructor
    · intro h
      simp only [sInt, List.foldl_cons, List.foldl_nil, sByte] at h
      have h2 : a.toNat = 0 ∧ b.toNat = 0 := by split at h <;> omega
      have e1 : a = 0 := UInt8.toNat_inj.1 h2.1
      have e2 : b = 0 := UInt8.toNat_inj.1 h2.2
      rw [e1, e2]
    · intro h; rw [h]; decide
theorem keyDec_eq (s : Bs) : keyDec s = keyRd s := by
  have hi := rds_intN 2 (by decide) (by decide)
  have hf := rds_fixed 2 (by decide) (by decide)
  unfold keyRd
  by_cases h1 : s.length < 2
  · rw [if_pos h1]
    obtain ⟨_, q, _, h3⟩ := hi.err s 0 1 (Nat.zero_le _) (by simp [getIntN, h1])
    have h4 : keyA s = (0, ⟨s, q, 1⟩) := h3
    refine keyDec_bad (by decide) (keyJ_stuck (by decide) ?_)
    unfold keyI
    rw [h4]
    rfl
  rw [if_neg h1]
  have ht : (s.take 2).length = 2 := by rw [List.length_take]; omega
  obtain ⟨_, h3⟩ := hi.ok s 0 (sInt (s.take 2)) 2 (Nat.zero_le _) (by simp [getIntN, h1])
  have h4 : keyA s = (sInt (s.take 2), ⟨s, 2, 0⟩) := h3
  by_cases h2 : s.take 2 ≠ [0, 0]
  · rw [if_pos h2]
    have h5 : sInt (s.take 2) ≠ 0 := fun h => h2 ((sInt2_zero _ ht).1 h)
    refine keyDec_bad (by decide) (keyJ_stuck (by decide) ?_)
    unfold keyI
    rw [h4, if_neg h5]
    rfl
  rw [if_neg h2]
  have h5 : sInt (s.take 2) = 0 := (sInt2_zero _ ht).2 (by simpa using h2)
  have hI : keyI s = ⟨s, 2, 0⟩ := by unfold keyI; rw [h4]; exact if_pos h5
  by_cases h6 : s.length < 4
  · rw [if_pos h6]
    obtain ⟨_, q, _, h7⟩ := hf.err s 2 1 (by omega) (if_pos (by rw [List.length_drop]; omega))
    have h8 : (keyI s).text = ([], ⟨s, q, 1⟩) := by
      rw [hI]; unfold InS.text
      have h7' : (⟨s, 2, 0⟩ : InS).fixed 2 = (⟨false, []⟩, ⟨s, q, 1⟩) := h7
      rw [h7']; rfl
    refine keyDec_bad (by decide) ?_
    unfold keyJ
    rw [h8]
    rfl
  rw [if_neg h6]
  have hl : ¬ (s.drop 2).length < 2 := by rw [List.length_drop]; omega
  obtain ⟨n, hn⟩ : ∃ n, sInt ((s.drop 2).take 2) = n := ⟨_, rfl⟩
  have hr : refixed 2 (s.drop 2) = gotS (s.drop 2) 2 n := by rw [← hn]; exact if_neg hl
  rw [hn]
  have hlen : ((s.drop 2).length : Int) - (2 : Nat) = (s.length : Int) - 4 := by rw [List.length_drop]; omega
  unfold gotS at hr
  by_cases g1 : n = -1
  · rw [if_pos (by omega)]
    rw [if_pos g1] at hr
    obtain ⟨_, h7⟩ := hf.ok s 2 _ _ (by omega) hr
    have h7' : (⟨s, 2, 0⟩ : InS).fixed 2 = (BlobS.none, ⟨s, 4, 0⟩) := h7
    refine keyDec_bad (by decide) ?_
    unfold keyJ
    rw [hI]
    unfold InS.text
    rw [h7']
    rfl
  rw [if_neg g1] at hr
  by_cases g2 : n < 0
  · rw [if_pos (by omega)]
    rw [if_pos g2] at hr
    obtain ⟨_, q, _, h7⟩ := hf.err s 2 4 (by omega) hr
    have h7' : (⟨s, 2, 0⟩ : InS).fixed 2 = (⟨false, []⟩, ⟨s, q, 4⟩) := h7
    refine keyDec_bad (by decide) ?_
    unfold keyJ
    rw [hI]
    unfold InS.text
    rw [h7']
    rfl
  rw [if_neg g2, hlen] at hr
  by_cases g3 : (s.length : Int) - 4 < n
  · rw [if_pos g3] at hr
    rw [if_neg (by omega), if_pos g3]
    obtain ⟨_, q, _, h7⟩ := hf.err s 2 1 (by omega) hr
    have h7' : (⟨s, 2, 0⟩ : InS).fixed 2 = (⟨false, []⟩, ⟨s, q, 1⟩) := h7
    refine keyDec_bad (by decide) ?_
    unfold keyJ
    rw [hI]
    unfold InS.text
    rw [h7']
    rfl
  rw [if_neg g3] at hr
  obtain ⟨h9, h7⟩ := hf.ok s 2 _ _ (by omega) hr
  have h7' : (⟨s, 2, 0⟩ : InS).fixed 2 = (⟨false, ((s.drop 2).drop 2).take n.toNat⟩, ⟨s, 4 + n.toNat, 0⟩) := by rw [show 4 + n.toNat = 2 + (2 + n.toNat) by omega]; exact h7
  have h8 : (keyI s).text = (((s.drop 2).drop 2).take n.toNat, ⟨s, 4 + n.toNat, 0⟩) := by rw [hI]; unfold InS.text; rw [h7']; rfl
  rw [List.drop_drop] at h8
  by_cases g4 : n ≤ 0
  · rw [if_pos g4]
    have h0 : n.toNat = 0 := by omega
    rw [h0] at h8
    refine keyDec_bad (by decide) ?_
    unfold keyJ
    rw [h8]
    rfl
  rw [if_neg g4, if_neg g3]
  have hne : (s.drop 4).take n.toNat ≠ [] := by
    intro h
    have := congrArg List.length h
    rw [List.length_take, List.length_drop] at this
    simp at this
    omega
  have hJ : keyJ s = ⟨s, 4 + n.toNat, 0⟩ := by
    unfold keyJ
    rw [h8]
    exact if_neg hne
  unfold keyDec
  rw [hJ, h8]
  by_cases g5 : n < (s.length : Int) - 4
  · rw [if_pos g5]
    have hc : (⟨s, 4 + n.toNat, 0⟩ : InS).close = ⟨s, 4 + n.toNat, 2⟩ := if_pos (by simp only [InS.left]; omega)
    rw [hc]
    rfl
  · rw [if_neg g5]
    have hc : (⟨s, 4 + n.toNat, 0⟩ : InS).close = ⟨s, 4 + n.toNat, 0⟩ := if_neg (by simp only [InS.left]; omega)
    rw [hc, List.take_of_length_le (by rw [List.length_drop]; omega)]
    rfl
theorem keyRd_enc (s : Bs) (id : Bs) (h : keyRd s = (id, 0)) : keyEnc id = (s, 0) := by
  unfold keyRd at h
  split at h
  · cases h
  split at h
  · cases h
  split at h
  · cases h
  split at h
  · cases h
  split at h
  · cases h
  split at h
  · cases h
  rename_i h1 h2 h3 h4 h5 h6
  cases h
  have hl2 : ((s.drop 2).take 2).length = 2 := by rw [List.length_take, List.length_drop]; omega
  have hb := beBytes_sInt ((s.drop 2).take 2)
  rw [hl2] at hb
  have hn : sInt ((s.drop 2).take 2) = ((s.drop 4).length : Int) := by rw [List.length_drop]; omega
  have hr := (sInt_beBytes_iff (sInt ((s.drop 2).take 2)) 2 (by decide)).1 (by rw [hb])
  have h128 : half 2 = 32768 := by decide
  have hright : keyRight (s.drop 4) = true := by
    unfold keyRight
    have h8 : (s.drop 4).length ≤ 32767 := by omega
    have h9 : 0 < (s.drop 4).length := by rw [List.length_drop]; omega
    cases hd : s.drop 4 with
    | nil => rw [hd] at h9; simp at h9
    | cons c t => rw [hd] at h8; simp at h8 ⊢; omega
  unfold keyEnc
  rw [if_pos hright]
  unfold keyBytes
  rw [← hn, hb]
  have e0 : beBytes 0 2 = [0, 0] := by decide
  have e1 : s.take 2 = [0, 0] := by simpa using h2
  rw [e0, ← e1]
  have e2 : s.take 2 ++ (s.drop 2).take 2 ++ s.drop 4 = s := by
    have h7 : (s.drop 2).take 2 ++ s.drop 4 = s.drop 2 := by
      have := List.take_append_drop 2 (s.drop 2)
      rw [List.drop_drop] at this
      exact this
    rw [List.append_assoc, h7, List.take_append_drop]
  rw [e2]
theorem keyRd_back (s : Bs) (h : keyRight s = true) : keyRd (keyBytes s) = (s, 0) := by
  have hne : 0 < s.length := by
    cases s with
    | nil => simp [keyRight] at h
    | cons => simp
  have hle : s.length ≤ 32767 := by
    unfold keyRight at h
    simp at h
    exact h.2
  have e0 : beBytes 0 2 = [0, 0] := by decide
  have hb := beBytes_length s.length 2
  have e1 : keyBytes s = [0, 0] ++ (beBytes s.length 2 ++ s) := by unfold keyBytes; rw [e0, List.append_assoc]
  have h128 : half 2 = 32768 := by decide
  have hn : sInt (beBytes s.length 2) = s.length := (sInt_beBytes_iff _ 2 (by decide)).2 (by omega)
  have hd2 : (keyBytes s).drop 2 = beBytes s.length 2 ++ s := by rw [e1]; rfl
  have ht2 : ((keyBytes s).drop 2).take 2 = beBytes s.length 2 := by rw [hd2, List.take_append_of_le_length (by omega), List.take_of_length_le (by omega)]
  have hl : (keyBytes s).length = 4 + s.length := by rw [e1]; simp only [List.length_append, hb, List.length_cons, List.length_nil]; omega
  have hd4 : (keyBytes s).drop 4 = s := by
    have : (keyBytes s).drop 4 = ((keyBytes s).drop 2).drop 2 := by rw [List.drop_drop]
    rw [this, hd2, List.drop_append_of_le_length (by omega), List.drop_of_length_le (by omega), List.nil_append]
  unfold keyRd
  rw [if_neg (by omega), if_neg (by rw [e1]; simp), if_neg (by omega), ht2, hn, if_neg (by omega), if_neg (by omega), if_neg (by omega), hd4]

end Go.Proofs.YtmpehoebgifmnaaDoor
