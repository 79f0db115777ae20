/- A record there and back (pure). -/
import Derived.Test.YtenojajfacacoaaDoorBlobP
import Derived.Deep.RegionHeld3
import Derived.Deep.DeepCutAuto
/- Contracts of package header: writing. -/
namespace Go.Proofs.YtenojajfacacoaaDoor
open Go.RowKit

/-- Rows of things whose cells say all. -/
def FlatRows {α : Type} (R : List Value → α → Prop) (F : Nat → Prop) (w : World) (v : Value) (sz : Nat) (l : List α) : Prop := RowsOf (fun _ cs x => R cs x) F w v sz l
theorem flat_keep {α : Type} {R : List Value → α → Prop} {F : Nat → Prop} {w w' : World} {v : Value} {sz : Nat} {l : List α} (h : FlatRows R F w v sz l) (hs : w.heap.size ≤ w'.heap.size) (hk : ∀ k, k < w.heap.size → F k → w'.heap[k]? = w.heap[k]?) : FlatRows R F w' v sz l := by
  obtain ⟨p, cap, rfl, h⟩ := h
  refine ⟨p, cap, rfl, fun h0 => ?_⟩
  obtain ⟨b, off, rfl, hb, hlt, hc⟩ := h h0
  refine ⟨b, off, rfl, hb, Nat.lt_of_lt_of_le hlt hs, fun i hi => ?_⟩
  obtain ⟨cs, h1, h2, h3⟩ := hc i hi
  exact ⟨cs, h1, h2, fun f u hu => (World.cell?_of_block (w := w) (a := ⟨b, off + (i * sz + f), none⟩) (hk b hlt hb)).trans (h3 f u hu)⟩
def Know.flat {α : Type} (R : List Value → α → Prop) (v : Value) (sz : Nat) (l : List α) : Know := ⟨fun w F => FlatRows R F w v sz l, fun _ _ _ h hs hk => flat_keep h hs hk, fun _ _ _ h hs => RowsOf.mono h (fun _ _ h => hs _ h) (fun _ _ h => h)⟩
theorem FlatRows.at {α : Type} {R : List Value → α → Prop} {F : Nat → Prop} {w : World} {v : Value} {sz : Nat} {l : List α} (h : FlatRows R F w v sz l) :
    ∃ p cap, v = .slice p l.length cap ∧ (0 < l.length → ∃ b off, p = some ⟨b, off, none⟩ ∧ ∀ i (h : i < l.length), ∃ cs, cs.length = sz ∧ R cs l[i] ∧ ∀ f u, cs[f]? = some u → w.cell? ⟨b, off + (i * sz + f), none⟩ = some u) := by
  obtain ⟨p, cap, rfl, h⟩ := h
  refine ⟨p, cap, rfl, fun h0 => ?_⟩
  obtain ⟨b, off, rfl, _, _, hc⟩ := h h0
  exact ⟨b, off, rfl, hc⟩
theorem flatMap_get {α : Type} : ∀ (l : List α) (f : α → List Value) (sz : Nat), (∀ x ∈ l, (f x).length = sz) → ∀ (i : Nat) (hi : i < l.length) (q : Nat), q < sz → (l.flatMap f)[i * sz + q]? = (f l[i])[q]?
  | [], _, _, _, i, hi, _, _ => by simp at hi
  | x :: t, f, sz, h, 0, _, q, hq => by
    rw [List.flatMap_cons, Nat.zero_mul, Nat.zero_add, List.getElem?_append_left (by rw [h x (by simp)]; exact hq)]
    rfl
  | x :: t, f, sz, h, i + 1, hi, q, hq => by
    have hx := h x (by simp)
    rw [List.flatMap_cons, List.getElem?_append_right (by rw [hx, Nat.add_mul]; omega), hx, show (i + 1) * sz + q - sz = i * sz + q by rw [Nat.add_mul]; omega]
    exact flatMap_get t f sz (fun y hy => h y (by simp [hy])) i (by simpa using hi) q hq
/-- A row of one's own, left as it is, is known for good. -/
theorem St.freezeRow {α : Type} {W0 w : World} {K : Know} {L : List Res} {R : List Value → α → Prop} {v : Value} {T : TypeId} {sz : Nat} {l : List α} {f : α → List Value} (h : St W0 w K (.row v T sz l.length (l.flatMap f) :: L)) (hf : ∀ x ∈ l, (f x).length = sz ∧ R (f x) x) :
    St W0 w (K.and (Know.flat R v sz l)) L := by
  refine h.freeze fun F S1 _ h1 => ?_
  obtain ⟨⟨g1, g2⟩, g3⟩ := h1
  rcases g2 with ⟨rfl, h0⟩ | ⟨g, cap, cur, rfl, _, hg, hn, hcm, hcs, htake⟩
  · exact ⟨none, 0, by rw [h0], fun hh => absurd hh (by omega)⟩
  · have hS : S1 g := (g3 g).2 rfl
    have hlt := heap_lt hg
    refine ⟨_, cap, rfl, fun _ => ⟨g, 0, rfl, .inr ⟨hS, hlt⟩, hlt, fun i hi => ?_⟩⟩
    obtain ⟨h2, h3⟩ := hf l[i] (List.getElem_mem hi)
    refine ⟨f l[i], h2, h3, fun q u hu => ?_⟩
    rw [cell_at hg, Nat.zero_add]
    have hq : q < sz := by rw [← h2]; exact (List.getElem?_eq_some_iff.1 hu).1
    have e : (l.flatMap f)[i * sz + q]? = some u := by
      rw [flatMap_get l f sz (fun x hx => (hf x hx).1) i hi q hq]
      exact hu
    rw [← htake, List.getElem?_take_of_lt (by have := Nat.mul_le_mul_right sz (show i + 1 ≤ l.length by omega); rw [Nat.add_mul, Nat.one_mul] at this; omega)] at e
    simpa using e

/-- A name and a value. -/
structure HdrS where
  key : Bs
  val : BlobS
deriving DecidableEq
def RHdr (cs : List Value) (h : HdrS) : Prop := cs = [.string (bb h.key), .bool h.val.null, .string (bb h.val.data)]
def hcells (h : HdrS) : List Value := [.string (bb h.key), .bool h.val.null, .string (bb h.val.data)]
def HdrS.size (h : HdrS) : Nat := h.key.length + h.val.data.length + 32
def hsize (l : List HdrS) : Nat := (l.map HdrS.size).sum
def OutS.putHdr (o : OutS) (h : HdrS) : OutS := (o.putName h.key).putVaried h.val
def OutS.putHdrs (o : OutS) (l : List HdrS) : OutS := l.foldl OutS.putHdr (o.putInt l.length)
theorem OutS.len_putVaried (o : OutS) (b : BlobS) (h : b.data.length ≤ 140737488355328) : (o.putVaried b).bytes.length ≤ o.bytes.length + (b.data.length + 16) := by
  unfold OutS.putVaried OutS.putData
  have h1 := o.len_putInt b.len (b.len_range h)
  split
  · have := (o.putInt b.len).len_put b.data; omega
  · have := ((o.putInt b.len).fail 4).len_put b.data
    rw [OutS.len_fail] at this
    omega
theorem OutS.len_putHdr (o : OutS) (h : HdrS) (hl : h.size ≤ 140737488355328) : (o.putHdr h).bytes.length ≤ o.bytes.length + h.size := by
  unfold HdrS.size at *
  have h1 := o.len_putVaried ⟨false, h.key⟩ (by simp only; omega)
  have h2 := (o.putName h.key).len_putVaried h.val (by omega)
  unfold OutS.putHdr
  unfold OutS.putName at *
  simp only at h1
  omega
theorem hsize_split (l : List HdrS) (k : Nat) (h : k < l.length) : hsize (l.take k) + l[k].size ≤ hsize l := by
  have h1 : hsize l = hsize (l.take k) + hsize (l.drop k) := by
    unfold hsize
    rw [← List.sum_append, ← List.map_append, List.take_append_drop]
  have h2 : hsize (l.drop k) = l[k].size + hsize (l.drop (k + 1)) := by
    unfold hsize
    rw [List.drop_eq_getElem_cons h]
    rfl
  omega
theorem OutS.len_hdrs : ∀ (l : List HdrS) (o : OutS), hsize l ≤ 140737488355328 → (l.foldl OutS.putHdr o).bytes.length ≤ o.bytes.length + hsize l
  | [], o, _ => by simp [hsize]
  | h :: t, o, hl => by
    have e : hsize (h :: t) = h.size + hsize t := rfl
    have h1 := o.len_putHdr h (by omega)
    have h2 := OutS.len_hdrs t (o.putHdr h) (by omega)
    show (t.foldl OutS.putHdr (o.putHdr h)).bytes.length ≤ _
    omega

end Go.Proofs.YtenojajfacacoaaDoor
/- Contracts of package header: reading. -/
namespace Go.Proofs.YtenojajfacacoaaDoor
open Go.RowKit

theorem elem_hdr : ElemT Tryd.prog 54 (.agg #[.string ⟨#[]⟩, .bool false, .string ⟨#[]⟩]) 3 40 := elemT_of (by kernel_rfl) rfl (by decide)
def InS.hdrLoop : Nat → List HdrS → InS → List HdrS × InS
  | 0, acc, i => (acc, i)
  | n + 1, acc, i =>
    if i.name.2.varied.2.err = 0 then InS.hdrLoop n (acc ++ [⟨i.name.1, i.name.2.varied.1⟩]) i.name.2.varied.2
    else ([], i.name.2.varied.2)
def InS.hdrHead (i : InS) : InS := if i.vint.1 < 0 then i.vint.2.fail 4 else if (i.vint.2.left : Int) < 2 * i.vint.1 then i.vint.2.fail 1 else i.vint.2
def InS.hdrs (i : InS) : List HdrS × InS := InS.hdrLoop i.vint.1.toNat [] i.hdrHead
theorem know_nil {α : Type} (R : List Value → α → Prop) (sz : Nat) (K : Know) : K.has (K.and (Know.flat R (.slice none 0 0) sz [])) := fun _ _ h => ⟨h, none, 0, rfl, fun h => absurd h (by simp)⟩

end Go.Proofs.YtenojajfacacoaaDoor
/- Contracts of package header: finding. -/
namespace Go.Proofs.YtenojajfacacoaaDoor
open Go.RowKit

def findStep (key : Bs) (a : BlobS × Bool) (h : HdrS) : BlobS × Bool := if h.key = key then (h.val, true) else a
def findS (l : List HdrS) (key : Bs) : BlobS × Bool := l.foldl (findStep key) (⟨false, []⟩, false)
theorem find_skip (key : Bs) : ∀ (l : List HdrS) (a : BlobS × Bool), (∀ h ∈ l, h.key ≠ key) → l.foldl (findStep key) a = a
  | [], _, _ => rfl
  | h :: t, a, hh => by
    have e : findStep key a h = a := if_neg (hh h (by simp))
    show t.foldl (findStep key) (findStep key a h) = a
    rw [e]
    exact find_skip key t a (fun x hx => hh x (by simp [hx]))
theorem find_at (l : List HdrS) (key : Bs) (i : Nat) (hi : i < l.length) (he : l[i].key = key) (hn : ∀ h ∈ l.drop (i + 1), h.key ≠ key) : findS l key = (l[i].val, true) := by
  have e : l = l.take i ++ l[i] :: l.drop (i + 1) := by simp
  have e2 : findS l key = (l.take i ++ l[i] :: l.drop (i + 1)).foldl (findStep key) (⟨false, []⟩, false) := by unfold findS; rw [← e]
  rw [e2, List.foldl_append, List.foldl_cons, find_skip key _ _ hn]
  exact if_pos he

/-- The cells of a header that came in. -/
theorem hdr_cells {W0 w : World} {K : Know} {L : List Res} {l : List HdrS} {q : Option Addr} {cap : Nat} (hk : K.has (Know.flat RHdr (.slice q l.length cap) 3 l)) (h : St W0 w K L) (i : Nat) (hi : i < l.length) :
    ∃ b off, q = some ⟨b, off, none⟩ ∧ w.cell? ⟨b, off + i * 3, none⟩ = some (.string (bb (l[i]'hi).key)) ∧ w.cell? ⟨b, off + i * 3 + 1, none⟩ = some (.bool (l[i]'hi).val.null) ∧ w.cell? ⟨b, off + i * 3 + 2, none⟩ = some (.string (bb (l[i]'hi).val.data)) := by
  obtain ⟨F, hF, _⟩ := h.get
  obtain ⟨q2, cap2, hv2, hrow⟩ := (hk _ _ hF).at
  obtain ⟨b, off, hq, hcells⟩ := hrow (by omega)
  obtain ⟨cs, _, hR, hc⟩ := hcells i hi
  unfold RHdr at hR
  subst hR
  refine ⟨b, off, by simp at hv2; rw [hv2.1, hq], ?_, ?_, ?_⟩
  · have := hc 0 _ rfl; rwa [Nat.add_zero] at this
  · have := hc 1 _ rfl; rwa [← Nat.add_assoc] at this
  · have := hc 2 _ rfl; rwa [← Nat.add_assoc] at this
theorem flat_form {W0 w : World} {K : Know} {L : List Res} {α : Type} {R : List Value → α → Prop} {sz : Nat} {v : Value} {l : List α} (hk : K.has (Know.flat R v sz l)) (h : St W0 w K L) : ∃ q cap, v = .slice q l.length cap := by
  obtain ⟨F, hF, _⟩ := h.get
  obtain ⟨q, cap, hv, _⟩ := (hk _ _ hF).at
  exact ⟨q, cap, hv⟩

theorem wrap64_range (x : Int) : -9223372036854775808 ≤ wrap64 x ∧ wrap64 x < 9223372036854775808 := by simp only [wrap64]; omega
theorem putU_1' : putU (foldN 1) = [2] := by
  have e : foldN 1 = 2 := by decide
  rw [e, putU_small (by decide)]
  decide
theorem hdrs_one : (⟨[], 0⟩ : OutS).putHdrs [⟨[97], ⟨true, []⟩⟩] = ⟨[2, 2, 97, 1], 0⟩ := by
  have e1 : putU (foldN (-1)) = [1] := by
    have e : foldN (-1) = 1 := by decide
    rw [e, putU_small (by decide)]
    decide
  have h : (⟨[], 0⟩ : OutS).putHdrs [⟨[97], ⟨true, []⟩⟩] = ((((((⟨[], 0⟩ : OutS).put (putU (foldN 1))).put (putU (foldN 1))).put [97]).put (putU (foldN (-1)))).put []) := rfl
  rw [h, e1, putU_1']
  rfl
end Go.Proofs.YtenojajfacacoaaDoor
/- Keys, there and back. -/
namespace Go.Proofs.YtenojajfacacoaaDoor
open Go.RowKit

theorem beBytes_sInt_cons (c : UInt8) (t : Bs) : beBytes (sInt (c :: t)) (t.length + 1) = c :: t := by
  induction h : t.length generalizing t with
  | zero =>
    have : t = [] := List.eq_nil_of_length_eq_zero h
    subst this
    have hc := c.toNat_lt
    simp only [sInt, List.foldl_nil, beBytes, List.nil_append]
    congr 1
    unfold sByte
    apply UInt8.toNat_inj.1
    split <;> simp <;> omega
  | succ k ih =>
    obtain ⟨t', d, rfl⟩ : ∃ t' d, t = t' ++ [d] := ⟨t.dropLast, t.getLast (by intro h0; rw [h0] at h; simp at h), (List.dropLast_concat_getLast _).symm⟩
    have hk : t'.length = k := by simpa using h
    have hd := d.toNat_lt
    have e := sInt_snoc c t' d
    have h1 : sInt (c :: (t' ++ [d])) / 256 = sInt (c :: t') := by rw [e]; omega
    have h2 : (sInt (c :: (t' ++ [d])) % 256).toNat = d.toNat := by rw [e]; omega
    show beBytes (sInt (c :: (t' ++ [d])) / 256) (k + 1) ++ [UInt8.ofNat (sInt (c :: (t' ++ [d])) % 256).toNat] = _
    rw [h1, h2, ih t' hk, UInt8.ofNat_toNat]
    rfl
theorem beBytes_sInt (l : Bs) : beBytes (sInt l) l.length = l := by
  cases l with
  | nil => rfl
  | cons c t => exact beBytes_sInt_cons c t

theorem text_stuck {i : InS} (h : i.err ≠ 0) : i.text = ([], i) := by
  have h1 := (rds_fixed 2 (by decide) (by decide)).stuck i h
  unfold InS.text
  have h2 : i.fixed 2 = (⟨false, []⟩, i) := h1
  rw [h2]
  rfl
theorem fail_stuck {i : InS} (h : i.err ≠ 0) (e : Int) : i.fail e = i := if_neg h
theorem close_stuck {i : InS} (h : i.err ≠ 0) : i.close = i := by
  unfold InS.close; split
  · exact fail_stuck h 2
  · rfl

theorem fits_len2 (s : Bs) (h : s.length ≤ 32767) : fits (⟨false, s⟩ : BlobS).len 2 := by
  have h128 : half 2 = 32768 := by decide
  refine ⟨by decide, by decide, ?_, ?_⟩ <;> simp [BlobS.len, h128] <;> omega
def keyRight (s : Bs) : Bool := !s.isEmpty && decide (s.length ≤ 32767)
def keyBytes (s : Bs) : Bs := beBytes 0 2 ++ beBytes s.length 2 ++ s
def keyEnc (s : Bs) : Bs × Int := if keyRight s then (keyBytes s, 0) else ([], 4)
def keyA (s : Bs) : Int × InS := (⟨s, 0, 0⟩ : InS).int 2
def keyI (s : Bs) : InS := if (keyA s).1 = 0 then (keyA s).2 else (keyA s).2.fail 7
def keyJ (s : Bs) : InS := if (keyI s).text.1 = [] then (keyI s).text.2.fail 4 else (keyI s).text.2
def keyDec (s : Bs) : Bs × Int := if (keyJ s).close.err = 0 then ((keyI s).text.1, 0) else ([], (keyJ s).close.err)
def keyRd (s : Bs) : Bs × Int :=
  if s.length < 2 then ([], 1)
  else if s.take 2 ≠ [0, 0] then ([], 7)
  else if s.length < 4 then ([], 1)
  else if sInt ((s.drop 2).take 2) ≤ 0 then ([], 4)
  else if (s.length : Int) - 4 < sInt ((s.drop 2).take 2) then ([], 1)
  else if sInt ((s.drop 2).take 2) < (s.length : Int) - 4 then ([], 2)
  else (s.drop 4, 0)

theorem keyDec_bad {s : Bs} {e : Int} (he : e ≠ 0) (h : (keyJ s).err = e) : keyDec s = ([], e) := by
  subst h
  unfold keyDec
  rw [close_stuck he, if_neg he]
theorem keyJ_stuck {s : Bs} {e : Int} (he : e ≠ 0) (h : (keyI s).err = e) : (keyJ s).err = e := by
  subst h
  unfold keyJ
  rw [text_stuck he]
  simp only [if_pos]
  rw [fail_stuck he]
theorem sInt2_zero (l : Bs) (h : l.length = 2) : sInt l = 0 ↔ l = [0, 0] := by
  match l, h with
  | [a, b], _ =>
    have ha := a.toNat_lt
    have hb := b.toNat_lt
    constructor
    · intro h
      simp only [sInt, List.foldl_cons, List.foldl_nil, sByte] at h
      have h2 : a.toNat = 0 ∧ b.toNat = 0 := by split at h <;> omega
      have e1 : a = 0 := UInt8.toNat_inj.1 h2.1
      have e2 : b = 0 := UInt8.toNat_inj.1 h2.2
      rw [e1, e2]
    · intro h; rw [h]; decide
theorem keyDec_eq (s : Bs) : keyDec s = keyRd s := by
  have hi := rds_intN 2 (by decide) (by decide)
  have hf := rds_fixed 2 (by decide) (by decide)
  unfold keyRd
  by_cases h1 : s.length < 2
  · rw [if_pos h1]
    obtain ⟨_, q, _, h3⟩ := hi.err s 0 1 (Nat.zero_le _) (by simp [getIntN, h1])
    have h4 : keyA s = (0, ⟨s, q, 1⟩) := h3
    refine keyDec_bad (by decide) (keyJ_stuck (by decide) ?_)
    unfold keyI
    rw [h4]
    rfl
  rw [if_neg h1]
  have ht : (s.take 2).length = 2 := by rw [List.length_take]; omega
  obtain ⟨_, h3⟩ := hi.ok s 0 (sInt (s.take 2)) 2 (Nat.zero_le _) (by simp [getIntN, h1])
  have h4 : keyA s = (sInt (s.take 2), ⟨s, 2, 0⟩) := h3
  by_cases h2 : s.take 2 ≠ [0, 0]
  · rw [if_pos h2]
    have h5 : sInt (s.take 2) ≠ 0 := fun h => h2 ((sInt2_zero _ ht).1 h)
    refine keyDec_bad (by decide) (keyJ_stuck (by decide) ?_)
    unfold keyI
    rw [h4, if_neg h5]
    rfl
  rw [if_neg h2]
  have h5 : sInt (s.take 2) = 0 := (sInt2_zero _ ht).2 (by simpa using h2)
  have hI : keyI s = ⟨s, 2, 0⟩ := by unfold keyI; rw [h4]; exact if_pos h5
  by_cases h6 : s.length < 4
  · rw [if_pos h6]
    obtain ⟨_, q, _, h7⟩ := hf.err s 2 1 (by omega) (if_pos (by rw [List.length_drop]; omega))
    have h8 : (keyI s).text = ([], ⟨s, q, 1⟩) := by
      rw [hI]; unfold InS.text
      have h7' : (⟨s, 2, 0⟩ : InS).fixed 2 = (⟨false, []⟩, ⟨s, q, 1⟩) := h7
      rw [h7']; rfl
    refine keyDec_bad (by decide) ?_
    unfold keyJ
    rw [h8]
    rfl
  rw [if_neg h6]
  have hl : ¬ (s.drop 2).length < 2 := by rw [List.length_drop]; omega
  obtain ⟨n, hn⟩ : ∃ n, sInt ((s.drop 2).take 2) = n := ⟨_, rfl⟩
  have hr : refixed 2 (s.drop 2) = gotS (s.drop 2) 2 n := by rw [← hn]; exact if_neg hl
  rw [hn]
  have hlen : ((s.drop 2).length : Int) - (2 : Nat) = (s.length : Int) - 4 := by rw [List.length_drop]; omega
  unfold gotS at hr
  by_cases g1 : n = -1
  · rw [if_pos (by omega)]
    rw [if_pos g1] at hr
    obtain ⟨_, h7⟩ := hf.ok s 2 _ _ (by omega) hr
    have h7' : (⟨s, 2, 0⟩ : InS).fixed 2 = (BlobS.none, ⟨s, 4, 0⟩) := h7
    refine keyDec_bad (by decide) ?_
    unfold keyJ
    rw [hI]
    unfold InS.text
    rw [h7']
    rfl
  rw [if_neg g1] at hr
  by_cases g2 : n < 0
  · rw [if_pos (by omega)]
    rw [if_pos g2] at hr
    obtain ⟨_, q, _, h7⟩ := hf.err s 2 4 (by omega) hr
    have h7' : (⟨s, 2, 0⟩ : InS).fixed 2 = (⟨false, []⟩, ⟨s, q, 4⟩) := h7
    refine keyDec_bad (by decide) ?_
    unfold keyJ
    rw [hI]
    unfold InS.text
    rw [h7']
    rfl
  rw [if_neg g2, hlen] at hr
  by_cases g3 : (s.length : Int) - 4 < n
  · rw [if_pos g3] at hr
    rw [if_neg (by omega), if_pos g3]
    obtain ⟨_, q, _, h7⟩ := hf.err s 2 1 (by omega) hr
    have h7' : (⟨s, 2, 0⟩ : InS).fixed 2 = (⟨false, []⟩, ⟨s, q, 1⟩) := h7
    refine keyDec_bad (by decide) ?_
    unfold keyJ
    rw [hI]
    unfold InS.text
    rw [h7']
    rfl
  rw [if_neg g3] at hr
  obtain ⟨h9, h7⟩ := hf.ok s 2 _ _ (by omega) hr
  have h7' : (⟨s, 2, 0⟩ : InS).fixed 2 = (⟨false, ((s.drop 2).drop 2).take n.toNat⟩, ⟨s, 4 + n.toNat, 0⟩) := by rw [show 4 + n.toNat = 2 + (2 + n.toNat) by omega]; exact h7
  have h8 : (keyI s).text = (((s.drop 2).drop 2).take n.toNat, ⟨s, 4 + n.toNat, 0⟩) := by rw [hI]; unfold InS.text; rw [h7']; rfl
  rw [List.drop_drop] at h8
  by_cases g4 : n ≤ 0
  · rw [if_pos g4]
    have h0 : n.toNat = 0 := by omega
    rw [h0] at h8
    refine keyDec_bad (by decide) ?_
    unfold keyJ
    rw [h8]
    rfl
  rw [if_neg g4, if_neg g3]
  have hne : (s.drop 4).take n.toNat ≠ [] := by
    intro h
    have := congrArg List.length h
    rw [List.length_take, List.length_drop] at this
    simp at this
    omega
  have hJ : keyJ s = ⟨s, 4 + n.toNat, 0⟩ := by
    unfold keyJ
    rw [h8]
    exact if_neg hne
  unfold keyDec
  rw [hJ, h8]
  by_cases g5 : n < (s.length : Int) - 4
  · rw [if_pos g5]
    have hc : (⟨s, 4 + n.toNat, 0⟩ : InS).close = ⟨s, 4 + n.toNat, 2⟩ := if_pos (by simp only [InS.left]; omega)
    rw [hc]
    rfl
  · rw [if_neg g5]
    have hc : (⟨s, 4 + n.toNat, 0⟩ : InS).close = ⟨s, 4 + n.toNat, 0⟩ := if_neg (by simp only [InS.left]; omega)
    rw [hc, List.take_of_length_le (by rw [List.length_drop]; omega)]
    rfl
theorem keyRd_enc (s : Bs) (id : Bs) (h : keyRd s = (id, 0)) : keyEnc id = (s, 0) := by
  unfold keyRd at h
  split at h
  · cases h
  split at h
  · cases h
  split at h
  · cases h
  split at h
  · cases h
  split at h
  · cases h
  split at h
  · cases h
  rename_i h1 h2 h3 h4 h5 h6
  cases h
  have hl2 : ((s.drop 2).take 2).length = 2 := by rw [List.length_take, List.length_drop]; omega
  have hb := beBytes_sInt ((s.drop 2).take 2)
  rw [hl2] at hb
  have hn : sInt ((s.drop 2).take 2) = ((s.drop 4).length : Int) := by rw [List.length_drop]; omega
  have hr := (sInt_beBytes_iff (sInt ((s.drop 2).take 2)) 2 (by decide)).1 (by rw [hb])
  have h128 : half 2 = 32768 := by decide
  have hright : keyRight (s.drop 4) = true := by
    unfold keyRight
    have h8 : (s.drop 4).length ≤ 32767 := by omega
    have h9 : 0 < (s.drop 4).length := by rw [List.length_drop]; omega
    cases hd : s.drop 4 with
    | nil => rw [hd] at h9; simp at h9
    | cons c t => rw [hd] at h8; simp at h8 ⊢; omega
  unfold keyEnc
  rw [if_pos hright]
  unfold keyBytes
  rw [← hn, hb]
  have e0 : beBytes 0 2 = [0, 0] := by decide
  have e1 : s.take 2 = [0, 0] := by simpa using h2
  rw [e0, ← e1]
  have e2 : s.take 2 ++ (s.drop 2).take 2 ++ s.drop 4 = s := by
    have h7 : (s.drop 2).take 2 ++ s.drop 4 = s.drop 2 := by
      have := List.take_append_drop 2 (s.drop 2)
      rw [List.drop_drop] at this
      exact this
    rw [List.append_assoc, h7, List.take_append_drop]
  rw [e2]
theorem keyRd_back (s : Bs) (h : keyRight s = true) : keyRd (keyBytes s) = (s, 0) := by
  have hne : 0 < s.length := by
    cases s with
    | nil => simp [keyRight] at h
    | cons => simp
  have hle : s.length ≤ 32767 := by
    unfold keyRight at h
    simp at h
    exact h.2
  have e0 : beBytes 0 2 = [0, 0] := by decide
  have hb := beBytes_length s.length 2
  have e1 : keyBytes s = [0, 0] ++ (beBytes s.length 2 ++ s) := by unfold keyBytes; rw [e0, List.append_assoc]
  have h128 : half 2 = 32768 := by decide
  have hn : sInt (beBytes s.length 2) = s.length := (sInt_beBytes_iff _ 2 (by decide)).2 (by omega)
  have hd2 : (keyBytes s).drop 2 = beBytes s.length 2 ++ s := by rw [e1]; rfl
  have ht2 : ((keyBytes s).drop 2).take 2 = beBytes s.length 2 := by rw [hd2, List.take_append_of_le_length (by omega), List.take_of_length_le (by omega)]
  have hl : (keyBytes s).length = 4 + s.length := by rw [e1]; simp only [List.length_append, hb, List.length_cons, List.length_nil]; omega
  have hd4 : (keyBytes s).drop 4 = s := by
    have : (keyBytes s).drop 4 = ((keyBytes s).drop 2).drop 2 := by rw [List.drop_drop]
    rw [this, hd2, List.drop_append_of_le_length (by omega), List.drop_of_length_le (by omega), List.nil_append]
  unfold keyRd
  rw [if_neg (by omega), if_neg (by rw [e1]; simp), if_neg (by omega), ht2, hn, if_neg (by omega), if_neg (by omega), if_neg (by omega), hd4]

end Go.Proofs.YtenojajfacacoaaDoor
/- Numbers of fixed sizes, one behind the other. -/
namespace Go.Proofs.YtenojajfacacoaaDoor
open Go.RowKit

/-- Some numbers, one behind the other, read. -/
def InS.ints : List Nat → InS → List Int × InS
  | [], i => ([], i)
  | k :: t, i => ((i.int k).1 :: (InS.ints t (i.int k).2).1, (InS.ints t (i.int k).2).2)
def intsOf : List Nat → Bs → List Int
  | [], _ => []
  | k :: t, s => sInt (s.take k) :: intsOf t (s.drop k)
theorem int_okA (k : Nat) (h1 : 1 ≤ k) (h8 : k ≤ 8) (s : Bs) (pos : Nat) (hp : pos + k ≤ s.length) : (⟨s, pos, 0⟩ : InS).int k = (sInt ((s.drop pos).take k), ⟨s, pos + k, 0⟩) := by
  have h := (rds_intN k h1 h8).ok s pos (sInt ((s.drop pos).take k)) k (by omega) (by unfold getIntN; rw [if_neg (by rw [List.length_drop]; omega)])
  exact h.2
theorem int_shortA (k : Nat) (h1 : 1 ≤ k) (h8 : k ≤ 8) (s : Bs) (pos : Nat) (hp : pos ≤ s.length) (hs : s.length < pos + k) : ∃ q, q ≤ s.length ∧ (⟨s, pos, 0⟩ : InS).int k = (0, ⟨s, q, 1⟩) := by
  exact ((rds_intN k h1 h8).err s pos 1 hp (by unfold getIntN; rw [if_pos (by rw [List.length_drop]; omega)])).2
theorem int_stuckA (k : Nat) (h1 : 1 ≤ k) (h8 : k ≤ 8) (i : InS) (h : i.err ≠ 0) : i.int k = (0, i) := (rds_intN k h1 h8).stuck i h
theorem ints_ok : ∀ (l : List Nat) (s : Bs) (pos : Nat), (∀ k ∈ l, 1 ≤ k ∧ k ≤ 8) → pos + l.sum ≤ s.length → InS.ints l ⟨s, pos, 0⟩ = (intsOf l (s.drop pos), ⟨s, pos + l.sum, 0⟩)
  | [], s, pos, _, _ => by simp [InS.ints, intsOf]
  | k :: t, s, pos, hk, hp => by
    have h1 := hk k (by simp)
    rw [List.sum_cons] at hp
    have h2 := int_okA k h1.1 h1.2 s pos (by omega)
    have h3 := ints_ok t s (pos + k) (fun x hx => hk x (by simp [hx])) (by omega)
    unfold InS.ints intsOf
    rw [h2]
    simp only
    rw [h3, List.drop_drop, List.sum_cons, Nat.add_assoc]
theorem ints_stuck : ∀ (l : List Nat) (i : InS), (∀ k ∈ l, 1 ≤ k ∧ k ≤ 8) → i.err ≠ 0 → InS.ints l i = (l.map fun _ => 0, i)
  | [], _, _, _ => rfl
  | k :: t, i, hk, hi => by
    have h1 := hk k (by simp)
    unfold InS.ints
    rw [int_stuckA k h1.1 h1.2 i hi]
    simp only
    rw [ints_stuck t i (fun x hx => hk x (by simp [hx])) hi]
    rfl
theorem ints_short : ∀ (l : List Nat) (s : Bs) (pos : Nat), (∀ k ∈ l, 1 ≤ k ∧ k ≤ 8) → pos ≤ s.length → s.length < pos + l.sum → ∃ q, q ≤ s.length ∧ (InS.ints l ⟨s, pos, 0⟩).2 = ⟨s, q, 1⟩
  | [], s, pos, _, h1, h2 => by simp at h2; omega
  | k :: t, s, pos, hk, hp, hs => by
    have h1 := hk k (by simp)
    rw [List.sum_cons] at hs
    unfold InS.ints
    by_cases h : pos + k ≤ s.length
    · rw [int_okA k h1.1 h1.2 s pos h]
      exact ints_short t s (pos + k) (fun x hx => hk x (by simp [hx])) h (by omega)
    · obtain ⟨q, hq, e⟩ := int_shortA k h1.1 h1.2 s pos hp (by omega)
      rw [e]
      refine ⟨q, hq, ?_⟩
      simp only
      rw [ints_stuck t _ (fun x hx => hk x (by simp [hx])) (show (1 : Int) ≠ 0 by decide)]
theorem intsOf_length : ∀ (l : List Nat) (s : Bs), (intsOf l s).length = l.length
  | [], _ => rfl
  | k :: t, s => by simp [intsOf, intsOf_length t]

/-- Some numbers, one behind the other, written. -/
def OutS.ints (o : OutS) (l : List (Int × Nat)) : OutS := l.foldl (fun o x => o.int x.1 x.2) o
def encInts (l : List (Int × Nat)) : Bs := l.flatMap fun x => beBytes x.1 x.2
def FitsAll (l : List (Int × Nat)) : Prop := ∀ x ∈ l, fits x.1 x.2
instance (l : List (Int × Nat)) : Decidable (FitsAll l) := by unfold FitsAll; infer_instance
theorem OutS.put_err {o : OutS} (h : o.err ≠ 0) (s : Bs) : o.put s = o := if_neg h
theorem OutS.fail_stuck {o : OutS} (h : o.err ≠ 0) (e : Int) : o.fail e = o := if_neg h
theorem OutS.int_stuck {o : OutS} (h : o.err ≠ 0) (n k : Int) : o.int n k = o := by
  unfold OutS.int; split
  · exact OutS.put_err h _
  · exact OutS.fail_stuck h _
theorem OutS.ints_stuck : ∀ (l : List (Int × Nat)) (o : OutS), o.err ≠ 0 → o.ints l = o
  | [], _, _ => rfl
  | x :: t, o, h => by
    show OutS.ints (o.int x.1 x.2) t = o
    rw [OutS.int_stuck h]
    exact OutS.ints_stuck t o h
theorem OutS.ints_put : ∀ (l : List (Int × Nat)) (o : OutS), FitsAll l → o.ints l = o.put (encInts l)
  | [], o, _ => by show o = o.put []; rw [OutS.put_nil]
  | x :: t, o, h => by
    show OutS.ints (o.int x.1 x.2) t = _
    rw [OutS.ints_put t _ (fun y hy => h y (by simp [hy]))]
    unfold OutS.int
    rw [if_pos (h x (by simp)), OutS.put_put, Int.toNat_natCast]
    rfl
theorem OutS.ints_fail : ∀ (l : List (Int × Nat)) (o : OutS), ¬ FitsAll l → o.err = 0 → (o.ints l).err = 11
  | [], o, h, _ => absurd (fun _ hx => by cases hx) h
  | x :: t, o, h, he => by
    show (OutS.ints (o.int x.1 x.2) t).err = 11
    by_cases h1 : fits x.1 x.2
    · refine OutS.ints_fail t _ (fun h2 => h ?_) ?_
      · intro y hy
        rcases List.mem_cons.1 hy with rfl | hy
        · exact h1
        · exact h2 y hy
      · unfold OutS.int OutS.put
        rw [if_pos h1, if_pos he]
        exact he
    · unfold OutS.int
      rw [if_neg h1]
      have : (o.fail 11).err = 11 := by unfold OutS.fail; rw [if_pos he]
      rw [OutS.ints_stuck t _ (by rw [this]; decide), this]
theorem encInts_length (l : List (Int × Nat)) : (encInts l).length = (l.map (·.2)).sum := by
  induction l with
  | nil => rfl
  | cons x t ih => unfold encInts at *; rw [List.flatMap_cons, List.length_append, beBytes_length, ih]; rfl
theorem intsOf_enc : ∀ (l : List (Int × Nat)) (rest : Bs), FitsAll l → intsOf (l.map (·.2)) (encInts l ++ rest) = l.map (·.1)
  | [], _, _ => rfl
  | x :: t, rest, h => by
    have h1 := h x (by simp)
    have hs : 1 ≤ x.2 := by have := h1.1; omega
    have h2 := intsOf_enc t rest (fun y hy => h y (by simp [hy]))
    have e : encInts (x :: t) = beBytes x.1 x.2 ++ encInts t := rfl
    have h3 : (beBytes x.1 x.2 ++ (encInts t ++ rest)).take x.2 = beBytes x.1 x.2 := by
      have h4 := beBytes_length x.1 x.2
      rw [List.take_append_of_le_length (by omega), List.take_of_length_le (by omega)]
    have h4 : (beBytes x.1 x.2 ++ (encInts t ++ rest)).drop x.2 = encInts t ++ rest := by
      rw [List.drop_left' (beBytes_length x.1 x.2)]
    have hfit := h1.2.2
    rw [Int.toNat_natCast] at hfit
    show intsOf (x.2 :: t.map (·.2)) (encInts (x :: t) ++ rest) = x.1 :: t.map (·.1)
    rw [e, List.append_assoc]
    unfold intsOf
    rw [h3, h4, (sInt_beBytes_iff x.1 x.2 hs).2 hfit, h2]
theorem sInt_fits (s : Bs) (k : Nat) (h1 : 1 ≤ k) (h8 : k ≤ 8) (hl : s.length = k) : fits (sInt s) k := by
  have h := beBytes_sInt s
  have h2 : sInt (beBytes (sInt s) k) = sInt s := by rw [← hl, h]
  have h3 := (sInt_beBytes_iff (sInt s) k h1).1 h2
  refine ⟨by omega, by omega, ?_⟩
  rw [Int.toNat_natCast]
  exact h3
theorem fits_intsOf : ∀ (l : List Nat) (s : Bs), (∀ k ∈ l, 1 ≤ k ∧ k ≤ 8) → l.sum ≤ s.length → FitsAll ((intsOf l s).zip l)
  | [], _, _, _ => fun _ hx => by cases hx
  | k :: t, s, hk, hs => by
    have h1 := hk k (by simp)
    rw [List.sum_cons] at hs
    have h2 := fits_intsOf t (s.drop k) (fun x hx => hk x (by simp [hx])) (by rw [List.length_drop]; omega)
    intro x hx
    unfold intsOf at hx
    rw [List.zip_cons_cons] at hx
    rcases List.mem_cons.1 hx with rfl | hx
    · exact sInt_fits _ k h1.1 h1.2 (by rw [List.length_take]; omega)
    · exact h2 x hx
theorem enc_intsOf : ∀ (l : List Nat) (s : Bs), l.sum ≤ s.length → encInts ((intsOf l s).zip l) = s.take l.sum
  | [], _, _ => by simp [encInts, intsOf]
  | k :: t, s, hs => by
    rw [List.sum_cons] at hs
    have h2 := enc_intsOf t (s.drop k) (by rw [List.length_drop]; omega)
    unfold intsOf
    rw [List.zip_cons_cons]
    show beBytes (sInt (s.take k)) k ++ encInts _ = _
    rw [h2, List.sum_cons]
    have h3 := beBytes_sInt (s.take k)
    rw [List.length_take, Nat.min_eq_left (by omega)] at h3
    rw [h3, List.take_add]

end Go.Proofs.YtenojajfacacoaaDoor
/- Headers, there and back. -/
namespace Go.Proofs.YtenojajfacacoaaDoor
open Go.RowKit

/-- What is written and what went wrong: a writer's answer. -/
def OutS.Good (o o' : OutS) (b : Bs) : Prop := o' = o.put b
theorem putVaried_right {o : OutS} {x : BlobS} (hx : x.right = true) (hl : x.data.length ≤ 2147483647) : o.putVaried x = o.put (encV x) := by
  unfold OutS.putVaried OutS.putData
  rw [if_pos hx]
  have hr : -2147483648 ≤ x.len ∧ x.len < 2147483648 := by unfold BlobS.len; split <;> omega
  have h1 : o.putInt x.len = o.put (putU (foldN x.len)) := by
    unfold OutS.putInt
    rw [if_pos (by have e4 : half 4 = 2147483648 := by decide
                   unfold fits
                   have : (4 : Int).toNat = 4 := rfl
                   rw [this, e4]; omega)]
  rw [h1, OutS.put_put]
  rfl
theorem putVaried_err {o : OutS} {x : BlobS} (h : o.err ≠ 0) : (o.putVaried x) = o := by
  unfold OutS.putVaried OutS.putData OutS.putInt
  have h1 : ∀ e, o.fail e = o := fun e => OutS.fail_stuck h e
  have h2 : ∀ s, o.put s = o := fun s => OutS.put_err h s
  simp only [h1, h2, ite_self]
theorem putVaried_wrong {o : OutS} {x : BlobS} (hx : x.right = false) (hl : x.data.length ≤ 2147483647) (he : o.err = 0) : (o.putVaried x).err = 4 := by
  unfold OutS.putVaried OutS.putData
  rw [if_neg (by rw [hx]; decide)]
  have hr : -2147483648 ≤ x.len ∧ x.len < 2147483648 := by unfold BlobS.len; split <;> omega
  have h1 : o.putInt x.len = o.put (putU (foldN x.len)) := by
    unfold OutS.putInt
    rw [if_pos (by have e4 : half 4 = 2147483648 := by decide
                   unfold fits
                   have : (4 : Int).toNat = 4 := rfl
                   rw [this, e4]; omega)]
  rw [h1]
  have h2 : (o.put (putU (foldN x.len))).err = 0 := by unfold OutS.put; rw [if_pos he]; exact he
  have h3 : ((o.put (putU (foldN x.len))).fail 4).err = 4 := by unfold OutS.fail; rw [if_pos h2]
  rw [OutS.put_err (by rw [h3]; decide), h3]
def encH (h : HdrS) : Bs := encV ⟨false, h.key⟩ ++ encV h.val
def encI (n : Int) : Bs := putU (foldN n)
def encHs (l : List HdrS) : Bs := encI l.length ++ l.flatMap encH
def hright (l : List HdrS) : Bool := l.all fun h => h.val.right
def hsum (l : List HdrS) : Nat := (l.map fun h => h.key.length + h.val.data.length + 1).sum
theorem hsum_cons (h : HdrS) (t : List HdrS) : hsum (h :: t) = h.key.length + h.val.data.length + 1 + hsum t := rfl
theorem hsum_le : ∀ (l : List HdrS), l.length ≤ hsum l ∧ hsize l = hsum l + 31 * l.length ∧ ∀ h ∈ l, h.key.length + h.val.data.length + 1 ≤ hsum l
  | [] => by simp [hsum, hsize]
  | h :: t => by
    obtain ⟨a, b, c⟩ := hsum_le t
    have e : hsize (h :: t) = h.size + hsize t := rfl
    rw [hsum_cons, e, b, List.length_cons]
    unfold HdrS.size
    refine ⟨by omega, by omega, ?_⟩
    intro x hx
    rcases List.mem_cons.1 hx with rfl | hx
    · omega
    · have := c x hx; omega
theorem putHdr_right {o : OutS} {h : HdrS} (hx : h.val.right = true) (hl : h.key.length + h.val.data.length ≤ 2147483647) : o.putHdr h = o.put (encH h) := by
  unfold OutS.putHdr OutS.putName
  rw [putVaried_right (x := ⟨false, h.key⟩) rfl (by simp only; omega), putVaried_right hx (by omega), OutS.put_put]
  rfl
theorem putHdr_err {o : OutS} {h : HdrS} (he : o.err ≠ 0) : o.putHdr h = o := by
  unfold OutS.putHdr OutS.putName
  rw [putVaried_err he, putVaried_err he]
theorem putHdr_wrong {o : OutS} {h : HdrS} (hx : h.val.right = false) (hl : h.key.length + h.val.data.length ≤ 2147483647) (he : o.err = 0) : (o.putHdr h).err = 4 := by
  unfold OutS.putHdr OutS.putName
  rw [putVaried_right (x := ⟨false, h.key⟩) rfl (by simp only; omega)]
  exact putVaried_wrong hx (by omega) (by unfold OutS.put; rw [if_pos he]; exact he)
theorem foldl_hdr_err : ∀ (l : List HdrS) (o : OutS), o.err ≠ 0 → l.foldl OutS.putHdr o = o
  | [], _, _ => rfl
  | h :: t, o, he => by
    rw [List.foldl_cons, putHdr_err he]
    exact foldl_hdr_err t o he
theorem foldl_hdr_right : ∀ (l : List HdrS) (o : OutS), hright l = true → hsum l ≤ 2147483647 → l.foldl OutS.putHdr o = o.put (l.flatMap encH)
  | [], o, _, _ => by rw [List.flatMap_nil, OutS.put_nil]; rfl
  | h :: t, o, hr, hs => by
    unfold hright at hr
    rw [List.all_cons, Bool.and_eq_true] at hr
    rw [hsum_cons] at hs
    rw [List.foldl_cons, putHdr_right hr.1 (by omega), foldl_hdr_right t _ hr.2 (by omega), OutS.put_put]
    rfl
theorem foldl_hdr_wrong : ∀ (l : List HdrS) (o : OutS), hright l = false → hsum l ≤ 2147483647 → o.err = 0 → (l.foldl OutS.putHdr o).err = 4
  | [], _, hr, _, _ => by cases hr
  | h :: t, o, hr, hs, he => by
    unfold hright at hr
    rw [List.all_cons] at hr
    rw [hsum_cons] at hs
    rw [List.foldl_cons]
    cases hv : h.val.right
    · have h1 := putHdr_wrong (o := o) hv (by omega) he
      rw [foldl_hdr_err t _ (by rw [h1]; decide), h1]
    · rw [hv, Bool.true_and] at hr
      refine foldl_hdr_wrong t _ hr (by omega) ?_
      rw [putHdr_right hv (by omega)]
      unfold OutS.put
      rw [if_pos he]
      exact he
theorem putInt_len {o : OutS} {n : Int} (h0 : -2147483648 ≤ n) (h1 : n < 2147483648) : o.putInt n = o.put (encI n) := by
  unfold OutS.putInt
  rw [if_pos (by have e4 : half 4 = 2147483648 := by decide
                 unfold fits
                 have : (4 : Int).toNat = 4 := rfl
                 rw [this, e4]; omega)]
  rfl
theorem putHdrs_right {o : OutS} {l : List HdrS} (hr : hright l = true) (hs : hsum l ≤ 2147483647) : o.putHdrs l = o.put (encHs l) := by
  have := (hsum_le l).1
  unfold OutS.putHdrs
  rw [putInt_len (by omega) (by omega), foldl_hdr_right l _ hr hs, OutS.put_put]
  rfl
theorem putHdrs_wrong {o : OutS} {l : List HdrS} (hr : hright l = false) (hs : hsum l ≤ 2147483647) (he : o.err = 0) : (o.putHdrs l).err = 4 := by
  have := (hsum_le l).1
  unfold OutS.putHdrs
  rw [putInt_len (by omega) (by omega)]
  exact foldl_hdr_wrong l _ hr hs (by unfold OutS.put; rw [if_pos he]; exact he)

/-- A header with which bytes begin. -/
def reHdr (l : Bs) : Except Int (HdrS × Nat) := match revaried l with
  | .error e => .error e
  | .ok x => if x.1.null then .error 4 else match revaried (l.drop x.2) with
    | .error e => .error e
    | .ok y => .ok (⟨x.1.data, y.1⟩, x.2 + y.2)
def reHdrN : Nat → Bs → Except Int (List HdrS × Nat)
  | 0, _ => .ok ([], 0)
  | n + 1, l => match reHdr l with
    | .error e => .error e
    | .ok x => match reHdrN n (l.drop x.2) with
      | .error e => .error e
      | .ok y => .ok (x.1 :: y.1, x.2 + y.2)
def reHdrs (l : Bs) : Except Int (List HdrS × Nat) := match vgetI l with
  | .error e => .error e
  | .ok x => if x.1 < 0 then .error 4 else if ((l.length : Int) - x.2) / 2 < x.1 then .error 1 else match reHdrN x.1.toNat (l.drop x.2) with
    | .error e => .error e
    | .ok y => .ok (y.1, x.2 + y.2)
theorem InS.fail_ok0' (s : Bs) (p : Nat) (e : Int) : (⟨s, p, 0⟩ : InS).fail e = ⟨s, p, e⟩ := rfl
theorem name_stuck {i : InS} (h : i.err ≠ 0) : i.name = ([], i) := by
  unfold InS.name
  rw [rds_varied.stuck i h]
  rfl
theorem reHdr_ok {s : Bs} {pos : Nat} {h : HdrS} {m : Nat} (hp : pos ≤ s.length) (e : reHdr (s.drop pos) = .ok (h, m)) : pos + m ≤ s.length ∧ (⟨s, pos, 0⟩ : InS).name.1 = h.key ∧ (⟨s, pos, 0⟩ : InS).name.2.varied = (h.val, ⟨s, pos + m, 0⟩) := by
  unfold reHdr at e
  cases h1 : revaried (s.drop pos) with
  | error e1 => rw [h1] at e; cases e
  | ok x =>
    rw [h1] at e
    obtain ⟨g1, g2⟩ := rds_varied.ok s pos x.1 x.2 hp h1
    cases hn : x.1.null
    · simp only [hn] at e
      cases h2 : revaried ((s.drop pos).drop x.2) with
      | error e2 => rw [h2] at e; cases e
      | ok y =>
        rw [h2] at e
        cases e
        rw [List.drop_drop] at h2
        obtain ⟨g3, g4⟩ := rds_varied.ok s (pos + x.2) y.1 y.2 g1 h2
        unfold InS.name InS.bytes
        rw [g2]
        rw [Nat.add_assoc] at g3 g4
        refine ⟨g3, rfl, ?_⟩
        show (if x.1.null = true then (⟨s, pos + x.2, 0⟩ : InS).fail 4 else ⟨s, pos + x.2, 0⟩).varied = _
        rw [hn]
        exact g4
    · simp [hn] at e
theorem reHdr_err {s : Bs} {pos : Nat} {e : Int} (hp : pos ≤ s.length) (h : reHdr (s.drop pos) = .error e) : e ≠ 0 ∧ ∃ q, q ≤ s.length ∧ (⟨s, pos, 0⟩ : InS).name.2.varied.2 = ⟨s, q, e⟩ := by
  unfold reHdr at h
  cases h1 : revaried (s.drop pos) with
  | error e1 =>
    rw [h1] at h
    cases h
    obtain ⟨g1, q, g2, g3⟩ := rds_varied.err s pos e hp h1
    refine ⟨g1, q, g2, ?_⟩
    unfold InS.name InS.bytes
    rw [g3]
    show (InS.varied ⟨s, q, e⟩).2 = _
    rw [rds_varied.stuck ⟨s, q, e⟩ g1]
  | ok x =>
    rw [h1] at h
    obtain ⟨g1, g2⟩ := rds_varied.ok s pos x.1 x.2 hp h1
    unfold InS.name InS.bytes
    rw [g2]
    simp only
    cases hn : x.1.null
    · simp only [hn] at h
      cases h2 : revaried ((s.drop pos).drop x.2) with
      | error e2 =>
        rw [h2] at h
        cases h
        rw [List.drop_drop] at h2
        obtain ⟨g3, q, g4, g5⟩ := rds_varied.err s (pos + x.2) e g1 h2
        refine ⟨g3, q, g4, ?_⟩
        show (InS.varied ⟨s, pos + x.2, 0⟩).2 = _
        rw [g5]
      | ok y => rw [h2] at h; cases h
    · simp [hn] at h
      subst h
      refine ⟨by decide, pos + x.2, g1, ?_⟩
      show (InS.varied ⟨s, pos + x.2, 4⟩).2 = _
      rw [rds_varied.stuck ⟨s, pos + x.2, 4⟩ (show (4 : Int) ≠ 0 by decide)]
theorem hdrLoop_at : ∀ (n : Nat) (acc : List HdrS) (s : Bs) (pos : Nat), pos ≤ s.length →
    (∀ t k, reHdrN n (s.drop pos) = .ok (t, k) → pos + k ≤ s.length ∧ InS.hdrLoop n acc ⟨s, pos, 0⟩ = (acc ++ t, ⟨s, pos + k, 0⟩)) ∧
    (∀ e, reHdrN n (s.drop pos) = .error e → e ≠ 0 ∧ ∃ q, q ≤ s.length ∧ InS.hdrLoop n acc ⟨s, pos, 0⟩ = ([], ⟨s, q, e⟩))
  | 0, acc, s, pos, hp => ⟨fun t k h => (by cases h; simp [InS.hdrLoop]; exact hp), fun e h => (by cases h)⟩
  | n + 1, acc, s, pos, hp => by
    unfold reHdrN InS.hdrLoop
    cases h1 : reHdr (s.drop pos) with
    | error e1 =>
      refine ⟨fun t k h => (by cases h), fun e h => ?_⟩
      cases h
      obtain ⟨g1, q, g2, g3⟩ := reHdr_err hp h1
      refine ⟨g1, q, g2, ?_⟩
      rw [g3, if_neg g1]
    | ok x =>
      obtain ⟨g1, g2, g3⟩ := reHdr_ok hp h1
      have ih := hdrLoop_at n (acc ++ [x.1]) s (pos + x.2) g1
      rw [g2, g3]
      simp only [if_true]
      rw [List.drop_drop]
      refine ⟨fun t k h => ?_, fun e h => ?_⟩
      · cases h2 : reHdrN n (s.drop (pos + x.2)) with
        | error e2 => rw [h2] at h; cases h
        | ok y =>
          rw [h2] at h
          cases h
          obtain ⟨a, b⟩ := ih.1 y.1 y.2 h2
          refine ⟨by omega, ?_⟩
          rw [b, List.append_assoc, Nat.add_assoc]
          rfl
      · cases h2 : reHdrN n (s.drop (pos + x.2)) with
        | error e2 =>
          rw [h2] at h
          cases h
          exact ih.2 e h2
        | ok y => rw [h2] at h; cases h
theorem hdrLoop_stuck {i : InS} (h : i.err ≠ 0) (n : Nat) : InS.hdrLoop n [] i = ([], i) := by
  cases n with
  | zero => rfl
  | succ n =>
    unfold InS.hdrLoop
    rw [name_stuck h]
    simp only
    rw [rds_varied.stuck i h, if_neg h]
theorem rds_hdrs : Rds InS.hdrs reHdrs [] := by
  refine ⟨?_, ?_, ?_⟩
  · intro s pos a k hp h
    unfold reHdrs at h
    cases h1 : vgetI (s.drop pos) with
    | error e1 => rw [h1] at h; cases h
    | ok x =>
      rw [h1] at h
      obtain ⟨g1, g2⟩ := rds_int.ok s pos x.1 x.2 hp h1
      simp only at h
      split at h
      · cases h
      rename_i hn
      split at h
      · cases h
      rename_i hm
      rw [List.length_drop] at hm
      rw [List.drop_drop] at h
      cases h2 : reHdrN x.1.toNat (s.drop (pos + x.2)) with
      | error e2 => rw [h2] at h; cases h
      | ok y =>
        rw [h2] at h
        cases h
        obtain ⟨a1, b1⟩ := (hdrLoop_at x.1.toNat [] s (pos + x.2) g1).1 y.1 y.2 h2
        refine ⟨by omega, ?_⟩
        unfold InS.hdrs InS.hdrHead
        rw [g2]
        simp only
        rw [if_neg hn, if_neg (by simp only [InS.left]; omega), b1, List.nil_append, Nat.add_assoc]
  · intro s pos e hp h
    unfold reHdrs at h
    cases h1 : vgetI (s.drop pos) with
    | error e1 =>
      rw [h1] at h
      cases h
      obtain ⟨g1, q, g2, g3⟩ := rds_int.err s pos e hp h1
      refine ⟨g1, q, g2, ?_⟩
      unfold InS.hdrs InS.hdrHead
      rw [g3]
      simp only
      rw [if_neg (by decide), if_neg (by omega)]
      rfl
    | ok x =>
      rw [h1] at h
      obtain ⟨g1, g2⟩ := rds_int.ok s pos x.1 x.2 hp h1
      simp only at h
      unfold InS.hdrs InS.hdrHead
      rw [g2]
      simp only
      split at h
      · rename_i hn
        cases h
        rw [if_pos hn, InS.fail_ok0']
        exact ⟨by decide, _, g1, hdrLoop_stuck (show (4 : Int) ≠ 0 by decide) _⟩
      rename_i hn
      rw [if_neg hn]
      split at h
      · rename_i hm
        cases h
        rw [List.length_drop] at hm
        rw [if_pos (by simp only [InS.left]; omega), InS.fail_ok0']
        exact ⟨by decide, _, g1, hdrLoop_stuck (show (1 : Int) ≠ 0 by decide) _⟩
      rename_i hm
      rw [List.length_drop] at hm
      rw [if_neg (by simp only [InS.left]; omega)]
      rw [List.drop_drop] at h
      cases h2 : reHdrN x.1.toNat (s.drop (pos + x.2)) with
      | error e2 =>
        rw [h2] at h
        cases h
        exact (hdrLoop_at x.1.toNat [] s (pos + x.2) g1).2 e h2
      | ok y => rw [h2] at h; cases h
  · intro i hi
    unfold InS.hdrs InS.hdrHead
    rw [rds_int.stuck i hi]
    simp only
    rw [if_neg (by decide), if_neg (by omega)]
    rfl

/-- One spelling. -/
theorem revaried_one {l : Bs} {b : BlobS} {m : Nat} (h : revaried l = .ok (b, m)) : encV b = l.take m ∧ 0 < m ∧ m ≤ l.length ∧ b.right = true ∧ b.data.length < 2147483648 ∧ b.data.length < m + (if b.null then 1 else 0) := by
  unfold revaried at h
  cases h1 : vgetI l with
  | error e => rw [h1] at h; cases h
  | ok x =>
    obtain ⟨n, k⟩ := x
    rw [h1] at h
    obtain ⟨g1, g2, g3, g4, g5⟩ := vgetI_one h1
    unfold gotS at h
    simp only at h
    split at h
    · rename_i hn
      cases h
      subst hn
      refine ⟨?_, g2, g3, rfl, by simp [BlobS.none], by simp [BlobS.none]⟩
      unfold encV
      rw [← g1]
      show putU (foldN (-1)) ++ [] = _
      rw [List.append_nil]
    · rename_i hn
      split at h
      · cases h
      · rename_i hn0
        split at h
        · cases h
        · rename_i hm
          cases h
          have hl : (l.drop k).length = l.length - k := List.length_drop
          have hd : ((l.drop k).take n.toNat).length = n.toNat := by rw [List.length_take, hl]; omega
          refine ⟨?_, by omega, by omega, rfl, by simp only; rw [hd]; omega, by simp only; rw [hd]; omega⟩
          unfold encV
          have e : (⟨false, (l.drop k).take n.toNat⟩ : BlobS).len = n := by
            unfold BlobS.len
            simp only [Bool.false_eq_true, if_false]
            rw [hd]; omega
          rw [e, g1, List.take_add]
theorem reHdr_one {l : Bs} {h : HdrS} {m : Nat} (e : reHdr l = .ok (h, m)) : encH h = l.take m ∧ 2 ≤ m ∧ m ≤ l.length ∧ h.val.right = true ∧ h.key.length + h.val.data.length + 1 ≤ m := by
  unfold reHdr at e
  cases h1 : revaried l with
  | error e1 => rw [h1] at e; cases e
  | ok x =>
    rw [h1] at e
    cases hn : x.1.null
    · simp only [hn] at e
      cases h2 : revaried (l.drop x.2) with
      | error e2 => rw [h2] at e; cases e
      | ok y =>
        rw [h2] at e
        cases e
        obtain ⟨a1, a2, a3, a4, a5, a6⟩ := revaried_one h1
        obtain ⟨b1, b2, b3, b4, b5, b6⟩ := revaried_one h2
        rw [List.length_drop] at b3
        rw [hn] at a6
        simp only [Bool.false_eq_true, if_false] at a6
        refine ⟨?_, by omega, by omega, b4, ?_⟩
        · unfold encH
          have ex : (⟨false, x.1.data⟩ : BlobS) = x.1 := by cases hx : x.1; rw [hx] at hn; simp only at hn; rw [hn]
          simp only
          rw [ex, a1, b1, List.take_add]
        · simp only
          by_cases hy : y.1.null = true
          · have : y.1.data = [] := by unfold BlobS.right at b4; rw [hy] at b4; simpa using b4
            rw [this]; simp only [List.length_nil]; omega
          · rw [if_neg hy] at b6; omega
    · simp [hn] at e
theorem reHdrN_one : ∀ (n : Nat) (l : Bs) (t : List HdrS) (m : Nat), reHdrN n l = .ok (t, m) → t.flatMap encH = l.take m ∧ m ≤ l.length ∧ t.length = n ∧ hright t = true ∧ hsum t ≤ m
  | 0, l, t, m, h => by cases h; simp [hright, hsum]
  | n + 1, l, t, m, h => by
    unfold reHdrN at h
    cases h1 : reHdr l with
    | error e1 => rw [h1] at h; cases h
    | ok x =>
      rw [h1] at h
      simp only at h
      cases h2 : reHdrN n (l.drop x.2) with
      | error e2 => rw [h2] at h; cases h
      | ok y =>
        rw [h2] at h
        cases h
        obtain ⟨a1, a2, a3, a4, a5⟩ := reHdr_one h1
        obtain ⟨b1, b2, b3, b4, b5⟩ := reHdrN_one n (l.drop x.2) y.1 y.2 h2
        rw [List.length_drop] at b2
        refine ⟨?_, by omega, by simp [b3], ?_, ?_⟩
        · rw [List.flatMap_cons, a1, b1, List.take_add]
        · unfold hright at *
          rw [List.all_cons, a4, b4]; rfl
        · rw [hsum_cons]; omega
theorem reHdrs_one {l : Bs} {t : List HdrS} {m : Nat} (h : reHdrs l = .ok (t, m)) : encHs t = l.take m ∧ 0 < m ∧ m ≤ l.length ∧ hright t = true ∧ hsum t ≤ m := by
  unfold reHdrs at h
  cases h1 : vgetI l with
  | error e => rw [h1] at h; cases h
  | ok x =>
    rw [h1] at h
    obtain ⟨g1, g2, g3, g4, g5⟩ := vgetI_one h1
    simp only at h
    split at h
    · cases h
    rename_i hn
    split at h
    · cases h
    cases h2 : reHdrN x.1.toNat (l.drop x.2) with
    | error e2 => rw [h2] at h; cases h
    | ok y =>
      rw [h2] at h
      cases h
      obtain ⟨b1, b2, b3, b4, b5⟩ := reHdrN_one _ _ _ _ h2
      rw [List.length_drop] at b2
      refine ⟨?_, by omega, by omega, b4, by omega⟩
      unfold encHs encI
      have e : (y.1.length : Int) = x.1 := by rw [b3]; omega
      rw [e, g1, b1, List.take_add]

/-- There and back. -/
theorem putU_pos (u : Nat) : 1 ≤ (putU u).length := by
  rw [putU]
  split <;> simp
theorem encV_pos (b : BlobS) : 1 ≤ (encV b).length := by
  have h := putU_pos (foldN b.len)
  unfold encV
  rw [List.length_append]; omega
theorem reHdr_back (h : HdrS) (hr : h.val.right = true) (hl : h.key.length + h.val.data.length ≤ 2147483647) (rest : Bs) : reHdr (encH h ++ rest) = .ok (h, (encH h).length) := by
  unfold reHdr encH
  rw [List.append_assoc, revaried_back ⟨false, h.key⟩ rfl (by simp only; omega)]
  simp only [Bool.false_eq_true, if_false]
  rw [List.drop_left' rfl, revaried_back h.val hr (by omega)]
  simp only [List.length_append]
theorem reHdrN_back : ∀ (t : List HdrS) (rest : Bs), hright t = true → hsum t ≤ 2147483647 → reHdrN t.length (t.flatMap encH ++ rest) = .ok (t, (t.flatMap encH).length)
  | [], _, _, _ => rfl
  | h :: t, rest, hr, hs => by
    unfold hright at hr
    rw [List.all_cons, Bool.and_eq_true] at hr
    rw [hsum_cons] at hs
    rw [List.length_cons, List.flatMap_cons, List.append_assoc]
    unfold reHdrN
    rw [reHdr_back h hr.1 (by omega)]
    simp only
    rw [List.drop_left' rfl, reHdrN_back t rest hr.2 (by omega)]
    simp only [List.length_append]
theorem encHs_two : ∀ (t : List HdrS), 2 * t.length ≤ (t.flatMap encH).length
  | [] => by simp
  | h :: t => by
    have h1 := encHs_two t
    have h2 : 2 ≤ (encH h).length := by
      have a := encV_pos ⟨false, h.key⟩
      have b := encV_pos h.val
      unfold encH
      rw [List.length_append]; omega
    rw [List.flatMap_cons, List.length_append, List.length_cons]; omega
theorem reHdrs_back (t : List HdrS) (rest : Bs) (hr : hright t = true) (hs : hsum t ≤ 2147483647) : reHdrs (encHs t ++ rest) = .ok (t, (encHs t).length) := by
  have h0 := (hsum_le t).1
  have h2 := encHs_two t
  unfold reHdrs encHs encI
  rw [List.append_assoc, vgetI_put t.length (by omega) (by omega)]
  simp only
  rw [if_neg (by omega), if_neg (by rw [List.length_append, List.length_append]; omega), List.drop_left' rfl, Int.toNat_natCast, reHdrN_back t rest hr hs]
  simp only [List.length_append]

end Go.Proofs.YtenojajfacacoaaDoor
/- Contracts of cursitorref06. -/
namespace Go.Proofs.YtenojajfacacoaaDoor
open Go.RowKit

theorem hdr_cells4 {W0 w : World} {K : Know} {L : List Res} {l : List HdrS} {b off cap : Nat} (hk : K.has (Know.flat RHdr (.slice (some ⟨b, off, none⟩) l.length cap) 3 l)) {i : Nat} {x : HdrS} (hi : i < l.length) (hx : l[i]'hi = x) (h : St W0 w K L) :
    w.cell? ⟨b, off + i * 3, none⟩ = some (.string (bb x.key)) ∧ w.cell? ⟨b, off + i * 3 + 1, none⟩ = some (.bool x.val.null) ∧ w.cell? ⟨b, off + i * 3 + 2, none⟩ = some (.string (bb x.val.data)) ∧ St W0 w K L := by
  obtain ⟨b', off', hq, c0, c1, c2⟩ := hdr_cells hk h i hi
  cases hq
  rw [hx] at c0 c1 c2
  exact ⟨c0, c1, c2, h⟩
theorem encV_le (b : BlobS) (h : b.data.length ≤ 140737488355328) : (encV b).length ≤ b.data.length + 10 := by
  have hr := b.len_range h
  have := putU_len _ (foldN_lt hr.1 hr.2)
  unfold encV
  rw [List.length_append]; omega
theorem encH_le (x : HdrS) (h : x.size ≤ 140737488355328) : (encH x).length ≤ x.size := by
  unfold HdrS.size at *
  have h1 := encV_le ⟨false, x.key⟩ (by simp only; omega)
  have h2 := encV_le x.val (by omega)
  unfold encH
  simp only at h1
  rw [List.length_append]; omega
theorem encHs_le : ∀ (l : List HdrS), hsize l ≤ 140737488355328 → (l.flatMap encH).length ≤ hsize l
  | [], _ => by simp
  | x :: t, h => by
    have e : hsize (x :: t) = x.size + hsize t := rfl
    have h1 := encH_le x (by omega)
    have h2 := encHs_le t (by omega)
    rw [List.flatMap_cons, List.length_append]; omega

theorem hdr_bool (n : Bool) (d : Bs) (n' : Bool) (d' : Bs) (k k' : Bs) (h : ¬ (⟨k, ⟨n, d⟩⟩ : HdrS) = ⟨k', ⟨n', d'⟩⟩) : (k == k') = false ∨ (k = k' ∧ (n == n') = false) ∨ (k = k' ∧ n = n' ∧ (d == d') = false) := by
  by_cases h1 : k = k'
  · subst h1
    by_cases h2 : n = n'
    · subst h2
      by_cases h3 : d = d'
      · subst h3; exact absurd rfl h
      · exact .inr (.inr ⟨rfl, rfl, by simpa using h3⟩)
    · exact .inr (.inl ⟨rfl, by simpa using h2⟩)
  · exact .inl (by simpa using h1)
set_option maxHeartbeats 1000000 in
set_option maxRecDepth 100000 in
theorem ref06_same (va vb : Value) (a b : List HdrS) (hl : a.length ≤ 9223372036854775807) (hl2 : b.length ≤ 9223372036854775807) {W0 w : World} {K : Know} {L : List Res} (hka : K.has (Know.flat RHdr va 3 a)) (hkb : K.has (Know.flat RHdr vb 3 b)) (h : St W0 w K L) :
    Calls Tryd.prog 75 #[va, vb] w fun en w' => en = .returned (.bool (decide (a = b))) ∧ St W0 w' K L := by
  obtain ⟨q, cap, rfl⟩ := flat_form hka h
  obtain ⟨q2, cap2, rfl⟩ := flat_form hkb h
  have H := Lib.hid h
  have HA := Lib.hid hka
  have HB := Lib.hid hkb
  clear h hka hkb
  by_cases hlen : a.length = b.length
  · have HLEN := Lib.hid hlen
    have hq : ∀ (P : Prop) [Decidable P], decide P = decide P := fun _ _ => rfl
    obtain ⟨r, hr⟩ : ∃ r, decide (a = b) = r := ⟨_, rfl⟩
    have HR := Lib.hid hr
    rw [hr]
    rw [← hlen]
    clear hr hlen hq
    go_enter Tryd.func75, Tryd.ntmps75
    go_wp2
    go_loopw [5] (fun iv wr => ∃ k : Nat, k ≤ a.length ∧ iv = .int .i64 k ∧ a.take k = b.take k ∧ St W0 wr K L) (fun iv _ => a.length - (intOf iv).toNat)
    case atStart => exact ⟨0, Nat.zero_le _, rfl, by simp, H.out⟩
    case round =>
      obtain ⟨k, hk, rfl, heq, hst⟩ := hrel
      have HEQ := Lib.hid heq
      clear heq
      by_cases hlt : k < a.length
      · have hltb : k < b.length := by have := HLEN.out; omega
        obtain ⟨ba, oa, hqa, ya⟩ := hdr_cells HA.out hst k hlt
        obtain ⟨bb', ob, hqb, yb⟩ := hdr_cells HB.out hst k hltb
        subst hqa
        subst hqb
        clear ya yb
        have ea : a.take (k + 1) = a.take k ++ [a[k]'hlt] := List.take_succ_eq_append_getElem hlt
        have eb : b.take (k + 1) = b.take k ++ [b[k]'hltb] := List.take_succ_eq_append_getElem hltb
        have hne : a[k]'hlt ≠ b[k]'hltb → a ≠ b := by rintro h rfl; exact h rfl
        obtain ⟨x, hx⟩ : ∃ x, a[k]'hlt = x := ⟨_, rfl⟩
        obtain ⟨y, hy⟩ : ∃ y, b[k]'hltb = y := ⟨_, rfl⟩
        obtain ⟨c0, c1, c2, hy1⟩ := hdr_cells4 HA.out hlt hx hst
        obtain ⟨d0, d1, d2, hy2⟩ := hdr_cells4 HB.out hltb hy hst
        rw [hx] at ea hne
        rw [hy] at eb hne
        have EA := Lib.hid (And.intro ea (And.intro eb hne))
        have HST := Lib.hid hst
        clear ea eb hne hx hy hltb hst hy1 hy2
        obtain ⟨kx, ⟨nx, dx⟩⟩ := x
        obtain ⟨ky, ⟨ny, dy⟩⟩ := y
        simp only at c0 c1 c2 d0 d1 d2
        by_cases hxy : (⟨kx, ⟨nx, dx⟩⟩ : HdrS) = ⟨ky, ⟨ny, dy⟩⟩
        · cases hxy
          go_wp2
          go_quiet (fail)
          go_wp2
          go_roundw
          case rel => exact ⟨k + 1, hlt, by go_num, by rw [EA.out.1, EA.out.2.1, HEQ.out], HST.out.drewN _⟩
          case measure => first | (simp [intOf]; done) | (simp [intOf]; omega)
        · have HNE := Lib.hid (EA.out.2.2 hxy)
          have hb := hdr_bool _ _ _ _ _ _ hxy
          clear hxy EA
          rcases hb with hb | ⟨rfl, hb⟩ | ⟨rfl, rfl, hb⟩
          all_goals
            go_wp2
            go_quiet (fail)
            go_wp2
            go_ret
            exact ⟨ret_bool (by rw [← HR.out]; exact (decide_eq_false HNE.out).symm), HST.out.drewN _⟩
      · have hke : k = a.length := by omega
        subst hke
        go_wp2
        go_ret
        refine ⟨ret_bool ?_, hst⟩
        have h := HEQ.out
        rw [List.take_of_length_le (by omega), List.take_of_length_le (by have := HLEN.out; omega)] at h
        rw [← HR.out]
        exact (decide_eq_true h).symm
  · obtain ⟨r, hr⟩ : ∃ r, decide (a = b) = r := ⟨_, rfl⟩
    have HR := Lib.hid hr
    have hne : ¬ ((a.length : Int) = (b.length : Int)) := by omega
    have HLEN := Lib.hid hlen
    rw [hr]
    clear hr hlen
    go_enter Tryd.func75, Tryd.ntmps75
    go_wp2
    go_ret
    exact ⟨ret_bool (by rw [← HR.out]; exact (decide_eq_false (by rintro rfl; exact HLEN.out rfl)).symm), H.out⟩

end Go.Proofs.YtenojajfacacoaaDoor
/- Contracts of cursitorref06: Read. -/
namespace Go.Proofs.YtenojajfacacoaaDoor
open Go.RowKit

theorem gotV_ok (b : BlobS) (m : Nat) : gotV (.ok (b, m)) = .agg #[.bool b.null, .string (bb b.data), .int .i64 m, .int .i64 0] := rfl
def hdrsL (r : Except Int (List HdrS × Nat)) : List HdrS := match r with | .ok x => x.1 | .error _ => []
def hdrsM (r : Except Int (List HdrS × Nat)) : Nat := match r with | .ok x => x.2 | .error _ => 0
def hdrsE (r : Except Int (List HdrS × Nat)) : Int := match r with | .ok _ => 0 | .error e => e
def finish (acc : List HdrS) (at' : Nat) (r : Except Int (List HdrS × Nat)) : Except Int (List HdrS × Nat) := match r with | .ok x => .ok (acc ++ x.1, at' + x.2) | .error e => .error e
theorem finish_step {n : Nat} {acc : List HdrS} {a : Nat} {s : Bs} {x : HdrS} {m : Nat} (h : reHdr (s.drop a) = .ok (x, m)) : finish acc a (reHdrN (n + 1) (s.drop a)) = finish (acc ++ [x]) (a + m) (reHdrN n (s.drop (a + m))) := by
  rw [← List.drop_drop]
  show finish acc a (match reHdr (s.drop a) with | .error e => .error e | .ok x => match reHdrN n ((s.drop a).drop x.2) with | .error e => .error e | .ok y => .ok (x.1 :: y.1, x.2 + y.2)) = _
  rw [h]
  simp only
  cases reHdrN n ((s.drop a).drop m) with
  | error e => rfl
  | ok y => simp [finish, Nat.add_assoc]
theorem finish_err {n : Nat} {acc : List HdrS} {a : Nat} {s : Bs} {e : Int} (h : reHdr (s.drop a) = .error e) : finish acc a (reHdrN (n + 1) (s.drop a)) = .error e := by
  show finish acc a (match reHdr (s.drop a) with | .error e => .error e | .ok x => match reHdrN n ((s.drop a).drop x.2) with | .error e => .error e | .ok y => .ok (x.1 :: y.1, x.2 + y.2)) = _
  rw [h]
  rfl
theorem reHdr_v {l : Bs} {b c : BlobS} {m k : Nat} (h : revaried l = .ok (b, m)) (hn : b.null = false) (h2 : revaried (l.drop m) = .ok (c, k)) : reHdr l = .ok (⟨b.data, c⟩, m + k) := by unfold reHdr; rw [h]; simp only [hn]; rw [h2]; rfl
theorem reHdr_e1 {l : Bs} {e : Int} (h : revaried l = .error e) : reHdr l = .error e := by unfold reHdr; rw [h]
theorem reHdr_n {l : Bs} {b : BlobS} {m : Nat} (h : revaried l = .ok (b, m)) (hn : b.null = true) : reHdr l = .error 4 := by unfold reHdr; rw [h]; simp only [hn]; rfl
theorem reHdr_e2 {l : Bs} {b : BlobS} {m : Nat} {e : Int} (h : revaried l = .ok (b, m)) (hn : b.null = false) (h2 : revaried (l.drop m) = .error e) : reHdr l = .error e := by unfold reHdr; rw [h]; simp only [hn]; rw [h2]; rfl
theorem revaried_nz {l : Bs} {e : Int} (h : revaried l = .error e) : e ≠ 0 := (rds_varied.err l 0 e (Nat.zero_le _) (by rw [List.drop_zero]; exact h)).1
theorem St.emptyRow {W0 w : World} {K : Know} {L : List Res} (h : St W0 w K L) (T : TypeId) (sz : Nat) : St W0 (w.alloc (.cells #[] T)) K (.row (.slice (some ⟨w.heap.size, 0, none⟩) 0 0) T sz 0 [] :: L) := h.rowLit [] T sz 0 (by simp) (Nat.zero_le _)

def HRead (s : Bs) (K : Know) (W0 : World) (L : List Res) (en : Ending) (w' : World) : Prop := ∃ v, en = .returned (.tuple #[v, .int .i64 (hdrsM (reHdrs s)), .int .i64 (hdrsE (reHdrs s))]) ∧ St W0 w' (K.and (Know.flat RHdr v 3 (hdrsL (reHdrs s)))) L
theorem hread_err {s : Bs} {e : Int} (he : reHdrs s = .error e) {W0 w : World} {K : Know} {L : List Res} (h : St W0 w K L) : HRead s K W0 L (.returned (.tuple #[.slice none 0 0, .int .i64 0, .int .i64 e])) w := by
  unfold HRead
  rw [he]
  exact ⟨_, rfl, h.know (know_nil _ _ _)⟩
theorem hread_ok {s : Bs} {l : List HdrS} {m : Nat} {v : Value} (he : reHdrs s = .ok (l, m)) {W0 w : World} {K : Know} {L : List Res} (h : St W0 w K (.row v 54 3 l.length (l.flatMap hcells) :: L)) : HRead s K W0 L (.returned (.tuple #[v, .int .i64 m, .int .i64 0])) w := by
  unfold HRead
  rw [he]
  exact ⟨_, rfl, h.freezeRow (fun x _ => ⟨rfl, rfl⟩)⟩

end Go.Proofs.YtenojajfacacoaaDoor
/- Records, read and written. -/
namespace Go.Proofs.YtenojajfacacoaaDoor
open Go.RowKit

/-- A record. -/
structure RecS where
  time : Int
  off : Int
  key : BlobS
  val : BlobS
  hdrs : List HdrS
deriving DecidableEq
def RecS.zero : RecS := ⟨0, 0, ⟨false, []⟩, ⟨false, []⟩, []⟩
def RecS.R (x : RecS) : Prop := (-9223372036854775808 ≤ x.time ∧ x.time < 9223372036854775808) ∧ (-9223372036854775808 ≤ x.off ∧ x.off < 9223372036854775808)
def RecS.sum (x : RecS) : Nat := x.key.data.length + x.val.data.length + hsum x.hdrs
def RecS.allRight (x : RecS) : Bool := x.key.right && x.val.right && hright x.hdrs
def recOk (x : RecS) : Int := if x.off < 0 ∨ 2147483647 < x.off then 11 else if x.allRight then 0 else 4
def recF (x : RecS) : Bs := [0] ++ (encI x.time ++ (encI x.off ++ (encV x.key ++ (encV x.val ++ encHs x.hdrs))))
def encR (x : RecS) : Bs := encV ⟨false, recF x⟩
def OutS.putFields (o : OutS) (x : RecS) : OutS := (((((o.put [0]).putLong x.time).putInt x.off).putVaried x.key).putVaried x.val).putHdrs x.hdrs
def OutS.putRec (o : OutS) (x : RecS) : OutS := if recOk x = 0 then o.put (encR x) else o.fail (recOk x)
theorem encI_le (n : Int) (h : -9223372036854775808 ≤ n ∧ n < 9223372036854775808) : (encI n).length ≤ 10 := putU_len _ (foldN_lt h.1 h.2)
theorem recF_le (x : RecS) (hx : x.R) (hs : x.sum ≤ 1000000) : (recF x).length ≤ 32 * x.sum + 100 := by
  unfold RecS.sum at *
  have h0 := hsum_le x.hdrs
  have h1 := encI_le x.time hx.1
  have h2 := encI_le x.off hx.2
  have h3 := encV_le x.key (by omega)
  have h4 := encV_le x.val (by omega)
  have h5 := encHs_le x.hdrs (by omega)
  have h6 := encI_le x.hdrs.length (by omega)
  unfold recF encHs
  simp only [List.length_append, List.length_cons, List.length_nil]
  omega
theorem putFields_right (x : RecS) (hx : x.R) (ho : 0 ≤ x.off ∧ x.off ≤ 2147483647) (hr : x.allRight = true) (hs : x.sum ≤ 1000000) : (⟨[], 0⟩ : OutS).putFields x = ⟨recF x, 0⟩ := by
  unfold RecS.allRight at hr
  rw [Bool.and_eq_true, Bool.and_eq_true] at hr
  unfold RecS.sum at hs
  have hl : ∀ o : OutS, o.putLong x.time = o.put (encI x.time) := fun o => rfl
  unfold OutS.putFields
  rw [hl, putInt_len (by omega) (by omega), putVaried_right hr.1.1 (by omega), putVaried_right hr.1.2 (by omega), putHdrs_right hr.2 (by omega)]
  simp only [OutS.put_put]
  unfold recF
  simp only [OutS.put, if_true, List.nil_append, List.append_assoc]
theorem recOk_zero {x : RecS} (h : recOk x = 0) : (0 ≤ x.off ∧ x.off ≤ 2147483647) ∧ x.allRight = true := by
  unfold recOk at h
  split at h
  · cases h
  · split at h
    · exact ⟨by omega, by assumption⟩
    · cases h

/-- What stands behind the length. -/
def reInner (s : Bs) : Except Int RecS :=
  match getIntN 1 s with
  | .error e => .error e
  | .ok a => if a.1 = 0 then match vgetL (s.drop 1) with
      | .error e => .error e
      | .ok t => match vgetI (s.drop (1 + t.2)) with
        | .error e => .error e
        | .ok o => if o.1 < 0 then .error 11 else match revaried (s.drop (1 + t.2 + o.2)) with
          | .error e => .error e
          | .ok k => match revaried (s.drop (1 + t.2 + o.2 + k.2)) with
            | .error e => .error e
            | .ok v => match reHdrs (s.drop (1 + t.2 + o.2 + k.2 + v.2)) with
              | .error e => .error e
              | .ok h => if 1 + t.2 + o.2 + k.2 + v.2 + h.2 = s.length then .ok ⟨t.1, o.1, k.1, v.1, h.1⟩ else .error 2
    else .error 8
def InS.recTail (i : InS) (t o : Int) : RecS × InS := (⟨t, o, i.varied.1, i.varied.2.varied.1, i.varied.2.varied.2.hdrs.1⟩, i.varied.2.varied.2.hdrs.2)
def InS.recOff (i : InS) (t : Int) : RecS × InS := (if i.vint.1 < 0 then i.vint.2.fail 11 else i.vint.2).recTail t i.vint.1
def InS.recTime (i : InS) : RecS × InS := i.vlong.2.recOff i.vlong.1
def InS.recFields (i : InS) : RecS × InS := (if (i.int 1).1 = 0 then (i.int 1).2 else (i.int 1).2.fail 8).recTime
theorem tail_stuck {i : InS} (h : i.err ≠ 0) (t o : Int) : (i.recTail t o).2 = i := by
  unfold InS.recTail
  rw [rds_varied.stuck i h]
  simp only
  rw [rds_varied.stuck i h]
  simp only
  rw [rds_hdrs.stuck i h]
theorem off_stuck {i : InS} (h : i.err ≠ 0) (t : Int) : (i.recOff t).2 = i := by
  unfold InS.recOff
  rw [rds_int.stuck i h]
  simp only
  rw [if_neg (by decide), tail_stuck h]
theorem time_stuck {i : InS} (h : i.err ≠ 0) : (i.recTime).2 = i := by
  unfold InS.recTime
  rw [rds_long.stuck i h, off_stuck h]
theorem InS.fail_stuck0 {i : InS} (h : i.err ≠ 0) (e : Int) : i.fail e = i := if_neg h
theorem close_err {s : Bs} {q : Nat} {e : Int} (h : e ≠ 0) : (⟨s, q, e⟩ : InS).close.err = e := by
  unfold InS.close
  split
  · rw [InS.fail_stuck0 (show (⟨s, q, e⟩ : InS).err ≠ 0 from h)]
  · rfl
theorem InS.fail_stuck {i : InS} (h : i.err ≠ 0) (e : Int) : i.fail e = i := if_neg h
def recD (s : Bs) : RecS × InS := (⟨s, 0, 0⟩ : InS).recFields
theorem inner_at (s : Bs) : (∀ x, reInner s = .ok x → recD s = (x, ⟨s, s.length, 0⟩)) ∧ (∀ e, reInner s = .error e → e ≠ 0 ∧ (recD s).2.close.err = e) := by
  unfold reInner recD InS.recFields
  have hi := rds_intN 1 (by decide) (by decide)
  cases h0 : getIntN 1 s with
  | error e0 =>
    obtain ⟨g1, q, g2, g3⟩ := hi.err s 0 e0 (Nat.zero_le _) (by rw [List.drop_zero]; exact h0)
    have g3 : (⟨s, 0, 0⟩ : InS).int 1 = (0, ⟨s, q, e0⟩) := g3
    refine ⟨fun x h => (by cases h), fun e h => ?_⟩
    cases h
    rw [g3]
    simp only [if_true]
    rw [time_stuck (show (⟨s, q, e0⟩ : InS).err ≠ 0 from g1)]
    exact ⟨g1, close_err g1⟩
  | ok a =>
    obtain ⟨g1, g3⟩ := hi.ok s 0 a.1 a.2 (Nat.zero_le _) (by rw [List.drop_zero]; exact h0)
    have g3 : (⟨s, 0, 0⟩ : InS).int 1 = (a.1, ⟨s, 0 + a.2, 0⟩) := g3
    have ha2 : a.2 = 1 := by
      unfold getIntN at h0
      split at h0
      · cases h0
      · cases h0; rfl
    rw [Nat.zero_add, ha2] at g3 g1
    rw [g3]
    simp only
    by_cases ha : a.1 = 0
    · rw [if_pos ha, if_pos ha]
      unfold InS.recTime
      cases h1 : vgetL (s.drop 1) with
      | error e1 =>
        obtain ⟨k1, q, k2, k3⟩ := rds_long.err s 1 e1 g1 h1
        refine ⟨fun x h => (by cases h), fun e h => ?_⟩
        cases h
        rw [k3]
        simp only
        rw [off_stuck (show (⟨s, q, e1⟩ : InS).err ≠ 0 from k1)]
        exact ⟨k1, close_err k1⟩
      | ok t =>
        obtain ⟨k1, k3⟩ := rds_long.ok s 1 t.1 t.2 g1 h1
        rw [k3]
        simp only
        unfold InS.recOff
        cases h2 : vgetI (s.drop (1 + t.2)) with
        | error e2 =>
          obtain ⟨m1, q, m2, m3⟩ := rds_int.err s (1 + t.2) e2 k1 h2
          refine ⟨fun x h => (by cases h), fun e h => ?_⟩
          cases h
          rw [m3]
          simp only
          rw [if_neg (by decide), tail_stuck (show (⟨s, q, e2⟩ : InS).err ≠ 0 from m1)]
          exact ⟨m1, close_err m1⟩
        | ok o =>
          obtain ⟨m1, m3⟩ := rds_int.ok s (1 + t.2) o.1 o.2 k1 h2
          rw [m3]
          simp only
          by_cases ho : o.1 < 0
          · rw [if_pos ho, if_pos ho]
            refine ⟨fun x h => (by cases h), fun e h => ?_⟩
            cases h
            rw [InS.fail_ok0', tail_stuck (show (11 : Int) ≠ 0 by decide)]
            exact ⟨by decide, close_err (by decide)⟩
          · rw [if_neg ho, if_neg ho]
            unfold InS.recTail
            cases h3 : revaried (s.drop (1 + t.2 + o.2)) with
            | error e3 =>
              obtain ⟨n1, q, n2, n3⟩ := rds_varied.err s _ e3 m1 h3
              refine ⟨fun x h => (by cases h), fun e h => ?_⟩
              cases h
              rw [n3]
              simp only
              have n1' : (⟨s, q, e3⟩ : InS).err ≠ 0 := n1
              rw [rds_varied.stuck _ n1']
              simp only
              rw [rds_hdrs.stuck _ n1']
              exact ⟨n1, close_err n1⟩
            | ok k =>
              obtain ⟨n1, n3⟩ := rds_varied.ok s _ k.1 k.2 m1 h3
              rw [n3]
              simp only
              cases h4 : revaried (s.drop (1 + t.2 + o.2 + k.2)) with
              | error e4 =>
                obtain ⟨p1, q, p2, p3⟩ := rds_varied.err s _ e4 n1 h4
                refine ⟨fun x h => (by cases h), fun e h => ?_⟩
                cases h
                rw [p3]
                simp only
                have p1' : (⟨s, q, e4⟩ : InS).err ≠ 0 := p1
                rw [rds_hdrs.stuck _ p1']
                exact ⟨p1, close_err p1⟩
              | ok v =>
                obtain ⟨p1, p3⟩ := rds_varied.ok s _ v.1 v.2 n1 h4
                rw [p3]
                simp only
                cases h5 : reHdrs (s.drop (1 + t.2 + o.2 + k.2 + v.2)) with
                | error e5 =>
                  obtain ⟨r1, q, r2, r3⟩ := rds_hdrs.err s _ e5 p1 h5
                  refine ⟨fun x h => (by cases h), fun e h => ?_⟩
                  cases h
                  rw [r3]
                  exact ⟨r1, close_err r1⟩
                | ok h =>
                  obtain ⟨r1, r3⟩ := rds_hdrs.ok s _ h.1 h.2 p1 h5
                  rw [r3]
                  simp only
                  by_cases hE : 1 + t.2 + o.2 + k.2 + v.2 + h.2 = s.length
                  · rw [if_pos hE, hE]
                    refine ⟨fun x hh => (by cases hh; rfl), fun e hh => (by cases hh)⟩
                  · rw [if_neg hE]
                    refine ⟨fun x hh => (by cases hh), fun e hh => ?_⟩
                    cases hh
                    refine ⟨by decide, ?_⟩
                    unfold InS.close
                    rw [if_pos (by simp only [InS.left]; omega)]
                    rfl
    · rw [if_neg ha, if_neg ha]
      refine ⟨fun x h => (by cases h), fun e h => ?_⟩
      cases h
      rw [InS.fail_ok0', time_stuck (show (8 : Int) ≠ 0 by decide)]
      exact ⟨by decide, close_err (by decide)⟩

/-- A record with which bytes begin. -/
def reRec (l : Bs) : Except Int (RecS × Nat) := match revaried l with
  | .error e => .error e
  | .ok b => if b.1.null then .error 4 else match reInner b.1.data with
    | .error e => .error e
    | .ok x => .ok (x, b.2)
def InS.recJ (i : InS) : InS := if (recD i.name.1).2.close.err = 0 then i.name.2 else i.name.2.fail (recD i.name.1).2.close.err
def InS.record (i : InS) : RecS × InS := if i.recJ.err = 0 then ((recD i.name.1).1, i.recJ) else (RecS.zero, i.recJ)
theorem rds_rec : Rds InS.record reRec RecS.zero := by
  refine ⟨?_, ?_, ?_⟩
  · intro s pos a k hp h
    unfold reRec at h
    cases h1 : revaried (s.drop pos) with
    | error e => rw [h1] at h; cases h
    | ok b =>
      rw [h1] at h
      obtain ⟨g1, g2⟩ := rds_varied.ok s pos b.1 b.2 hp h1
      cases hn : b.1.null
      · simp only [hn] at h
        cases h2 : reInner b.1.data with
        | error e => rw [h2] at h; cases h
        | ok x =>
          rw [h2] at h
          cases h
          have hi := (inner_at b.1.data).1 _ h2
          refine ⟨g1, ?_⟩
          have hnm : (⟨s, pos, 0⟩ : InS).name = (b.1.data, ⟨s, pos + b.2, 0⟩) := by
            unfold InS.name InS.bytes
            rw [g2]
            simp only [hn]
            rfl
          have hc : (⟨b.1.data, b.1.data.length, 0⟩ : InS).close.err = 0 := by unfold InS.close; rw [if_neg (by simp only [InS.left]; omega)]
          unfold InS.record InS.recJ
          rw [hnm]
          simp only [hi, hc, if_true]
      · simp [hn] at h
  · intro s pos e hp h
    unfold reRec at h
    cases h1 : revaried (s.drop pos) with
    | error e1 =>
      rw [h1] at h
      cases h
      obtain ⟨g1, q, g2, g3⟩ := rds_varied.err s pos e hp h1
      refine ⟨g1, q, g2, ?_⟩
      have hnm : (⟨s, pos, 0⟩ : InS).name = ([], ⟨s, q, e⟩) := by
        unfold InS.name InS.bytes
        rw [g3]
        rfl
      unfold InS.record InS.recJ
      rw [hnm]
      simp only [InS.fail_stuck (show (⟨s, q, e⟩ : InS).err ≠ 0 from g1), ite_self]
      rw [if_neg g1]
    | ok b =>
      rw [h1] at h
      obtain ⟨g1, g2⟩ := rds_varied.ok s pos b.1 b.2 hp h1
      cases hn : b.1.null
      · simp only [hn] at h
        cases h2 : reInner b.1.data with
        | error e2 =>
          rw [h2] at h
          cases h
          obtain ⟨k1, k2⟩ := (inner_at b.1.data).2 _ h2
          refine ⟨k1, pos + b.2, g1, ?_⟩
          have hnm : (⟨s, pos, 0⟩ : InS).name = (b.1.data, ⟨s, pos + b.2, 0⟩) := by
            unfold InS.name InS.bytes
            rw [g2]
            simp only [hn]
            rfl
          unfold InS.record InS.recJ
          rw [hnm]
          simp only [k2]
          rw [if_neg k1, InS.fail_ok0', if_neg k1]
        | ok x => rw [h2] at h; cases h
      · simp [hn] at h
        subst h
        refine ⟨by decide, pos + b.2, g1, ?_⟩
        have hnm : (⟨s, pos, 0⟩ : InS).name = (b.1.data, ⟨s, pos + b.2, 4⟩) := by
          unfold InS.name InS.bytes
          rw [g2]
          simp only [hn]
          rfl
        unfold InS.record InS.recJ
        rw [hnm]
        simp only [InS.fail_stuck (show (⟨s, pos + b.2, 4⟩ : InS).err ≠ 0 from (show (4 : Int) ≠ 0 by decide)), ite_self]
        rw [if_neg (show ¬ (4 : Int) = 0 by decide)]
  · intro i hi
    unfold InS.record InS.recJ
    rw [name_stuck hi]
    simp only [InS.fail_stuck hi, ite_self]
    rw [if_neg hi]

end Go.Proofs.YtenojajfacacoaaDoor
/- Contracts of package record: whether one may be. -/
namespace Go.Proofs.YtenojajfacacoaaDoor
open Go.RowKit

theorem raw7 {W0 w : World} {K : Know} {L : List Res} {b : Nat} {T : TypeId} {v0 v1 v2 v3 v4 v5 v6 : Value} (h : St W0 w K (.raw b #[v0, v1, v2, v3, v4, v5, v6] T :: L)) :
    w.cell? ⟨b, 0, none⟩ = some v0 ∧ w.cell? ⟨b, 1, none⟩ = some v1 ∧ w.cell? ⟨b, 2, none⟩ = some v2 ∧ w.cell? ⟨b, 3, none⟩ = some v3 ∧ w.cell? ⟨b, 4, none⟩ = some v4 ∧ w.cell? ⟨b, 5, none⟩ = some v5 ∧ w.cell? ⟨b, 6, none⟩ = some v6 ∧
    w.frozen? ⟨b, 0, none⟩ = false ∧ w.frozen? ⟨b, 1, none⟩ = false ∧ w.frozen? ⟨b, 2, none⟩ = false ∧ w.frozen? ⟨b, 3, none⟩ = false ∧ w.frozen? ⟨b, 4, none⟩ = false ∧ w.frozen? ⟨b, 5, none⟩ = false ∧ w.frozen? ⟨b, 6, none⟩ = false :=
  ⟨h.rawCell 0, h.rawCell 1, h.rawCell 2, h.rawCell 3, h.rawCell 4, h.rawCell 5, h.rawCell 6, h.rawFree 0, h.rawFree 1, h.rawFree 2, h.rawFree 3, h.rawFree 4, h.rawFree 5, h.rawFree 6⟩
def bcells (x : BlobS) : List Value := [.bool x.null, .string (bb x.data)]
theorem elem_blob : ElemT Tryd.prog 48 (.agg #[.bool false, .string ⟨#[]⟩]) 2 24 := elemT_of (by kernel_rfl) rfl (by decide)
def blobsOf (x : RecS) : List BlobS := x.key :: x.val :: x.hdrs.map HdrS.val
theorem blobsOf_right (x : RecS) : (blobsOf x).all BlobS.right = x.allRight := by
  unfold blobsOf RecS.allRight hright
  rw [List.all_cons, List.all_cons, List.all_map, Bool.and_assoc]
  rfl
theorem bcells_get (l : List BlobS) (k : Nat) (h : k < l.length) : (l.flatMap bcells)[k * 2]? = some (.bool l[k].null) ∧ (l.flatMap bcells)[k * 2 + 1]? = some (.string (bb l[k].data)) := by
  have h0 := flatMap_get l bcells 2 (fun _ _ => rfl) k h 0 (by decide)
  have h1 := flatMap_get l bcells 2 (fun _ _ => rfl) k h 1 (by decide)
  rw [Nat.add_zero] at h0
  exact ⟨h0, h1⟩

end Go.Proofs.YtenojajfacacoaaDoor
/- Contracts of package record: writing. -/
namespace Go.Proofs.YtenojajfacacoaaDoor
open Go.RowKit

theorem put_ok (a b : Bs) : (⟨a, 0⟩ : OutS).put b = ⟨a ++ b, 0⟩ := rfl
def encOk (x : RecS) : Bs := if recOk x = 0 then encR x else []
end Go.Proofs.YtenojajfacacoaaDoor
/- Contracts of package record: reading the fields. -/
namespace Go.Proofs.YtenojajfacacoaaDoor
open Go.RowKit

theorem St.raw_ne {W0 w : World} {K : Know} {L : List Res} {a b : Nat} {c c' : Array Value} {T T' : TypeId} (h : St W0 w K (.raw a c T :: .raw b c' T' :: L)) : ¬ (a = b) := by
  rintro rfl
  obtain ⟨_, S, F, ⟨S1, S2, h1, ⟨S3, S4, h3, _, _, e3⟩, d1, _⟩, _⟩ := h
  exact d1 a ((h1.2 a).2 rfl) ((e3 a).2 (.inl ((h3.2 a).2 rfl)))
theorem St.set1 {W0 w : World} {K : Know} {L : List Res} {r : Res} {b j : Nat} {c : Array Value} {T : TypeId} {v : Value} (h : St W0 w K (r :: .raw b c T :: L)) : St W0 (w.setCell ⟨b, j, none⟩ v) K (r :: .raw b (c.setIfInBounds j v) T :: L) := (h.p1.rawSet j v).p1

end Go.Proofs.YtenojajfacacoaaDoor
/- Contracts of package record: reading. -/
namespace Go.Proofs.YtenojajfacacoaaDoor
open Go.RowKit

theorem name_len (i : InS) (h : i.ok) : i.name.1.length ≤ i.s.length := by
  by_cases he : i.err = 0
  · obtain ⟨s, pos, err⟩ := i
    simp only at he
    subst he
    have hp : pos ≤ s.length := h.1
    show (InS.varied ⟨s, pos, 0⟩).1.data.length ≤ s.length
    cases hv : revaried (s.drop pos) with
    | ok b =>
      obtain ⟨g1, g2⟩ := rds_varied.ok s pos b.1 b.2 hp hv
      obtain ⟨_, _, _, _, _, o⟩ := revaried_one hv
      rw [g2]
      simp only
      split at o <;> omega
    | error e =>
      obtain ⟨_, q, _, g⟩ := rds_varied.err s pos e hp hv
      rw [g]
      simp
  · rw [name_stuck he]; simp
end Go.Proofs.YtenojajfacacoaaDoor
/- Contracts: whether two records are one. -/
namespace Go.Proofs.YtenojajfacacoaaDoor
open Go.RowKit

theorem dec_false {a b : RecS} (h : ¬ a = b) {r : Bool} (hr : decide (a = b) = r) : r = false := by rw [← hr]; exact decide_eq_false h

set_option maxHeartbeats 1000000 in
set_option maxRecDepth 100000 in
theorem ref07_same (t1 o1 t2 o2 : Int) (n1 m1 n2 m2 : Bool) (d1 f1 d2 f2 : Bs) (l1 l2 : List HdrS) (va vb : Value) (r : Bool) (hr : decide ((⟨t1, o1, ⟨n1, d1⟩, ⟨m1, f1⟩, l1⟩ : RecS) = ⟨t2, o2, ⟨n2, d2⟩, ⟨m2, f2⟩, l2⟩) = r) (hl1 : l1.length ≤ 9223372036854775807) (hl2 : l2.length ≤ 9223372036854775807) {W0 w : World} {K : Know} {L : List Res} (hka : K.has (Know.flat RHdr va 3 l1)) (hkb : K.has (Know.flat RHdr vb 3 l2)) (h : St W0 w K L) :
    Calls Tryd.prog 59 #[.agg #[.int .i64 t1, .int .i64 o1, .bool n1, .string (bb d1), .bool m1, .string (bb f1), va], .agg #[.int .i64 t2, .int .i64 o2, .bool n2, .string (bb d2), .bool m2, .string (bb f2), vb]] w fun en w' => en = .returned (.bool r) ∧ St W0 w' K L := by
  have h0 := (h.allocRaw #[.int .i64 t1, .int .i64 o1, .bool n1, .string (bb d1), .bool m1, .string (bb f1), va] 51).allocRaw #[.int .i64 t2, .int .i64 o2, .bool n2, .string (bb d2), .bool m2, .string (bb f2), vb] 51
  rw [World.size_alloc] at h0
  have H := Lib.hid h0
  have HA := Lib.hid hka
  have HB := Lib.hid hkb
  have HL1 := Lib.hid hl1
  have HL2 := Lib.hid hl2
  clear h h0 hka hkb hl1 hl2
  by_cases hn : t1 = t2
  rotate_left
  · have HR := Lib.hid (show r = false from dec_false (by intro h; cases h; exact hn rfl) hr)
    have hb : (t1 == t2) = false := by simpa using hn
    rw [show r = false from HR.out]
    clear hn hr
    go_enter Tryd.func59, Tryd.ntmps59
    go_wp2
    go_ret
    exact ⟨rfl, H.out.drop.drop⟩
  subst hn
  by_cases hn : o1 = o2
  rotate_left
  · have HR := Lib.hid (show r = false from dec_false (by intro h; cases h; exact hn rfl) hr)
    have hb : (o1 == o2) = false := by simpa using hn
    rw [show r = false from HR.out]
    clear hn hr
    go_enter Tryd.func59, Tryd.ntmps59
    go_wp2
    go_ret
    exact ⟨rfl, H.out.drop.drop⟩
  subst hn
  by_cases hn : n1 = n2
  rotate_left
  · have HR := Lib.hid (show r = false from dec_false (by intro h; cases h; exact hn rfl) hr)
    have hb : (n1 == n2) = false := by simpa using hn
    rw [show r = false from HR.out]
    clear hn hr
    go_enter Tryd.func59, Tryd.ntmps59
    go_wp2
    go_ret
    exact ⟨rfl, H.out.drop.drop⟩
  subst hn
  by_cases hn : d1 = d2
  rotate_left
  · have HR := Lib.hid (show r = false from dec_false (by intro h; cases h; exact hn rfl) hr)
    have hb : (d1 == d2) = false := by simpa using hn
    rw [show r = false from HR.out]
    clear hn hr
    go_enter Tryd.func59, Tryd.ntmps59
    go_wp2
    go_ret
    exact ⟨rfl, H.out.drop.drop⟩
  subst hn
  by_cases hn : m1 = m2
  rotate_left
  · have HR := Lib.hid (show r = false from dec_false (by intro h; cases h; exact hn rfl) hr)
    have hb : (m1 == m2) = false := by simpa using hn
    rw [show r = false from HR.out]
    clear hn hr
    go_enter Tryd.func59, Tryd.ntmps59
    go_wp2
    go_ret
    exact ⟨rfl, H.out.drop.drop⟩
  subst hn
  by_cases hn : f1 = f2
  rotate_left
  · have HR := Lib.hid (show r = false from dec_false (by intro h; cases h; exact hn rfl) hr)
    have hb : (f1 == f2) = false := by simpa using hn
    rw [show r = false from HR.out]
    clear hn hr
    go_enter Tryd.func59, Tryd.ntmps59
    go_wp2
    go_ret
    exact ⟨rfl, H.out.drop.drop⟩
  subst hn
  have HD := Lib.hid (show decide (l1 = l2) = r by rw [← hr]; exact decide_eq_decide.mpr ⟨fun h => by rw [h], fun h => by cases h; rfl⟩)
  clear hr
  go_enter Tryd.func59, Tryd.ntmps59
  go_wp2_with (go_at_call 75; refine (ref06_same va vb l1 l2 HL1.out HL2.out HA.out HB.out H.out).mono ?_; rw [HD.out]; rintro e wn ⟨rfl, h⟩; replace H := Lib.hid h; clear h)
  go_ret
  exact ⟨rfl, H.out.drop.drop⟩
theorem ref07_sameV (a b : RecS) (va vb : Value) (r : Bool) (hr : decide (a = b) = r) (hl1 : a.hdrs.length ≤ 9223372036854775807) (hl2 : b.hdrs.length ≤ 9223372036854775807) {W0 w : World} {K : Know} {L : List Res} (hka : K.has (Know.flat RHdr va 3 a.hdrs)) (hkb : K.has (Know.flat RHdr vb 3 b.hdrs)) (h : St W0 w K L) :
    Calls Tryd.prog 59 #[.agg #[.int .i64 a.time, .int .i64 a.off, .bool a.key.null, .string (bb a.key.data), .bool a.val.null, .string (bb a.val.data), va], .agg #[.int .i64 b.time, .int .i64 b.off, .bool b.key.null, .string (bb b.key.data), .bool b.val.null, .string (bb b.val.data), vb]] w fun en w' => en = .returned (.bool r) ∧ St W0 w' K L :=
  ref07_same a.time a.off b.time b.off a.key.null a.val.null b.key.null b.val.null a.key.data a.val.data b.key.data b.val.data a.hdrs b.hdrs va vb r hr hl1 hl2 hka hkb h

end Go.Proofs.YtenojajfacacoaaDoor
/- Layer 6, walked: HeaderFinds. -/
namespace Go.Proofs.YtenojajfacacoaaDoor
open Go.RowKit

theorem find_take (l : List HdrS) (key : Bs) (k : Nat) (h : k < l.length) : findS (l.take (k + 1)) key = findStep key (findS (l.take k) key) l[k] := by
  unfold findS
  rw [List.take_succ_eq_append_getElem h, List.foldl_append]
  rfl
theorem rhdr_start {W : World} {v : Value} {l : List HdrS} (hr : RowsOf (fun _ cs x => RHdr cs x) (· < W.heap.size) W v 3 l) : St W W (Know.flat RHdr v 3 l) [] := St.start hr
end Go.Proofs.YtenojajfacacoaaDoor
/- Layer 6, walked: HeaderWrites. -/
namespace Go.Proofs.YtenojajfacacoaaDoor
open Go.RowKit

def Fit (n : Nat) : Prop := n ≤ 140737488351232
def HFit (l : List HdrS) : Prop := ∀ x ∈ l, x.key.length ≤ 140737488351232 ∧ x.val.data.length ≤ 140737488351232
def smallN (l : List HdrS) : Int := if hsum l ≤ 1000 then 1 else 0
theorem hsum_take (l : List HdrS) (k : Nat) (hk : k < l.length) : hsum (l.take (k + 1)) = hsum (l.take k) + (l[k].key.length + l[k].val.data.length + 1) := by
  rw [List.take_succ_eq_append_getElem hk]
  unfold hsum
  rw [List.map_append, List.sum_append]
  simp
theorem hsum_take_le (l : List HdrS) (k : Nat) : hsum (l.take k) ≤ hsum l := by
  have : hsum l = hsum (l.take k) + hsum (l.drop k) := by
    unfold hsum
    rw [← List.sum_append, ← List.map_append, List.take_append_drop]
  omega
end Go.Proofs.YtenojajfacacoaaDoor
/- Contracts: decoding a record; whether it may be, by the document. -/
namespace Go.Proofs.YtenojajfacacoaaDoor
open Go.RowKit

def decJ (s : Bs) : InS := (⟨s, 0, 0⟩ : InS).record.2.close
def decR (s : Bs) : RecS := if (decJ s).err = 0 then (⟨s, 0, 0⟩ : InS).record.1 else RecS.zero
def badR (a b c : Bool) : Int := if a && b && c then 0 else 4

def smallR (x : RecS) : Int := if 500 < x.key.data.length ∨ 500 < x.val.data.length then 0 else smallN x.hdrs
end Go.Proofs.YtenojajfacacoaaDoor
/- A record there and back (pure). -/
namespace Go.Proofs.YtenojajfacacoaaDoor
open Go.RowKit

theorem dropNext {l a r : Bs} {n : Nat} (h : l.drop n = a ++ r) : l.drop (n + a.length) = r := by rw [← List.drop_drop, h, List.drop_left]
theorem reInner_back (x : RecS) (hx : x.R) (ho : recOk x = 0) (hs : x.sum ≤ 1000000) : reInner (recF x) = .ok x := by
  obtain ⟨ho, hr⟩ := recOk_zero ho
  unfold RecS.allRight at hr
  rw [Bool.and_eq_true, Bool.and_eq_true] at hr
  unfold RecS.sum at hs
  have d1 : (recF x).drop 1 = encI x.time ++ (encI x.off ++ (encV x.key ++ (encV x.val ++ encHs x.hdrs))) := rfl
  have d2 := dropNext d1
  have d3 := dropNext d2
  have d4 := dropNext d3
  have d5 := dropNext d4
  have h0 : getIntN 1 (recF x) = .ok (0, 1) := by
    unfold getIntN
    rw [if_neg (by unfold recF; simp)]
    rfl
  have h1 : vgetL ((recF x).drop 1) = .ok (x.time, (encI x.time).length) := by rw [d1]; exact vgetL_put _ hx.1.1 hx.1.2 _
  have h2 : vgetI ((recF x).drop (1 + (encI x.time).length)) = .ok (x.off, (encI x.off).length) := by rw [d2]; exact vgetI_put _ (by omega) (by omega) _
  have h3 := revaried_back x.key hr.1.1 (by omega) (encV x.val ++ encHs x.hdrs)
  have h4 := revaried_back x.val hr.1.2 (by omega) (encHs x.hdrs)
  have h5' := reHdrs_back x.hdrs [] hr.2 (by omega)
  rw [List.append_nil] at h5'
  have h5 : reHdrs ((recF x).drop (1 + (encI x.time).length + (encI x.off).length + (encV x.key).length + (encV x.val).length)) = .ok (x.hdrs, (encHs x.hdrs).length) := by rw [d5]; exact h5'
  rw [← d3] at h3
  rw [← d4] at h4
  have hl : 1 + (encI x.time).length + (encI x.off).length + (encV x.key).length + (encV x.val).length + (encHs x.hdrs).length = (recF x).length := by
    unfold recF
    simp only [List.length_append, List.length_cons, List.length_nil]
    omega
  unfold reInner
  rw [h0]
  simp only [if_true]
  rw [h1]
  simp only
  rw [h2]
  simp only
  rw [if_neg (by omega), h3]
  simp only
  rw [h4]
  simp only
  rw [h5]
  simp only
  rw [if_pos hl]
theorem rec_back (x : RecS) (hx : x.R) (ho : recOk x = 0) (hs : x.sum ≤ 1000000) : decR (encR x) = x ∧ (decJ (encR x)).err = 0 := by
  have hle := recF_le x hx hs
  have h1 := revaried_back ⟨false, recF x⟩ rfl (by simp only; omega) []
  rw [List.append_nil] at h1
  have h2 : reRec (encR x) = .ok (x, (encR x).length) := by
    unfold reRec encR
    rw [h1]
    simp only [Bool.false_eq_true, if_false]
    rw [reInner_back x hx ho hs]
  have h3 := (rds_rec.ok (encR x) 0 x (encR x).length (Nat.zero_le _) (by rw [List.drop_zero]; exact h2)).2
  rw [Nat.zero_add] at h3
  have h4 : (decJ (encR x)).err = 0 := by
    unfold decJ
    rw [h3]
    unfold InS.close
    rw [if_neg (by simp only [InS.left]; omega)]
  refine ⟨?_, h4⟩
  unfold decR
  rw [if_pos h4, h3]
theorem encR_le (x : RecS) (hx : x.R) (hs : x.sum ≤ 3000) : (encR x).length ≤ 200000 := by
  have h1 := recF_le x hx (by omega)
  have h2 := encV_le ⟨false, recF x⟩ (by simp only; omega)
  simp only at h2
  unfold encR
  omega
/-- The record of none. -/
def noneR : RecS := ⟨0, 0, ⟨true, []⟩, ⟨true, []⟩, []⟩
theorem put1 (u : Nat) (n : Int) (c : UInt8) (e : foldN n = u) (h : u < 128) (hc : UInt8.ofNat u = c) : encI n = [c] := by unfold encI; rw [e, putU_small h, hc]
theorem recF_none : recF noneR = [0, 0, 0, 1, 1, 0] := by
  have e0 : encI 0 = [0] := put1 0 0 0 (by decide) (by decide) (by decide)
  have e1 : encV ⟨true, []⟩ = [1] := by
    have := put1 1 (-1) 1 (by decide) (by decide) (by decide)
    unfold encV
    exact congrArg (· ++ ([] : Bs)) this
  unfold recF noneR
  simp only [e0, e1]
  have e2 : encHs [] = [0] := by
    unfold encHs
    exact congrArg (· ++ ([] : Bs)) e0
  rw [e2]
  rfl
theorem recOk_none : recOk noneR = 0 := by decide
theorem encR_none : encR noneR = [12, 0, 0, 0, 1, 1, 0] := by
  unfold encR
  rw [recF_none]
  have := put1 12 6 12 (by decide) (by decide) (by decide)
  unfold encV
  exact congrArg (· ++ ([0, 0, 0, 1, 1, 0] : Bs)) this
theorem encOk_none : encOk noneR = [12, 0, 0, 0, 1, 1, 0] := by unfold encOk; rw [if_pos recOk_none, encR_none]
theorem dec_none : decR [12, 0, 0, 0, 1, 1, 0] = noneR ∧ (decJ [12, 0, 0, 0, 1, 1, 0]).err = 0 := by
  have h := rec_back noneR (by unfold RecS.R noneR; simp) recOk_none (by decide)
  rw [encR_none] at h
  exact h
theorem dec_long : (decJ [12, 0, 0, 0, 1, 1, 0, 0]).err = 2 := by decide +kernel

end Go.Proofs.YtenojajfacacoaaDoor
