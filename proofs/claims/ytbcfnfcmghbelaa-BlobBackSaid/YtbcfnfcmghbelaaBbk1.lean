/- Blobs, one behind the other, of four kinds (pure). -/
import Derived.Test.YtbcfnfcmghbelaaFld1
import Derived.Test.YtbcfnfcmghbelaaGrow
import Derived.Test.YtbcfnfcmghbelaaL04S
namespace Go.Proofs.Ytbcfnfcmghbelaa
open Go.RowKit

def RU (cs : List Value) (x : Int) : Prop := cs = [.int .u8 x]
def bcells (x : BlobS) : List Value := [.bool x.null, .string (bb x.data)]
theorem elem_blob : ElemT Try.prog 63 (.agg #[.bool false, .string ⟨#[]⟩]) 2 24 := elemT_of (by kernel_rfl) rfl (by decide)
theorem bcells_len (l : List BlobS) : (l.flatMap bcells).length = l.length * 2 := by
  induction l with
  | nil => rfl
  | cons x t ih => rw [List.flatMap_cons, List.length_append, ih, List.length_cons]; show 2 + _ = _; omega
theorem bcells_get (l : List BlobS) (k : Nat) (h : k < l.length) : (l.flatMap bcells)[k * 2]? = some (.bool l[k].null) ∧ (l.flatMap bcells)[k * 2 + 1]? = some (.string (bb l[k].data)) := by
  have h0 := flatMap_get l bcells 2 (fun _ _ => rfl) k h 0 (by decide)
  have h1 := flatMap_get l bcells 2 (fun _ _ => rfl) k h 1 (by decide)
  rw [Nat.add_zero] at h0
  exact ⟨h0, h1⟩
theorem bcells_set : ∀ (l : List BlobS) (k : Nat) (h : k < l.length), (l.flatMap bcells).set (k * 2 + 1) (.string ⟨#[]⟩) = (l.set k ⟨l[k].null, []⟩).flatMap bcells
  | x :: t, 0, _ => rfl
  | x :: t, k + 1, h => by
    have e1 : (x :: t).flatMap bcells = bcells x ++ t.flatMap bcells := rfl
    have e2 : (k + 1) * 2 + 1 = (bcells x).length + (k * 2 + 1) := by show _ = 2 + _; omega
    rw [e1, e2, List.set_append_right _ _ (by omega), Nat.add_sub_cancel_left, bcells_set t k (by simpa using h)]
    rfl
/-- None has no bytes. -/
def normB (b : BlobS) : BlobS := if b.null then ⟨true, []⟩ else b
def midB (l : List BlobS) (k : Nat) : List BlobS := (l.take k).map normB ++ l.drop k
theorem midB_len (l : List BlobS) (k : Nat) (h : k ≤ l.length) : (midB l k).length = l.length := by unfold midB; simp; omega
theorem midB_pre (l : List BlobS) (k : Nat) (h : k ≤ l.length) : ((l.take k).map normB).length = k := by rw [List.length_map, List.length_take, Nat.min_eq_left h]
theorem midB_get (l : List BlobS) (k : Nat) (h : k < l.length) : (midB l k)[k]'(by rw [midB_len l k (by omega)]; exact h) = l[k] := by
  have e1 := midB_pre l k (by omega)
  unfold midB
  rw [List.getElem_append_right (by omega)]
  simp only [e1, Nat.sub_self, List.getElem_drop, Nat.add_zero]
theorem midB_set (l : List BlobS) (k : Nat) (h : k < l.length) : (midB l k).set k (normB l[k]) = midB l (k + 1) := by
  unfold midB
  have e1 := midB_pre l k (by omega)
  rw [List.set_append_right _ _ (by omega), e1, Nat.sub_self, List.drop_eq_getElem_cons h, List.set_cons_zero, List.take_succ_eq_append_getElem h, List.map_append, List.append_assoc]
  rfl
theorem midB_same (l : List BlobS) (k : Nat) (h : k < l.length) (hn : l[k].null = false) : midB l k = midB l (k + 1) := by
  have h1 : normB l[k] = l[k] := by unfold normB; rw [hn]; rfl
  have hk : k < (midB l k).length := by rw [midB_len l k (by omega)]; exact h
  have h2 : (midB l k).set k ((midB l k)[k]) = midB l k := List.set_getElem_self hk
  rw [← midB_set l k h, h1, ← midB_get l k h, h2]
theorem midB_none (l : List BlobS) (k : Nat) (h : k < l.length) (hn : l[k].null = true) : ((midB l k).flatMap bcells).set (k * 2 + 1) (.string ⟨#[]⟩) = (midB l (k + 1)).flatMap bcells := by
  have h1 : normB l[k] = ⟨l[k].null, []⟩ := by unfold normB; rw [hn]; rfl
  rw [bcells_set _ k (by rw [midB_len l k (by omega)]; exact h), ← midB_set l k h, h1, midB_get l k h]
theorem midB_zero (l : List BlobS) : midB l 0 = l := rfl
theorem midB_all (l : List BlobS) : midB l l.length = l.map normB := by unfold midB; simp
/-- How a Blob is written, of each of four kinds. -/
def encK (x : Int) (b : BlobS) : Bs := if x % 4 = 0 then encF 4 b else if x % 4 = 1 then encV b else if x % 4 = 2 then encF 2 ⟨false, b.data⟩ else encV ⟨false, b.data⟩
def encKs : List Int → List BlobS → Bs
  | x :: xs, b :: t => encK x b ++ encKs xs t
  | _, _ => []
theorem encKs_snoc : ∀ (xs : List Int) (l : List BlobS) (x : Int) (b : BlobS), xs.length = l.length → encKs (xs ++ [x]) (l ++ [b]) = encKs xs l ++ encK x b
  | [], [], x, b, _ => by simp [encKs]
  | y :: ys, c :: t, x, b, h => by
    have := encKs_snoc ys t x b (by simpa using h)
    show encK y c ++ encKs (ys ++ [x]) (t ++ [b]) = (encK y c ++ encKs ys t) ++ encK x b
    rw [this, List.append_assoc]
  | [], c :: t, x, b, h => by cases h
  | y :: ys, [], x, b, h => by cases h
def pre (xs : List Int) (l : List BlobS) (k : Nat) : Bs := encKs (xs.take k) ((l.take k).map normB)
theorem pre_succ (xs : List Int) (l : List BlobS) (k : Nat) (h : k < l.length) (hx : k < xs.length) : pre xs l (k + 1) = pre xs l k ++ encK xs[k] (normB l[k]) := by
  unfold pre
  rw [List.take_succ_eq_append_getElem h, List.take_succ_eq_append_getElem hx, List.map_append]
  exact encKs_snoc _ _ _ _ (by simp; omega)
def SOk (l : List BlobS) : Prop := ∀ b ∈ l, b.data.length ≤ 120
theorem SOk.snoc {l : List BlobS} {k : Nat} (h : SOk (l.take k)) (hk : k < l.length) (h1 : l[k].data.length ≤ 120) : SOk (l.take (k + 1)) := by
  intro x hx
  rw [List.take_succ_eq_append_getElem hk] at hx
  rcases List.mem_append.1 hx with hx | hx
  · exact h x hx
  · simp at hx; subst hx; exact h1
theorem normB_right (b : BlobS) : (normB b).right = true := by unfold normB BlobS.right; cases hb : b.null <;> simp [hb]
theorem normB_len (b : BlobS) (h : b.data.length ≤ 120) : (normB b).data.length ≤ 120 := by unfold normB; split <;> simp_all
theorem fitsB (b : BlobS) (h : b.data.length ≤ 120) : fits b.len 2 ∧ fits b.len 4 := by
  have h2 : half 2 = 32768 := by decide
  have h4 : half 4 = 2147483648 := by decide
  constructor
  · refine ⟨by decide, by decide, ?_, ?_⟩ <;> unfold BlobS.len <;> split <;> simp [h2] <;> omega
  · refine ⟨by decide, by decide, ?_, ?_⟩ <;> unfold BlobS.len <;> split <;> simp [h4] <;> omega
theorem encV_le' (b : BlobS) (h : b.data.length ≤ 120) : (encV b).length ≤ 200 := by
  have hr : -2147483648 ≤ b.len ∧ b.len < 2147483648 := by unfold BlobS.len; split <;> omega
  have h1 : (putU (foldN b.len)).length ≤ 10 := putU_len _ (foldN_lt (by omega) (by omega))
  unfold encV
  simp only [List.length_append]
  omega
theorem encK_le (x : Int) (b : BlobS) (h : b.data.length ≤ 120) : (encK x b).length ≤ 200 := by
  unfold encK
  split
  · unfold encF; simp only [List.length_append, beBytes_length]; omega
  split
  · exact encV_le' b h
  split
  · unfold encF; simp only [List.length_append, beBytes_length]; omega
  · exact encV_le' ⟨false, b.data⟩ h
theorem encKs_le : ∀ (xs : List Int) (l : List BlobS), SOk l → (encKs xs l).length ≤ 200 * l.length
  | [], _, _ => by simp [encKs]
  | _ :: _, [], _ => by simp [encKs]
  | x :: xs, b :: t, h => by
    have h1 := encKs_le xs t (fun y hy => h y (by simp [hy]))
    have h2 := encK_le x b (h b (by simp))
    show (encK x b ++ encKs xs t).length ≤ _
    rw [List.length_append, List.length_cons]
    omega
theorem pre_le (xs : List Int) (l : List BlobS) (k : Nat) (h : SOk (l.take k)) : (pre xs l k).length ≤ 200 * l.length := by
  have h1 := encKs_le (xs.take k) ((l.take k).map normB) (fun b hb => by
    obtain ⟨c, hc, rfl⟩ := List.mem_map.1 hb
    exact normB_len c (h c hc))
  unfold pre
  rw [List.length_map, List.length_take] at h1
  omega
/-- What is written, of each kind. -/
theorem putK0 (e : Bs) (b : BlobS) (hr : b.right = true) (h : b.data.length ≤ 120) : (⟨e, 0⟩ : OutS).putFixed b 4 = ⟨e ++ encF 4 b, 0⟩ := by
  unfold OutS.putFixed OutS.int OutS.putData
  rw [if_pos (fitsB b h).2, hr]
  simp [OutS.put, encF, List.append_assoc]
theorem putK2 (e : Bs) (b : BlobS) (hr : b.right = true) (h : b.data.length ≤ 120) : (⟨e, 0⟩ : OutS).putFixed b 2 = ⟨e ++ encF 2 b, 0⟩ := by
  unfold OutS.putFixed OutS.int OutS.putData
  rw [if_pos (fitsB b h).1, hr]
  simp [OutS.put, encF, List.append_assoc]
theorem putK1 (e : Bs) (b : BlobS) (hr : b.right = true) (h : b.data.length ≤ 120) : (⟨e, 0⟩ : OutS).putVaried b = ⟨e ++ encV b, 0⟩ := by
  unfold OutS.putVaried OutS.putInt OutS.putData
  rw [if_pos (fitsB b h).2, hr]
  simp [OutS.put, encV, List.append_assoc]
/-- What is read where it was written, of each kind. -/
theorem getK0 (s r : Bs) (p : Nat) (b : BlobS) (hr : b.right = true) (h : b.data.length ≤ 120) (hp : p ≤ s.length) (hd : s.drop p = encF 4 b ++ r) : (⟨s, p, 0⟩ : InS).fixed 4 = (b, ⟨s, p + (encF 4 b).length, 0⟩) :=
  ((rds_fixed 4 (by decide) (by decide)).ok s p b _ hp (by rw [hd]; exact refixed_back 4 b hr (fitsB b h).2 r)).2
theorem getK1 (s r : Bs) (p : Nat) (b : BlobS) (hr : b.right = true) (h : b.data.length ≤ 120) (hp : p ≤ s.length) (hd : s.drop p = encV b ++ r) : (⟨s, p, 0⟩ : InS).varied = (b, ⟨s, p + (encV b).length, 0⟩) :=
  (rds_varied.ok s p b _ hp (by rw [hd]; exact revaried_back b hr (by omega) r)).2
theorem getK2 (s r d : Bs) (p : Nat) (h : d.length ≤ 120) (hp : p ≤ s.length) (hd : s.drop p = encF 2 ⟨false, d⟩ ++ r) : (⟨s, p, 0⟩ : InS).text = (d, ⟨s, p + (encF 2 ⟨false, d⟩).length, 0⟩) := by
  have h1 : (⟨s, p, 0⟩ : InS).fixed 2 = (⟨false, d⟩, ⟨s, p + (encF 2 ⟨false, d⟩).length, 0⟩) := ((rds_fixed 2 (by decide) (by decide)).ok s p ⟨false, d⟩ _ hp (by rw [hd]; exact refixed_back 2 ⟨false, d⟩ rfl (fitsB ⟨false, d⟩ h).1 r)).2
  unfold InS.text
  rw [h1]
  rfl
theorem getK3 (s r d : Bs) (p : Nat) (h : d.length ≤ 120) (hp : p ≤ s.length) (hd : s.drop p = encV ⟨false, d⟩ ++ r) : (⟨s, p, 0⟩ : InS).name = (d, ⟨s, p + (encV ⟨false, d⟩).length, 0⟩) := by
  have h1 := getK1 s r p ⟨false, d⟩ rfl h hp hd
  unfold InS.name
  rw [h1]
  rfl
theorem pre_drop (xs : List Int) (l : List BlobS) (h : l.length ≤ xs.length) : ∀ (k : Nat) (hk : k < l.length), (pre xs l l.length).drop (pre xs l k).length = encK (xs[k]'(by omega)) (normB l[k]) ++ (pre xs l l.length).drop (pre xs l (k + 1)).length := by
  have ext : ∀ (j k : Nat), k + j ≤ l.length → ∃ r, pre xs l (k + j) = pre xs l k ++ r := by
    intro j
    induction j with
    | zero => intro k _; exact ⟨[], by simp⟩
    | succ j ih =>
      intro k hk
      obtain ⟨r, hr⟩ := ih k (by omega)
      refine ⟨r ++ encK (xs[k + j]'(by omega)) (normB (l[k + j]'(by omega))), ?_⟩
      rw [← Nat.add_assoc, pre_succ xs l (k + j) (by omega) (by omega), hr, List.append_assoc]
  intro k hk
  obtain ⟨r, hr⟩ := ext (l.length - (k + 1)) (k + 1) (by omega)
  rw [show k + 1 + (l.length - (k + 1)) = l.length by omega] at hr
  have e1 := pre_succ xs l k hk (by omega)
  rw [hr, List.drop_left, e1, List.append_assoc, List.drop_left]

end Go.Proofs.Ytbcfnfcmghbelaa
