/- Contracts of package header: finding. -/
import Derived.Test.YtenojajfacacoaaDoorHdr2
namespace Go.Proofs.YtenojajfacacoaaDoor
open Go.RowKit

def findStep (key : Bs) (a : BlobS × Bool) (h : HdrS) : BlobS × Bool := if h.key = key then (h.val, true) else a
def findS (l : List HdrS) (key : Bs) : BlobS × Bool := l.foldl (findStep key) (⟨false, []⟩, false)
theorem find_skip (key : Bs) : ∀ (l : List HdrS) (a : BlobS × Bool), (∀ h ∈ l, h.key ≠ key) → l.foldl (findStep key) a = a
  | [], _, _ => rfl
  | h :: t, a, hh => by
    have e : findStep key a h = a := if_neg (hh h (by simp))
    show t.foldl (findStep key) (findStep key a h) = a
    rw [e]
    exact find_skip key t a (fun x hx => hh x (by simp [hx]))
theorem find_at (l : List HdrS) (key : Bs) (i : Nat) (hi : i < l.length) (he : l[i].key = key) (hn : ∀ h ∈ l.drop (i + 1), h.key ≠ key) : findS l key = (l[i].val, true) := by
  have e : l = l.take i ++ l[i] :: l.drop (i + 1) := by simp
  have e2 : findS l key = (l.take i ++ l[i] :: l.drop (i + 1)).foldl (findStep key) (⟨false, []⟩, false) := by unfold findS; rw [← e]
  rw [e2, List.foldl_append, List.foldl_cons, find_skip key _ _ hn]
  exact if_pos he

/-- The cells of a header that came in. -/
theorem hdr_cells {W0 w : World} {K : Know} {L : List Res} {l : List HdrS} {q : Option Addr} {cap : Nat} (hk : K.has (Know.flat RHdr (.slice q l.length cap) 3 l)) (h : St W0 w K L) (i : Nat) (hi : i < l.length) :
    ∃ b off, q = some ⟨b, off, none⟩ ∧ w.cell? ⟨b, off + i * 3, none⟩ = some (.string (bb (l[i]'hi).key)) ∧ w.cell? ⟨b, off + i * 3 + 1, none⟩ = some (.bool (l[i]'hi).val.null) ∧ w.cell? ⟨b, off + i * 3 + 2, none⟩ = some (.string (bb (l[i]'hi).val.data)) := by
  obtain ⟨F, hF, _⟩ := h.get
  obtain ⟨q2, cap2, hv2, hrow⟩ := (hk _ _ hF).at
  obtain ⟨b, off, hq, hcells⟩ := hrow (by omega)
  obtain ⟨cs, _, hR, hc⟩ := hcells i hi
  unfold RHdr at hR
  subst hR
  refine ⟨b, off, by simp at hv2; rw [hv2.1, hq], ?_, ?_, ?_⟩
  · have := hc 0 _ rfl; rwa [Nat.add_zero] at this
  · have := hc 1 _ rfl; rwa [← Nat.add_assoc] at this
  · have := hc 2 _ rfl; rwa [← Nat.add_assoc] at this
theorem flat_form {W0 w : World} {K : Know} {L : List Res} {α : Type} {R : List Value → α → Prop} {sz : Nat} {v : Value} {l : List α} (hk : K.has (Know.flat R v sz l)) (h : St W0 w K L) : ∃ q cap, v = .slice q l.length cap := by
  obtain ⟨F, hF, _⟩ := h.get
  obtain ⟨q, cap, hv, _⟩ := (hk _ _ hF).at
  exact ⟨q, cap, hv⟩

theorem wrap64_range (x : Int) : -9223372036854775808 ≤ wrap64 x ∧ wrap64 x < 9223372036854775808 := by simp only [wrap64]; omega
theorem putU_1' : putU (foldN 1) = [2] := by
  have e : foldN 1 = 2 := by decide
  rw [e, putU_small (by decide)]
  decide
theorem hdrs_one : (⟨[], 0⟩ : OutS).putHdrs [⟨[97], ⟨true, []⟩⟩] = ⟨[2, 2, 97, 1], 0⟩ := by
  have e1 : putU (foldN (-1)) = [1] := by
    have e : foldN (-1) = 1 := by decide
    rw [e, putU_small (by decide)]
    decide
  have h : (⟨[], 0⟩ : OutS).putHdrs [⟨[97], ⟨true, []⟩⟩] = ((((((⟨[], 0⟩ : OutS).put (putU (foldN 1))).put (putU (foldN 1))).put [97]).put (putU (foldN (-1)))).put []) := rfl
  rw [h, e1, putU_1']
  rfl
end Go.Proofs.YtenojajfacacoaaDoor
