/- A text. -/
import Derived.Test.YtnnnglklgofabaaGreatBlobP
namespace Go.Proofs.YtnnnglklgofabaaGreat
open Go.RowKit

theorem beBytes_sInt_cons (c : UInt8) (t : Bs) : beBytes (sInt (c :: t)) (t.length + 1) = c :: t := by
 induction h : t.length generalizing t with
 | zero =>
  have : t = [] := List.eq_nil_of_length_eq_zero h; subst this; have hc := c.toNat_lt; simp only [sInt, List.foldl_nil, beBytes, List.nil_append]
  congr 1
  unfold sByte
  apply UInt8.toNat_inj.1
  split <;> simp <;> omega
 | succ k ih =>
  obtain ⟨t', d, rfl⟩ : ∃ t' d, t = t' ++ [d] := ⟨t.dropLast, t.getLast (by intro h0; rw [h0] at h; simp at h), (List.dropLast_concat_getLast _).symm⟩; have hk : t'.length = k := by simpa using h
  have hd := d.toNat_lt; have e := sInt_snoc c t' d; have h1 : sInt (c :: (t' ++ [d])) / 256 = sInt (c :: t') := by rw [e]; omega
  have h2 : (sInt (c :: (t' ++ [d])) % 256).toNat = d.toNat := by rw [e]; omega
  show beBytes (sInt (c :: (t' ++ [d])) / 256) (k + 1) ++ [UInt8.ofNat (sInt (c :: (t' ++ [d])) % 256).toNat] = _
  rw [h1, h2, ih t' hk, UInt8.ofNat_toNat]
  rfl
theorem beBytes_sInt (l : Bs) : beBytes (sInt l) l.length = l := by
 cases l with
 | nil => rfl
 | cons c t => exact beBytes_sInt_cons c t

theorem fail_stuck {i : InS} (h : i.err ≠ 0) (e : Int) : i.fail e = i := if_neg h
def keyRight (s : Bs) : Bool := !s.isEmpty && decide (s.length ≤ 32767)
end Go.Proofs.YtnnnglklgofabaaGreat
