/- Fields, one behind the other, written: what it stands on. -/
import Derived.Test.YtbcfnfcmghbelaaFld2
import Derived.Test.YtbcfnfcmghbelaaS3
namespace Go.Proofs.Ytbcfnfcmghbelaa
open Go.RowKit

theorem putLong_put (o : OutS) (n : Int) : o.putLong n = o.put (encN n) := rfl
theorem putB_right (e : Bs) (b : BlobS) (h : BOk b) : ((⟨e, 0⟩ : OutS).putVaried b) = ⟨e ++ encV b, 0⟩ := by
  have hr : -2147483648 ≤ b.len ∧ b.len < 2147483648 := by have := h.2; unfold BlobS.len; split <;> omega
  have hf : fits b.len 4 := by
    have h4 : half 4 = 2147483648 := by decide
    exact ⟨by decide, by decide, by show -half 4 ≤ b.len; omega, by show b.len < half 4; omega⟩
  unfold OutS.putVaried OutS.putInt OutS.putData
  rw [if_pos hf, h.1]
  simp [OutS.put, encV, List.append_assoc]
theorem putF_right (e : Bs) (b : BlobS) (h : BOk b) : ((⟨e, 0⟩ : OutS).putFixed b 2) = ⟨e ++ encF 2 b, 0⟩ := by
  unfold OutS.putFixed OutS.int OutS.putData
  rw [if_pos h.fits, h.1]
  simp [OutS.put, encF, List.append_assoc]
theorem encN_le (n : Int) (h : -9223372036854775808 ≤ n ∧ n < 9223372036854775808) : (encN n).length ≤ 10 := putU_len _ (foldN_lt h.1 h.2)
theorem encB_le (b : BlobS) (h : BOk b) : (encB b).length ≤ 500 := by
  have hr : -2147483648 ≤ b.len ∧ b.len < 2147483648 := by have := h.2; unfold BlobS.len; split <;> omega
  have h1 : (putU (foldN b.len)).length ≤ 10 := putU_len _ (foldN_lt (by omega) (by omega))
  have h2 := h.2
  unfold encB encV encF
  simp only [List.length_append, beBytes_length]
  omega
theorem encNs_le : ∀ (ns : List Int), (∀ n ∈ ns, -9223372036854775808 ≤ n ∧ n < 9223372036854775808) → (encNs ns).length ≤ 10 * ns.length
  | [], _ => by simp [encNs]
  | n :: t, h => by
    have h1 := encNs_le t (fun m hm => h m (by simp [hm]))
    have h2 := encN_le n (h n (by simp))
    have e : encNs (n :: t) = encN n ++ encNs t := rfl
    rw [e, List.length_append, List.length_cons]
    omega
theorem encBs_le : ∀ (l : List BlobS), (∀ b ∈ l, BOk b) → (encBs l).length ≤ 500 * l.length
  | [], _ => by simp [encBs]
  | n :: t, h => by
    have h1 := encBs_le t (fun m hm => h m (by simp [hm]))
    have h2 := encB_le n (h n (by simp))
    have e : encBs (n :: t) = encB n ++ encBs t := rfl
    rw [e, List.length_append, List.length_cons]
    omega
theorem encNs_take (ns : List Int) (k : Nat) (h : k < ns.length) : encNs (ns.take (k + 1)) = encNs (ns.take k) ++ encN ns[k] := by rw [List.take_succ_eq_append_getElem h]; unfold encNs; rw [List.flatMap_append, List.flatMap_cons, List.flatMap_nil, List.append_nil]
theorem encBs_take (ns : List BlobS) (k : Nat) (h : k < ns.length) : encBs (ns.take (k + 1)) = encBs (ns.take k) ++ encB ns[k] := by rw [List.take_succ_eq_append_getElem h]; unfold encBs; rw [List.flatMap_append, List.flatMap_cons, List.flatMap_nil, List.append_nil]
theorem encN_m1 : encN (-1) = [1] := by
  have e : foldN (-1) = 1 := by decide
  unfold encN
  rw [e, putU_small (by decide)]
  rfl
def AllOk (l : List BlobS) : Prop := ∀ b ∈ l, BOk b
theorem AllOk.snoc {l : List BlobS} {k : Nat} (h : AllOk (l.take k)) (hk : k < l.length) (h1 : BOk l[k]) : AllOk (l.take (k + 1)) := by
  intro x hx
  rw [List.take_succ_eq_append_getElem hk] at hx
  rcases List.mem_append.1 hx with hx | hx
  · exact h x hx
  · simp at hx; subst hx; exact h1

end Go.Proofs.Ytbcfnfcmghbelaa
