/- Layer 7, walked: RecordRows: what it stands on. -/
import Derived.Test.YtkenneeejdngaaaRecs
import Derived.Test.YtkenneeejdngaaaL07E
namespace Go.Proofs.Ytkenneeejdngaaa
open Go.RowKit

def GoodR (l : List (RecS × Value)) : Prop := ∀ x ∈ l, smallR x.1 = 1 ∧ recOk x.1 = 0
theorem GoodR.nil : GoodR [] := fun _ h => by cases h
theorem GoodR.snoc {l : List (RecS × Value)} {k : Nat} (h : GoodR (l.take k)) (hk : k < l.length) (h1 : smallR l[k].1 = 1) (h2 : recOk l[k].1 = 0) : GoodR (l.take (k + 1)) := by
  intro x hx
  rw [List.take_succ_eq_append_getElem hk] at hx
  rcases List.mem_append.1 hx with hx | hx
  · exact h x hx
  · simp at hx; subst hx; exact ⟨h1, h2⟩
/-- What is known of records that came in. -/
def FitR (l : List (RecS × Value)) : Prop := ∀ x ∈ l, x.1.R ∧ x.1.hdrs.length ≤ 9223372036854775807 ∧ HFit x.1.hdrs ∧ x.1.key.data.length ≤ 140737488351232 ∧ x.1.val.data.length ≤ 140737488351232
theorem smallR_sum {x : RecS} (h : smallR x = 1) : x.sum ≤ 3000 := by
  unfold smallR at h
  split at h
  · cases h
  · unfold smallN at h
    split at h
    · unfold RecS.sum; omega
    · cases h
theorem smallR_one (x : RecS) (h : ¬ smallR x = 1) : smallR x = 0 := by
  unfold smallR at *
  split
  · rfl
  · rename_i h1
    rw [if_neg h1] at h
    unfold smallN at *
    split
    · rename_i h2; rw [if_pos h2] at h; exact absurd rfl h
    · rfl
theorem putRec_ok (o : Bs) (x : RecS) (h : recOk x = 0) : (⟨o, 0⟩ : OutS).putRec x = ⟨o ++ encR x, 0⟩ := by
  unfold OutS.putRec
  rw [if_pos h]
  rfl

set_option maxHeartbeats 1000000 in
set_option maxRecDepth 100000 in
theorem recordRows_long (l : List (RecS × Value)) (q : Option Addr) (cap : Nat) (hf : FitR l) (hl : 20 < l.length) {W0 w : World} {K : Know} (hk : K.has (Know.recs (.slice q l.length cap) l)) (h : St W0 w K []) :
    Calls Try.prog 10 #[.slice q l.length cap] w fun en w' => en = .returned (.bool true) ∧ Below W0.heap.size W0 w' := by
  have H := Lib.hid h
  have HK := Lib.hid hk
  have HFT := Lib.hid hf
  have hlen : decide ((20 : Int) < (l.length : Int)) = true := decide_eq_true (by omega)
  clear h hk hf hl
  go_enter Try.func10, Try.ntmps10
  go_wp2_with ((go_at_call 34; refine (speaks07 H.out).mono ?_; rintro e wn ⟨rfl, h⟩; replace H := Lib.hid h; clear h))
  go_ret
  exact ⟨rfl, H.out.below⟩

end Go.Proofs.Ytkenneeejdngaaa
