/- Blobs, one behind the other, whole. -/
import Derived.Test.YtbcfnfcmghbelaaBbk3
import Derived.Test.YtbcfnfcmghbelaaBbk4
import Derived.Test.YtbcfnfcmghbelaaOpenF
namespace Go.Proofs.Ytbcfnfcmghbelaa
open Go.RowKit

theorem blobBack_any (l : List BlobS) (ks : List Int) (vl vk : Value) (w : World) (hk : ∀ x ∈ ks, 0 ≤ x ∧ x < 256) (hr1 : RowsOf (fun _ cs x => RB cs x) (· < w.heap.size) w vl 2 l) (hr2 : RowsOf (fun _ cs x => RU cs x) (· < w.heap.size) w vk 1 ks) :
    Calls Try.prog 11 #[vl, vk] w fun en w' => en = .returned (.bool true) ∧ Below w.heap.size w w' := by
  have h : St w w ((Know.flat RB vl 2 l).and (Know.flat RU vk 1 ks)) [] := St.start ⟨hr1, hr2⟩
  obtain ⟨ql, capl, hvl⟩ : ∃ q cap, vl = .slice q l.length cap := by obtain ⟨p, cap, hv, _⟩ := hr1; exact ⟨p, cap, hv⟩
  obtain ⟨qk, capk, hvk⟩ : ∃ q cap, vk = .slice q ks.length cap := by obtain ⟨p, cap, hv, _⟩ := hr2; exact ⟨p, cap, hv⟩
  subst hvl hvk
  by_cases hm : 30 < l.length ∨ ks.length < l.length
  · exact bb_many l ks ql qk capl capk hm h
  · by_cases h0 : 0 < l.length
    · exact bb_main l ks ql qk capl capk h0 (by omega) (by omega) hk (Know.has_left (Know.has_refl _)) (Know.has_right (Know.has_refl _)) h
    · have e : l.length = 0 := by omega
      rw [e]
      exact bb_none ks ql qk capl capk h
section
variable {H : Type} {enc : TypeId × Value → H} {w : World} {spare : Nat → Bool} {held : Bool}
theorem ru_opens {N : Nat} : ∀ n cs y, DataW.trod enc Try.prog w 0 spare held n 5 cs = some y → Light 5 y.1 → (∀ x ∈ y.2, x.block < N) → ∃ x : Int, RU cs x ∧ (0 ≤ x ∧ x < 256) := fun n cs y h _ _ => by
  obtain ⟨x, e, _, q⟩ := DataW.trod_int Try.underlying5 h
  exact ⟨x, e, wf_u8 q⟩
end

end Go.Proofs.Ytbcfnfcmghbelaa
