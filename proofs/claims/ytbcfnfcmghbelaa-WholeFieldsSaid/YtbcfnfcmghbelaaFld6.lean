/- Through the layers, walked: WholeFields, whole. -/
import Derived.Test.YtbcfnfcmghbelaaFld5
namespace Go.Proofs.Ytbcfnfcmghbelaa
open Go.RowKit

theorem wholeFields_any (ns : List Int) (l : List BlobS) (vn vl : Value) (ed : Int) (w : World) (hed : 0 ≤ ed ∧ ed < 65536) (hn : ∀ n ∈ ns, -9223372036854775808 ≤ n ∧ n < 9223372036854775808) (hb : ∀ b ∈ l, b.data.length ≤ 140737488351232) (hr1 : RowsOf (fun _ cs x => RI cs x) (· < w.heap.size) w vn 1 ns) (hr2 : RowsOf (fun _ cs x => RB cs x) (· < w.heap.size) w vl 2 l) :
    Calls Try.prog 13 #[vn, vl, .int .u16 ed] w fun en w' => en = .returned (.bool true) ∧ Below w.heap.size w w' := by
  have h : St w w ((Know.flat RI vn 1 ns).and (Know.flat RB vl 2 l)) [] := St.start ⟨hr1, hr2⟩
  obtain ⟨qn, capn, hvn⟩ : ∃ q cap, vn = .slice q ns.length cap := by obtain ⟨p, cap, hv, _⟩ := hr1; exact ⟨p, cap, hv⟩
  obtain ⟨ql, capl, hvl⟩ : ∃ q cap, vl = .slice q l.length cap := by obtain ⟨p, cap, hv, _⟩ := hr2; exact ⟨p, cap, hv⟩
  subst hvn hvl
  by_cases hm : 40 < ns.length ∨ 40 < l.length
  · exact fields_many ns l qn ql capn capl ed hed hn hb hm (Know.has_left (Know.has_refl _)) (Know.has_right (Know.has_refl _)) h
  · exact fields_main ns l qn ql capn capl ed hed hn hb (by omega) (by omega) (Know.has_left (Know.has_refl _)) (Know.has_right (Know.has_refl _)) h

end Go.Proofs.Ytbcfnfcmghbelaa
