/- Numbers that are none. -/
import Derived.Test.YtenojajfacacoaaDoorSc9
namespace Go.Proofs.YtenojajfacacoaaDoor
open Go.RowKit

theorem sc_nums_bad (nb : Nat) (cs : Array Value) (T : TypeId) (wb off cap ncap : Nat) (ws : List Bs) (n : Nat) (hw : n = ws.length) (hvs : numsRd ws = none) (hn : cs.size = ws.length) (hl : ws.length ≤ 1000000) (hx : ∀ x ∈ ws, x.length ≤ 1000000) {W0 w : World} {K : Know} {L : List Res} (hlib : K.has Know.lib) (hk : K.has (Know.strs wb off ws)) (h : St W0 w K (.raw nb cs T :: L)) :
    Calls Tryd.prog 56 #[.slice (some ⟨nb, 0, none⟩) n ncap, .slice (some ⟨wb, off, none⟩) n cap] w fun en w' => en = .returned (.bool false) ∧ St W0 w' K L := by
  subst hw
  refine (sc_nums nb cs T wb off cap ncap ws hn hl hx hlib hk h).mono ?_
  rintro e w' ⟨cs', rfl, h1, h2, h3⟩
  rw [hvs]
  exact ⟨rfl, h3.drop⟩
theorem sc_nums_many (nb n m : Nat) (wb off cap ncap : Nat) (ws : List Bs) (hm : m = ws.length) (hne : m ≠ n) {W0 w : World} {K : Know} {L : List Res} (h : St W0 w K L) :
    Calls Tryd.prog 56 #[.slice (some ⟨nb, 0, none⟩) n ncap, .slice (some ⟨wb, off, none⟩) m cap] w fun en w' => en = .returned (.bool false) ∧ St W0 w' K L := by
  subst hm; exact sc_nums_len nb n wb off cap ncap ws hne h

end Go.Proofs.YtenojajfacacoaaDoor
