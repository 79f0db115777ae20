/- A text. -/
import Derived.Test.YtnnnglklgofabaaRecs
import Derived.Test.YtnnnglklgofabaaGrow
import Derived.Test.YtnnnglklgofabaaS1
import Derived.Test.YtnnnglklgofabaaHdr2
namespace Go.Proofs.Ytnnnglklgofabaa
open Go.RowKit

theorem elem_rec : ElemT Try.prog 81 (.agg #[.int .i64 0, .int .i64 0, .bool false, .string ⟨#[]⟩, .bool false, .string ⟨#[]⟩, .slice none 0 0]) 7 88 := elemT_of (by kernel_rfl) rfl (by decide)
def consE (x : RecS) (r : Except Int (List RecS)) : Except Int (List RecS) := match r with | .ok t => .ok (x :: t) | .error e => .error e
def unp : Nat → InS → Except Int (List RecS)
  | 0, i => if i.left = 0 then .ok [] else .error 10
  | n + 1, i => if i.left = 0 then .error 10 else if i.record.2.err = 0 then consE i.record.1 (unp n i.record.2) else .error i.record.2.err
def preU (acc : List RecS) (r : Except Int (List RecS)) : Except Int (List RecS) := match r with | .ok t => .ok (acc ++ t) | .error e => .error e
theorem preU_nil (r : Except Int (List RecS)) : preU [] r = r := by cases r <;> rfl
theorem preU_snoc (acc : List RecS) (x : RecS) (r : Except Int (List RecS)) : preU (acc ++ [x]) r = preU acc (consE x r) := by
 cases r with
 | error e => rfl
 | ok t => simp [preU, consE]
theorem s_leftQ (p : Nat) (i : InS) (n : Nat) (hx : i.left = n) {W0 w : World} {K : Know} {L : List Res} (h : St W0 w K (.inp p i :: L)) :
  Calls Try.prog 48 #[inPtr p] w fun en w' => en = .returned (.int .i64 n) ∧ St W0 w' K (.inp p i :: L) := by
 subst hx; exact s_left p i h
theorem s_errE (p : Nat) (i : InS) (e : Int) (hx : i.err = e) {W0 w : World} {K : Know} {L : List Res} (h : St W0 w K (.inp p i :: L)) :
  Calls Try.prog 23 #[inPtr p] w fun en w' => en = .returned (.int .i64 e) ∧ St W0 w' K (.inp p i :: L) := by
 subst hx; exact s_err p i h

end Go.Proofs.Ytnnnglklgofabaa
