/- Numbers of two parts, turned. -/
import Derived.Test.YtombolmicfjjpaaFltQ
import Derived.Test.YtombolmicfjjpaaSep
import Derived.Laws.ComplexArith
namespace Go.Proofs.Ytombolmicfjjpaa
open Go.RowKit

/-- A number of two whole parts, turned by so many quarters. -/
def turnI (r a b : Int) : Int × Int := if r = 1 then (-b, a) else if r = 2 then (-a, -b) else if r = 3 then (b, -a) else (a, b)

set_option maxHeartbeats 1000000 in
set_option maxRecDepth 100000 in
theorem tal_turn (x y : Nat) (a b : Int) (hx : FI x a) (hy : FI y b) (q r : Int) (hr : q % 4 = r) {W0 w : World} {K : Know} {L : List Res} (h : St W0 w K L) :
    Calls Try.prog 68 #[.complex .f64 x y, .int .i64 q] w fun en w' => ∃ x' y', en = .returned (.complex .f64 x' y') ∧ FI x' (turnI r a b).1 ∧ FI y' (turnI r a b).2 ∧ St W0 w' K L := by
  have H := Lib.hid h
  have HX := Lib.hid hx
  have HY := Lib.hid hy
  clear h hx hy
  rcases (by omega : r = 0 ∨ r = 1 ∨ r = 2 ∨ r = 3) with rfl | rfl | rfl | rfl
  · as_aux_lemma =>
    have ha : bits BinOp.and IntKind.i64 q 3 = 0 := by rw [and3, hr]
    have hn1 : ∀ (x : Nat) (w : World), (Op.unary .neg (.float .f64 x)).run Try.prog w = .ok (.float .f64 (Op.negFloat .f64 x)) w := fun _ _ => rfl
    have hn2 : ∀ (x y : Nat) (w : World), (Op.unary .neg (.complex .f64 x y)).run Try.prog w = .ok (.complex .f64 (Op.negFloat .f64 x) (Op.negFloat .f64 y)) w := fun _ _ _ => rfl
    clear hr
    go_enter Try.func68, Try.ntmps68
    go_wp2
    go_ret
    exact ⟨x, y, rfl, HX.out, HY.out, H.out⟩
  · as_aux_lemma =>
    have ha : bits BinOp.and IntKind.i64 q 3 = 1 := by rw [and3, hr]
    have hn1 : ∀ (x : Nat) (w : World), (Op.unary .neg (.float .f64 x)).run Try.prog w = .ok (.float .f64 (Op.negFloat .f64 x)) w := fun _ _ => rfl
    have hn2 : ∀ (x y : Nat) (w : World), (Op.unary .neg (.complex .f64 x y)).run Try.prog w = .ok (.complex .f64 (Op.negFloat .f64 x) (Op.negFloat .f64 y)) w := fun _ _ _ => rfl
    clear hr
    go_enter Try.func68, Try.ntmps68
    go_wp2
    go_ret
    exact ⟨_, _, rfl, HY.out.neg, HX.out, H.out⟩
  · as_aux_lemma =>
    have ha : bits BinOp.and IntKind.i64 q 3 = 2 := by rw [and3, hr]
    have hn1 : ∀ (x : Nat) (w : World), (Op.unary .neg (.float .f64 x)).run Try.prog w = .ok (.float .f64 (Op.negFloat .f64 x)) w := fun _ _ => rfl
    have hn2 : ∀ (x y : Nat) (w : World), (Op.unary .neg (.complex .f64 x y)).run Try.prog w = .ok (.complex .f64 (Op.negFloat .f64 x) (Op.negFloat .f64 y)) w := fun _ _ _ => rfl
    clear hr
    go_enter Try.func68, Try.ntmps68
    go_wp2
    go_ret
    exact ⟨_, _, rfl, HX.out.neg, HY.out.neg, H.out⟩
  · as_aux_lemma =>
    have ha : bits BinOp.and IntKind.i64 q 3 = 3 := by rw [and3, hr]
    have hn1 : ∀ (x : Nat) (w : World), (Op.unary .neg (.float .f64 x)).run Try.prog w = .ok (.float .f64 (Op.negFloat .f64 x)) w := fun _ _ => rfl
    have hn2 : ∀ (x y : Nat) (w : World), (Op.unary .neg (.complex .f64 x y)).run Try.prog w = .ok (.complex .f64 (Op.negFloat .f64 x) (Op.negFloat .f64 y)) w := fun _ _ _ => rfl
    clear hr
    go_enter Try.func68, Try.ntmps68
    go_wp2
    go_ret
    exact ⟨_, _, rfl, HY.out, HX.out.neg, H.out⟩

end Go.Proofs.Ytombolmicfjjpaa
