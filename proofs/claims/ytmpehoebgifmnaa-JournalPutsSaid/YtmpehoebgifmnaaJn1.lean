/- A text. -/
import Derived.Test.YtmpehoebgifmnaaMapJ
import Derived.Carry
import Derived.Maps.OwnOps
namespace Go.Proofs.Ytmpehoebgifmnaa
open Go.RowKit

theorem mapT : Try.prog.underlying 61 = some (.map 9 9) := by kernel_rfl
theorem jr_new {W0 w : World} {K : Know} {L : List Res} (h : St W0 w K L) :
  Calls Try.prog 6 #[] w fun en w' => ∃ jb mb : Nat, en = .returned (.pointer (some ⟨jb, 0, none⟩)) ∧ St W0 w' K (.raw jb #[.map (some mb), .int .i64 0] 63 :: .gen (jmap mb 0 (fun _ => none)) :: L) := by
 obtain ⟨mb, hmb⟩ : ∃ b, w.heap.size = b := ⟨_, rfl⟩; obtain ⟨jb, hjb⟩ : ∃ b, mb + 1 = b := ⟨_, rfl⟩; have h1 := h.jnew; rw [hmb] at h1; have h2 := h1.allocRaw #[.map (some mb), .int .i64 0] 63; simp only [World.size_alloc, hmb, hjb] at h2; have H := Lib.hid h2; have hmm := @run_makeMap Try.prog; clear h h1 h2; go_enter Try.func6, Try.ntmps6; go_wp2; go_ret; exact ⟨jb, mb, rfl, H.out⟩
theorem jr_many (jb mb n : Nat) (m : Int) (f : JF) {W0 w : World} {K : Know} {L : List Res} (h : St W0 w K (.raw jb #[.map (some mb), .int .i64 m] 63 :: .gen (jmap mb n f) :: L)) :
  Calls Try.prog 12 #[.pointer (some ⟨jb, 0, none⟩)] w fun en w' => en = .returned (.int .i64 m) ∧ St W0 w' K (.raw jb #[.map (some mb), .int .i64 m] 63 :: .gen (jmap mb n f) :: L) := by
 have c0 := h.rawCell 0; have c1 := h.rawCell 1; simp at c0 c1; have H := Lib.hid h; clear h; go_enter Try.func12, Try.ntmps12; go_wp2; go_ret; exact ⟨rfl, H.out⟩

end Go.Proofs.Ytmpehoebgifmnaa
