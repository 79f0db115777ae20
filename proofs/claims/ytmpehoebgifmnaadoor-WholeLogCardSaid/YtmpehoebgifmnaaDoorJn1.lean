/- Journals: made. -/
import Derived.Test.YtmpehoebgifmnaaDoorMapJ
import Derived.Carry
import Derived.Maps.OwnOps
namespace Go.Proofs.YtmpehoebgifmnaaDoor
open Go.RowKit

theorem mapT : Tryd.prog.underlying 55 = some (.map 9 9) := by kernel_rfl
theorem jr_new {W0 w : World} {K : Know} {L : List Res} (h : St W0 w K L) :
    Calls Tryd.prog 5 #[] w fun en w' => ∃ jb mb : Nat, en = .returned (.pointer (some ⟨jb, 0, none⟩)) ∧ St W0 w' K (.raw jb #[.map (some mb), .int .i64 0] 57 :: .gen (jmap mb 0 (fun _ => none)) :: L) := by
  obtain ⟨mb, hmb⟩ : ∃ b, w.heap.size = b := ⟨_, rfl⟩
  obtain ⟨jb, hjb⟩ : ∃ b, mb + 1 = b := ⟨_, rfl⟩
  have h1 := h.jnew
  rw [hmb] at h1
  have h2 := h1.allocRaw #[.map (some mb), .int .i64 0] 57
  simp only [World.size_alloc, hmb, hjb] at h2
  have H := Lib.hid h2
  have hmm := @run_makeMap Tryd.prog
  clear h h1 h2
  go_enter Tryd.func5, Tryd.ntmps5
  go_wp2
  go_ret
  exact ⟨jb, mb, rfl, H.out⟩
theorem jr_many (jb mb n : Nat) (m : Int) (f : JF) {W0 w : World} {K : Know} {L : List Res} (h : St W0 w K (.raw jb #[.map (some mb), .int .i64 m] 57 :: .gen (jmap mb n f) :: L)) :
    Calls Tryd.prog 14 #[.pointer (some ⟨jb, 0, none⟩)] w fun en w' => en = .returned (.int .i64 m) ∧ St W0 w' K (.raw jb #[.map (some mb), .int .i64 m] 57 :: .gen (jmap mb n f) :: L) := by
  have c0 := h.rawCell 0
  have c1 := h.rawCell 1
  simp at c0 c1
  have H := Lib.hid h
  clear h
  go_enter Tryd.func14, Tryd.ntmps14
  go_wp2
  go_ret
  exact ⟨rfl, H.out⟩

end Go.Proofs.YtmpehoebgifmnaaDoor
