/- Contracts of package record: whether one may be. -/
import Derived.Test.YtmpehoebgifmnaaDoorRecP
namespace Go.Proofs.YtmpehoebgifmnaaDoor
open Go.RowKit

theorem raw7 {W0 w : World} {K : Know} {L : List Res} {b : Nat} {T : TypeId} {v0 v1 v2 v3 v4 v5 v6 : Value} (h : St W0 w K (.raw b #[v0, v1, v2, v3, v4, v5, v6] T :: L)) :
    w.cell? ⟨b, 0, none⟩ = some v0 ∧ w.cell? ⟨b, 1, none⟩ = some v1 ∧ w.cell? ⟨b, 2, none⟩ = some v2 ∧ w.cell? ⟨b, 3, none⟩ = some v3 ∧ w.cell? ⟨b, 4, none⟩ = some v4 ∧ w.cell? ⟨b, 5, none⟩ = some v5 ∧ w.cell? ⟨b, 6, none⟩ = some v6 ∧
    w.frozen? ⟨b, 0, none⟩ = false ∧ w.frozen? ⟨b, 1, none⟩ = false ∧ w.frozen? ⟨b, 2, none⟩ = false ∧ w.frozen? ⟨b, 3, none⟩ = false ∧ w.frozen? ⟨b, 4, none⟩ = false ∧ w.frozen? ⟨b, 5, none⟩ = false ∧ w.frozen? ⟨b, 6, none⟩ = false :=
  ⟨h.rawCell 0, h.rawCell 1, h.rawCell 2, h.rawCell 3, h.rawCell 4, h.rawCell 5, h.rawCell 6, h.rawFree 0, h.rawFree 1, h.rawFree 2, h.rawFree 3, h.rawFree 4, h.rawFree 5, h.rawFree 6⟩
def bcells (x : BlobS) : List Value := [.bool x.null, .string (bb x.data)]
theorem elem_blob : ElemT Tryd.prog 34 (.agg #[.bool false, .string ⟨#[]⟩]) 2 24 := elemT_of (by kernel_rfl) rfl (by decide)
def blobsOf (x : RecS) : List BlobS := x.key :: x.val :: x.hdrs.map HdrS.val
theorem blobsOf_right (x : RecS) : (blobsOf x).all BlobS.right = x.allRight := by
  unfold blobsOf RecS.allRight hright
  rw [List.all_cons, List.all_cons, List.all_map, Bool.and_assoc]
  rfl
theorem bcells_get (l : List BlobS) (k : Nat) (h : k < l.length) : (l.flatMap bcells)[k * 2]? = some (.bool l[k].null) ∧ (l.flatMap bcells)[k * 2 + 1]? = some (.string (bb l[k].data)) := by
  have h0 := flatMap_get l bcells 2 (fun _ _ => rfl) k h 0 (by decide)
  have h1 := flatMap_get l bcells 2 (fun _ _ => rfl) k h 1 (by decide)
  rw [Nat.add_zero] at h0
  exact ⟨h0, h1⟩

end Go.Proofs.YtmpehoebgifmnaaDoor
