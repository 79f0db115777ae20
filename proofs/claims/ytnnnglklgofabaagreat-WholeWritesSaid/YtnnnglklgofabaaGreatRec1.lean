/- A text. -/
import Derived.Test.YtnnnglklgofabaaGreatRecP
namespace Go.Proofs.YtnnnglklgofabaaGreat
open Go.RowKit

theorem raw7 {W0 w : World} {K : Know} {L : List Res} {b : Nat} {T : TypeId} {v0 v1 v2 v3 v4 v5 v6 : Value} (h : St W0 w K (.raw b #[v0, v1, v2, v3, v4, v5, v6] T :: L)) :
  w.cell? ⟨b, 0, none⟩ = some v0 ∧ w.cell? ⟨b, 1, none⟩ = some v1 ∧ w.cell? ⟨b, 2, none⟩ = some v2 ∧ w.cell? ⟨b, 3, none⟩ = some v3 ∧ w.cell? ⟨b, 4, none⟩ = some v4 ∧ w.cell? ⟨b, 5, none⟩ = some v5 ∧ w.cell? ⟨b, 6, none⟩ = some v6 ∧
  w.frozen? ⟨b, 0, none⟩ = false ∧ w.frozen? ⟨b, 1, none⟩ = false ∧ w.frozen? ⟨b, 2, none⟩ = false ∧ w.frozen? ⟨b, 3, none⟩ = false ∧ w.frozen? ⟨b, 4, none⟩ = false ∧ w.frozen? ⟨b, 5, none⟩ = false ∧ w.frozen? ⟨b, 6, none⟩ = false :=
 ⟨h.rawCell 0, h.rawCell 1, h.rawCell 2, h.rawCell 3, h.rawCell 4, h.rawCell 5, h.rawCell 6, h.rawFree 0, h.rawFree 1, h.rawFree 2, h.rawFree 3, h.rawFree 4, h.rawFree 5, h.rawFree 6⟩
def bcells (x : BlobS) : List Value := [.bool x.null, .string (bb x.data)]
theorem elem_blob : ElemT Tryz.prog 23 (.agg #[.bool false, .string ⟨#[]⟩]) 2 24 := elemT_of (by kernel_rfl) rfl (by decide)
def blobsOf (x : RecS) : List BlobS := x.key :: x.val :: x.hdrs.map HdrS.val
theorem blobsOf_right (x : RecS) : (blobsOf x).all BlobS.right = x.allRight := by
 unfold blobsOf RecS.allRight hright; rw [List.all_cons, List.all_cons, List.all_map, Bool.and_assoc]
 rfl
theorem bcells_get (l : List BlobS) (k : Nat) (h : k < l.length) : (l.flatMap bcells)[k * 2]? = some (.bool l[k].null) ∧ (l.flatMap bcells)[k * 2 + 1]? = some (.string (bb l[k].data)) := by
 have h0 := flatMap_get l bcells 2 (fun _ _ => rfl) k h 0 (by decide); have h1 := flatMap_get l bcells 2 (fun _ _ => rfl) k h 1 (by decide); rw [Nat.add_zero] at h0; exact ⟨h0, h1⟩

set_option maxHeartbeats 1000000 in
set_option maxRecDepth 100000 in
theorem rec_allRight (g cap n : Nat) (l : List BlobS) (hn : n = l.length) (hl : l.length ≤ 9223372036854775807) {W0 w : World} {K : Know} {L : List Res} (h : St W0 w K (.row (.slice (some ⟨g, 0, none⟩) n cap) 23 2 n (l.flatMap bcells) :: L)) :
  Calls Tryz.prog 151 #[.slice (some ⟨g, 0, none⟩) n cap] w fun en w' => en = .returned (.bool (l.all BlobS.right)) ∧ St W0 w' K (.row (.slice (some ⟨g, 0, none⟩) n cap) 23 2 n (l.flatMap bcells) :: L) := by
 subst hn; have H := Lib.hid h; obtain ⟨r, hr⟩ : ∃ r, l.all BlobS.right = r := ⟨_, rfl⟩; have HR := Lib.hid hr; rw [hr]; clear h hr; go_enter Tryz.func151, Tryz.ntmps151; go_wp2; go_loopw [7] (fun iv wr => ∃ k : Nat, k ≤ l.length ∧ iv = .int .i64 k ∧ (l.take k).all BlobS.right = true ∧ St W0 wr K (.row (.slice (some ⟨g, 0, none⟩) l.length cap) 23 2 l.length (l.flatMap bcells) :: L)) (fun iv _ => l.length - (intOf iv).toNat)
 case atStart => exact ⟨0, Nat.zero_le _, rfl, rfl, H.out⟩
 case round =>
  obtain ⟨k, hk, rfl, hall, hst⟩ := hrel; have HALL := Lib.hid hall; clear hall
  by_cases hlt : k < l.length
  · obtain ⟨e0, e1⟩ := bcells_get l k hlt; have c0 := (hst.rowCell (k * 2) (by omega)).trans e0; have c1 := (hst.rowCell (k * 2 + 1) (by omega)).trans e1; have hnx : (l.take (k + 1)).all BlobS.right = (l[k]'hlt).right := by rw [List.take_succ_eq_append_getElem hlt, List.all_append, HALL.out]; simp
    have hno : (l[k]'hlt).right = false → l.all BlobS.right = false := by
      intro h; rw [List.all_eq_false]; exact ⟨_, List.getElem_mem hlt, by rw [h]; decide⟩
    obtain ⟨x, hx⟩ : ∃ x, l[k]'hlt = x := ⟨_, rfl⟩; rw [hx] at c0 c1 hnx hno; have HX := Lib.hid (And.intro hnx hno); have H := Lib.hid hst; clear hst e0 e1 hx hnx hno
    cases hxr : x.right
    all_goals
      have ER := Lib.hid hxr; clear hxr; go_wp2_with (go_at_call 37; refine (blob_right x (H.out.alloc _)).mono ?_; rw [ER.out]; rintro e wn ⟨rfl, h⟩; replace H := Lib.hid h; clear h)
    · go_ret; exact ⟨ret_bool (by rw [← HR.out]; exact (HX.out.2 ER.out).symm), H.out⟩
    · go_roundw
      case rel => exact ⟨k + 1, hlt, by go_num, by rw [HX.out.1, ER.out], H.out⟩
      case measure => first | (simp [intOf]; done) | (simp [intOf]; omega)
  · have hke : k = l.length := by omega
    subst hke; rw [List.take_length] at HALL; go_wp2; go_ret; exact ⟨ret_bool (by rw [← HR.out]; exact HALL.out.symm), hst⟩

set_option maxHeartbeats 1000000 in
set_option maxRecDepth 100000 in
theorem rec_blobs (x : RecS) (v : Value) (hl : x.hdrs.length ≤ 1000000) {W0 w : World} {K : Know} {L : List Res} (hk : K.has (Know.flat RHdr v 3 x.hdrs)) (h : St W0 w K L) :
  Calls Tryz.prog 152 #[.agg #[.int .i64 x.time, .int .i64 x.off, .bool x.key.null, .string (bb x.key.data), .bool x.val.null, .string (bb x.val.data), v]] w fun en w' => ∃ g cap, en = .returned (.slice (some ⟨g, 0, none⟩) (blobsOf x).length cap) ∧ St W0 w' K (.row (.slice (some ⟨g, 0, none⟩) (blobsOf x).length cap) 23 2 (blobsOf x).length ((blobsOf x).flatMap bcells) :: L) := by
 obtain ⟨q, cap, rfl⟩ := flat_form hk h; have h0 := (h.allocRaw #[.int .i64 x.time, .int .i64 x.off, .bool x.key.null, .string (bb x.key.data), .bool x.val.null, .string (bb x.val.data), .slice q x.hdrs.length cap] 119).rowLit (bcells x.key ++ bcells x.val) 23 2 2 rfl (by decide); have H := Lib.hid h0; have HK := Lib.hid hk; clear h hk h0; go_enter Tryz.func152, Tryz.ntmps152; go_wp2; have H2 := Lib.hid ((H.out.p1.drop).cast (L' := .row (.slice (some ⟨w.heap.size + 1, 0, none⟩) 2 2) 23 2 [x.key, x.val].length ([x.key, x.val].flatMap bcells) :: L) (by rw [World.size_alloc]; rfl)); clear H; go_loopw [3, 14] (fun lv iv wr => ∃ (k : Nat) (acc : List BlobS), k ≤ x.hdrs.length ∧ iv = .int .i64 k ∧ acc = x.key :: x.val :: (x.hdrs.take k).map HdrS.val ∧ St W0 wr K (.row lv 23 2 acc.length (acc.flatMap bcells) :: L)) (fun _ iv _ => x.hdrs.length - (intOf iv).toNat)
 case atStart => exact ⟨0, _, Nat.zero_le _, rfl, by rw [List.take_zero]; rfl, H2.out⟩
 case round =>
  obtain ⟨k, acc, hk, rfl, hacc, hst⟩ := hrel; have HACC := Lib.hid hacc; have H := Lib.hid hst; have hlen : acc.length = k + 2 := by rw [hacc]; simp; omega
  have HLEN := Lib.hid hlen; clear hacc hlen H2
  by_cases hlt : k < x.hdrs.length
  · obtain ⟨b, off, hq, yq⟩ := hdr_cells HK.out hst k hlt; subst hq; clear yq; obtain ⟨y, hy⟩ : ∃ y, x.hdrs[k]'hlt = y := ⟨_, rfl⟩; obtain ⟨c0, c1, c2, _⟩ := hdr_cells4 HK.out hlt hy hst; have HY := Lib.hid (show acc ++ [y.val] = x.key :: x.val :: (x.hdrs.take (k + 1)).map HdrS.val by rw [HACC.out, List.take_succ_eq_append_getElem hlt, hy]; simp); clear hst hy; go_wp2_with (at_builtin; refine wpl_app1_st rfl _ _ 207 rfl 23 Tryz.underlying207 elem_blob _ _ _ rfl (H.out.alloc _) [.bool y.val.null, .string (bb y.val.data)] 23 (by rw [World.size_alloc]; rfl) rfl (by simp [Value.oneCell']) (by have := HLEN.out; unfold maxLen; omega) (by have := HLEN.out; omega) ?_; intro v' w' h; replace H := Lib.hid h; clear h); go_roundw
    case rel => exact ⟨k + 1, acc ++ [y.val], hlt, by go_num, HY.out, H.out.cast (by simp [bcells])⟩
    case measure => first | (simp [intOf]; done) | (simp [intOf]; omega)
  · have hke : k = x.hdrs.length := by omega
    subst hke; rw [List.take_length] at HACC; have hb : acc = blobsOf x := HACC.out; subst hb; obtain ⟨g, cp, hv⟩ := hst.rowSlice (by unfold blobsOf; simp); subst hv; clear hst; go_wp2; go_ret; exact ⟨g, cp, rfl, H.out⟩

set_option maxHeartbeats 1000000 in
set_option maxRecDepth 100000 in
theorem rec_right (x : RecS) (v : Value) (e : Int) (he : recOk x = e) (hl : x.hdrs.length ≤ 1000000) {W0 w : World} {K : Know} {L : List Res} (hk : K.has (Know.flat RHdr v 3 x.hdrs)) (h : St W0 w K L) :
   Calls Tryz.prog 122 #[.agg #[.int .i64 x.time, .int .i64 x.off, .bool x.key.null, .string (bb x.key.data), .bool x.val.null, .string (bb x.val.data), v]] w fun en w' => en = .returned (.int .i64 e) ∧ St W0 w' K L := by
 have H := Lib.hid (h.allocRaw #[.int .i64 x.time, .int .i64 x.off, .bool x.key.null, .string (bb x.key.data), .bool x.val.null, .string (bb x.val.data), v] 119); have HK := Lib.hid hk; have HL := Lib.hid hl; have hlb : (blobsOf x).length ≤ 9223372036854775807 := by unfold blobsOf; simp; omega
 have HLB := Lib.hid hlb; clear h hk hl hlb; unfold recOk at he
 by_cases h1 : x.off < 0
 · rw [if_pos (.inl h1)] at he; subst he; go_enter Tryz.func122, Tryz.ntmps122; go_wp2; go_ret; exact ⟨rfl, H.out.drop⟩
 by_cases h2 : 2147483647 < x.off
 · rw [if_pos (.inr h2)] at he; subst he; go_enter Tryz.func122, Tryz.ntmps122; go_wp2; go_ret; exact ⟨rfl, H.out.drop⟩
 rw [if_neg (by omega)] at he
 cases hr : x.allRight
 all_goals
   rw [hr] at he; have ER := Lib.hid ((blobsOf_right x).trans hr); clear hr
   first | (simp only [if_true] at he) | (simp only [Bool.false_eq_true, if_false] at he)
   subst he; go_enter Tryz.func122, Tryz.ntmps122
   go_wp2_with (first
    | (go_at_call 152; refine (rec_blobs x v HL.out HK.out H.out).mono ?_; rintro e wn ⟨g, cap, rfl, h⟩; replace H := Lib.hid h; clear h)
    | (go_at_call 151; refine (rec_allRight g cap _ _ rfl HLB.out H.out).mono ?_; rw [ER.out]; rintro e wn ⟨rfl, h⟩; replace H := Lib.hid h; clear h))
   go_ret; exact ⟨rfl, H.out.drop.drop⟩

end Go.Proofs.YtnnnglklgofabaaGreat
