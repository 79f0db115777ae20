/- Rows of records. -/
import Derived.Test.YtmpehoebgifmnaaDoorRec8
import Derived.Test.YtmpehoebgifmnaaDoorRec6
namespace Go.Proofs.YtmpehoebgifmnaaDoor
open Go.RowKit

/-- Of all of a row. -/
def Know.all {α : Type} (l : List α) (k : α → Know) : Know := ⟨fun w F => ∀ x ∈ l, (k x).p w F, fun w w' F h hs hk x hx => (k x).keep w w' F (h x hx) hs hk, fun w F F' h hs x hx => (k x).mono w F F' (h x hx) hs⟩
/-- A record's cells, and where its headers lie. -/
def RRec (cs : List Value) (x : RecS × Value) : Prop := cs = [.int .i64 x.1.time, .int .i64 x.1.off, .bool x.1.key.null, .string (bb x.1.key.data), .bool x.1.val.null, .string (bb x.1.val.data), x.2]
def rcells (x : RecS × Value) : List Value := [.int .i64 x.1.time, .int .i64 x.1.off, .bool x.1.key.null, .string (bb x.1.key.data), .bool x.1.val.null, .string (bb x.1.val.data), x.2]
def Know.recs (v : Value) (l : List (RecS × Value)) : Know := (Know.flat RRec v 7 l).and (Know.all l fun x => Know.flat RHdr x.2 3 x.1.hdrs)
theorem recs_flat {K : Know} {v : Value} {l : List (RecS × Value)} (h : K.has (Know.recs v l)) : K.has (Know.flat RRec v 7 l) := fun w F x => (h w F x).1
theorem recs_hdrs {K : Know} {v : Value} {l : List (RecS × Value)} (h : K.has (Know.recs v l)) {x : RecS × Value} (hx : x ∈ l) : K.has (Know.flat RHdr x.2 3 x.1.hdrs) := fun w F y => (h w F y).2 x hx
theorem recs_form {W0 w : World} {K : Know} {L : List Res} {v : Value} {l : List (RecS × Value)} (hk : K.has (Know.recs v l)) (h : St W0 w K L) : ∃ q cap, v = .slice q l.length cap := by
  obtain ⟨F, hF, _⟩ := h.get
  obtain ⟨q, cap, hv, _⟩ := (recs_flat hk _ _ hF).at
  exact ⟨q, cap, hv⟩
/-- Where the records lie. -/
theorem recs_at {W0 w : World} {K : Know} {L : List Res} {q : Option Addr} {n cap : Nat} {l : List (RecS × Value)} (hk : K.has (Know.recs (.slice q n cap) l)) (h : St W0 w K L) (h0 : 0 < l.length) : ∃ b off, q = some ⟨b, off, none⟩ := by
  obtain ⟨F, hF, _⟩ := h.get
  obtain ⟨q2, cap2, hv, hr⟩ := (recs_flat hk _ _ hF).at
  obtain ⟨b, off, hq, _⟩ := hr h0
  simp at hv
  exact ⟨b, off, hv.1.trans hq⟩
theorem recs_cell {W0 w : World} {K : Know} {L : List Res} {b off n cap : Nat} {l : List (RecS × Value)} (hk : K.has (Know.recs (.slice (some ⟨b, off, none⟩) n cap) l)) (h : St W0 w K L) (i : Nat) (hi : i < l.length) (x : RecS × Value) (hx : l[i] = x) :
    w.cell? ⟨b, off + (i * 7), none⟩ = some (.int .i64 x.1.time) ∧ w.cell? ⟨b, off + (i * 7 + 1), none⟩ = some (.int .i64 x.1.off) ∧ w.cell? ⟨b, off + (i * 7 + 2), none⟩ = some (.bool x.1.key.null) ∧ w.cell? ⟨b, off + (i * 7 + 3), none⟩ = some (.string (bb x.1.key.data)) ∧ w.cell? ⟨b, off + (i * 7 + 4), none⟩ = some (.bool x.1.val.null) ∧ w.cell? ⟨b, off + (i * 7 + 5), none⟩ = some (.string (bb x.1.val.data)) ∧ w.cell? ⟨b, off + (i * 7 + 6), none⟩ = some (x.2) := by
  subst hx
  obtain ⟨F, hF, _⟩ := h.get
  obtain ⟨q2, cap2, hv, hr⟩ := (recs_flat hk _ _ hF).at
  obtain ⟨b2, off2, hq, hc⟩ := hr (by omega)
  rw [hq] at hv
  simp at hv
  obtain ⟨⟨rfl, rfl⟩, _, _⟩ := hv
  obtain ⟨cs, _, hR, hcs⟩ := hc i hi
  unfold RRec at hR
  subst hR
  exact ⟨hcs 0 _ rfl, hcs 1 _ rfl, hcs 2 _ rfl, hcs 3 _ rfl, hcs 4 _ rfl, hcs 5 _ rfl, hcs 6 _ rfl⟩
def encAll (l : List (RecS × Value)) : Bs := l.flatMap fun x => encR x.1
theorem encAll_snoc (l : List (RecS × Value)) (x : RecS × Value) : encAll (l ++ [x]) = encAll l ++ encR x.1 := by unfold encAll; simp
theorem encAll_take (l : List (RecS × Value)) (k : Nat) (h : k < l.length) : encAll (l.take (k + 1)) = encAll (l.take k) ++ encR l[k].1 := by rw [List.take_succ_eq_append_getElem h, encAll_snoc]
theorem encAll_le : ∀ (l : List (RecS × Value)), (∀ x ∈ l, (encR x.1).length ≤ 200000) → (encAll l).length ≤ 200000 * l.length
  | [], _ => by simp [encAll]
  | x :: t, h => by
    have h1 := encAll_le t (fun y hy => h y (by simp [hy]))
    have h2 := h x (by simp)
    have e : encAll (x :: t) = encR x.1 ++ encAll t := rfl
    rw [e, List.length_append, List.length_cons]
    omega
theorem reRec_back (x : RecS) (hx : x.R) (ho : recOk x = 0) (hs : x.sum ≤ 1000000) (r : Bs) : reRec (encR x ++ r) = .ok (x, (encR x).length) := by
  have hle := recF_le x hx hs
  have h1 := revaried_back ⟨false, recF x⟩ rfl (by simp only; omega) r
  unfold reRec encR
  rw [h1]
  simp only [Bool.false_eq_true, if_false]
  rw [reInner_back x hx ho hs]
/-- The k-th record is read where those ahead of it end. -/
theorem record_next (l : List (RecS × Value)) (k : Nat) (hk : k < l.length) (hx : l[k].1.R) (ho : recOk l[k].1 = 0) (hs : l[k].1.sum ≤ 1000000) :
    (⟨encAll l, (encAll (l.take k)).length, 0⟩ : InS).record = (l[k].1, ⟨encAll l, (encAll (l.take (k + 1))).length, 0⟩) := by
  have h1 : l = l.take k ++ (l[k] :: l.drop (k + 1)) := by rw [← List.drop_eq_getElem_cons hk, List.take_append_drop]
  have e1 : encAll l = encAll (l.take k) ++ (encR l[k].1 ++ encAll (l.drop (k + 1))) := by
    have e2 : encAll (l.take k ++ (l[k] :: l.drop (k + 1))) = encAll (l.take k) ++ (encR l[k].1 ++ encAll (l.drop (k + 1))) := by
      unfold encAll
      rw [List.flatMap_append, List.flatMap_cons]
    rw [← e2, ← h1]
  have hd : (encAll l).drop (encAll (l.take k)).length = encR l[k].1 ++ encAll (l.drop (k + 1)) := by rw [e1, List.drop_left]
  have h2 := rds_rec.ok (encAll l) (encAll (l.take k)).length l[k].1 (encR l[k].1).length (by rw [e1, List.length_append]; omega) (by rw [hd]; exact reRec_back _ hx ho hs _)
  rw [encAll_take l k hk, List.length_append]
  exact h2.2

end Go.Proofs.YtmpehoebgifmnaaDoor
