/- Contracts of cursitorref06: Read. -/
import Derived.Test.YtmpehoebgifmnaaDoorRef06
namespace Go.Proofs.YtmpehoebgifmnaaDoor
open Go.RowKit

theorem gotV_ok (b : BlobS) (m : Nat) : gotV (.ok (b, m)) = .agg #[.bool b.null, .string (bb b.data), .int .i64 m, .int .i64 0] := rfl
def hdrsL (r : Except Int (List HdrS × Nat)) : List HdrS := match r with | .ok x => x.1 | .error _ => []
def hdrsM (r : Except Int (List HdrS × Nat)) : Nat := match r with | .ok x => x.2 | .error _ => 0
def hdrsE (r : Except Int (List HdrS × Nat)) : Int := match r with | .ok _ => 0 | .error e => e
def finish (acc : List HdrS) (at' : Nat) (r : Except Int (List HdrS × Nat)) : Except Int (List HdrS × Nat) := match r with | .ok x => .ok (acc ++ x.1, at' + x.2) | .error e => .error e
theorem finish_step {n : Nat} {acc : List HdrS} {a : Nat} {s : Bs} {x : HdrS} {m : Nat} (h : reHdr (s.drop a) = .ok (x, m)) : finish acc a (reHdrN (n + 1) (s.drop a)) = finish (acc ++ [x]) (a + m) (reHdrN n (s.drop (a + m))) := by
  rw [← List.drop_drop]
  show finish acc a (match reHdr (s.drop a) with | .error e => .error e | .ok x => match reHdrN n ((s.drop a).drop x.2) with | .error e => .error e | .ok y => .ok (x.1 :: y.1, x.2 + y.2)) = _
  rw [h]
  simp only
  cases reHdrN n ((s.drop a).drop m) with
  | error e => rfl
  | ok y => simp [finish, Nat.add_assoc]
theorem finish_err {n : Nat} {acc : List HdrS} {a : Nat} {s : Bs} {e : Int} (h : reHdr (s.drop a) = .error e) : finish acc a (reHdrN (n + 1) (s.drop a)) = .error e := by
  show finish acc a (match reHdr (s.drop a) with | .error e => .error e | .ok x => match reHdrN n ((s.drop a).drop x.2) with | .error e => .error e | .ok y => .ok (x.1 :: y.1, x.2 + y.2)) = _
  rw [h]
  rfl
theorem reHdr_v {l : Bs} {b c : BlobS} {m k : Nat} (h : revaried l = .ok (b, m)) (hn : b.null = false) (h2 : revaried (l.drop m) = .ok (c, k)) : reHdr l = .ok (⟨b.data, c⟩, m + k) := by unfold reHdr; rw [h]; simp only [hn]; rw [h2]; rfl
theorem reHdr_e1 {l : Bs} {e : Int} (h : revaried l = .error e) : reHdr l = .error e := by unfold reHdr; rw [h]
theorem reHdr_n {l : Bs} {b : BlobS} {m : Nat} (h : revaried l = .ok (b, m)) (hn : b.null = true) : reHdr l = .error 4 := by unfold reHdr; rw [h]; simp only [hn]; rfl
theorem reHdr_e2 {l : Bs} {b : BlobS} {m : Nat} {e : Int} (h : revaried l = .ok (b, m)) (hn : b.null = false) (h2 : revaried (l.drop m) = .error e) : reHdr l = .error e := by unfold reHdr; rw [h]; simp only [hn]; rw [h2]; rfl
theorem revaried_nz {l : Bs} {e : Int} (h : revaried l = .error e) : e ≠ 0 := (rds_varied.err l 0 e (Nat.zero_le _) (by rw [List.drop_zero]; exact h)).1
theorem St.emptyRow {W0 w : World} {K : Know} {L : List Res} (h : St W0 w K L) (T : TypeId) (sz : Nat) : St W0 (w.alloc (.cells #[] T)) K (.row (.slice (some ⟨w.heap.size, 0, none⟩) 0 0) T sz 0 [] :: L) := h.rowLit [] T sz 0 (by simp) (Nat.zero_le _)

def HRead (s : Bs) (K : Know) (W0 : World) (L : List Res) (en : Ending) (w' : World) : Prop := ∃ v, en = .returned (.tuple #[v, .int .i64 (hdrsM (reHdrs s)), .int .i64 (hdrsE (reHdrs s))]) ∧ St W0 w' (K.and (Know.flat RHdr v 3 (hdrsL (reHdrs s)))) L
theorem hread_err {s : Bs} {e : Int} (he : reHdrs s = .error e) {W0 w : World} {K : Know} {L : List Res} (h : St W0 w K L) : HRead s K W0 L (.returned (.tuple #[.slice none 0 0, .int .i64 0, .int .i64 e])) w := by
  unfold HRead
  rw [he]
  exact ⟨_, rfl, h.know (know_nil _ _ _)⟩
end Go.Proofs.YtmpehoebgifmnaaDoor
