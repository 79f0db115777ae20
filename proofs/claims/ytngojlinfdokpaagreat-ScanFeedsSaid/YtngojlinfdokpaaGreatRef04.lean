/- A text. -/
import Derived.Test.YtngojlinfdokpaaGreatBlob2
import Derived.Deep.RegionHeld3
namespace Go.Proofs.YtngojlinfdokpaaGreat
open Go.RowKit

def gotS (s : Bs) (head : Nat) (n : Int) : Except Int (BlobS × Nat) :=
  if n = -1 then .ok (BlobS.none, head)
  else if n < 0 then .error 4
  else if (s.length : Int) - head < n then .error 1
  else .ok (⟨false, (s.drop head).take n.toNat⟩, head + n.toNat)
def revaried (s : Bs) : Except Int (BlobS × Nat) := match vgetI s with | .ok x => gotS s x.2 x.1 | .error e => .error e
def gotB (r : Except Int (BlobS × Nat)) : BlobS := match r with | .ok x => x.1 | .error _ => ⟨false, []⟩
def gotN (r : Except Int (BlobS × Nat)) : Nat := match r with | .ok x => x.2 | .error _ => 0
def gotV (r : Except Int (BlobS × Nat)) : Value := .agg #[.bool (gotB r).null, .string (bb (gotB r).data), .int .i64 (gotN r), .int .i64 (vE r)]

set_option maxHeartbeats 2000000 in
set_option maxRecDepth 100000 in
theorem ref04_got (s : Bs) (hd : Nat) (n : Int) (hs : s.length ≤ 140737488355328) (hh : hd ≤ s.length) (hn : -9223372036854775808 ≤ n ∧ n < 9223372036854775808) {W0 w : World} {K : Know} {L : List Res} (h : St W0 w K L) :
   Calls Tryz.prog 91 #[.string (bb s), .int .i64 hd, .int .i64 n] w fun en w' => en = .returned (gotV (gotS s hd n)) ∧ St W0 w' K L := by
 have H := Lib.hid h
 have HN := Lib.hid hn
 clear h hn
 by_cases h1 : n = -1
 · have e : gotS s hd n = .ok (BlobS.none, hd) := if_pos h1
   rw [e]
   subst h1
   clear e
   go_enter Tryz.func91, Tryz.ntmps91
   go_wp2
   refine bodyPost_ret (v := gotV (.ok (BlobS.none, hd))) (by simp [results, Tryz.results91, go_sem, gotV, gotB, gotN, vE, BlobS.none]; try rfl) rfl ⟨rfl, H.out.alloc _⟩
 · by_cases h2 : n < 0
   · have e : gotS s hd n = .error 4 := (if_neg h1).trans (if_pos h2)
     rw [e]
     have hb : (n == -1) = false := by simpa using h1
     clear e h1
     go_enter Tryz.func91, Tryz.ntmps91
     go_wp2
     refine bodyPost_ret (v := gotV (.error 4)) (by simp [results, Tryz.results91, go_sem, gotV, gotB, gotN, vE]; try rfl) rfl ⟨rfl, H.out.alloc _⟩
   · have hb : (n == -1) = false := by simpa using h1
     by_cases h3 : (s.length : Int) - hd < n
     · have e : gotS s hd n = .error 1 := (if_neg h1).trans ((if_neg h2).trans (if_pos h3))
       rw [e]
       clear e h1
       go_enter Tryz.func91, Tryz.ntmps91
       go_wp2
       refine bodyPost_ret (v := gotV (.error 1)) (by simp [results, Tryz.results91, go_sem, gotV, gotB, gotN, vE]; try rfl) rfl ⟨rfl, H.out.alloc _⟩
     · have e : gotS s hd n = .ok (⟨false, (s.drop hd).take n.toNat⟩, hd + n.toNat) := (if_neg h1).trans ((if_neg h2).trans (if_neg h3))
       rw [e]
       clear e h1
       obtain ⟨m, rfl⟩ : ∃ m : Nat, n = m := ⟨n.toNat, by omega⟩
       have hm : hd + m ≤ s.length := by omega
       have hm2 : (m : Int) ≤ (s.length : Int) - hd := by omega
       clear h2 h3 hb
       go_enter Tryz.func91, Tryz.ntmps91
       go_wp2
       refine bodyPost_ret (v := gotV (.ok (⟨false, (s.drop hd).take m⟩, hd + m))) (by simp [results, Tryz.results91, go_sem, gotV, gotB, gotN, vE]) rfl ⟨rfl, H.out.alloc _⟩

end Go.Proofs.YtngojlinfdokpaaGreat
