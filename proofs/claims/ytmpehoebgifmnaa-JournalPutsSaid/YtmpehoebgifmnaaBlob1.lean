/- A text. -/
import Derived.Test.YtmpehoebgifmnaaVBack
namespace Go.Proofs.Ytmpehoebgifmnaa
open Go.RowKit

structure BlobS where
  null : Bool
  data : Bs
deriving DecidableEq
def bv (b : BlobS) : Value := .agg #[.bool b.null, .string (bb b.data)]
def BlobS.right (b : BlobS) : Bool := !b.null || b.data.isEmpty
def BlobS.len (b : BlobS) : Int := if b.null then -1 else b.data.length
def BlobS.none : BlobS := ⟨true, []⟩

theorem Holds.rawMem {w : World} {b : Nat} {c : Array Value} {T : TypeId} : ∀ {L : List Res} {S : Nat → Prop}, Holds L w S → .raw b c T ∈ L → w.heap[b]? = some (.cells c T (0, 0))
  | [], _, _, hm => by cases hm
  | r :: L, S, ⟨S1, S2, h1, h2, _⟩, hm => by
    cases hm with
    | head => exact h1.1
    | tail _ hm => exact Holds.rawMem h2 hm
theorem St.rawMem {W0 w : World} {K : Know} {L : List Res} {b : Nat} {c : Array Value} {T : TypeId} (h : St W0 w K L) (hm : .raw b c T ∈ L) : w.heap[b]? = some (.cells c T (0, 0)) := by
 obtain ⟨_, S, F, hh, _⟩ := h; exact hh.rawMem hm
theorem St.cellOf {W0 w : World} {K : Know} {L : List Res} {b : Nat} {c : Array Value} {T : TypeId} (h : St W0 w K L) (hm : .raw b c T ∈ L) (j : Nat) : w.cell? ⟨b, j, none⟩ = c[j]? := cell_at (h.rawMem hm) j
theorem St.freeOf {W0 w : World} {K : Know} {L : List Res} {b : Nat} {c : Array Value} {T : TypeId} (h : St W0 w K L) (hm : .raw b c T ∈ L) (j : Nat) : w.frozen? ⟨b, j, none⟩ = false := free_at (h.rawMem hm) j

theorem St.cast {W0 w : World} {K : Know} {L : List Res} {L' : List Res} (h : St W0 w K L) (e : L = L') : St W0 w K L' := e ▸ h
theorem OutS.len_fail (o : OutS) (e : Int) : (o.fail e).bytes.length = o.bytes.length := by unfold OutS.fail; split <;> rfl
theorem OutS.len_put (o : OutS) (s : Bs) : (o.put s).bytes.length ≤ o.bytes.length + s.length := by unfold OutS.put; split <;> simp
theorem OutS.len_int (o : OutS) (n size : Int) : (o.int n size).bytes.length ≤ o.bytes.length + 8 := by
 unfold OutS.int
 split
 · rename_i h
   have := o.len_put (beBytes n size.toNat); rw [beBytes_length] at this; have := h.2.1
   omega
 · rw [OutS.len_fail]; omega
theorem OutS.ok_fail {o : OutS} {e : Int} {n : Nat} (h : o.ok n) : (o.fail e).ok n := by unfold OutS.ok at *; rw [OutS.len_fail]; exact h
theorem OutS.ok_mono {o : OutS} {n m : Nat} (h : o.ok n) (hm : m ≤ n) : o.ok m := by unfold OutS.ok at *; omega
theorem OutS.ok_int {o : OutS} {a b : Int} {n m : Nat} (h : o.ok n) (hm : 8 + m ≤ n) : (o.int a b).ok m := by unfold OutS.ok at *; have := o.len_int a b; omega
set_option maxHeartbeats 1000000 in
set_option maxRecDepth 100000 in
theorem blob_of (s : Bs) {W0 w : World} {K : Know} {L : List Res} (h : St W0 w K L) :
  Calls Try.prog 34 #[.string (bb s)] w fun en w' => en = .returned (bv ⟨false, s⟩) ∧ St W0 w' K L := by
 have H := Lib.hid h; clear h; go_enter Try.func34, Try.ntmps34; go_wp2; refine bodyPost_ret (v := bv ⟨false, s⟩) (by simp [results, Try.results34, go_sem, bv]) rfl ⟨rfl, ?_⟩; exact H.out.alloc _

set_option maxHeartbeats 1000000 in
set_option maxRecDepth 100000 in
theorem blob_none {W0 w : World} {K : Know} {L : List Res} (h : St W0 w K L) :
  Calls Try.prog 35 #[] w fun en w' => en = .returned (bv BlobS.none) ∧ St W0 w' K L := by
 have H := Lib.hid h; clear h; go_enter Try.func35, Try.ntmps35; go_wp2; refine bodyPost_ret (v := bv BlobS.none) (by simp [results, Try.results35, go_sem, bv, BlobS.none]; rfl) rfl ⟨rfl, ?_⟩; exact H.out.alloc _

set_option maxHeartbeats 1000000 in
set_option maxRecDepth 100000 in
theorem blob_right (b : BlobS) {W0 w : World} {K : Know} {L : List Res} (h : St W0 w K L) :
   Calls Try.prog 54 #[bv b] w fun en w' => en = .returned (.bool b.right) ∧ St W0 w' K L := by
 have H := Lib.hid h; clear h; obtain ⟨n, d⟩ := b
 cases n
 · go_enter Try.func54, Try.ntmps54; unfold bv; go_wp2; go_ret; exact ⟨rfl, H.out.alloc _⟩
 · go_enter Try.func54, Try.ntmps54; unfold bv; go_wp2; go_ret; exact ⟨by cases d <;> rfl, H.out.alloc _⟩

set_option maxHeartbeats 1000000 in
set_option maxRecDepth 100000 in
theorem blob_length (b : BlobS) {W0 w : World} {K : Know} {L : List Res} (h : St W0 w K L) :
   Calls Try.prog 72 #[bv b] w fun en w' => en = .returned (.int .i64 b.len) ∧ St W0 w' K L := by
 have H := Lib.hid h; clear h; obtain ⟨n, d⟩ := b
 cases n
 · go_enter Try.func72, Try.ntmps72; unfold bv; go_wp2; go_ret; exact ⟨rfl, H.out.alloc _⟩
 · go_enter Try.func72, Try.ntmps72; unfold bv; go_wp2; go_ret; exact ⟨rfl, H.out.alloc _⟩

def OutS.putData (o : OutS) (b : BlobS) : OutS := (if b.right then o else o.fail 4).put b.data
def OutS.putFixed (o : OutS) (b : BlobS) (size : Int) : OutS := (o.int b.len size).putData b
set_option maxHeartbeats 1000000 in
set_option maxRecDepth 100000 in
theorem blob_putData (p : Nat) (o : OutS) (b : BlobS) {W0 w : World} {K : Know} {L : List Res} (h : St W0 w K (.out p o :: L)) (hr : o.ok b.data.length) :
  Calls Try.prog 73 #[outPtr p, bv b] w fun en w' => en = .returned (.tuple #[]) ∧ St W0 w' K (.out p (o.putData b) :: L) := by
 have H := Lib.hid (h.allocRaw #[.bool b.null, .string (bb b.data)] 28); have HR := Lib.hid hr; clear h hr; go_enter Try.func73, Try.ntmps73; unfold bv
 go_wp2_with (first
  | (go_at_call 54; refine (blob_right b stQ).mono ?_; rintro e wn ⟨rfl, h⟩; replace H := Lib.hid h; clear h; have c1 := H.out.cellOf (b := w.heap.size) (c := #[.bool b.null, .string (bb b.data)]) (T := 28) (by simp) 1; simp at c1)
  | (go_at_call 57; refine (so_fail _ _ _ stQ).mono ?_; rintro e wn ⟨rfl, h⟩; replace H := Lib.hid h; clear h; have c1 := H.out.cellOf (b := w.heap.size) (c := #[.bool b.null, .string (bb b.data)]) (T := 28) (by simp) 1; simp at c1)
  | (go_at_call 79; refine (so_put _ _ _ stQ (by first | exact HR.out | exact OutS.ok_fail HR.out)).mono ?_; rintro e wn ⟨rfl, h⟩; replace H := Lib.hid h; clear h))
 all_goals
  go_end0; exact ⟨rfl, H.out.p1.drop.cast (by simp_all [OutS.putData])⟩

theorem BlobS.len_range (b : BlobS) (h : b.data.length ≤ 140737488355328) : -9223372036854775808 ≤ b.len ∧ b.len < 9223372036854775808 := by
 unfold BlobS.len
 split <;> omega
set_option maxHeartbeats 1000000 in
set_option maxRecDepth 100000 in
theorem blob_putFixed (p : Nat) (o : OutS) (b : BlobS) (size : Int) {W0 w : World} {K : Know} {L : List Res} (h : St W0 w K (.out p o :: L)) (hr : o.ok (b.data.length + 8)) :
  Calls Try.prog 59 #[outPtr p, bv b, .int .i64 size] w fun en w' => en = .returned (.tuple #[]) ∧ St W0 w' K (.out p (o.putFixed b size) :: L) := by
 have H := Lib.hid (h.allocRaw #[.bool b.null, .string (bb b.data)] 28); have HR := Lib.hid hr; have HB := Lib.hid (b.len_range (by unfold OutS.ok at hr; omega)); clear h hr; go_enter Try.func59, Try.ntmps59; unfold bv
 go_wp2_with (first
  | (go_at_call 72; refine (blob_length b stQ).mono ?_; rintro e wn ⟨rfl, h⟩; replace H := Lib.hid h; clear h; have c0 := H.out.cellOf (b := w.heap.size) (c := #[.bool b.null, .string (bb b.data)]) (T := 28) (by simp) 0; have c1 := H.out.cellOf (b := w.heap.size) (c := #[.bool b.null, .string (bb b.data)]) (T := 28) (by simp) 1; simp at c0 c1)
  | (go_at_call 37; refine (so_int _ _ _ _ HB.out stQ (OutS.ok_mono HR.out (by omega))).mono ?_; rintro e wn ⟨rfl, h⟩; replace H := Lib.hid h; clear h; have c0 := H.out.cellOf (b := w.heap.size) (c := #[.bool b.null, .string (bb b.data)]) (T := 28) (by simp) 0; have c1 := H.out.cellOf (b := w.heap.size) (c := #[.bool b.null, .string (bb b.data)]) (T := 28) (by simp) 1; simp at c0 c1)
  | (go_at_call 73; refine (blob_putData _ _ b stQ (OutS.ok_int HR.out (by omega))).mono ?_; rintro e wn ⟨rfl, h⟩; replace H := Lib.hid h; clear h))
 go_end0; exact ⟨rfl, H.out.p1.drop⟩

def OutS.putText (o : OutS) (s : Bs) : OutS := o.putFixed ⟨false, s⟩ 2
set_option maxHeartbeats 1000000 in
set_option maxRecDepth 100000 in
theorem blob_putText (p : Nat) (o : OutS) (s : Bs) {W0 w : World} {K : Know} {L : List Res} (h : St W0 w K (.out p o :: L)) (hr : o.ok (s.length + 8)) :
  Calls Try.prog 38 #[outPtr p, .string (bb s)] w fun en w' => en = .returned (.tuple #[]) ∧ St W0 w' K (.out p (o.putText s) :: L) := by
 have H := Lib.hid h; have HR := Lib.hid hr; clear h hr; go_enter Try.func38, Try.ntmps38
 go_wp2_with (first
  | (go_at_call 34; refine (blob_of s stQ).mono ?_; rintro e wn ⟨rfl, h⟩; replace H := Lib.hid h; clear h)
  | (go_at_call 59; refine (blob_putFixed _ _ ⟨false, s⟩ 2 stQ HR.out).mono ?_; rintro e wn ⟨rfl, h⟩; replace H := Lib.hid h; clear h))
 go_end0; exact ⟨rfl, H.out⟩
end Go.Proofs.Ytmpehoebgifmnaa
