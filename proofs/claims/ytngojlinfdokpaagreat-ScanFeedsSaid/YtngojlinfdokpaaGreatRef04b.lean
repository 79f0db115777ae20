/- A text. -/
import Derived.Test.YtngojlinfdokpaaGreatRef04
namespace Go.Proofs.YtngojlinfdokpaaGreat
open Go.RowKit

theorem gotV_err (e : Int) : gotV (.error e) = .agg #[.bool false, .string (bb []), .int .i64 0, .int .i64 e] := rfl

set_option maxHeartbeats 1000000 in
set_option maxRecDepth 100000 in
theorem ref04_readVaried (s : Bs) (hs : s.length ≤ 140737488355328) {W0 w : World} {K : Know} {L : List Res} (h : St W0 w K L) :
  Calls Tryz.prog 67 #[.string (bb s)] w fun en w' => en = .returned (gotV (revaried s)) ∧ St W0 w' K L := by
 have HS := Lib.hid hs
 have H := Lib.hid (h.allocRaw #[.bool false, .string ⟨#[]⟩, .int .i64 0, .int .i64 0] 121)
 clear h
 obtain ⟨r, hr⟩ : ∃ r, r = vgetF 15 5 0 0 s := ⟨_, rfl⟩
 have HR := Lib.hid hr
 have hd : revaried s = match (generalizing := false) r with | .ok x => gotS s x.2 (backN x.1) | .error e => .error e := by
  rw [hr]
  simp only [revaried, vgetI]
  cases vgetF 15 5 0 0 s <;> rfl
 cases r with
 | error e =>
  obtain ⟨he, _⟩ := digs_err 15 5 0 0 s 0 e (Nat.zero_le _) (by rw [List.drop_zero]; exact hr.symm)
  have he2 : (e != 0) = true := by simpa using he
  rw [hd]
  clear hd hr he
  go_enter Tryz.func67, Tryz.ntmps67
  go_wp2_with (first
   | (go_at_call 90; refine (ref_get s 32 5 15 4 HS.out (by decide) (by decide) (by decide) (by decide) (by decide) stQ).mono ?_; rw [← HR.out]; simp only [getV, vN, vK, vE]; rintro e wn ⟨rfl, h⟩; replace H := Lib.hid h; clear h; have f0 := H.out.freeOf (b := w.heap.size) (c := #[.bool false, .string ⟨#[]⟩, .int .i64 0, .int .i64 0]) (T := 121) (by simp) 0; have c0 := H.out.cellOf (b := w.heap.size) (c := #[.bool false, .string ⟨#[]⟩, .int .i64 0, .int .i64 0]) (T := 121) (by simp) 0; have f1 := H.out.freeOf (b := w.heap.size) (c := #[.bool false, .string ⟨#[]⟩, .int .i64 0, .int .i64 0]) (T := 121) (by simp) 1; have c1 := H.out.cellOf (b := w.heap.size) (c := #[.bool false, .string ⟨#[]⟩, .int .i64 0, .int .i64 0]) (T := 121) (by simp) 1; have f2 := H.out.freeOf (b := w.heap.size) (c := #[.bool false, .string ⟨#[]⟩, .int .i64 0, .int .i64 0]) (T := 121) (by simp) 2; have c2 := H.out.cellOf (b := w.heap.size) (c := #[.bool false, .string ⟨#[]⟩, .int .i64 0, .int .i64 0]) (T := 121) (by simp) 2; have f3 := H.out.freeOf (b := w.heap.size) (c := #[.bool false, .string ⟨#[]⟩, .int .i64 0, .int .i64 0]) (T := 121) (by simp) 3; have c3 := H.out.cellOf (b := w.heap.size) (c := #[.bool false, .string ⟨#[]⟩, .int .i64 0, .int .i64 0]) (T := 121) (by simp) 3; simp at c0 c1 c2 c3))
  refine bodyPost_ret (v := gotV (.error e)) (by simp [results, Tryz.results67, go_sem, gotV_err, c0, c1, c2, c3]; try rfl) rfl ⟨rfl, ?_⟩
  exact ((((H.out.rawSet 0 _).rawSet 1 _).rawSet 2 _).rawSet 3 _).drop
 | ok x =>
  obtain ⟨u, k⟩ := x
  obtain ⟨h1, h2, h3⟩ := putU_of_vget (by decide) hr.symm
  have h4 : vgetI s = .ok (backN u, k) := by simp only [vgetI, ← hr]
  obtain ⟨_, _, _, h5⟩ := vgetI_one h4
  have HK := Lib.hid h3
  have HB := Lib.hid (show -9223372036854775808 ≤ backN u ∧ backN u < 9223372036854775808 by omega)
  have HU := Lib.hid (show u < 18446744073709551616 from by
   have h5 := digs_lt 15 (by decide) 4 0 0 ⟨s, 0, 0⟩ (by decide)
   obtain ⟨_, _, h6⟩ := digs_ok 15 5 0 0 s 0 u k (Nat.zero_le _) hr.symm
   rw [h6] at h5
   exact Nat.lt_trans h5 (by decide))
  rw [hd]
  clear hd hr h1 h2 h3 h4 h5
  simp only
  go_enter Tryz.func67, Tryz.ntmps67
  go_wp2_with (first
   | (go_at_call 90; refine (ref_get s 32 5 15 4 HS.out (by decide) (by decide) (by decide) (by decide) (by decide) stQ).mono ?_; rw [← HR.out]; simp only [getV, vN, vK, vE]; rintro e wn ⟨rfl, h⟩; replace H := Lib.hid h; clear h; have f0 := H.out.freeOf (b := w.heap.size) (c := #[.bool false, .string ⟨#[]⟩, .int .i64 0, .int .i64 0]) (T := 121) (by simp) 0; have c0 := H.out.cellOf (b := w.heap.size) (c := #[.bool false, .string ⟨#[]⟩, .int .i64 0, .int .i64 0]) (T := 121) (by simp) 0; have f1 := H.out.freeOf (b := w.heap.size) (c := #[.bool false, .string ⟨#[]⟩, .int .i64 0, .int .i64 0]) (T := 121) (by simp) 1; have c1 := H.out.cellOf (b := w.heap.size) (c := #[.bool false, .string ⟨#[]⟩, .int .i64 0, .int .i64 0]) (T := 121) (by simp) 1; have f2 := H.out.freeOf (b := w.heap.size) (c := #[.bool false, .string ⟨#[]⟩, .int .i64 0, .int .i64 0]) (T := 121) (by simp) 2; have c2 := H.out.cellOf (b := w.heap.size) (c := #[.bool false, .string ⟨#[]⟩, .int .i64 0, .int .i64 0]) (T := 121) (by simp) 2; have f3 := H.out.freeOf (b := w.heap.size) (c := #[.bool false, .string ⟨#[]⟩, .int .i64 0, .int .i64 0]) (T := 121) (by simp) 3; have c3 := H.out.cellOf (b := w.heap.size) (c := #[.bool false, .string ⟨#[]⟩, .int .i64 0, .int .i64 0]) (T := 121) (by simp) 3; simp at c0 c1 c2 c3)
   | (go_at_call 92; refine (ref_back u HU.out stQ).mono ?_; rintro e wn ⟨rfl, h⟩; replace H := Lib.hid h; clear h; have f0 := H.out.freeOf (b := w.heap.size) (c := #[.bool false, .string ⟨#[]⟩, .int .i64 0, .int .i64 0]) (T := 121) (by simp) 0; have c0 := H.out.cellOf (b := w.heap.size) (c := #[.bool false, .string ⟨#[]⟩, .int .i64 0, .int .i64 0]) (T := 121) (by simp) 0; have f1 := H.out.freeOf (b := w.heap.size) (c := #[.bool false, .string ⟨#[]⟩, .int .i64 0, .int .i64 0]) (T := 121) (by simp) 1; have c1 := H.out.cellOf (b := w.heap.size) (c := #[.bool false, .string ⟨#[]⟩, .int .i64 0, .int .i64 0]) (T := 121) (by simp) 1; have f2 := H.out.freeOf (b := w.heap.size) (c := #[.bool false, .string ⟨#[]⟩, .int .i64 0, .int .i64 0]) (T := 121) (by simp) 2; have c2 := H.out.cellOf (b := w.heap.size) (c := #[.bool false, .string ⟨#[]⟩, .int .i64 0, .int .i64 0]) (T := 121) (by simp) 2; have f3 := H.out.freeOf (b := w.heap.size) (c := #[.bool false, .string ⟨#[]⟩, .int .i64 0, .int .i64 0]) (T := 121) (by simp) 3; have c3 := H.out.cellOf (b := w.heap.size) (c := #[.bool false, .string ⟨#[]⟩, .int .i64 0, .int .i64 0]) (T := 121) (by simp) 3; simp at c0 c1 c2 c3)
   | (go_at_call 91; refine (ref04_got s k _ HS.out HK.out HB.out stQ).mono ?_; rintro e wn ⟨rfl, h⟩; replace H := Lib.hid h; clear h; have f0 := H.out.freeOf (b := w.heap.size) (c := #[.bool false, .string ⟨#[]⟩, .int .i64 0, .int .i64 0]) (T := 121) (by simp) 0; have c0 := H.out.cellOf (b := w.heap.size) (c := #[.bool false, .string ⟨#[]⟩, .int .i64 0, .int .i64 0]) (T := 121) (by simp) 0; have f1 := H.out.freeOf (b := w.heap.size) (c := #[.bool false, .string ⟨#[]⟩, .int .i64 0, .int .i64 0]) (T := 121) (by simp) 1; have c1 := H.out.cellOf (b := w.heap.size) (c := #[.bool false, .string ⟨#[]⟩, .int .i64 0, .int .i64 0]) (T := 121) (by simp) 1; have f2 := H.out.freeOf (b := w.heap.size) (c := #[.bool false, .string ⟨#[]⟩, .int .i64 0, .int .i64 0]) (T := 121) (by simp) 2; have c2 := H.out.cellOf (b := w.heap.size) (c := #[.bool false, .string ⟨#[]⟩, .int .i64 0, .int .i64 0]) (T := 121) (by simp) 2; have f3 := H.out.freeOf (b := w.heap.size) (c := #[.bool false, .string ⟨#[]⟩, .int .i64 0, .int .i64 0]) (T := 121) (by simp) 3; have c3 := H.out.cellOf (b := w.heap.size) (c := #[.bool false, .string ⟨#[]⟩, .int .i64 0, .int .i64 0]) (T := 121) (by simp) 3; simp at c0 c1 c2 c3; unfold gotV))
  refine bodyPost_ret (v := gotV (gotS s k (backN u))) (by simp [results, Tryz.results67, go_sem, gotV, c0, c1, c2, c3]; try rfl) rfl ⟨rfl, ?_⟩
  exact ((((H.out.rawSet 0 _).rawSet 1 _).rawSet 2 _).rawSet 3 _).drop

end Go.Proofs.YtngojlinfdokpaaGreat
