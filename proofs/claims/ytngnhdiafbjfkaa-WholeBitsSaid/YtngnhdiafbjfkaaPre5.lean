/- Contracts of cursitorref10: Bytes. -/
import Derived.Test.YtngnhdiafbjfkaaPre4
namespace Go.Proofs.Ytngnhdiafbjfkaa
open Go.RowKit

def psz : List Nat := [8, 4, 4, 4, 2, 4, 8, 8, 8, 2, 4, 4]
def adj (k : Nat) : Nat := if k ≤ 3 then k else k + 1
theorem pre_step (x : PreS) (k : Nat) (hk : k < 12) (h3 : k ≠ 3) : x.items.take (adj (k + 1)) = x.items.take (adj k) ++ [(x.list.getD k 0, psz.getD k 0)] ∧ (x.list.getD k 0, psz.getD k 0) ∈ x.items := by
  rcases (by omega : k = 0 ∨ k = 1 ∨ k = 2 ∨ k = 4 ∨ k = 5 ∨ k = 6 ∨ k = 7 ∨ k = 8 ∨ k = 9 ∨ k = 10 ∨ k = 11) with h | h | h | h | h | h | h | h | h | h | h <;> subst h <;> exact ⟨rfl, by simp [PreS.items, PreS.list, psz]⟩
theorem pre_step3 (x : PreS) : x.items.take (adj (3 + 1)) = x.items.take (adj 3) ++ [(2, 1), (sumItem x.sum, 4)] ∧ (sumItem x.sum, 4) ∈ x.items := ⟨rfl, by simp [PreS.items]⟩
theorem pre_cell (x : PreS) (k : Nat) (hk : k < 12) : (#[.int .i64 x.base, .int .i64 x.len, .int .i64 x.leader, .int .i64 x.sum, .int .i64 x.attr, .int .i64 x.last, .int .i64 x.first, .int .i64 x.maxt, .int .i64 x.prod, .int .i64 x.epoch, .int .i64 x.seq, .int .i64 x.count] : Array Value)[k]? = some (.int .i64 (x.list.getD k 0)) ∧ (#[.int .i64 8, .int .i64 4, .int .i64 4, .int .i64 4, .int .i64 2, .int .i64 4, .int .i64 8, .int .i64 8, .int .i64 8, .int .i64 2, .int .i64 4, .int .i64 4] : Array Value)[k]? = some (.int .i64 (psz.getD k 0)) ∧ x.list.getD k 0 ∈ x.list ∧ 1 ≤ psz.getD k 0 ∧ psz.getD k 0 ≤ 8 := by
  rcases (by omega : k = 0 ∨ k = 1 ∨ k = 2 ∨ k = 3 ∨ k = 4 ∨ k = 5 ∨ k = 6 ∨ k = 7 ∨ k = 8 ∨ k = 9 ∨ k = 10 ∨ k = 11) with h | h | h | h | h | h | h | h | h | h | h | h <;> subst h <;> exact ⟨rfl, rfl, by simp [PreS.list], by decide, by decide⟩
theorem encInts_append (a b : List (Int × Nat)) : encInts (a ++ b) = encInts a ++ encInts b := List.flatMap_append
theorem FitsAll.nil : FitsAll [] := fun _ hx => by cases hx
theorem FitsAll.append {a b : List (Int × Nat)} (h : FitsAll a) (k : FitsAll b) : FitsAll (a ++ b) := fun x hx => (List.mem_append.1 hx).elim (h x) (k x)
theorem FitsAll.one {n : Int} {z : Nat} (h : fits n z) : FitsAll [(n, z)] := fun x hx => by simp at hx; subst hx; exact h
theorem enc_take_le (x : PreS) (k : Nat) : (encInts (x.items.take k)).length ≤ 61 := by
  have h1 : (encInts x.items).length = 61 := by rw [encInts_length]; rfl
  have h2 : encInts x.items = encInts (x.items.take k) ++ encInts (x.items.drop k) := by rw [← encInts_append, List.take_append_drop]
  have h3 := congrArg List.length h2
  rw [List.length_append] at h3
  omega
theorem sumItem_fits (n : Int) (h0 : ¬ n < 0) (h1 : ¬ 4294967295 < n) : fits (sumItem n) 4 := by
  have e4 : half 4 = 2147483648 := by decide
  unfold fits sumItem
  rw [if_neg (by omega)]
  refine ⟨by decide, by decide, ?_⟩
  have : (4 : Int).toNat = 4 := rfl
  rw [this, e4]
  split <;> omega
theorem sumItem_bad (n : Int) (h : n < 0 ∨ 4294967295 < n) : ¬ fits (sumItem n) 4 := by
  have e : sumItem n = 4294967296 := if_pos h
  rw [e]
  decide
def preBytes (x : PreS) : Bs × Bool := if FitsAll x.items then (encInts x.items, true) else ([], false)
theorem fit_ret {x : PreS} (hp : FitsAll x.items) : Ending.returned (.tuple #[.string (bb (encInts x.items)), .bool true]) = Ending.returned (.tuple #[.string (bb (preBytes x).1), .bool (preBytes x).2]) := by unfold preBytes; rw [if_pos hp]
theorem nofit_ret {x : PreS} (hp : ¬ FitsAll x.items) : Ending.returned (.tuple #[.string ⟨#[]⟩, .bool false]) = Ending.returned (.tuple #[.string (bb (preBytes x).1), .bool (preBytes x).2]) := by unfold preBytes; rw [if_neg hp]; rfl

set_option maxHeartbeats 1000000 in
set_option maxRecDepth 100000 in
theorem ref10_bytes (bl : Nat) (x : PreS) (hx : x.R) {W0 w : World} {K : Know} {L : List Res} (h : St W0 w K (.raw bl #[.int .i64 x.base, .int .i64 x.len, .int .i64 x.leader, .int .i64 x.sum, .int .i64 x.attr, .int .i64 x.last, .int .i64 x.first, .int .i64 x.maxt, .int .i64 x.prod, .int .i64 x.epoch, .int .i64 x.seq, .int .i64 x.count] 3 :: L)) :
    Calls Try.prog 19 #[.slice (some ⟨bl, 0, none⟩) 12 12] w fun en w' => en = .returned (.tuple #[.string (bb (preBytes x).1), .bool (preBytes x).2]) ∧ St W0 w' K (.raw bl #[.int .i64 x.base, .int .i64 x.len, .int .i64 x.leader, .int .i64 x.sum, .int .i64 x.attr, .int .i64 x.last, .int .i64 x.first, .int .i64 x.maxt, .int .i64 x.prod, .int .i64 x.epoch, .int .i64 x.seq, .int .i64 x.count] 3 :: L) := by
  have H := Lib.hid (h.allocRaw #[.int .i64 8, .int .i64 4, .int .i64 4, .int .i64 4, .int .i64 2, .int .i64 4, .int .i64 8, .int .i64 8, .int .i64 8, .int .i64 2, .int .i64 4, .int .i64 4] 3)
  have HX := Lib.hid hx
  clear h hx
  go_enter Try.func19, Try.ntmps19
  go_wp2
  obtain ⟨bs, hbs⟩ : ∃ b, w.heap.size = b := ⟨_, rfl⟩
  rw [hbs] at H
  try rw [hbs]
  have HBS := Lib.hid hbs
  clear hbs
  go_loopw [5, 6] (fun sv iv wr => ∃ k : Nat, k ≤ 12 ∧ iv = .int .i64 k ∧ sv = .string (bb (encInts (x.items.take (adj k)))) ∧ FitsAll (x.items.take (adj k)) ∧ St W0 wr K (.raw bs #[.int .i64 8, .int .i64 4, .int .i64 4, .int .i64 4, .int .i64 2, .int .i64 4, .int .i64 8, .int .i64 8, .int .i64 8, .int .i64 2, .int .i64 4, .int .i64 4] 3 :: .raw bl #[.int .i64 x.base, .int .i64 x.len, .int .i64 x.leader, .int .i64 x.sum, .int .i64 x.attr, .int .i64 x.last, .int .i64 x.first, .int .i64 x.maxt, .int .i64 x.prod, .int .i64 x.epoch, .int .i64 x.seq, .int .i64 x.count] 3 :: L)) (fun _ iv _ => 12 - (intOf iv).toNat)
  case atStart => exact ⟨0, Nat.zero_le _, rfl, rfl, FitsAll.nil, H.out⟩
  case round =>
    obtain ⟨k, hk, rfl, rfl, hfa, hst⟩ := hrel
    have HFA := Lib.hid hfa
    have H := Lib.hid hst
    clear hfa hst
    have hlen := enc_take_le x (adj k)
    obtain ⟨e0, he0⟩ : ∃ e, encInts (x.items.take (adj k)) = e := ⟨_, rfl⟩
    rw [he0] at hlen
    rw [he0]
    have HE0 := Lib.hid he0
    clear he0
    by_cases hlt : k < 12
    · obtain ⟨p1, p2, p3, p4, p5⟩ := pre_cell x k hlt
      have hnr := HX.out _ p3
      obtain ⟨n, hn⟩ : ∃ n, x.list.getD k 0 = n := ⟨_, rfl⟩
      obtain ⟨z, hz⟩ : ∃ z, psz.getD k 0 = z := ⟨_, rfl⟩
      rw [hn] at p1 hnr
      rw [hz] at p2 p4 p5
      have C1 := Lib.hid p1
      have C2 := Lib.hid p2
      have HN := Lib.hid hnr
      have HZ8 := Lib.hid (show z ≤ 140737488355328 by omega)
      have HNZ := Lib.hid (And.intro hn hz)
      have d1 := H.out.p1.rawCell k
      have d2 := H.out.rawCell k
      rw [C1.out] at d1
      rw [C2.out] at d2
      clear p1 p2 p3 hnr hn hz hk
      by_cases h3 : k = 3
      · subst h3
        have HNX := Lib.hid (show x.sum = n from HNZ.out.1)
        obtain rfl : 4 = z := HNZ.out.2
        have HQ := Lib.hid (pre_step3 x)
        rw [HNX.out] at HQ
        by_cases h0 : n < 0
        · go_wp2
          go_ret2
          exact ⟨nofit_ret (fun h => sumItem_bad n (.inl h0) (h _ HQ.out.2)), H.out.drop⟩
        by_cases h1 : 4294967295 < n
        · go_wp2
          go_ret2
          exact ⟨nofit_ret (fun h => sumItem_bad n (.inr h1) (h _ HQ.out.2)), H.out.drop⟩
        have HF := Lib.hid (sumItem_fits n h0 h1)
        have HSR := Lib.hid (sumItem_range n)
        have HF4 := Lib.hid (decide_eq_true HF.out)
        by_cases h2 : 2147483647 < n
        · have hsi : sumItem n = n - 4294967296 := by unfold sumItem; rw [if_neg (by omega), if_pos h2]
          rw [hsi] at HF4 HF HQ HSR
          have tokA : True := trivial
          have REL := Lib.hid (show ∃ k : Nat, k ≤ 12 ∧ Value.int .i64 (3 + 1) = .int .i64 k ∧ Value.string (bb (e0 ++ (beBytes 2 1 ++ beBytes (n - 4294967296) 4))) = .string (bb (encInts (x.items.take (adj k)))) ∧ FitsAll (x.items.take (adj k)) from
            ⟨4, by decide, rfl, by rw [HQ.out.1, encInts_append, HE0.out]; simp [encInts], by rw [HQ.out.1]; exact HFA.out.append (fun y hy => by simp at hy; rcases hy with rfl | rfl; exact (by decide); exact HF.out)⟩)
          clear hsi
          go_wp2_with (first
            | (go_at_call 32; have _t := tokA; clear _t; refine (sr_bytes 2 1 (by decide) (by decide) H.out).mono ?_; rintro e wn ⟨rfl, h⟩; replace H := Lib.hid h; clear h tokA; have d1 := H.out.p1.rawCell 3; have d2 := H.out.rawCell 3; rw [C1.out] at d1; rw [C2.out] at d2)
            | (go_at_call 32; refine (sr_bytes (n - 4294967296) 4 (by decide) HSR.out H.out).mono ?_; rintro e wn ⟨rfl, h⟩; replace H := Lib.hid h; clear h; have d1 := H.out.p1.rawCell 3; have d2 := H.out.rawCell 3; rw [C1.out] at d1; rw [C2.out] at d2)
            | (go_at_call 40; refine (sr_fits (n - 4294967296) 4 HSR.out H.out).mono ?_; rw [HF4.out]; rintro e wn ⟨rfl, h⟩; replace H := Lib.hid h; clear h; have d1 := H.out.p1.rawCell 3; have d2 := H.out.rawCell 3; rw [C1.out] at d1; rw [C2.out] at d2))
          go_roundw
          case rel =>
            obtain ⟨k', r1, r2, r3, r4⟩ := REL.out
            exact ⟨k', r1, r2, r3, r4, H.out⟩
          case measure => first | (simp [intOf]; done) | (simp [intOf]; omega)
        · have hsi : sumItem n = n := by unfold sumItem; rw [if_neg (by omega), if_neg h2]
          rw [hsi] at HF4 HF HQ HSR
          have tokA : True := trivial
          have REL := Lib.hid (show ∃ k : Nat, k ≤ 12 ∧ Value.int .i64 (3 + 1) = .int .i64 k ∧ Value.string (bb (e0 ++ (beBytes 2 1 ++ beBytes (n) 4))) = .string (bb (encInts (x.items.take (adj k)))) ∧ FitsAll (x.items.take (adj k)) from
            ⟨4, by decide, rfl, by rw [HQ.out.1, encInts_append, HE0.out]; simp [encInts], by rw [HQ.out.1]; exact HFA.out.append (fun y hy => by simp at hy; rcases hy with rfl | rfl; exact (by decide); exact HF.out)⟩)
          clear hsi
          go_wp2_with (first
            | (go_at_call 32; have _t := tokA; clear _t; refine (sr_bytes 2 1 (by decide) (by decide) H.out).mono ?_; rintro e wn ⟨rfl, h⟩; replace H := Lib.hid h; clear h tokA; have d1 := H.out.p1.rawCell 3; have d2 := H.out.rawCell 3; rw [C1.out] at d1; rw [C2.out] at d2)
            | (go_at_call 32; refine (sr_bytes (n) 4 (by decide) HSR.out H.out).mono ?_; rintro e wn ⟨rfl, h⟩; replace H := Lib.hid h; clear h; have d1 := H.out.p1.rawCell 3; have d2 := H.out.rawCell 3; rw [C1.out] at d1; rw [C2.out] at d2)
            | (go_at_call 40; refine (sr_fits (n) 4 HSR.out H.out).mono ?_; rw [HF4.out]; rintro e wn ⟨rfl, h⟩; replace H := Lib.hid h; clear h; have d1 := H.out.p1.rawCell 3; have d2 := H.out.rawCell 3; rw [C1.out] at d1; rw [C2.out] at d2))
          go_roundw
          case rel =>
            obtain ⟨k', r1, r2, r3, r4⟩ := REL.out
            exact ⟨k', r1, r2, r3, r4, H.out⟩
          case measure => first | (simp [intOf]; done) | (simp [intOf]; omega)
      · obtain ⟨q1, q2⟩ := pre_step x k hlt h3
        rw [HNZ.out.1, HNZ.out.2] at q1 q2
        have HQ := Lib.hid (And.intro q1 q2)
        clear q1 q2
        have h3b : ((k : Int) == 3) = false := by rw [beq_eq_false_iff_ne]; omega
        have HK3 := Lib.hid h3
        clear h3
        by_cases hf : fits n z
        all_goals
          have HF := Lib.hid hf
          have hdf : decide (fits n z) = decide (fits n z) := rfl
          conv at hdf => rhs; (first | rw [decide_eq_true HF.out] | rw [decide_eq_false HF.out])
          have HDF := Lib.hid hdf
          clear hf hdf
          go_wp2_with (first
            | (go_at_call 40; (with_reducible refine (sr_fits _ _ HN.out H.out).mono ?_); rw [HDF.out]; rintro e wn ⟨rfl, h⟩; replace H := Lib.hid h; clear h; have d1 := H.out.p1.rawCell k; have d2 := H.out.rawCell k; rw [C1.out] at d1; rw [C2.out] at d2)
            | (go_at_call 32; (with_reducible refine (sr_bytes _ _ HZ8.out HN.out H.out).mono ?_); rintro e wn ⟨rfl, h⟩; replace H := Lib.hid h; clear h; have d1 := H.out.p1.rawCell k; have d2 := H.out.rawCell k; rw [C1.out] at d1; rw [C2.out] at d2))
        · go_roundw
          case rel =>
            refine ⟨k + 1, by omega, by go_num, ?_, ?_, H.out⟩
            · rw [HQ.out.1, encInts_append, HE0.out]; simp [encInts]
            · rw [HQ.out.1]; exact HFA.out.append (FitsAll.one HF.out)
          case measure => first | (simp [intOf]; done) | (simp [intOf]; omega)
        · go_ret2
          exact ⟨nofit_ret (fun h => HF.out (h _ HQ.out.2)), H.out.drop⟩
    · have hk12 : k = 12 := by omega
      subst hk12
      go_wp2
      go_ret2
      have ht : x.items.take (adj 12) = x.items := rfl
      have h1 := HFA.out
      have h2 := HE0.out
      rw [ht] at h1 h2
      subst h2
      exact ⟨fit_ret h1, H.out.drop⟩

end Go.Proofs.Ytngnhdiafbjfkaa
