/- Batches assembled: why not. -/
import Derived.Test.YtcjgdlfcfcabiaaGBatchRows7
import Derived.Test.YtcjgdlfcfcabiaaGBatchRows6
import Derived.Test.YtcjgdlfcfcabiaaGBatchRows5
import Derived.Test.YtcjgdlfcfcabiaaGBatchRows4
import Derived.Test.YtcjgdlfcfcabiaaGBatchRows1
import Derived.Test.YtcjgdlfcfcabiaaS1
/- Contracts of cursitorref10: Bytes. -/
namespace Go.Proofs.Ytcjgdlfcfcabiaa
open Go.RowKit

def psz : List Nat := [8, 4, 4, 4, 2, 4, 8, 8, 8, 2, 4, 4]
def adj (k : Nat) : Nat := if k ≤ 3 then k else k + 1
theorem pre_step (x : PreS) (k : Nat) (hk : k < 12) (h3 : k ≠ 3) : x.items.take (adj (k + 1)) = x.items.take (adj k) ++ [(x.list.getD k 0, psz.getD k 0)] ∧ (x.list.getD k 0, psz.getD k 0) ∈ x.items := by
  rcases (by omega : k = 0 ∨ k = 1 ∨ k = 2 ∨ k = 4 ∨ k = 5 ∨ k = 6 ∨ k = 7 ∨ k = 8 ∨ k = 9 ∨ k = 10 ∨ k = 11) with h | h | h | h | h | h | h | h | h | h | h <;> subst h <;> exact ⟨rfl, by simp [PreS.items, PreS.list, psz]⟩
theorem pre_step3 (x : PreS) : x.items.take (adj (3 + 1)) = x.items.take (adj 3) ++ [(2, 1), (sumItem x.sum, 4)] ∧ (sumItem x.sum, 4) ∈ x.items := ⟨rfl, by simp [PreS.items]⟩
theorem pre_cell (x : PreS) (k : Nat) (hk : k < 12) : (#[.int .i64 x.base, .int .i64 x.len, .int .i64 x.leader, .int .i64 x.sum, .int .i64 x.attr, .int .i64 x.last, .int .i64 x.first, .int .i64 x.maxt, .int .i64 x.prod, .int .i64 x.epoch, .int .i64 x.seq, .int .i64 x.count] : Array Value)[k]? = some (.int .i64 (x.list.getD k 0)) ∧ (#[.int .i64 8, .int .i64 4, .int .i64 4, .int .i64 4, .int .i64 2, .int .i64 4, .int .i64 8, .int .i64 8, .int .i64 8, .int .i64 2, .int .i64 4, .int .i64 4] : Array Value)[k]? = some (.int .i64 (psz.getD k 0)) ∧ x.list.getD k 0 ∈ x.list ∧ 1 ≤ psz.getD k 0 ∧ psz.getD k 0 ≤ 8 := by
  rcases (by omega : k = 0 ∨ k = 1 ∨ k = 2 ∨ k = 3 ∨ k = 4 ∨ k = 5 ∨ k = 6 ∨ k = 7 ∨ k = 8 ∨ k = 9 ∨ k = 10 ∨ k = 11) with h | h | h | h | h | h | h | h | h | h | h | h <;> subst h <;> exact ⟨rfl, rfl, by simp [PreS.list], by decide, by decide⟩
theorem encInts_append (a b : List (Int × Nat)) : encInts (a ++ b) = encInts a ++ encInts b := List.flatMap_append
theorem FitsAll.nil : FitsAll [] := fun _ hx => by cases hx
theorem FitsAll.append {a b : List (Int × Nat)} (h : FitsAll a) (k : FitsAll b) : FitsAll (a ++ b) := fun x hx => (List.mem_append.1 hx).elim (h x) (k x)
theorem FitsAll.one {n : Int} {z : Nat} (h : fits n z) : FitsAll [(n, z)] := fun x hx => by simp at hx; subst hx; exact h
theorem enc_take_le (x : PreS) (k : Nat) : (encInts (x.items.take k)).length ≤ 61 := by
  have h1 : (encInts x.items).length = 61 := by rw [encInts_length]; rfl
  have h2 : encInts x.items = encInts (x.items.take k) ++ encInts (x.items.drop k) := by rw [← encInts_append, List.take_append_drop]
  have h3 := congrArg List.length h2
  rw [List.length_append] at h3
  omega
theorem sumItem_fits (n : Int) (h0 : ¬ n < 0) (h1 : ¬ 4294967295 < n) : fits (sumItem n) 4 := by
  have e4 : half 4 = 2147483648 := by decide
  unfold fits sumItem
  rw [if_neg (by omega)]
  refine ⟨by decide, by decide, ?_⟩
  have : (4 : Int).toNat = 4 := rfl
  rw [this, e4]
  split <;> omega
theorem sumItem_bad (n : Int) (h : n < 0 ∨ 4294967295 < n) : ¬ fits (sumItem n) 4 := by
  have e : sumItem n = 4294967296 := if_pos h
  rw [e]
  decide
def preBytes (x : PreS) : Bs × Bool := if FitsAll x.items then (encInts x.items, true) else ([], false)
theorem fit_ret {x : PreS} (hp : FitsAll x.items) : Ending.returned (.tuple #[.string (bb (encInts x.items)), .bool true]) = Ending.returned (.tuple #[.string (bb (preBytes x).1), .bool (preBytes x).2]) := by unfold preBytes; rw [if_pos hp]
theorem nofit_ret {x : PreS} (hp : ¬ FitsAll x.items) : Ending.returned (.tuple #[.string ⟨#[]⟩, .bool false]) = Ending.returned (.tuple #[.string (bb (preBytes x).1), .bool (preBytes x).2]) := by unfold preBytes; rw [if_neg hp]; rfl

set_option maxHeartbeats 1000000 in
set_option maxRecDepth 100000 in
theorem ref10_bytes (bl : Nat) (x : PreS) (hx : x.R) {W0 w : World} {K : Know} {L : List Res} (h : St W0 w K (.raw bl #[.int .i64 x.base, .int .i64 x.len, .int .i64 x.leader, .int .i64 x.sum, .int .i64 x.attr, .int .i64 x.last, .int .i64 x.first, .int .i64 x.maxt, .int .i64 x.prod, .int .i64 x.epoch, .int .i64 x.seq, .int .i64 x.count] 3 :: L)) :
    Calls Try.prog 20 #[.slice (some ⟨bl, 0, none⟩) 12 12] w fun en w' => en = .returned (.tuple #[.string (bb (preBytes x).1), .bool (preBytes x).2]) ∧ St W0 w' K (.raw bl #[.int .i64 x.base, .int .i64 x.len, .int .i64 x.leader, .int .i64 x.sum, .int .i64 x.attr, .int .i64 x.last, .int .i64 x.first, .int .i64 x.maxt, .int .i64 x.prod, .int .i64 x.epoch, .int .i64 x.seq, .int .i64 x.count] 3 :: L) := by
  have H := Lib.hid (h.allocRaw #[.int .i64 8, .int .i64 4, .int .i64 4, .int .i64 4, .int .i64 2, .int .i64 4, .int .i64 8, .int .i64 8, .int .i64 8, .int .i64 2, .int .i64 4, .int .i64 4] 3)
  have HX := Lib.hid hx
  clear h hx
  go_enter Try.func20, Try.ntmps20
  go_wp2
  obtain ⟨bs, hbs⟩ : ∃ b, w.heap.size = b := ⟨_, rfl⟩
  rw [hbs] at H
  try rw [hbs]
  have HBS := Lib.hid hbs
  clear hbs
  go_loopw [5, 6] (fun sv iv wr => ∃ k : Nat, k ≤ 12 ∧ iv = .int .i64 k ∧ sv = .string (bb (encInts (x.items.take (adj k)))) ∧ FitsAll (x.items.take (adj k)) ∧ St W0 wr K (.raw bs #[.int .i64 8, .int .i64 4, .int .i64 4, .int .i64 4, .int .i64 2, .int .i64 4, .int .i64 8, .int .i64 8, .int .i64 8, .int .i64 2, .int .i64 4, .int .i64 4] 3 :: .raw bl #[.int .i64 x.base, .int .i64 x.len, .int .i64 x.leader, .int .i64 x.sum, .int .i64 x.attr, .int .i64 x.last, .int .i64 x.first, .int .i64 x.maxt, .int .i64 x.prod, .int .i64 x.epoch, .int .i64 x.seq, .int .i64 x.count] 3 :: L)) (fun _ iv _ => 12 - (intOf iv).toNat)
  case atStart => exact ⟨0, Nat.zero_le _, rfl, rfl, FitsAll.nil, H.out⟩
  case round =>
    obtain ⟨k, hk, rfl, rfl, hfa, hst⟩ := hrel
    have HFA := Lib.hid hfa
    have H := Lib.hid hst
    clear hfa hst
    have hlen := enc_take_le x (adj k)
    obtain ⟨e0, he0⟩ : ∃ e, encInts (x.items.take (adj k)) = e := ⟨_, rfl⟩
    rw [he0] at hlen
    rw [he0]
    have HE0 := Lib.hid he0
    clear he0
    by_cases hlt : k < 12
    · obtain ⟨p1, p2, p3, p4, p5⟩ := pre_cell x k hlt
      have hnr := HX.out _ p3
      obtain ⟨n, hn⟩ : ∃ n, x.list.getD k 0 = n := ⟨_, rfl⟩
      obtain ⟨z, hz⟩ : ∃ z, psz.getD k 0 = z := ⟨_, rfl⟩
      rw [hn] at p1 hnr
      rw [hz] at p2 p4 p5
      have C1 := Lib.hid p1
      have C2 := Lib.hid p2
      have HN := Lib.hid hnr
      have HZ8 := Lib.hid (show z ≤ 140737488355328 by omega)
      have HNZ := Lib.hid (And.intro hn hz)
      have d1 := H.out.p1.rawCell k
      have d2 := H.out.rawCell k
      rw [C1.out] at d1
      rw [C2.out] at d2
      clear p1 p2 p3 hnr hn hz hk
      by_cases h3 : k = 3
      · subst h3
        have HNX := Lib.hid (show x.sum = n from HNZ.out.1)
        obtain rfl : 4 = z := HNZ.out.2
        have HQ := Lib.hid (pre_step3 x)
        rw [HNX.out] at HQ
        by_cases h0 : n < 0
        · go_wp2
          go_ret2
          exact ⟨nofit_ret (fun h => sumItem_bad n (.inl h0) (h _ HQ.out.2)), H.out.drop⟩
        by_cases h1 : 4294967295 < n
        · go_wp2
          go_ret2
          exact ⟨nofit_ret (fun h => sumItem_bad n (.inr h1) (h _ HQ.out.2)), H.out.drop⟩
        have HF := Lib.hid (sumItem_fits n h0 h1)
        have HSR := Lib.hid (sumItem_range n)
        have HF4 := Lib.hid (decide_eq_true HF.out)
        by_cases h2 : 2147483647 < n
        · have hsi : sumItem n = n - 4294967296 := by unfold sumItem; rw [if_neg (by omega), if_pos h2]
          rw [hsi] at HF4 HF HQ HSR
          have tokA : True := trivial
          have REL := Lib.hid (show ∃ k : Nat, k ≤ 12 ∧ Value.int .i64 (3 + 1) = .int .i64 k ∧ Value.string (bb (e0 ++ (beBytes 2 1 ++ beBytes (n - 4294967296) 4))) = .string (bb (encInts (x.items.take (adj k)))) ∧ FitsAll (x.items.take (adj k)) from
            ⟨4, by decide, rfl, by rw [HQ.out.1, encInts_append, HE0.out]; simp [encInts], by rw [HQ.out.1]; exact HFA.out.append (fun y hy => by simp at hy; rcases hy with rfl | rfl; exact (by decide); exact HF.out)⟩)
          clear hsi
          go_wp2_with (first
            | (go_at_call 43; have _t := tokA; clear _t; refine (sr_bytes 2 1 (by decide) (by decide) H.out).mono ?_; rintro e wn ⟨rfl, h⟩; replace H := Lib.hid h; clear h tokA; have d1 := H.out.p1.rawCell 3; have d2 := H.out.rawCell 3; rw [C1.out] at d1; rw [C2.out] at d2)
            | (go_at_call 43; refine (sr_bytes (n - 4294967296) 4 (by decide) HSR.out H.out).mono ?_; rintro e wn ⟨rfl, h⟩; replace H := Lib.hid h; clear h; have d1 := H.out.p1.rawCell 3; have d2 := H.out.rawCell 3; rw [C1.out] at d1; rw [C2.out] at d2)
            | (go_at_call 44; refine (sr_fits (n - 4294967296) 4 HSR.out H.out).mono ?_; rw [HF4.out]; rintro e wn ⟨rfl, h⟩; replace H := Lib.hid h; clear h; have d1 := H.out.p1.rawCell 3; have d2 := H.out.rawCell 3; rw [C1.out] at d1; rw [C2.out] at d2))
          go_roundw
          case rel =>
            obtain ⟨k', r1, r2, r3, r4⟩ := REL.out
            exact ⟨k', r1, r2, r3, r4, H.out⟩
          case measure => first | (simp [intOf]; done) | (simp [intOf]; omega)
        · have hsi : sumItem n = n := by unfold sumItem; rw [if_neg (by omega), if_neg h2]
          rw [hsi] at HF4 HF HQ HSR
          have tokA : True := trivial
          have REL := Lib.hid (show ∃ k : Nat, k ≤ 12 ∧ Value.int .i64 (3 + 1) = .int .i64 k ∧ Value.string (bb (e0 ++ (beBytes 2 1 ++ beBytes (n) 4))) = .string (bb (encInts (x.items.take (adj k)))) ∧ FitsAll (x.items.take (adj k)) from
            ⟨4, by decide, rfl, by rw [HQ.out.1, encInts_append, HE0.out]; simp [encInts], by rw [HQ.out.1]; exact HFA.out.append (fun y hy => by simp at hy; rcases hy with rfl | rfl; exact (by decide); exact HF.out)⟩)
          clear hsi
          go_wp2_with (first
            | (go_at_call 43; have _t := tokA; clear _t; refine (sr_bytes 2 1 (by decide) (by decide) H.out).mono ?_; rintro e wn ⟨rfl, h⟩; replace H := Lib.hid h; clear h tokA; have d1 := H.out.p1.rawCell 3; have d2 := H.out.rawCell 3; rw [C1.out] at d1; rw [C2.out] at d2)
            | (go_at_call 43; refine (sr_bytes (n) 4 (by decide) HSR.out H.out).mono ?_; rintro e wn ⟨rfl, h⟩; replace H := Lib.hid h; clear h; have d1 := H.out.p1.rawCell 3; have d2 := H.out.rawCell 3; rw [C1.out] at d1; rw [C2.out] at d2)
            | (go_at_call 44; refine (sr_fits (n) 4 HSR.out H.out).mono ?_; rw [HF4.out]; rintro e wn ⟨rfl, h⟩; replace H := Lib.hid h; clear h; have d1 := H.out.p1.rawCell 3; have d2 := H.out.rawCell 3; rw [C1.out] at d1; rw [C2.out] at d2))
          go_roundw
          case rel =>
            obtain ⟨k', r1, r2, r3, r4⟩ := REL.out
            exact ⟨k', r1, r2, r3, r4, H.out⟩
          case measure => first | (simp [intOf]; done) | (simp [intOf]; omega)
      · obtain ⟨q1, q2⟩ := pre_step x k hlt h3
        rw [HNZ.out.1, HNZ.out.2] at q1 q2
        have HQ := Lib.hid (And.intro q1 q2)
        clear q1 q2
        have h3b : ((k : Int) == 3) = false := by rw [beq_eq_false_iff_ne]; omega
        have HK3 := Lib.hid h3
        clear h3
        by_cases hf : fits n z
        all_goals
          have HF := Lib.hid hf
          have hdf : decide (fits n z) = decide (fits n z) := rfl
          conv at hdf => rhs; (first | rw [decide_eq_true HF.out] | rw [decide_eq_false HF.out])
          have HDF := Lib.hid hdf
          clear hf hdf
          go_wp2_with (first
            | (go_at_call 44; (with_reducible refine (sr_fits _ _ HN.out H.out).mono ?_); rw [HDF.out]; rintro e wn ⟨rfl, h⟩; replace H := Lib.hid h; clear h; have d1 := H.out.p1.rawCell k; have d2 := H.out.rawCell k; rw [C1.out] at d1; rw [C2.out] at d2)
            | (go_at_call 43; (with_reducible refine (sr_bytes _ _ HZ8.out HN.out H.out).mono ?_); rintro e wn ⟨rfl, h⟩; replace H := Lib.hid h; clear h; have d1 := H.out.p1.rawCell k; have d2 := H.out.rawCell k; rw [C1.out] at d1; rw [C2.out] at d2))
        · go_roundw
          case rel =>
            refine ⟨k + 1, by omega, by go_num, ?_, ?_, H.out⟩
            · rw [HQ.out.1, encInts_append, HE0.out]; simp [encInts]
            · rw [HQ.out.1]; exact HFA.out.append (FitsAll.one HF.out)
          case measure => first | (simp [intOf]; done) | (simp [intOf]; omega)
        · go_ret2
          exact ⟨nofit_ret (fun h => HF.out (h _ HQ.out.2)), H.out.drop⟩
    · have hk12 : k = 12 := by omega
      subst hk12
      go_wp2
      go_ret2
      have ht : x.items.take (adj 12) = x.items := rfl
      have h1 := HFA.out
      have h2 := HE0.out
      rw [ht] at h1 h2
      subst h2
      exact ⟨fit_ret h1, H.out.drop⟩

end Go.Proofs.Ytcjgdlfcfcabiaa

/- Prefixes, read. -/
namespace Go.Proofs.Ytcjgdlfcfcabiaa
open Go.RowKit

def preX (s : Bs) : PreS × Int := preOfL (intsOf preSizes s)
def rePre (s : Bs) : Except Int PreS := if s.length < 61 then .error 1 else if (preX s).2 = 2 then (if (preX s).1.len < 49 then .error 4 else if (preX s).1.count < 0 then .error 10 else .ok (preX s).1) else .error 6
theorem InS.fail_stuck_Pre6 {i : InS} (h : i.err ≠ 0) (e : Int) : i.fail e = i := if_neg h
theorem InS.fail_ok0 (s : Bs) (p : Nat) (e : Int) : (⟨s, p, 0⟩ : InS).fail e = ⟨s, p, e⟩ := rfl
theorem preChk_stuck (x : PreS) (m : Int) {i : InS} (h : i.err ≠ 0) : preChk x m i = i := by
  unfold preChk
  simp only [InS.fail_stuck_Pre6 h, ite_self]
theorem pre_okA (s : Bs) (pos : Nat) (hp : pos + 61 ≤ s.length) : (⟨s, pos, 0⟩ : InS).pre = match rePre (s.drop pos) with | .ok x => (x, ⟨s, pos + 61, 0⟩) | .error e => (PreS.zero, ⟨s, pos + 61, e⟩) := by
  have h1 := ints_ok preSizes s pos (by decide) hp
  have h2 : preSizes.sum = 61 := rfl
  rw [h2] at h1
  unfold InS.pre
  rw [h1]
  unfold rePre preX
  rw [if_neg (by rw [List.length_drop]; omega)]
  obtain ⟨x, m⟩ := preOfL (intsOf preSizes (s.drop pos))
  simp only [preChk]
  by_cases hm : m = 2
  · rw [if_pos hm, if_pos hm]
    by_cases hl : x.len < 49
    · rw [if_pos hl, if_pos hl, InS.fail_ok0, InS.fail_stuck_Pre6 (show (4 : Int) ≠ 0 by decide), ite_self, if_neg (show ¬ (4 : Int) = 0 by decide)]
    · rw [if_neg hl, if_neg hl]
      by_cases hc : x.count < 0
      · rw [if_pos hc, if_pos hc, InS.fail_ok0, if_neg (show ¬ (10 : Int) = 0 by decide)]
      · rw [if_neg hc, if_neg hc, if_pos rfl]
  · have hs : ∀ e : Int, (⟨s, pos + 61, 6⟩ : InS).fail e = ⟨s, pos + 61, 6⟩ := fun e => InS.fail_stuck_Pre6 (show (6 : Int) ≠ 0 by decide) e
    rw [if_neg hm, if_neg hm, InS.fail_ok0]
    simp only [hs, ite_self]
    rw [if_neg (show ¬ (6 : Int) = 0 by decide)]
theorem pre_shortA (s : Bs) (pos : Nat) (hp : pos ≤ s.length) (hs : s.length < pos + 61) : ∃ q, q ≤ s.length ∧ (⟨s, pos, 0⟩ : InS).pre = (PreS.zero, ⟨s, q, 1⟩) := by
  obtain ⟨q, h1, h2⟩ := ints_short preSizes s pos (by decide) hp hs
  refine ⟨q, h1, ?_⟩
  unfold InS.pre
  rw [h2, preChk_stuck _ _ (show (1 : Int) ≠ 0 by decide)]
  simp only
  rw [if_neg (by decide)]
theorem pre_stuckA (i : InS) (h : i.err ≠ 0) : i.pre = (PreS.zero, i) := by
  unfold InS.pre
  rw [ints_stuck preSizes i (by decide) h]
  simp only
  rw [preChk_stuck _ _ h, if_neg h]
theorem rePre_short {s : Bs} (h : s.length < 61) : rePre s = .error 1 := if_pos h
theorem intsOf_take : ∀ (l : List Nat) (s : Bs) (n : Nat), l.sum ≤ n → intsOf l (s.take n) = intsOf l s
  | [], _, _, _ => rfl
  | k :: t, s, n, h => by
    rw [List.sum_cons] at h
    unfold intsOf
    rw [List.take_take, Nat.min_eq_left (by omega), List.drop_take, intsOf_take t (s.drop k) (n - k) (by omega)]
theorem rePre_take (s : Bs) (h : 61 ≤ s.length) : rePre (s.take 61) = rePre s := by
  unfold rePre preX
  rw [intsOf_take preSizes s 61 (by decide), List.length_take, Nat.min_eq_left h, if_neg (show ¬ 61 < 61 by decide), if_neg (show ¬ s.length < 61 by omega)]
theorem sInt_range4 (s : Bs) (h : s.length ≤ 4) : -2147483648 ≤ sInt s ∧ sInt s < 2147483648 := by
  rcases (by omega : s.length = 0 ∨ (1 ≤ s.length ∧ s.length ≤ 4)) with h0 | h0
  · have : s = [] := List.length_eq_zero_iff.1 h0
    subst this
    decide
  · have h1 := (sInt_fits s s.length h0.1 (by omega) rfl).2.2
    rw [Int.toNat_natCast] at h1
    have h2 : half s.length ≤ 2147483648 := by
      rcases (by omega : s.length = 1 ∨ s.length = 2 ∨ s.length = 3 ∨ s.length = 4) with h | h | h | h <;> rw [h] <;> decide
    omega
theorem preX_eq (s : Bs) : preX s = (⟨sInt (s.take 8), sInt ((s.drop 8).take 4), sInt ((s.drop 12).take 4), sInt ((s.drop 17).take 4) % 4294967296, sInt ((s.drop 21).take 2), sInt ((s.drop 23).take 4), sInt ((s.drop 27).take 8), sInt ((s.drop 35).take 8), sInt ((s.drop 43).take 8), sInt ((s.drop 51).take 2), sInt ((s.drop 53).take 4), sInt ((s.drop 57).take 4)⟩, sInt ((s.drop 16).take 1)) := by
  unfold preX preSizes
  simp only [intsOf, List.drop_drop, Nat.reduceAdd]
  rfl
theorem preX_len (s : Bs) : -2147483648 ≤ (preX s).1.len ∧ (preX s).1.len < 2147483648 := by
  rw [preX_eq]
  exact sInt_range4 _ (by rw [List.length_take]; omega)
def peekS (s : Bs) : Int × Int := if s.length < 61 then (0, 0) else match rePre s with | .ok x => (x.len + 12, 0) | .error e => (0, e)
theorem rePre_ok {s : Bs} {x : PreS} (h : rePre s = .ok x) : 61 ≤ s.length ∧ (preX s).1 = x ∧ (preX s).2 = 2 ∧ 49 ≤ x.len ∧ 0 ≤ x.count := by
  unfold rePre at h
  split at h
  · cases h
  split at h
  · split at h
    · cases h
    · split at h
      · cases h
      · cases h
        exact ⟨by omega, rfl, by assumption, by omega, by omega⟩
  · cases h
theorem rePre_err {s : Bs} {e : Int} (h : rePre s = .error e) : e ≠ 0 := by
  unfold rePre at h
  split at h
  · cases h; decide
  split at h
  · split at h
    · cases h; decide
    · split at h
      · cases h; decide
      · cases h
  · cases h; decide

theorem prefix_readQ (p : Nat) (i j : InS) (x : PreS) (hx : i.pre = (x, j)) {W0 w : World} {K : Know} {L : List Res} (h : St W0 w K (.inp p i :: L)) :
    Calls Try.prog 23 #[inPtr p] w fun en w' => en = .returned (.agg #[.int .i64 x.base, .int .i64 x.len, .int .i64 x.leader, .int .i64 x.sum, .int .i64 x.attr, .int .i64 x.last, .int .i64 x.first, .int .i64 x.maxt, .int .i64 x.prod, .int .i64 x.epoch, .int .i64 x.seq, .int .i64 x.count]) ∧ St W0 w' K (.inp p j :: L) := by
  have := prefix_read p i h; rw [hx] at this; exact this

set_option maxHeartbeats 1000000 in
set_option maxRecDepth 100000 in
theorem prefix_peek_short (s : Bs) (hs : s.length < 61) {W0 w : World} {K : Know} {L : List Res} (h : St W0 w K L) :
    Calls Try.prog 27 #[.string (bb s)] w fun en w' => en = .returned (.tuple #[.int .i64 0, .int .i64 0]) ∧ St W0 w' K L := by
  have hd : decide ((s.length : Int) < 61) = true := decide_eq_true (by omega)
  have H := Lib.hid h
  clear h hs
  go_enter Try.func27, Try.ntmps27
  go_wp2
  go_ret2
  exact ⟨rfl, H.out⟩

set_option maxHeartbeats 1000000 in
set_option maxRecDepth 100000 in
theorem prefix_peek_ok (s : Bs) (x : PreS) (j : InS) (h61 : 61 ≤ s.length) (hl : s.length ≤ 140737488355328) (hp : (⟨s.take 61, 0, 0⟩ : InS).pre = (x, j)) (hj : j.err = 0) (hx : -2147483648 ≤ x.len ∧ x.len < 2147483648) {W0 w : World} {K : Know} {L : List Res} (h : St W0 w K L) :
    Calls Try.prog 27 #[.string (bb s)] w fun en w' => en = .returned (.tuple #[.int .i64 (x.len + 12), .int .i64 0]) ∧ St W0 w' K L := by
  have hd : decide ((s.length : Int) < 61) = false := decide_eq_false (by omega)
  have H := Lib.hid h
  have HP := Lib.hid hp
  have HJ := Lib.hid hj
  have HL := Lib.hid (show (s.take 61).length ≤ 140737488355328 by rw [List.length_take]; omega)
  obtain ⟨b1, b2⟩ := hx
  clear h hp hj hl 
  go_enter Try.func27, Try.ntmps27
  go_wp2_with (first
    | (go_at_call 22; refine (s_new _ HL.out H.out).mono ?_; rintro e wn ⟨bi, rfl, h⟩; replace H := Lib.hid h; clear h)
    | (go_at_call 23; (with_reducible refine (prefix_readQ _ _ j x HP.out H.out).mono ?_); rintro e wn ⟨rfl, h⟩; replace H := Lib.hid h; clear h; replace H := Lib.hid (H.out.allocRaw #[.int .i64 x.base, .int .i64 x.len, .int .i64 x.leader, .int .i64 x.sum, .int .i64 x.attr, .int .i64 x.last, .int .i64 x.first, .int .i64 x.maxt, .int .i64 x.prod, .int .i64 x.epoch, .int .i64 x.seq, .int .i64 x.count] 35).p1)
    | (go_at_call 24; (with_reducible refine (s_err _ _ H.out).mono ?_); (repeat first | rw [HJ.out]); rintro e wn ⟨rfl, h⟩; replace H := Lib.hid h; clear h; have y1 := H.out.p1.rawCell 1; simp at y1))
  go_ret2
  exact ⟨rfl, H.out.drop.drop⟩

set_option maxHeartbeats 1000000 in
set_option maxRecDepth 100000 in
theorem prefix_peek_bad (s : Bs) (x : PreS) (j : InS) (h61 : 61 ≤ s.length) (hl : s.length ≤ 140737488355328) (hp : (⟨s.take 61, 0, 0⟩ : InS).pre = (x, j)) (e : Int) (hj : j.err = e) (he : e ≠ 0) {W0 w : World} {K : Know} {L : List Res} (h : St W0 w K L) :
    Calls Try.prog 27 #[.string (bb s)] w fun en w' => en = .returned (.tuple #[.int .i64 0, .int .i64 e]) ∧ St W0 w' K L := by
  have hd : decide ((s.length : Int) < 61) = false := decide_eq_false (by omega)
  have H := Lib.hid h
  have HP := Lib.hid hp
  have HJ := Lib.hid hj
  have HL := Lib.hid (show (s.take 61).length ≤ 140737488355328 by rw [List.length_take]; omega)
  have heb : (e != 0) = true := by rw [bne_iff_ne]; exact he
  clear h hp hj hl he
  go_enter Try.func27, Try.ntmps27
  go_wp2_with (first
    | (go_at_call 22; refine (s_new _ HL.out H.out).mono ?_; rintro e wn ⟨bi, rfl, h⟩; replace H := Lib.hid h; clear h)
    | (go_at_call 23; (with_reducible refine (prefix_readQ _ _ j x HP.out H.out).mono ?_); rintro e wn ⟨rfl, h⟩; replace H := Lib.hid h; clear h; replace H := Lib.hid (H.out.allocRaw #[.int .i64 x.base, .int .i64 x.len, .int .i64 x.leader, .int .i64 x.sum, .int .i64 x.attr, .int .i64 x.last, .int .i64 x.first, .int .i64 x.maxt, .int .i64 x.prod, .int .i64 x.epoch, .int .i64 x.seq, .int .i64 x.count] 35).p1)
    | (go_at_call 24; (with_reducible refine (s_err _ _ H.out).mono ?_); (repeat first | rw [HJ.out]); rintro e wn ⟨rfl, h⟩; replace H := Lib.hid h; clear h; have y1 := H.out.p1.rawCell 1; simp at y1))
  go_ret2
  exact ⟨rfl, H.out.drop.drop⟩

theorem prefix_peek (s : Bs) (n e : Int) (hp : peekS s = (n, e)) (hl : s.length ≤ 140737488355328) {W0 w : World} {K : Know} {L : List Res} (h : St W0 w K L) :
    Calls Try.prog 27 #[.string (bb s)] w fun en w' => en = .returned (.tuple #[.int .i64 n, .int .i64 e]) ∧ St W0 w' K L := by
  unfold peekS at hp
  by_cases h1 : s.length < 61
  · rw [if_pos h1] at hp
    cases hp
    exact prefix_peek_short s h1 h
  · rw [if_neg h1] at hp
    have h61 : (s.take 61).length = 61 := by rw [List.length_take]; omega
    have hp2 := pre_okA (s.take 61) 0 (by omega)
    rw [List.drop_zero, rePre_take s (by omega)] at hp2
    cases hr : rePre s with
    | ok x =>
      rw [hr] at hp hp2
      cases hp
      have hx := preX_len s
      rw [(rePre_ok hr).2.1] at hx
      exact prefix_peek_ok s x _ (by omega) hl hp2 rfl hx h
    | error e' =>
      rw [hr] at hp hp2
      cases hp
      exact prefix_peek_bad s _ _ (by omega) hl hp2 e rfl (rePre_err hr) h

set_option maxHeartbeats 1000000 in
set_option maxRecDepth 100000 in
theorem l10_list (x : PreS) {W0 w : World} {K : Know} {L : List Res} (h : St W0 w K L) :
    Calls Try.prog 21 #[.agg #[.int .i64 x.base, .int .i64 x.len, .int .i64 x.leader, .int .i64 x.sum, .int .i64 x.attr, .int .i64 x.last, .int .i64 x.first, .int .i64 x.maxt, .int .i64 x.prod, .int .i64 x.epoch, .int .i64 x.seq, .int .i64 x.count]] w fun en w' => ∃ bl, en = .returned (.slice (some ⟨bl, 0, none⟩) 12 12) ∧ St W0 w' K (.raw bl #[.int .i64 x.base, .int .i64 x.len, .int .i64 x.leader, .int .i64 x.sum, .int .i64 x.attr, .int .i64 x.last, .int .i64 x.first, .int .i64 x.maxt, .int .i64 x.prod, .int .i64 x.epoch, .int .i64 x.seq, .int .i64 x.count] 3 :: L) := by
  have H := Lib.hid ((h.alloc (.cells #[.int .i64 x.base, .int .i64 x.len, .int .i64 x.leader, .int .i64 x.sum, .int .i64 x.attr, .int .i64 x.last, .int .i64 x.first, .int .i64 x.maxt, .int .i64 x.prod, .int .i64 x.epoch, .int .i64 x.seq, .int .i64 x.count] 35)).allocRaw #[.int .i64 x.base, .int .i64 x.len, .int .i64 x.leader, .int .i64 x.sum, .int .i64 x.attr, .int .i64 x.last, .int .i64 x.first, .int .i64 x.maxt, .int .i64 x.prod, .int .i64 x.epoch, .int .i64 x.seq, .int .i64 x.count] 3)
  clear h
  go_enter Try.func21, Try.ntmps21
  go_wp2
  go_ret
  have h := H.out
  rw [World.size_alloc] at h
  exact ⟨_, rfl, h⟩

end Go.Proofs.Ytcjgdlfcfcabiaa

/- Batches of bytes, as they are (pure). -/
namespace Go.Proofs.Ytcjgdlfcfcabiaa
open Go.RowKit

/-- The batch with which bytes begin, and how many bytes it has; or why there is none. -/
def reBat (s : Bs) : Except Int (BatS × Nat) := match rePre s with
  | .error e => .error e
  | .ok x => if s.length < 61 + (x.len - 49).toNat then .error 1 else match asmB x (s.take 61) ((s.drop 61).take (x.len - 49).toNat) with
    | .error e => .error e
    | .ok b => .ok (b, 61 + (x.len - 49).toNat)
/-- The batch that bytes are. -/
def batD (s : Bs) : Except Int BatS := match reBat s with
  | .error e => .error e
  | .ok y => if y.2 < s.length then .error 2 else .ok y.1
theorem pre_ranges {s : Bs} {x : PreS} (h : rePre s = .ok x) : (-2147483648 ≤ x.len ∧ x.len < 2147483648) ∧ 49 ≤ x.len ∧ R64 x.attr ∧ 0 ≤ x.count ∧ x.count ≤ 2147483647 ∧ x.first ≤ 9223372036854775807 := by
  obtain ⟨h1, h2, _, h3, h4⟩ := rePre_ok h
  have hl := preX_len s
  rw [h2] at hl
  rw [preX_eq] at h2
  have h2 := h2.symm
  subst h2
  simp only at *
  have a := sInt_range ((s.drop 21).take 2) (by rw [List.length_take]; omega)
  have b := sInt_range ((s.drop 27).take 8) (by rw [List.length_take]; omega)
  have c := sInt_range4 ((s.drop 57).take 4) (by rw [List.length_take]; omega)
  exact ⟨hl, h3, a, h4, by omega, by omega⟩
theorem reBat_ne {s : Bs} {e : Int} (h : reBat s = .error e) : e ≠ 0 := by
  unfold reBat at h
  split at h
  · rename_i f hp
    cases h
    exact rePre_err hp
  · split at h
    · cases h; decide
    · split at h
      · rename_i f ha
        cases h
        exact asmB_ne ha
      · cases h
theorem reBat_ok {s : Bs} {b : BatS} {n : Nat} (h : reBat s = .ok (b, n)) : ∃ x, rePre s = .ok x ∧ n = 61 + (x.len - 49).toNat ∧ n ≤ s.length ∧ asmB x (s.take 61) ((s.drop 61).take (x.len - 49).toNat) = .ok b := by
  unfold reBat at h
  split at h
  · cases h
  · rename_i x hp
    split at h
    · cases h
    · split at h
      · cases h
      · rename_i c ha
        cases h
        exact ⟨x, hp, rfl, by omega, ha⟩

end Go.Proofs.Ytcjgdlfcfcabiaa

/- Layer 11, walked: pure. -/
namespace Go.Proofs.Ytcjgdlfcfcabiaa
open Go.RowKit

theorem recs_nilK (K : Know) : K.has (Know.recs (.slice none 0 0) []) := fun _ _ _ => ⟨⟨none, 0, rfl, fun h => absurd h (by decide)⟩, fun x h => by cases h⟩
theorem ctl_bits {d : Bs} (h : (verRd 2 way 12 d).2 = 0) : d = [0, 0, 0, 0] ∨ d = [0, 0, 0, 1] := by
  unfold verRd at h
  by_cases c1 : d.length < 2
  · rw [if_pos c1] at h; cases h
  rw [if_neg c1] at h
  by_cases c2 : sInt (d.take 2) ≠ 0
  · rw [if_pos c2] at h; cases h
  rw [if_neg c2] at h
  by_cases c3 : d.length < 2 + 2
  · rw [if_pos c3] at h; cases h
  rw [if_neg c3] at h
  by_cases c4 : way (sInt ((d.drop 2).take 2)) = false
  · rw [if_pos c4] at h; cases h
  rw [if_neg c4] at h
  by_cases c5 : 2 + 2 < d.length
  · rw [if_pos c5] at h; cases h
  have c2 := Classical.not_not.1 c2
  match d, c1, c2, c3, c4, c5 with
  | [a, b, c, e], _, c2, _, c4, _ =>
    have c2 : sByte a * 256 + b.toNat = 0 := c2
    have c4 : ¬ way (sByte c * 256 + e.toNat) = false := c4
    have hb := b.toNat_lt
    have he := e.toNat_lt
    have ha := a.toNat_lt
    have hc := c.toNat_lt
    have c4 : sByte c * 256 + e.toNat = 0 ∨ sByte c * 256 + e.toNat = 1 := by
      unfold way at c4
      by_cases hh : sByte c * 256 + e.toNat = 0
      · exact .inl hh
      · exact .inr (by simpa [hh] using c4)
    unfold sByte at c2 c4
    have a0 : a.toNat = 0 := by split at c2 <;> omega
    have b0 : b.toNat = 0 := by split at c2 <;> omega
    have cc : c.toNat = 0 := by split at c4 <;> omega
    have ee : e.toNat = 0 ∨ e.toNat = 1 := by split at c4 <;> omega
    have u : ∀ (x y : UInt8), x.toNat = y.toNat → x = y := fun x y h => UInt8.toNat_inj.1 h
    have a0 : a = 0 := u _ _ a0
    have b0 : b = 0 := u _ _ b0
    have cc : c = 0 := u _ _ cc
    subst a0 b0 cc
    rcases ee with ee | ee
    · exact .inl (by rw [u e 0 ee])
    · exact .inr (by rw [u e 1 ee])
  | [], c1, _, _, _, _ => exact absurd (by decide) c1
  | [_], c1, _, _, _, _ => exact absurd (by simp) c1
  | [_, _], _, _, c3, _, _ => exact absurd (by simp) c3
  | [_, _, _], _, _, c3, _, _ => exact absurd (by simp) c3
  | _ :: _ :: _ :: _ :: _ :: _, _, _, _, _, c5 => exact absurd (by simp) c5
theorem ctlOf_key {x : RecS} (h : (ctlOf x).2.2 = 0) : x.key.null = false ∧ (x.key.data = [0, 0, 0, 0] ∨ x.key.data = [0, 0, 0, 1]) := by
  unfold ctlOf ctlRead at h
  split at h
  · cases h
  rename_i h1
  split at h
  · rename_i h2; exact absurd h h2
  rename_i h2
  refine ⟨?_, ctl_bits (Classical.not_not.1 h2)⟩
  cases hn : x.key.null with
  | false => rfl
  | true => exact absurd (.inl hn) h1
theorem chk_low {n : Int} (h : chk n = 0) : 0 ≤ n ∧ n ≤ 63 ∧ (bitAt n 5 = true → bitAt n 4 = true) := by
  unfold chk at h
  split at h
  · cases h
  split at h
  · cases h
  rename_i h2
  simp only [Bool.or_eq_true, decide_eq_true_eq, Bool.and_eq_true, Bool.not_eq_true'] at h2
  refine ⟨by omega, by omega, fun hb => ?_⟩
  cases hh : bitAt n 4 with
  | true => rfl
  | false => exact absurd (.inr ⟨hb, hh⟩) h2
/-- What a batch of bytes tells of the byte that has its bits. -/
theorem batD_bits {s : Bs} {b : BatS} (h : batD s = .ok b) : ∃ c, s[22]? = some c ∧ c.toNat ≤ 63 ∧ b.ctl = decide (c.toNat / 32 % 2 = 1) ∧ batErr b = 0 ∧ (b.ctl = true → b.txn = true) ∧ b.first ≤ 9223372036854775807 := by
  unfold batD at h
  split at h
  · cases h
  rename_i y hr
  obtain ⟨b', n⟩ := y
  split at h
  · cases h
  cases h
  obtain ⟨x, hx, _, _, ha⟩ := reBat_ok hr
  obtain ⟨_, hc, rs, _, hb, rfl⟩ := asmB_ok ha
  obtain ⟨h61, h2, _⟩ := rePre_ok hx
  obtain ⟨_, _, _, _, _, hf⟩ := pre_ranges hx
  rw [preX_eq] at h2
  have hat : x.attr = sInt ((s.drop 21).take 2) := by rw [← h2]
  obtain ⟨l1, l2, l3⟩ := chk_low hc
  have e1 : s.drop 21 = s[21] :: s[22] :: s.drop 23 := by
    rw [List.drop_eq_getElem_cons (by omega), List.drop_eq_getElem_cons (by omega)]
  rw [e1] at hat
  have hat : x.attr = sByte s[21] * 256 + s[22].toNat := hat
  have hb1 := s[22].toNat_lt
  have hb2 := s[21].toNat_lt
  have hs0 : sByte s[21] = 0 := by unfold sByte at hat ⊢; split at hat <;> omega
  rw [hs0] at hat
  refine ⟨s[22], List.getElem?_eq_getElem _, by omega, ?_, hb, l3, hf⟩
  unfold bitAt
  rw [hat]
  simp only [show (2 : Int) ^ 5 = 32 from rfl]
  exact decide_eq_decide.2 (by omega)

end Go.Proofs.Ytcjgdlfcfcabiaa

/- Batches: records, written (pure). -/
namespace Go.Proofs.Ytcjgdlfcfcabiaa
open Go.RowKit

theorem putRec_good (o : Bs) (x : RecS) (h : recOk x = 0) : (⟨o, 0⟩ : OutS).putRec x = ⟨o ++ encR x, 0⟩ := by
  unfold OutS.putRec
  rw [if_pos h]
  rfl
theorem recsC_ok : ∀ (l : List RecS), recsC l = 0 → ∀ x ∈ l, recOk x = 0
  | [], _, _, h => by cases h
  | r :: t, hh, x, hx => by
    have hh : (if recOk r = 0 then recsC t else recOk r) = 0 := hh
    by_cases h1 : recOk r = 0
    · rw [if_pos h1] at hh
      rcases List.mem_cons.1 hx with rfl | hx
      · exact h1
      · exact recsC_ok t hh x hx
    · rw [if_neg h1] at hh; exact absurd hh h1
theorem encAll_small {l : List (RecS × Value)} (h : FitB l) : (encAll l).length ≤ 40000000 * l.length := by
  have : ∀ (l : List (RecS × Value)), (∀ x ∈ l, (encR x.1).length ≤ 40000000) → (encAll l).length ≤ 40000000 * l.length := by
    intro l
    induction l with
    | nil => intro _; simp [encAll]
    | cons x t ih =>
      intro hh
      have h1 := ih (fun y hy => hh y (by simp [hy]))
      have h2 := hh x (by simp)
      have e : encAll (x :: t) = encR x.1 ++ encAll t := rfl
      rw [e, List.length_append, List.length_cons]
      omega
  refine this l fun x hx => ?_
  obtain ⟨a, _, c⟩ := h x hx
  have h1 := recF_le x.1 a c
  unfold encR encV
  rw [List.length_append]
  have h2 : (putU (foldN (BlobS.len ⟨false, recF x.1⟩))).length ≤ 10 := putU_len _ (foldN_lt (by simp [BlobS.len] <;> omega) (by simp [BlobS.len] <;> omega))
  simp only at *
  omega

end Go.Proofs.Ytcjgdlfcfcabiaa

/- Batches: their prefixes, their records, written. -/
namespace Go.Proofs.Ytcjgdlfcfcabiaa
open Go.RowKit

theorem so_textE (p : Nat) (o : OutS) (s : Bs) (e : Int) (hx : o.text = (s, e)) {W0 w : World} {K : Know} {L : List Res} (h : St W0 w K (.out p o :: L)) :
    Calls Try.prog 19 #[outPtr p] w fun en w' => en = .returned (.tuple #[.string (bb s), .int .i64 e]) ∧ St W0 w' K (.out p o :: L) := by
  have := so_text p o h; rw [hx] at this; exact this
theorem prefix_writeE (p : Nat) (o o2 : OutS) (a0 a1 a2 a3 a4 a5 a6 a7 a8 a9 a10 a11 : Int) (hx : PreS.R ⟨a0, a1, a2, a3, a4, a5, a6, a7, a8, a9, a10, a11⟩) (ho : o.ints (PreS.items ⟨a0, a1, a2, a3, a4, a5, a6, a7, a8, a9, a10, a11⟩) = o2) (hr : o.ok 200) {W0 w : World} {K : Know} {L : List Res} (h : St W0 w K (.out p o :: L)) :
    Calls Try.prog 18 #[outPtr p, .agg #[.int .i64 a0, .int .i64 a1, .int .i64 a2, .int .i64 a3, .int .i64 a4, .int .i64 a5, .int .i64 a6, .int .i64 a7, .int .i64 a8, .int .i64 a9, .int .i64 a10, .int .i64 a11]] w fun en w' => en = .returned (.tuple #[]) ∧ St W0 w' K (.out p o2 :: L) := by
  subst ho
  exact prefix_write p o ⟨a0, a1, a2, a3, a4, a5, a6, a7, a8, a9, a10, a11⟩ hx h hr
set_option maxHeartbeats 1000000 in
set_option maxRecDepth 100000 in
theorem bat_written (a0 a1 a2 a3 a4 a5 a6 a7 a8 a9 a10 a11 : Int) (hx : PreS.R ⟨a0, a1, a2, a3, a4, a5, a6, a7, a8, a9, a10, a11⟩) (o2 : OutS) (s : Bs) (e : Int) (ho : (⟨[], 0⟩ : OutS).ints (PreS.items ⟨a0, a1, a2, a3, a4, a5, a6, a7, a8, a9, a10, a11⟩) = o2) (ht : o2.text = (s, e)) {W0 w : World} {K : Know} {L : List Res} (h : St W0 w K L) :
    Calls Try.prog 56 #[.agg #[.int .i64 a0, .int .i64 a1, .int .i64 a2, .int .i64 a3, .int .i64 a4, .int .i64 a5, .int .i64 a6, .int .i64 a7, .int .i64 a8, .int .i64 a9, .int .i64 a10, .int .i64 a11]] w fun en w' => en = .returned (.tuple #[.string (bb s), .int .i64 e]) ∧ St W0 w' K L := by
  have g1 := h.allocRaw #[.int .i64 a0, .int .i64 a1, .int .i64 a2, .int .i64 a3, .int .i64 a4, .int .i64 a5, .int .i64 a6, .int .i64 a7, .int .i64 a8, .int .i64 a9, .int .i64 a10, .int .i64 a11] 35
  have g2 := g1.allocOut
  obtain ⟨hb, hhb⟩ : ∃ b, w.heap.size = b := ⟨_, rfl⟩
  obtain ⟨po, hpo⟩ : ∃ b, hb + 1 = b := ⟨_, rfl⟩
  simp only [World.size_alloc, hhb, hpo] at g2
  obtain ⟨x0, x1, x2, x3, x4, x5, x6, x7, x8, x9, x10, x11, y0, y1, y2, y3, y4, y5, y6, y7, y8, y9, y10, y11⟩ := raw12 (b := hb) (g2.p1)
  have H := Lib.hid g2
  have HX := Lib.hid hx
  have HO := Lib.hid ho
  have HT := Lib.hid ht
  have HR := Lib.hid (show (⟨[], 0⟩ : OutS).ok 200 by simp [OutS.ok])
  clear g1 g2 h hx ho ht
  go_enter Try.func56, Try.ntmps56
  go_wp2_with (first
    | (go_at_call 18; (with_reducible refine (prefix_writeE po _ _ _ _ _ _ _ _ _ _ _ _ _ _ HX.out HO.out HR.out H.out).mono ?_); rintro e_ wn ⟨rfl, h⟩; replace H := Lib.hid h; clear h)
    | (go_at_call 19; (with_reducible refine (so_textE po _ _ _ HT.out H.out).mono ?_); rintro e_ wn ⟨rfl, h⟩; replace H := Lib.hid h; clear h))
  go_ret2
  exact ⟨rfl, H.out.drop.drop⟩

end Go.Proofs.Ytcjgdlfcfcabiaa

/- Batches: records, written. -/
namespace Go.Proofs.Ytcjgdlfcfcabiaa
open Go.RowKit

set_option maxHeartbeats 1000000 in
set_option maxRecDepth 100000 in
theorem bat_pack (l : List (RecS × Value)) (q : Option Addr) (cap : Nat) (rows : Bs) (hrows : encAll l = rows) (hc : recsC (l.map (·.1)) = 0) (hfit : FitB l) (hll : l.length ≤ 1000) {W0 w : World} {K : Know} {L : List Res} (hk : K.has (Know.recs (.slice q l.length cap) l)) (h : St W0 w K L) :
    Calls Try.prog 54 #[.slice q l.length cap] w fun en w' => en = .returned (.tuple #[.string (bb rows), .int .i64 0]) ∧ St W0 w' K L := by
  have g1 := h.allocOut
  obtain ⟨po, hpo⟩ : ∃ b, w.heap.size = b := ⟨_, rfl⟩
  rw [hpo] at g1
  have H := Lib.hid g1
  have HK := Lib.hid hk
  have HFT := Lib.hid hfit
  have HC := Lib.hid hc
  have HRW := Lib.hid hrows
  have HLL := Lib.hid hll
  clear h g1 hk hfit hc hrows hll
  go_enter Try.func54, Try.ntmps54
  go_wp2
  go_loopw [6, 9] (fun _ iv wr => ∃ k : Nat, k ≤ l.length ∧ iv = .int .i64 k ∧ St W0 wr K (.out po ⟨encAll (l.take k), 0⟩ :: L)) (fun _ iv _ => l.length - (intOf iv).toNat)
  case atStart => exact ⟨0, Nat.zero_le _, rfl, H.out⟩
  case round =>
    obtain ⟨k, hkl, rfl, hst⟩ := hrel
    clear H
    have H := Lib.hid hst
    clear hst
    by_cases hlt : k < l.length
    · have OK := Lib.hid (show (⟨encAll (l.take k), 0⟩ : OutS).ok 40000000 by
        have h1 := encAll_small (l := l.take k) (fun y hy => HFT.out y (List.mem_of_mem_take hy))
        have h2 := HLL.out
        rw [List.length_take] at h1
        unfold OutS.ok
        simp only
        omega)
      have hok := recsC_ok _ HC.out l[k].1 (List.mem_map.2 ⟨_, List.getElem_mem hlt, rfl⟩)
      have het := encAll_take l k hlt
      have hll2 := HLL.out
      obtain ⟨b, off, hqq⟩ := recs_at HK.out H.out (by omega)
      subst hqq
      obtain ⟨⟨x, vx⟩, hx⟩ : ∃ x, l[k] = x := ⟨_, rfl⟩
      have cc := recs_cell HK.out H.out k hlt (x, vx) hx
      have hmem : (x, vx) ∈ l := hx ▸ List.getElem_mem hlt
      have xf : x.R ∧ HFit x.hdrs ∧ x.sum ≤ 1000000 := HFT.out (x, vx) hmem
      have xk : K.has (Know.flat RHdr vx 3 x.hdrs) := recs_hdrs HK.out hmem
      obtain ⟨qx, capx, hvx⟩ := flat_form xk H.out
      subst hvx
      simp only at cc
      obtain ⟨c0, c1, c2, c3, c4, c5, c6⟩ := cc
      rw [← Nat.add_assoc] at c1 c2 c3 c4 c5 c6
      have hx1 : l[k].1 = x := by rw [hx]
      have XF := Lib.hid xf
      have XK := Lib.hid xk
      have HX := Lib.hid hx1
      clear xf xk hx1 hx hmem
      obtain ⟨wE, hwE⟩ : ∃ b, wr.heap.size = b := ⟨_, rfl⟩
      have hki : (k : Int) < (l.length : Int) := by omega
      have h := H.out.allocRaw #[.int .i64 x.time, .int .i64 x.off, .bool x.key.null, .string (bb x.key.data), .bool x.val.null, .string (bb x.val.data), .slice qx x.hdrs.length capx] 64
      rw [hwE] at h
      clear H
      have H := Lib.hid h
      clear h
      rw [HX.out] at hok het
      have EO := Lib.hid (show (⟨encAll (l.take k), 0⟩ : OutS).putRec x = ⟨encAll (l.take (k + 1)), 0⟩ by rw [putRec_good _ _ hok, het])
      have hll3 : (l.length : Int) ≤ 1000 := by omega
      obtain ⟨ec0, ec1, ec2, ec3, ec4, ec5, ec6, ef0, ef1, ef2, ef3, ef4, ef5, ef6⟩ := raw7 (b := wE) (H.out)
      clear hok het hll2
      go_wp2_with (go_at_call 81; (with_reducible refine (rec_write po _ _ x (.slice qx x.hdrs.length capx) XF.out.1 XF.out.2.2 EO.out OK.out XK.out H.out.p1).mono ?_); rintro e_ wn ⟨rfl, h⟩; replace H := Lib.hid h; clear h)
      go_roundw
      case rel => exact ⟨k + 1, hlt, by go_num, H.out.p1.drop⟩
      case measure => first | (simp [intOf]; done) | (simp [intOf]; omega)
    · obtain rfl : l.length = k := by omega
      have h := H.out
      rw [List.take_length, HRW.out] at h
      clear H
      have H := Lib.hid h
      clear h
      have HT := Lib.hid (show (⟨rows, 0⟩ : OutS).text = (rows, 0) from rfl)
      go_wp2_with (go_at_call 19; (with_reducible refine (so_textE po _ _ _ HT.out H.out).mono ?_); rintro e_ wn ⟨rfl, h⟩; replace H := Lib.hid h; clear h)
      go_ret2
      exact ⟨rfl, H.out.drop⟩

end Go.Proofs.Ytcjgdlfcfcabiaa

/- Batches: encoded. -/
namespace Go.Proofs.Ytcjgdlfcfcabiaa
open Go.RowKit

set_option maxHeartbeats 1000000 in
set_option maxRecDepth 100000 in
theorem bat_encode_bad (base leader : Int) (app txn ctl : Bool) (last first maxt prod epoch sq : Int) (l : List (RecS × Value)) (q : Option Addr) (cap : Nat) (e : Int) (he : batErr ⟨base, leader, app, txn, ctl, last, first, maxt, prod, epoch, sq, l.map (·.1)⟩ = e) (h0 : e ≠ 0) (hmx : first ≤ 9223372036854775807) (hfit : FitB l) (hll : l.length ≤ 1000) {W0 w : World} {K : Know} {L : List Res} (hk : K.has (Know.recs (.slice q l.length cap) l)) (h : St W0 w K L) :
    Calls Try.prog 33 #[.agg #[.int .i64 base, .int .i64 leader, .bool app, .bool txn, .bool ctl, .int .i64 last, .int .i64 first, .int .i64 maxt, .int .i64 prod, .int .i64 epoch, .int .i64 sq, .slice q l.length cap]] w fun en w' => en = .returned (.tuple #[.string ⟨#[]⟩, .int .i64 e]) ∧ St W0 w' K L := by
  have HK := Lib.hid hk
  have HFT := Lib.hid hfit
  have HLL := Lib.hid (show l.length ≤ 1000000 by omega)
  have HMX := Lib.hid hmx
  have HE := Lib.hid he
  have gz : (e == 0) = false := by rw [beq_eq_false_iff_ne]; exact h0
  have h1 := h.allocRaw #[.int .i64 base, .int .i64 leader, .bool app, .bool txn, .bool ctl, .int .i64 last, .int .i64 first, .int .i64 maxt, .int .i64 prod, .int .i64 epoch, .int .i64 sq, .slice q l.length cap] 32
  obtain ⟨hb, hhb⟩ : ∃ b, w.heap.size = b := ⟨_, rfl⟩
  rw [hhb] at h1
  obtain ⟨x0, x1, x2, x3, x4, x5, x6, x7, x8, x9, x10, x11, y0, y1, y2, y3, y4, y5, y6, y7, y8, y9, y10, y11⟩ := raw12 (b := hb) (h1)
  have H := Lib.hid h1
  clear h h1 hk hfit hll hmx he h0
  go_enter Try.func33, Try.ntmps33
  go_wp2_with (go_at_call 53; (with_reducible refine (bat_check _ _ _ _ _ _ _ _ _ _ _ l _ _ e HE.out HMX.out HFT.out HLL.out HK.out H.out).mono ?_); rintro e_ wn ⟨rfl, h⟩; replace H := Lib.hid h; clear h; obtain ⟨x0, x1, x2, x3, x4, x5, x6, x7, x8, x9, x10, x11, y0, y1, y2, y3, y4, y5, y6, y7, y8, y9, y10, y11⟩ := raw12 (b := hb) (H.out))
  go_ret2
  exact ⟨rfl, H.out.drop⟩
set_option maxHeartbeats 2000000 in
set_option maxRecDepth 100000 in
theorem bat_encode_ok (base leader : Int) (app txn ctl : Bool) (last first maxt prod epoch sq : Int) (l : List (RecS × Value)) (q : Option Addr) (cap : Nat) (he : batErr ⟨base, leader, app, txn, ctl, last, first, maxt, prod, epoch, sq, l.map (·.1)⟩ = 0) (hmx : first ≤ 9223372036854775807) (hfit : FitB l) (hll : l.length ≤ 1000) (rows said0 said1 all : Bs) (x : Nat) (at_ : Int) (hrc : recsC (l.map (·.1)) = 0) (hrw : encAll l = rows) (hrl : rows.length ≤ 100000000) (hat : attrN app txn ctl 3 = at_)
    (r0 : PreS.R ⟨base, 49 + rows.length, leader, 0, at_, last, first, maxt, prod, epoch, sq, l.length⟩) (r1 : PreS.R ⟨base, 49 + rows.length, leader, x, at_, last, first, maxt, prod, epoch, sq, l.length⟩) (o0 : (⟨[], 0⟩ : OutS).ints (PreS.items ⟨base, 49 + rows.length, leader, 0, at_, last, first, maxt, prod, epoch, sq, l.length⟩) = ⟨said0, 0⟩) (o1 : (⟨[], 0⟩ : OutS).ints (PreS.items ⟨base, 49 + rows.length, leader, x, at_, last, first, maxt, prod, epoch, sq, l.length⟩) = ⟨said1, 0⟩) (l0 : said0.length = 61) (l1 : said1.length = 61) (hx : (crcMore 0#32 (said0.drop 21 ++ rows)).toNat = x) (hall : said1 ++ rows = all) {W0 w : World} {K : Know} {L : List Res} (hk : K.has (Know.recs (.slice q l.length cap) l)) (h : St W0 w K L) :
    Calls Try.prog 33 #[.agg #[.int .i64 base, .int .i64 leader, .bool app, .bool txn, .bool ctl, .int .i64 last, .int .i64 first, .int .i64 maxt, .int .i64 prod, .int .i64 epoch, .int .i64 sq, .slice q l.length cap]] w fun en w' => en = .returned (.tuple #[.string (bb all), .int .i64 0]) ∧ St W0 w' K L := by
  have HK := Lib.hid hk
  have HFT := Lib.hid hfit
  have HLL := Lib.hid (show l.length ≤ 1000000 by omega)
  have HL1 := Lib.hid hll
  have HMX := Lib.hid hmx
  have HE := Lib.hid he
  have HRW := Lib.hid hrw
  have HRC := Lib.hid hrc
  have AT := Lib.hid hat
  have HSZ := Lib.hid (show rows.length ≤ 140737488355328 by omega)
  have R0 := Lib.hid r0
  have R1 := Lib.hid r1
  have O0 := Lib.hid o0
  have O1 := Lib.hid o1
  have T0 := Lib.hid (show (⟨said0, 0⟩ : OutS).text = (said0, 0) from rfl)
  have T1 := Lib.hid (show (⟨said1, 0⟩ : OutS).text = (said1, 0) from rfl)
  have HX := Lib.hid hx
  have HS21 := Lib.hid (show 21 ≤ said0.length by omega)
  have HS2 := Lib.hid (show said0.length ≤ 140737488355328 by omega)
  have HR2 := Lib.hid (show rows.length ≤ 140737488355328 by omega)
  have HALL := Lib.hid hall
  have hcat : bb said1 ++ bb rows = bb all := by rw [← hall]; exact bb_append _ _
  have hg : ¬ (9223372036854775807 < said1.length + rows.length) := by omega
  have t1 : True := trivial
  have h1 := h.allocRaw #[.int .i64 base, .int .i64 leader, .bool app, .bool txn, .bool ctl, .int .i64 last, .int .i64 first, .int .i64 maxt, .int .i64 prod, .int .i64 epoch, .int .i64 sq, .slice q l.length cap] 32
  obtain ⟨hb, hhb⟩ : ∃ b, w.heap.size = b := ⟨_, rfl⟩
  rw [hhb] at h1
  obtain ⟨x0, x1, x2, x3, x4, x5, x6, x7, x8, x9, x10, x11, y0, y1, y2, y3, y4, y5, y6, y7, y8, y9, y10, y11⟩ := raw12 (b := hb) (h1)
  have H := Lib.hid h1
  clear h h1 hk hfit hll hmx he hrw hrc hat r0 r1 o0 o1 l0 l1 hx hall hrl
  go_enter Try.func33, Try.ntmps33
  go_wp2_with (first
    | (go_at_call 53; (with_reducible refine (bat_check _ _ _ _ _ _ _ _ _ _ _ l _ _ 0 HE.out HMX.out HFT.out HLL.out HK.out H.out).mono ?_); rintro e_ wn ⟨rfl, h⟩; replace H := Lib.hid h; clear h; obtain ⟨x0, x1, x2, x3, x4, x5, x6, x7, x8, x9, x10, x11, y0, y1, y2, y3, y4, y5, y6, y7, y8, y9, y10, y11⟩ := raw12 (b := hb) (H.out))
    | (go_at_call 54; (with_reducible refine (bat_pack l _ _ rows HRW.out HRC.out HFT.out HL1.out HK.out H.out).mono ?_); rintro e_ wn ⟨rfl, h⟩; replace H := Lib.hid h; clear h; obtain ⟨x0, x1, x2, x3, x4, x5, x6, x7, x8, x9, x10, x11, y0, y1, y2, y3, y4, y5, y6, y7, y8, y9, y10, y11⟩ := raw12 (b := hb) (H.out))
    | (go_at_call 55; (with_reducible refine (bat_head _ _ _ _ _ _ _ _ _ _ _ l _ _ rows.length HSZ.out H.out).mono ?_); rw [AT.out]; rintro e_ wn ⟨rfl, h⟩; have h := h.allocRaw #[.int .i64 base, .int .i64 (49 + rows.length), .int .i64 leader, .int .i64 0, .int .i64 at_, .int .i64 last, .int .i64 first, .int .i64 maxt, .int .i64 prod, .int .i64 epoch, .int .i64 sq, .int .i64 l.length] 35; obtain ⟨pb, hpb⟩ : ∃ b, wn.heap.size = b := ⟨_, rfl⟩; rw [hpb] at h; replace H := Lib.hid h; clear h; obtain ⟨p0, p1, p2, p3, p4, p5, p6, p7, p8, p9, p10, p11, u0, u1, u2, u3, u4, u5, u6, u7, u8, u9, u10, u11⟩ := raw12 (b := pb) (H.out))
    | (go_at_call 56; have _t := t1; clear _t; (with_reducible refine (bat_written _ _ _ _ _ _ _ _ _ _ _ _ R0.out _ _ _ O0.out T0.out H.out).mono ?_); rintro e_ wn ⟨rfl, h⟩; replace H := Lib.hid h; clear h; obtain ⟨p0, p1, p2, p3, p4, p5, p6, p7, p8, p9, p10, p11, u0, u1, u2, u3, u4, u5, u6, u7, u8, u9, u10, u11⟩ := raw12 (b := pb) (H.out); have t2 : True := trivial; clear t1)
    | (go_at_call 57; (with_reducible refine (bat_sum said0 rows x HX.out HS21.out HS2.out HR2.out H.out).mono ?_); rintro e_ wn ⟨rfl, h⟩; replace H := Lib.hid h; clear h; obtain ⟨p0, p1, p2, p3, p4, p5, p6, p7, p8, p9, p10, p11, u0, u1, u2, u3, u4, u5, u6, u7, u8, u9, u10, u11⟩ := raw12 (b := pb) (H.out); have h3 : St W0 _ K (.raw pb #[.int .i64 base, .int .i64 (49 + rows.length), .int .i64 leader, .int .i64 x, .int .i64 at_, .int .i64 last, .int .i64 first, .int .i64 maxt, .int .i64 prod, .int .i64 epoch, .int .i64 sq, .int .i64 l.length] 35 :: _) := H.out.rawSet 3 (.int .i64 x); obtain ⟨a0, a1, a2, a3, a4, a5, a6, a7, a8, a9, a10, a11, f0, f1, f2, f3, f4, f5, f6, f7, f8, f9, f10, f11⟩ := raw12 (b := pb) (h3); clear h3)
    | (go_at_call 56; have _t := t2; clear _t; (with_reducible refine (bat_written _ _ _ _ _ _ _ _ _ _ _ _ R1.out _ _ _ O1.out T1.out (H.out.rawSet 3 (.int .i64 x))).mono ?_); rintro e_ wn ⟨rfl, h⟩; replace H := Lib.hid h; clear h; clear t2))
  go_ret2
  exact ⟨rfl, H.out.drop.drop⟩

end Go.Proofs.Ytcjgdlfcfcabiaa

/- Batches assembled: why not. -/
namespace Go.Proofs.Ytcjgdlfcfcabiaa
open Go.RowKit

set_option maxHeartbeats 2000000 in
set_option maxRecDepth 100000 in
theorem asm_sum (said rows : Bs) (base ln leader sm at_ last first maxt prod epoch sq : Int) (cnt : Nat) (x : Nat) (hx : (crcMore 0#32 (said.drop 21 ++ rows)).toNat = x) (hs1 : 21 ≤ said.length) (hs2 : said.length ≤ 140737488355328) (hs3 : rows.length ≤ 140737488355328) (h0 : (x : Int) ≠ sm) {W0 w : World} {K : Know} {L : List Res} (h : St W0 w K L) :
    Calls Try.prog 60 #[.agg #[.int .i64 base, .int .i64 ln, .int .i64 leader, .int .i64 sm, .int .i64 at_, .int .i64 last, .int .i64 first, .int .i64 maxt, .int .i64 prod, .int .i64 epoch, .int .i64 sq, .int .i64 cnt], .string (bb said), .string (bb rows)] w fun en w' => en = .returned (.tuple #[.agg #[.int .i64 0, .int .i64 0, .bool false, .bool false, .bool false, .int .i64 0, .int .i64 0, .int .i64 0, .int .i64 0, .int .i64 0, .int .i64 0, .slice none 0 0], .int .i64 5]) ∧ St W0 w' K L := by
  have gz : ((x : Int) == sm) = false := by rw [beq_eq_false_iff_ne]; exact h0
  have gz2 : ((x : Int) != sm) = true := by simp [bne, gz]
  clear h0
  have g1 := h.allocRaw #[.int .i64 base, .int .i64 ln, .int .i64 leader, .int .i64 sm, .int .i64 at_, .int .i64 last, .int .i64 first, .int .i64 maxt, .int .i64 prod, .int .i64 epoch, .int .i64 sq, .int .i64 cnt] 35
  have g2 := g1.allocRaw #[.int .i64 0, .int .i64 0, .bool false, .bool false, .bool false, .int .i64 0, .int .i64 0, .int .i64 0, .int .i64 0, .int .i64 0, .int .i64 0, .slice none 0 0] 32
  obtain ⟨pb, hpb⟩ : ∃ b, w.heap.size = b := ⟨_, rfl⟩
  obtain ⟨rb, hrb⟩ : ∃ b, pb + 1 = b := ⟨_, rfl⟩
  simp only [World.size_alloc, hpb, hrb] at g2
  have H := Lib.hid g2
  have HX := Lib.hid hx
  have HS1 := Lib.hid hs1
  have HS2 := Lib.hid hs2
  have HS3 := Lib.hid hs3
  clear h g1 g2 hx hs1 hs2 hs3
  go_enter Try.func60, Try.ntmps60
  go_upto_region 1 with (fail)
  have hs := H.out.drew
  refine wp_region_held_drew (S := fun w' => w'.cell? ⟨pb, 0, none⟩ = some (.int .i64 base) ∧ w'.cell? ⟨pb, 1, none⟩ = some (.int .i64 ln) ∧ w'.cell? ⟨pb, 2, none⟩ = some (.int .i64 leader) ∧ w'.cell? ⟨pb, 3, none⟩ = some (.int .i64 sm) ∧ w'.cell? ⟨pb, 4, none⟩ = some (.int .i64 at_) ∧ w'.cell? ⟨pb, 5, none⟩ = some (.int .i64 last) ∧ w'.cell? ⟨pb, 6, none⟩ = some (.int .i64 first) ∧ w'.cell? ⟨pb, 7, none⟩ = some (.int .i64 maxt) ∧ w'.cell? ⟨pb, 8, none⟩ = some (.int .i64 prod) ∧ w'.cell? ⟨pb, 9, none⟩ = some (.int .i64 epoch) ∧ w'.cell? ⟨pb, 10, none⟩ = some (.int .i64 sq) ∧ w'.cell? ⟨pb, 11, none⟩ = some (.int .i64 cnt)) (by kernel_rfl) (let ⟨x0, x1, x2, x3, x4, x5, x6, x7, x8, x9, x10, x11, _⟩ := raw12 (b := pb) (hs.p1); ⟨x0, x1, x2, x3, x4, x5, x6, x7, x8, x9, x10, x11⟩) (fun hHeld => ?_)
  refine wpAnyH_take (i := 0) (oi := { dst := some 12, op := Op.move (Operand.tmp 1), type := 9, pos := "batch.go:88", after := #[], guard := none }) (v := ?_) rfl (by kernel_rfl) (by kernel_rfl) (by kernel_rfl) (fun _ _ _ h => h) (Or.inl ⟨by rfl, ?_⟩) (by assumption) ?_
  rotate_left
  · intro w hSw; (try dsimp only at hSw); go_simp; try with_reducible rfl
  simp only [Act.put, List.setIfInBounds_toArray, List.set_cons_zero, List.set_cons_succ]
  refine wpAnyH_take (i := 1) (oi := { dst := some 13, op := Op.move (Operand.tmp 2), type := 9, pos := "batch.go:88", after := #[], guard := none }) (v := ?_) rfl (by kernel_rfl) (by kernel_rfl) (by kernel_rfl) (fun _ _ _ h => h) (Or.inl ⟨by rfl, ?_⟩) (by assumption) ?_
  rotate_left
  · intro w hSw; (try dsimp only at hSw); go_simp; try with_reducible rfl
  simp only [Act.put, List.setIfInBounds_toArray, List.set_cons_zero, List.set_cons_succ]
  refine wpAnyH_take (i := 3) (oi := { dst := some 15, op := Op.fieldAddr 35 (Operand.tmp 3) 3, type := 0, pos := "batch.go:88", after := #[], guard := none }) (v := ?_) rfl (by kernel_rfl) (by kernel_rfl) (by kernel_rfl) (fun _ _ _ h => h) (Or.inl ⟨by rfl, ?_⟩) (by assumption) ?_
  rotate_left
  · intro w hSw; (try dsimp only at hSw); go_simp; try with_reducible rfl
  simp only [Act.put, List.setIfInBounds_toArray, List.set_cons_zero, List.set_cons_succ]
  refine wpAnyH_take (i := 4) (oi := { dst := some 16, op := Op.load 3 (Operand.tmp 15), type := 3, pos := "batch.go:88", after := #[{ on := 3, ground := Ground.data }], guard := none }) (v := ?_) rfl (by kernel_rfl) (by kernel_rfl) (by kernel_rfl) (fun _ _ _ h => h) (Or.inl ⟨by rfl, ?_⟩) (by assumption) ?_
  rotate_left
  · intro w hSw; (try dsimp only at hSw); go_simp; try with_reducible rfl
  simp only [Act.put, List.setIfInBounds_toArray, List.set_cons_zero, List.set_cons_succ]
  refine wpAnyH_ready (rs := [2]) (by kernel_rfl) (by simp) (AllReadyH.cons (o := { dst := some 14, op := Op.call { callee := Callee.value (Operand.func 57), args := #[Operand.tmp 12, Operand.tmp 13], argTypes := #[9, 9] }, type := 3, pos := "batch.go:88", after := #[{ on := 0, ground := Ground.data }, { on := 1, ground := Ground.data }], guard := none }) rfl (fun KK hK => ?_) AllReadyH.nil)
  · go_simp
    go_at_call 57
    with_reducible refine (bat_sum said rows x HX.out HS1.out HS2.out HS3.out hs).mono ?_
    rintro e wq ⟨rfl, hs⟩
    refine hK.out _ _ (let ⟨x0, x1, x2, x3, x4, x5, x6, x7, x8, x9, x10, x11, _⟩ := raw12 (b := pb) (hs.p1); ⟨x0, x1, x2, x3, x4, x5, x6, x7, x8, x9, x10, x11⟩) (fun hHeld => ?_)
    clear hK KK
    try simp only [Act.put, List.setIfInBounds_toArray, List.set_cons_zero, List.set_cons_succ]
    refine wpAnyH_take (i := 5) (oi := { dst := some 17, op := Op.binOp BinOp.neq 3 (Operand.tmp 14) (Operand.tmp 16) 3, type := 4, pos := "batch.go:88", after := #[{ on := 2, ground := Ground.data }, { on := 4, ground := Ground.data }], guard := none }) (v := ?_) rfl (by kernel_rfl) (by kernel_rfl) (by kernel_rfl) (fun _ _ _ h => h) (Or.inl ⟨by rfl, ?_⟩) (by assumption) ?_
    rotate_left
    · intro w hSw; (try dsimp only at hSw); go_simp; try with_reducible rfl
    simp only [Act.put, List.setIfInBounds_toArray, List.set_cons_zero, List.set_cons_succ]
    refine wpAnyH_done (by kernel_rfl) ?_ _
    clear hHeld
    have H := Lib.hid hs
    clear hs
    obtain ⟨p0, p1, p2, p3, p4, p5, p6, p7, p8, p9, p10, p11, u0, u1, u2, u3, u4, u5, u6, u7, u8, u9, u10, u11⟩ := raw12 (b := rb) (H.out); obtain ⟨x0, x1, x2, x3, x4, x5, x6, x7, x8, x9, x10, x11, y0, y1, y2, y3, y4, y5, y6, y7, y8, y9, y10, y11⟩ := raw12 (b := pb) ((H.out).p1)
    go_wp2_with fail
    have hz : St W0 _ _ (.raw rb #[.int .i64 0, .int .i64 0, .bool false, .bool false, .bool false, .int .i64 0, .int .i64 0, .int .i64 0, .int .i64 0, .int .i64 0, .int .i64 0, .slice none 0 0] 32 :: _) := St.sets12 _ _ _ _ _ _ _ _ _ _ _ _ (H.out)
    refine bodyPost_ret (rc_cell_tmp rfl _ _ rb [.int .i64 0, .int .i64 0, .bool false, .bool false, .bool false, .int .i64 0, .int .i64 0, .int .i64 0, .int .i64 0, .int .i64 0, .int .i64 0, .slice none 0 0] _ rfl (rc_range hz) Try.underlying32 rfl (by kernel_rfl)) rfl ?_
    exact ⟨rfl, hz.drop.drop⟩
set_option maxHeartbeats 2000000 in
set_option maxRecDepth 100000 in
theorem asm_attr (said rows : Bs) (base ln leader sm at_ last first maxt prod epoch sq : Int) (cnt : Nat) (x : Nat) (hx : (crcMore 0#32 (said.drop 21 ++ rows)).toNat = x) (hs1 : 21 ≤ said.length) (hs2 : said.length ≤ 140737488355328) (hs3 : rows.length ≤ 140737488355328) (h0 : (x : Int) = sm) (e : Int) (hat : chk at_ = e) (har : R64 at_) (he : e ≠ 0) {W0 w : World} {K : Know} {L : List Res} (h : St W0 w K L) :
    Calls Try.prog 60 #[.agg #[.int .i64 base, .int .i64 ln, .int .i64 leader, .int .i64 sm, .int .i64 at_, .int .i64 last, .int .i64 first, .int .i64 maxt, .int .i64 prod, .int .i64 epoch, .int .i64 sq, .int .i64 cnt], .string (bb said), .string (bb rows)] w fun en w' => en = .returned (.tuple #[.agg #[.int .i64 0, .int .i64 0, .bool false, .bool false, .bool false, .int .i64 0, .int .i64 0, .int .i64 0, .int .i64 0, .int .i64 0, .int .i64 0, .slice none 0 0], .int .i64 e]) ∧ St W0 w' K L := by
  have gs : ((x : Int) == sm) = true := by rw [h0]; exact beq_self_eq_true _
  have gs2 : ((x : Int) != sm) = false := by simp [bne, gs]
  clear h0
  have gz : (e == 0) = false := by rw [beq_eq_false_iff_ne]; exact he
  have HAT := Lib.hid hat
  have HAR := Lib.hid har
  clear he hat har
  have g1 := h.allocRaw #[.int .i64 base, .int .i64 ln, .int .i64 leader, .int .i64 sm, .int .i64 at_, .int .i64 last, .int .i64 first, .int .i64 maxt, .int .i64 prod, .int .i64 epoch, .int .i64 sq, .int .i64 cnt] 35
  have g2 := g1.allocRaw #[.int .i64 0, .int .i64 0, .bool false, .bool false, .bool false, .int .i64 0, .int .i64 0, .int .i64 0, .int .i64 0, .int .i64 0, .int .i64 0, .slice none 0 0] 32
  obtain ⟨pb, hpb⟩ : ∃ b, w.heap.size = b := ⟨_, rfl⟩
  obtain ⟨rb, hrb⟩ : ∃ b, pb + 1 = b := ⟨_, rfl⟩
  simp only [World.size_alloc, hpb, hrb] at g2
  have H := Lib.hid g2
  have HX := Lib.hid hx
  have HS1 := Lib.hid hs1
  have HS2 := Lib.hid hs2
  have HS3 := Lib.hid hs3
  clear h g1 g2 hx hs1 hs2 hs3
  go_enter Try.func60, Try.ntmps60
  go_upto_region 1 with (fail)
  have hs := H.out.drew
  refine wp_region_held_drew (S := fun w' => w'.cell? ⟨pb, 0, none⟩ = some (.int .i64 base) ∧ w'.cell? ⟨pb, 1, none⟩ = some (.int .i64 ln) ∧ w'.cell? ⟨pb, 2, none⟩ = some (.int .i64 leader) ∧ w'.cell? ⟨pb, 3, none⟩ = some (.int .i64 sm) ∧ w'.cell? ⟨pb, 4, none⟩ = some (.int .i64 at_) ∧ w'.cell? ⟨pb, 5, none⟩ = some (.int .i64 last) ∧ w'.cell? ⟨pb, 6, none⟩ = some (.int .i64 first) ∧ w'.cell? ⟨pb, 7, none⟩ = some (.int .i64 maxt) ∧ w'.cell? ⟨pb, 8, none⟩ = some (.int .i64 prod) ∧ w'.cell? ⟨pb, 9, none⟩ = some (.int .i64 epoch) ∧ w'.cell? ⟨pb, 10, none⟩ = some (.int .i64 sq) ∧ w'.cell? ⟨pb, 11, none⟩ = some (.int .i64 cnt)) (by kernel_rfl) (let ⟨x0, x1, x2, x3, x4, x5, x6, x7, x8, x9, x10, x11, _⟩ := raw12 (b := pb) (hs.p1); ⟨x0, x1, x2, x3, x4, x5, x6, x7, x8, x9, x10, x11⟩) (fun hHeld => ?_)
  refine wpAnyH_take (i := 0) (oi := { dst := some 12, op := Op.move (Operand.tmp 1), type := 9, pos := "batch.go:88", after := #[], guard := none }) (v := ?_) rfl (by kernel_rfl) (by kernel_rfl) (by kernel_rfl) (fun _ _ _ h => h) (Or.inl ⟨by rfl, ?_⟩) (by assumption) ?_
  rotate_left
  · intro w hSw; (try dsimp only at hSw); go_simp; try with_reducible rfl
  simp only [Act.put, List.setIfInBounds_toArray, List.set_cons_zero, List.set_cons_succ]
  refine wpAnyH_take (i := 1) (oi := { dst := some 13, op := Op.move (Operand.tmp 2), type := 9, pos := "batch.go:88", after := #[], guard := none }) (v := ?_) rfl (by kernel_rfl) (by kernel_rfl) (by kernel_rfl) (fun _ _ _ h => h) (Or.inl ⟨by rfl, ?_⟩) (by assumption) ?_
  rotate_left
  · intro w hSw; (try dsimp only at hSw); go_simp; try with_reducible rfl
  simp only [Act.put, List.setIfInBounds_toArray, List.set_cons_zero, List.set_cons_succ]
  refine wpAnyH_take (i := 3) (oi := { dst := some 15, op := Op.fieldAddr 35 (Operand.tmp 3) 3, type := 0, pos := "batch.go:88", after := #[], guard := none }) (v := ?_) rfl (by kernel_rfl) (by kernel_rfl) (by kernel_rfl) (fun _ _ _ h => h) (Or.inl ⟨by rfl, ?_⟩) (by assumption) ?_
  rotate_left
  · intro w hSw; (try dsimp only at hSw); go_simp; try with_reducible rfl
  simp only [Act.put, List.setIfInBounds_toArray, List.set_cons_zero, List.set_cons_succ]
  refine wpAnyH_take (i := 4) (oi := { dst := some 16, op := Op.load 3 (Operand.tmp 15), type := 3, pos := "batch.go:88", after := #[{ on := 3, ground := Ground.data }], guard := none }) (v := ?_) rfl (by kernel_rfl) (by kernel_rfl) (by kernel_rfl) (fun _ _ _ h => h) (Or.inl ⟨by rfl, ?_⟩) (by assumption) ?_
  rotate_left
  · intro w hSw; (try dsimp only at hSw); go_simp; try with_reducible rfl
  simp only [Act.put, List.setIfInBounds_toArray, List.set_cons_zero, List.set_cons_succ]
  refine wpAnyH_ready (rs := [2]) (by kernel_rfl) (by simp) (AllReadyH.cons (o := { dst := some 14, op := Op.call { callee := Callee.value (Operand.func 57), args := #[Operand.tmp 12, Operand.tmp 13], argTypes := #[9, 9] }, type := 3, pos := "batch.go:88", after := #[{ on := 0, ground := Ground.data }, { on := 1, ground := Ground.data }], guard := none }) rfl (fun KK hK => ?_) AllReadyH.nil)
  · go_simp
    go_at_call 57
    with_reducible refine (bat_sum said rows x HX.out HS1.out HS2.out HS3.out hs).mono ?_
    rintro e wq ⟨rfl, hs⟩
    refine hK.out _ _ (let ⟨x0, x1, x2, x3, x4, x5, x6, x7, x8, x9, x10, x11, _⟩ := raw12 (b := pb) (hs.p1); ⟨x0, x1, x2, x3, x4, x5, x6, x7, x8, x9, x10, x11⟩) (fun hHeld => ?_)
    clear hK KK
    try simp only [Act.put, List.setIfInBounds_toArray, List.set_cons_zero, List.set_cons_succ]
    refine wpAnyH_take (i := 5) (oi := { dst := some 17, op := Op.binOp BinOp.neq 3 (Operand.tmp 14) (Operand.tmp 16) 3, type := 4, pos := "batch.go:88", after := #[{ on := 2, ground := Ground.data }, { on := 4, ground := Ground.data }], guard := none }) (v := ?_) rfl (by kernel_rfl) (by kernel_rfl) (by kernel_rfl) (fun _ _ _ h => h) (Or.inl ⟨by rfl, ?_⟩) (by assumption) ?_
    rotate_left
    · intro w hSw; (try dsimp only at hSw); go_simp; try with_reducible rfl
    simp only [Act.put, List.setIfInBounds_toArray, List.set_cons_zero, List.set_cons_succ]
    refine wpAnyH_done (by kernel_rfl) ?_ _
    clear hHeld
    have H := Lib.hid hs
    clear hs
    obtain ⟨p0, p1, p2, p3, p4, p5, p6, p7, p8, p9, p10, p11, u0, u1, u2, u3, u4, u5, u6, u7, u8, u9, u10, u11⟩ := raw12 (b := rb) (H.out); obtain ⟨x0, x1, x2, x3, x4, x5, x6, x7, x8, x9, x10, x11, y0, y1, y2, y3, y4, y5, y6, y7, y8, y9, y10, y11⟩ := raw12 (b := pb) ((H.out).p1)
    go_wp2_with (go_at_call 15; (with_reducible refine (attr_checkE at_ e HAT.out HAR.out H.out).mono ?_); rintro e_ wn ⟨rfl, h⟩; replace H := Lib.hid h; clear h; obtain ⟨p0, p1, p2, p3, p4, p5, p6, p7, p8, p9, p10, p11, u0, u1, u2, u3, u4, u5, u6, u7, u8, u9, u10, u11⟩ := raw12 (b := rb) (H.out); obtain ⟨x0, x1, x2, x3, x4, x5, x6, x7, x8, x9, x10, x11, y0, y1, y2, y3, y4, y5, y6, y7, y8, y9, y10, y11⟩ := raw12 (b := pb) ((H.out).p1))
    have hz : St W0 _ _ (.raw rb #[.int .i64 0, .int .i64 0, .bool false, .bool false, .bool false, .int .i64 0, .int .i64 0, .int .i64 0, .int .i64 0, .int .i64 0, .int .i64 0, .slice none 0 0] 32 :: _) := St.sets12 _ _ _ _ _ _ _ _ _ _ _ _ (H.out)
    refine bodyPost_ret (rc_cell_tmp rfl _ _ rb [.int .i64 0, .int .i64 0, .bool false, .bool false, .bool false, .int .i64 0, .int .i64 0, .int .i64 0, .int .i64 0, .int .i64 0, .int .i64 0, .slice none 0 0] _ rfl (rc_range hz) Try.underlying32 rfl (by kernel_rfl)) rfl ?_
    exact ⟨rfl, hz.drop.drop⟩
set_option maxHeartbeats 2000000 in
set_option maxRecDepth 100000 in
theorem asm_rows (said rows : Bs) (base ln leader sm at_ last first maxt prod epoch sq : Int) (cnt : Nat) (x : Nat) (hx : (crcMore 0#32 (said.drop 21 ++ rows)).toNat = x) (hs1 : 21 ≤ said.length) (hs2 : said.length ≤ 140737488355328) (hs3 : rows.length ≤ 140737488355328) (h0 : (x : Int) = sm) (hat : chk at_ = 0) (har : R64 at_) (hcn : cnt ≤ 2147483647) (e : Int) (hu : unp cnt ⟨rows, 0, 0⟩ = .error e) (he : e ≠ 0) {W0 w : World} {K : Know} {L : List Res} (h : St W0 w K L) :
    Calls Try.prog 60 #[.agg #[.int .i64 base, .int .i64 ln, .int .i64 leader, .int .i64 sm, .int .i64 at_, .int .i64 last, .int .i64 first, .int .i64 maxt, .int .i64 prod, .int .i64 epoch, .int .i64 sq, .int .i64 cnt], .string (bb said), .string (bb rows)] w fun en w' => en = .returned (.tuple #[.agg #[.int .i64 0, .int .i64 0, .bool false, .bool false, .bool false, .int .i64 0, .int .i64 0, .int .i64 0, .int .i64 0, .int .i64 0, .int .i64 0, .slice none 0 0], .int .i64 e]) ∧ St W0 w' K L := by
  have gs : ((x : Int) == sm) = true := by rw [h0]; exact beq_self_eq_true _
  have gs2 : ((x : Int) != sm) = false := by simp [bne, gs]
  clear h0
  have gz : (e == 0) = false := by rw [beq_eq_false_iff_ne]; exact he
  have HAT := Lib.hid hat
  have HAR := Lib.hid har
  have HCN := Lib.hid hcn
  have HU := Lib.hid hu
  have HEZ := Lib.hid he
  clear he hat har hcn hu
  have g1 := h.allocRaw #[.int .i64 base, .int .i64 ln, .int .i64 leader, .int .i64 sm, .int .i64 at_, .int .i64 last, .int .i64 first, .int .i64 maxt, .int .i64 prod, .int .i64 epoch, .int .i64 sq, .int .i64 cnt] 35
  have g2 := g1.allocRaw #[.int .i64 0, .int .i64 0, .bool false, .bool false, .bool false, .int .i64 0, .int .i64 0, .int .i64 0, .int .i64 0, .int .i64 0, .int .i64 0, .slice none 0 0] 32
  obtain ⟨pb, hpb⟩ : ∃ b, w.heap.size = b := ⟨_, rfl⟩
  obtain ⟨rb, hrb⟩ : ∃ b, pb + 1 = b := ⟨_, rfl⟩
  simp only [World.size_alloc, hpb, hrb] at g2
  have H := Lib.hid g2
  have HX := Lib.hid hx
  have HS1 := Lib.hid hs1
  have HS2 := Lib.hid hs2
  have HS3 := Lib.hid hs3
  clear h g1 g2 hx hs1 hs2 hs3
  go_enter Try.func60, Try.ntmps60
  go_upto_region 1 with (fail)
  have hs := H.out.drew
  refine wp_region_held_drew (S := fun w' => w'.cell? ⟨pb, 0, none⟩ = some (.int .i64 base) ∧ w'.cell? ⟨pb, 1, none⟩ = some (.int .i64 ln) ∧ w'.cell? ⟨pb, 2, none⟩ = some (.int .i64 leader) ∧ w'.cell? ⟨pb, 3, none⟩ = some (.int .i64 sm) ∧ w'.cell? ⟨pb, 4, none⟩ = some (.int .i64 at_) ∧ w'.cell? ⟨pb, 5, none⟩ = some (.int .i64 last) ∧ w'.cell? ⟨pb, 6, none⟩ = some (.int .i64 first) ∧ w'.cell? ⟨pb, 7, none⟩ = some (.int .i64 maxt) ∧ w'.cell? ⟨pb, 8, none⟩ = some (.int .i64 prod) ∧ w'.cell? ⟨pb, 9, none⟩ = some (.int .i64 epoch) ∧ w'.cell? ⟨pb, 10, none⟩ = some (.int .i64 sq) ∧ w'.cell? ⟨pb, 11, none⟩ = some (.int .i64 cnt)) (by kernel_rfl) (let ⟨x0, x1, x2, x3, x4, x5, x6, x7, x8, x9, x10, x11, _⟩ := raw12 (b := pb) (hs.p1); ⟨x0, x1, x2, x3, x4, x5, x6, x7, x8, x9, x10, x11⟩) (fun hHeld => ?_)
  refine wpAnyH_take (i := 0) (oi := { dst := some 12, op := Op.move (Operand.tmp 1), type := 9, pos := "batch.go:88", after := #[], guard := none }) (v := ?_) rfl (by kernel_rfl) (by kernel_rfl) (by kernel_rfl) (fun _ _ _ h => h) (Or.inl ⟨by rfl, ?_⟩) (by assumption) ?_
  rotate_left
  · intro w hSw; (try dsimp only at hSw); go_simp; try with_reducible rfl
  simp only [Act.put, List.setIfInBounds_toArray, List.set_cons_zero, List.set_cons_succ]
  refine wpAnyH_take (i := 1) (oi := { dst := some 13, op := Op.move (Operand.tmp 2), type := 9, pos := "batch.go:88", after := #[], guard := none }) (v := ?_) rfl (by kernel_rfl) (by kernel_rfl) (by kernel_rfl) (fun _ _ _ h => h) (Or.inl ⟨by rfl, ?_⟩) (by assumption) ?_
  rotate_left
  · intro w hSw; (try dsimp only at hSw); go_simp; try with_reducible rfl
  simp only [Act.put, List.setIfInBounds_toArray, List.set_cons_zero, List.set_cons_succ]
  refine wpAnyH_take (i := 3) (oi := { dst := some 15, op := Op.fieldAddr 35 (Operand.tmp 3) 3, type := 0, pos := "batch.go:88", after := #[], guard := none }) (v := ?_) rfl (by kernel_rfl) (by kernel_rfl) (by kernel_rfl) (fun _ _ _ h => h) (Or.inl ⟨by rfl, ?_⟩) (by assumption) ?_
  rotate_left
  · intro w hSw; (try dsimp only at hSw); go_simp; try with_reducible rfl
  simp only [Act.put, List.setIfInBounds_toArray, List.set_cons_zero, List.set_cons_succ]
  refine wpAnyH_take (i := 4) (oi := { dst := some 16, op := Op.load 3 (Operand.tmp 15), type := 3, pos := "batch.go:88", after := #[{ on := 3, ground := Ground.data }], guard := none }) (v := ?_) rfl (by kernel_rfl) (by kernel_rfl) (by kernel_rfl) (fun _ _ _ h => h) (Or.inl ⟨by rfl, ?_⟩) (by assumption) ?_
  rotate_left
  · intro w hSw; (try dsimp only at hSw); go_simp; try with_reducible rfl
  simp only [Act.put, List.setIfInBounds_toArray, List.set_cons_zero, List.set_cons_succ]
  refine wpAnyH_ready (rs := [2]) (by kernel_rfl) (by simp) (AllReadyH.cons (o := { dst := some 14, op := Op.call { callee := Callee.value (Operand.func 57), args := #[Operand.tmp 12, Operand.tmp 13], argTypes := #[9, 9] }, type := 3, pos := "batch.go:88", after := #[{ on := 0, ground := Ground.data }, { on := 1, ground := Ground.data }], guard := none }) rfl (fun KK hK => ?_) AllReadyH.nil)
  · go_simp
    go_at_call 57
    with_reducible refine (bat_sum said rows x HX.out HS1.out HS2.out HS3.out hs).mono ?_
    rintro e wq ⟨rfl, hs⟩
    refine hK.out _ _ (let ⟨x0, x1, x2, x3, x4, x5, x6, x7, x8, x9, x10, x11, _⟩ := raw12 (b := pb) (hs.p1); ⟨x0, x1, x2, x3, x4, x5, x6, x7, x8, x9, x10, x11⟩) (fun hHeld => ?_)
    clear hK KK
    try simp only [Act.put, List.setIfInBounds_toArray, List.set_cons_zero, List.set_cons_succ]
    refine wpAnyH_take (i := 5) (oi := { dst := some 17, op := Op.binOp BinOp.neq 3 (Operand.tmp 14) (Operand.tmp 16) 3, type := 4, pos := "batch.go:88", after := #[{ on := 2, ground := Ground.data }, { on := 4, ground := Ground.data }], guard := none }) (v := ?_) rfl (by kernel_rfl) (by kernel_rfl) (by kernel_rfl) (fun _ _ _ h => h) (Or.inl ⟨by rfl, ?_⟩) (by assumption) ?_
    rotate_left
    · intro w hSw; (try dsimp only at hSw); go_simp; try with_reducible rfl
    simp only [Act.put, List.setIfInBounds_toArray, List.set_cons_zero, List.set_cons_succ]
    refine wpAnyH_done (by kernel_rfl) ?_ _
    clear hHeld
    have H := Lib.hid hs
    clear hs
    obtain ⟨p0, p1, p2, p3, p4, p5, p6, p7, p8, p9, p10, p11, u0, u1, u2, u3, u4, u5, u6, u7, u8, u9, u10, u11⟩ := raw12 (b := rb) (H.out); obtain ⟨x0, x1, x2, x3, x4, x5, x6, x7, x8, x9, x10, x11, y0, y1, y2, y3, y4, y5, y6, y7, y8, y9, y10, y11⟩ := raw12 (b := pb) ((H.out).p1)
    go_wp2_with (first
    | (go_at_call 15; (with_reducible refine (attr_checkE at_ 0 HAT.out HAR.out H.out).mono ?_); rintro e_ wn ⟨rfl, h⟩; replace H := Lib.hid h; clear h; obtain ⟨p0, p1, p2, p3, p4, p5, p6, p7, p8, p9, p10, p11, u0, u1, u2, u3, u4, u5, u6, u7, u8, u9, u10, u11⟩ := raw12 (b := rb) (H.out); obtain ⟨x0, x1, x2, x3, x4, x5, x6, x7, x8, x9, x10, x11, y0, y1, y2, y3, y4, y5, y6, y7, y8, y9, y10, y11⟩ := raw12 (b := pb) ((H.out).p1))
    | (go_at_call 84; (with_reducible refine (bat_unpack_err rows cnt HCN.out HS3.out e HEZ.out HU.out H.out).mono ?_); rintro e_ wn ⟨rfl, h⟩; replace H := Lib.hid h; clear h; obtain ⟨p0, p1, p2, p3, p4, p5, p6, p7, p8, p9, p10, p11, u0, u1, u2, u3, u4, u5, u6, u7, u8, u9, u10, u11⟩ := raw12 (b := rb) (H.out); obtain ⟨x0, x1, x2, x3, x4, x5, x6, x7, x8, x9, x10, x11, y0, y1, y2, y3, y4, y5, y6, y7, y8, y9, y10, y11⟩ := raw12 (b := pb) ((H.out).p1)))
    have hz : St W0 _ _ (.raw rb #[.int .i64 0, .int .i64 0, .bool false, .bool false, .bool false, .int .i64 0, .int .i64 0, .int .i64 0, .int .i64 0, .int .i64 0, .int .i64 0, .slice none 0 0] 32 :: _) := St.sets12 _ _ _ _ _ _ _ _ _ _ _ _ (H.out)
    refine bodyPost_ret (rc_cell_tmp rfl _ _ rb [.int .i64 0, .int .i64 0, .bool false, .bool false, .bool false, .int .i64 0, .int .i64 0, .int .i64 0, .int .i64 0, .int .i64 0, .int .i64 0, .slice none 0 0] _ rfl (rc_range hz) Try.underlying32 rfl (by kernel_rfl)) rfl ?_
    exact ⟨rfl, hz.drop.drop⟩

end Go.Proofs.Ytcjgdlfcfcabiaa
