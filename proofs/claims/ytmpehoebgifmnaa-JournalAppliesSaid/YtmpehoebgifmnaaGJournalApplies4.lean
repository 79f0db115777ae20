/- A text. -/
import Derived.Shelf.SlIter.Nil
import Derived.Shelf.SortM.Plain
import Derived.Shelf.SortM.SortNone
import Derived.Ground.GgzProg
import Derived.Ground.SlgmProg
import Derived.Sort.KeysCollected
import Derived.Test.YtmpehoebgifmnaaJn1
import Derived.Test.YtmpehoebgifmnaaGJournalApplies2
import Derived.Test.YtmpehoebgifmnaaRef04
import Derived.Test.YtmpehoebgifmnaaS1
import Derived.Test.YtmpehoebgifmnaaVBack
import Derived.Test.YtmpehoebgifmnaaBlobP
import Derived.Deep.RegionHeld3
import Derived.BigQuiet
import Derived.Test.YtmpehoebgifmnaaSep
import Derived.Deep.MidRow
import Derived.Test.YtmpehoebgifmnaaGrow
import Derived.Deep.DeepCutAuto
import Derived.RegionTactic
import Derived.Test.YtmpehoebgifmnaaGJournalApplies3
import Derived.Test.YtmpehoebgifmnaaRef06
import Derived.Sort.Walk0
import Derived.Test.YtmpehoebgifmnaaFld1
import Derived.WalkMore
/- A text. -/
namespace Go.Proofs
open Go.RowKit Go.Maps Go.Sort Go.Shelf

def Try.keys45_ren : Go.Shelf.Ren := ⟨fun | 7 => 45 | 10 => 65 | n => n, fun | 23 => 61 | 26 => 9 | 3 => 9 | 28 => 94 | 0 => 0 | 27 => 93 | 33 => 79 | 4 => 4 | n => n, fun | n => n⟩
theorem Try.keys45 : Go.Proofs.SlLaysZ.n7 Try.prog Try.keys45_ren := {
  mixed := by kernel_rfl
  f7 := ⟨Try.f45.name, by decide, Try.func45.trans (congrArg some (by kernel_rfl))⟩
  f10 := ⟨Try.f65.name, by decide, Try.func65.trans (congrArg some (by kernel_rfl))⟩
  t0 := Try.underlying0
  a0 := Try.isAgg0
  z0 := Try.sizeOf0
  v0 := Try.zeroValue0
  t4 := Try.underlying4
  a4 := Try.isAgg4
  z4 := Try.sizeOf4
  v4 := Try.zeroValue4
  t23 := Try.underlying61
  a23 := Try.isAgg61
  z23 := Try.sizeOf61
  v23 := Try.zeroValue61
  t26 := Try.underlying9
  a26 := Try.isAgg9
  z26 := Try.sizeOf9
  v26 := Try.zeroValue9
  t27 := Try.underlying93
  a27 := Try.isAgg93
  z27 := Try.sizeOf93
  v27 := Try.zeroValue93
  t28 := Try.underlying94
  a28 := Try.isAgg94
  z28 := Try.sizeOf94
  v28 := Try.zeroValue94
  t33 := Try.underlying79
  a33 := Try.isAgg79
  z33 := Try.sizeOf79
  v33 := Try.zeroValue79 }
def Try.sorted44_ren : Go.Shelf.Ren := ⟨fun | 6 => 44 | 8 => 63 | 9 => 64 | 11 => 75 | 13 => 77 | 12 => 76 | 23 => 89 | 24 => 90 | 14 => 80 | 15 => 81 | 16 => 82 | 17 => 83 | 18 => 84 | 19 => 85 | 20 => 86 | 21 => 87 | 22 => 88 | 25 => 91 | 26 => 92 | 27 => 93 | 28 => 94 | 29 => 95 | 30 => 96 | 31 => 97 | n => n, fun | 26 => 9 | 28 => 94 | 24 => 58 | 0 => 0 | 3 => 3 | 37 => 100 | 48 => 134 | 50 => 136 | 4 => 4 | 40 => 127 | 39 => 126 | 45 => 131 | 5 => 5 | 9 => 9 | 51 => 137 | 55 => 141 | 57 => 143 | 58 => 144 | 33 => 79 | n => n, fun | n => n⟩
theorem Try.sorted44 : Go.Proofs.SlLaysZ.n6 Try.prog Try.sorted44_ren := {
  mixed := by kernel_rfl
  f6 := ⟨Try.f44.name, by decide, Try.func44.trans (congrArg some (by kernel_rfl))⟩
  f8 := ⟨Try.f63.name, by decide, Try.func63.trans (congrArg some (by kernel_rfl))⟩
  f11 := ⟨Try.f75.name, by decide, Try.func75.trans (congrArg some (by kernel_rfl))⟩
  t0 := Try.underlying0
  a0 := Try.isAgg0
  z0 := Try.sizeOf0
  v0 := Try.zeroValue0
  t24 := Try.underlying58
  a24 := Try.isAgg58
  z24 := Try.sizeOf58
  v24 := Try.zeroValue58
  t26 := Try.underlying9
  a26 := Try.isAgg9
  z26 := Try.sizeOf9
  v26 := Try.zeroValue9
  t28 := Try.underlying94
  a28 := Try.isAgg94
  z28 := Try.sizeOf94
  v28 := Try.zeroValue94
  i26 := by kernel_rfl }
def Try.sort64_ren : Go.Shelf.Ren := ⟨fun | 6 => 64 | 8 => 77 | 9 => 76 | 19 => 89 | 20 => 90 | 21 => 80 | 22 => 81 | 23 => 82 | 24 => 83 | 25 => 84 | 26 => 85 | 27 => 86 | 28 => 87 | 29 => 88 | 36 => 91 | 31 => 92 | 32 => 93 | 37 => 94 | 38 => 95 | 39 => 96 | 41 => 97 | n => n, fun | 27 => 58 | 29 => 9 | 3 => 3 | 32 => 100 | 26 => 58 | 0 => 0 | 44 => 134 | 46 => 136 | 4 => 4 | 36 => 127 | 35 => 126 | 41 => 131 | 5 => 5 | 9 => 9 | 53 => 137 | 57 => 141 | 63 => 143 | 64 => 144 | n => n, fun | n => n⟩
theorem Try.sort64 : Go.Proofs.SlLaysM.n6 Try.prog Try.sort64_ren := {
  mixed := by kernel_rfl
  f6 := ⟨Try.f64.name, by decide, Try.func64.trans (congrArg some (by kernel_rfl))⟩
  f8 := Try.func77.trans (congrArg some (by kernel_rfl))
  f9 := ⟨Try.f76.name, by decide, Try.func76.trans (congrArg some (by kernel_rfl))⟩
  f19 := Try.func89.trans (congrArg some (by kernel_rfl))
  f20 := Try.func90.trans (congrArg some (by kernel_rfl))
  f21 := ⟨Try.f80.name, by decide, Try.func80.trans (congrArg some (by kernel_rfl))⟩
  f22 := ⟨Try.f81.name, by decide, Try.func81.trans (congrArg some (by kernel_rfl))⟩
  f23 := ⟨Try.f82.name, by decide, Try.func82.trans (congrArg some (by kernel_rfl))⟩
  f24 := ⟨Try.f83.name, by decide, Try.func83.trans (congrArg some (by kernel_rfl))⟩
  f25 := ⟨Try.f84.name, by decide, Try.func84.trans (congrArg some (by kernel_rfl))⟩
  f26 := ⟨Try.f85.name, by decide, Try.func85.trans (congrArg some (by kernel_rfl))⟩
  f27 := ⟨Try.f86.name, by decide, Try.func86.trans (congrArg some (by kernel_rfl))⟩
  f28 := ⟨Try.f87.name, by decide, Try.func87.trans (congrArg some (by kernel_rfl))⟩
  f29 := ⟨Try.f88.name, by decide, Try.func88.trans (congrArg some (by kernel_rfl))⟩
  f31 := Try.func92.trans (congrArg some (by kernel_rfl))
  f32 := Try.func93.trans (congrArg some (by kernel_rfl))
  f36 := ⟨Try.f91.name, by decide, Try.func91.trans (congrArg some (by kernel_rfl))⟩
  f37 := ⟨Try.f94.name, by decide, Try.func94.trans (congrArg some (by kernel_rfl))⟩
  f38 := ⟨Try.f95.name, by decide, Try.func95.trans (congrArg some (by kernel_rfl))⟩
  f39 := ⟨Try.f96.name, by decide, Try.func96.trans (congrArg some (by kernel_rfl))⟩
  f41 := ⟨Try.f97.name, by decide, Try.func97.trans (congrArg some (by kernel_rfl))⟩
  t0 := Try.underlying0
  a0 := Try.isAgg0
  z0 := Try.sizeOf0
  v0 := Try.zeroValue0
  t3 := Try.underlying3
  a3 := Try.isAgg3
  z3 := Try.sizeOf3
  v3 := Try.zeroValue3
  t4 := Try.underlying4
  a4 := Try.isAgg4
  z4 := Try.sizeOf4
  v4 := Try.zeroValue4
  t5 := Try.underlying5
  a5 := Try.isAgg5
  z5 := Try.sizeOf5
  v5 := Try.zeroValue5
  t9 := Try.underlying9
  a9 := Try.isAgg9
  z9 := Try.sizeOf9
  v9 := Try.zeroValue9
  t26 := Try.underlying58
  a26 := Try.isAgg58
  z26 := Try.sizeOf58
  v26 := Try.zeroValue58
  t27 := Try.underlying58
  a27 := Try.isAgg58
  z27 := Try.sizeOf58
  v27 := Try.zeroValue58
  t29 := Try.underlying9
  a29 := Try.isAgg9
  z29 := Try.sizeOf9
  v29 := Try.zeroValue9
  t32 := Try.underlying100
  a32 := Try.isAgg100
  z32 := Try.sizeOf100
  v32 := Try.zeroValue100
  t35 := Try.underlying126
  a35 := Try.isAgg126
  z35 := Try.sizeOf126
  v35 := Try.zeroValue126
  t36 := Try.underlying127
  a36 := Try.isAgg127
  z36 := Try.sizeOf127
  v36 := Try.zeroValue127
  t41 := Try.underlying131
  a41 := Try.isAgg131
  z41 := Try.sizeOf131
  v41 := Try.zeroValue131
  t44 := Try.underlying134
  a44 := Try.isAgg134
  z44 := Try.sizeOf134
  v44 := Try.zeroValue134
  t46 := Try.underlying136
  a46 := Try.isAgg136
  z46 := Try.sizeOf136
  v46 := Try.zeroValue136
  t53 := Try.underlying137
  a53 := Try.isAgg137
  z53 := Try.sizeOf137
  v53 := Try.zeroValue137
  t57 := Try.underlying141
  a57 := Try.isAgg141
  z57 := Try.sizeOf141
  v57 := Try.zeroValue141
  t63 := Try.underlying143
  a63 := Try.isAgg143
  z63 := Try.sizeOf143
  v63 := Try.zeroValue143
  t64 := Try.underlying144
  a64 := Try.isAgg144
  z64 := Try.sizeOf144
  v64 := Try.zeroValue144 }

theorem Try.sorts44 (m : Nat) : AnyZ.SortsIn Try.prog Try.sorted44_ren Fence.wide m :=
 ⟨fun blk off cap ss W hH hblk hsz => callsIn_wide.2 (AnyM.slices_Sort_string Try.sort64 blk off cap ss W hH hblk hsz),
  fun p cap W => callsIn_wide.2 (AnyM.slices_Sort_string_none Try.sort64 p cap W)⟩

theorem Try.maps_Keys_45 (mb : Option Nat) (W : World) : CallsIn Fence.wide 5 Try.prog 45 #[.map mb] W fun e w' => e = .returned (.func (.func 65) #[] #[.pointer (some ⟨W.heap.size, 0, none⟩)]) ∧ w' = W.alloc (.cells #[.map mb] 61) :=
 AnyZ.keys_in Try.keys45 Fence.wide 5 trivial rfl mb W

set_option maxHeartbeats 1000000 in
theorem Try.slices_Sorted_keys_44_45 {H : Type} (b nn : Nat) (D0 : DataW H) (R : Value → Option (DataW H × List MemPlace)) (w : World) (hown : w.ownsMap Try.prog 9 R b nn D0) (hmax : Maps.size D0 ≤ maxLen) (hbytes : Maps.size D0 * 16 ≤ 140737488355328) :
    CallsIn Fence.wide 5 Try.prog 44 #[.func (.func 65) #[] #[.pointer (some ⟨w.heap.size, 0, none⟩)]] (w.alloc (.cells #[.map (some b)] 61)) fun e w' => ∃ (v : Value) (ss : List (List UInt8)), e = .returned v ∧ ss.Perm (strKeys D0) ∧
      w'.ownsRow (w.alloc (.cells #[.map (some b)] 61)).heap.size 9 1 v ss.length ((ss.mergeSort (fun x y => decide (x ≤ y))).map encStr) ∧ (v = .slice none 0 0 ↔ ss = []) ∧ Below (w.alloc (.cells #[.map (some b)] 61)).heap.size (w.alloc (.cells #[.map (some b)] 61)) w' := by
  have hbl := hown.lt
  have hseq : SeqGives Fence.wide 2 Try.prog 65 #[.pointer (some ⟨w.heap.size, 0, none⟩)] encStr (fun ss => ss.Perm (strKeys D0)) (Maps.size D0) (w.alloc (.cells #[.map (some b)] 61)) :=
    AnyZ.keys_gives (ρ := Try.keys45_ren) { Try.keys45 with } Fence.wide _ trivial rfl (by omega) w.heap.size b nn D0 _ (by simp) (by simp) (by
      obtain ⟨es, clock, hb, Ft, hs, hD⟩ := hown
      exact ⟨es, clock, (Below.heap_alloc _ _ b hbl).trans hb, Ft, hs, hD⟩)
  exact AnyZ.sorted_in Try.sorted44 Fence.wide 5 trivial trivial trivial trivial rfl (by omega) (Try.sorts44 _) (enters_of Try.func64 (by kernel_rfl) rfl) 65 #[.pointer (some ⟨w.heap.size, 0, none⟩)] trivial (enters_of Try.func65 (by kernel_rfl) rfl) _ _ hmax hbytes _ hseq


end Go.Proofs
namespace Go.Proofs.Ytmpehoebgifmnaa
open Go.RowKit Go.Shelf

theorem jr_keys (mb : Option Nat) (W : World) : Calls Try.prog 45 #[.map mb] W fun e w' => e = .returned (.func (.func 65) #[] #[.pointer (some ⟨W.heap.size, 0, none⟩)]) ∧ w' = W.alloc (.cells #[.map mb] 61) :=
 callsIn_wide.1 (Try.maps_Keys_45 mb W)
theorem zq3 {p : Prop} (h : p := by rintro ⟨p, hp, hx⟩; obtain ⟨v, hv⟩ := hko p hp; obtain ⟨a, _, ha, _⟩ := Maps.keyOf_str (by kernel_rfl) hv; rw [ha] at hx; exact ⟨p, hp, by rw [ha]; simpa [Lit.sameKey, strOf] using hx⟩) : p := h
theorem mem_strKeys {w : World} {b n : Nat} {D : DataW Unit} (h : World.ownsMap w Try.prog 9 (plainElem (H := Unit) Try.prog 9) b n D) (x : Bs) : x ∈ strKeys D ↔ Maps.has D (.string x) = true := by
 obtain ⟨es, rfl, hko⟩ := h.keysOf; rw [Maps.has_eq, List.any_eq_true]
 show x ∈ es.map (fun p => strOf p.1) ↔ _
 rw [List.mem_map]
 constructor
 · exact zq3
 · exact zq3
theorem nodup_strKeys {w : World} {b n : Nat} {D : DataW Unit} (h : World.ownsMap w Try.prog 9 (plainElem (H := Unit) Try.prog 9) b n D) : (strKeys D).Nodup := by
 obtain ⟨es, he, hp⟩ := h.tidy keyedS; obtain ⟨es', he', hko⟩ := h.keysOf; rw [he] at he'; injection he' with he'; subst he'; subst he; refine List.pairwise_map.2 (hp.imp_of_mem fun {p q} hp' hq' hne e => hne ?_); obtain ⟨v, hv⟩ := hko p hp'; obtain ⟨u, hu⟩ := hko q hq'; obtain ⟨a, _, ha, _⟩ := Maps.keyOf_str (by kernel_rfl) hv; obtain ⟨c, _, hc, _⟩ := Maps.keyOf_str (by kernel_rfl) hu; rw [ha, hc] at e ⊢; exact congrArg _ e
structure IdsOf (f : JF) (ids : List Bs) : Prop where
  mem : ∀ x, x ∈ ids ↔ (f x).isSome = true
  nodup : ids.Nodup
  rise : ids.Pairwise (fun x y => x ≤ y)
theorem idsOf_sorted {w : World} {b n : Nat} {D : DataW Unit} {f : JF} (h : World.ownsMap w Try.prog 9 (plainElem (H := Unit) Try.prog 9) b n D) (hf : ∀ id, look D id = f id) {ss : List Bs} (hp : ss.Perm (strKeys D)) : IdsOf f (ss.mergeSort (fun x y => decide (x ≤ y))) := by
 have tr : ∀ a b c : Bs, decide (a ≤ b) = true → decide (b ≤ c) = true → decide (a ≤ c) = true := fun a b c h1 h2 => by simp only [decide_eq_true_eq] at *; exact List.le_trans h1 h2
 have tot : ∀ a b : Bs, (decide (a ≤ b) || decide (b ≤ a)) = true := fun a b => by simp only [Bool.or_eq_true, decide_eq_true_eq]; exact List.le_total a b
 have hq := List.mergeSort_perm ss (fun x y => decide (x ≤ y)); refine ⟨fun x => ?_, ?_, ?_⟩
 · rw [(hq.trans hp).mem_iff, mem_strKeys h, ← hf]; unfold look
   by_cases hh : Maps.has D (.string x) = true
   · rw [if_pos hh]; simp [hh]
   · rw [if_neg hh]; simp [hh]
 · exact (hq.trans hp).nodup_iff.2 (nodup_strKeys h)
 · exact (List.pairwise_mergeSort tr tot ss).imp fun h => by simpa using h
set_option maxHeartbeats 4000000 in
set_option maxRecDepth 100000 in
theorem jr_ids (jb mb n : Nat) (m : Int) (f : JF) (hn : n ≤ 1000000) {W0 w : World} {K : Know} {L : List Res} (h : St W0 w K (.raw jb #[.map (some mb), .int .i64 m] 63 :: .gen (jmap mb n f) :: L)) :
  Calls Try.prog 23 #[.pointer (some ⟨jb, 0, none⟩)] w fun en w' => ∃ (v : Value) (ids : List Bs), en = .returned v ∧ IdsOf f ids ∧ St W0 w' K (.row v 9 1 ids.length (ids.map encStr) :: .raw jb #[.map (some mb), .int .i64 m] 63 :: .gen (jmap mb n f) :: L) := by
 have c0 := h.rawCell 0; simp at c0; obtain ⟨D, h1, h2⟩ := h.p1.jget; have hsz := h1.size_le; have hc := callsIn_wide.1 (Try.slices_Sorted_keys_44_45 mb n D _ w h1 (by unfold maxLen; omega) (by omega)); have H := Lib.hid h; have HC := Lib.hid hc; have H1 := Lib.hid h1; have H2 := Lib.hid h2; clear h h1 h2 hc; go_enter Try.func23, Try.ntmps23
 go_wp2_with (first
  | (go_at_call 45; (with_reducible refine (jr_keys _ _).mono ?_); rintro e_ wn ⟨rfl, rfl⟩)
  | (go_at_call 44; (with_reducible refine (HC.out).mono ?_); rintro e_ wn ⟨v, ss, rfl, hS, hrow, hnil, hb⟩))
 go_ret; have hk : Keeps (fun _ => False) w _ := ⟨hb.os, hb.tape, hb.output, Nat.le_trans (by simp) hb.size, fun k hk _ => (hb.block k (by simp; omega)).trans (Below.heap_alloc _ _ k hk)⟩; have hid := idsOf_sorted H1.out H2.out hS; have hlen : (ss.mergeSort (fun x y => decide (x ≤ y))).length = ss.length := List.length_mergeSort _; refine ⟨v, _, rfl, hid, ?_⟩; rw [hlen]; refine H.out.new (r := .row v 9 1 ss.length ((ss.mergeSort (fun x y => decide (x ≤ y))).map encStr)) (S1 := fun k => v.ownBlock = some k) hk ⟨ownsRow_base_a hrow (Nat.zero_le _), fun k => Iff.rfl⟩ (fun j hj => ?_); have h9 := hrow.lt j hj; exact ⟨Nat.le_trans (by simp) h9.1, h9.2⟩

end Go.Proofs.Ytmpehoebgifmnaa
namespace Go.Proofs.Ytmpehoebgifmnaa
open Go.RowKit

end Go.Proofs.Ytmpehoebgifmnaa
namespace Go.Proofs.Ytmpehoebgifmnaa
open Go.RowKit

end Go.Proofs.Ytmpehoebgifmnaa
namespace Go.Proofs.Ytmpehoebgifmnaa
open Go.RowKit

theorem sInt_of_take (s : Bs) (k : Nat) (h : k ≤ s.length) : beBytes (sInt (s.take k)) k = s.take k := by
 have h1 := beBytes_sInt (s.take k); rw [List.length_take, Nat.min_eq_left h] at h1; exact h1
theorem getIntN_one {k : Nat} {s : Bs} {n : Int} {m : Nat} (h : getIntN k s = .ok (n, m)) : m = k ∧ k ≤ s.length ∧ s.take k = beBytes n k := by
 unfold getIntN at h
 by_cases h1 : s.length < k
 · rw [if_pos h1] at h; cases h
 · rw [if_neg h1] at h
   cases h
   exact ⟨rfl, by omega, (sInt_of_take s k (by omega)).symm⟩
theorem cntP_one {each : Nat} {s : Bs} {n k : Nat} (he : 0 < each) (h : cntP each s = .ok (n, k)) : k = 4 ∧ 4 + each * n ≤ s.length ∧ s.take 4 = beBytes n 4 := by
 obtain ⟨h1, h2, h3, _⟩ := cntP_ok he h; refine ⟨h1, h2, ?_⟩; rw [h3]; exact (sInt_of_take s 4 (by omega)).symm
theorem intsB_one : ∀ (n : Nat) (s : Bs), 4 * n ≤ s.length → be4s (intsB n s) = s.take (4 * n)
  | 0, s, _ => rfl
  | n + 1, s, h => by
    have ih := intsB_one n (s.drop 4) (by rw [List.length_drop]; omega)
    show be4s (sInt (s.take 4) :: intsB n (s.drop 4)) = _
    have e : be4s (sInt (s.take 4) :: intsB n (s.drop 4)) = beBytes (sInt (s.take 4)) 4 ++ be4s (intsB n (s.drop 4)) := by
      unfold be4s; rw [List.flatMap_cons]
    rw [e, ih, sInt_of_take s 4 (by omega), show 4 * (n + 1) = 4 + 4 * n by omega, List.take_add]
theorem partsP_one {s : Bs} {l : List Int} {k : Nat} (h : partsP s = .ok (l, k)) : k ≤ s.length ∧ s.take k = beBytes l.length 4 ++ be4s l := by
 unfold partsP at h
 cases h1 : cntP 4 s with
 | error e => rw [h1] at h; cases h
 | ok x =>
  rw [h1] at h
  cases h
  obtain ⟨c1, c2, c3⟩ := cntP_one (n := x.1) (k := x.2) (by decide) h1; refine ⟨by omega, ?_⟩; rw [intsB_len, intsB_one x.1 (s.drop 4) (by rw [List.length_drop]; omega), List.take_add, c3]
theorem textP_one {s : Bs} {d : Bs} {k : Nat} (h : textP s = .ok (d, k)) : k ≤ s.length ∧ s.take k = encF 2 ⟨false, d⟩ := by
 unfold textP at h
 cases h1 : refixed 2 s with
 | error e => rw [h1] at h; cases h
 | ok x =>
  rw [h1] at h; simp only at h
  by_cases hn : x.1.null = true
  · rw [if_pos hn] at h; cases h
  · rw [if_neg hn] at h
    cases h
    unfold refixed at h1
    by_cases h2 : s.length < 2
    · rw [if_pos h2] at h1; cases h1
    rw [if_neg h2] at h1; unfold gotS at h1
    by_cases h3 : sInt (s.take 2) = -1
    · rw [if_pos h3] at h1; cases h1; exact absurd rfl hn
    rw [if_neg h3] at h1
    by_cases h4 : sInt (s.take 2) < 0
    · rw [if_pos h4] at h1; cases h1
    rw [if_neg h4] at h1
    by_cases h5 : (s.length : Int) - (2 : Nat) < sInt (s.take 2)
    · rw [if_pos h5] at h1; cases h1
    rw [if_neg h5] at h1
    cases h1
    simp only
    have hl : ((s.drop 2).take (sInt (s.take 2)).toNat).length = (sInt (s.take 2)).toNat := by
     rw [List.length_take, List.length_drop]; omega
    refine ⟨by omega, ?_⟩; unfold encF
    have hL : (⟨false, (s.drop 2).take (sInt (s.take 2)).toNat⟩ : BlobS).len = sInt (s.take 2) := by
     show (((s.drop 2).take (sInt (s.take 2)).toNat).length : Int) = _
     rw [hl]; omega
    rw [hL, sInt_of_take s 2 (by omega), List.take_add]
theorem topP_one {s : Bs} {t : TopS} {k : Nat} (h : topP s = .ok (t, k)) : k ≤ s.length ∧ s.take k = encT t := by
 unfold topP at h
 cases h1 : textP s with
 | error e => rw [h1] at h; cases h
 | ok x =>
  rw [h1] at h; simp only at h
  cases h2 : partsP (s.drop x.2) with
  | error e => rw [h2] at h; cases h
  | ok y =>
   rw [h2] at h
   cases h
   obtain ⟨a1, a2⟩ := textP_one (d := x.1) (k := x.2) h1; obtain ⟨b1, b2⟩ := partsP_one (l := y.1) (k := y.2) h2; rw [List.length_drop] at b1; refine ⟨by omega, ?_⟩; unfold encT; rw [List.take_add, a2, b2]
theorem topN_one : ∀ (n : Nat) (s : Bs) (l : List TopS) (k : Nat), topN n s = .ok (l, k) → l.length = n ∧ k ≤ s.length ∧ s.take k = l.flatMap encT
  | 0, s, l, k, h => by cases h; exact ⟨rfl, Nat.zero_le _, rfl⟩
  | n + 1, s, l, k, h => by
    unfold topN at h
    cases h1 : topP s with
    | error e => rw [h1] at h; cases h
    | ok x =>
      rw [h1] at h; simp only at h
      cases h2 : topN n (s.drop x.2) with
      | error e => rw [h2] at h; cases h
      | ok y =>
        rw [h2] at h
        cases h
        obtain ⟨a1, a2⟩ := topP_one (t := x.1) (k := x.2) h1; obtain ⟨b0, b1, b2⟩ := topN_one n (s.drop x.2) y.1 y.2 h2; rw [List.length_drop] at b1; refine ⟨by rw [List.length_cons, b0], by omega, ?_⟩; rw [List.take_add, a2, b2, List.flatMap_cons]
theorem topsP_one {s : Bs} {l : List TopS} {k : Nat} (h : topsP s = .ok (l, k)) : k ≤ s.length ∧ s.take k = encTs l := by
 unfold topsP at h
 cases h1 : cntP 6 s with
 | error e => rw [h1] at h; cases h
 | ok x =>
  rw [h1] at h; simp only at h
  cases h2 : topN x.1 (s.drop 4) with
  | error e => rw [h2] at h; cases h
  | ok y =>
   rw [h2] at h
   cases h
   obtain ⟨c1, c2, c3⟩ := cntP_one (n := x.1) (k := x.2) (by decide) h1; obtain ⟨b0, b1, b2⟩ := topN_one _ _ y.1 y.2 h2; rw [List.length_drop] at b1; refine ⟨by omega, ?_⟩; unfold encTs; rw [List.take_add, c3, b2, b0]
theorem Rds.inv {α : Type} {f : InS → α × InS} {p : Bs → Except Int (α × Nat)} {d : α} (h : Rds f p d) {i j : InS} {a : α} (hf : f i = (a, j)) (he : j.err = 0) (hp : i.pos ≤ i.s.length) : i.err = 0 ∧ ∃ k, p (i.s.drop i.pos) = .ok (a, k) ∧ j = ⟨i.s, i.pos + k, 0⟩ ∧ i.pos + k ≤ i.s.length := by
 by_cases h0 : i.err = 0
 · refine ⟨h0, ?_⟩; obtain ⟨s, pos, er⟩ := i; simp only at h0 hp ⊢; subst h0
   cases hq : p (s.drop pos) with
   | error e =>
    obtain ⟨e0, q, _, g⟩ := h.err s pos e hp hq; rw [g] at hf
    cases hf
    exact absurd he e0
   | ok x =>
    obtain ⟨g1, g2⟩ := h.ok s pos x.1 x.2 hp hq; rw [g2] at hf
    cases hf
    exact ⟨x.2, rfl, rfl, g1⟩
 · exfalso
   rw [h.stuck i h0] at hf
   cases hf
   exact h0 he
theorem int_inv {i j : InS} {n : Int} (k : Nat) (h1 : 1 ≤ k) (h8 : k ≤ 8) (hf : i.int k = (n, j)) (he : j.err = 0) (hp : i.pos ≤ i.s.length) : i.err = 0 ∧ j = ⟨i.s, i.pos + k, 0⟩ ∧ i.pos + k ≤ i.s.length ∧ i.s.take (i.pos + k) = i.s.take i.pos ++ beBytes n k := by
 obtain ⟨a, m, b, c, d⟩ := (rds_intN k h1 h8).inv hf he hp; obtain ⟨e1, e2, e3⟩ := getIntN_one b; subst e1; exact ⟨a, c, d, by rw [List.take_add, e3]⟩
theorem tops_inv {i j : InS} {l : List TopS} (hf : i.tops = (l, j)) (he : j.err = 0) (hp : i.pos ≤ i.s.length) : i.err = 0 ∧ ∃ k, j = ⟨i.s, i.pos + k, 0⟩ ∧ i.pos + k ≤ i.s.length ∧ i.s.take (i.pos + k) = i.s.take i.pos ++ encTs l := by
 obtain ⟨a, m, b, c, d⟩ := rds_tops.inv hf he hp; exact ⟨a, m, c, d, by rw [List.take_add, (topsP_one b).2]⟩

end Go.Proofs.Ytmpehoebgifmnaa
namespace Go.Proofs.Ytmpehoebgifmnaa
open Go.RowKit

end Go.Proofs.Ytmpehoebgifmnaa
namespace Go.Proofs.Ytmpehoebgifmnaa
open Go.RowKit

end Go.Proofs.Ytmpehoebgifmnaa
namespace Go.Proofs.Ytmpehoebgifmnaa
open Go.RowKit

end Go.Proofs.Ytmpehoebgifmnaa
namespace Go.Proofs.Ytmpehoebgifmnaa
open Go.RowKit

theorem Holds.only {w : World} {r : Res} : ∀ {L : List Res} {S : Nat → Prop}, Holds L w S → r ∈ L → ∃ S', Holds [r] w S' ∧ ∀ k, S' k → S k
  | [], _, _, hm => by cases hm
  | a :: L, S, ⟨S1, S2, h1, h2, h3, h4⟩, hm => by
    cases hm with
    | head => exact ⟨S1, ⟨S1, fun _ => False, h1, fun _ h => h, fun _ _ h => h, fun k => by simp⟩, fun k hk => (h4 k).2 (.inl hk)⟩
    | tail _ hm =>
      obtain ⟨S', g1, g2⟩ := Holds.only h2 hm; exact ⟨S', g1, fun k hk => (h4 k).2 (.inr (g2 k hk))⟩
theorem St.only {W0 w : World} {K : Know} {L : List Res} {r : Res} (h : St W0 w K L) (hm : r ∈ L) : St W0 w K [r] := by
 obtain ⟨a, S, F, b, c, d, e⟩ := h; obtain ⟨S', g1, g2⟩ := b.only hm; exact ⟨a, S', F, g1, fun k hk => c k (g2 k hk), d, fun k hk => ⟨(e k hk).1, fun h => (e k hk).2 (g2 k h)⟩⟩

end Go.Proofs.Ytmpehoebgifmnaa
namespace Go.Proofs.Ytmpehoebgifmnaa
open Go.RowKit

end Go.Proofs.Ytmpehoebgifmnaa
namespace Go.Proofs.Ytmpehoebgifmnaa
open Go.RowKit

end Go.Proofs.Ytmpehoebgifmnaa
namespace Go.Proofs.Ytmpehoebgifmnaa
open Go.RowKit

theorem St.there {W0 w : World} {K : Know} {L : List Res} {b : Nat} {c : Array Value} {T : TypeId} (h : St W0 w K (.raw b c T :: L)) : w.there b 0 c.size := fun j hj => by
  rw [Nat.zero_add]; exact ⟨by rw [h.rawCell j, Array.getElem?_eq_getElem hj]; rfl, h.rawFree j⟩
theorem St.allocEx {W0 w : World} {K : Know} {L : List Res} (h : St W0 w K L) (c : Array Value) (T : TypeId) : ∃ wy b, w.alloc (.cells c T (0, 0)) = wy ∧ w.heap.size = b ∧ St W0 wy K (.raw b c T :: L) := ⟨_, _, rfl, rfl, h.allocRaw c T⟩

end Go.Proofs.Ytmpehoebgifmnaa
namespace Go.Proofs.Ytmpehoebgifmnaa
open Go.RowKit

theorem op_value {P : Program} {o : Oper} {a : Act} {w w' : World} {v : Value} {KK : Act → World → Prop} {Q : Exit → Act → World → Prop} (hr : (execOp a.eval o).run P w = .ok (.value v) w') (h : KK (a.put o.dst v) w') : o.wp P a w KK Q := by
 unfold Oper.wp; rw [hr]; exact h
theorem op_app1 {W0 w : World} {K : Know} {L : List Res} {o : Oper} {a : Act} {KK : Act → World → Prop} {Q : Exit → Act → World → Prop} (sl x : Operand) (t : TypeId)
    (ho : o.op = .call { callee := .builtin .append, args := #[sl, x], argTypes := #[t, t] })
    (e : TypeId) {z : Value} {size bytes : Nat} (ht : Try.prog.underlying t = some (.slice e)) (he : ElemT Try.prog e z size bytes)
    (v : Value) (n : Nat) (xs : List Value) (hs : a.eval sl = v) (bS : Nat) (cs : Array Value) (T : TypeId) (hst : St W0 w K (.raw bS cs T :: .row v e size n xs :: L))
    (hx : a.eval x = .slice (some ⟨bS, 0, none⟩) 1 1) (hl : cs.toList.length = size) (h1 : ∀ u ∈ cs.toList, u.oneCell' = true)
    (h63 : n + 1 ≤ maxLen) (hbytes : (n + 1) * bytes ≤ 140737488355328)
    (h : ∀ v' w', St W0 w' K (.row v' e size (n + 1) (xs ++ cs.toList) :: L) → KK (a.put o.dst v') w') : o.wp Try.prog a w KK Q := by
  have hc := hst.rawCell; have hst2 := hst.p1; obtain ⟨⟨i, g1, g2, g3, g4⟩, g5, g6⟩ := he
  obtain ⟨v', w', hr, h2, h3, h4⟩ := app_val (P := Try.prog) w t o.type e i z size bytes ht g1 g2 g3 g4 g5 g6 v n xs hst2.rowGet ⟨bS, 0, none⟩ 1 1 cs.toList (by omega) (fun j u hj => by
    have ha : (⟨bS, 0, none⟩ : Addr).add j = ⟨bS, j, none⟩ := by unfold Addr.add; split <;> simp_all
    rw [ha, hc j]
    simpa using hj) h1 h63 hbytes
  unfold Oper.wp execOp; simp only [ho, resolve, invoke, builtin, Sem.run_bind, Sem.run_pure, Result.andThen_ok, List.map_toArray, List.map_cons, List.map_nil, hs, hx, hr]; exact h v' w' (hst2.rowGrown h2 h3 h4).p1.drop
end Go.Proofs.Ytmpehoebgifmnaa
namespace Go.Proofs.Ytmpehoebgifmnaa
open Go.RowKit

end Go.Proofs.Ytmpehoebgifmnaa
namespace Go.Proofs.Ytmpehoebgifmnaa
open Go.RowKit

end Go.Proofs.Ytmpehoebgifmnaa
namespace Go.Proofs.Ytmpehoebgifmnaa
open Go.RowKit

end Go.Proofs.Ytmpehoebgifmnaa
namespace Go.Proofs.Ytmpehoebgifmnaa
open Go.RowKit

end Go.Proofs.Ytmpehoebgifmnaa
namespace Go.Proofs.Ytmpehoebgifmnaa
open Go.RowKit

end Go.Proofs.Ytmpehoebgifmnaa
namespace Go.Proofs.Ytmpehoebgifmnaa
open Go.RowKit

end Go.Proofs.Ytmpehoebgifmnaa
namespace Go.Proofs.Ytmpehoebgifmnaa
open Go.RowKit

end Go.Proofs.Ytmpehoebgifmnaa
namespace Go.Proofs.Ytmpehoebgifmnaa
open Go.RowKit

end Go.Proofs.Ytmpehoebgifmnaa
namespace Go.Proofs.Ytmpehoebgifmnaa
open Go.RowKit

theorem Rds.back {α : Type} {f : InS → α × InS} {p : Bs → Except Int (α × Nat)} {d : α} (h : Rds f p d) {i j : InS} {a : α} (hf : f i = (a, j)) (he : j.err = 0) : i.err = 0 := by
 by_cases h0 : i.err = 0
 · exact h0
 · exfalso
   rw [h.stuck i h0] at hf
   cases hf
   exact h0 he
theorem int_invF {i j : InS} {n : Int} (k : Nat) (h1 : 1 ≤ k) (h8 : k ≤ 8) (hf : i.int k = (n, j)) (he : j.err = 0) (hp : i.pos ≤ i.s.length) : fits n k := by
 obtain ⟨a, m, b, c, d⟩ := (rds_intN k h1 h8).inv hf he hp; unfold getIntN at b
 by_cases h2 : (i.s.drop i.pos).length < k
 · rw [if_pos h2] at b; cases b
 · rw [if_neg h2] at b
   cases b
   exact sInt_fits _ k (by omega) (by omega) (by rw [List.length_take]; omega)
theorem close_zero {i : InS} (h : i.close.err = 0) : i.err = 0 ∧ i.left = 0 := by
 unfold InS.close at h
 by_cases h1 : 0 < i.left
 · rw [if_pos h1] at h; unfold InS.fail at h
   by_cases h2 : i.err = 0
   · rw [if_pos h2] at h; cases h
   · rw [if_neg h2] at h; exact absurd h h2
 · rw [if_neg h1] at h; exact ⟨h, by omega⟩
theorem valDec_one {S : Bs} {v : ValS} (h : valDec S = (v, 0)) : v.enc = S ∧ v.err = 0 ∧ v.R := by
 obtain ⟨hE, hV, he⟩ := valDec_ok h (.inr trivial); have ha := decE_zero hE; obtain ⟨j, hj⟩ : ∃ j, decI S = j := ⟨_, rfl⟩; obtain ⟨⟨a, j0⟩, h0⟩ : ∃ r, (⟨S, 0, 0⟩ : InS).int 2 = r := ⟨_, rfl⟩; rw [h0] at ha; have ha : a = 0 := ha; subst ha; have hjj : j = j0 := by rw [← hj]; unfold decI; rw [h0]; rfl
 subst hjj; obtain ⟨⟨p, i1⟩, h1⟩ : ∃ r, j.int 8 = r := ⟨_, rfl⟩; obtain ⟨⟨e, i2⟩, h2⟩ : ∃ r, i1.int 2 = r := ⟨_, rfl⟩; obtain ⟨⟨t, i3⟩, h3⟩ : ∃ r, i2.int 4 = r := ⟨_, rfl⟩; obtain ⟨⟨s, i4⟩, h4⟩ : ∃ r, i3.int 1 = r := ⟨_, rfl⟩; obtain ⟨⟨l, i5⟩, h5⟩ : ∃ r, i4.tops = r := ⟨_, rfl⟩; obtain ⟨⟨u, i6⟩, h6⟩ : ∃ r, i5.int 8 = r := ⟨_, rfl⟩; obtain ⟨⟨st, i7⟩, h7⟩ : ∃ r, i6.int 8 = r := ⟨_, rfl⟩; have hF := valF_eq h1 h2 h3 h4 h5 h6 h7; rw [hj, hF] at hV; have hV : (⟨p, e, t, s, l, u, st⟩ : ValS) = v := hV; unfold decE at hE; rw [hj, hF] at hE; obtain ⟨z7, hleft⟩ := close_zero (i := i7) hE; have z6 := (rds_intN 8 (by decide) (by decide)).back h7 z7; have z5 := (rds_intN 8 (by decide) (by decide)).back h6 z6; have z4 := rds_tops.back h5 z5; have z3 := (rds_intN 1 (by decide) (by decide)).back h4 z4; have z2 := (rds_intN 4 (by decide) (by decide)).back h3 z3; have z1 := (rds_intN 2 (by decide) (by decide)).back h2 z2; have z0 := (rds_intN 8 (by decide) (by decide)).back h1 z1; obtain ⟨_, b0, c0, d0⟩ := int_inv 2 (by decide) (by decide) h0 z0 (by show 0 ≤ S.length; omega); simp only at b0 c0 d0; subst b0; obtain ⟨_, b1, c1, d1⟩ := int_inv 8 (by decide) (by decide) h1 z1 c0; have f1 := int_invF 8 (by decide) (by decide) h1 z1 c0; simp only at b1 c1 d1; subst b1; obtain ⟨_, b2, c2, d2⟩ := int_inv 2 (by decide) (by decide) h2 z2 c1; simp only at b2 c2 d2; subst b2; obtain ⟨_, b3, c3, d3⟩ := int_inv 4 (by decide) (by decide) h3 z3 c2; simp only at b3 c3 d3; subst b3; obtain ⟨_, b4, c4, d4⟩ := int_inv 1 (by decide) (by decide) h4 z4 c3; simp only at b4 c4 d4; subst b4; obtain ⟨_, k5, b5, c5, d5⟩ := tops_inv h5 z5 c4; simp only at b5 c5 d5; subst b5; obtain ⟨_, b6, c6, d6⟩ := int_inv 8 (by decide) (by decide) h6 z6 c5; have f6 := int_invF 8 (by decide) (by decide) h6 z6 c5; simp only at b6 c6 d6; subst b6; obtain ⟨_, b7, c7, d7⟩ := int_inv 8 (by decide) (by decide) h7 z7 c6; have f7 := int_invF 8 (by decide) (by decide) h7 z7 c6; simp only at b7 c7 d7; subst b7
 have hall : S.take (0 + 2 + 8 + 2 + 4 + 1 + k5 + 8 + 8) = S := by
   refine List.take_of_length_le ?_; unfold InS.left at hleft; simp only at hleft
   omega
 have r1 := fits_rng p 8 f1; have r6 := fits_rng u 8 f6; have r7 := fits_rng st 8 f7; refine ⟨?_, he, ?_⟩
 · rw [← hV, ← hall, d7, d6, d5, d4, d3, d2, d1, d0, List.take_zero, List.nil_append]
   rfl
 · obtain ⟨hp, ⟨hs1, hs2⟩, _⟩ := v.ok_parts he; obtain ⟨q1, ⟨q2, q3⟩, ⟨q4, q5⟩, q6, q7⟩ := ranged_parts v hp; subst hV; simp only at q1 q2 q3 q4 q5 q6 q7 hs1 hs2; unfold ValS.R; simp only; refine ⟨r1, ⟨by omega, by omega⟩, ⟨by omega, by omega⟩, ⟨by omega, by omega⟩, r6, r7⟩

end Go.Proofs.Ytmpehoebgifmnaa
namespace Go.Proofs.Ytmpehoebgifmnaa
open Go.RowKit

set_option maxHeartbeats 1000000 in
set_option maxRecDepth 100000 in
theorem ints_same01 (a b : List Int) (q1 q2 : Option Addr) (cap1 cap2 : Nat) (hl : a.length ≤ 9223372036854775807) (hl2 : b.length ≤ 9223372036854775807) (r : Bool) (hr : decide (a = b) = r) {W0 w : World} {K : Know} {L : List Res} (hka : K.has (Know.flat RI (.slice q1 a.length cap1) 1 a)) (hkb : K.has (Know.flat RI (.slice q2 b.length cap2) 1 b)) (h : St W0 w K L) :
   Calls Try.prog 62 #[.slice q1 a.length cap1, .slice q2 b.length cap2] w fun en w' => en = .returned (.bool r) ∧ St W0 w' K L := by
 have H := Lib.hid h; have HA := Lib.hid hka; have HB := Lib.hid hkb; clear h hka hkb
 by_cases hlen : a.length = b.length
 · have HLEN := Lib.hid hlen; have HR := Lib.hid hr; rw [← hlen]; clear hr hlen; go_enter Try.func62, Try.ntmps62; go_wp2; go_loopw [5] (fun iv wr => ∃ k : Nat, k ≤ a.length ∧ iv = .int .i64 k ∧ Hid (a.take k = b.take k) ∧ St W0 wr K L) (fun iv _ => a.length - (intOf iv).toNat)
   case atStart => exact ⟨0, Nat.zero_le _, rfl, Lib.hid (by simp), H.out⟩
   case round =>
    obtain ⟨k, hk, rfl, HEQ, hst⟩ := hrel; clear H; have H := Lib.hid hst; clear hst
    by_cases hlt : k < a.length
    · have hltb : k < b.length := by have := HLEN.out; omega
      obtain ⟨ba, oa, hqa⟩ := flat_at HA.out H.out (by omega); obtain ⟨bb', ob, hqb⟩ := flat_at HB.out H.out (by omega); subst hqa; subst hqb; have c0 := int_cell HA.out H.out k hlt; have c1 := int_cell HB.out H.out k hltb; have ea : a.take (k + 1) = a.take k ++ [a.getD k 0] := by rw [List.take_succ_eq_append_getElem hlt, List.getD_eq_getElem?_getD, List.getElem?_eq_getElem hlt]; rfl
      have eb : b.take (k + 1) = b.take k ++ [b.getD k 0] := by rw [List.take_succ_eq_append_getElem hltb, List.getD_eq_getElem?_getD, List.getElem?_eq_getElem hltb]; rfl
      have hne : a.getD k 0 ≠ b.getD k 0 → a ≠ b := by rintro h rfl; exact h rfl
      obtain ⟨x, hx⟩ : ∃ x, a.getD k 0 = x := ⟨_, rfl⟩; obtain ⟨y, hy⟩ : ∃ y, b.getD k 0 = y := ⟨_, rfl⟩; rw [hx] at c0 ea hne; rw [hy] at c1 eb hne; have EA := Lib.hid (And.intro ea (And.intro eb hne)); clear ea eb hne hx hy hltb
      by_cases hxy : x = y
      · subst hxy; go_wp2
        go_quiet (fail)
        go_wp2; go_roundw
        case rel => exact ⟨k + 1, hlt, by go_num, Lib.hid (by rw [EA.out.1, EA.out.2.1, HEQ.out]), H.out.drewN _⟩
        case measure => first | (simp [intOf]; done) | (simp [intOf]; omega)
      · have HNE := Lib.hid (EA.out.2.2 hxy); go_wp2
        go_quiet (fail)
        go_wp2; go_ret; exact ⟨ret_bool (by rw [← HR.out]; exact (decide_eq_false HNE.out).symm), H.out.drewN _⟩
    · have hke : k = a.length := by omega
      subst hke; go_wp2; go_ret; refine ⟨ret_bool ?_, H.out⟩; have h := HEQ.out; rw [List.take_of_length_le (by omega), List.take_of_length_le (by have := HLEN.out; omega)] at h; rw [← HR.out]; exact (decide_eq_true h).symm
 · have HR := Lib.hid hr; have hne : ¬ ((a.length : Int) = (b.length : Int)) := by omega
   have HLEN := Lib.hid hlen; clear hr hlen; go_enter Try.func62, Try.ntmps62; go_wp2; go_ret; exact ⟨ret_bool (by rw [← HR.out]; exact (decide_eq_false (by rintro rfl; exact HLEN.out rfl)).symm), H.out⟩

end Go.Proofs.Ytmpehoebgifmnaa
namespace Go.Proofs.Ytmpehoebgifmnaa
open Go.RowKit

end Go.Proofs.Ytmpehoebgifmnaa
namespace Go.Proofs.Ytmpehoebgifmnaa
open Go.RowKit

set_option maxHeartbeats 2000000 in
set_option maxRecDepth 100000 in
theorem ref14_sameTopics (l1 l2 : List (TopS × Value)) (q1 q2 : Option Addr) (cap1 cap2 : Nat) (r : Bool) (hr : decide (l1.map (·.1) = l2.map (·.1)) = r) (hf1 : LenT l1) (hf2 : LenT l2) {W0 w : World} {K : Know} {L : List Res} (hk1 : K.has (Know.tops (.slice q1 l1.length cap1) l1)) (hk2 : K.has (Know.tops (.slice q2 l2.length cap2) l2)) (h : St W0 w K L) :
   Calls Try.prog 43 #[.slice q1 l1.length cap1, .slice q2 l2.length cap2] w fun en w' => en = .returned (.bool r) ∧ St W0 w' K L := by
 have H := Lib.hid h; have HK1 := Lib.hid hk1; have HK2 := Lib.hid hk2; have hni : (l1.length : Int) ≤ 140737488355328 := by have := hf1.1; omega
 have HF1 := Lib.hid hf1; have HF2 := Lib.hid hf2; clear h hk1 hk2 hf1 hf2
 by_cases hlen : l1.length = l2.length
 rotate_left
 · as_aux_lemma =>
   have hr2 : r = false := by rw [← hr]; exact decide_eq_false (tmap_len_ne _ _ hlen)
   have g1 : ((l1.length : Int) == (l2.length : Int)) = false := by rw [beq_eq_false_iff_ne]; omega
   have g2 : ((l1.length : Int) != (l2.length : Int)) = true := by simp [bne, g1]
   have g3 : ¬ ((l1.length : Int) = (l2.length : Int)) := by omega
   subst hr2; clear hlen hr; go_enter Try.func43, Try.ntmps43; go_wp2; go_ret; exact ⟨rfl, H.out⟩
 have HLEN := Lib.hid hlen; have HR := Lib.hid hr; have g1 : ((l1.length : Int) == (l2.length : Int)) = true := by rw [hlen]; exact beq_self_eq_true _
 have g2 : ((l1.length : Int) != (l2.length : Int)) = false := by simp [bne, g1]
 have g3 : (l2.length : Int) = (l1.length : Int) := by omega
 clear hr hlen; go_enter Try.func43, Try.ntmps43; go_wp2; clear g1 g2 g3; go_loopw [5] (fun iv wr => ∃ k : Nat, k ≤ l1.length ∧ iv = .int .i64 k ∧ Hid ((l1.map (·.1)).take k = (l2.map (·.1)).take k) ∧ St W0 wr K L) (fun iv _ => l1.length - (intOf iv).toNat)
 case atStart => exact ⟨0, Nat.zero_le _, rfl, Lib.hid (by simp), H.out⟩
 case round =>
   obtain ⟨k, hkl, rfl, heq, hst⟩ := hrel; clear H; have H := Lib.hid hst; clear hst
   by_cases hlt : k < l1.length
   · have hlt2 : k < l2.length := by have := HLEN.out; omega
     obtain ⟨b1', off1, hqq1⟩ := tops_at HK1.out H.out (by omega); subst hqq1; obtain ⟨⟨⟨n1, p1⟩, v1⟩, hx1⟩ : ∃ x, l1[k] = x := ⟨_, rfl⟩; have hmem1 : ((⟨n1, p1⟩ : TopS), v1) ∈ l1 := hx1 ▸ List.getElem_mem _; have XF1 := Lib.hid (show p1.length ≤ 9223372036854775807 from HF1.out.2 _ hmem1); have xk1 : K.has (Know.flat RI v1 1 p1) := tops_parts HK1.out hmem1; obtain ⟨qx1, capx1, hv1⟩ := flat_form xk1 H.out; subst hv1; have XK1 := Lib.hid xk1; have HX1 := Lib.hid (show l1[k].1 = ⟨n1, p1⟩ by rw [hx1]); have HXX1 := Lib.hid hx1; clear hmem1 hx1 xk1; obtain ⟨b2', off2, hqq2⟩ := tops_at HK2.out H.out (by omega); subst hqq2; obtain ⟨⟨⟨n2, p2⟩, v2⟩, hx2⟩ : ∃ x, l2[k] = x := ⟨_, rfl⟩; have hmem2 : ((⟨n2, p2⟩ : TopS), v2) ∈ l2 := hx2 ▸ List.getElem_mem _; have XF2 := Lib.hid (show p2.length ≤ 9223372036854775807 from HF2.out.2 _ hmem2); have xk2 : K.has (Know.flat RI v2 1 p2) := tops_parts HK2.out hmem2; obtain ⟨qx2, capx2, hv2⟩ := flat_form xk2 H.out; subst hv2; have XK2 := Lib.hid xk2; have HX2 := Lib.hid (show l2[k].1 = ⟨n2, p2⟩ by rw [hx2]); have HXX2 := Lib.hid hx2; clear hmem2 hx2 xk2; have HKP := Lib.hid (show ∀ w', St W0 w' K L → (w'.cell? ⟨b1', off1 + k * 2, none⟩ = some (.string (bb n1)) ∧ w'.cell? ⟨b1', off1 + k * 2 + 1, none⟩ = some (.slice qx1 p1.length capx1) ∧ w'.cell? ⟨b2', off2 + k * 2, none⟩ = some (.string (bb n2)) ∧ w'.cell? ⟨b2', off2 + k * 2 + 1, none⟩ = some (.slice qx2 p2.length capx2)) from fun w' hs => ⟨(tops_cell HK1.out hs k hlt _ HXX1.out).1, (tops_cell HK1.out hs k hlt _ HXX1.out).2, (tops_cell HK2.out hs k hlt2 _ HXX2.out).1, (tops_cell HK2.out hs k hlt2 _ HXX2.out).2⟩); have hki : (k : Int) < (l1.length : Int) := by omega
     have hki2 : (k : Int) < (l2.length : Int) := by omega
     have NX := Lib.hid (show (⟨n1, p1⟩ : TopS) ≠ ⟨n2, p2⟩ → l1.map (·.1) ≠ l2.map (·.1) from tmap_ne_of_get l1 l2 k hlt hlt2 _ _ HX1.out HX2.out); have NT := Lib.hid (show (⟨n1, p1⟩ : TopS) = ⟨n2, p2⟩ → (l1.map (·.1)).take (k + 1) = (l2.map (·.1)).take (k + 1) from fun e => by rw [tmap_take_succ l1 k hlt _ HX1.out, tmap_take_succ l2 k hlt2 _ HX2.out, heq.out, e]); clear HX1 HX2 HXX1 HXX2; clear hlt2
     by_cases hn : n1 = n2
     · by_cases hp : p1 = p2
       · as_aux_lemma =>
         have E1 := Lib.hid (decide_eq_true hp); have NT2 := Lib.hid (NT.out (by rw [hn, hp])); have gn : (n1 == n2) = true := by rw [hn]; exact beq_self_eq_true _
         have gn2 : (n1 != n2) = false := by simp [bne, gn]
         clear hn hp NX NT; go_wp2; have hs := H.out.drew; refine wp_region_held_drew (S := fun w' => w'.cell? ⟨b1', off1 + k * 2, none⟩ = some (.string (bb n1)) ∧ w'.cell? ⟨b1', off1 + k * 2 + 1, none⟩ = some (.slice qx1 p1.length capx1) ∧ w'.cell? ⟨b2', off2 + k * 2, none⟩ = some (.string (bb n2)) ∧ w'.cell? ⟨b2', off2 + k * 2 + 1, none⟩ = some (.slice qx2 p2.length capx2)) (by kernel_rfl) (HKP.out _ hs) (fun hHeld => ?_); refine tQ 0 ⟨some 17, .move (.tmp 0), 35, _, _, none⟩ ?_; simp only [Act.put, sA, sB, sC]; refine tQ 1 ⟨some 18, .move (.tmp 5), 3, _, _, none⟩ ?_; simp only [Act.put, sA, sB, sC]; refine tQ 2 ⟨some 19, .indexAddr 35 (.tmp 17) (.tmp 18), 0, _, _, none⟩ ?_; simp only [Act.put, sA, sB, sC]; refine tQ 3 ⟨some 20, .fieldAddr 56 (.tmp 19) 0, 0, _, _, none⟩ ?_; simp only [Act.put, sA, sB, sC]; refine tQ 4 ⟨some 21, .load 9 (.tmp 20), 9, _, _, none⟩ ?_; simp only [Act.put, sA, sB, sC]; refine tQ 5 ⟨some 22, .move (.tmp 1), 35, _, _, none⟩ ?_; simp only [Act.put, sA, sB, sC]; refine tQ 6 ⟨some 23, .move (.tmp 5), 3, _, _, none⟩ ?_; simp only [Act.put, sA, sB, sC]; refine tQ 7 ⟨some 24, .indexAddr 35 (.tmp 22) (.tmp 23), 0, _, _, none⟩ ?_; simp only [Act.put, sA, sB, sC]; refine tQ 8 ⟨some 25, .fieldAddr 56 (.tmp 24) 0, 0, _, _, none⟩ ?_; simp only [Act.put, sA, sB, sC]; refine tQ 9 ⟨some 26, .load 9 (.tmp 25), 9, _, _, none⟩ ?_; simp only [Act.put, sA, sB, sC]; refine tQ 10 ⟨some 27, .binOp .neq 9 (.tmp 21) (.tmp 26) 9, 4, _, _, none⟩ ?_; simp only [Act.put, sA, sB, sC]; refine tQ 11 ⟨some 28, .move (.tmp 27), 4, _, _, none⟩ ?_; simp only [Act.put, sA, sB, sC]; refine tQ 12 ⟨some 29, .move (.tmp 0), 35, _, _, some (11, false)⟩ ?_; simp only [Act.put, sA, sB, sC]; refine tQ 13 ⟨some 30, .move (.tmp 5), 3, _, _, some (11, false)⟩ ?_; simp only [Act.put, sA, sB, sC]; refine tQ 14 ⟨some 31, .indexAddr 35 (.tmp 29) (.tmp 30), 0, _, _, some (11, false)⟩ ?_; simp only [Act.put, sA, sB, sC]; refine tQ 15 ⟨some 32, .fieldAddr 56 (.tmp 31) 1, 0, _, _, some (11, false)⟩ ?_; simp only [Act.put, sA, sB, sC]; refine tQ 16 ⟨some 33, .load 54 (.tmp 32), 54, _, _, some (11, false)⟩ ?_; simp only [Act.put, sA, sB, sC]; refine tQ 17 ⟨some 34, .move (.tmp 1), 35, _, _, some (11, false)⟩ ?_; simp only [Act.put, sA, sB, sC]; refine tQ 18 ⟨some 35, .move (.tmp 5), 3, _, _, some (11, false)⟩ ?_; simp only [Act.put, sA, sB, sC]; refine tQ 19 ⟨some 36, .indexAddr 35 (.tmp 34) (.tmp 35), 0, _, _, some (11, false)⟩ ?_; simp only [Act.put, sA, sB, sC]; refine tQ 20 ⟨some 37, .fieldAddr 56 (.tmp 36) 1, 0, _, _, some (11, false)⟩ ?_; simp only [Act.put, sA, sB, sC]; refine tQ 21 ⟨some 38, .load 54 (.tmp 37), 54, _, _, some (11, false)⟩ ?_; simp only [Act.put, sA, sB, sC]; refine wpAnyH_ready (rs := [22]) (by kernel_rfl) (by simp) (AllReadyH.cons (o := ⟨some 39, .call { callee := .value (.func 62), args := #[.tmp 33, .tmp 38], argTypes := #[54, 54] }, 4, _, _, some (11, false)⟩) rfl (fun KK hK => ?_) AllReadyH.nil); go_simp; go_at_call 62; with_reducible refine (ints_same01 p1 p2 qx1 qx2 capx1 capx2 XF1.out XF2.out true E1.out XK1.out XK2.out hs).mono ?_; rintro e wq ⟨rfl, hs⟩; refine hK.out _ _ (HKP.out _ hs) (fun hHeld => ?_); clear hK KK
         try simp only [Act.put, sA, sB, sC]
         refine tQ 23 ⟨some 40, .unOp UnOp.not 4 (.tmp 39), 4, _, _, some (11, false)⟩ ?_; simp only [Act.put, sA, sB, sC]; refine tQ 24 ⟨some 41, .pick (.tmp 28) (.const (Value.bool true)) (.tmp 40), 4, _, _, none⟩ ?_; simp only [Act.put, sA, sB, sC]; refine wpAnyH_done (by kernel_rfl) ?_ _; go_wp2_with fail; go_roundw
         case rel => exact ⟨k + 1, hlt, by go_num, NT2, hs⟩
         case measure => first | (simp [intOf]; done) | (simp [intOf]; omega)
       · as_aux_lemma =>
         have E1 := Lib.hid (decide_eq_false hp); have HRF := Lib.hid (show r = false by rw [← HR.out]; exact decide_eq_false (NX.out (by intro h; cases h; exact hp rfl))); have gn : (n1 == n2) = true := by rw [hn]; exact beq_self_eq_true _
         have gn2 : (n1 != n2) = false := by simp [bne, gn]
         clear hn hp NX NT; go_wp2; have hs := H.out.drew; refine wp_region_held_drew (S := fun w' => w'.cell? ⟨b1', off1 + k * 2, none⟩ = some (.string (bb n1)) ∧ w'.cell? ⟨b1', off1 + k * 2 + 1, none⟩ = some (.slice qx1 p1.length capx1) ∧ w'.cell? ⟨b2', off2 + k * 2, none⟩ = some (.string (bb n2)) ∧ w'.cell? ⟨b2', off2 + k * 2 + 1, none⟩ = some (.slice qx2 p2.length capx2)) (by kernel_rfl) (HKP.out _ hs) (fun hHeld => ?_); refine tQ 0 ⟨some 17, .move (.tmp 0), 35, _, _, none⟩ ?_; simp only [Act.put, sA, sB, sC]; refine tQ 1 ⟨some 18, .move (.tmp 5), 3, _, _, none⟩ ?_; simp only [Act.put, sA, sB, sC]; refine tQ 2 ⟨some 19, .indexAddr 35 (.tmp 17) (.tmp 18), 0, _, _, none⟩ ?_; simp only [Act.put, sA, sB, sC]; refine tQ 3 ⟨some 20, .fieldAddr 56 (.tmp 19) 0, 0, _, _, none⟩ ?_; simp only [Act.put, sA, sB, sC]; refine tQ 4 ⟨some 21, .load 9 (.tmp 20), 9, _, _, none⟩ ?_; simp only [Act.put, sA, sB, sC]; refine tQ 5 ⟨some 22, .move (.tmp 1), 35, _, _, none⟩ ?_; simp only [Act.put, sA, sB, sC]; refine tQ 6 ⟨some 23, .move (.tmp 5), 3, _, _, none⟩ ?_; simp only [Act.put, sA, sB, sC]; refine tQ 7 ⟨some 24, .indexAddr 35 (.tmp 22) (.tmp 23), 0, _, _, none⟩ ?_; simp only [Act.put, sA, sB, sC]; refine tQ 8 ⟨some 25, .fieldAddr 56 (.tmp 24) 0, 0, _, _, none⟩ ?_; simp only [Act.put, sA, sB, sC]; refine tQ 9 ⟨some 26, .load 9 (.tmp 25), 9, _, _, none⟩ ?_; simp only [Act.put, sA, sB, sC]; refine tQ 10 ⟨some 27, .binOp .neq 9 (.tmp 21) (.tmp 26) 9, 4, _, _, none⟩ ?_; simp only [Act.put, sA, sB, sC]; refine tQ 11 ⟨some 28, .move (.tmp 27), 4, _, _, none⟩ ?_; simp only [Act.put, sA, sB, sC]; refine tQ 12 ⟨some 29, .move (.tmp 0), 35, _, _, some (11, false)⟩ ?_; simp only [Act.put, sA, sB, sC]; refine tQ 13 ⟨some 30, .move (.tmp 5), 3, _, _, some (11, false)⟩ ?_; simp only [Act.put, sA, sB, sC]; refine tQ 14 ⟨some 31, .indexAddr 35 (.tmp 29) (.tmp 30), 0, _, _, some (11, false)⟩ ?_; simp only [Act.put, sA, sB, sC]; refine tQ 15 ⟨some 32, .fieldAddr 56 (.tmp 31) 1, 0, _, _, some (11, false)⟩ ?_; simp only [Act.put, sA, sB, sC]; refine tQ 16 ⟨some 33, .load 54 (.tmp 32), 54, _, _, some (11, false)⟩ ?_; simp only [Act.put, sA, sB, sC]; refine tQ 17 ⟨some 34, .move (.tmp 1), 35, _, _, some (11, false)⟩ ?_; simp only [Act.put, sA, sB, sC]; refine tQ 18 ⟨some 35, .move (.tmp 5), 3, _, _, some (11, false)⟩ ?_; simp only [Act.put, sA, sB, sC]; refine tQ 19 ⟨some 36, .indexAddr 35 (.tmp 34) (.tmp 35), 0, _, _, some (11, false)⟩ ?_; simp only [Act.put, sA, sB, sC]; refine tQ 20 ⟨some 37, .fieldAddr 56 (.tmp 36) 1, 0, _, _, some (11, false)⟩ ?_; simp only [Act.put, sA, sB, sC]; refine tQ 21 ⟨some 38, .load 54 (.tmp 37), 54, _, _, some (11, false)⟩ ?_; simp only [Act.put, sA, sB, sC]; refine wpAnyH_ready (rs := [22]) (by kernel_rfl) (by simp) (AllReadyH.cons (o := ⟨some 39, .call { callee := .value (.func 62), args := #[.tmp 33, .tmp 38], argTypes := #[54, 54] }, 4, _, _, some (11, false)⟩) rfl (fun KK hK => ?_) AllReadyH.nil); go_simp; go_at_call 62; with_reducible refine (ints_same01 p1 p2 qx1 qx2 capx1 capx2 XF1.out XF2.out false E1.out XK1.out XK2.out hs).mono ?_; rintro e wq ⟨rfl, hs⟩; refine hK.out _ _ (HKP.out _ hs) (fun hHeld => ?_); clear hK KK
         try simp only [Act.put, sA, sB, sC]
         refine tQ 23 ⟨some 40, .unOp UnOp.not 4 (.tmp 39), 4, _, _, some (11, false)⟩ ?_; simp only [Act.put, sA, sB, sC]; refine tQ 24 ⟨some 41, .pick (.tmp 28) (.const (Value.bool true)) (.tmp 40), 4, _, _, none⟩ ?_; simp only [Act.put, sA, sB, sC]; refine wpAnyH_done (by kernel_rfl) ?_ _; go_wp2_with fail; go_ret; exact ⟨ret_bool HRF.out.symm, hs⟩
     · as_aux_lemma =>
         have HRF := Lib.hid (show r = false by rw [← HR.out]; exact decide_eq_false (NX.out (by intro h; cases h; exact hn rfl))); have gn : (n1 == n2) = false := by simpa using hn
         have gn2 : (n1 != n2) = true := by simp [bne, gn]
         clear hn NX NT; go_wp2; have hs := H.out.drew; refine wp_region_held_drew (S := fun w' => w'.cell? ⟨b1', off1 + k * 2, none⟩ = some (.string (bb n1)) ∧ w'.cell? ⟨b1', off1 + k * 2 + 1, none⟩ = some (.slice qx1 p1.length capx1) ∧ w'.cell? ⟨b2', off2 + k * 2, none⟩ = some (.string (bb n2)) ∧ w'.cell? ⟨b2', off2 + k * 2 + 1, none⟩ = some (.slice qx2 p2.length capx2)) (by kernel_rfl) (HKP.out _ hs) (fun hHeld => ?_); refine tQ 0 ⟨some 17, .move (.tmp 0), 35, _, _, none⟩ ?_; simp only [Act.put, sA, sB, sC]; refine tQ 1 ⟨some 18, .move (.tmp 5), 3, _, _, none⟩ ?_; simp only [Act.put, sA, sB, sC]; refine tQ 2 ⟨some 19, .indexAddr 35 (.tmp 17) (.tmp 18), 0, _, _, none⟩ ?_; simp only [Act.put, sA, sB, sC]; refine tQ 3 ⟨some 20, .fieldAddr 56 (.tmp 19) 0, 0, _, _, none⟩ ?_; simp only [Act.put, sA, sB, sC]; refine tQ 4 ⟨some 21, .load 9 (.tmp 20), 9, _, _, none⟩ ?_; simp only [Act.put, sA, sB, sC]; refine tQ 5 ⟨some 22, .move (.tmp 1), 35, _, _, none⟩ ?_; simp only [Act.put, sA, sB, sC]; refine tQ 6 ⟨some 23, .move (.tmp 5), 3, _, _, none⟩ ?_; simp only [Act.put, sA, sB, sC]; refine tQ 7 ⟨some 24, .indexAddr 35 (.tmp 22) (.tmp 23), 0, _, _, none⟩ ?_; simp only [Act.put, sA, sB, sC]; refine tQ 8 ⟨some 25, .fieldAddr 56 (.tmp 24) 0, 0, _, _, none⟩ ?_; simp only [Act.put, sA, sB, sC]; refine tQ 9 ⟨some 26, .load 9 (.tmp 25), 9, _, _, none⟩ ?_; simp only [Act.put, sA, sB, sC]; refine tQ 10 ⟨some 27, .binOp .neq 9 (.tmp 21) (.tmp 26) 9, 4, _, _, none⟩ ?_; simp only [Act.put, sA, sB, sC]; refine tQ 11 ⟨some 28, .move (.tmp 27), 4, _, _, none⟩ ?_; simp only [Act.put, sA, sB, sC]; refine wpAnyH_take (i := 12) (oi := ⟨some 29, .move (.tmp 0), 35, _, _, some (11, false)⟩) (v := undef) rfl (by kernel_rfl) (by kernel_rfl) (by kernel_rfl) (fun _ _ _ h => h) (Or.inr ⟨by rfl, rfl⟩) (by assumption) ?_; simp only [Act.put, sA, sB, sC]; refine wpAnyH_take (i := 13) (oi := ⟨some 30, .move (.tmp 5), 3, _, _, some (11, false)⟩) (v := undef) rfl (by kernel_rfl) (by kernel_rfl) (by kernel_rfl) (fun _ _ _ h => h) (Or.inr ⟨by rfl, rfl⟩) (by assumption) ?_; simp only [Act.put, sA, sB, sC]; refine wpAnyH_take (i := 14) (oi := ⟨some 31, .indexAddr 35 (.tmp 29) (.tmp 30), 0, _, _, some (11, false)⟩) (v := undef) rfl (by kernel_rfl) (by kernel_rfl) (by kernel_rfl) (fun _ _ _ h => h) (Or.inr ⟨by rfl, rfl⟩) (by assumption) ?_; simp only [Act.put, sA, sB, sC]; refine wpAnyH_take (i := 15) (oi := ⟨some 32, .fieldAddr 56 (.tmp 31) 1, 0, _, _, some (11, false)⟩) (v := undef) rfl (by kernel_rfl) (by kernel_rfl) (by kernel_rfl) (fun _ _ _ h => h) (Or.inr ⟨by rfl, rfl⟩) (by assumption) ?_; simp only [Act.put, sA, sB, sC]; refine wpAnyH_take (i := 16) (oi := ⟨some 33, .load 54 (.tmp 32), 54, _, _, some (11, false)⟩) (v := undef) rfl (by kernel_rfl) (by kernel_rfl) (by kernel_rfl) (fun _ _ _ h => h) (Or.inr ⟨by rfl, rfl⟩) (by assumption) ?_; simp only [Act.put, sA, sB, sC]; refine wpAnyH_take (i := 17) (oi := ⟨some 34, .move (.tmp 1), 35, _, _, some (11, false)⟩) (v := undef) rfl (by kernel_rfl) (by kernel_rfl) (by kernel_rfl) (fun _ _ _ h => h) (Or.inr ⟨by rfl, rfl⟩) (by assumption) ?_; simp only [Act.put, sA, sB, sC]; refine wpAnyH_take (i := 18) (oi := ⟨some 35, .move (.tmp 5), 3, _, _, some (11, false)⟩) (v := undef) rfl (by kernel_rfl) (by kernel_rfl) (by kernel_rfl) (fun _ _ _ h => h) (Or.inr ⟨by rfl, rfl⟩) (by assumption) ?_; simp only [Act.put, sA, sB, sC]; refine wpAnyH_take (i := 19) (oi := ⟨some 36, .indexAddr 35 (.tmp 34) (.tmp 35), 0, _, _, some (11, false)⟩) (v := undef) rfl (by kernel_rfl) (by kernel_rfl) (by kernel_rfl) (fun _ _ _ h => h) (Or.inr ⟨by rfl, rfl⟩) (by assumption) ?_; simp only [Act.put, sA, sB, sC]; refine wpAnyH_take (i := 20) (oi := ⟨some 37, .fieldAddr 56 (.tmp 36) 1, 0, _, _, some (11, false)⟩) (v := undef) rfl (by kernel_rfl) (by kernel_rfl) (by kernel_rfl) (fun _ _ _ h => h) (Or.inr ⟨by rfl, rfl⟩) (by assumption) ?_; simp only [Act.put, sA, sB, sC]; refine wpAnyH_take (i := 21) (oi := ⟨some 38, .load 54 (.tmp 37), 54, _, _, some (11, false)⟩) (v := undef) rfl (by kernel_rfl) (by kernel_rfl) (by kernel_rfl) (fun _ _ _ h => h) (Or.inr ⟨by rfl, rfl⟩) (by assumption) ?_; simp only [Act.put, sA, sB, sC]; refine wpAnyH_take (i := 22) (oi := ⟨some 39, .call { callee := .value (.func 62), args := #[.tmp 33, .tmp 38], argTypes := #[54, 54] }, 4, _, _, some (11, false)⟩) (v := undef) rfl (by kernel_rfl) (by kernel_rfl) (by kernel_rfl) (fun _ _ _ h => h) (Or.inr ⟨by rfl, rfl⟩) (by assumption) ?_; simp only [Act.put, sA, sB, sC]; refine wpAnyH_take (i := 23) (oi := ⟨some 40, .unOp UnOp.not 4 (.tmp 39), 4, _, _, some (11, false)⟩) (v := undef) rfl (by kernel_rfl) (by kernel_rfl) (by kernel_rfl) (fun _ _ _ h => h) (Or.inr ⟨by rfl, rfl⟩) (by assumption) ?_; simp only [Act.put, sA, sB, sC]; refine tQ 24 ⟨some 41, .pick (.tmp 28) (.const (Value.bool true)) (.tmp 40), 4, _, _, none⟩ ?_; simp only [Act.put, sA, sB, sC]; refine wpAnyH_done (by kernel_rfl) ?_ _; go_wp2_with fail; go_ret; exact ⟨ret_bool HRF.out.symm, hs⟩
   · obtain rfl : k = l1.length := by omega
     have hall : l1.map (·.1) = l2.map (·.1) := by
       have h := heq.out
       rwa [List.take_of_length_le (by simp), List.take_of_length_le (by have := HLEN.out; simp; omega)] at h
     have HRT := Lib.hid (show r = true by rw [← HR.out, hall]; exact decide_eq_true rfl); clear hall; go_wp2; go_ret; exact ⟨ret_bool HRT.out.symm, H.out⟩

end Go.Proofs.Ytmpehoebgifmnaa
namespace Go.Proofs.Ytmpehoebgifmnaa
open Go.RowKit

set_option maxHeartbeats 2000000 in
set_option maxRecDepth 100000 in
theorem ref14_sameT (p e t s u st : Int) (l1 l2 : List (TopS × Value)) (q1 q2 : Option Addr) (cap1 cap2 : Nat) (hr : l1.map (·.1) = l2.map (·.1)) (hf1 : LenT l1) (hf2 : LenT l2) {W0 w : World} {K : Know} {L : List Res} (hk1 : K.has (Know.tops (.slice q1 l1.length cap1) l1)) (hk2 : K.has (Know.tops (.slice q2 l2.length cap2) l2)) (h : St W0 w K L) :
  Calls Try.prog 22 #[.agg #[.int .i64 p, .int .i64 e, .int .i64 t, .int .i64 s, .slice q1 l1.length cap1, .int .i64 u, .int .i64 st], .agg #[.int .i64 p, .int .i64 e, .int .i64 t, .int .i64 s, .slice q2 l2.length cap2, .int .i64 u, .int .i64 st]] w fun en w' => en = .returned (.bool true) ∧ St W0 w' K L := by
 have h0 := (h.allocRaw #[.int .i64 p, .int .i64 e, .int .i64 t, .int .i64 s, .slice q1 l1.length cap1, .int .i64 u, .int .i64 st] 37).allocRaw #[.int .i64 p, .int .i64 e, .int .i64 t, .int .i64 s, .slice q2 l2.length cap2, .int .i64 u, .int .i64 st] 37; rw [World.size_alloc] at h0; have H := Lib.hid h0; have HR := Lib.hid (decide_eq_true hr); have HF1 := Lib.hid hf1; have HF2 := Lib.hid hf2; have HK1 := Lib.hid hk1; have HK2 := Lib.hid hk2; clear h h0 hr hf1 hf2 hk1 hk2; go_enter Try.func22, Try.ntmps22; go_wp2_with (go_at_call 43; (with_reducible refine (ref14_sameTopics l1 l2 q1 q2 cap1 cap2 true HR.out HF1.out HF2.out HK1.out HK2.out H.out).mono ?_); rintro e_ wn ⟨rfl, h⟩; have c5 := h.rawCell 5; have c6 := h.rawCell 6; have d5 := h.p1.rawCell 5; have d6 := h.p1.rawCell 6; simp at c5 c6 d5 d6; replace H := Lib.hid h; clear h); go_ret; exact ⟨rfl, H.out.drop.drop⟩

end Go.Proofs.Ytmpehoebgifmnaa
namespace Go.Proofs.Ytmpehoebgifmnaa
open Go.RowKit

theorem valDec_fewL {S : Bs} {v : ValS} (hs : S.length ≤ 1000000) (h : valDec S = (v, 0)) : FewL v.tops := by
 have h1 := valF_few (decI_at S) hs; have h2 := (valDec_ok h (.inr trivial)).2.1; rw [h2] at h1; exact h1
end Go.Proofs.Ytmpehoebgifmnaa
namespace Go.Proofs.Ytmpehoebgifmnaa
open Go.RowKit

structure AllOk (f : JF) (l : List KnR) : Prop where
  nodup : (l.map KnR.id).Nodup
  mem : ∀ x, (f x).isSome = true ↔ x ∈ l.map KnR.id
  val : ∀ x ∈ l, ∃ S, f x.id = some S ∧ S.length ≤ 1000 ∧ valDec S = (⟨x.p, x.e, x.t, x.s, x.tl.map (·.1), x.u, x.st⟩, 0)
  ids : ∀ x ∈ l, x.id.length ≤ 1000 ∧ ∃ key, keyRd key = (x.id, 0) ∧ key.length ≤ 1000
  few : l.length ≤ 60
theorem AllOk.nil : AllOk (fun _ => none) [] := ⟨List.nodup_nil, fun x => by simp, fun x hx => (by cases hx), fun x hx => (by cases hx), by decide⟩
theorem AllOk.len {f : JF} {l : List KnR} (h : AllOk f l) {ids : List Bs} (hi : IdsOf f ids) : ids.length = l.length := by
 have hp : ids.Perm (l.map KnR.id) := (List.perm_ext_iff_of_nodup hi.nodup h.nodup).2 fun x => (hi.mem x).trans (h.mem x)
 have := hp.length_eq; rw [List.length_map] at this; exact this
theorem AllOk.at {f : JF} {l : List KnR} (h : AllOk f l) {ids : List Bs} (hi : IdsOf f ids) (k : Nat) (hk : k < ids.length) :
  ∃ i, ∃ (hl : i < l.length), l[i].id = ids[k] ∧ ∀ j (hj : j < l.length), j < i → (l[j].id == ids[k]) = false := by
 have h1 : ids[k] ∈ l.map KnR.id := (h.mem _).1 ((hi.mem _).1 (List.getElem_mem hk)); obtain ⟨i, hi2, he⟩ := List.mem_iff_getElem.1 h1; rw [List.length_map] at hi2; rw [List.getElem_map] at he; refine ⟨i, hi2, he, fun j hj hji => ?_⟩; rw [beq_eq_false_iff_ne]; intro h2; have h3 := List.pairwise_iff_getElem.1 h.nodup j i (by rw [List.length_map]; exact hj) (by rw [List.length_map]; exact hi2) hji
 apply h3
 rw [List.getElem_map, List.getElem_map, h2, he]
theorem IdsOf.less {f : JF} {ids : List Bs} (hi : IdsOf f ids) (m : Nat) (hm : m + 1 < ids.length) : Op.bytesLess ids[m] ids[m + 1] = true := by
 have h1 := List.pairwise_iff_getElem.1 hi.rise m (m + 1) (by omega) hm (by omega); have h2 : ids[m] ≠ ids[m + 1] := List.pairwise_iff_getElem.1 hi.nodup m (m + 1) (by omega) hm (by omega); rw [bytesLess_eq, decide_eq_true_eq]; exact Decidable.byContradiction fun h => h2 (List.le_antisymm h1 (List.not_lt.1 h))
theorem enc_at (ids : List Bs) (k : Nat) (hk : k < ids.length) (x : Bs) (hx : ids[k] = x) : (ids.map encStr)[k]? = some (.string (bb x)) := by
 rw [List.getElem?_map, List.getElem?_eq_getElem hk, hx]
 rfl
theorem lenT_fewT {l : List (TopS × Value)} (h : FewT l) : LenT l := ⟨by have := h.1; omega, fun x hx => by have := (h.2 x hx).2; omega⟩
theorem lenT_dec {S : Bs} (hs : S.length ≤ 1000) {p e t s u st : Int} {l : List (TopS × Value)} (h : valDec S = (⟨p, e, t, s, l.map (·.1), u, st⟩, 0)) : LenT l := lenT_fewT (fewT_of (valDec_fewL (by omega) h))

end Go.Proofs.Ytmpehoebgifmnaa
namespace Go.Proofs.Ytmpehoebgifmnaa
open Go.RowKit

def entOf (f : JF) (id : Bs) : List Value := [.string (bb (keyEnc id).1), .bool false, .string (bb ((f id).getD []))]
theorem ent_take (f : JF) (ids : List Bs) (k : Nat) (h : k < ids.length) (id : Bs) (hx : ids[k] = id) : (ids.take (k + 1)).flatMap (entOf f) = (ids.take k).flatMap (entOf f) ++ entOf f id := by
 rw [List.take_succ_eq_append_getElem h, hx, List.flatMap_append]
 simp
theorem ent_eq {f : JF} {id key S : Bs} (hk : keyEnc id = (key, 0)) (hf : f id = some S) : entOf f id = [.string (bb key), .bool false, .string (bb S)] := by
 unfold entOf; rw [hk, hf]
 rfl
theorem fewT_mapJ {S : Bs} (hs : S.length ≤ 1000) {p e t s u st : Int} {tl : List TopS} (h : valDec S = (⟨p, e, t, s, tl, u, st⟩, 0)) {l : List (TopS × Value)} (hl : l.map (·.1) = tl) : FewT l := by
 subst hl; exact fewT_of (valDec_fewL (by omega) h)
theorem AllOk.get {f : JF} {l : List KnR} (h : AllOk f l) {ids : List Bs} (hi : IdsOf f ids) (k : Nat) (hk : k < ids.length) :
  ∃ key S p e t s u st tl, keyRd key = (ids[k], 0) ∧ key.length ≤ 1000 ∧ ids[k].length ≤ 1000 ∧ f ids[k] = some S ∧ S.length ≤ 1000 ∧ valDec S = (⟨p, e, t, s, tl, u, st⟩, 0) := by
 obtain ⟨i, hl, he, _⟩ := h.at hi k hk; obtain ⟨S, h1, h2, h3⟩ := h.val _ (List.getElem_mem hl); obtain ⟨h4, key, h5, h6⟩ := h.ids _ (List.getElem_mem hl); rw [he] at h1 h4 h5; exact ⟨key, S, _, _, _, _, _, _, _, h5, h6, h4, h1, h2, h3⟩

end Go.Proofs.Ytmpehoebgifmnaa
namespace Go.Proofs.Ytmpehoebgifmnaa
open Go.RowKit

structure EntV where
  key : Bs
  nu : Bool
  d : Bs
def ecells (x : EntV) : List Value := [.string (bb x.key), .bool x.nu, .string (bb x.d)]
def RJE (cs : List Value) (x : EntV) : Prop := cs = ecells x
theorem je_at {W0 w : World} {K : Know} {L : List Res} {q : Option Addr} {n cap : Nat} {l : List EntV} (hk : K.has (Know.flat RJE (.slice q n cap) 3 l)) (h : St W0 w K L) (h0 : 0 < l.length) : ∃ b off, q = some ⟨b, off, none⟩ := by
 exact zq4
theorem je_cell {W0 w : World} {K : Know} {L : List Res} {b off n cap : Nat} {l : List EntV} (hk : K.has (Know.flat RJE (.slice (some ⟨b, off, none⟩) n cap) 3 l)) (h : St W0 w K L) (i : Nat) (hi : i < l.length) (x : EntV) (hx : l[i] = x) :
  w.cell? ⟨b, off + i * 3, none⟩ = some (.string (bb x.key)) ∧ w.cell? ⟨b, off + i * 3 + 1, none⟩ = some (.bool x.nu) ∧ w.cell? ⟨b, off + i * 3 + 2, none⟩ = some (.string (bb x.d)) := by
 subst hx; obtain ⟨F, hF, _⟩ := h.get; obtain ⟨q2, cap2, hv, hr⟩ := (hk _ _ hF).at; obtain ⟨b2, off2, hq, hc⟩ := hr (by omega); rw [hq] at hv; simp at hv; obtain ⟨⟨rfl, rfl⟩, _, _⟩ := hv; obtain ⟨cs, _, hR, hcs⟩ := hc i hi; unfold RJE at hR; subst hR; exact ⟨hcs 0 _ rfl, by rw [Nat.add_assoc]; exact hcs 1 _ rfl, by rw [Nat.add_assoc]; exact hcs 2 _ rfl⟩
theorem kout_mem {l : List KnR} {id : Bs} {x : KnR} : x ∈ kout l id ↔ x ∈ l ∧ x.id ≠ id := by
 unfold kout; rw [List.mem_filter]
 simp
theorem jset_same (f : JF) (id : Bs) (o : Option Bs) : jset f id o id = o := by unfold jset; rw [if_pos rfl]
theorem jset_other (f : JF) (id : Bs) (o : Option Bs) {x : Bs} (h : x ≠ id) : jset f id o x = f x := by unfold jset; rw [if_neg h]
theorem AllOk.drop {f : JF} {l : List KnR} (h : AllOk f l) (id : Bs) : AllOk (jset f id none) (kout l id) := by
 refine ⟨?_, fun x => ?_, fun x hx => ?_, fun x hx => h.ids x (kout_mem.1 hx).1, Nat.le_trans (kout_le l id) h.few⟩
 · exact h.nodup.sublist (List.Sublist.map KnR.id List.filter_sublist)
 · by_cases hx : x = id
   · subst hx; rw [jset_same]
     constructor
     · intro h; cases h
     · intro h2; obtain ⟨y, hy, he⟩ := List.mem_map.1 h2; exact absurd he (kout_mem.1 hy).2
   · rw [jset_other _ _ _ hx, h.mem]
     constructor
     · intro h2; obtain ⟨y, hy, he⟩ := List.mem_map.1 h2; exact List.mem_map.2 ⟨y, kout_mem.2 ⟨hy, by rw [he]; exact hx⟩, he⟩
     · intro h2; obtain ⟨y, hy, he⟩ := List.mem_map.1 h2; exact List.mem_map.2 ⟨y, (kout_mem.1 hy).1, he⟩
 · obtain ⟨h1, h2⟩ := kout_mem.1 hx; rw [jset_other _ _ _ h2]; exact h.val x h1
theorem AllOk.put {f : JF} {l : List KnR} (h : AllOk f l) (x : KnR) (S key : Bs) (hn : (kout l x.id).length < 60) (hS : S.length ≤ 1000) (hv : valDec S = (⟨x.p, x.e, x.t, x.s, x.tl.map (·.1), x.u, x.st⟩, 0)) (hi : x.id.length ≤ 1000) (hk : keyRd key = (x.id, 0)) (hkl : key.length ≤ 1000) : AllOk (jset f x.id (some S)) (kout l x.id ++ [x]) := by
 have hd := h.drop x.id; refine ⟨?_, fun y => ?_, fun y hy => ?_, fun y hy => ?_, by rw [List.length_append, List.length_singleton]; omega⟩
 · rw [List.map_append, List.nodup_append]; refine ⟨hd.nodup, by simp, fun a ha b hb => ?_⟩; obtain ⟨z, hz, he⟩ := List.mem_map.1 ha; simp at hb; subst hb; rw [← he]; exact (kout_mem.1 hz).2
 · by_cases hy : y = x.id
   · subst hy; rw [jset_same]
     simp
   · rw [jset_other _ _ _ hy, ← jset_other f x.id none hy, hd.mem, List.map_append, List.mem_append]; simp [hy]
 · rcases List.mem_append.1 hy with hy | hy
   · obtain ⟨S2, h1, h2⟩ := hd.val y hy; rw [jset_other _ _ _ (kout_mem.1 hy).2] at h1; exact ⟨S2, by rw [jset_other _ _ _ (kout_mem.1 hy).2]; exact h1, h2⟩
   · rw [List.mem_singleton.1 hy]; exact ⟨S, jset_same _ _ _, hS, hv⟩
 · rcases List.mem_append.1 hy with hy | hy
   · exact hd.ids y hy
   · rw [List.mem_singleton.1 hy]; exact ⟨hi, key, hk, hkl⟩
def fUp (f : JF) (ids : List Bs) (k : Nat) : JF := fun x => if x ∈ ids.take k then f x else none
theorem fUp_zero (f : JF) (ids : List Bs) : fUp f ids 0 = fun _ => none := by funext x; simp [fUp]
theorem fUp_step (f : JF) (ids : List Bs) (k : Nat) (hk : k < ids.length) (id S : Bs) (hid : ids[k] = id) (hS : f id = some S) : jset (fUp f ids k) id (some S) = fUp f ids (k + 1) := by
 funext x
 unfold jset fUp; rw [List.take_succ_eq_append_getElem hk, hid]
 by_cases hx : x = id
 · subst hx; rw [if_pos rfl, if_pos (by simp), hS]
 · rw [if_neg hx]; simp [hx]
theorem fUp_all {f : JF} {ids : List Bs} (hi : IdsOf f ids) : fUp f ids ids.length = f := by
 funext x
 unfold fUp; rw [List.take_length]
 by_cases hx : x ∈ ids
 · rw [if_pos hx]
 · rw [if_neg hx]; have h := mt (hi.mem x).2 hx
   cases hf : f x with
   | none => rfl
   | some S => rw [hf] at h; exact absurd rfl h
def entV (f : JF) (id : Bs) : EntV := ⟨(keyEnc id).1, false, (f id).getD []⟩
theorem ent_flat (f : JF) : ∀ ids : List Bs, ids.flatMap (entOf f) = (ids.map (entV f)).flatMap ecells
  | [] => rfl
  | id :: t => by
    rw [List.flatMap_cons, List.map_cons, List.flatMap_cons, ent_flat f t]
    rfl

end Go.Proofs.Ytmpehoebgifmnaa
namespace Go.Proofs.Ytmpehoebgifmnaa
open Go.RowKit

theorem St.freezeEnts {W0 w : World} {K : Know} {L : List Res} {v : Value} {T : TypeId} {f : JF} {ids : List Bs} (h : St W0 w K (.row v T 3 ids.length (ids.flatMap (entOf f)) :: L)) : St W0 w (K.and (Know.flat RJE v 3 (ids.map (entV f)))) L := by
 have h2 : St W0 w K (.row v T 3 (ids.map (entV f)).length ((ids.map (entV f)).flatMap ecells) :: L) := by rw [List.length_map, ← ent_flat]; exact h
 exact h2.freezeRow (R := RJE) (f := ecells) (fun x _ => ⟨rfl, rfl⟩)
theorem ent_at {f : JF} {ids : List Bs} (k : Nat) (hk : k < ids.length) {id key S : Bs} (hid : ids[k] = id) (hke : keyEnc id = (key, 0)) (hf : f id = some S) : (ids.map (entV f))[k]'(by rw [List.length_map]; exact hk) = ⟨key, false, S⟩ := by
 rw [List.getElem_map, hid]; unfold entV; rw [hke, hf]
 rfl
theorem kns_nil (K : Know) : K.has (Know.kns (.slice none 0 0) []) := fun _ _ _ => ⟨⟨Option.none, 0, rfl, fun h => absurd h (by simp)⟩, fun x hx => by cases hx⟩
theorem kout_ht {K : Know} {v : Value} {l : List KnR} {id : Bs} {p e t s u st : Int} {lr : List (TopS × Value)} {qt : Option Addr} {capt : Nat} (hk : K.has (Know.kns v l)) {x : KnR} (hx : x ∈ kout l id ++ [(⟨id, p, e, t, s, u, st, lr, qt, capt⟩ : KnR)]) : (K.and (Know.tops (.slice qt lr.length capt) lr)).has (Know.tops (.slice x.q x.tl.length x.cap) x.tl) := by
 rcases List.mem_append.1 hx with hx | hx
 · exact Know.has_trans (Know.has_left (Know.has_refl _)) (kns_tops hk (kout_mem.1 hx).1)
 · rw [List.mem_singleton.1 hx]; exact Know.has_right (Know.has_refl _)
theorem all_put {f : JF} {l l2 : List KnR} {id d key : Bs} {p e t s u st : Int} {lr : List (TopS × Value)} {tops : List TopS} {qt : Option Addr} {capt : Nat} (h : AllOk f l) (h2 : kout l id ++ [(⟨id, p, e, t, s, u, st, lr, qt, capt⟩ : KnR)] = l2) (hn : (kout l id).length < 60) (hd : d.length ≤ 1000) (hv : valDec d = (⟨p, e, t, s, tops, u, st⟩, 0)) (hlr : lr.map (·.1) = tops) (hi : id.length ≤ 1000) (hk : keyRd key = (id, 0)) (hkl : key.length ≤ 1000) : AllOk (jset f id (some d)) l2 := by
 subst h2; subst hlr; exact h.put ⟨id, p, e, t, s, u, st, lr, qt, capt⟩ d key hn hd hv hi hk hkl

end Go.Proofs.Ytmpehoebgifmnaa
namespace Go.Proofs.Ytmpehoebgifmnaa
open Go.RowKit

set_option maxHeartbeats 4000000 in
set_option maxRecDepth 100000 in
theorem law15_without (l : List KnR) (q : Option Addr) (cap : Nat) (id : Bs) (hl : l.length ≤ 1000) {W0 w : World} {K : Know} {L : List Res} (hk : K.has (Know.kns (.slice q l.length cap) l)) (h : St W0 w K L) :
  Calls Try.prog 8 #[.slice q l.length cap, .string (bb id)] w fun en w' => ∃ v, en = .returned v ∧ St W0 w' K (.row v 71 8 (kout l id).length ((kout l id).flatMap kcells) :: L) := by
 have H := Lib.hid h; have HK := Lib.hid hk; have hli : (l.length : Int) ≤ 1000 := by omega
 have HLL := Lib.hid hl; have HN := Lib.hid (h.nilRow 71 8); clear h hk hl; go_enter Try.func8, Try.ntmps8; go_wp2; go_loopw [10, 5] (fun iv lv wr => ∃ (k n : Nat) (xs : List Value), k ≤ l.length ∧ iv = .int .i64 k ∧ Hid ((kout (l.take k) id).length = n ∧ (kout (l.take k) id).flatMap kcells = xs) ∧ St W0 wr K (.row lv 71 8 n xs :: L)) (fun iv _ _ => l.length - (intOf iv).toNat)
 case atStart => exact ⟨0, 0, [], Nat.zero_le _, rfl, Lib.hid ⟨rfl, rfl⟩, HN.out⟩
 case round =>
  obtain ⟨k, n, xs, hkl, rfl, HX, hst⟩ := hrel; obtain ⟨lq, lcap, rfl⟩ := hst.rowAny; clear H HN; have H := Lib.hid hst; clear hst
  by_cases hlt : k < l.length
  · obtain ⟨b, off, hq⟩ := kns_at HK.out H.out (by omega); subst hq; obtain ⟨x, hx⟩ : ∃ x, l[k] = x := ⟨_, rfl⟩; have hcell := kns_cell HK.out H.out k hlt x hx; have hstep := kout_step l id k hlt x hx; have hlen := kout_le (l.take k) id; rw [List.length_take] at hlen; have hlen2 : n ≤ 1000 := by have := HLL.out; have := HX.out.1; omega
    have HN2 := Lib.hid hlen2; obtain ⟨kid, p, e, t, s, u, st, tl, xq, xcap⟩ := x; obtain ⟨c0, c1, c2, c3, c4, c5, c6, c7⟩ := hcell; obtain ⟨kb, hkb⟩ : ∃ b, wr.heap.size = b := ⟨_, rfl⟩; have g1 := H.out.allocRaw #[.string (bb kid), .int .i64 p, .int .i64 e, .int .i64 t, .int .i64 s, .slice xq tl.length xcap, .int .i64 u, .int .i64 st] 71; rw [hkb] at g1; have d0 := (g1).rawCell 0; have d1 := (g1).rawCell 1; have d2 := (g1).rawCell 2; have d3 := (g1).rawCell 3; have d4 := (g1).rawCell 4; have d5 := (g1).rawCell 5; have d6 := (g1).rawCell 6; have d7 := (g1).rawCell 7; simp at d0 d1 d2 d3 d4 d5 d6 d7; have g2 := g1.p1; have hkn : (k : Int) < (l.length : Int) := by omega
    clear H; have H := Lib.hid g2; clear g1 g2 hx hlen hlen2; simp only at hstep c0 c1 c2 c3 c4 c5 c6 c7
    by_cases hid : kid = id
    · subst hid; rw [beq_self_eq_true, if_pos rfl, List.append_nil] at hstep; have HST := Lib.hid hstep; have e1 : (kid == kid) = true := beq_self_eq_true _; have e2 : (kid != kid) = false := by simp
      clear hstep; go_wp2_with fail; go_roundw
      case rel =>
       refine ⟨k + 1, n, xs, hlt, by go_num, Lib.hid ?_, H.out.p1.drop⟩; rw [HST.out]; exact HX.out
      case measure => first | (simp [intOf]; done) | (simp [intOf]; omega)
    · have e1 : (kid == id) = false := by rw [beq_eq_false_iff_ne]; exact hid
      have e2 : (kid != id) = true := by simp [bne, e1]
      rw [e1, if_neg (by simp)] at hstep; have HST := Lib.hid hstep; clear hstep hid; go_wp2_with (at_builtin; refine wpl_app1_st rfl _ _ 26 rfl 71 Try.underlying26 elem_kn _ _ _ rfl H.out [.string (bb kid), .int .i64 p, .int .i64 e, .int .i64 t, .int .i64 s, .slice xq tl.length xcap, .int .i64 u, .int .i64 st] 71 (by first | rfl | (rw [World.size_alloc]; rfl) | (rw [World.size_alloc, hkb]; rfl)) rfl (by simp [Value.oneCell']) (by have := HN2.out; unfold maxLen; omega) (by have := HN2.out; omega) ?_; intro v' w' h; obtain ⟨qv, cv, hv⟩ := h.rowAny; subst hv; replace H := Lib.hid h; clear h); go_roundw
      case rel =>
       refine ⟨k + 1, n + 1, xs ++ [.string (bb kid), .int .i64 p, .int .i64 e, .int .i64 t, .int .i64 s, .slice xq tl.length xcap, .int .i64 u, .int .i64 st], hlt, by go_num, Lib.hid ?_, H.out.p1.drop⟩; rw [HST.out, List.length_append, List.flatMap_append, HX.out.1, HX.out.2]; exact ⟨rfl, rfl⟩
      case measure => first | (simp [intOf]; done) | (simp [intOf]; omega)
  · obtain rfl : k = l.length := by omega
    have hx := HX.out; rw [List.take_length] at hx; obtain ⟨rfl, rfl⟩ := hx; go_wp2_with fail; go_ret; exact ⟨_, rfl, H.out⟩

end Go.Proofs.Ytmpehoebgifmnaa
namespace Go.Proofs.Ytmpehoebgifmnaa
open Go.RowKit

theorem buildKN (id : Bs) (p e t s : Int) (sl : Value) (u st : Int) (w : World) : (Instr.buildSlice 26 1 #[(0, .agg #[.string (bb id), .int .i64 p, .int .i64 e, .int .i64 t, .int .i64 s, sl, .int .i64 u, .int .i64 st])]).run Try.prog w = .ok (.slice (some ⟨w.heap.size, 0, none⟩) 1 1) (w.alloc (.cells #[.string (bb id), .int .i64 p, .int .i64 e, .int .i64 t, .int .i64 s, sl, .int .i64 u, .int .i64 st] 71 (0, 0))) := by go_simp
theorem exec_buildKN {o : Oper} {ρ : Operand → Value} (ps : Array (Nat × Value)) (v : Value) (w w' : World) (ho : execOp ρ o = (do pure (Next.value (← Instr.buildSlice 26 1 ps)))) (hb : (Instr.buildSlice 26 1 ps).run Try.prog w = .ok v w') : (execOp ρ o).run Try.prog w = .ok (.value v) w' := by
 rw [ho]; simp [hb]
set_option maxHeartbeats 4000000 in
set_option maxRecDepth 100000 in
theorem law15_with (l : List KnR) (q : Option Addr) (cap : Nat) (id : Bs) (p e t s u st : Int) (tl : List (TopS × Value)) (xq : Option Addr) (xcap : Nat) (hl : l.length ≤ 1000) {W0 w : World} {K : Know} {L : List Res} (hk : K.has (Know.kns (.slice q l.length cap) l)) (h : St W0 w K L) :
  Calls Try.prog 10 #[.slice q l.length cap, .string (bb id), .agg #[.int .i64 p, .int .i64 e, .int .i64 t, .int .i64 s, .slice xq tl.length xcap, .int .i64 u, .int .i64 st]] w fun en w' => ∃ v, en = .returned v ∧ St W0 w' K (.row v 71 8 ((kout l id).length + 1) ((kout l id).flatMap kcells ++ [.string (bb id), .int .i64 p, .int .i64 e, .int .i64 t, .int .i64 s, .slice xq tl.length xcap, .int .i64 u, .int .i64 st]) :: L) := by
 obtain ⟨vb, hvb⟩ : ∃ b, w.heap.size = b := ⟨_, rfl⟩; have g1 := h.allocRaw #[.int .i64 p, .int .i64 e, .int .i64 t, .int .i64 s, .slice xq tl.length xcap, .int .i64 u, .int .i64 st] 37; rw [hvb] at g1; have H := Lib.hid g1; have HK := Lib.hid hk; have HLL := Lib.hid hl; have HN := Lib.hid (show (kout l id).length ≤ 1000 from Nat.le_trans (kout_le l id) hl)
 have HKP := Lib.hid (show ∀ (L' : List Res) (K' : Know) w', St W0 w' K' (.raw vb #[.int .i64 p, .int .i64 e, .int .i64 t, .int .i64 s, .slice xq tl.length xcap, .int .i64 u, .int .i64 st] 37 :: L') → (w'.cell? ⟨vb, 0, none⟩ = some (.int .i64 p) ∧ w'.cell? ⟨vb, 1, none⟩ = some (.int .i64 e) ∧ w'.cell? ⟨vb, 2, none⟩ = some (.int .i64 t) ∧ w'.cell? ⟨vb, 3, none⟩ = some (.int .i64 s) ∧ w'.cell? ⟨vb, 4, none⟩ = some (.slice xq tl.length xcap) ∧ w'.cell? ⟨vb, 5, none⟩ = some (.int .i64 u) ∧ w'.cell? ⟨vb, 6, none⟩ = some (.int .i64 st)) from fun L' K' w' hs => by
  have a0 := hs.rawCell 0; have a1 := hs.rawCell 1; have a2 := hs.rawCell 2; have a3 := hs.rawCell 3; have a4 := hs.rawCell 4; have a5 := hs.rawCell 5; have a6 := hs.rawCell 6; simp at a0 a1 a2 a3 a4 a5 a6
  exact ⟨a0, a1, a2, a3, a4, a5, a6⟩)
 clear h g1 hk hl; go_enter Try.func10, Try.ntmps10; go_upto_region 1 with fail; have hs := H.out.drew; refine wp_region_held_drew (S := fun w' => w'.cell? ⟨vb, 0, none⟩ = some (.int .i64 p) ∧ w'.cell? ⟨vb, 1, none⟩ = some (.int .i64 e) ∧ w'.cell? ⟨vb, 2, none⟩ = some (.int .i64 t) ∧ w'.cell? ⟨vb, 3, none⟩ = some (.int .i64 s) ∧ w'.cell? ⟨vb, 4, none⟩ = some (.slice xq tl.length xcap) ∧ w'.cell? ⟨vb, 5, none⟩ = some (.int .i64 u) ∧ w'.cell? ⟨vb, 6, none⟩ = some (.int .i64 st)) (by kernel_rfl) (HKP.out _ _ _ hs) (fun hHeld => ?_); refine tQ 0 ⟨some 7, .move (.tmp 0), 26, _, _, none⟩ ?_; simp only [Act.put, sA, sB, sC]; refine tQ 1 ⟨some 8, .move (.tmp 1), 9, _, _, none⟩ ?_; simp only [Act.put, sA, sB, sC]; refine tQ 3 ⟨some 10, .move (.tmp 1), 9, _, _, none⟩ ?_; simp only [Act.put, sA, sB, sC]; refine tQ 4 ⟨some 11, .load 37 (.tmp 5), 37, _, _, none⟩ ?_; simp only [Act.put, sA, sB, sC]; refine tQ 5 ⟨some 12, .build 71 #[(0, .tmp 10), (1, .tmp 11)], 71, _, _, none⟩ ?_; simp only [Act.put, sA, sB, sC]; refine wpAnyH_ready (rs := [2, 6]) (by kernel_rfl) (by simp) (AllReadyH.cons (o := ⟨some 9, .call { callee := .value (.func 8), args := #[.tmp 7, .tmp 8], argTypes := #[26, 9] }, 26, _, _, none⟩) rfl (fun KK hK => ?_) (AllReadyH.cons (o := ⟨some 13, .buildSlice 26 1 #[(0, .tmp 12)], 26, _, _, none⟩) rfl (fun KK hK => ?_) AllReadyH.nil))
 focus
  go_simp; go_at_call 8; with_reducible refine (law15_without l q cap id HLL.out HK.out hs).mono ?_; rintro e wq ⟨v, rfl, hs⟩; refine hK.out _ _ (HKP.out _ _ _ hs.p1) (fun hHeld => ?_); clear hK KK
  try simp only [Act.put, sA, sB, sC]
  refine wpAnyH_ready (rs := [6]) (by kernel_rfl) (by simp) (AllReadyH.cons (o := ⟨some 13, .buildSlice 26 1 #[(0, .tmp 12)], 26, _, _, none⟩) rfl (fun KK hK => ?_) AllReadyH.nil); rw [if_pos (by rfl)]; refine op_value (exec_buildKN _ _ _ _ (by kernel_rfl) (buildKN id p e t s (.slice xq tl.length xcap) u st _)) ?_; obtain ⟨wy, b2, ey, eb, hs⟩ := hs.allocEx #[.string (bb id), .int .i64 p, .int .i64 e, .int .i64 t, .int .i64 s, .slice xq tl.length xcap, .int .i64 u, .int .i64 st] 71; rw [ey, eb]; clear ey eb; refine hK.out _ _ (HKP.out _ _ _ hs.p2) (fun hHeld => ?_); clear hK KK
  try simp only [Act.put, sA, sB, sC]
  refine wpAnyH_ready (rs := [7]) (by kernel_rfl) (by simp) (AllReadyH.cons (o := ⟨some 14, .call { callee := .builtin .append, args := #[.tmp 9, .tmp 13], argTypes := #[26, 26] }, 26, _, _, none⟩) rfl (fun KK hK => ?_) AllReadyH.nil)
 rotate_left
 focus
  rw [if_pos (by rfl)]; refine op_value (exec_buildKN _ _ _ _ (by kernel_rfl) (buildKN id p e t s (.slice xq tl.length xcap) u st _)) ?_; obtain ⟨wy, b2, ey, eb, hs⟩ := hs.allocEx #[.string (bb id), .int .i64 p, .int .i64 e, .int .i64 t, .int .i64 s, .slice xq tl.length xcap, .int .i64 u, .int .i64 st] 71; rw [ey, eb]; clear ey eb; refine hK.out _ _ (HKP.out _ _ _ hs.p1) (fun hHeld => ?_); clear hK KK
  try simp only [Act.put, sA, sB, sC]
  refine wpAnyH_ready (rs := [2]) (by kernel_rfl) (by simp) (AllReadyH.cons (o := ⟨some 9, .call { callee := .value (.func 8), args := #[.tmp 7, .tmp 8], argTypes := #[26, 9] }, 26, _, _, none⟩) rfl (fun KK hK => ?_) AllReadyH.nil); go_simp; go_at_call 8; with_reducible refine (law15_without l q cap id HLL.out HK.out hs).mono ?_; rintro e wq ⟨v, rfl, hs⟩; refine hK.out _ _ (HKP.out _ _ _ hs.p2) (fun hHeld => ?_); clear hK KK
  try simp only [Act.put, sA, sB, sC]
  refine wpAnyH_ready (rs := [7]) (by kernel_rfl) (by simp) (AllReadyH.cons (o := ⟨some 14, .call { callee := .builtin .append, args := #[.tmp 9, .tmp 13], argTypes := #[26, 26] }, 26, _, _, none⟩) rfl (fun KK hK => ?_) AllReadyH.nil); have hs := hs.p1
 all_goals
  rw [if_pos (by rfl)]; refine op_app1 (.tmp 9) (.tmp 13) 26 rfl 71 Try.underlying26 elem_kn _ _ _ (by rfl) b2 #[.string (bb id), .int .i64 p, .int .i64 e, .int .i64 t, .int .i64 s, .slice xq tl.length xcap, .int .i64 u, .int .i64 st] 71 hs (by rfl) rfl (by simp [Value.oneCell']) (by have := HN.out; unfold maxLen; omega) (by have := HN.out; omega) (fun v' w' h => ?_); have hs := h; clear h; refine hK.out _ _ (HKP.out _ _ _ hs.p1) (fun hHeld => ?_); clear hK KK
  try simp only [Act.put, sA, sB, sC]
  refine tQ 8 ⟨some 6, .assign (.tmp 14), 26, _, _, none⟩ ?_; simp only [Act.put, sA, sB, sC]; refine wpAnyH_done (by kernel_rfl) ?_ _; clear hHeld; go_wp2_with fail; go_ret; exact ⟨_, rfl, hs.p1.drop⟩

end Go.Proofs.Ytmpehoebgifmnaa
namespace Go.Proofs.Ytmpehoebgifmnaa
open Go.RowKit

set_option maxHeartbeats 4000000 in
set_option maxRecDepth 100000 in
theorem law15_find (l : List KnR) (q : Option Addr) (cap : Nat) (id : Bs) (kid : Bs) (p e t s u st : Int) (tl : List (TopS × Value)) (xq : Option Addr) (xcap : Nat) (i : Nat) (hi : i < l.length) (hx : l[i] = ⟨kid, p, e, t, s, u, st, tl, xq, xcap⟩) (hid : kid = id) (hno : ∀ j (h : j < l.length), j < i → (l[j].id == id) = false) (hl : l.length ≤ 1000) {W0 w : World} {K : Know} {L : List Res} (hk : K.has (Know.kns (.slice q l.length cap) l)) (h : St W0 w K L) :
  Calls Try.prog 32 #[.slice q l.length cap, .string (bb id)] w fun en w' => en = .returned (.tuple #[.agg #[.int .i64 p, .int .i64 e, .int .i64 t, .int .i64 s, .slice xq tl.length xcap, .int .i64 u, .int .i64 st], .bool true]) ∧ St W0 w' K L := by
 obtain ⟨rb, hrb⟩ : ∃ b, w.heap.size = b := ⟨_, rfl⟩; have g1 := h.allocRaw #[.int .i64 0, .int .i64 0, .int .i64 0, .int .i64 0, .slice none 0 0, .int .i64 0, .int .i64 0] 37; rw [hrb] at g1; have H := Lib.hid g1; have HK := Lib.hid hk; have HNO := Lib.hid hno; have HXI := Lib.hid hx; have hli : (l.length : Int) ≤ 1000 := by omega
 have hii : (i : Int) < (l.length : Int) := by omega
 subst hid; clear h g1 hk hl hx hno; go_enter Try.func32, Try.ntmps32; go_wp2; go_loopw [10] (fun iv wr => ∃ k : Nat, k ≤ i ∧ iv = .int .i64 k ∧ St W0 wr K (.raw rb #[.int .i64 0, .int .i64 0, .int .i64 0, .int .i64 0, .slice none 0 0, .int .i64 0, .int .i64 0] 37 :: L)) (fun iv _ => l.length - (intOf iv).toNat)
 case atStart => exact ⟨0, Nat.zero_le _, rfl, H.out⟩
 case round =>
  obtain ⟨k, hki, rfl, hst⟩ := hrel; clear H; have hlt : k < l.length := by omega
  obtain ⟨b, off, hq⟩ := kns_at HK.out hst (by omega); subst hq; obtain ⟨kb, hkb⟩ : ∃ b, wr.heap.size = b := ⟨_, rfl⟩; have hkn : (k : Int) < (l.length : Int) := by omega
  by_cases hkk : k = i
  · subst hkk; obtain ⟨c0, c1, c2, c3, c4, c5, c6, c7⟩ := kns_cell HK.out hst k hlt _ HXI.out; simp only at c0 c1 c2 c3 c4 c5 c6 c7; have g1 := hst.allocRaw #[.string (bb kid), .int .i64 p, .int .i64 e, .int .i64 t, .int .i64 s, .slice xq tl.length xcap, .int .i64 u, .int .i64 st] 71; rw [hkb] at g1; have d0 := (g1).rawCell 0; have d1 := (g1).rawCell 1; have d2 := (g1).rawCell 2; have d3 := (g1).rawCell 3; have d4 := (g1).rawCell 4; have d5 := (g1).rawCell 5; have d6 := (g1).rawCell 6; have d7 := (g1).rawCell 7; simp at d0 d1 d2 d3 d4 d5 d6 d7; have x0 := (g1.p1).rawCell 0; have x1 := (g1.p1).rawCell 1; have x2 := (g1.p1).rawCell 2; have x3 := (g1.p1).rawCell 3; have x4 := (g1.p1).rawCell 4; have x5 := (g1.p1).rawCell 5; have x6 := (g1.p1).rawCell 6; simp at x0 x1 x2 x3 x4 x5 x6; have r0 := (g1.p1).rawFree 0; have r1 := (g1.p1).rawFree 1; have r2 := (g1.p1).rawFree 2; have r3 := (g1.p1).rawFree 3; have r4 := (g1.p1).rawFree 4; have r5 := (g1.p1).rawFree 5; have r6 := (g1.p1).rawFree 6; have e1 : (kid == kid) = true := beq_self_eq_true _; have H := Lib.hid g1.p1; clear hst g1; go_wp2_with fail; have hz : St W0 _ K (.raw rb #[.int .i64 p, .int .i64 e, .int .i64 t, .int .i64 s, .slice xq tl.length xcap, .int .i64 u, .int .i64 st] 37 :: _) := St.sets7 _ _ _ _ _ _ _ H.out; refine bodyPost_ret (rc_cell_tmp rfl _ _ rb [.int .i64 p, .int .i64 e, .int .i64 t, .int .i64 s, .slice xq tl.length xcap, .int .i64 u, .int .i64 st] _ rfl (rc_range hz) Try.underlying37 rfl (by kernel_rfl)) rfl ?_; exact ⟨rfl, hz.drop.drop⟩
  · obtain ⟨x, hx⟩ : ∃ x, l[k] = x := ⟨_, rfl⟩; have hne := HNO.out k hlt (by omega); obtain ⟨c0, c1, c2, c3, c4, c5, c6, c7⟩ := kns_cell HK.out hst k hlt x hx; rw [hx] at hne; obtain ⟨xid, xp, xe, xt, xs, xu, xst, xtl, xxq, xxcap⟩ := x; simp only at c0 c1 c2 c3 c4 c5 c6 c7 hne; have g1 := hst.allocRaw #[.string (bb xid), .int .i64 xp, .int .i64 xe, .int .i64 xt, .int .i64 xs, .slice xxq xtl.length xxcap, .int .i64 xu, .int .i64 xst] 71; rw [hkb] at g1; have d0 := (g1).rawCell 0; have d1 := (g1).rawCell 1; have d2 := (g1).rawCell 2; have d3 := (g1).rawCell 3; have d4 := (g1).rawCell 4; have d5 := (g1).rawCell 5; have d6 := (g1).rawCell 6; have d7 := (g1).rawCell 7; simp at d0 d1 d2 d3 d4 d5 d6 d7; have H := Lib.hid g1.p1; clear hst g1 hx; go_wp2_with fail; go_roundw
    case rel => exact ⟨k + 1, by omega, by go_num, H.out.p1.drop⟩
    case measure => first | (simp [intOf]; done) | (simp [intOf]; omega)

end Go.Proofs.Ytmpehoebgifmnaa
