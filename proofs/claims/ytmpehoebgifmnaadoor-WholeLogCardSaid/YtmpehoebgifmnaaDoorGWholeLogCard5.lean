/- Whether two rows of topics are one. -/
import Derived.Shelf.SlIter.Nil
import Derived.Shelf.SortM.Plain
import Derived.Shelf.SortM.SortNone
import Derived.Ground.GgzProg
import Derived.Ground.SlgmProg
import Derived.Sort.KeysCollected
import Derived.Test.YtmpehoebgifmnaaDoorJn1
import Derived.Test.YtmpehoebgifmnaaDoorGWholeLogCard3
import Derived.Test.YtmpehoebgifmnaaDoorRef04
import Derived.Test.YtmpehoebgifmnaaDoorS1
import Derived.Test.YtmpehoebgifmnaaDoorVBack
import Derived.Test.YtmpehoebgifmnaaDoorBlobP
import Derived.Deep.RegionHeld3
import Derived.BigQuiet
import Derived.Test.YtmpehoebgifmnaaDoorSep
import Derived.Deep.MidRow
import Derived.Test.YtmpehoebgifmnaaDoorGrow
import Derived.Deep.DeepCutAuto
import Derived.RegionTactic
import Derived.Test.YtmpehoebgifmnaaDoorGWholeLogCard4
import Derived.Test.YtmpehoebgifmnaaDoorRef06
/- The names, rising. -/
namespace Go.Proofs
open Go.RowKit Go.Maps Go.Sort Go.Shelf

def Tryd.keys25_ren : Go.Shelf.Ren := ⟨fun | 7 => 25 | 10 => 42 | n => n, fun | 23 => 55 | 26 => 9 | 3 => 9 | 28 => 73 | 0 => 0 | 27 => 72 | 33 => 76 | 4 => 4 | n => n, fun | n => n⟩
theorem Tryd.keys25 : Go.Proofs.SlLaysZ.n7 Tryd.prog Tryd.keys25_ren := {
  mixed := by kernel_rfl
  f7 := ⟨Tryd.f25.name, by decide, Tryd.func25.trans (congrArg some (by kernel_rfl))⟩
  f10 := ⟨Tryd.f42.name, by decide, Tryd.func42.trans (congrArg some (by kernel_rfl))⟩
  t0 := Tryd.underlying0
  a0 := Tryd.isAgg0
  z0 := Tryd.sizeOf0
  v0 := Tryd.zeroValue0
  t4 := Tryd.underlying4
  a4 := Tryd.isAgg4
  z4 := Tryd.sizeOf4
  v4 := Tryd.zeroValue4
  t23 := Tryd.underlying55
  a23 := Tryd.isAgg55
  z23 := Tryd.sizeOf55
  v23 := Tryd.zeroValue55
  t26 := Tryd.underlying9
  a26 := Tryd.isAgg9
  z26 := Tryd.sizeOf9
  v26 := Tryd.zeroValue9
  t27 := Tryd.underlying72
  a27 := Tryd.isAgg72
  z27 := Tryd.sizeOf72
  v27 := Tryd.zeroValue72
  t28 := Tryd.underlying73
  a28 := Tryd.isAgg73
  z28 := Tryd.sizeOf73
  v28 := Tryd.zeroValue73
  t33 := Tryd.underlying76
  a33 := Tryd.isAgg76
  z33 := Tryd.sizeOf76
  v33 := Tryd.zeroValue76 }
def Tryd.sorted24_ren : Go.Shelf.Ren := ⟨fun | 6 => 24 | 8 => 40 | 9 => 41 | 11 => 55 | 13 => 57 | 12 => 56 | 23 => 75 | 24 => 76 | 14 => 66 | 15 => 67 | 16 => 68 | 17 => 69 | 18 => 70 | 19 => 71 | 20 => 72 | 21 => 73 | 22 => 74 | 25 => 79 | 26 => 80 | 27 => 81 | 28 => 82 | 29 => 83 | 30 => 84 | 31 => 85 | n => n, fun | 26 => 9 | 28 => 73 | 24 => 47 | 0 => 0 | 3 => 3 | 37 => 105 | 48 => 128 | 50 => 130 | 4 => 4 | 40 => 120 | 39 => 119 | 45 => 125 | 5 => 5 | 9 => 9 | 51 => 132 | 55 => 136 | 57 => 138 | 58 => 139 | 33 => 76 | n => n, fun | n => n⟩
theorem Tryd.sorted24 : Go.Proofs.SlLaysZ.n6 Tryd.prog Tryd.sorted24_ren := {
  mixed := by kernel_rfl
  f6 := ⟨Tryd.f24.name, by decide, Tryd.func24.trans (congrArg some (by kernel_rfl))⟩
  f8 := ⟨Tryd.f40.name, by decide, Tryd.func40.trans (congrArg some (by kernel_rfl))⟩
  f11 := ⟨Tryd.f55.name, by decide, Tryd.func55.trans (congrArg some (by kernel_rfl))⟩
  t0 := Tryd.underlying0
  a0 := Tryd.isAgg0
  z0 := Tryd.sizeOf0
  v0 := Tryd.zeroValue0
  t24 := Tryd.underlying47
  a24 := Tryd.isAgg47
  z24 := Tryd.sizeOf47
  v24 := Tryd.zeroValue47
  t26 := Tryd.underlying9
  a26 := Tryd.isAgg9
  z26 := Tryd.sizeOf9
  v26 := Tryd.zeroValue9
  t28 := Tryd.underlying73
  a28 := Tryd.isAgg73
  z28 := Tryd.sizeOf73
  v28 := Tryd.zeroValue73
  i26 := by kernel_rfl }
def Tryd.sort41_ren : Go.Shelf.Ren := ⟨fun | 6 => 41 | 8 => 57 | 9 => 56 | 19 => 75 | 20 => 76 | 21 => 66 | 22 => 67 | 23 => 68 | 24 => 69 | 25 => 70 | 26 => 71 | 27 => 72 | 28 => 73 | 29 => 74 | 36 => 79 | 31 => 80 | 32 => 81 | 37 => 82 | 38 => 83 | 39 => 84 | 41 => 85 | n => n, fun | 27 => 47 | 29 => 9 | 3 => 3 | 32 => 105 | 26 => 47 | 0 => 0 | 44 => 128 | 46 => 130 | 4 => 4 | 36 => 120 | 35 => 119 | 41 => 125 | 5 => 5 | 9 => 9 | 53 => 132 | 57 => 136 | 63 => 138 | 64 => 139 | n => n, fun | n => n⟩
theorem Tryd.sort41 : Go.Proofs.SlLaysM.n6 Tryd.prog Tryd.sort41_ren := {
  mixed := by kernel_rfl
  f6 := ⟨Tryd.f41.name, by decide, Tryd.func41.trans (congrArg some (by kernel_rfl))⟩
  f8 := Tryd.func57.trans (congrArg some (by kernel_rfl))
  f9 := ⟨Tryd.f56.name, by decide, Tryd.func56.trans (congrArg some (by kernel_rfl))⟩
  f19 := Tryd.func75.trans (congrArg some (by kernel_rfl))
  f20 := Tryd.func76.trans (congrArg some (by kernel_rfl))
  f21 := ⟨Tryd.f66.name, by decide, Tryd.func66.trans (congrArg some (by kernel_rfl))⟩
  f22 := ⟨Tryd.f67.name, by decide, Tryd.func67.trans (congrArg some (by kernel_rfl))⟩
  f23 := ⟨Tryd.f68.name, by decide, Tryd.func68.trans (congrArg some (by kernel_rfl))⟩
  f24 := ⟨Tryd.f69.name, by decide, Tryd.func69.trans (congrArg some (by kernel_rfl))⟩
  f25 := ⟨Tryd.f70.name, by decide, Tryd.func70.trans (congrArg some (by kernel_rfl))⟩
  f26 := ⟨Tryd.f71.name, by decide, Tryd.func71.trans (congrArg some (by kernel_rfl))⟩
  f27 := ⟨Tryd.f72.name, by decide, Tryd.func72.trans (congrArg some (by kernel_rfl))⟩
  f28 := ⟨Tryd.f73.name, by decide, Tryd.func73.trans (congrArg some (by kernel_rfl))⟩
  f29 := ⟨Tryd.f74.name, by decide, Tryd.func74.trans (congrArg some (by kernel_rfl))⟩
  f31 := Tryd.func80.trans (congrArg some (by kernel_rfl))
  f32 := Tryd.func81.trans (congrArg some (by kernel_rfl))
  f36 := ⟨Tryd.f79.name, by decide, Tryd.func79.trans (congrArg some (by kernel_rfl))⟩
  f37 := ⟨Tryd.f82.name, by decide, Tryd.func82.trans (congrArg some (by kernel_rfl))⟩
  f38 := ⟨Tryd.f83.name, by decide, Tryd.func83.trans (congrArg some (by kernel_rfl))⟩
  f39 := ⟨Tryd.f84.name, by decide, Tryd.func84.trans (congrArg some (by kernel_rfl))⟩
  f41 := ⟨Tryd.f85.name, by decide, Tryd.func85.trans (congrArg some (by kernel_rfl))⟩
  t0 := Tryd.underlying0
  a0 := Tryd.isAgg0
  z0 := Tryd.sizeOf0
  v0 := Tryd.zeroValue0
  t3 := Tryd.underlying3
  a3 := Tryd.isAgg3
  z3 := Tryd.sizeOf3
  v3 := Tryd.zeroValue3
  t4 := Tryd.underlying4
  a4 := Tryd.isAgg4
  z4 := Tryd.sizeOf4
  v4 := Tryd.zeroValue4
  t5 := Tryd.underlying5
  a5 := Tryd.isAgg5
  z5 := Tryd.sizeOf5
  v5 := Tryd.zeroValue5
  t9 := Tryd.underlying9
  a9 := Tryd.isAgg9
  z9 := Tryd.sizeOf9
  v9 := Tryd.zeroValue9
  t26 := Tryd.underlying47
  a26 := Tryd.isAgg47
  z26 := Tryd.sizeOf47
  v26 := Tryd.zeroValue47
  t27 := Tryd.underlying47
  a27 := Tryd.isAgg47
  z27 := Tryd.sizeOf47
  v27 := Tryd.zeroValue47
  t29 := Tryd.underlying9
  a29 := Tryd.isAgg9
  z29 := Tryd.sizeOf9
  v29 := Tryd.zeroValue9
  t32 := Tryd.underlying105
  a32 := Tryd.isAgg105
  z32 := Tryd.sizeOf105
  v32 := Tryd.zeroValue105
  t35 := Tryd.underlying119
  a35 := Tryd.isAgg119
  z35 := Tryd.sizeOf119
  v35 := Tryd.zeroValue119
  t36 := Tryd.underlying120
  a36 := Tryd.isAgg120
  z36 := Tryd.sizeOf120
  v36 := Tryd.zeroValue120
  t41 := Tryd.underlying125
  a41 := Tryd.isAgg125
  z41 := Tryd.sizeOf125
  v41 := Tryd.zeroValue125
  t44 := Tryd.underlying128
  a44 := Tryd.isAgg128
  z44 := Tryd.sizeOf128
  v44 := Tryd.zeroValue128
  t46 := Tryd.underlying130
  a46 := Tryd.isAgg130
  z46 := Tryd.sizeOf130
  v46 := Tryd.zeroValue130
  t53 := Tryd.underlying132
  a53 := Tryd.isAgg132
  z53 := Tryd.sizeOf132
  v53 := Tryd.zeroValue132
  t57 := Tryd.underlying136
  a57 := Tryd.isAgg136
  z57 := Tryd.sizeOf136
  v57 := Tryd.zeroValue136
  t63 := Tryd.underlying138
  a63 := Tryd.isAgg138
  z63 := Tryd.sizeOf138
  v63 := Tryd.zeroValue138
  t64 := Tryd.underlying139
  a64 := Tryd.isAgg139
  z64 := Tryd.sizeOf139
  v64 := Tryd.zeroValue139 }

theorem Tryd.sorts24 (m : Nat) : AnyZ.SortsIn Tryd.prog Tryd.sorted24_ren Fence.wide m :=
  ⟨fun blk off cap ss W hH hblk hsz => callsIn_wide.2 (AnyM.slices_Sort_string Tryd.sort41 blk off cap ss W hH hblk hsz),
   fun p cap W => callsIn_wide.2 (AnyM.slices_Sort_string_none Tryd.sort41 p cap W)⟩

theorem Tryd.maps_Keys_25 (mb : Option Nat) (W : World) : CallsIn Fence.wide 5 Tryd.prog 25 #[.map mb] W fun e w' => e = .returned (.func (.func 42) #[] #[.pointer (some ⟨W.heap.size, 0, none⟩)]) ∧ w' = W.alloc (.cells #[.map mb] 55) :=
  AnyZ.keys_in Tryd.keys25 Fence.wide 5 trivial rfl mb W

set_option maxHeartbeats 1000000 in
theorem Tryd.slices_Sorted_keys_24_25 {H : Type} (b nn : Nat) (D0 : DataW H) (R : Value → Option (DataW H × List MemPlace)) (w : World) (hown : w.ownsMap Tryd.prog 9 R b nn D0) (hmax : Maps.size D0 ≤ maxLen) (hbytes : Maps.size D0 * 16 ≤ 140737488355328) :
    CallsIn Fence.wide 5 Tryd.prog 24 #[.func (.func 42) #[] #[.pointer (some ⟨w.heap.size, 0, none⟩)]] (w.alloc (.cells #[.map (some b)] 55)) fun e w' => ∃ (v : Value) (ss : List (List UInt8)), e = .returned v ∧ ss.Perm (strKeys D0) ∧
      w'.ownsRow (w.alloc (.cells #[.map (some b)] 55)).heap.size 9 1 v ss.length ((ss.mergeSort (fun x y => decide (x ≤ y))).map encStr) ∧ (v = .slice none 0 0 ↔ ss = []) ∧ Below (w.alloc (.cells #[.map (some b)] 55)).heap.size (w.alloc (.cells #[.map (some b)] 55)) w' := by
  have hbl := hown.lt
  have hseq : SeqGives Fence.wide 2 Tryd.prog 42 #[.pointer (some ⟨w.heap.size, 0, none⟩)] encStr (fun ss => ss.Perm (strKeys D0)) (Maps.size D0) (w.alloc (.cells #[.map (some b)] 55)) :=
    AnyZ.keys_gives (ρ := Tryd.keys25_ren) { Tryd.keys25 with } Fence.wide _ trivial rfl (by omega) w.heap.size b nn D0 _ (by simp) (by simp) (by
      obtain ⟨es, clock, hb, Ft, hs, hD⟩ := hown
      exact ⟨es, clock, (Below.heap_alloc _ _ b hbl).trans hb, Ft, hs, hD⟩)
  exact AnyZ.sorted_in Tryd.sorted24 Fence.wide 5 trivial trivial trivial trivial rfl (by omega) (Tryd.sorts24 _) (enters_of Tryd.func41 (by kernel_rfl) rfl) 42 #[.pointer (some ⟨w.heap.size, 0, none⟩)] trivial (enters_of Tryd.func42 (by kernel_rfl) rfl) _ _ hmax hbytes _ hseq


end Go.Proofs
namespace Go.Proofs.YtmpehoebgifmnaaDoor
open Go.RowKit Go.Shelf

theorem jr_keys (mb : Option Nat) (W : World) : Calls Tryd.prog 25 #[.map mb] W fun e w' => e = .returned (.func (.func 42) #[] #[.pointer (some ⟨W.heap.size, 0, none⟩)]) ∧ w' = W.alloc (.cells #[.map mb] 55) :=
  callsIn_wide.1 (Tryd.maps_Keys_25 mb W)
theorem mem_strKeys {w : World} {b n : Nat} {D : DataW Unit} (h : World.ownsMap w Tryd.prog 9 (plainElem (H := Unit) Tryd.prog 9) b n D) (x : Bs) : x ∈ strKeys D ↔ Maps.has D (.string x) = true := by
  obtain ⟨es, rfl, hko⟩ := h.keysOf
  rw [Maps.has_eq, List.any_eq_true]
  show x ∈ es.map (fun p => strOf p.1) ↔ _
  rw [List.mem_map]
  constructor
  · rintro ⟨p, hp, hx⟩
    obtain ⟨v, hv⟩ := hko p hp
    obtain ⟨a, _, ha, _⟩ := Maps.keyOf_str (by kernel_rfl) hv
    rw [ha] at hx
    exact ⟨p, hp, by rw [ha]; simpa [Lit.sameKey, strOf] using hx⟩
  · rintro ⟨p, hp, hx⟩
    obtain ⟨v, hv⟩ := hko p hp
    obtain ⟨a, _, ha, _⟩ := Maps.keyOf_str (by kernel_rfl) hv
    rw [ha] at hx
    exact ⟨p, hp, by rw [ha]; simpa [Lit.sameKey, strOf] using hx⟩
theorem nodup_strKeys {w : World} {b n : Nat} {D : DataW Unit} (h : World.ownsMap w Tryd.prog 9 (plainElem (H := Unit) Tryd.prog 9) b n D) : (strKeys D).Nodup := by
  obtain ⟨es, he, hp⟩ := h.tidy keyedS
  obtain ⟨es', he', hko⟩ := h.keysOf
  rw [he] at he'
  injection he' with he'
  subst he'
  subst he
  refine List.pairwise_map.2 (hp.imp_of_mem fun {p q} hp' hq' hne e => hne ?_)
  obtain ⟨v, hv⟩ := hko p hp'
  obtain ⟨u, hu⟩ := hko q hq'
  obtain ⟨a, _, ha, _⟩ := Maps.keyOf_str (by kernel_rfl) hv
  obtain ⟨c, _, hc, _⟩ := Maps.keyOf_str (by kernel_rfl) hu
  rw [ha, hc] at e ⊢
  exact congrArg _ e
/-- The names of which something is known, rising. -/
structure IdsOf (f : JF) (ids : List Bs) : Prop where
  mem : ∀ x, x ∈ ids ↔ (f x).isSome = true
  nodup : ids.Nodup
  rise : ids.Pairwise (fun x y => x ≤ y)
theorem idsOf_sorted {w : World} {b n : Nat} {D : DataW Unit} {f : JF} (h : World.ownsMap w Tryd.prog 9 (plainElem (H := Unit) Tryd.prog 9) b n D) (hf : ∀ id, look D id = f id) {ss : List Bs} (hp : ss.Perm (strKeys D)) : IdsOf f (ss.mergeSort (fun x y => decide (x ≤ y))) := by
  have tr : ∀ a b c : Bs, decide (a ≤ b) = true → decide (b ≤ c) = true → decide (a ≤ c) = true := fun a b c h1 h2 => by simp only [decide_eq_true_eq] at *; exact List.le_trans h1 h2
  have tot : ∀ a b : Bs, (decide (a ≤ b) || decide (b ≤ a)) = true := fun a b => by simp only [Bool.or_eq_true, decide_eq_true_eq]; exact List.le_total a b
  have hq := List.mergeSort_perm ss (fun x y => decide (x ≤ y))
  refine ⟨fun x => ?_, ?_, ?_⟩
  · rw [(hq.trans hp).mem_iff, mem_strKeys h, ← hf]
    unfold look
    by_cases hh : Maps.has D (.string x) = true
    · rw [if_pos hh]; simp [hh]
    · rw [if_neg hh]; simp [hh]
  · exact (hq.trans hp).nodup_iff.2 (nodup_strKeys h)
  · exact (List.pairwise_mergeSort tr tot ss).imp fun h => by simpa using h
set_option maxHeartbeats 4000000 in
set_option maxRecDepth 100000 in
theorem jr_ids (jb mb n : Nat) (m : Int) (f : JF) (hn : n ≤ 1000000) {W0 w : World} {K : Know} {L : List Res} (h : St W0 w K (.raw jb #[.map (some mb), .int .i64 m] 57 :: .gen (jmap mb n f) :: L)) :
    Calls Tryd.prog 13 #[.pointer (some ⟨jb, 0, none⟩)] w fun en w' => ∃ (v : Value) (ids : List Bs), en = .returned v ∧ IdsOf f ids ∧ St W0 w' K (.row v 9 1 ids.length (ids.map encStr) :: .raw jb #[.map (some mb), .int .i64 m] 57 :: .gen (jmap mb n f) :: L) := by
  have c0 := h.rawCell 0
  simp at c0
  obtain ⟨D, h1, h2⟩ := h.p1.jget
  have hsz := h1.size_le
  have hc := callsIn_wide.1 (Tryd.slices_Sorted_keys_24_25 mb n D _ w h1 (by unfold maxLen; omega) (by omega))
  have H := Lib.hid h
  have HC := Lib.hid hc
  have H1 := Lib.hid h1
  have H2 := Lib.hid h2
  clear h h1 h2 hc
  go_enter Tryd.func13, Tryd.ntmps13
  go_wp2_with (first
    | (go_at_call 25; (with_reducible refine (jr_keys _ _).mono ?_); rintro e_ wn ⟨rfl, rfl⟩)
    | (go_at_call 24; (with_reducible refine (HC.out).mono ?_); rintro e_ wn ⟨v, ss, rfl, hS, hrow, hnil, hb⟩))
  go_ret
  have hk : Keeps (fun _ => False) w _ := ⟨hb.os, hb.tape, hb.output, Nat.le_trans (by simp) hb.size, fun k hk _ => (hb.block k (by simp; omega)).trans (Below.heap_alloc _ _ k hk)⟩
  have hid := idsOf_sorted H1.out H2.out hS
  have hlen : (ss.mergeSort (fun x y => decide (x ≤ y))).length = ss.length := List.length_mergeSort _
  refine ⟨v, _, rfl, hid, ?_⟩
  rw [hlen]
  refine H.out.new (r := .row v 9 1 ss.length ((ss.mergeSort (fun x y => decide (x ≤ y))).map encStr)) (S1 := fun k => v.ownBlock = some k) hk ⟨ownsRow_base_a hrow (Nat.zero_le _), fun k => Iff.rfl⟩ (fun j hj => ?_)
  have h9 := hrow.lt j hj
  exact ⟨Nat.le_trans (by simp) h9.1, h9.2⟩

end Go.Proofs.YtmpehoebgifmnaaDoor
/- How many, by definition (pure). -/
namespace Go.Proofs.YtmpehoebgifmnaaDoor
open Go.RowKit

def cntR (each : Nat) (s : Bs) : Nat × Int := match cntP each s with
  | .ok x => (x.1, 0)
  | .error e => (0, e)
theorem cntR_short {each : Nat} {s : Bs} (h : s.length < 4) : cntR each s = (0, 1) := by
  unfold cntR cntP; rw [if_pos h]
theorem cntR_neg {each : Nat} {s : Bs} (h : ¬ s.length < 4) (h2 : sInt (s.take 4) < 0) : cntR each s = (0, 4) := by
  unfold cntR cntP; rw [if_neg h, if_pos h2]
theorem cntR_more {each : Nat} {s : Bs} (h : ¬ s.length < 4) (h2 : ¬ sInt (s.take 4) < 0) (h3 : ((s.length : Int) - 4) / each < sInt (s.take 4)) : cntR each s = (0, 1) := by
  unfold cntR cntP; rw [if_neg h, if_neg h2, if_pos h3]
theorem cntR_ok {each : Nat} {s : Bs} (h : ¬ s.length < 4) (h2 : ¬ sInt (s.take 4) < 0) (h3 : ¬ ((s.length : Int) - 4) / each < sInt (s.take 4)) : cntR each s = ((sInt (s.take 4)).toNat, 0) := by
  unfold cntR cntP; rw [if_neg h, if_neg h2, if_neg h3]

end Go.Proofs.YtmpehoebgifmnaaDoor
/- Topics, read by definition (pure). -/
namespace Go.Proofs.YtmpehoebgifmnaaDoor
open Go.RowKit

def topsR (s : Bs) : List TopS × Nat × Int := match topsP s with
  | .ok x => (x.1, x.2, 0)
  | .error e => ([], 0, e)
def stepR (acc : List TopS) (p : Nat) (r : Except Int (List TopS × Nat)) : List TopS × Nat × Int := match r with
  | .ok x => (acc ++ x.1, p + x.2, 0)
  | .error e => ([], 0, e)
theorem cntP_err {each : Nat} {s : Bs} {e : Int} (h : cntP each s = .error e) : e ≠ 0 := by
  unfold cntP at h
  split at h
  · cases h; decide
  · split at h
    · cases h; decide
    · split at h
      · cases h; decide
      · cases h
theorem cntR_zero {each : Nat} {s : Bs} {n : Nat} (he : 0 < each) (h : cntR each s = (n, 0)) : cntP each s = .ok (n, 4) ∧ 4 + each * n ≤ s.length := by
  unfold cntR at h
  cases h1 : cntP each s with
  | error e => rw [h1] at h; cases h; exact absurd rfl (cntP_err h1)
  | ok x =>
    rw [h1] at h
    cases h
    obtain ⟨c1, c2, _, _⟩ := cntP_ok (n := x.1) (k := x.2) he h1
    refine ⟨?_, c2⟩
    rw [← c1]
theorem cntR_bad {each : Nat} {s : Bs} {n : Nat} {e : Int} (h : cntR each s = (n, e)) (h0 : e ≠ 0) : cntP each s = .error e := by
  unfold cntR at h
  cases h1 : cntP each s with
  | error e2 => rw [h1] at h; cases h; rfl
  | ok x => rw [h1] at h; cases h; exact absurd rfl h0
theorem topsR_bad {s : Bs} {n : Nat} {e : Int} (h : cntR 6 s = (n, e)) (h0 : e ≠ 0) : topsR s = ([], 0, e) := by
  unfold topsR topsP
  rw [cntR_bad h h0]
theorem topsR_go {s : Bs} {n : Nat} (h : cntR 6 s = (n, 0)) : topsR s = stepR [] 4 (topN n (s.drop 4)) ∧ 4 + 6 * n ≤ s.length := by
  obtain ⟨h1, h2⟩ := cntR_zero (by decide) h
  refine ⟨?_, h2⟩
  unfold topsR topsP
  rw [h1]
  cases h3 : topN n (s.drop 4) with
  | error e => simp only [h3]; rfl
  | ok y => simp only [h3, stepR, List.nil_append]
theorem stepR_zero (acc : List TopS) (p : Nat) (x : Bs) : stepR acc p (topN 0 x) = (acc, p, 0) := by
  show (acc ++ [], p + 0, (0 : Int)) = _
  rw [List.append_nil]; rfl
theorem stepR_err {acc : List TopS} {p n : Nat} {s : Bs} {e : Int} (h : refixed 2 (s.drop p) = .error e) : stepR acc p (topN (n + 1) (s.drop p)) = ([], 0, e) := by
  unfold topN topP textP
  rw [h]
  rfl
theorem stepR_null {acc : List TopS} {p n : Nat} {s : Bs} {b : BlobS} {k : Nat} (h : refixed 2 (s.drop p) = .ok (b, k)) (hn : b.null = true) : stepR acc p (topN (n + 1) (s.drop p)) = ([], 0, 4) := by
  unfold topN topP textP
  rw [h]
  simp only [hn, if_true]
  rfl
theorem textP_of {t : Bs} {b : BlobS} {k : Nat} (h : refixed 2 t = .ok (b, k)) (hn : b.null = false) : textP t = .ok (b.data, k) := by
  unfold textP
  rw [h]
  simp [hn]
theorem stepR_cnt {acc : List TopS} {p n : Nat} {s : Bs} {b : BlobS} {k m : Nat} {f : Int} (h : refixed 2 (s.drop p) = .ok (b, k)) (hn : b.null = false) (hc : cntR 4 (s.drop (p + k)) = (m, f)) (h0 : f ≠ 0) : stepR acc p (topN (n + 1) (s.drop p)) = ([], 0, f) := by
  unfold topN topP
  rw [textP_of h hn]
  simp only
  rw [List.drop_drop]
  unfold partsP
  rw [cntR_bad hc h0]
  rfl
theorem stepR_next {acc : List TopS} {p n : Nat} {s : Bs} {b : BlobS} {k m : Nat} (h : refixed 2 (s.drop p) = .ok (b, k)) (hn : b.null = false) (hc : cntR 4 (s.drop (p + k)) = (m, 0)) :
    stepR acc p (topN (n + 1) (s.drop p)) = stepR (acc ++ [⟨b.data, intsB m (s.drop (p + k + 4))⟩]) (p + k + 4 + 4 * m) (topN n (s.drop (p + k + 4 + 4 * m))) := by
  obtain ⟨h1, h2⟩ := cntR_zero (by decide) hc
  have e1 : topP (s.drop p) = .ok (⟨b.data, intsB m (s.drop (p + k + 4))⟩, k + (4 + 4 * m)) := by
    unfold topP
    rw [textP_of h hn]
    simp only
    rw [List.drop_drop]
    unfold partsP
    rw [h1]
    simp only
    rw [List.drop_drop]
  have e2 : (s.drop p).drop (k + (4 + 4 * m)) = s.drop (p + k + 4 + 4 * m) := by rw [List.drop_drop]; congr 1; omega
  show stepR acc p (match topP (s.drop p) with | .error e => .error e | .ok x => match topN n ((s.drop p).drop x.2) with | .error e => .error e | .ok y => .ok (x.1 :: y.1, x.2 + y.2)) = _
  rw [e1]
  simp only
  rw [e2]
  cases h3 : topN n (s.drop (p + k + 4 + 4 * m)) with
  | error e => rfl
  | ok y =>
    simp only
    unfold stepR
    simp only [List.append_assoc, List.singleton_append, Prod.mk.injEq, true_and, and_true]
    omega
theorem refixed_le {t : Bs} {b : BlobS} {k : Nat} (h : refixed 2 t = .ok (b, k)) : 2 ≤ k ∧ k ≤ t.length := by
  unfold refixed at h
  split at h
  · cases h
  · unfold gotS at h
    split at h
    · cases h; omega
    · split at h
      · cases h
      · split at h
        · cases h
        · cases h; omega
theorem gotV_errT {t : Bs} {e : Int} (h : refixed 2 t = .error e) : gotV (refixed 2 t) = .agg #[.bool false, .string ⟨#[]⟩, .int .i64 0, .int .i64 e] := by rw [h]; rfl
theorem gotV_okT {t : Bs} {b : BlobS} {k : Nat} (h : refixed 2 t = .ok (b, k)) : gotV (refixed 2 t) = .agg #[.bool b.null, .string (bb b.data), .int .i64 k, .int .i64 0] := by rw [h]; rfl
theorem refixed_err {t : Bs} {e : Int} (h : refixed 2 t = .error e) : e ≠ 0 := by
  unfold refixed at h
  split at h
  · cases h; decide
  · unfold gotS at h
    split at h
    · cases h
    · split at h
      · cases h; decide
      · split at h
        · cases h; decide
        · cases h

end Go.Proofs.YtmpehoebgifmnaaDoor
/- Values: one spelling (pure). -/
namespace Go.Proofs.YtmpehoebgifmnaaDoor
open Go.RowKit

theorem sInt_of_take (s : Bs) (k : Nat) (h : k ≤ s.length) : beBytes (sInt (s.take k)) k = s.take k := by
  have h1 := beBytes_sInt (s.take k)
  rw [List.length_take, Nat.min_eq_left h] at h1
  exact h1
theorem getIntN_one {k : Nat} {s : Bs} {n : Int} {m : Nat} (h : getIntN k s = .ok (n, m)) : m = k ∧ k ≤ s.length ∧ s.take k = beBytes n k := by
  unfold getIntN at h
  by_cases h1 : s.length < k
  · rw [if_pos h1] at h; cases h
  · rw [if_neg h1] at h
    cases h
    exact ⟨rfl, by omega, (sInt_of_take s k (by omega)).symm⟩
theorem cntP_one {each : Nat} {s : Bs} {n k : Nat} (he : 0 < each) (h : cntP each s = .ok (n, k)) : k = 4 ∧ 4 + each * n ≤ s.length ∧ s.take 4 = beBytes n 4 := by
  obtain ⟨h1, h2, h3, _⟩ := cntP_ok he h
  refine ⟨h1, h2, ?_⟩
  rw [h3]
  exact (sInt_of_take s 4 (by omega)).symm
theorem intsB_one : ∀ (n : Nat) (s : Bs), 4 * n ≤ s.length → be4s (intsB n s) = s.take (4 * n)
  | 0, s, _ => rfl
  | n + 1, s, h => by
    have ih := intsB_one n (s.drop 4) (by rw [List.length_drop]; omega)
    show be4s (sInt (s.take 4) :: intsB n (s.drop 4)) = _
    have e : be4s (sInt (s.take 4) :: intsB n (s.drop 4)) = beBytes (sInt (s.take 4)) 4 ++ be4s (intsB n (s.drop 4)) := by
      unfold be4s; rw [List.flatMap_cons]
    rw [e, ih, sInt_of_take s 4 (by omega), show 4 * (n + 1) = 4 + 4 * n by omega, List.take_add]
theorem partsP_one {s : Bs} {l : List Int} {k : Nat} (h : partsP s = .ok (l, k)) : k ≤ s.length ∧ s.take k = beBytes l.length 4 ++ be4s l := by
  unfold partsP at h
  cases h1 : cntP 4 s with
  | error e => rw [h1] at h; cases h
  | ok x =>
    rw [h1] at h
    cases h
    obtain ⟨c1, c2, c3⟩ := cntP_one (n := x.1) (k := x.2) (by decide) h1
    refine ⟨by omega, ?_⟩
    rw [intsB_len, intsB_one x.1 (s.drop 4) (by rw [List.length_drop]; omega), List.take_add, c3]
theorem textP_one {s : Bs} {d : Bs} {k : Nat} (h : textP s = .ok (d, k)) : k ≤ s.length ∧ s.take k = encF 2 ⟨false, d⟩ := by
  unfold textP at h
  cases h1 : refixed 2 s with
  | error e => rw [h1] at h; cases h
  | ok x =>
    rw [h1] at h
    simp only at h
    by_cases hn : x.1.null = true
    · rw [if_pos hn] at h; cases h
    · rw [if_neg hn] at h
      cases h
      unfold refixed at h1
      by_cases h2 : s.length < 2
      · rw [if_pos h2] at h1; cases h1
      rw [if_neg h2] at h1
      unfold gotS at h1
      by_cases h3 : sInt (s.take 2) = -1
      · rw [if_pos h3] at h1; cases h1; exact absurd rfl hn
      rw [if_neg h3] at h1
      by_cases h4 : sInt (s.take 2) < 0
      · rw [if_pos h4] at h1; cases h1
      rw [if_neg h4] at h1
      by_cases h5 : (s.length : Int) - (2 : Nat) < sInt (s.take 2)
      · rw [if_pos h5] at h1; cases h1
      rw [if_neg h5] at h1
      cases h1
      simp only
      have hl : ((s.drop 2).take (sInt (s.take 2)).toNat).length = (sInt (s.take 2)).toNat := by
        rw [List.length_take, List.length_drop]; omega
      refine ⟨by omega, ?_⟩
      unfold encF
      have hL : (⟨false, (s.drop 2).take (sInt (s.take 2)).toNat⟩ : BlobS).len = sInt (s.take 2) := by
        show (((s.drop 2).take (sInt (s.take 2)).toNat).length : Int) = _
        rw [hl]; omega
      rw [hL, sInt_of_take s 2 (by omega), List.take_add]
theorem topP_one {s : Bs} {t : TopS} {k : Nat} (h : topP s = .ok (t, k)) : k ≤ s.length ∧ s.take k = encT t := by
  unfold topP at h
  cases h1 : textP s with
  | error e => rw [h1] at h; cases h
  | ok x =>
    rw [h1] at h
    simp only at h
    cases h2 : partsP (s.drop x.2) with
    | error e => rw [h2] at h; cases h
    | ok y =>
      rw [h2] at h
      cases h
      obtain ⟨a1, a2⟩ := textP_one (d := x.1) (k := x.2) h1
      obtain ⟨b1, b2⟩ := partsP_one (l := y.1) (k := y.2) h2
      rw [List.length_drop] at b1
      refine ⟨by omega, ?_⟩
      unfold encT
      rw [List.take_add, a2, b2]
theorem topN_one : ∀ (n : Nat) (s : Bs) (l : List TopS) (k : Nat), topN n s = .ok (l, k) → l.length = n ∧ k ≤ s.length ∧ s.take k = l.flatMap encT
  | 0, s, l, k, h => by cases h; exact ⟨rfl, Nat.zero_le _, rfl⟩
  | n + 1, s, l, k, h => by
    unfold topN at h
    cases h1 : topP s with
    | error e => rw [h1] at h; cases h
    | ok x =>
      rw [h1] at h
      simp only at h
      cases h2 : topN n (s.drop x.2) with
      | error e => rw [h2] at h; cases h
      | ok y =>
        rw [h2] at h
        cases h
        obtain ⟨a1, a2⟩ := topP_one (t := x.1) (k := x.2) h1
        obtain ⟨b0, b1, b2⟩ := topN_one n (s.drop x.2) y.1 y.2 h2
        rw [List.length_drop] at b1
        refine ⟨by rw [List.length_cons, b0], by omega, ?_⟩
        rw [List.take_add, a2, b2, List.flatMap_cons]
theorem topsP_one {s : Bs} {l : List TopS} {k : Nat} (h : topsP s = .ok (l, k)) : k ≤ s.length ∧ s.take k = encTs l := by
  unfold topsP at h
  cases h1 : cntP 6 s with
  | error e => rw [h1] at h; cases h
  | ok x =>
    rw [h1] at h
    simp only at h
    cases h2 : topN x.1 (s.drop 4) with
    | error e => rw [h2] at h; cases h
    | ok y =>
      rw [h2] at h
      cases h
      obtain ⟨c1, c2, c3⟩ := cntP_one (n := x.1) (k := x.2) (by decide) h1
      obtain ⟨b0, b1, b2⟩ := topN_one _ _ y.1 y.2 h2
      rw [List.length_drop] at b1
      refine ⟨by omega, ?_⟩
      unfold encTs
      rw [List.take_add, c3, b2, b0]
/-- A read that went well, and what stood ahead of it. -/
theorem Rds.inv {α : Type} {f : InS → α × InS} {p : Bs → Except Int (α × Nat)} {d : α} (h : Rds f p d) {i j : InS} {a : α} (hf : f i = (a, j)) (he : j.err = 0) (hp : i.pos ≤ i.s.length) : i.err = 0 ∧ ∃ k, p (i.s.drop i.pos) = .ok (a, k) ∧ j = ⟨i.s, i.pos + k, 0⟩ ∧ i.pos + k ≤ i.s.length := by
  by_cases h0 : i.err = 0
  · refine ⟨h0, ?_⟩
    obtain ⟨s, pos, er⟩ := i
    simp only at h0 hp ⊢
    subst h0
    cases hq : p (s.drop pos) with
    | error e =>
      obtain ⟨e0, q, _, g⟩ := h.err s pos e hp hq
      rw [g] at hf
      cases hf
      exact absurd he e0
    | ok x =>
      obtain ⟨g1, g2⟩ := h.ok s pos x.1 x.2 hp hq
      rw [g2] at hf
      cases hf
      exact ⟨x.2, rfl, rfl, g1⟩
  · exfalso
    rw [h.stuck i h0] at hf
    cases hf
    exact h0 he
theorem int_inv {i j : InS} {n : Int} (k : Nat) (h1 : 1 ≤ k) (h8 : k ≤ 8) (hf : i.int k = (n, j)) (he : j.err = 0) (hp : i.pos ≤ i.s.length) : i.err = 0 ∧ j = ⟨i.s, i.pos + k, 0⟩ ∧ i.pos + k ≤ i.s.length ∧ i.s.take (i.pos + k) = i.s.take i.pos ++ beBytes n k := by
  obtain ⟨a, m, b, c, d⟩ := (rds_intN k h1 h8).inv hf he hp
  obtain ⟨e1, e2, e3⟩ := getIntN_one b
  subst e1
  exact ⟨a, c, d, by rw [List.take_add, e3]⟩
theorem tops_inv {i j : InS} {l : List TopS} (hf : i.tops = (l, j)) (he : j.err = 0) (hp : i.pos ≤ i.s.length) : i.err = 0 ∧ ∃ k, j = ⟨i.s, i.pos + k, 0⟩ ∧ i.pos + k ≤ i.s.length ∧ i.s.take (i.pos + k) = i.s.take i.pos ++ encTs l := by
  obtain ⟨a, m, b, c, d⟩ := rds_tops.inv hf he hp
  exact ⟨a, m, c, d, by rw [List.take_add, (topsP_one b).2]⟩

end Go.Proofs.YtmpehoebgifmnaaDoor
/- Values, read by definition (pure). -/
namespace Go.Proofs.YtmpehoebgifmnaaDoor
open Go.RowKit

theorem int_shortM (k : Nat) (h1 : 1 ≤ k) (h8 : k ≤ 8) (s : Bs) (pos : Nat) (hp : pos ≤ s.length) (h : s.length < pos + k) : ∃ q, (⟨s, pos, 0⟩ : InS).int k = (0, ⟨s, q, 1⟩) := by
  obtain ⟨_, q, _, h3⟩ := (rds_intN k h1 h8).err s pos 1 hp (by unfold getIntN; rw [if_pos (by rw [List.length_drop]; omega)])
  exact ⟨q, h3⟩
theorem int_stuckM (k : Nat) (h1 : 1 ≤ k) (h8 : k ≤ 8) (i : InS) (h : i.err ≠ 0) : i.int k = (0, i) := (rds_intN k h1 h8).stuck i h
theorem close_stuckV (i : InS) (h : i.err ≠ 0) : i.close.err = i.err := by
  unfold InS.close InS.fail
  split
  · simp only [if_neg h]
  · rfl
theorem valDec_err {s : Bs} {i : InS} (hi : (decI s).valF.2 = i) (h : i.err ≠ 0) : valDec s = (ValS.z, i.err) := by
  have e : decE s = i.err := by unfold decE; rw [hi]; exact close_stuckV i h
  unfold valDec
  rw [e, if_pos h]
theorem valF_st {i : InS} (h : i.err ≠ 0) : i.valF.2 = i := by
  have a1 : i.int 8 = (0, i) := int_stuckM 8 (by decide) (by decide) i h
  have a2 : i.int 2 = (0, i) := int_stuckM 2 (by decide) (by decide) i h
  have a3 : i.int 4 = (0, i) := int_stuckM 4 (by decide) (by decide) i h
  have a4 : i.int 1 = (0, i) := int_stuckM 1 (by decide) (by decide) i h
  have a5 : i.tops = ([], i) := rds_tops.stuck i h
  unfold InS.valF
  simp only [a1, a2, a3, a4, a5]
theorem decI_ok {s : Bs} (h : 2 ≤ s.length) (h0 : sInt (s.take 2) = 0) : decI s = ⟨s, 2, 0⟩ := by
  have a : (⟨s, 0, 0⟩ : InS).int 2 = (sInt (s.take 2), ⟨s, 2, 0⟩) := int_okA 2 (by decide) (by decide) s 0 (by omega)
  unfold decI
  rw [a, if_pos h0]
theorem rdec_1 {s : Bs} (h : s.length < 2) : valDec s = (ValS.z, 1) := by
  obtain ⟨q, hq⟩ := int_shortM 2 (by decide) (by decide) s 0 (Nat.zero_le _) (by omega)
  have hq2 : (⟨s, 0, 0⟩ : InS).int 2 = (0, ⟨s, q, 1⟩) := hq
  have e : decI s = ⟨s, q, 1⟩ := by unfold decI; rw [hq2, if_pos rfl]
  exact valDec_err (i := ⟨s, q, 1⟩) (by rw [e]; exact valF_st (i := ⟨s, q, 1⟩) (show (1 : Int) ≠ 0 by decide)) (show (1 : Int) ≠ 0 by decide)
theorem rdec_2 {s : Bs} (h : 2 ≤ s.length) (h0 : sInt (s.take 2) ≠ 0) : valDec s = (ValS.z, 7) := by
  have a : (⟨s, 0, 0⟩ : InS).int 2 = (sInt (s.take 2), ⟨s, 2, 0⟩) := int_okA 2 (by decide) (by decide) s 0 (by omega)
  have e : decI s = ⟨s, 2, 7⟩ := by unfold decI; rw [a, if_neg h0]; rfl
  exact valDec_err (i := ⟨s, 2, 7⟩) (by rw [e]; exact valF_st (i := ⟨s, 2, 7⟩) (show (7 : Int) ≠ 0 by decide)) (show (7 : Int) ≠ 0 by decide)
theorem valF_1 {i i1 : InS} {p : Int} (h1 : i.int 8 = (p, i1)) (h : i1.err ≠ 0) : i.valF.2 = i1 := by
  have a1 : i1.int 8 = (0, i1) := int_stuckM 8 (by decide) (by decide) i1 h
  have a2 : i1.int 2 = (0, i1) := int_stuckM 2 (by decide) (by decide) i1 h
  have a3 : i1.int 4 = (0, i1) := int_stuckM 4 (by decide) (by decide) i1 h
  have a4 : i1.int 1 = (0, i1) := int_stuckM 1 (by decide) (by decide) i1 h
  have a5 : i1.tops = ([], i1) := rds_tops.stuck i1 h
  unfold InS.valF
  simp only [h1, a1, a2, a3, a4, a5]
theorem valF_2 {i i1 i2 : InS} {p e : Int} (h1 : i.int 8 = (p, i1)) (h2 : i1.int 2 = (e, i2)) (h : i2.err ≠ 0) : i.valF.2 = i2 := by
  have a1 : i2.int 8 = (0, i2) := int_stuckM 8 (by decide) (by decide) i2 h
  have a3 : i2.int 4 = (0, i2) := int_stuckM 4 (by decide) (by decide) i2 h
  have a4 : i2.int 1 = (0, i2) := int_stuckM 1 (by decide) (by decide) i2 h
  have a5 : i2.tops = ([], i2) := rds_tops.stuck i2 h
  unfold InS.valF
  simp only [h1, h2, a1, a3, a4, a5]
theorem valF_3 {i i1 i2 i3 : InS} {p e t : Int} (h1 : i.int 8 = (p, i1)) (h2 : i1.int 2 = (e, i2)) (h3 : i2.int 4 = (t, i3)) (h : i3.err ≠ 0) : i.valF.2 = i3 := by
  have a1 : i3.int 8 = (0, i3) := int_stuckM 8 (by decide) (by decide) i3 h
  have a4 : i3.int 1 = (0, i3) := int_stuckM 1 (by decide) (by decide) i3 h
  have a5 : i3.tops = ([], i3) := rds_tops.stuck i3 h
  unfold InS.valF
  simp only [h1, h2, h3, a1, a4, a5]
theorem valF_4 {i i1 i2 i3 i4 : InS} {p e t u : Int} (h1 : i.int 8 = (p, i1)) (h2 : i1.int 2 = (e, i2)) (h3 : i2.int 4 = (t, i3)) (h4 : i3.int 1 = (u, i4)) (h : i4.err ≠ 0) : i.valF.2 = i4 := by
  have a1 : i4.int 8 = (0, i4) := int_stuckM 8 (by decide) (by decide) i4 h
  have a5 : i4.tops = ([], i4) := rds_tops.stuck i4 h
  unfold InS.valF
  simp only [h1, h2, h3, h4, a1, a5]
theorem valF_5 {i i1 i2 i3 i4 i5 : InS} {p e t u : Int} {l : List TopS} (h1 : i.int 8 = (p, i1)) (h2 : i1.int 2 = (e, i2)) (h3 : i2.int 4 = (t, i3)) (h4 : i3.int 1 = (u, i4)) (h5 : i4.tops = (l, i5)) (h : i5.err ≠ 0) : i.valF.2 = i5 := by
  have a1 : i5.int 8 = (0, i5) := int_stuckM 8 (by decide) (by decide) i5 h
  unfold InS.valF
  simp only [h1, h2, h3, h4, h5, a1]
theorem valF_6 {i i1 i2 i3 i4 i5 i6 : InS} {p e t u v : Int} {l : List TopS} (h1 : i.int 8 = (p, i1)) (h2 : i1.int 2 = (e, i2)) (h3 : i2.int 4 = (t, i3)) (h4 : i3.int 1 = (u, i4)) (h5 : i4.tops = (l, i5)) (h6 : i5.int 8 = (v, i6)) (h : i6.err ≠ 0) : i.valF.2 = i6 := by
  have a1 : i6.int 8 = (0, i6) := int_stuckM 8 (by decide) (by decide) i6 h
  unfold InS.valF
  simp only [h1, h2, h3, h4, h5, h6, a1]
theorem one_neV : (1 : Int) ≠ 0 := by decide
theorem rdec_3 {s : Bs} (h : 2 ≤ s.length) (h0 : sInt (s.take 2) = 0) (hs : s.length < 17) : valDec s = (ValS.z, 1) := by
  have e := decI_ok h h0
  by_cases c1 : s.length < 10
  · obtain ⟨q, hq⟩ := int_shortM 8 (by decide) (by decide) s 2 h (by omega)
    exact valDec_err (i := ⟨s, q, 1⟩) (by rw [e]; exact valF_1 hq one_neV) one_neV
  have b1 := int_okA 8 (by decide) (by decide) s 2 (by omega)
  by_cases c2 : s.length < 12
  · obtain ⟨q, hq⟩ := int_shortM 2 (by decide) (by decide) s 10 (by omega) (by omega)
    exact valDec_err (i := ⟨s, q, 1⟩) (by rw [e]; exact valF_2 b1 hq one_neV) one_neV
  have b2 := int_okA 2 (by decide) (by decide) s 10 (by omega)
  by_cases c3 : s.length < 16
  · obtain ⟨q, hq⟩ := int_shortM 4 (by decide) (by decide) s 12 (by omega) (by omega)
    exact valDec_err (i := ⟨s, q, 1⟩) (by rw [e]; exact valF_3 b1 b2 hq one_neV) one_neV
  have b3 := int_okA 4 (by decide) (by decide) s 12 (by omega)
  obtain ⟨q, hq⟩ := int_shortM 1 (by decide) (by decide) s 16 (by omega) (by omega)
  exact valDec_err (i := ⟨s, q, 1⟩) (by rw [e]; exact valF_4 b1 b2 b3 hq one_neV) one_neV
theorem topsR_err {s : Bs} {l : List TopS} {m : Nat} {e : Int} (h : topsR s = (l, m, e)) (h0 : e ≠ 0) : topsP s = .error e := by
  unfold topsR at h
  cases h1 : topsP s with
  | error e2 => rw [h1] at h; cases h; rfl
  | ok x => rw [h1] at h; cases h; exact absurd rfl h0
theorem topsP_errz {s : Bs} {e : Int} (h : topsP s = .error e) : e ≠ 0 := (rds_tops.err s 0 e (Nat.zero_le _) (by rw [List.drop_zero]; exact h)).1
theorem topsR_ok {s : Bs} {l : List TopS} {m : Nat} (h : topsR s = (l, m, 0)) : topsP s = .ok (l, m) := by
  unfold topsR at h
  cases h1 : topsP s with
  | error e2 => rw [h1] at h; cases h; exact absurd rfl (topsP_errz h1)
  | ok x => rw [h1] at h; cases h; rfl
theorem topsR_le {s : Bs} {l : List TopS} {m : Nat} (h : topsR s = (l, m, 0)) : m ≤ s.length := by
  have := (rds_tops.ok s 0 l m (Nat.zero_le _) (by rw [List.drop_zero]; exact topsR_ok h)).1
  omega
theorem rdec_4 {s : Bs} {l : List TopS} {m : Nat} {e : Int} (h0 : sInt (s.take 2) = 0) (hs : 17 ≤ s.length) (hr : topsR (s.drop 17) = (l, m, e)) (he : e ≠ 0) : valDec s = (ValS.z, e) := by
  have e0 := decI_ok (by omega) h0
  have b1 := int_okA 8 (by decide) (by decide) s 2 (by omega)
  have b2 := int_okA 2 (by decide) (by decide) s 10 (by omega)
  have b3 := int_okA 4 (by decide) (by decide) s 12 (by omega)
  have b4 := int_okA 1 (by decide) (by decide) s 16 (by omega)
  obtain ⟨_, q, _, h5⟩ := rds_tops.err s 17 e hs (topsR_err hr he)
  exact valDec_err (i := ⟨s, q, e⟩) (by rw [e0]; exact valF_5 b1 b2 b3 b4 h5 he) he
theorem rdec_5 {s : Bs} {l : List TopS} {m : Nat} (h0 : sInt (s.take 2) = 0) (hs : 17 ≤ s.length) (hr : topsR (s.drop 17) = (l, m, 0)) (hm : s.length < 17 + m + 16) : valDec s = (ValS.z, 1) := by
  have e0 := decI_ok (by omega) h0
  have b1 := int_okA 8 (by decide) (by decide) s 2 (by omega)
  have b2 := int_okA 2 (by decide) (by decide) s 10 (by omega)
  have b3 := int_okA 4 (by decide) (by decide) s 12 (by omega)
  have b4 := int_okA 1 (by decide) (by decide) s 16 (by omega)
  obtain ⟨h6, h5⟩ := rds_tops.ok s 17 l m hs (topsR_ok hr)
  by_cases c1 : s.length < 17 + m + 8
  · obtain ⟨q, hq⟩ := int_shortM 8 (by decide) (by decide) s (17 + m) h6 c1
    exact valDec_err (i := ⟨s, q, 1⟩) (by rw [e0]; exact valF_6 b1 b2 b3 b4 h5 hq one_neV) one_neV
  have b6 := int_okA 8 (by decide) (by decide) s (17 + m) (by omega)
  obtain ⟨q, hq⟩ := int_shortM 8 (by decide) (by decide) s (17 + m + 8) (by omega) (by omega)
  exact valDec_err (i := ⟨s, q, 1⟩) (by rw [e0, valF_eq b1 b2 b3 b4 h5 b6 hq]) one_neV
theorem rdec_v {s : Bs} {l : List TopS} {m : Nat} (h0 : sInt (s.take 2) = 0) (hs : 17 ≤ s.length) (hr : topsR (s.drop 17) = (l, m, 0)) (hm : 17 + m + 16 ≤ s.length) : (decI s).valF = (⟨sInt ((s.drop 2).take 8), sInt ((s.drop 10).take 2), sInt ((s.drop 12).take 4), sInt ((s.drop 16).take 1), l, sInt ((s.drop (17 + m)).take 8), sInt ((s.drop (17 + m)).drop 8)⟩, ⟨s, 17 + m + 16, 0⟩) ∨ 17 + m + 16 < s.length ∧ (decI s).valF.2 = ⟨s, 17 + m + 16, 0⟩ := by
  have e0 := decI_ok (by omega) h0
  have b1 := int_okA 8 (by decide) (by decide) s 2 (by omega)
  have b2 := int_okA 2 (by decide) (by decide) s 10 (by omega)
  have b3 := int_okA 4 (by decide) (by decide) s 12 (by omega)
  have b4 := int_okA 1 (by decide) (by decide) s 16 (by omega)
  obtain ⟨h6, h5⟩ := rds_tops.ok s 17 l m hs (topsR_ok hr)
  have b6 := int_okA 8 (by decide) (by decide) s (17 + m) (by omega)
  have b7 := int_okA 8 (by decide) (by decide) s (17 + m + 8) (by omega)
  have hv := valF_eq b1 b2 b3 b4 h5 b6 b7
  by_cases hx : 17 + m + 16 < s.length
  · exact .inr ⟨hx, by rw [e0, hv]⟩
  · left
    rw [e0, hv]
    have e7 : (s.drop (17 + m + 8)).take 8 = (s.drop (17 + m)).drop 8 := by
      rw [List.drop_drop, List.take_of_length_le (by rw [List.length_drop]; omega)]
    rw [e7]
theorem rdec_6 {s : Bs} {l : List TopS} {m : Nat} (h0 : sInt (s.take 2) = 0) (hs : 17 ≤ s.length) (hr : topsR (s.drop 17) = (l, m, 0)) (hm : 17 + m + 16 < s.length) : valDec s = (ValS.z, 2) := by
  have e : decE s = 2 := by
    unfold decE
    rcases rdec_v h0 hs hr (by omega) with h | ⟨_, h⟩
    · rw [h]; unfold InS.close; rw [if_pos (show 0 < InS.left ⟨s, 17 + m + 16, 0⟩ by unfold InS.left; simp only; omega)]; rfl
    · rw [h]; unfold InS.close; rw [if_pos (show 0 < InS.left ⟨s, 17 + m + 16, 0⟩ by unfold InS.left; simp only; omega)]; rfl
  unfold valDec
  rw [e, if_pos (by decide)]
theorem rdec_7 {s : Bs} {l : List TopS} {m : Nat} (h0 : sInt (s.take 2) = 0) (hs : 17 ≤ s.length) (hr : topsR (s.drop 17) = (l, m, 0)) (hm : 17 + m + 16 = s.length) (v : ValS) (hv : v = ⟨sInt ((s.drop 2).take 8), sInt ((s.drop 10).take 2), sInt ((s.drop 12).take 4), sInt ((s.drop 16).take 1), l, sInt ((s.drop (17 + m)).take 8), sInt ((s.drop (17 + m)).drop 8)⟩) : valDec s = if v.err ≠ 0 then (ValS.z, v.err) else (v, 0) := by
  subst hv
  rcases rdec_v h0 hs hr (by omega) with h | ⟨h, _⟩
  · have e : decE s = 0 := by
      unfold decE
      rw [h]; unfold InS.close; rw [if_neg (show ¬ 0 < InS.left ⟨s, 17 + m + 16, 0⟩ by unfold InS.left; simp only; omega)]
    unfold valDec
    rw [e, h, if_neg (by decide)]
  · omega

end Go.Proofs.YtmpehoebgifmnaaDoor
/- How many, by definition. -/
namespace Go.Proofs.YtmpehoebgifmnaaDoor
open Go.RowKit

end Go.Proofs.YtmpehoebgifmnaaDoor
/- Layer 3: that it speaks. -/
namespace Go.Proofs.YtmpehoebgifmnaaDoor
open Go.RowKit

theorem St.allocOut2 {W0 w : World} {K : Know} {L : List Res} (h : St W0 w K L) : St W0 ((w.alloc (.cells #[.slice none 0 0, .int .i64 0] 79)).alloc (.cells #[.slice none 0 0, .int .i64 0] 79)) K (.out (w.heap.size + 1) ⟨[], 0⟩ :: .out w.heap.size ⟨[], 0⟩ :: L) := by
  have := h.allocOut.allocOut
  rw [World.size_alloc] at this
  exact this
theorem St.allocOut3 {W0 w : World} {K : Know} {L : List Res} (h : St W0 w K L) : St W0 (((w.alloc (.cells #[.slice none 0 0, .int .i64 0] 79)).alloc (.cells #[.slice none 0 0, .int .i64 0] 79)).alloc (.cells #[.slice none 0 0, .int .i64 0] 79)) K (.out (w.heap.size + 2) ⟨[], 0⟩ :: .out (w.heap.size + 1) ⟨[], 0⟩ :: .out w.heap.size ⟨[], 0⟩ :: L) := by
  have := h.allocOut2.allocOut
  rw [World.size_alloc, World.size_alloc] at this
  exact this
theorem St.allocOut4 {W0 w : World} {K : Know} {L : List Res} (h : St W0 w K L) : St W0 ((((w.alloc (.cells #[.slice none 0 0, .int .i64 0] 79)).alloc (.cells #[.slice none 0 0, .int .i64 0] 79)).alloc (.cells #[.slice none 0 0, .int .i64 0] 79)).alloc (.cells #[.slice none 0 0, .int .i64 0] 79)) K (.out (w.heap.size + 3) ⟨[], 0⟩ :: .out (w.heap.size + 2) ⟨[], 0⟩ :: .out (w.heap.size + 1) ⟨[], 0⟩ :: .out w.heap.size ⟨[], 0⟩ :: L) := by
  have := h.allocOut3.allocOut
  rw [World.size_alloc, World.size_alloc, World.size_alloc] at this
  exact this

theorem text_ok (s : Bs) : (⟨s, 0⟩ : OutS).text = (s, 0) := rfl
theorem putU_65 : putU (foldN (-65)) = [129, 1] := by
  have e : foldN (-65) = 129 := by decide
  rw [e, putU_big (by decide), putU_small (by decide)]
  decide

end Go.Proofs.YtmpehoebgifmnaaDoor
/- Layer 4: that it speaks. -/
namespace Go.Proofs.YtmpehoebgifmnaaDoor
open Go.RowKit

theorem Holds.only {w : World} {r : Res} : ∀ {L : List Res} {S : Nat → Prop}, Holds L w S → r ∈ L → ∃ S', Holds [r] w S' ∧ ∀ k, S' k → S k
  | [], _, _, hm => by cases hm
  | a :: L, S, ⟨S1, S2, h1, h2, h3, h4⟩, hm => by
    cases hm with
    | head => exact ⟨S1, ⟨S1, fun _ => False, h1, fun _ h => h, fun _ _ h => h, fun k => by simp⟩, fun k hk => (h4 k).2 (.inl hk)⟩
    | tail _ hm =>
      obtain ⟨S', g1, g2⟩ := Holds.only h2 hm
      exact ⟨S', g1, fun k hk => (h4 k).2 (.inr (g2 k hk))⟩
theorem St.only {W0 w : World} {K : Know} {L : List Res} {r : Res} (h : St W0 w K L) (hm : r ∈ L) : St W0 w K [r] := by
  obtain ⟨a, S, F, b, c, d, e⟩ := h
  obtain ⟨S', g1, g2⟩ := b.only hm
  exact ⟨a, S', F, g1, fun k hk => c k (g2 k hk), d, fun k hk => ⟨(e k hk).1, fun h => (e k hk).2.1 (g2 k h), (e k hk).2.2⟩⟩

theorem putU_1 : putU (foldN 1) = [2] := by
  have e : foldN 1 = 2 := by decide
  rw [e, putU_small (by decide)]
  decide

end Go.Proofs.YtmpehoebgifmnaaDoor
/- Layer 4, walked: BlobReads. -/
namespace Go.Proofs.YtmpehoebgifmnaaDoor
open Go.RowKit

/-- What a reader reads of a text, as the parser says. -/
theorem read_facts {f : InS → BlobS × InS} {p : Bs → Except Int (BlobS × Nat)} (h : Rds f p ⟨false, []⟩) (s : Bs) :
    ∃ (n : Bool) (d : Bs) (m : Nat) (e : Int) (j : InS), f ⟨s, 0, 0⟩ = (⟨n, d⟩, j) ∧ gotV (p s) = .agg #[.bool n, .string (bb d), .int .i64 m, .int .i64 e] ∧ j.err = e ∧ (e = 0 → j.pos = m) := by
  rcases at_zero' h s with ⟨b, k, h1, _, h2⟩ | ⟨e, q, h1, h2, _, h3⟩
  · exact ⟨b.null, b.data, k, 0, ⟨s, k, 0⟩, h2, by rw [h1]; rfl, rfl, fun _ => rfl⟩
  · exact ⟨false, [], 0, e, ⟨s, q, e⟩, h3, by rw [h1]; rfl, rfl, fun h => absurd h h2⟩
theorem err_at {e : Int} {j : InS} (h : j.err = e) : Value.int .i64 j.err = .int .i64 e := by rw [h]
theorem raw_four {W0 w : World} {K : Know} {L : List Res} {r : Res} {c : Nat} {x y z u : Value} {T : TypeId} (h : St W0 w K (r :: .raw c #[x, y, z, u] T :: L)) :
    w.cell? ⟨c, 0, none⟩ = some x ∧ w.cell? ⟨c, 1, none⟩ = some y ∧ w.cell? ⟨c, 2, none⟩ = some z ∧ w.cell? ⟨c, 3, none⟩ = some u :=
  ⟨h.p1.rawCell 0, h.p1.rawCell 1, h.p1.rawCell 2, h.p1.rawCell 3⟩
theorem raw_four' {W0 w : World} {K : Know} {L : List Res} {r : Res} {c : Nat} {x y z u : Value} {T : TypeId} (h : St W0 w K (r :: .raw c #[x, y, z, u] T :: L)) :
    w.cell? ⟨c, 0, none⟩ = some x ∧ w.cell? ⟨c, 1, none⟩ = some y ∧ w.cell? ⟨c, 2, none⟩ = some z ∧ w.cell? ⟨c, 3, none⟩ = some u ∧ St W0 w K (r :: .raw c #[x, y, z, u] T :: L) :=
  ⟨h.p1.rawCell 0, h.p1.rawCell 1, h.p1.rawCell 2, h.p1.rawCell 3, h⟩
theorem raw_free4 {W0 w : World} {K : Know} {L : List Res} {c : Nat} {x y z u : Value} {T : TypeId} (h : St W0 w K (.raw c #[x, y, z, u] T :: L)) :
    w.frozen? ⟨c, 0, none⟩ = false ∧ w.frozen? ⟨c, 1, none⟩ = false ∧ w.frozen? ⟨c, 2, none⟩ = false ∧ w.frozen? ⟨c, 3, none⟩ = false :=
  ⟨h.rawFree 0, h.rawFree 1, h.rawFree 2, h.rawFree 3⟩

theorem q_err {W0 w : World} {K : Know} {L : List Res} {p : Nat} {j : InS} {v : Int} (hv : j.err = v) (h : St W0 w K (.inp p j :: L)) (n : Nat) :
    Calls Tryd.prog 65 #[inPtr p] (w.drewN n) fun e w' => e = .returned (.int .i64 v) ∧ ∃ m, w' = w.drewN m :=
  Calls.quiet_of_same ((in_err p j _ (h.drewN n).inpGet).mono fun _ _ ⟨h1, h2⟩ => ⟨hv ▸ h1, h2.symm⟩)
set_option maxHeartbeats 600000 in
set_option maxRecDepth 100000 in
theorem blobReads_mid (s : Bs) (k : Nat) (z : Int) (hs : s.length ≤ 2000) (hz : z = k) (h1 : 1 ≤ k) (h8 : k ≤ 8) {W0 w : World} {K : Know} {L : List Res} (h : St W0 w Know.none []) :
    True := by
  trivial

theorem blob_fixedQ (p : Nat) (i : InS) (k : Nat) (q : Int) (n : Bool) (d : Bs) (j : InS) (hq : q = k) (hx : i.fixed k = (⟨n, d⟩, j)) {W0 w : World} {K : Know} {L : List Res} (h : St W0 w K (.inp p i :: L)) :
    Calls Tryd.prog 52 #[inPtr p, .int .i64 q] w fun en w' => en = .returned (.agg #[.bool n, .string (bb d)]) ∧ St W0 w' K (.inp p j :: L) := by
  subst hq; have := blob_fixed p i k h; rw [hx] at this; exact this
theorem raw_all4 {W0 w : World} {K : Know} {L : List Res} {c : Nat} {x y z u : Value} {T : TypeId} (h : St W0 w K (.raw c #[x, y, z, u] T :: L)) :
    w.cell? ⟨c, 0, none⟩ = some x ∧ w.cell? ⟨c, 1, none⟩ = some y ∧ w.cell? ⟨c, 2, none⟩ = some z ∧ w.cell? ⟨c, 3, none⟩ = some u ∧
    w.frozen? ⟨c, 0, none⟩ = false ∧ w.frozen? ⟨c, 1, none⟩ = false ∧ w.frozen? ⟨c, 2, none⟩ = false ∧ w.frozen? ⟨c, 3, none⟩ = false ∧ c < w.heap.size :=
  ⟨h.rawCell 0, h.rawCell 1, h.rawCell 2, h.rawCell 3, h.rawFree 0, h.rawFree 1, h.rawFree 2, h.rawFree 3, (Array.getElem?_eq_some_iff.1 h.rawGet).1⟩
theorem raw_four3 {W0 w : World} {K : Know} {L : List Res} {r r' : Res} {c : Nat} {x y z u : Value} {T : TypeId} (h : St W0 w K (r :: r' :: .raw c #[x, y, z, u] T :: L)) :
    w.cell? ⟨c, 0, none⟩ = some x ∧ w.cell? ⟨c, 1, none⟩ = some y ∧ w.cell? ⟨c, 2, none⟩ = some z ∧ w.cell? ⟨c, 3, none⟩ = some u :=
  ⟨h.p2.rawCell 0, h.p2.rawCell 1, h.p2.rawCell 2, h.p2.rawCell 3⟩

end Go.Proofs.YtmpehoebgifmnaaDoor
/- Topics, read by definition: what is called. -/
namespace Go.Proofs.YtmpehoebgifmnaaDoor
open Go.RowKit

theorem intsB_snoc : ∀ (k : Nat) (s : Bs), intsB (k + 1) s = intsB k s ++ [sInt ((s.drop (4 * k)).take 4)]
  | 0, s => by simp [intsB]
  | k + 1, s => by
    have e : 4 * (k + 1) = 4 + 4 * k := by omega
    show sInt (s.take 4) :: intsB (k + 1) (s.drop 4) = (sInt (s.take 4) :: intsB k (s.drop 4)) ++ [sInt ((s.drop (4 * (k + 1))).take 4)]
    rw [intsB_snoc k (s.drop 4), List.drop_drop, List.cons_append, e]
theorem takeEnd (s : Bs) (p : Nat) : List.take (s.length - p) (List.drop p s) = s.drop p := List.take_of_length_le (by rw [List.length_drop]; omega)
end Go.Proofs.YtmpehoebgifmnaaDoor
/- A whole value stored into a block of one's own. -/
namespace Go.Proofs.YtmpehoebgifmnaaDoor
open Go.RowKit

def setAll : Array Value → Nat → List Value → Array Value
  | c, _, [] => c
  | c, o, v :: r => setAll (c.setIfInBounds o v) (o + 1) r
theorem St.there {W0 w : World} {K : Know} {L : List Res} {b : Nat} {c : Array Value} {T : TypeId} (h : St W0 w K (.raw b c T :: L)) : w.there b 0 c.size := fun j hj => by
  rw [Nat.zero_add]
  exact ⟨by rw [h.rawCell j, Array.getElem?_eq_getElem hj]; rfl, h.rawFree j⟩
theorem St.rawSets {W0 : World} {K : Know} {L : List Res} {b : Nat} {T : TypeId} : ∀ (vs : List Value) (o : Nat) (c : Array Value) (w : World), St W0 w K (.raw b c T :: L) → St W0 (w.setCells b o vs) K (.raw b (setAll c o vs) T :: L)
  | [], _, _, _, h => h
  | v :: r, o, _, _, h => St.rawSets r (o + 1) _ _ (h.rawSet o v)
/-- A whole value stored into a block of one's own, the new world under a name. -/
theorem St.storeEx {W0 w : World} {K : Know} {L : List Res} {b : Nat} {c : Array Value} {T : TypeId} (h : St W0 w K (.raw b c T :: L)) (cs : Array Value) : ∃ wz, w.setCells b 0 cs.toList = wz ∧ St W0 wz K (.raw b (setAll c 0 cs.toList) T :: L) := ⟨_, rfl, h.rawSets _ _ _ _⟩
theorem St.allocEx {W0 w : World} {K : Know} {L : List Res} (h : St W0 w K L) (c : Array Value) (T : TypeId) : ∃ wy b, w.alloc (.cells c T (0, 0)) = wy ∧ w.heap.size = b ∧ St W0 wy K (.raw b c T :: L) := ⟨_, _, rfl, rfl, h.allocRaw c T⟩

end Go.Proofs.YtmpehoebgifmnaaDoor
/- Operations of regions that draw their order. -/
namespace Go.Proofs.YtmpehoebgifmnaaDoor
open Go.RowKit

theorem op_value {P : Program} {o : Oper} {a : Act} {w w' : World} {v : Value} {KK : Act → World → Prop} {Q : Exit → Act → World → Prop} (hr : (execOp a.eval o).run P w = .ok (.value v) w') (h : KK (a.put o.dst v) w') : o.wp P a w KK Q := by
  unfold Oper.wp
  rw [hr]
  exact h
/-- One element appended, which lies in a block of one's own, inside a region that draws its order. -/
theorem op_app1 {W0 w : World} {K : Know} {L : List Res} {o : Oper} {a : Act} {KK : Act → World → Prop} {Q : Exit → Act → World → Prop} (sl x : Operand) (t : TypeId)
    (ho : o.op = .call { callee := .builtin .append, args := #[sl, x], argTypes := #[t, t] })
    (e : TypeId) {z : Value} {size bytes : Nat} (ht : Tryd.prog.underlying t = some (.slice e)) (he : ElemT Tryd.prog e z size bytes)
    (v : Value) (n : Nat) (xs : List Value) (hs : a.eval sl = v) (bS : Nat) (cs : Array Value) (T : TypeId) (hst : St W0 w K (.raw bS cs T :: .row v e size n xs :: L))
    (hx : a.eval x = .slice (some ⟨bS, 0, none⟩) 1 1) (hl : cs.toList.length = size) (h1 : ∀ u ∈ cs.toList, u.oneCell' = true)
    (h63 : n + 1 ≤ maxLen) (hbytes : (n + 1) * bytes ≤ 140737488355328)
    (h : ∀ v' w', St W0 w' K (.row v' e size (n + 1) (xs ++ cs.toList) :: L) → KK (a.put o.dst v') w') : o.wp Tryd.prog a w KK Q := by
  have hc := hst.rawCell
  have hst2 := hst.p1
  obtain ⟨⟨i, g1, g2, g3, g4⟩, g5, g6⟩ := he
  obtain ⟨v', w', hr, h2, h3, h4⟩ := app_val (P := Tryd.prog) w t o.type e i z size bytes ht g1 g2 g3 g4 g5 g6 v n xs hst2.rowGet ⟨bS, 0, none⟩ 1 1 cs.toList (by omega) (fun j u hj => by
    have ha : (⟨bS, 0, none⟩ : Addr).add j = ⟨bS, j, none⟩ := by unfold Addr.add; split <;> simp_all
    rw [ha, hc j]
    simpa using hj) h1 h63 hbytes
  unfold Oper.wp execOp
  simp only [ho, resolve, invoke, builtin, Sem.run_bind, Sem.run_pure, Result.andThen_ok, List.map_toArray, List.map_cons, List.map_nil, hs, hx, hr]
  exact h v' w' (hst2.rowGrown h2 h3 h4).p1.drop
theorem op_skip {P : Program} {o : Oper} {a : Act} {w w' : World} {KK : Act → World → Prop} {Q : Exit → Act → World → Prop} (hr : (execOp a.eval o).run P w = .ok .skip w') (h : KK (a.put o.dst undef) w') : o.wp P a w KK Q := by
  unfold Oper.wp
  rw [hr]
  exact h
theorem St.setEx {W0 w : World} {K : Know} {L : List Res} {b : Nat} {c : Array Value} {T : TypeId} (h : St W0 w K (.raw b c T :: L)) (j : Nat) (v : Value) : ∃ wz, w.setCell ⟨b, j, none⟩ v = wz ∧ St W0 wz K (.raw b (c.setIfInBounds j v) T :: L) := ⟨_, rfl, h.rawSet j v⟩

end Go.Proofs.YtmpehoebgifmnaaDoor
/- Topics, read by definition. -/
namespace Go.Proofs.YtmpehoebgifmnaaDoor
open Go.RowKit

end Go.Proofs.YtmpehoebgifmnaaDoor
/- All cells of a block set (arrays). -/
namespace Go.Proofs.YtmpehoebgifmnaaDoor
open Go.RowKit

theorem setAll_getV : ∀ (vs : List Value) (o : Nat) (c : Array Value) (i : Nat), (setAll c o vs)[i]? = if o ≤ i ∧ i < o + vs.length ∧ i < c.size then vs[i - o]? else c[i]?
  | [], o, c, i => by
    show c[i]? = _
    rw [if_neg (by simp; omega)]
  | v :: r, o, c, i => by
    show (setAll (c.setIfInBounds o v) (o + 1) r)[i]? = _
    rw [setAll_getV r (o + 1) _ i]
    simp only [Array.size_setIfInBounds, List.length_cons]
    by_cases h1 : o + 1 ≤ i ∧ i < o + 1 + r.length ∧ i < c.size
    · rw [if_pos h1, if_pos (by omega)]
      obtain ⟨k, rfl⟩ : ∃ k, i = o + 1 + k := ⟨i - (o + 1), by omega⟩
      rw [show o + 1 + k - (o + 1) = k by omega, show o + 1 + k - o = k + 1 by omega]
      rfl
    · rw [if_neg h1, Array.getElem?_setIfInBounds]
      by_cases h2 : o = i
      · subst h2
        rw [if_pos rfl]
        by_cases h3 : o < c.size
        · rw [if_pos h3, if_pos (by omega), Nat.sub_self]; rfl
        · rw [if_neg h3, if_neg (by omega), Array.getElem?_eq_none (by omega)]
      · rw [if_neg h2, if_neg (by omega)]
theorem setAll_allV (c cs : Array Value) (h : c.size = cs.size) : setAll c 0 cs.toList = cs := by
  refine Array.ext_getElem? fun i => ?_
  rw [setAll_getV]
  by_cases h1 : i < cs.size
  · rw [if_pos (by simp; omega), Nat.sub_zero, Array.getElem?_toList]
  · rw [if_neg (by simp; omega), Array.getElem?_eq_none (by omega), Array.getElem?_eq_none (by omega)]

end Go.Proofs.YtmpehoebgifmnaaDoor
/- Values, read by definition: early ends. -/
namespace Go.Proofs.YtmpehoebgifmnaaDoor
open Go.RowKit

end Go.Proofs.YtmpehoebgifmnaaDoor
/- Values, read by definition: topics that are none. -/
namespace Go.Proofs.YtmpehoebgifmnaaDoor
open Go.RowKit

end Go.Proofs.YtmpehoebgifmnaaDoor
/- Values, read by definition: too few, too many. -/
namespace Go.Proofs.YtmpehoebgifmnaaDoor
open Go.RowKit

end Go.Proofs.YtmpehoebgifmnaaDoor
/- Values, read by definition: that may not be. -/
namespace Go.Proofs.YtmpehoebgifmnaaDoor
open Go.RowKit

end Go.Proofs.YtmpehoebgifmnaaDoor
/- Values, read by definition. -/
namespace Go.Proofs.YtmpehoebgifmnaaDoor
open Go.RowKit

end Go.Proofs.YtmpehoebgifmnaaDoor
/- Values, read by definition: any bytes. -/
namespace Go.Proofs.YtmpehoebgifmnaaDoor
open Go.RowKit

theorem valDec_zero {S : Bs} {v : ValS} {E : Int} (hv : valDec S = (v, E)) (h0 : E ≠ 0) : v = ValS.z := by
  unfold valDec at hv
  split at hv
  · cases hv; rfl
  · split at hv
    · cases hv; rfl
    · cases hv; exact absurd rfl h0

end Go.Proofs.YtmpehoebgifmnaaDoor
/- Values: one spelling. -/
namespace Go.Proofs.YtmpehoebgifmnaaDoor
open Go.RowKit

theorem Rds.back {α : Type} {f : InS → α × InS} {p : Bs → Except Int (α × Nat)} {d : α} (h : Rds f p d) {i j : InS} {a : α} (hf : f i = (a, j)) (he : j.err = 0) : i.err = 0 := by
  by_cases h0 : i.err = 0
  · exact h0
  · exfalso
    rw [h.stuck i h0] at hf
    cases hf
    exact h0 he
theorem int_invF {i j : InS} {n : Int} (k : Nat) (h1 : 1 ≤ k) (h8 : k ≤ 8) (hf : i.int k = (n, j)) (he : j.err = 0) (hp : i.pos ≤ i.s.length) : fits n k := by
  obtain ⟨a, m, b, c, d⟩ := (rds_intN k h1 h8).inv hf he hp
  unfold getIntN at b
  by_cases h2 : (i.s.drop i.pos).length < k
  · rw [if_pos h2] at b; cases b
  · rw [if_neg h2] at b
    cases b
    exact sInt_fits _ k (by omega) (by omega) (by rw [List.length_take]; omega)
theorem close_zero {i : InS} (h : i.close.err = 0) : i.err = 0 ∧ i.left = 0 := by
  unfold InS.close at h
  by_cases h1 : 0 < i.left
  · rw [if_pos h1] at h
    unfold InS.fail at h
    by_cases h2 : i.err = 0
    · rw [if_pos h2] at h; cases h
    · rw [if_neg h2] at h; exact absurd h h2
  · rw [if_neg h1] at h
    exact ⟨h, by omega⟩
theorem valDec_one {S : Bs} {v : ValS} (h : valDec S = (v, 0)) : v.enc = S ∧ v.err = 0 ∧ v.R := by
  obtain ⟨hE, hV, he⟩ := valDec_ok h (.inr trivial)
  have ha := decE_zero hE
  obtain ⟨j, hj⟩ : ∃ j, decI S = j := ⟨_, rfl⟩
  obtain ⟨⟨a, j0⟩, h0⟩ : ∃ r, (⟨S, 0, 0⟩ : InS).int 2 = r := ⟨_, rfl⟩
  rw [h0] at ha
  have ha : a = 0 := ha
  subst ha
  have hjj : j = j0 := by rw [← hj]; unfold decI; rw [h0]; rfl
  subst hjj
  obtain ⟨⟨p, i1⟩, h1⟩ : ∃ r, j.int 8 = r := ⟨_, rfl⟩
  obtain ⟨⟨e, i2⟩, h2⟩ : ∃ r, i1.int 2 = r := ⟨_, rfl⟩
  obtain ⟨⟨t, i3⟩, h3⟩ : ∃ r, i2.int 4 = r := ⟨_, rfl⟩
  obtain ⟨⟨s, i4⟩, h4⟩ : ∃ r, i3.int 1 = r := ⟨_, rfl⟩
  obtain ⟨⟨l, i5⟩, h5⟩ : ∃ r, i4.tops = r := ⟨_, rfl⟩
  obtain ⟨⟨u, i6⟩, h6⟩ : ∃ r, i5.int 8 = r := ⟨_, rfl⟩
  obtain ⟨⟨st, i7⟩, h7⟩ : ∃ r, i6.int 8 = r := ⟨_, rfl⟩
  have hF := valF_eq h1 h2 h3 h4 h5 h6 h7
  rw [hj, hF] at hV
  have hV : (⟨p, e, t, s, l, u, st⟩ : ValS) = v := hV
  unfold decE at hE
  rw [hj, hF] at hE
  obtain ⟨z7, hleft⟩ := close_zero (i := i7) hE
  have z6 := (rds_intN 8 (by decide) (by decide)).back h7 z7
  have z5 := (rds_intN 8 (by decide) (by decide)).back h6 z6
  have z4 := rds_tops.back h5 z5
  have z3 := (rds_intN 1 (by decide) (by decide)).back h4 z4
  have z2 := (rds_intN 4 (by decide) (by decide)).back h3 z3
  have z1 := (rds_intN 2 (by decide) (by decide)).back h2 z2
  have z0 := (rds_intN 8 (by decide) (by decide)).back h1 z1
  obtain ⟨_, b0, c0, d0⟩ := int_inv 2 (by decide) (by decide) h0 z0 (by show 0 ≤ S.length; omega)
  simp only at b0 c0 d0
  subst b0
  obtain ⟨_, b1, c1, d1⟩ := int_inv 8 (by decide) (by decide) h1 z1 c0
  have f1 := int_invF 8 (by decide) (by decide) h1 z1 c0
  simp only at b1 c1 d1
  subst b1
  obtain ⟨_, b2, c2, d2⟩ := int_inv 2 (by decide) (by decide) h2 z2 c1
  simp only at b2 c2 d2
  subst b2
  obtain ⟨_, b3, c3, d3⟩ := int_inv 4 (by decide) (by decide) h3 z3 c2
  simp only at b3 c3 d3
  subst b3
  obtain ⟨_, b4, c4, d4⟩ := int_inv 1 (by decide) (by decide) h4 z4 c3
  simp only at b4 c4 d4
  subst b4
  obtain ⟨_, k5, b5, c5, d5⟩ := tops_inv h5 z5 c4
  simp only at b5 c5 d5
  subst b5
  obtain ⟨_, b6, c6, d6⟩ := int_inv 8 (by decide) (by decide) h6 z6 c5
  have f6 := int_invF 8 (by decide) (by decide) h6 z6 c5
  simp only at b6 c6 d6
  subst b6
  obtain ⟨_, b7, c7, d7⟩ := int_inv 8 (by decide) (by decide) h7 z7 c6
  have f7 := int_invF 8 (by decide) (by decide) h7 z7 c6
  simp only at b7 c7 d7
  subst b7
  have hall : S.take (0 + 2 + 8 + 2 + 4 + 1 + k5 + 8 + 8) = S := by
    refine List.take_of_length_le ?_
    unfold InS.left at hleft
    simp only at hleft
    omega
  have r1 := fits_rng p 8 f1
  have r6 := fits_rng u 8 f6
  have r7 := fits_rng st 8 f7
  refine ⟨?_, he, ?_⟩
  · rw [← hV, ← hall, d7, d6, d5, d4, d3, d2, d1, d0, List.take_zero, List.nil_append]
    rfl
  · obtain ⟨hp, ⟨hs1, hs2⟩, _⟩ := v.ok_parts he
    obtain ⟨q1, ⟨q2, q3⟩, ⟨q4, q5⟩, q6, q7⟩ := ranged_parts v hp
    subst hV
    simp only at q1 q2 q3 q4 q5 q6 q7 hs1 hs2
    unfold ValS.R
    simp only
    refine ⟨r1, ⟨by omega, by omega⟩, ⟨by omega, by omega⟩, ⟨by omega, by omega⟩, r6, r7⟩

end Go.Proofs.YtmpehoebgifmnaaDoor
/- Whether two rows of numbers are one. -/
namespace Go.Proofs.YtmpehoebgifmnaaDoor
open Go.RowKit

set_option maxHeartbeats 1000000 in
set_option maxRecDepth 100000 in
theorem ints_same01 (a b : List Int) (q1 q2 : Option Addr) (cap1 cap2 : Nat) (hl : a.length ≤ 9223372036854775807) (hl2 : b.length ≤ 9223372036854775807) (r : Bool) (hr : decide (a = b) = r) {W0 w : World} {K : Know} {L : List Res} (hka : K.has (Know.flat RI (.slice q1 a.length cap1) 1 a)) (hkb : K.has (Know.flat RI (.slice q2 b.length cap2) 1 b)) (h : St W0 w K L) :
    Calls Tryd.prog 39 #[.slice q1 a.length cap1, .slice q2 b.length cap2] w fun en w' => en = .returned (.bool r) ∧ St W0 w' K L := by
  have H := Lib.hid h
  have HA := Lib.hid hka
  have HB := Lib.hid hkb
  clear h hka hkb
  by_cases hlen : a.length = b.length
  · have HLEN := Lib.hid hlen
    have HR := Lib.hid hr
    rw [← hlen]
    clear hr hlen
    go_enter Tryd.func39, Tryd.ntmps39
    go_wp2
    go_loopw [5] (fun iv wr => ∃ k : Nat, k ≤ a.length ∧ iv = .int .i64 k ∧ Hid (a.take k = b.take k) ∧ St W0 wr K L) (fun iv _ => a.length - (intOf iv).toNat)
    case atStart => exact ⟨0, Nat.zero_le _, rfl, Lib.hid (by simp), H.out⟩
    case round =>
      obtain ⟨k, hk, rfl, HEQ, hst⟩ := hrel
      clear H
      have H := Lib.hid hst
      clear hst
      by_cases hlt : k < a.length
      · have hltb : k < b.length := by have := HLEN.out; omega
        obtain ⟨ba, oa, hqa⟩ := flat_at HA.out H.out (by omega)
        obtain ⟨bb', ob, hqb⟩ := flat_at HB.out H.out (by omega)
        subst hqa
        subst hqb
        have c0 := int_cell HA.out H.out k hlt
        have c1 := int_cell HB.out H.out k hltb
        have ea : a.take (k + 1) = a.take k ++ [a.getD k 0] := by rw [List.take_succ_eq_append_getElem hlt, List.getD_eq_getElem?_getD, List.getElem?_eq_getElem hlt]; rfl
        have eb : b.take (k + 1) = b.take k ++ [b.getD k 0] := by rw [List.take_succ_eq_append_getElem hltb, List.getD_eq_getElem?_getD, List.getElem?_eq_getElem hltb]; rfl
        have hne : a.getD k 0 ≠ b.getD k 0 → a ≠ b := by rintro h rfl; exact h rfl
        obtain ⟨x, hx⟩ : ∃ x, a.getD k 0 = x := ⟨_, rfl⟩
        obtain ⟨y, hy⟩ : ∃ y, b.getD k 0 = y := ⟨_, rfl⟩
        rw [hx] at c0 ea hne
        rw [hy] at c1 eb hne
        have EA := Lib.hid (And.intro ea (And.intro eb hne))
        clear ea eb hne hx hy hltb
        by_cases hxy : x = y
        · subst hxy
          go_wp2
          go_quiet (fail)
          go_wp2
          go_roundw
          case rel => exact ⟨k + 1, hlt, by go_num, Lib.hid (by rw [EA.out.1, EA.out.2.1, HEQ.out]), H.out.drewN _⟩
          case measure => first | (simp [intOf]; done) | (simp [intOf]; omega)
        · have HNE := Lib.hid (EA.out.2.2 hxy)
          go_wp2
          go_quiet (fail)
          go_wp2
          go_ret
          exact ⟨ret_bool (by rw [← HR.out]; exact (decide_eq_false HNE.out).symm), H.out.drewN _⟩
      · have hke : k = a.length := by omega
        subst hke
        go_wp2
        go_ret
        refine ⟨ret_bool ?_, H.out⟩
        have h := HEQ.out
        rw [List.take_of_length_le (by omega), List.take_of_length_le (by have := HLEN.out; omega)] at h
        rw [← HR.out]
        exact (decide_eq_true h).symm
  · have HR := Lib.hid hr
    have hne : ¬ ((a.length : Int) = (b.length : Int)) := by omega
    have HLEN := Lib.hid hlen
    clear hr hlen
    go_enter Tryd.func39, Tryd.ntmps39
    go_wp2
    go_ret
    exact ⟨ret_bool (by rw [← HR.out]; exact (decide_eq_false (by rintro rfl; exact HLEN.out rfl)).symm), H.out⟩

end Go.Proofs.YtmpehoebgifmnaaDoor
/- Whether two rows of topics are one. -/
namespace Go.Proofs.YtmpehoebgifmnaaDoor
open Go.RowKit

end Go.Proofs.YtmpehoebgifmnaaDoor
