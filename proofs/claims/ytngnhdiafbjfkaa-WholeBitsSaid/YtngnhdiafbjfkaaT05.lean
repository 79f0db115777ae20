/- Through the layers: WholeBits. -/
import Derived.Test.YtngnhdiafbjfkaaL10W
import Derived.Test.YtngnhdiafbjfkaaL09
import Derived.Test.YtngnhdiafbjfkaaBytesR
import Derived.Deep.DeepCutAuto
namespace Go.Proofs.Ytngnhdiafbjfkaa
open Go.RowKit

theorem St.raw_ne {W0 w : World} {K : Know} {L : List Res} {a b : Nat} {c c' : Array Value} {T T' : TypeId} (h : St W0 w K (.raw a c T :: .raw b c' T' :: L)) : ¬ (a = b) := by
  rintro rfl
  obtain ⟨_, S, F, ⟨S1, S2, h1, ⟨S3, S4, h3, _, _, e3⟩, d1, _⟩, _⟩ := h
  exact d1 a ((h1.2 a).2 rfl) ((e3 a).2 (.inl ((h3.2 a).2 rfl)))
theorem St.conv {W0 w : World} {K : Know} {L : List Res} (_h : St W0 w K L) (s : Bs) :
    ∃ C cap, s.length ≤ C.size ∧ (∀ j (h : j < s.length), C[j]? = some (.int .u8 (s[j].toNat : Int))) ∧
      (convert 9 36 (.string (bb s))).run Try.prog w = .ok (.slice (some ⟨w.heap.size, 0, none⟩) s.length cap) (w.drew.alloc (.cells C 5 (C.size, C.size + 1))) := conv_bytes' w s
def i16 (n : Int) : Int := if n < 32768 then n else n - 65536
theorem i16_wrap (n : Int) (h0 : 0 ≤ n) (h1 : n < 65536) : IntKind.i16.wrap n = i16 n := by
  unfold i16 IntKind.wrap
  simp only [IntKind.bits, IntKind.signed]
  simp
  split <;> split <;> omega
theorem be_i16 (n : Int) (h0 : 0 ≤ n) (h1 : n < 65536) : beBytes (i16 n) 2 = [UInt8.ofNat (n / 256).toNat, UInt8.ofNat (n % 256).toNat] := by
  show ([] ++ [UInt8.ofNat ((i16 n) / 256 % 256).toNat]) ++ [UInt8.ofNat ((i16 n) % 256).toNat] = _
  have e1 : (i16 n) / 256 % 256 = n / 256 := by unfold i16; split <;> omega
  have e2 : (i16 n) % 256 = n % 256 := by unfold i16; split <;> omega
  rw [e1, e2]
  rfl
theorem i16_fits (n : Int) (h0 : 0 ≤ n) (h1 : n < 65536) : fits (i16 n) 2 := by
  have e : half 2 = 32768 := by decide
  unfold fits
  have : (2 : Int).toNat = 2 := rfl
  rw [this, e]
  unfold i16
  split <;> omega
theorem items_attr (x : PreS) (v : Int) : ({ x with attr := v } : PreS).items = x.items.take 5 ++ ([(v, 2)] ++ x.items.drop 6) := rfl
theorem enc_set (x : PreS) (v : Int) (c1 c2 : UInt8) (h : beBytes v 2 = [c1, c2]) : ((encInts x.items).set 21 c1).set 22 c2 = encInts ({ x with attr := v } : PreS).items := by
  have e0 : encInts x.items = encInts (x.items.take 5) ++ (encInts [(x.attr, 2)] ++ encInts (x.items.drop 6)) := by rw [← encInts_append, ← encInts_append]; rfl
  have hl : (encInts (x.items.take 5)).length = 21 := by rw [encInts_length]; rfl
  rw [e0, items_attr x v, encInts_append, encInts_append]
  obtain ⟨P, hP⟩ : ∃ P, encInts (x.items.take 5) = P := ⟨_, rfl⟩
  obtain ⟨Q, hQ⟩ : ∃ Q, encInts (x.items.drop 6) = Q := ⟨_, rfl⟩
  rw [hP] at hl ⊢
  rw [hQ]
  have e1 : encInts [(v, 2)] = [c1, c2] := by rw [← h]; simp [encInts]
  have e2 : encInts [(x.attr, 2)] = [UInt8.ofNat (x.attr / 256 % 256).toNat, UInt8.ofNat (x.attr % 256).toNat] := by
    show beBytes x.attr 2 ++ [] = _
    rw [List.append_nil]
    rfl
  rw [e1, e2, List.set_append_right _ _ (by omega), hl, List.set_append_right _ _ (by omega), hl]
  rfl
theorem fits_attr (x : PreS) (v : Int) (hf : FitsAll x.items) (hv : fits v 2) : FitsAll ({ x with attr := v } : PreS).items := by
  rw [items_attr]
  exact FitsAll.append (fun y hy => hf y (List.mem_of_mem_take hy)) ((FitsAll.one hv).append (fun y hy => hf y (List.mem_of_mem_drop hy)))
theorem pre_back (x : PreS) (hf : FitsAll x.items) (hl : ¬ x.len < 49) (hc : ¬ x.count < 0) : (⟨encInts x.items, 0, 0⟩ : InS).pre = (x, ⟨encInts x.items, 61, 0⟩) ∧ rePre (encInts x.items) = .ok x ∧ (encInts x.items).length = 61 := by
  have hlen : (encInts x.items).length = 61 := by rw [encInts_length]; rfl
  have h1 := pre_okA (encInts x.items) 0 (by omega)
  have h2 : rePre (encInts x.items) = .ok x := by
    have h3 := preX_enc x hf
    unfold rePre
    rw [if_neg (by omega), h3, if_pos rfl, if_neg hl, if_neg hc]
  rw [List.drop_zero, h2] at h1
  exact ⟨h1, h2, hlen⟩

set_option maxHeartbeats 1000000 in
set_option maxRecDepth 100000 in
theorem wholeBits_bad (b0 b1 b2 : Bool) (x : PreS) (bits A : Int) (hA : attrN b0 b1 b2 3 = A) (hx : ({ x with attr := A } : PreS).R) (hbits : 0 ≤ bits ∧ bits < 65536) (hf : ¬ FitsAll ({ x with attr := A } : PreS).items) {W0 w : World} (h : St W0 w Know.none []) :
    Calls Try.prog 9 #[.agg #[.bool b0, .bool b1, .bool b2], .agg #[.int .i64 x.base, .int .i64 x.len, .int .i64 x.leader, .int .i64 x.sum, .int .i64 x.attr, .int .i64 x.last, .int .i64 x.first, .int .i64 x.maxt, .int .i64 x.prod, .int .i64 x.epoch, .int .i64 x.seq, .int .i64 x.count], .int .u16 bits] w fun en w' => en = .returned (.bool true) ∧ Below W0.heap.size W0 w' := by
  have h0 := (h.allocRaw #[.bool b0, .bool b1, .bool b2] 62).allocRaw #[.int .i64 x.base, .int .i64 x.len, .int .i64 x.leader, .int .i64 x.sum, .int .i64 x.attr, .int .i64 x.last, .int .i64 x.first, .int .i64 x.maxt, .int .i64 x.prod, .int .i64 x.epoch, .int .i64 x.seq, .int .i64 x.count] 35
  rw [World.size_alloc] at h0
  obtain ⟨bA, hbA⟩ : ∃ b, w.heap.size = b := ⟨_, rfl⟩
  rw [hbA] at h0
  have H := Lib.hid h0
  have HY := Lib.hid hx
  have E8 := Lib.hid (show attrN true false false 3 = 8 by decide)
  have EA := Lib.hid hA
  have tokA : True := trivial
  obtain ⟨o, ho⟩ : ∃ o, (⟨[], 0⟩ : OutS).ints ({ x with attr := A } : PreS).items = o := ⟨_, rfl⟩
  have EO := Lib.hid ho
  have ET := Lib.hid (show o.text = ([], 11) by have h1 := OutS.ints_fail ({ x with attr := A } : PreS).items ⟨[], 0⟩ hf rfl; rw [ho] at h1; unfold OutS.text; rw [if_neg (by rw [h1]; decide), h1])
  clear h h0 hx ho hf hA hbits
  go_enter Try.func9, Try.ntmps9
  go_upto_region 3 with (go_at_call 15; have _t := tokA; clear _t; refine (attr_of _ _ _ _ _ _ _ _ _ _ _ _ _ _ H.out).mono ?_; rw [E8.out]; rintro e wn ⟨rfl, h⟩; replace H := Lib.hid h; clear h tokA; have g0 := (H.out.p1).rawCell 0; have g1 := (H.out.p1).rawCell 1; have g2 := (H.out.p1).rawCell 2; simp at g0 g1 g2)
  go_cut [] (fun wx => St W0 wx Know.none [.raw (bA + 1) #[.int .i64 x.base, .int .i64 x.len, .int .i64 x.leader, .int .i64 x.sum, .int .i64 A, .int .i64 x.last, .int .i64 x.first, .int .i64 x.maxt, .int .i64 x.prod, .int .i64 x.epoch, .int .i64 x.seq, .int .i64 x.count] 35, .raw bA #[.bool b0, .bool b1, .bool b2] 62])
  case first =>
    go_wp2_with (go_at_call 15; refine (attr_of _ _ _ _ _ _ _ _ _ _ _ _ _ _ H.out).mono ?_; rw [EA.out]; rintro e wn ⟨rfl, h⟩; obtain ⟨pc0, pc1, pc2, pc3, pc4, pc5, pc6, pc7, pc8, pc9, pc10, pc11, pf0, pf1, pf2, pf3, pf4, pf5, pf6, pf7, pf8, pf9, pf10, pf11⟩ := raw12 (b := bA + 1) h; have hne : ¬ (bA + 1 = wn.heap.size) := (by have := heap_lt h.rawGet; omega); replace H := Lib.hid (show St W0 (wn.setCell ⟨bA + 1, 4, none⟩ (.int .i64 A)) Know.none [.raw (bA + 1) #[.int .i64 x.base, .int .i64 x.len, .int .i64 x.leader, .int .i64 x.sum, .int .i64 A, .int .i64 x.last, .int .i64 x.first, .int .i64 x.maxt, .int .i64 x.prod, .int .i64 x.epoch, .int .i64 x.seq, .int .i64 x.count] 35, .raw bA #[.bool b0, .bool b1, .bool b2] 62] from h.rawSet 4 (.int .i64 A)); clear h)
    go_meet
    exact H.out
  clear H
  have H := Lib.hid hcut
  have HA := Lib.hid H.out.allocOut.p1
  obtain ⟨pc0, pc1, pc2, pc3, pc4, pc5, pc6, pc7, pc8, pc9, pc10, pc11, pf0, pf1, pf2, pf3, pf4, pf5, pf6, pf7, pf8, pf9, pf10, pf11⟩ := raw12 (b := bA + 1) HA.out
  clear hcut
  go_wp2_with (first
    | (go_at_call 17; refine (prefix_write _ _ ({ x with attr := A } : PreS) HY.out H.out.allocOut (by unfold OutS.ok; decide)).mono ?_; rw [EO.out]; rintro e wn ⟨rfl, h⟩; replace H := Lib.hid h; clear h)
    | (go_at_call 18; refine (so_text _ _ H.out).mono ?_; (repeat first | rw [ET.out]); rintro e wn ⟨rfl, h⟩; replace H := Lib.hid h; clear h; replace H := Lib.hid H.out.p1; obtain ⟨pc0, pc1, pc2, pc3, pc4, pc5, pc6, pc7, pc8, pc9, pc10, pc11, pf0, pf1, pf2, pf3, pf4, pf5, pf6, pf7, pf8, pf9, pf10, pf11⟩ := raw12 (b := bA + 1) H.out))
  go_ret
  exact ⟨rfl, H.out.below⟩

set_option maxHeartbeats 1000000 in
set_option maxRecDepth 100000 in
theorem wholeBits_l (b0 b1 b2 : Bool) (x : PreS) (bits A : Int) (hA : attrN b0 b1 b2 3 = A) (hx : ({ x with attr := A } : PreS).R) (hbits : 0 ≤ bits ∧ bits < 65536) (hf : FitsAll ({ x with attr := A } : PreS).items) (hl : x.len < 49) {W0 w : World} (h : St W0 w Know.none []) :
    Calls Try.prog 9 #[.agg #[.bool b0, .bool b1, .bool b2], .agg #[.int .i64 x.base, .int .i64 x.len, .int .i64 x.leader, .int .i64 x.sum, .int .i64 x.attr, .int .i64 x.last, .int .i64 x.first, .int .i64 x.maxt, .int .i64 x.prod, .int .i64 x.epoch, .int .i64 x.seq, .int .i64 x.count], .int .u16 bits] w fun en w' => en = .returned (.bool true) ∧ Below W0.heap.size W0 w' := by
  have h0 := (h.allocRaw #[.bool b0, .bool b1, .bool b2] 62).allocRaw #[.int .i64 x.base, .int .i64 x.len, .int .i64 x.leader, .int .i64 x.sum, .int .i64 x.attr, .int .i64 x.last, .int .i64 x.first, .int .i64 x.maxt, .int .i64 x.prod, .int .i64 x.epoch, .int .i64 x.seq, .int .i64 x.count] 35
  rw [World.size_alloc] at h0
  obtain ⟨bA, hbA⟩ : ∃ b, w.heap.size = b := ⟨_, rfl⟩
  rw [hbA] at h0
  have H := Lib.hid h0
  have HY := Lib.hid hx
  have E8 := Lib.hid (show attrN true false false 3 = 8 by decide)
  have EA := Lib.hid hA
  have tokA : True := trivial
  obtain ⟨s, hs⟩ : ∃ s, encInts ({ x with attr := A } : PreS).items = s := ⟨_, rfl⟩
  have EO := Lib.hid (show (⟨[], 0⟩ : OutS).ints ({ x with attr := A } : PreS).items = ⟨s, 0⟩ by rw [OutS.ints_put _ _ hf, ← hs]; rfl)
  have ET := Lib.hid (show (⟨s, 0⟩ : OutS).text = (s, 0) from rfl)
  clear h h0 hx hf hA hbits hs
  go_enter Try.func9, Try.ntmps9
  go_upto_region 3 with (go_at_call 15; have _t := tokA; clear _t; refine (attr_of _ _ _ _ _ _ _ _ _ _ _ _ _ _ H.out).mono ?_; rw [E8.out]; rintro e wn ⟨rfl, h⟩; replace H := Lib.hid h; clear h tokA; have g0 := (H.out.p1).rawCell 0; have g1 := (H.out.p1).rawCell 1; have g2 := (H.out.p1).rawCell 2; simp at g0 g1 g2)
  go_cut [] (fun wx => St W0 wx Know.none [.raw (bA + 1) #[.int .i64 x.base, .int .i64 x.len, .int .i64 x.leader, .int .i64 x.sum, .int .i64 A, .int .i64 x.last, .int .i64 x.first, .int .i64 x.maxt, .int .i64 x.prod, .int .i64 x.epoch, .int .i64 x.seq, .int .i64 x.count] 35, .raw bA #[.bool b0, .bool b1, .bool b2] 62])
  case first =>
    go_wp2_with (go_at_call 15; refine (attr_of _ _ _ _ _ _ _ _ _ _ _ _ _ _ H.out).mono ?_; rw [EA.out]; rintro e wn ⟨rfl, h⟩; obtain ⟨pc0, pc1, pc2, pc3, pc4, pc5, pc6, pc7, pc8, pc9, pc10, pc11, pf0, pf1, pf2, pf3, pf4, pf5, pf6, pf7, pf8, pf9, pf10, pf11⟩ := raw12 (b := bA + 1) h; have hne : ¬ (bA + 1 = wn.heap.size) := (by have := heap_lt h.rawGet; omega); replace H := Lib.hid (show St W0 (wn.setCell ⟨bA + 1, 4, none⟩ (.int .i64 A)) Know.none [.raw (bA + 1) #[.int .i64 x.base, .int .i64 x.len, .int .i64 x.leader, .int .i64 x.sum, .int .i64 A, .int .i64 x.last, .int .i64 x.first, .int .i64 x.maxt, .int .i64 x.prod, .int .i64 x.epoch, .int .i64 x.seq, .int .i64 x.count] 35, .raw bA #[.bool b0, .bool b1, .bool b2] 62] from h.rawSet 4 (.int .i64 A)); clear h)
    go_meet
    exact H.out
  clear H
  have H := Lib.hid hcut
  have HA := Lib.hid H.out.allocOut.p1
  obtain ⟨pc0, pc1, pc2, pc3, pc4, pc5, pc6, pc7, pc8, pc9, pc10, pc11, pf0, pf1, pf2, pf3, pf4, pf5, pf6, pf7, pf8, pf9, pf10, pf11⟩ := raw12 (b := bA + 1) HA.out
  clear hcut
  go_wp2_with (first
    | (go_at_call 17; refine (prefix_write _ _ ({ x with attr := A } : PreS) HY.out H.out.allocOut (by unfold OutS.ok; decide)).mono ?_; rw [EO.out]; rintro e wn ⟨rfl, h⟩; replace H := Lib.hid h; clear h)
    | (go_at_call 18; refine (so_text _ _ H.out).mono ?_; (repeat first | rw [ET.out]); rintro e wn ⟨rfl, h⟩; replace H := Lib.hid h; clear h; replace H := Lib.hid H.out.p1; obtain ⟨pc0, pc1, pc2, pc3, pc4, pc5, pc6, pc7, pc8, pc9, pc10, pc11, pf0, pf1, pf2, pf3, pf4, pf5, pf6, pf7, pf8, pf9, pf10, pf11⟩ := raw12 (b := bA + 1) H.out))
  go_ret
  exact ⟨rfl, H.out.below⟩

set_option maxHeartbeats 1000000 in
set_option maxRecDepth 100000 in
theorem wholeBits_c (b0 b1 b2 : Bool) (x : PreS) (bits A : Int) (hA : attrN b0 b1 b2 3 = A) (hx : ({ x with attr := A } : PreS).R) (hbits : 0 ≤ bits ∧ bits < 65536) (hf : FitsAll ({ x with attr := A } : PreS).items) (hl : ¬ x.len < 49) (hc : x.count < 0) {W0 w : World} (h : St W0 w Know.none []) :
    Calls Try.prog 9 #[.agg #[.bool b0, .bool b1, .bool b2], .agg #[.int .i64 x.base, .int .i64 x.len, .int .i64 x.leader, .int .i64 x.sum, .int .i64 x.attr, .int .i64 x.last, .int .i64 x.first, .int .i64 x.maxt, .int .i64 x.prod, .int .i64 x.epoch, .int .i64 x.seq, .int .i64 x.count], .int .u16 bits] w fun en w' => en = .returned (.bool true) ∧ Below W0.heap.size W0 w' := by
  have h0 := (h.allocRaw #[.bool b0, .bool b1, .bool b2] 62).allocRaw #[.int .i64 x.base, .int .i64 x.len, .int .i64 x.leader, .int .i64 x.sum, .int .i64 x.attr, .int .i64 x.last, .int .i64 x.first, .int .i64 x.maxt, .int .i64 x.prod, .int .i64 x.epoch, .int .i64 x.seq, .int .i64 x.count] 35
  rw [World.size_alloc] at h0
  obtain ⟨bA, hbA⟩ : ∃ b, w.heap.size = b := ⟨_, rfl⟩
  rw [hbA] at h0
  have H := Lib.hid h0
  have HY := Lib.hid hx
  have E8 := Lib.hid (show attrN true false false 3 = 8 by decide)
  have EA := Lib.hid hA
  have tokA : True := trivial
  obtain ⟨s, hs⟩ : ∃ s, encInts ({ x with attr := A } : PreS).items = s := ⟨_, rfl⟩
  have EO := Lib.hid (show (⟨[], 0⟩ : OutS).ints ({ x with attr := A } : PreS).items = ⟨s, 0⟩ by rw [OutS.ints_put _ _ hf, ← hs]; rfl)
  have ET := Lib.hid (show (⟨s, 0⟩ : OutS).text = (s, 0) from rfl)
  clear h h0 hx hf hA hbits hs
  go_enter Try.func9, Try.ntmps9
  go_upto_region 3 with (go_at_call 15; have _t := tokA; clear _t; refine (attr_of _ _ _ _ _ _ _ _ _ _ _ _ _ _ H.out).mono ?_; rw [E8.out]; rintro e wn ⟨rfl, h⟩; replace H := Lib.hid h; clear h tokA; have g0 := (H.out.p1).rawCell 0; have g1 := (H.out.p1).rawCell 1; have g2 := (H.out.p1).rawCell 2; simp at g0 g1 g2)
  go_cut [] (fun wx => St W0 wx Know.none [.raw (bA + 1) #[.int .i64 x.base, .int .i64 x.len, .int .i64 x.leader, .int .i64 x.sum, .int .i64 A, .int .i64 x.last, .int .i64 x.first, .int .i64 x.maxt, .int .i64 x.prod, .int .i64 x.epoch, .int .i64 x.seq, .int .i64 x.count] 35, .raw bA #[.bool b0, .bool b1, .bool b2] 62])
  case first =>
    go_wp2_with (go_at_call 15; refine (attr_of _ _ _ _ _ _ _ _ _ _ _ _ _ _ H.out).mono ?_; rw [EA.out]; rintro e wn ⟨rfl, h⟩; obtain ⟨pc0, pc1, pc2, pc3, pc4, pc5, pc6, pc7, pc8, pc9, pc10, pc11, pf0, pf1, pf2, pf3, pf4, pf5, pf6, pf7, pf8, pf9, pf10, pf11⟩ := raw12 (b := bA + 1) h; have hne : ¬ (bA + 1 = wn.heap.size) := (by have := heap_lt h.rawGet; omega); replace H := Lib.hid (show St W0 (wn.setCell ⟨bA + 1, 4, none⟩ (.int .i64 A)) Know.none [.raw (bA + 1) #[.int .i64 x.base, .int .i64 x.len, .int .i64 x.leader, .int .i64 x.sum, .int .i64 A, .int .i64 x.last, .int .i64 x.first, .int .i64 x.maxt, .int .i64 x.prod, .int .i64 x.epoch, .int .i64 x.seq, .int .i64 x.count] 35, .raw bA #[.bool b0, .bool b1, .bool b2] 62] from h.rawSet 4 (.int .i64 A)); clear h)
    go_meet
    exact H.out
  clear H
  have H := Lib.hid hcut
  have HA := Lib.hid H.out.allocOut.p1
  obtain ⟨pc0, pc1, pc2, pc3, pc4, pc5, pc6, pc7, pc8, pc9, pc10, pc11, pf0, pf1, pf2, pf3, pf4, pf5, pf6, pf7, pf8, pf9, pf10, pf11⟩ := raw12 (b := bA + 1) HA.out
  clear hcut
  go_wp2_with (first
    | (go_at_call 17; refine (prefix_write _ _ ({ x with attr := A } : PreS) HY.out H.out.allocOut (by unfold OutS.ok; decide)).mono ?_; rw [EO.out]; rintro e wn ⟨rfl, h⟩; replace H := Lib.hid h; clear h)
    | (go_at_call 18; refine (so_text _ _ H.out).mono ?_; (repeat first | rw [ET.out]); rintro e wn ⟨rfl, h⟩; replace H := Lib.hid h; clear h; replace H := Lib.hid H.out.p1; obtain ⟨pc0, pc1, pc2, pc3, pc4, pc5, pc6, pc7, pc8, pc9, pc10, pc11, pf0, pf1, pf2, pf3, pf4, pf5, pf6, pf7, pf8, pf9, pf10, pf11⟩ := raw12 (b := bA + 1) H.out))
  go_ret
  exact ⟨rfl, H.out.below⟩

set_option maxHeartbeats 1000000 in
set_option maxRecDepth 100000 in
theorem wholeBits_ok (b0 b1 b2 : Bool) (x : PreS) (bits A : Int) (hA : attrN b0 b1 b2 3 = A) (hx : ({ x with attr := A } : PreS).R) (hbits : 0 ≤ bits ∧ bits < 65536) (hf : FitsAll ({ x with attr := A } : PreS).items) (hl : ¬ x.len < 49) (hc : ¬ x.count < 0) {W0 w : World} (h : St W0 w Know.none []) :
    Calls Try.prog 9 #[.agg #[.bool b0, .bool b1, .bool b2], .agg #[.int .i64 x.base, .int .i64 x.len, .int .i64 x.leader, .int .i64 x.sum, .int .i64 x.attr, .int .i64 x.last, .int .i64 x.first, .int .i64 x.maxt, .int .i64 x.prod, .int .i64 x.epoch, .int .i64 x.seq, .int .i64 x.count], .int .u16 bits] w fun en w' => en = .returned (.bool true) ∧ Below W0.heap.size W0 w' := by
  have h0 := (h.allocRaw #[.bool b0, .bool b1, .bool b2] 62).allocRaw #[.int .i64 x.base, .int .i64 x.len, .int .i64 x.leader, .int .i64 x.sum, .int .i64 x.attr, .int .i64 x.last, .int .i64 x.first, .int .i64 x.maxt, .int .i64 x.prod, .int .i64 x.epoch, .int .i64 x.seq, .int .i64 x.count] 35
  rw [World.size_alloc] at h0
  obtain ⟨bA, hbA⟩ : ∃ b, w.heap.size = b := ⟨_, rfl⟩
  rw [hbA] at h0
  have H := Lib.hid h0
  have HY := Lib.hid hx
  have E8 := Lib.hid (show attrN true false false 3 = 8 by decide)
  have EA := Lib.hid hA
  have tokA : True := trivial
  have hb := back_facts b0 b1 b2
  rw [hA] at hb
  obtain ⟨_, hb3, hb4, hb5, _⟩ := hb
  have B3 := Lib.hid hb3
  have B4 := Lib.hid hb4
  have B5 := Lib.hid hb5
  obtain ⟨g1, g2, g3⟩ := pre_back ({ x with attr := A } : PreS) hf hl hc
  have hfit := i16_fits bits hbits.1 hbits.2
  obtain ⟨V, hV⟩ : ∃ v, i16 bits = v := ⟨_, rfl⟩
  have hset := enc_set ({ x with attr := A } : PreS) (i16 bits) _ _ (be_i16 bits hbits.1 hbits.2)
  have hf2 := fits_attr ({ x with attr := A } : PreS) (i16 bits) hf hfit
  obtain ⟨r1, r2, r3⟩ := pre_back ({ x with attr := V } : PreS) (by rw [hV] at hf2; exact hf2) hl hc
  obtain ⟨s, hs⟩ : ∃ s, encInts ({ x with attr := A } : PreS).items = s := ⟨_, rfl⟩
  have EO := Lib.hid (show (⟨[], 0⟩ : OutS).ints ({ x with attr := A } : PreS).items = ⟨s, 0⟩ by rw [OutS.ints_put _ _ hf, ← hs]; rfl)
  have ET := Lib.hid (show (⟨s, 0⟩ : OutS).text = (s, 0) from rfl)
  rw [hs] at g1 g2 g3 hset
  rw [hV] at hset
  have hset : (s.set 21 (UInt8.ofNat (bits / 256).toNat)).set 22 (UInt8.ofNat (bits % 256).toNat) = encInts ({ x with attr := V } : PreS).items := hset
  obtain ⟨s', hs'⟩ : ∃ s', encInts ({ x with attr := V } : PreS).items = s' := ⟨_, rfl⟩
  rw [hs'] at r1 r2 r3 hset
  have EP := Lib.hid g1
  have EP2 := Lib.hid r1
  have EK := Lib.hid (show peekS s' = (x.len + 12, 0) by unfold peekS; rw [if_neg (by omega), r2])
  have HSL := Lib.hid (show s.length ≤ 140737488355328 by omega)
  have HSL2 := Lib.hid (show s'.length ≤ 140737488355328 by omega)
  have hl61 : 61 ≤ s.length := by omega
  have HSET := Lib.hid hset
  have HLEN := Lib.hid (And.intro g3 r3)
  have HV := Lib.hid hV
  have hlr := preX_len s
  have hlx : (preX s).1.len = x.len := by rw [(rePre_ok g2).2.1]
  rw [hlx] at hlr
  obtain ⟨hl1, hl2⟩ := hlr
  obtain ⟨hb1, hb2⟩ := hbits
  have HW := Lib.hid (i16_wrap bits hb1 hb2)
  clear h h0 hx hf hA hs hb3 hb4 hb5 g1 g2 g3 r1 r2 r3 hset hs' hfit hV hf2 hlx
  go_enter Try.func9, Try.ntmps9
  go_upto_region 3 with (go_at_call 15; have _t := tokA; clear _t; refine (attr_of _ _ _ _ _ _ _ _ _ _ _ _ _ _ H.out).mono ?_; rw [E8.out]; rintro e wn ⟨rfl, h⟩; replace H := Lib.hid h; clear h tokA; have g0 := (H.out.p1).rawCell 0; have g1 := (H.out.p1).rawCell 1; have g2 := (H.out.p1).rawCell 2; simp at g0 g1 g2)
  go_cut [] (fun wx => St W0 wx Know.none [.raw (bA + 1) #[.int .i64 x.base, .int .i64 x.len, .int .i64 x.leader, .int .i64 x.sum, .int .i64 A, .int .i64 x.last, .int .i64 x.first, .int .i64 x.maxt, .int .i64 x.prod, .int .i64 x.epoch, .int .i64 x.seq, .int .i64 x.count] 35, .raw bA #[.bool b0, .bool b1, .bool b2] 62])
  case first =>
    go_wp2_with (go_at_call 15; refine (attr_of _ _ _ _ _ _ _ _ _ _ _ _ _ _ H.out).mono ?_; rw [EA.out]; rintro e wn ⟨rfl, h⟩; obtain ⟨pc0, pc1, pc2, pc3, pc4, pc5, pc6, pc7, pc8, pc9, pc10, pc11, pf0, pf1, pf2, pf3, pf4, pf5, pf6, pf7, pf8, pf9, pf10, pf11⟩ := raw12 (b := bA + 1) h; have hne : ¬ (bA + 1 = wn.heap.size) := (by have := heap_lt h.rawGet; omega); replace H := Lib.hid (show St W0 (wn.setCell ⟨bA + 1, 4, none⟩ (.int .i64 A)) Know.none [.raw (bA + 1) #[.int .i64 x.base, .int .i64 x.len, .int .i64 x.leader, .int .i64 x.sum, .int .i64 A, .int .i64 x.last, .int .i64 x.first, .int .i64 x.maxt, .int .i64 x.prod, .int .i64 x.epoch, .int .i64 x.seq, .int .i64 x.count] 35, .raw bA #[.bool b0, .bool b1, .bool b2] 62] from h.rawSet 4 (.int .i64 A)); clear h)
    go_meet
    exact H.out
  clear H
  have H := Lib.hid hcut
  have HA := Lib.hid H.out.allocOut.p1
  obtain ⟨pc0, pc1, pc2, pc3, pc4, pc5, pc6, pc7, pc8, pc9, pc10, pc11, pf0, pf1, pf2, pf3, pf4, pf5, pf6, pf7, pf8, pf9, pf10, pf11⟩ := raw12 (b := bA + 1) HA.out
  clear hcut
  go_upto_region 11 with (first
    | (go_at_call 17; refine (prefix_write _ _ ({ x with attr := A } : PreS) HY.out H.out.allocOut (by unfold OutS.ok; decide)).mono ?_; rw [EO.out]; rintro e wn ⟨rfl, h⟩; replace H := Lib.hid h; clear h)
    | (go_at_call 18; refine (so_text _ _ H.out).mono ?_; (repeat first | rw [ET.out]); rintro e wn ⟨rfl, h⟩; replace H := Lib.hid h; clear h; replace H := Lib.hid H.out.p1; obtain ⟨pc0, pc1, pc2, pc3, pc4, pc5, pc6, pc7, pc8, pc9, pc10, pc11, pf0, pf1, pf2, pf3, pf4, pf5, pf6, pf7, pf8, pf9, pf10, pf11⟩ := raw12 (b := bA + 1) H.out)
    | (go_at_call 21; refine (s_new s HSL.out H.out).mono ?_; rintro e wn ⟨bi, rfl, h⟩; replace H := Lib.hid h; clear h)
    | (go_at_call 22; refine (prefix_readQ _ _ _ _ EP.out H.out).mono ?_; rintro e wn ⟨rfl, h⟩; replace H := Lib.hid (h.allocRaw #[.int .i64 x.base, .int .i64 x.len, .int .i64 x.leader, .int .i64 x.sum, .int .i64 A, .int .i64 x.last, .int .i64 x.first, .int .i64 x.maxt, .int .i64 x.prod, .int .i64 x.epoch, .int .i64 x.seq, .int .i64 x.count] 35); clear h)
    | (go_at_call 13; refine (attr_read _ _).mono ?_; rw [B3.out, B4.out, B5.out]; rintro e wn ⟨rfl, rfl⟩))
  go_cut [10, 14] (fun s10 s14 wx => ∃ b10 bx cap : Nat, s10 = .pointer (some ⟨b10, 0, none⟩) ∧ s14 = .slice (some ⟨bx, 0, none⟩) s.length cap ∧ St W0 wx Know.none [.gen (bRow bx s), .raw b10 #[.int .i64 x.base, .int .i64 x.len, .int .i64 x.leader, .int .i64 x.sum, .int .i64 A, .int .i64 x.last, .int .i64 x.first, .int .i64 x.maxt, .int .i64 x.prod, .int .i64 x.epoch, .int .i64 x.seq, .int .i64 x.count] 35, .raw (bA + 1) #[.int .i64 x.base, .int .i64 x.len, .int .i64 x.leader, .int .i64 x.sum, .int .i64 A, .int .i64 x.last, .int .i64 x.first, .int .i64 x.maxt, .int .i64 x.prod, .int .i64 x.epoch, .int .i64 x.seq, .int .i64 x.count] 35, .raw bA #[.bool b0, .bool b1, .bool b2] 62])
  case first =>
    obtain ⟨C, cap, hsz, hC, hrun⟩ := H.out.conv s
    have H2 := (H.out.bytesNew hsz hC).drew
    rw [World.size_alloc] at H2
    go_wp2
    go_meet
    exact ⟨_, _, cap, rfl, rfl, H2.sel [0, 0, 1, 2]⟩
  obtain ⟨b10, bx, cap, rfl, rfl, h⟩ := hcut
  clear H
  have H := Lib.hid h
  obtain ⟨z1, z2⟩ := H.out.bytesCell 21 (by omega)
  obtain ⟨z3, z4⟩ := H.out.bytesCell 22 (by omega)
  clear h
  go_upto_region 13 with fail
  have H3 := (H.out.bytesSet 21 (UInt8.ofNat (bits / 256).toNat) (bits / 256) (by simp; omega)).bytesSet 22 (UInt8.ofNat (bits % 256).toNat) (bits % 256) (by simp; omega)
  rw [HSET.out] at H3
  have hv1 : -32768 ≤ V := by have := HV.out; unfold i16 at this; split at this <;> omega
  have hv2 : V < 32768 := by have := HV.out; unfold i16 at this; split at this <;> omega
  have hw1 : IntKind.i16.wrap bits = V := HW.out.trans HV.out
  clear H z1 z2 z3 z4
  generalize (wc.setCell ⟨bx, 21, none⟩ (.int .u8 (bits / 256))).setCell ⟨bx, 22, none⟩ (.int .u8 (bits % 256)) = wy at H3 ⊢
  have htext := H3.bytesText s.length (HLEN.out.1.trans HLEN.out.2.symm) cap
  have H := Lib.hid H3
  clear H3
  go_wp2_with (first
    | (go_at_call 21; refine (s_new s' HSL2.out H.out).mono ?_; rintro e wn ⟨bi, rfl, h⟩; replace H := Lib.hid h; clear h)
    | (go_at_call 22; refine (prefix_readQ _ _ _ _ EP2.out H.out).mono ?_; rintro e wn ⟨rfl, h⟩; obtain ⟨b15, hb15⟩ : ∃ b, wn.heap.size = b := ⟨_, rfl⟩; have h := h.allocRaw #[.int .i64 x.base, .int .i64 x.len, .int .i64 x.leader, .int .i64 x.sum, .int .i64 V, .int .i64 x.last, .int .i64 x.first, .int .i64 x.maxt, .int .i64 x.prod, .int .i64 x.epoch, .int .i64 x.seq, .int .i64 x.count] 35; rw [hb15] at h; replace H := Lib.hid h; clear h; have htext2 := (H.out.p2).bytesText s.length (HLEN.out.1.trans HLEN.out.2.symm) cap)
    | (go_at_call 26; refine (prefix_peek s' _ _ EK.out HSL2.out H.out).mono ?_; rintro e wn ⟨rfl, h⟩; replace H := Lib.hid h; clear h; obtain ⟨qc0, qc1, qc2, qc3, qc4, qc5, qc6, qc7, qc8, qc9, qc10, qc11, qf0, qf1, qf2, qf3, qf4, qf5, qf6, qf7, qf8, qf9, qf10, qf11⟩ := raw12 (b := b15) H.out; obtain ⟨rc0, rc1, rc2, rc3, rc4, rc5, rc6, rc7, rc8, rc9, rc10, rc11, rf0, rf1, rf2, rf3, rf4, rf5, rf6, rf7, rf8, rf9, rf10, rf11⟩ := raw12 (b := b10) H.out.p3; obtain ⟨pc0, pc1, pc2, pc3, pc4, pc5, pc6, pc7, pc8, pc9, pc10, pc11, pf0, pf1, pf2, pf3, pf4, pf5, pf6, pf7, pf8, pf9, pf10, pf11⟩ := raw12 (b := bA + 1) H.out.p4; have g0 := (H.out.p5).rawCell 0; have g1 := (H.out.p5).rawCell 1; have g2 := (H.out.p5).rawCell 2; simp at g0 g1 g2; have hne2 : ¬ (bA + 1 = b15) := H.out.p4.raw_ne; have hne1 : ¬ (b15 = bA + 1) := (fun e => hne2 e.symm)))
  go_ret
  exact ⟨rfl, ((H.out.rawSet 4 (.int .i64 A)).below)⟩

theorem wholeBits_any (b0 b1 b2 : Bool) (x : PreS) (bits : Int) (w : World) (hx : x.R) (hb : 0 ≤ bits ∧ bits < 65536) :
    Calls Try.prog 9 #[.agg #[.bool b0, .bool b1, .bool b2], .agg #[.int .i64 x.base, .int .i64 x.len, .int .i64 x.leader, .int .i64 x.sum, .int .i64 x.attr, .int .i64 x.last, .int .i64 x.first, .int .i64 x.maxt, .int .i64 x.prod, .int .i64 x.epoch, .int .i64 x.seq, .int .i64 x.count], .int .u16 bits] w fun en w' => en = .returned (.bool true) ∧ Below w.heap.size w w' := by
  have h : St w w Know.none [] := St.start trivial
  have hr := (back_facts b0 b1 b2).1
  obtain ⟨A, hA⟩ : ∃ a, attrN b0 b1 b2 3 = a := ⟨_, rfl⟩
  rw [hA] at hr
  have hy : ({ x with attr := A } : PreS).R := by
    intro n hn
    simp only [PreS.list, List.mem_cons, List.not_mem_nil, or_false] at hn
    rcases hn with h | h | h | h | h | h | h | h | h | h | h | h
    all_goals first | (subst h; exact hr) | (subst h; exact hx _ (by simp [PreS.list]))
  by_cases hf : FitsAll ({ x with attr := A } : PreS).items
  · by_cases hl : x.len < 49
    · exact wholeBits_l b0 b1 b2 x bits A hA hy hb hf hl h
    · by_cases hc : x.count < 0
      · exact wholeBits_c b0 b1 b2 x bits A hA hy hb hf hl hc h
      · exact wholeBits_ok b0 b1 b2 x bits A hA hy hb hf hl hc h
  · exact wholeBits_bad b0 b1 b2 x bits A hA hy hb hf h

end Go.Proofs.Ytngnhdiafbjfkaa
