/- A text. -/
import Derived.Test.YtnnnglklgofabaaGreatGWholeWrites5
import Derived.Test.YtnnnglklgofabaaGreatKeyP
import Derived.Test.YtnnnglklgofabaaGreatGWholeWrites4
import Derived.Test.YtnnnglklgofabaaGreatBlob2
import Derived.Test.YtnnnglklgofabaaGreatGWholeWrites2
import Derived.Deep.RegionHeld3
import Derived.Deep.DeepCutAuto
import Derived.RegionTactic
import Derived.WalkMore
import Derived.Test.YtnnnglklgofabaaGreatGWholeWrites1
/- A text. -/
namespace Go.Proofs.YtnnnglklgofabaaGreat
open Go.RowKit

set_option maxHeartbeats 2000000 in
set_option maxRecDepth 100000 in
theorem val_putTopics (po : Nat) (e e2 : Bs) (l : List (TopS × Value)) (q : Option Addr) (cap : Nat) (he : e ++ encTs (l.map (·.1)) = e2) (hel : e.length ≤ 1000000) (hf : FitTs (l.map (·.1))) {W0 w : World} {K : Know} {L : List Res} (hk : K.has (Know.tops (.slice q l.length cap) l)) (h : St W0 w K (.out po ⟨e, 0⟩ :: L)) :
  Calls Tryz.prog 63 #[outPtr po, .slice q l.length cap] w fun en w' => en = .returned (.tuple #[]) ∧ St W0 w' K (.out po ⟨e2, 0⟩ :: L) := by
 have H := Lib.hid h; have HK := Lib.hid hk; have HE := Lib.hid he; have HEL := Lib.hid hel; have HF := Lib.hid hf; have hni : (l.length : Int) ≤ 1000000 := by have := hf.1; rw [List.length_map] at this; omega
 obtain ⟨A, hA⟩ : ∃ A, e ++ preT (l.map (·.1)) 0 = A := ⟨_, rfl⟩; have HA := Lib.hid (show e ++ beBytes (l.length : Int) (4 : Int).toNat = A by rw [← hA, preT_zero, List.length_map]; rfl); have HFL := Lib.hid (vfits4 (l.length : Int) (by omega)); have HR0 := Lib.hid (show e.length ≤ 100000000000000 by omega); clear h hk he hel hf; go_enter Tryz.func63, Tryz.ntmps63; go_wp2_with (go_at_call 32; (with_reducible refine (so_intV po _ _ _ _ HA.out HFL.out HR0.out H.out).mono ?_); rintro e_ wn ⟨rfl, h⟩; replace H := Lib.hid h; clear h); go_loopw [5, 7, 14, 30] (fun _ _ iv _ wr => ∃ k : Nat, k ≤ l.length ∧ iv = .int .i64 k ∧ St W0 wr K (.out po ⟨e ++ preT (l.map (·.1)) k, 0⟩ :: L)) (fun _ _ iv _ _ => l.length - (intOf iv).toNat)
 case atStart => exact ⟨0, Nat.zero_le _, rfl, by rw [hA]; exact H.out⟩
 case round =>
  obtain ⟨k, hkl, rfl, hst⟩ := hrel; clear H hA; have H := Lib.hid hst; clear hst
  by_cases hlt : k < l.length
  · as_aux_lemma =>
    obtain ⟨b, off, hqq⟩ := tops_at HK.out H.out (by omega); subst hqq; obtain ⟨⟨⟨nm, ps⟩, vx⟩, hx⟩ : ∃ x, l[k] = x := ⟨_, rfl⟩; obtain ⟨c0, c1⟩ : wr.cell? ⟨b, off + k * 2, none⟩ = some (.string (bb nm)) ∧ wr.cell? ⟨b, off + k * 2 + 1, none⟩ = some vx := tops_cell HK.out H.out k hlt _ hx; have hmem : ((⟨nm, ps⟩ : TopS), vx) ∈ l := hx ▸ List.getElem_mem hlt; have hxk : K.has (Know.flat RI vx 1 ps) := tops_parts HK.out hmem; obtain ⟨qx, capx, hvx⟩ := flat_form hxk H.out; subst hvx; have HXK := Lib.hid hxk; have hmk : k < (l.map (·.1)).length := by rw [List.length_map]; exact hlt
    have hmg : (l.map (·.1))[k] = ⟨nm, ps⟩ := by rw [List.getElem_map, hx]
    have hfx : (⟨nm, ps⟩ : TopS).Fit := HF.out.2 _ (hmg ▸ List.getElem_mem hmk); have HNM := Lib.hid hfx.1; have HPL := Lib.hid hfx.2.1; have HPS := Lib.hid hfx.2.2; have hkn : (k : Int) < (l.length : Int) := by omega
    have hnl : (nm.length : Int) ≤ 32767 := by have := hfx.1; simp only at this; omega
    have hpl : (ps.length : Int) ≤ 1000000 := by have := hfx.2.1; simp only at this; omega
    have hst1 := preT_step (l.map (·.1)) k hmk _ hmg; have hle1 := preT_le (l.map (·.1)) HF.out (k + 1) hmk; have hln : (l.map (·.1)).length ≤ 1000000 := HF.out.1; simp only at hst1; have hel := HEL.out; obtain ⟨tb, htb⟩ : ∃ b, wr.heap.size = b := ⟨_, rfl⟩; have h := (H.out.allocRaw #[.string (bb nm), .slice qx ps.length capx] 129).p1; rw [htb] at h; have t0 := h.p1.rawCell 0; have t1 := h.p1.rawCell 1; simp at t0 t1; obtain ⟨B0, hB0⟩ : ∃ B, e ++ preT (l.map (·.1)) k = B := ⟨_, rfl⟩; obtain ⟨B1, hB1⟩ : ∃ B, B0 ++ encF 2 ⟨false, nm⟩ = B := ⟨_, rfl⟩; obtain ⟨B2, hB2⟩ : ∃ B, B1 ++ beBytes (ps.length : Int) 4 = B := ⟨_, rfl⟩; have HB3 := Lib.hid (show e ++ preT (l.map (·.1)) (k + 1) = B2 ++ be4s ps by rw [hst1, ← hB2, ← hB1, ← hB0]; simp only [List.append_assoc])
    have hlen : (B2 ++ be4s ps).length ≤ 100000000000000 := by
     rw [← HB3.out, List.length_append]
     omega
    have hl0 : B0.length ≤ 100000000000000 ∧ B1.length ≤ 100000000000000 ∧ B2.length + 4 * ps.length ≤ 100000000000000 := by
     rw [List.length_append, be4s_len] at hlen; rw [← hB2, List.length_append] at hlen ⊢; rw [← hB1, List.length_append] at hlen ⊢
     omega
    rw [hB0] at h; have HB1 := Lib.hid hB1; have HB2 := Lib.hid (show B1 ++ beBytes (ps.length : Int) (4 : Int).toNat = B2 from hB2); have HL0 := Lib.hid hl0; have HFP := Lib.hid (vfits4 (ps.length : Int) (by omega))
    have hp0 : ps = [] ∨ ∃ pb poff, qx = some ⟨pb, poff, none⟩ := by
     by_cases hps : ps = []
     · exact .inl hps
     · exact .inr (flat_at HXK.out H.out (List.length_pos_iff.2 hps))
    have HP0 := Lib.hid hp0; clear H; have H := Lib.hid h; clear h hx hmem hxk hmk hmg hfx hst1 hle1 hln hel hB0 hB1 hB2 hlen hl0 hp0
    go_wp2_with (first
  | (go_at_call 33; (with_reducible refine (blob_putTextV po B0 B1 nm HB1.out HNM.out HL0.out.1 H.out).mono ?_); rintro e_ wn ⟨rfl, h⟩; have t0 := h.p1.rawCell 0; have t1 := h.p1.rawCell 1; simp at t0 t1; replace H := Lib.hid h; clear h)
  | (go_at_call 32; (with_reducible refine (so_intV po B1 B2 _ _ HB2.out HFP.out HL0.out.2.1 H.out).mono ?_); rintro e_ wn ⟨rfl, h⟩; have t0 := h.p1.rawCell 0; have t1 := h.p1.rawCell 1; simp at t0 t1; replace H := Lib.hid h; clear h))
    clear t0 t1; go_loopw [7, 30] (fun _ jv wr => ∃ j : Nat, j ≤ ps.length ∧ jv = .int .i64 j ∧ St W0 wr K (.out po ⟨B2 ++ be4s (ps.take j), 0⟩ :: .raw tb #[.string (bb nm), .slice qx ps.length capx] 129 :: L)) (fun _ jv _ => ps.length - (intOf jv).toNat)
    case atStart => exact ⟨0, Nat.zero_le _, rfl, by rw [List.take_zero]; show St W0 _ K (.out po ⟨B2 ++ [], 0⟩ :: _); rw [List.append_nil]; exact H.out⟩
    case round =>
     obtain ⟨j, hjl, rfl, hst⟩ := hrel; clear H; have H := Lib.hid hst; clear hst
     by_cases hlj : j < ps.length
     · have hps : ¬ ps = [] := by rintro rfl; simp at hlj
       rcases HP0.out with hps2 | ⟨pb, poff, hq⟩
       · exact absurd hps2 hps
       subst hq; have d0 := int_cell HXK.out H.out j hlj; obtain ⟨x, hx⟩ : ∃ x, ps.getD j 0 = x := ⟨_, rfl⟩; rw [hx] at d0; have hxr := HPS.out x (hx ▸ getD_mem ps j hlj); have hst := be4s_step ps j hlj x hx; obtain ⟨C, hC⟩ : ∃ C, B2 ++ be4s (ps.take j) = C := ⟨_, rfl⟩; have h := H.out; rw [hC] at h; have HC2 := Lib.hid (show C ++ beBytes x (4 : Int).toNat = B2 ++ be4s (ps.take (j + 1)) by rw [hst, ← hC, List.append_assoc]; rfl)
       have HCL := Lib.hid (show C.length ≤ 100000000000000 by
        rw [← hC, List.length_append, be4s_len, List.length_take]; have := HL0.out.2.2
        omega)
       have HFX := Lib.hid (vfits4 x hxr); have hji : (j : Int) < (ps.length : Int) := by omega
       clear H; have H := Lib.hid h; clear h hC hst hx hps hxr; go_wp2_with (go_at_call 32; (with_reducible refine (so_intV po C _ x _ HC2.out HFX.out HCL.out H.out).mono ?_); rintro e_ wn ⟨rfl, h⟩; replace H := Lib.hid h; clear h); go_roundw
       case rel => exact ⟨j + 1, hlj, by go_num, H.out⟩
       case measure => first | (simp [intOf]; done) | (simp [intOf]; omega)
     · obtain rfl : j = ps.length := by omega
       have h := H.out; rw [List.take_length, ← HB3.out] at h; clear H; have H := Lib.hid h; clear h; go_wp2; go_roundw
       case rel => exact ⟨k + 1, hlt, by go_num, H.out.p1.drop⟩
       case measure => first | (simp [intOf]; done) | (simp [intOf]; omega)
  · obtain rfl : k = l.length := by omega
    have h := H.out; rw [show preT (l.map (·.1)) l.length = encTs (l.map (·.1)) by rw [← preT_all, List.length_map], HE.out] at h; clear H; have H := Lib.hid h; clear h; go_wp2; go_end0; exact ⟨rfl, H.out⟩
theorem pRise_rng (l : List Int) (h : pRise l = true) : ∀ n ∈ l, 0 ≤ n ∧ n ≤ 2147483647 := by
 intro n hn; obtain ⟨i, hi, rfl⟩ := List.mem_iff_getElem.1 hn; have hne : l ≠ [] := by rintro rfl; simp at hi
 rw [pRise_pk l hne] at h; have h2 := allN_at h i hi; unfold pk at h2; rw [Bool.and_eq_true] at h2; have h3 := of_decide_eq_true h2.1; rw [List.getD_eq_getElem?_getD, List.getElem?_eq_getElem hi] at h3; exact h3
theorem fit_of_rise (l : List (TopS × Value)) (hf : FewT l) (h : tRise (l.map (·.1)) = true) : FitTs (l.map (·.1)) := by
 unfold tRise at h; rw [Bool.and_eq_true] at h; refine ⟨by rw [List.length_map]; exact hf.1, fun t ht => ?_⟩; have h2 := List.all_eq_true.1 h.1 t ht; unfold tOk at h2; simp only [Bool.and_eq_true, decide_eq_true_eq] at h2; obtain ⟨x, hx, rfl⟩ := List.mem_map.1 ht; have h3 := pRise_rng _ h2.2; exact ⟨h2.1.2, (hf.2 x hx).2, fun n hn => by have := h3 n hn; omega⟩
def ValS.R (v : ValS) : Prop := (-9223372036854775808 ≤ v.prod ∧ v.prod < 9223372036854775808) ∧ (-9223372036854775808 ≤ v.epoch ∧ v.epoch < 9223372036854775808) ∧ (-9223372036854775808 ≤ v.timeout ∧ v.timeout < 9223372036854775808) ∧ (-9223372036854775808 ≤ v.state ∧ v.state < 9223372036854775808) ∧ (-9223372036854775808 ≤ v.upd ∧ v.upd < 9223372036854775808) ∧ (-9223372036854775808 ≤ v.started ∧ v.started < 9223372036854775808)
theorem val_checkV (p e t s u st : Int) (l : List (TopS × Value)) (q : Option Addr) (cap : Nat) (E : Int) (he : ValS.err ⟨p, e, t, s, l.map (·.1), u, st⟩ = E) (hf : FewT l) {W0 w : World} {K : Know} {L : List Res} (hk : K.has (Know.tops (.slice q l.length cap) l)) (h : St W0 w K L) :
 Calls Tryz.prog 130 #[.agg #[.int .i64 p, .int .i64 e, .int .i64 t, .int .i64 s, .slice q l.length cap, .int .i64 u, .int .i64 st]] w fun en w' => en = .returned (.int .i64 E) ∧ St W0 w' K L := val_check ⟨p, e, t, s, l.map (·.1), u, st⟩ l q cap rfl E he hf hk h
def ValS.z : ValS := ⟨0, 0, 0, 0, [], 0, 0⟩
def InS.At (s : Bs) (i : InS) : Prop := i.s = s ∧ i.pos ≤ s.length
theorem At.int {s : Bs} {i : InS} (h : i.At s) (k : Int) : (i.int k).2.At s := by
 obtain ⟨rfl, h⟩ := h; unfold InS.int
 split
 · unfold InS.fail; split
   · exact ⟨rfl, h⟩
   · exact ⟨rfl, h⟩
 · unfold InS.take
   split
   · exact ⟨rfl, h⟩
   · split
     · exact ⟨rfl, h⟩
     · split
       · exact ⟨rfl, h⟩
       · rename_i h1 h2 h3
         refine ⟨rfl, ?_⟩; simp only [InS.left] at h3
         show i.pos + k.toNat ≤ i.s.length
         omega
theorem At.fail {s : Bs} {i : InS} (h : i.At s) (e : Int) : (i.fail e).At s := by
 unfold InS.fail
 split
 · exact ⟨h.1, h.2⟩
 · exact h
def who (p e : Int) : Bool := decide (0 ≤ p) && (decide (0 ≤ e) && decide (e ≤ 32767))
theorem who_t {p e : Int} (h : who p e = true) : 0 ≤ p ∧ 0 ≤ e ∧ e ≤ 32767 := by
 unfold who at h; simpa only [Bool.and_eq_true, decide_eq_true_eq] using h
theorem who_f {p e : Int} (h : who p e = false) : p < 0 ∨ e < 0 ∨ 32767 < e := by
 unfold who at h
 by_cases h1 : p < 0
 · exact .inl h1
 · by_cases h2 : e < 0
   · exact .inr (.inl h2)
   · by_cases h3 : 32767 < e
     · exact .inr (.inr h3)
     · rw [decide_eq_true (show 0 ≤ p by omega), decide_eq_true (show 0 ≤ e by omega), decide_eq_true (show e ≤ 32767 by omega)] at h
       cases h
def encO (c : Bool) : Bs := [if c then 1 else 0]
def riseE (l : List TopS) : Int := if l = [] then 10 else if tRise l = false then 13 else 0
theorem riseE_eq (l : List TopS) : ValS.err ⟨0, 0, 0, 1, l, 0, 0⟩ = riseE l := by
 have h1 : ValS.ranged ⟨0, 0, 0, 1, l, 0, 0⟩ = true := by rfl
 unfold ValS.err riseE; rw [h1]
 cases l with
 | nil => rfl
 | cons a t =>
  have e0 : ¬ (true = false) := by decide
  have e1 : ¬ ((1 : Int) < 0 ∨ 7 ≤ (1 : Int)) := by decide
  have e2 : ¬ ((idle 1 != false) = true ∨ (((1 : Int) == 0) != ((0 : Int) == -1)) = true) := by decide
  exact (if_neg e0).trans ((if_neg e1).trans ((if_neg e2).trans (if_neg (List.cons_ne_nil a t)).symm))
def was (v p e : Int) : Bool := (p == -1 && e == -1) || (v == 1 && who p e)
structure MarkS where
  prod : Int
  epoch : Int
  commit : Bool
  tops : List TopS
  coord : Int
deriving DecidableEq
structure MarkR where
  m : MarkS
  l : List (TopS × Value)
  q : Option Addr
  cap : Nat
def RMark (cs : List Value) (x : MarkR) : Prop := cs = [.int .i64 x.m.prod, .int .i64 x.m.epoch, .bool x.m.commit, .slice x.q x.l.length x.cap, .int .i64 x.m.coord]
def MarkS.R (m : MarkS) : Prop := (-9223372036854775808 ≤ m.prod ∧ m.prod < 9223372036854775808) ∧ (-9223372036854775808 ≤ m.epoch ∧ m.epoch < 9223372036854775808) ∧ (-9223372036854775808 ≤ m.coord ∧ m.coord < 9223372036854775808)
def Know.marks (v : Value) (l : List MarkR) : Know := (Know.flat RMark v 5 l).and (Know.all l fun x => Know.tops (.slice x.q x.l.length x.cap) x.l)
theorem marks_flat {K : Know} {v : Value} {l : List MarkR} (h : K.has (Know.marks v l)) : K.has (Know.flat RMark v 5 l) := fun w F x => (h w F x).1
theorem marks_tops {K : Know} {v : Value} {l : List MarkR} (h : K.has (Know.marks v l)) {x : MarkR} (hx : x ∈ l) : K.has (Know.tops (.slice x.q x.l.length x.cap) x.l) := fun w F y => (h w F y).2 x hx
theorem marks_at {W0 w : World} {K : Know} {L : List Res} {q : Option Addr} {n cap : Nat} {l : List MarkR} (hk : K.has (Know.marks (.slice q n cap) l)) (h : St W0 w K L) (h0 : 0 < l.length) : ∃ b off, q = some ⟨b, off, none⟩ := by
 obtain ⟨F, hF, _⟩ := h.get; obtain ⟨q2, cap2, hv, hr⟩ := (marks_flat hk _ _ hF).at; obtain ⟨b, off, hq, _⟩ := hr h0; simp at hv; exact ⟨b, off, hv.1.trans hq⟩
theorem marks_cell {W0 w : World} {K : Know} {L : List Res} {b off n cap : Nat} {l : List MarkR} (hk : K.has (Know.marks (.slice (some ⟨b, off, none⟩) n cap) l)) (h : St W0 w K L) (i : Nat) (hi : i < l.length) (x : MarkR) (hx : l[i] = x) :
  w.cell? ⟨b, off + i * 5, none⟩ = some (.int .i64 x.m.prod) ∧ w.cell? ⟨b, off + i * 5 + 1, none⟩ = some (.int .i64 x.m.epoch) ∧ w.cell? ⟨b, off + i * 5 + 2, none⟩ = some (.bool x.m.commit) ∧ w.cell? ⟨b, off + i * 5 + 3, none⟩ = some (.slice x.q x.l.length x.cap) ∧ w.cell? ⟨b, off + i * 5 + 4, none⟩ = some (.int .i64 x.m.coord) := by
 subst hx; obtain ⟨F, hF, _⟩ := h.get; obtain ⟨q2, cap2, hv, hr⟩ := (marks_flat hk _ _ hF).at; obtain ⟨b2, off2, hq, hc⟩ := hr (by omega); rw [hq] at hv; simp at hv; obtain ⟨⟨rfl, rfl⟩, _, _⟩ := hv; obtain ⟨cs, _, hR, hcs⟩ := hc i hi; unfold RMark at hR; subst hR; refine ⟨?_, ?_, ?_, ?_, ?_⟩
 · exact hcs 0 _ rfl
 · rw [Nat.add_assoc]; exact hcs 1 _ rfl
 · rw [Nat.add_assoc]; exact hcs 2 _ rfl
 · rw [Nat.add_assoc]; exact hcs 3 _ rfl
 · rw [Nat.add_assoc]; exact hcs 4 _ rfl
def mErr (v : Int) (p e : Int) (l : List TopS) (co : Int) : Int :=
  if who p e = false then 11 else if co < 0 ∨ 2147483647 < co then 11 else if v = 0 ∧ co ≠ 0 then 11 else riseE l
def MarkS.err (v : Int) (m : MarkS) : Int := mErr v m.prod m.epoch m.tops m.coord
def msE (v : Int) : List MarkS → Int
  | [] => 0
  | m :: t => if m.err v ≠ 0 then m.err v else msE v t
def marksErr (v : Int) (l : List MarkS) : Int := if l = [] then 10 else msE v l
def MarkR.Fit (x : MarkR) : Prop := x.l.map (·.1) = x.m.tops ∧ FewT x.l ∧ x.m.R
theorem msE_cons (v : Int) (m : MarkS) (t : List MarkS) : msE v (m :: t) = if m.err v ≠ 0 then m.err v else msE v t := rfl
theorem msE_step (v : Int) (l : List MarkS) (k : Nat) (hk : k < l.length) (h : l[k].err v = 0) : msE v (l.drop k) = msE v (l.drop (k + 1)) := by
 rw [List.drop_eq_getElem_cons hk, msE_cons, if_neg (by rw [h]; decide)]
theorem msE_bad (v : Int) (l : List MarkS) (k : Nat) (hk : k < l.length) (h : l[k].err v ≠ 0) : msE v (l.drop k) = l[k].err v := by
 rw [List.drop_eq_getElem_cons hk, msE_cons, if_pos h]
set_option maxHeartbeats 1000000 in
set_option maxRecDepth 100000 in
theorem txn_who (p e : Int) (r : Bool) (hr : who p e = r) {W0 w : World} {K : Know} {L : List Res} (h : St W0 w K L) :
    Calls Tryz.prog 93 #[.int .i64 p, .int .i64 e] w fun en w' => en = .returned (.bool r) ∧ St W0 w' K L := by
  have H := Lib.hid h; clear h
  cases r with
  | true =>
    obtain ⟨h1, h2, h3⟩ := who_t hr; clear hr

    go_enter Tryz.func93, Tryz.ntmps93; go_wp2; go_ret; exact ⟨rfl, H.out⟩
  | false =>
    by_cases h1 : p < 0
    · have g1 : ¬ (0 ≤ p) := by omega
      clear hr

      go_enter Tryz.func93, Tryz.ntmps93; go_wp2; go_ret; exact ⟨rfl, H.out⟩
    · have g1 : 0 ≤ p := by omega
      by_cases h2 : e < 0
      · have g2 : ¬ (0 ≤ e) := by omega
        clear hr

        go_enter Tryz.func93, Tryz.ntmps93; go_wp2; go_ret; exact ⟨rfl, H.out⟩
      · have g2 : 0 ≤ e := by omega
        have g3 : ¬ (e ≤ 32767) := by rcases who_f hr with h | h | h <;> omega
        clear hr

        go_enter Tryz.func93, Tryz.ntmps93; go_wp2; go_ret; exact ⟨rfl, H.out⟩

set_option maxHeartbeats 1000000 in
set_option maxRecDepth 100000 in
theorem txn_rise (l : List (TopS × Value)) (q : Option Addr) (cap : Nat) (E : Int) (hE : riseE (l.map (·.1)) = E) (hf : FewT l) {W0 w : World} {K : Know} {L : List Res} (hk : K.has (Know.tops (.slice q l.length cap) l)) (h : St W0 w K L) :
  Calls Tryz.prog 94 #[.slice q l.length cap] w fun en w' => en = .returned (.int .i64 E) ∧ St W0 w' K L := by
 have H := Lib.hid h; have HE := Lib.hid ((riseE_eq _).trans hE); have HF := Lib.hid hf; have HK := Lib.hid hk; clear h hE hf hk; go_enter Tryz.func94, Tryz.ntmps94; go_wp2_with (go_at_call 130; (with_reducible refine (val_checkV 0 0 0 1 0 0 l _ _ _ HE.out HF.out HK.out H.out).mono ?_); rintro e_ wn ⟨rfl, h⟩; replace H := Lib.hid h; clear h); go_ret; exact ⟨rfl, H.out⟩
theorem so_byteV (b : Nat) (e e2 : Bs) (c : UInt8) (n : Int) (hn : n = c.toNat) (he : e ++ [c] = e2) (hl : e.length ≤ 100000000000000) {W0 w : World} {K : Know} {L : List Res} (h : St W0 w K (.out b ⟨e, 0⟩ :: L)) :
  Calls Tryz.prog 67 #[outPtr b, .int .u8 n] w fun en w' => en = .returned (.tuple #[]) ∧ St W0 w' K (.out b ⟨e2, 0⟩ :: L) := by
 subst he hn; exact so_byte b ⟨e, 0⟩ c h zq30
set_option maxHeartbeats 1000000 in
set_option maxRecDepth 100000 in
theorem txn_putBool (b : Nat) (e e2 : Bs) (c : Bool) (he : e ++ encO c = e2) (hl : e.length ≤ 100000000000000) {W0 w : World} {K : Know} {L : List Res} (h : St W0 w K (.out b ⟨e, 0⟩ :: L)) :
  Calls Tryz.prog 62 #[outPtr b, .bool c] w fun en w' => en = .returned (.tuple #[]) ∧ St W0 w' K (.out b ⟨e2, 0⟩ :: L) := by
 have H := Lib.hid h; have HE := Lib.hid he; have HL := Lib.hid hl; clear h he hl
 cases c with
 | true =>
  have HE2 : Hid (e ++ [1] = e2) := Lib.hid HE.out; have HN2 := Lib.hid (show (1 : Int) = ((1 : UInt8).toNat : Int) by decide); go_enter Tryz.func62, Tryz.ntmps62; go_wp2_with (go_at_call 67; (with_reducible refine (so_byteV b e e2 1 1 HN2.out HE2.out HL.out H.out).mono ?_); rintro e_ wn ⟨rfl, h⟩; replace H := Lib.hid h; clear h); go_end0; exact ⟨rfl, H.out⟩
 | false =>
  have HE2 : Hid (e ++ [0] = e2) := Lib.hid HE.out; have HN2 := Lib.hid (show (0 : Int) = ((0 : UInt8).toNat : Int) by decide); go_enter Tryz.func62, Tryz.ntmps62; go_wp2_with (go_at_call 67; (with_reducible refine (so_byteV b e e2 0 0 HN2.out HE2.out HL.out H.out).mono ?_); rintro e_ wn ⟨rfl, h⟩; replace H := Lib.hid h; clear h); go_end0; exact ⟨rfl, H.out⟩
set_option maxHeartbeats 8000000 in
set_option maxRecDepth 100000 in
theorem mark_check1 (v p e : Int) (c : Bool) (l : List (TopS × Value)) (q : Option Addr) (cap : Nat) (co : Int) (r : Int) (hr : mErr v p e (l.map (·.1)) co = r) (hf : FewT l) {W0 w : World} {K : Know} {L : List Res} (hk : K.has (Know.tops (.slice q l.length cap) l)) (h : St W0 w K L) :
  Calls Tryz.prog 58 #[.agg #[.int .i64 p, .int .i64 e, .bool c, .slice q l.length cap, .int .i64 co], .int .i64 v] w fun en w' => en = .returned (.int .i64 r) ∧ St W0 w' K L := by
 have H := Lib.hid (h.allocRaw #[.int .i64 p, .int .i64 e, .bool c, .slice q l.length cap, .int .i64 co] 112); have HF := Lib.hid hf; have HK := Lib.hid hk; unfold mErr at hr; obtain ⟨a, ha⟩ : ∃ a, who p e = a := ⟨_, rfl⟩; have HW := Lib.hid ha; rw [ha] at hr; clear h hf hk
 cases a with
 | false =>
  obtain rfl : (11 : Int) = r := hr; clear ha; go_enter Tryz.func58, Tryz.ntmps58
  go_wp2_with (first
  | (go_at_call 93; (with_reducible refine (txn_who p e _ HW.out H.out).mono ?_); rintro e_ wn ⟨rfl, h⟩; have c0 := h.rawCell 0; have c1 := h.rawCell 1; have c2 := h.rawCell 2; have c3 := h.rawCell 3; have c4 := h.rawCell 4; simp at c0 c1 c2 c3 c4; replace H := Lib.hid h; clear h))
  go_ret; exact ⟨rfl, H.out.drop⟩
 | true =>
  rw [if_neg (by decide)] at hr; clear ha
  by_cases h4 : co < 0
  · rw [if_pos (.inl h4)] at hr; subst hr; go_enter Tryz.func58, Tryz.ntmps58
    go_wp2_with (first
  | (go_at_call 93; (with_reducible refine (txn_who p e _ HW.out H.out).mono ?_); rintro e_ wn ⟨rfl, h⟩; have c0 := h.rawCell 0; have c1 := h.rawCell 1; have c2 := h.rawCell 2; have c3 := h.rawCell 3; have c4 := h.rawCell 4; simp at c0 c1 c2 c3 c4; replace H := Lib.hid h; clear h))
    go_ret; exact ⟨rfl, H.out.drop⟩
  by_cases h5 : 2147483647 < co
  · rw [if_pos (.inr h5)] at hr; subst hr; go_enter Tryz.func58, Tryz.ntmps58
    go_wp2_with (first
  | (go_at_call 93; (with_reducible refine (txn_who p e _ HW.out H.out).mono ?_); rintro e_ wn ⟨rfl, h⟩; have c0 := h.rawCell 0; have c1 := h.rawCell 1; have c2 := h.rawCell 2; have c3 := h.rawCell 3; have c4 := h.rawCell 4; simp at c0 c1 c2 c3 c4; replace H := Lib.hid h; clear h))
    go_ret; exact ⟨rfl, H.out.drop⟩
  rw [if_neg (by omega)] at hr
  by_cases h6 : v = 0
  · subst h6
    cases hc : (co == 0) with
    | true =>
     have hc2 : (co != 0) = false := by simp [bne, hc]
     rw [if_neg (by simp at hc; omega)] at hr; have HE := Lib.hid hr; clear hr; go_enter Tryz.func58, Tryz.ntmps58
     go_wp2_with (first
  | (go_at_call 93; (with_reducible refine (txn_who p e _ HW.out H.out).mono ?_); rintro e_ wn ⟨rfl, h⟩; have c0 := h.rawCell 0; have c1 := h.rawCell 1; have c2 := h.rawCell 2; have c3 := h.rawCell 3; have c4 := h.rawCell 4; simp at c0 c1 c2 c3 c4; replace H := Lib.hid h; clear h)
  | (go_at_call 94; (with_reducible refine (txn_rise l q cap r HE.out HF.out HK.out H.out).mono ?_); rintro e_ wn ⟨rfl, h⟩; replace H := Lib.hid h; clear h))
     go_ret; exact ⟨rfl, H.out.drop⟩
    | false =>
     have hc2 : (co != 0) = true := by simp [bne, hc]
     rw [if_pos ⟨rfl, by simpa using hc⟩] at hr; subst hr; go_enter Tryz.func58, Tryz.ntmps58
     go_wp2_with (first
  | (go_at_call 93; (with_reducible refine (txn_who p e _ HW.out H.out).mono ?_); rintro e_ wn ⟨rfl, h⟩; have c0 := h.rawCell 0; have c1 := h.rawCell 1; have c2 := h.rawCell 2; have c3 := h.rawCell 3; have c4 := h.rawCell 4; simp at c0 c1 c2 c3 c4; replace H := Lib.hid h; clear h))
     go_ret; exact ⟨rfl, H.out.drop⟩
  · have hv : (v == 0) = false := by rw [beq_eq_false_iff_ne]; exact h6
    rw [if_neg (by omega)] at hr; clear h6; have HE := Lib.hid hr; clear hr; go_enter Tryz.func58, Tryz.ntmps58
    go_wp2_with (first
  | (go_at_call 93; (with_reducible refine (txn_who p e _ HW.out H.out).mono ?_); rintro e_ wn ⟨rfl, h⟩; have c0 := h.rawCell 0; have c1 := h.rawCell 1; have c2 := h.rawCell 2; have c3 := h.rawCell 3; have c4 := h.rawCell 4; simp at c0 c1 c2 c3 c4; replace H := Lib.hid h; clear h)
  | (go_at_call 94; (with_reducible refine (txn_rise l q cap r HE.out HF.out HK.out H.out).mono ?_); rintro e_ wn ⟨rfl, h⟩; replace H := Lib.hid h; clear h))
    go_ret; exact ⟨rfl, H.out.drop⟩
set_option maxHeartbeats 4000000 in
set_option maxRecDepth 100000 in
theorem marks_check (v : Int) (l : List MarkR) (q : Option Addr) (cap : Nat) (r : Int) (hr : marksErr v (l.map MarkR.m) = r) (hf : ∀ x ∈ l, x.Fit) (hn : l.length ≤ 1000000) {W0 w : World} {K : Know} {L : List Res} (hk : K.has (Know.marks (.slice q l.length cap) l)) (h : St W0 w K L) :
   Calls Tryz.prog 23 #[.slice q l.length cap, .int .i64 v] w fun en w' => en = .returned (.int .i64 r) ∧ St W0 w' K L := by
 have H := Lib.hid h; have HK := Lib.hid hk; have HF := Lib.hid hf; have hni : (l.length : Int) ≤ 1000000 := by omega
 unfold marksErr at hr; clear h hk hf
 by_cases h0 : l = []
 · subst h0; obtain rfl : (10 : Int) = r := hr; go_enter Tryz.func23, Tryz.ntmps23; go_wp2; go_ret; exact ⟨rfl, H.out⟩
 rw [if_neg (by rw [List.map_eq_nil_iff]; exact h0)] at hr
 have g0 : ((l.length : Int) == 0) = false := by
   rw [beq_eq_false_iff_ne]; have := List.length_pos_iff.2 h0
   omega
 have HR := Lib.hid hr; clear hr h0; go_enter Tryz.func23, Tryz.ntmps23; go_wp2; go_loopw [6, 7, 13] (fun _ _ iv wr => ∃ k : Nat, k ≤ l.length ∧ iv = .int .i64 k ∧ Hid (msE v ((l.map MarkR.m).drop k) = r) ∧ St W0 wr K L) (fun _ _ iv _ => l.length - (intOf iv).toNat)
 case atStart => exact ⟨0, Nat.zero_le _, rfl, Lib.hid (by rw [List.drop_zero]; exact HR.out), H.out⟩
 case round =>
   obtain ⟨k, hkl, rfl, HM, hst⟩ := hrel; clear H; have H := Lib.hid hst; clear hst
   by_cases hlt : k < l.length
   · as_aux_lemma =>
     obtain ⟨b0, off, hqq⟩ := marks_at HK.out H.out (by omega); subst hqq; obtain ⟨x, hx⟩ : ∃ x, l[k] = x := ⟨_, rfl⟩; have hmem : x ∈ l := hx ▸ List.getElem_mem hlt; have hxk := marks_tops HK.out hmem; have hcell := marks_cell HK.out H.out k hlt x hx; have hmk : k < (l.map MarkR.m).length := by rw [List.length_map]; exact hlt
     have hmg : (l.map MarkR.m)[k] = x.m := by rw [List.getElem_map, hx]
     obtain ⟨hxl, hxf, hxr⟩ := HF.out x hmem; obtain ⟨⟨p, e, c, tl, co⟩, xl, xq, xcap⟩ := x; obtain ⟨c0, c1, c2, c3, c4⟩ : wr.cell? ⟨b0, off + k * 5, none⟩ = some (.int .i64 p) ∧ wr.cell? ⟨b0, off + k * 5 + 1, none⟩ = some (.int .i64 e) ∧ wr.cell? ⟨b0, off + k * 5 + 2, none⟩ = some (.bool c) ∧ wr.cell? ⟨b0, off + k * 5 + 3, none⟩ = some (.slice xq xl.length xcap) ∧ wr.cell? ⟨b0, off + k * 5 + 4, none⟩ = some (.int .i64 co) := hcell; have HXK := Lib.hid (show K.has (Know.tops (.slice xq xl.length xcap) xl) from hxk); have HXL := Lib.hid (show xl.map (·.1) = tl from hxl); have HXF := Lib.hid (show FewT xl from hxf); have hkn : (k : Int) < (l.length : Int) := by omega
     obtain ⟨tb, htb⟩ : ∃ b, wr.heap.size = b := ⟨_, rfl⟩; have h := H.out.allocRaw #[.int .i64 p, .int .i64 e, .bool c, .slice xq xl.length xcap, .int .i64 co] 112; rw [htb] at h; obtain ⟨r1, hr1⟩ : ∃ r1, mErr v p e tl co = r1 := ⟨_, rfl⟩; have HR1 := Lib.hid (show mErr v p e (xl.map fun y => y.1) co = r1 by rw [show (xl.map fun y => y.1) = tl from hxl]; exact hr1); have hme : ((l.map MarkR.m)[k]).err v = r1 := by rw [hmg]; exact hr1
     have d0 := h.rawCell 0; have d1 := h.rawCell 1; have d2 := h.rawCell 2; have d3 := h.rawCell 3; have d4 := h.rawCell 4; simp at d0 d1 d2 d3 d4; clear H; have H := Lib.hid h; clear h
     by_cases h1 : r1 = 0
     · have HN := Lib.hid ((msE_step v _ k hmk (by rw [hme]; exact h1)).symm.trans HM.out); subst h1; clear hx hmem hxk hmk hmg hxl hxf hxr hr1 hme; go_wp2_with (go_at_call 58; (with_reducible refine (mark_check1 v p e c xl xq xcap co _ HR1.out HXF.out HXK.out H.out).mono ?_); rintro e_ wn ⟨rfl, h⟩; replace H := Lib.hid h; clear h); go_roundw
       case rel => exact ⟨k + 1, hlt, by go_num, HN, H.out.drop⟩
       case measure => first | (simp [intOf]; done) | (simp [intOf]; omega)
     · have hb := (msE_bad v _ k hmk (by rw [hme]; exact h1)).symm.trans HM.out; rw [hme] at hb; have g1 : (r1 == 0) = false := by rw [beq_eq_false_iff_ne]; exact h1
       have g2 : (r1 != 0) = true := by simp [bne, g1]
       have HB := Lib.hid hb; clear hx hmem hxk hmk hmg hxl hxf hxr hr1 hme hb h1; go_wp2_with (go_at_call 58; (with_reducible refine (mark_check1 v p e c xl xq xcap co _ HR1.out HXF.out HXK.out H.out).mono ?_); rintro e_ wn ⟨rfl, h⟩; replace H := Lib.hid h; clear h); go_ret; exact ⟨by rw [HB.out]; rfl, H.out.drop⟩
   · obtain rfl : k = l.length := by omega
     have hz := HM.out; rw [List.drop_of_length_le (by rw [List.length_map]; exact Nat.le_refl _)] at hz; obtain rfl : (0 : Int) = r := hz; go_wp2; go_ret; exact ⟨rfl, H.out⟩
theorem riseE_ok {l : List TopS} (h : riseE l = 0) : tRise l = true := by
 unfold riseE at h
 by_cases h1 : l = []
 · rw [if_pos h1] at h; cases h
 · rw [if_neg h1] at h
   by_cases h2 : tRise l = false
   · rw [if_pos h2] at h; cases h
   · simpa using h2
def topW (t : TopS) : Nat := t.name.length + 4 * t.parts.length + 6
def topWs (l : List TopS) : Nat := (l.map topW).sum
theorem topWs_take (l : List TopS) (k : Nat) (hk : k < l.length) (t : TopS) (ht : l[k] = t) : topWs (l.take (k + 1)) = topWs (l.take k) + topW t := by
 unfold topWs; rw [List.take_succ_eq_append_getElem hk, List.map_append, List.sum_append, ht]
 simp
theorem topWs_le (l : List TopS) (k : Nat) : topWs (l.take k) ≤ topWs l := by
 have h : topWs l = topWs (l.take k) + topWs (l.drop k) := by
  unfold topWs; rw [← List.sum_append, ← List.map_append, List.take_append_drop]
 omega
theorem topWs_len (l : List TopS) : 6 * l.length ≤ topWs l := by
 unfold topWs
 induction l with
 | nil => simp
 | cons x t ih => rw [List.map_cons, List.sum_cons, List.length_cons]; unfold topW at ih ⊢; omega
theorem topWs_mem (l : List TopS) (t : TopS) (h : t ∈ l) : topW t ≤ topWs l := by
 unfold topWs
 induction l with
 | nil => cases h
 | cons x m ih =>
  rw [List.map_cons, List.sum_cons]
  rcases List.mem_cons.1 h with rfl | h
  · omega
  · have := ih h; omega
def few (l : List TopS) : Int := if topWs l ≤ 1000 then 1 else 0
theorem few_one {l : List TopS} (h : few l = 1) : topWs l ≤ 1000 := by
 unfold few at h
 by_cases hh : topWs l ≤ 1000
 · exact hh
 · rw [if_neg hh] at h; cases h
theorem few_T {l : List (TopS × Value)} (h : topWs (l.map (·.1)) ≤ 1000) : FewT l := by
 have h1 := topWs_len (l.map (·.1)); rw [List.length_map] at h1; refine ⟨by omega, fun x hx => ?_⟩; have h2 := topWs_mem (l.map (·.1)) x.1 (List.mem_map_of_mem hx); unfold topW at h2; exact ⟨by omega, by omega⟩
def encM (v : Int) (m : MarkS) : Bs := (((beBytes m.prod (8 : Int).toNat ++ beBytes m.epoch (2 : Int).toNat) ++ encO m.commit) ++ encTs m.tops) ++ (if v = 1 then beBytes m.coord (4 : Int).toNat else [])
def preM (v : Int) (l : List MarkS) (k : Nat) : Bs := beBytes (l.length : Int) (4 : Int).toNat ++ (l.take k).flatMap (encM v)
def encMs (v : Int) (l : List MarkS) : Bs := beBytes (l.length : Int) (4 : Int).toNat ++ l.flatMap (encM v)
theorem preM_zero (v : Int) (l : List MarkS) : preM v l 0 = beBytes (l.length : Int) (4 : Int).toNat := by unfold preM; rw [List.take_zero, List.flatMap_nil, List.append_nil]
theorem preM_all (v : Int) (l : List MarkS) : preM v l l.length = encMs v l := by unfold preM encMs; rw [List.take_length]
theorem preM_step (v : Int) (l : List MarkS) (k : Nat) (hk : k < l.length) (m : MarkS) (hm : l[k] = m) : preM v l (k + 1) = preM v l k ++ encM v m := by
 unfold preM; rw [List.take_succ_eq_append_getElem hk, List.flatMap_append, hm, List.flatMap_cons, List.flatMap_nil, List.append_nil, List.append_assoc]
theorem preM_le (v : Int) (l : List MarkS) (k : Nat) (hk : k ≤ l.length) (hl : l.length ≤ 20) (h : ∀ m ∈ l, (encM v m).length ≤ 2000) : (preM v l k).length ≤ 40004 := by
 unfold preM; rw [List.length_append, beBytes_length]
 have : ∀ (m : List MarkS), (∀ t ∈ m, (encM v t).length ≤ 2000) → (m.flatMap (encM v)).length ≤ 2000 * m.length := by
  intro m
  induction m with
  | nil => intro _; simp
  | cons x t ih =>
   intro hm; have h1 := ih (fun y hy => hm y (by simp [hy])); have h2 := hm x (by simp); rw [List.flatMap_cons, List.length_append, List.length_cons]
   omega
 have h1 := this (l.take k) (fun t ht => h t (List.mem_of_mem_take ht)); rw [List.length_take] at h1; have e : min k l.length = k := by omega
 rw [e] at h1
 show 4 + _ ≤ _
 omega
def fewG : List MarkS → Int
  | [] => 1
  | m :: t => if few m.tops = 0 then 0 else fewG t
def fewMs (l : List MarkS) : Int := if 20 < l.length then 0 else fewG l
theorem fewG_cons (m : MarkS) (t : List MarkS) : fewG (m :: t) = if few m.tops = 0 then 0 else fewG t := rfl
theorem fewG_step (l : List MarkS) (k : Nat) (hk : k < l.length) (h : few l[k].tops = 1) : fewG (l.drop k) = fewG (l.drop (k + 1)) := by
 rw [List.drop_eq_getElem_cons hk, fewG_cons, if_neg (by rw [h]; decide)]
theorem fewG_bad (l : List MarkS) (k : Nat) (hk : k < l.length) (h : few l[k].tops = 0) : fewG (l.drop k) = 0 := by
 rw [List.drop_eq_getElem_cons hk, fewG_cons, if_pos h]
theorem fewG_mem {l : List MarkS} (h : fewG l = 1) : ∀ m ∈ l, topWs m.tops ≤ 1000 := by
 induction l with
 | nil => intro m hm; cases hm
 | cons x t ih =>
  rw [fewG_cons] at h
  by_cases hx : few x.tops = 0
  · rw [if_pos hx] at h; cases h
  · rw [if_neg hx] at h; intro m hm
    rcases List.mem_cons.1 hm with rfl | hm
    · apply few_one
      unfold few at hx ⊢
      by_cases hh : topWs m.tops ≤ 1000
      · rw [if_pos hh]
      · rw [if_neg hh] at hx; exact absurd rfl hx
    · exact ih h m hm
theorem few_cases (l : List TopS) : few l = 0 ∨ few l = 1 := by
 unfold few
 by_cases h : topWs l ≤ 1000
 · exact .inr (if_pos h)
 · exact .inl (if_neg h)
theorem mErr_ok {v p e : Int} {l : List TopS} {co : Int} (h : mErr v p e l co = 0) : who p e = true ∧ (0 ≤ co ∧ co ≤ 2147483647) ∧ ¬ (v = 0 ∧ co ≠ 0) ∧ riseE l = 0 := by
 unfold mErr at h
 by_cases h1 : who p e = false
 · rw [if_pos h1] at h; cases h
 · rw [if_neg h1] at h
   by_cases h2 : co < 0 ∨ 2147483647 < co
   · rw [if_pos h2] at h; cases h
   · rw [if_neg h2] at h
     by_cases h3 : v = 0 ∧ co ≠ 0
     · rw [if_pos h3] at h; cases h
     · rw [if_neg h3] at h; exact ⟨by simpa using h1, by omega, h3, h⟩
theorem msE_ok {v : Int} {l : List MarkS} (h : msE v l = 0) : ∀ m ∈ l, m.err v = 0 := by
 induction l with
 | nil => intro m hm; cases hm
 | cons x t ih =>
  rw [msE_cons] at h
  by_cases hx : x.err v ≠ 0
  · rw [if_pos hx] at h; exact absurd h hx
  · rw [if_neg hx] at h; intro m hm
    rcases List.mem_cons.1 hm with rfl | hm
    · simpa using hx
    · exact ih h m hm
theorem marksErr_ok {v : Int} {l : List MarkS} (h : marksErr v l = 0) : ¬ l = [] ∧ ∀ m ∈ l, m.err v = 0 := by
 unfold marksErr at h
 by_cases h1 : l = []
 · rw [if_pos h1] at h; cases h
 · rw [if_neg h1] at h; exact ⟨h1, msE_ok h⟩
set_option maxHeartbeats 2000000 in
set_option maxRecDepth 100000 in
theorem law14_few (l : List (TopS × Value)) (q : Option Addr) (cap : Nat) (hnl : l.length ≤ 140737488351232) (hb : ∀ x ∈ l, x.1.name.length ≤ 140737488351232 ∧ x.1.parts.length ≤ 17592186043904) (r : Int) (hr : few (l.map (·.1)) = r) {W0 w : World} {K : Know} {L : List Res} (hk : K.has (Know.tops (.slice q l.length cap) l)) (h : St W0 w K L) :
  Calls Tryz.prog 59 #[.slice q l.length cap] w fun en w' => en = .returned (.int .i64 r) ∧ St W0 w' K L := by
 have H := Lib.hid h; have HK := Lib.hid hk; have HR := Lib.hid hr; have HB := Lib.hid hb; clear h hk hr hb; go_enter Tryz.func59, Tryz.ntmps59; go_wp2; go_loopw [3, 8] (fun sv iv wr => ∃ (k m : Nat), k ≤ l.length ∧ iv = .int .i64 k ∧ sv = .int .i64 m ∧ topWs ((l.map (·.1)).take k) = m ∧ m ≤ 1000 ∧ St W0 wr K L) (fun _ iv _ => l.length - (intOf iv).toNat)
 case atStart => exact ⟨0, 0, Nat.zero_le _, rfl, rfl, by simp [topWs], by omega, H.out⟩
 case round =>
  obtain ⟨k, m, hkl, rfl, rfl, hm, hm0, hst⟩ := hrel; clear H; have H := Lib.hid hst; clear hst
  by_cases hlt : k < l.length
  · as_aux_lemma =>
    obtain ⟨b, off, hqq⟩ := tops_at HK.out H.out (by omega); subst hqq; obtain ⟨⟨⟨nm, ps⟩, vx⟩, hx⟩ : ∃ x, l[k] = x := ⟨_, rfl⟩; obtain ⟨c0, c1⟩ : wr.cell? ⟨b, off + k * 2, none⟩ = some (.string (bb nm)) ∧ wr.cell? ⟨b, off + k * 2 + 1, none⟩ = some vx := tops_cell HK.out H.out k hlt _ hx; have hmem : ((⟨nm, ps⟩ : TopS), vx) ∈ l := hx ▸ List.getElem_mem hlt; have hxk : K.has (Know.flat RI vx 1 ps) := tops_parts HK.out hmem; obtain ⟨qx, capx, hvx⟩ := flat_form hxk H.out; subst hvx; have HXK := Lib.hid hxk; have hmk : k < (l.map (·.1)).length := by rw [List.length_map]; exact hlt
    have hmg : (l.map (·.1))[k] = ⟨nm, ps⟩ := by rw [List.getElem_map, hx]
    have hkn : (k : Int) < (l.length : Int) := by omega
    obtain ⟨hn1, hn2⟩ := HB.out _ hmem; replace hn1 : nm.length ≤ 140737488351232 := hn1; replace hn2 : ps.length ≤ 17592186043904 := hn2; have hst1 := topWs_take (l.map (·.1)) k hmk _ hmg; rw [hm] at hst1; replace hst1 : topWs ((l.map (·.1)).take (k + 1)) = m + (nm.length + 4 * ps.length + 6) := hst1; have hlk := topWs_le (l.map (·.1)) (k + 1); obtain ⟨M, hM⟩ : ∃ M : Nat, m + (nm.length + 4 * ps.length + 6) = M := ⟨_, rfl⟩; have hMi : (m : Int) + ((nm.length : Int) + 4 * (ps.length : Int) + 6) = (M : Int) := by omega
    have hm1 : (m : Int) ≤ 1000 := by omega
    have hMb : M ≤ 1000000000000000 := by omega
    rw [hM] at hst1
    by_cases hMl : M ≤ 1000
    · have g1 : ¬ (1000 < (m : Int) + ((nm.length : Int) + 4 * (ps.length : Int) + 6)) := by omega
      have HST := Lib.hid hst1; have HMI := Lib.hid hMi; have HML := Lib.hid hMl; clear hst1 hx hmem hxk hmk hmg hm hM hMl hlk hm0 hMi hMb; go_wp2; go_roundw
      case rel => exact ⟨k + 1, M, hlt, by go_num, by rw [HMI.out], HST.out, HML.out, H.out.alloc _⟩
      case measure => first | (simp [intOf]; done) | (simp [intOf]; omega)
    · have g1 : 1000 < (m : Int) + ((nm.length : Int) + 4 * (ps.length : Int) + 6) := by omega
      have hz : r = 0 := by
       rw [← HR.out]; unfold few; rw [if_neg (by omega)]
      subst hz; have HMI := Lib.hid hMi; clear hst1 hx hmem hxk hmk hmg hm hM hMl hlk hm0 hMi hMb; go_wp2; go_ret; exact ⟨rfl, H.out.alloc _⟩
  · obtain rfl : k = l.length := by omega
    have hz : r = 1 := by
      rw [← HR.out]; unfold few; rw [List.take_of_length_le (by rw [List.length_map]; exact Nat.le_refl _)] at hm; rw [if_pos (by omega)]
    subst hz; go_wp2; go_ret; exact ⟨rfl, H.out⟩
set_option maxHeartbeats 4000000 in
set_option maxRecDepth 100000 in
theorem law19_few (l : List MarkR) (q : Option Addr) (cap : Nat) (hnl : l.length ≤ 140737488351232) (hb : ∀ x ∈ l, x.l.map (·.1) = x.m.tops ∧ x.l.length ≤ 140737488351232 ∧ ∀ y ∈ x.l, y.1.name.length ≤ 140737488351232 ∧ y.1.parts.length ≤ 17592186043904) (r : Int) (hr : fewMs (l.map MarkR.m) = r) {W0 w : World} {K : Know} {L : List Res} (hk : K.has (Know.marks (.slice q l.length cap) l)) (h : St W0 w K L) :
   Calls Tryz.prog 24 #[.slice q l.length cap] w fun en w' => en = .returned (.int .i64 r) ∧ St W0 w' K L := by
 have H := Lib.hid h; have HK := Lib.hid hk; have HF := Lib.hid hb; unfold fewMs at hr; rw [List.length_map] at hr; clear h hk hb
 by_cases h20 : 20 < l.length
 · rw [if_pos h20] at hr; subst hr; have g0 : (20 : Int) < (l.length : Int) := by omega
   clear h20 hnl; go_enter Tryz.func24, Tryz.ntmps24; go_wp2; go_ret; exact ⟨rfl, H.out⟩
 rw [if_neg h20] at hr; have g0 : ¬ (20 : Int) < (l.length : Int) := by omega
 have hni : (l.length : Int) ≤ 20 := by omega
 have HR := Lib.hid hr; clear hr h20 hnl; go_enter Tryz.func24, Tryz.ntmps24; go_wp2; go_loopw [10] (fun iv wr => ∃ k : Nat, k ≤ l.length ∧ iv = .int .i64 k ∧ Hid (fewG ((l.map MarkR.m).drop k) = r) ∧ St W0 wr K L) (fun iv _ => l.length - (intOf iv).toNat)
 case atStart => exact ⟨0, Nat.zero_le _, rfl, Lib.hid (by rw [List.drop_zero]; exact HR.out), H.out⟩
 case round =>
   obtain ⟨k, hkl, rfl, HM, hst⟩ := hrel; clear H; have H := Lib.hid hst; clear hst
   by_cases hlt : k < l.length
   · as_aux_lemma =>
     obtain ⟨b0, off, hqq⟩ := marks_at HK.out H.out (by omega); subst hqq; obtain ⟨x, hx⟩ : ∃ x, l[k] = x := ⟨_, rfl⟩; have hmem : x ∈ l := hx ▸ List.getElem_mem hlt; have hxk := marks_tops HK.out hmem; have hcell := marks_cell HK.out H.out k hlt x hx; have hmk : k < (l.map MarkR.m).length := by rw [List.length_map]; exact hlt
     have hmg : (l.map MarkR.m)[k] = x.m := by rw [List.getElem_map, hx]
     obtain ⟨hxl, hxf, hxr⟩ := HF.out x hmem; obtain ⟨⟨p, e, c, tl, co⟩, xl, xq, xcap⟩ := x; obtain ⟨c0, c1, c2, c3, c4⟩ : wr.cell? ⟨b0, off + k * 5, none⟩ = some (.int .i64 p) ∧ wr.cell? ⟨b0, off + k * 5 + 1, none⟩ = some (.int .i64 e) ∧ wr.cell? ⟨b0, off + k * 5 + 2, none⟩ = some (.bool c) ∧ wr.cell? ⟨b0, off + k * 5 + 3, none⟩ = some (.slice xq xl.length xcap) ∧ wr.cell? ⟨b0, off + k * 5 + 4, none⟩ = some (.int .i64 co) := hcell; have HXK := Lib.hid (show K.has (Know.tops (.slice xq xl.length xcap) xl) from hxk); have HXL := Lib.hid (show xl.map (·.1) = tl from hxl); have HXF := Lib.hid hxf; have HXR := Lib.hid hxr; have hkn : (k : Int) < (l.length : Int) := by omega
     obtain ⟨tb, htb⟩ : ∃ b, wr.heap.size = b := ⟨_, rfl⟩; have h := H.out.allocRaw #[.int .i64 p, .int .i64 e, .bool c, .slice xq xl.length xcap, .int .i64 co] 112; rw [htb] at h; obtain ⟨r1, hr1⟩ : ∃ r1, few tl = r1 := ⟨_, rfl⟩; have HR1 := Lib.hid (show few (xl.map fun y => y.1) = r1 by rw [show (xl.map fun y => y.1) = tl from hxl]; exact hr1); have hme : few ((l.map MarkR.m)[k]).tops = r1 := by rw [hmg]; exact hr1
     have d0 := h.rawCell 0; have d1 := h.rawCell 1; have d2 := h.rawCell 2; have d3 := h.rawCell 3; have d4 := h.rawCell 4; simp at d0 d1 d2 d3 d4; clear H; have H := Lib.hid h; clear h
     rcases few_cases tl with h1 | h1
     · obtain rfl : r1 = 0 := hr1.symm.trans h1; have hb := (fewG_bad _ k hmk hme).symm.trans HM.out; subst hb; clear hx hmem hxk hmk hmg hxl hxf hxr hr1 hme h1; go_wp2_with (go_at_call 59; (with_reducible refine (law14_few xl xq xcap HXF.out HXR.out _ HR1.out HXK.out H.out).mono ?_); rintro e_ wn ⟨rfl, h⟩; replace H := Lib.hid h; clear h); go_ret; exact ⟨rfl, H.out.drop⟩
     · obtain rfl : r1 = 1 := hr1.symm.trans h1; have HN := Lib.hid ((fewG_step _ k hmk hme).symm.trans HM.out); clear hx hmem hxk hmk hmg hxl hxf hxr hr1 hme h1; go_wp2_with (go_at_call 59; (with_reducible refine (law14_few xl xq xcap HXF.out HXR.out _ HR1.out HXK.out H.out).mono ?_); rintro e_ wn ⟨rfl, h⟩; replace H := Lib.hid h; clear h); go_roundw
       case rel => exact ⟨k + 1, hlt, by go_num, HN, H.out.drop⟩
       case measure => first | (simp [intOf]; done) | (simp [intOf]; omega)
   · obtain rfl : k = l.length := by omega
     have hz := HM.out; rw [List.drop_of_length_le (by rw [List.length_map]; exact Nat.le_refl _)] at hz; obtain rfl : (1 : Int) = r := hz; go_wp2; go_ret; exact ⟨rfl, H.out⟩
theorem so_failT (p : Nat) (o o2 : OutS) (e : Int) (hx : o.fail e = o2) {W0 w : World} {K : Know} {L : List Res} (h : St W0 w K (.out p o :: L)) :
  Calls Tryz.prog 30 #[outPtr p, .int .i64 e] w fun en w' => en = .returned (.tuple #[]) ∧ St W0 w' K (.out p o2 :: L) := by
 subst hx; exact so_fail p o e h
set_option maxHeartbeats 2000000 in
set_option maxRecDepth 100000 in
theorem mark_write_bad (b : Nat) (o : Bs) (r : Int) (v : Int) (l : List MarkR) (q : Option Addr) (cap : Nat) (hE : marksErr v (l.map MarkR.m) = r) (h0 : r ≠ 0) (hf : ∀ x ∈ l, x.Fit) (hn : l.length ≤ 1000000) {W0 w : World} {K : Know} {L : List Res} (hk : K.has (Know.marks (.slice q l.length cap) l)) (h : St W0 w K (.out b ⟨o, 0⟩ :: L)) :
  Calls Tryz.prog 27 #[outPtr b, .slice q l.length cap, .int .i64 v] w fun en w' => en = .returned (.tuple #[]) ∧ St W0 w' K (.out b ⟨o, r⟩ :: L) := by
 have H := Lib.hid h; have HK := Lib.hid hk; have HF := Lib.hid hf; have HN := Lib.hid hn; have HCK := Lib.hid hE; have HO := Lib.hid (show (⟨o, 0⟩ : OutS).fail r = ⟨o, r⟩ by rfl); have g0 : (r == 0) = false := by rw [beq_eq_false_iff_ne]; exact h0
 have g1 : (r != 0) = true := by simp [bne, g0]
 clear h hk hf hn hE h0; go_enter Tryz.func27, Tryz.ntmps27
 go_wp2_with (first
  | (go_at_call 23; (with_reducible refine (marks_check v l q cap _ HCK.out HF.out HN.out HK.out H.out).mono ?_); rintro e_ wn ⟨rfl, h⟩; replace H := Lib.hid h; clear h)
  | (go_at_call 30; (with_reducible refine (so_failT b _ _ _ HO.out H.out).mono ?_); rintro e_ wn ⟨rfl, h⟩; replace H := Lib.hid h; clear h))
 (try simp only [Exit.inBlock, Exit.then]); refine bodyPost_ret (results_none rfl _ _ _) rfl ?_
 exact ⟨rfl, H.out⟩
set_option maxHeartbeats 6000000 in
set_option maxRecDepth 100000 in
theorem mark_write_ok (b : Nat) (o o2 : Bs) (v : Int) (l : List MarkR) (q : Option Addr) (cap : Nat) (he : o ++ encMs v (l.map MarkR.m) = o2) (hE : marksErr v (l.map MarkR.m) = 0) (hf : ∀ x ∈ l, x.Fit) (hfit : ∀ x ∈ l, FitTs x.m.tops ∧ (encM v x.m).length ≤ 2000) (hn : l.length ≤ 20) (hol : o.length ≤ 100000) {W0 w : World} {K : Know} {L : List Res} (hk : K.has (Know.marks (.slice q l.length cap) l)) (h : St W0 w K (.out b ⟨o, 0⟩ :: L)) :
  Calls Tryz.prog 27 #[outPtr b, .slice q l.length cap, .int .i64 v] w fun en w' => en = .returned (.tuple #[]) ∧ St W0 w' K (.out b ⟨o2, 0⟩ :: L) := by
 have H := Lib.hid h; have HK := Lib.hid hk; have HF := Lib.hid hf; have HFIT := Lib.hid hfit; have HE := Lib.hid he; have HOL := Lib.hid hol; have HN := Lib.hid (show l.length ≤ 1000000 by omega); have HCK := Lib.hid hE; have HALL := Lib.hid (marksErr_ok hE).2; have hni : (l.length : Int) ≤ 20 := by omega
 have hle := preM_le v (l.map MarkR.m); obtain ⟨A, hA⟩ : ∃ A, o ++ preM v (l.map MarkR.m) 0 = A := ⟨_, rfl⟩; have HA := Lib.hid (show o ++ beBytes (l.length : Int) (4 : Int).toNat = A by rw [← hA, preM_zero, List.length_map]); have HFL := Lib.hid (vfits4 (l.length : Int) (by omega)); have HR0 := Lib.hid (show o.length ≤ 100000000000000 by omega)
 have HLE := Lib.hid (fun k hk => preM_le v (l.map MarkR.m) k hk (by rw [List.length_map]; exact hn) (fun m hm => by
  obtain ⟨x, hx, rfl⟩ := List.mem_map.1 hm
  exact (hfit x hx).2))
 clear h hk hf hfit he hn hE hol hle; go_enter Tryz.func27, Tryz.ntmps27
 go_wp2_with (first
  | (go_at_call 23; (with_reducible refine (marks_check v l q cap _ HCK.out HF.out HN.out HK.out H.out).mono ?_); rintro e_ wn ⟨rfl, h⟩; replace H := Lib.hid h; clear h)
  | (go_at_call 32; (with_reducible refine (so_intV b _ _ _ 4 HA.out HFL.out HR0.out H.out).mono ?_); rintro e_ wn ⟨rfl, h⟩; replace H := Lib.hid h; clear h))
 go_loopw [23] (fun iv wr => ∃ k : Nat, k ≤ l.length ∧ iv = .int .i64 k ∧ St W0 wr K (.out b ⟨o ++ preM v (l.map MarkR.m) k, 0⟩ :: L)) (fun iv _ => l.length - (intOf iv).toNat)
 case atStart => exact ⟨0, Nat.zero_le _, rfl, by rw [hA]; exact H.out⟩
 case round =>
  obtain ⟨k, hkl, rfl, hst⟩ := hrel; clear H hA; have H := Lib.hid hst; clear hst
  by_cases hlt : k < l.length
  · as_aux_lemma =>
    obtain ⟨b0, off, hqq⟩ := marks_at HK.out H.out (by omega); subst hqq; obtain ⟨x, hx⟩ : ∃ x, l[k] = x := ⟨_, rfl⟩; have hmem : x ∈ l := hx ▸ List.getElem_mem hlt; have hxk := marks_tops HK.out hmem; have hcell := marks_cell HK.out H.out k hlt x hx; have hmk : k < (l.map MarkR.m).length := by rw [List.length_map]; exact hlt
    have hmg : (l.map MarkR.m)[k] = x.m := by rw [List.getElem_map, hx]
    obtain ⟨hxl, hxf, hxr⟩ := HF.out x hmem; obtain ⟨⟨p, e, c, tl, co⟩, xl, xq, xcap⟩ := x; obtain ⟨c0, c1, c2, c3, c4⟩ : wr.cell? ⟨b0, off + k * 5, none⟩ = some (.int .i64 p) ∧ wr.cell? ⟨b0, off + k * 5 + 1, none⟩ = some (.int .i64 e) ∧ wr.cell? ⟨b0, off + k * 5 + 2, none⟩ = some (.bool c) ∧ wr.cell? ⟨b0, off + k * 5 + 3, none⟩ = some (.slice xq xl.length xcap) ∧ wr.cell? ⟨b0, off + k * 5 + 4, none⟩ = some (.int .i64 co) := hcell; have HXK := Lib.hid (show K.has (Know.tops (.slice xq xl.length xcap) xl) from hxk); have HXL := Lib.hid (show xl.map (·.1) = tl from hxl); have HXF := Lib.hid (show FewT xl from hxf); have hkn : (k : Int) < (l.length : Int) := by omega
    have hft := (HFIT.out _ hmem).1; have her := HALL.out (⟨p, e, c, tl, co⟩ : MarkS) (by have hz := List.getElem_mem hmk; rw [hmg] at hz; exact hz); obtain ⟨hw, hco, _, _⟩ := mErr_ok (show mErr v p e tl co = 0 from her); have hwt := who_t hw; have HF8 := Lib.hid (vfits8 p (by have := hxr.1.2; simp only at this; omega)); have HF2 := Lib.hid (vfits2 e (by omega)); have HF4 := Lib.hid (vfits4 co (by omega)); have HFT := Lib.hid (show FitTs (xl.map fun y => y.1) by rw [show (xl.map fun y => y.1) = tl from hxl]; exact hft); have hst1 := preM_step v (l.map MarkR.m) k hmk _ hmg; have hle1 := HLE.out (k + 1) hmk; have hol := HOL.out; obtain ⟨B0, hB0⟩ : ∃ B, o ++ preM v (l.map MarkR.m) k = B := ⟨_, rfl⟩; obtain ⟨B1, hB1⟩ : ∃ B, B0 ++ beBytes p (8 : Int).toNat = B := ⟨_, rfl⟩; obtain ⟨B2, hB2⟩ : ∃ B, B1 ++ beBytes e (2 : Int).toNat = B := ⟨_, rfl⟩; obtain ⟨B3, hB3⟩ : ∃ B, B2 ++ encO c = B := ⟨_, rfl⟩; obtain ⟨B4, hB4⟩ : ∃ B, B3 ++ encTs tl = B := ⟨_, rfl⟩; obtain ⟨B5, hB5⟩ : ∃ B, B4 ++ beBytes co (4 : Int).toNat = B := ⟨_, rfl⟩
    have hB6 : o ++ preM v (l.map MarkR.m) (k + 1) = B4 ++ (if v = 1 then beBytes co (4 : Int).toNat else []) := by
      rw [hst1, ← hB4, ← hB3, ← hB2, ← hB1, ← hB0]; unfold encM; simp only [List.append_assoc]
    have hlen : B4.length ≤ 1000000 := by
      have h6 := congrArg List.length hB6; rw [List.length_append, List.length_append] at h6
      omega
    have hl0 : B0.length ≤ 100000000000000 ∧ B1.length ≤ 100000000000000 ∧ B2.length ≤ 100000000000000 ∧ B3.length ≤ 1000000 ∧ B4.length ≤ 100000000000000 := by
      have e4 := congrArg List.length hB4; have e3 := congrArg List.length hB3; have e2 := congrArg List.length hB2; have e1 := congrArg List.length hB1; rw [List.length_append] at e1 e2 e3 e4
      omega
    obtain ⟨tb, htb⟩ : ∃ b, wr.heap.size = b := ⟨_, rfl⟩; have h := (H.out.allocRaw #[.int .i64 p, .int .i64 e, .bool c, .slice xq xl.length xcap, .int .i64 co] 112).p1; rw [htb] at h; have d0 := h.p1.rawCell 0; have d1 := h.p1.rawCell 1; have d2 := h.p1.rawCell 2; have d3 := h.p1.rawCell 3; have d4 := h.p1.rawCell 4; simp at d0 d1 d2 d3 d4; rw [hB0] at h; have HB1 := Lib.hid hB1; have HB2 := Lib.hid hB2; have HB3 := Lib.hid hB3; have HB4 := Lib.hid (show B3 ++ encTs (xl.map fun y => y.1) = B4 by rw [show (xl.map fun y => y.1) = tl from hxl]; exact hB4); have HB5 := Lib.hid hB5; have HL0 := Lib.hid hl0; clear H; have H := Lib.hid h; clear h hx hmem hxk hmk hmg hxl hxf hxr hft her hw hco hwt hst1 hle1 hol hB0 hB1 hB2 hB3 hB4 hlen hl0
    by_cases hv : v = 1
    · subst hv; rw [if_pos rfl, hB5] at hB6; have HB6 := Lib.hid hB6; clear hB5 hB6
      go_wp2_with (first
  | (go_at_call 32; (with_reducible refine (so_intV b B0 B1 p 8 HB1.out HF8.out HL0.out.1 H.out).mono ?_); rintro e_ wn ⟨rfl, h⟩; have d0 := h.p1.rawCell 0; have d1 := h.p1.rawCell 1; have d2 := h.p1.rawCell 2; have d3 := h.p1.rawCell 3; have d4 := h.p1.rawCell 4; simp at d0 d1 d2 d3 d4; replace H := Lib.hid h; clear h)
  | (go_at_call 32; (with_reducible refine (so_intV b B1 B2 e 2 HB2.out HF2.out HL0.out.2.1 H.out).mono ?_); rintro e_ wn ⟨rfl, h⟩; have d0 := h.p1.rawCell 0; have d1 := h.p1.rawCell 1; have d2 := h.p1.rawCell 2; have d3 := h.p1.rawCell 3; have d4 := h.p1.rawCell 4; simp at d0 d1 d2 d3 d4; replace H := Lib.hid h; clear h)
  | (go_at_call 62; (with_reducible refine (txn_putBool b B2 B3 c HB3.out HL0.out.2.2.1 H.out).mono ?_); rintro e_ wn ⟨rfl, h⟩; have d0 := h.p1.rawCell 0; have d1 := h.p1.rawCell 1; have d2 := h.p1.rawCell 2; have d3 := h.p1.rawCell 3; have d4 := h.p1.rawCell 4; simp at d0 d1 d2 d3 d4; replace H := Lib.hid h; clear h)
  | (go_at_call 63; (with_reducible refine (val_putTopics b B3 B4 xl xq xcap HB4.out HL0.out.2.2.2.1 HFT.out HXK.out H.out).mono ?_); rintro e_ wn ⟨rfl, h⟩; have d0 := h.p1.rawCell 0; have d1 := h.p1.rawCell 1; have d2 := h.p1.rawCell 2; have d3 := h.p1.rawCell 3; have d4 := h.p1.rawCell 4; simp at d0 d1 d2 d3 d4; replace H := Lib.hid h; clear h)
  | (go_at_call 32; (with_reducible refine (so_intV b B4 B5 co 4 HB5.out HF4.out HL0.out.2.2.2.2 H.out).mono ?_); rintro e_ wn ⟨rfl, h⟩; have d0 := h.p1.rawCell 0; have d1 := h.p1.rawCell 1; have d2 := h.p1.rawCell 2; have d3 := h.p1.rawCell 3; have d4 := h.p1.rawCell 4; simp at d0 d1 d2 d3 d4; replace H := Lib.hid h; clear h))
      go_roundw
      case rel => exact ⟨k + 1, hlt, by go_num, by rw [HB6.out]; exact H.out.p1.drop⟩
      case measure => first | (simp [intOf]; done) | (simp [intOf]; omega)
    · rw [if_neg hv, List.append_nil] at hB6; have HB6 := Lib.hid hB6; have gv : (v == 1) = false := by rw [beq_eq_false_iff_ne]; exact hv
      clear hB5 hB6 hv
      go_wp2_with (first
  | (go_at_call 32; (with_reducible refine (so_intV b B0 B1 p 8 HB1.out HF8.out HL0.out.1 H.out).mono ?_); rintro e_ wn ⟨rfl, h⟩; have d0 := h.p1.rawCell 0; have d1 := h.p1.rawCell 1; have d2 := h.p1.rawCell 2; have d3 := h.p1.rawCell 3; have d4 := h.p1.rawCell 4; simp at d0 d1 d2 d3 d4; replace H := Lib.hid h; clear h)
  | (go_at_call 32; (with_reducible refine (so_intV b B1 B2 e 2 HB2.out HF2.out HL0.out.2.1 H.out).mono ?_); rintro e_ wn ⟨rfl, h⟩; have d0 := h.p1.rawCell 0; have d1 := h.p1.rawCell 1; have d2 := h.p1.rawCell 2; have d3 := h.p1.rawCell 3; have d4 := h.p1.rawCell 4; simp at d0 d1 d2 d3 d4; replace H := Lib.hid h; clear h)
  | (go_at_call 62; (with_reducible refine (txn_putBool b B2 B3 c HB3.out HL0.out.2.2.1 H.out).mono ?_); rintro e_ wn ⟨rfl, h⟩; have d0 := h.p1.rawCell 0; have d1 := h.p1.rawCell 1; have d2 := h.p1.rawCell 2; have d3 := h.p1.rawCell 3; have d4 := h.p1.rawCell 4; simp at d0 d1 d2 d3 d4; replace H := Lib.hid h; clear h)
  | (go_at_call 63; (with_reducible refine (val_putTopics b B3 B4 xl xq xcap HB4.out HL0.out.2.2.2.1 HFT.out HXK.out H.out).mono ?_); rintro e_ wn ⟨rfl, h⟩; have d0 := h.p1.rawCell 0; have d1 := h.p1.rawCell 1; have d2 := h.p1.rawCell 2; have d3 := h.p1.rawCell 3; have d4 := h.p1.rawCell 4; simp at d0 d1 d2 d3 d4; replace H := Lib.hid h; clear h))
      go_roundw
      case rel => exact ⟨k + 1, hlt, by go_num, by rw [HB6.out]; exact H.out.p1.drop⟩
      case measure => first | (simp [intOf]; done) | (simp [intOf]; omega)
  · obtain rfl : k = l.length := by omega
    have h := H.out; rw [show preM v (l.map MarkR.m) l.length = encMs v (l.map MarkR.m) by rw [← preM_all, List.length_map], HE.out] at h; clear H; have H := Lib.hid h; clear h; go_wp2; go_end0; exact ⟨rfl, H.out⟩
structure PutT (x : PTop) : Prop where
  name : x.name.length ≤ 32767
  few : x.l.length ≤ 100000
  parts : ∀ y ∈ x.l, PutP y
theorem flat_cut {α : Type} (f : α → Bs) (l : List α) (k : Nat) (hk : k < l.length) (x : α) (hx : l[k] = x) : (l.drop k).flatMap f = f x ++ (l.drop (k + 1)).flatMap f := by
 rw [List.drop_eq_getElem_cons hk, hx, List.flatMap_cons]
theorem len_ahead {a b c : Bs} {n : Nat} (h : a ++ b = c) (hc : c.length ≤ n) : a.length ≤ n := by
 have := congrArg List.length h; rw [List.length_append] at this
 omega
set_option maxHeartbeats 2000000 in
set_option maxRecDepth 100000 in
theorem put_part (po : Nat) (e e2 : Bs) (idx : Int) (l : List BatR) (q : Option Addr) (cap : Nat) (hp : PutP ⟨idx, l, q, cap⟩) (he : e ++ encPart ⟨idx, l, q, cap⟩ = e2) (hel : e.length ≤ 10000000) {W0 w : World} {K : Know} {L : List Res} (hk : K.has (Know.bats (.slice q l.length cap) l)) (h : St W0 w K (.out po ⟨e, 0⟩ :: L)) :
  Calls Tryz.prog 34 #[outPtr po, .agg #[.int .i64 idx, .slice q l.length cap]] w fun en w' => en = .returned (.tuple #[]) ∧ St W0 w' K (.out po ⟨e2, 0⟩ :: L) := by
 obtain ⟨rb, hrb⟩ : ∃ b, w.heap.size = b := ⟨_, rfl⟩; have g1 := (h.allocRaw #[.int .i64 idx, .slice q l.length cap] 68).p1; rw [hrb] at g1; have y0 := g1.p1.rawCell 0; have y1 := g1.p1.rawCell 1; simp at y0 y1; obtain ⟨s, hs⟩ : ∃ s, encB l = s := ⟨_, rfl⟩; obtain ⟨e1, he1⟩ : ∃ x, e ++ beBytes idx (4 : Int).toNat = x := ⟨_, rfl⟩; have hsl : s.length ≤ 280000 := by rw [← hs]; exact hp.len
 have H := Lib.hid g1; have HK := Lib.hid hk; have HSE := Lib.hid (show allB l = (s, 0) by rw [allB_good hp.err, hs]); have HFT := Lib.hid (show ∀ x ∈ l, x.Fit from hp.fit); have HSM := Lib.hid (show ∀ x ∈ l, smallB (x.l.map (·.1)) = true from hp.small); have HLL := Lib.hid (show l.length ≤ 20 from hp.few); have HE1 := Lib.hid he1; have HF4 := Lib.hid (pfits4 idx (by have h1 : 0 ≤ idx ∧ idx ≤ 2147483647 := hp.idx; omega)); have HR8 := Lib.hid (show -9223372036854775808 ≤ idx ∧ idx < 9223372036854775808 by have h1 : 0 ≤ idx ∧ idx ≤ 2147483647 := hp.idx; omega); have HL0 := Lib.hid (show e.length ≤ 100000000000000 by omega); have HL1 := Lib.hid (show e1.length ≤ 100000000000000 by rw [← he1, List.length_append, beBytes_length]; show e.length + 4 ≤ _; omega)
 have HE2 := Lib.hid (show e1 ++ encF 4 ⟨false, s⟩ = e2 by
  rw [← he1, ← he, List.append_assoc, ← hs]
  rfl)
 have HSL := Lib.hid (show s.length ≤ 100000000 by omega); clear h g1 hk hp he he1 hel hs hsl; go_enter Tryz.func34, Tryz.ntmps34
 go_wp2_with (first
  | (go_at_call 25; clear y0 y1; (with_reducible refine (bat_all l q cap s 0 HSE.out HFT.out HSM.out HLL.out HK.out H.out).mono ?_); rintro e_ wn ⟨rfl, h⟩; have y0 := h.p1.rawCell 0; have y1 := h.p1.rawCell 1; simp at y0 y1; replace H := Lib.hid h; clear h)
  | (go_at_call 32; (with_reducible refine (pso_int po e e1 idx 4 HE1.out HF4.out HR8.out HL0.out H.out).mono ?_); rintro e_ wn ⟨rfl, h⟩; replace H := Lib.hid h; clear h)
  | (go_at_call 68; (with_reducible refine (pblob_of s H.out).mono ?_); rintro e_ wn ⟨rfl, h⟩; replace H := Lib.hid h; clear h)
  | (go_at_call 31; (with_reducible refine (pblob_fixed4 po e1 e2 s HE2.out HSL.out HL1.out H.out).mono ?_); rintro e_ wn ⟨rfl, h⟩; replace H := Lib.hid h; clear h))
 go_end0; exact ⟨rfl, H.out.p1.drop⟩
set_option maxHeartbeats 1000000 in
set_option maxRecDepth 100000 in
theorem parts_rise (l : List PartR) (q : Option Addr) (cap : Nat) (r : Bool) (hr : riseP (-1) l = r) (hll : l.length ≤ 4398046511104) {W0 w : World} {K : Know} {L : List Res} (hk : K.has (Know.pparts (.slice q l.length cap) l)) (h : St W0 w K L) :
  Calls Tryz.prog 72 #[.slice q l.length cap] w fun en w' => en = .returned (.bool r) ∧ St W0 w' K L := by
 have H := Lib.hid h; have HK := Lib.hid hk; have HR := Lib.hid (show riseP (-1) (l.drop 0) = r by rw [List.drop_zero]; exact hr); have hni : (l.length : Int) ≤ 4398046511104 := by omega
 clear h hk hr hll; go_enter Tryz.func72, Tryz.ntmps72; go_wp2; go_loopw [3, 8] (fun av iv wr => ∃ (k : Nat) (a : Int), k ≤ l.length ∧ iv = .int .i64 k ∧ av = .int .i64 a ∧ Hid (riseP a (l.drop k) = r) ∧ St W0 wr K L) (fun _ iv _ => l.length - (intOf iv).toNat)
 case atStart => exact ⟨0, -1, Nat.zero_le _, rfl, rfl, HR, H.out⟩
 case round =>
  obtain ⟨k, a, hkl, rfl, rfl, HC, hst⟩ := hrel; clear H HR; have H := Lib.hid hst; clear hst
  by_cases hlt : k < l.length
  · obtain ⟨bk, off, hqq⟩ := pparts_at HK.out H.out (by omega); subst hqq; obtain ⟨x, hx⟩ : ∃ x, l[k] = x := ⟨_, rfl⟩; obtain ⟨c0, c1⟩ := pparts_cell HK.out H.out k hlt x hx; have hc := HC.out; rw [List.drop_eq_getElem_cons hlt, hx, riseP_cons] at hc; have hkn : (k : Int) < (l.length : Int) := by omega
    obtain ⟨i, hi⟩ : ∃ i, x.idx = i := ⟨_, rfl⟩; rw [hi] at c0 hc
    by_cases c2 : a < i
    · have d1 : decide (i ≤ a) = false := decide_eq_false (by omega)
      by_cases c3 : i ≤ 2147483647
      · have d2 : decide (2147483647 < i) = false := decide_eq_false (by omega); rw [decide_eq_true c2, decide_eq_true c3, Bool.true_and, Bool.true_and] at hc; have HC2 := Lib.hid hc; clear hc hx hi c2 c3; go_wp2_with fail; go_roundw
        case rel =>
         refine ⟨k + 1, i, hlt, by go_num, rfl, HC2, ?_⟩
         first | exact H.out | exact H.out.alloc _
        case measure => first | (simp [intOf]; done) | (simp [intOf]; omega)
      · have d2 : decide (2147483647 < i) = true := decide_eq_true (by omega); rw [decide_eq_false c3, Bool.and_false, Bool.false_and] at hc; subst hc; clear hx hi c2 c3; go_wp2_with fail; go_ret; exact ⟨rfl, by first | exact H.out | exact H.out.alloc _⟩
    · have d1 : decide (i ≤ a) = true := decide_eq_true (by omega); rw [decide_eq_false c2, Bool.false_and, Bool.false_and] at hc; subst hc; clear hx hi c2; go_wp2_with fail; go_ret; exact ⟨rfl, by first | exact H.out | exact H.out.alloc _⟩
  · obtain rfl : k = l.length := by omega
    have hc := HC.out; rw [List.drop_length] at hc; have hc : true = r := hc; subst hc; go_wp2_with fail; go_ret; exact ⟨rfl, H.out⟩

theorem zq24 {p : Prop} (h : p := by
  obtain rfl : k = l.length := by omega
  have hc := HC.out; rw [List.drop_length] at hc; have hc : 0 = e := hc; subst hc; go_wp2_with fail; go_ret; exact ⟨rfl, H.out⟩) : p := h
set_option maxHeartbeats 2000000 in
set_option maxRecDepth 100000 in
theorem check_batches (txn : Bool) (l : List BatR) (q : Option Addr) (cap : Nat) (e : Int) (he : errBs txn l = e) (hf : ∀ x ∈ l, CkR x) (hll : l.length ≤ 4398046511104) {W0 w : World} {K : Know} {L : List Res} (hk : K.has (Know.bats (.slice q l.length cap) l)) (h : St W0 w K L) :
  Calls Tryz.prog 73 #[.slice q l.length cap, .bool txn] w fun en w' => en = .returned (.int .i64 e) ∧ St W0 w' K L := by
 have H := Lib.hid h; have HK := Lib.hid hk; have HF := Lib.hid hf; have HR := Lib.hid (show errBs txn (l.drop 0) = e by rw [List.drop_zero]; exact he); have hni : (l.length : Int) ≤ 4398046511104 := by omega
 clear h hk he hll hf; go_enter Tryz.func73, Tryz.ntmps73; go_wp2; go_loopw [10] (fun iv wr => ∃ (k : Nat), k ≤ l.length ∧ iv = .int .i64 k ∧ Hid (errBs txn (l.drop k) = e) ∧ St W0 wr K L) (fun iv _ => l.length - (intOf iv).toNat)
 case atStart => exact ⟨0, Nat.zero_le _, rfl, HR, H.out⟩
 case round =>
  obtain ⟨k, hkl, rfl, HC, hst⟩ := hrel; clear H HR; have H := Lib.hid hst; clear hst
  by_cases hlt : k < l.length
  · obtain ⟨bk, off, hqq⟩ := bats_at HK.out H.out (by omega); subst hqq; obtain ⟨x, hx⟩ : ∃ x, l[k] = x := ⟨_, rfl⟩; have hmem : x ∈ l := hx ▸ List.getElem_mem hlt; have hck := HF.out x hmem; have hcell0 := bats_cell HK.out H.out k hlt x hx; have HXK0 := bats_recs HK.out hmem; have hc := HC.out; rw [List.drop_eq_getElem_cons hlt, hx, errBs_cons] at hc; have hkn : (k : Int) < (l.length : Int) := by omega
    obtain ⟨⟨base, leader, app, txn2, ctl, last, first, maxt, prod, epoch, sq, rcs⟩, xl, xq, xcap⟩ := x; have hcell : wr.cell? ⟨bk, off + k * 12, none⟩ = some (.int .i64 base) ∧ wr.cell? ⟨bk, off + k * 12 + 1, none⟩ = some (.int .i64 leader) ∧ wr.cell? ⟨bk, off + k * 12 + 2, none⟩ = some (.bool app) ∧ wr.cell? ⟨bk, off + k * 12 + 3, none⟩ = some (.bool txn2) ∧ wr.cell? ⟨bk, off + k * 12 + 4, none⟩ = some (.bool ctl) ∧ wr.cell? ⟨bk, off + k * 12 + 5, none⟩ = some (.int .i64 last) ∧ wr.cell? ⟨bk, off + k * 12 + 6, none⟩ = some (.int .i64 first) ∧ wr.cell? ⟨bk, off + k * 12 + 7, none⟩ = some (.int .i64 maxt) ∧ wr.cell? ⟨bk, off + k * 12 + 8, none⟩ = some (.int .i64 prod) ∧ wr.cell? ⟨bk, off + k * 12 + 9, none⟩ = some (.int .i64 epoch) ∧ wr.cell? ⟨bk, off + k * 12 + 10, none⟩ = some (.int .i64 sq) ∧ wr.cell? ⟨bk, off + k * 12 + 11, none⟩ = some (.slice xq xl.length xcap) := hcell0; obtain ⟨c0, c1, c2, c3, c4, c5, c6, c7, c8, c9, c10, c11⟩ := hcell; have HXK := Lib.hid (show K.has (Know.recs (.slice xq xl.length xcap) xl) from HXK0); have HFI := Lib.hid (show first ≤ 9223372036854775807 from hck.first); have HFB := Lib.hid (show FitB xl from hck.fit); have HLN := Lib.hid (show xl.length ≤ 1000000 from hck.len); obtain ⟨be, hbe⟩ : ∃ n, batErr ⟨base, leader, app, txn2, ctl, last, first, maxt, prod, epoch, sq, rcs⟩ = n := ⟨_, rfl⟩; have HBE := Lib.hid (show batErr ⟨base, leader, app, txn2, ctl, last, first, maxt, prod, epoch, sq, xl.map (·.1)⟩ = be by rw [show xl.map (·.1) = rcs from hck.recs]; exact hbe); have hc : (if be ≠ 0 then be else if ctl = true then 12 else if txn2 ≠ txn then 8 else errBs txn (l.drop (k + 1))) = e := by rw [← hbe]; exact hc
    clear hx hmem hck hcell0 HXK0 hbe
    by_cases b0 : be = 0
    · subst b0; rw [if_neg (by simp)] at hc
      cases ctl with
      | true =>
       rw [if_pos rfl] at hc; subst hc; go_wp2_with (go_at_call 88; (with_reducible refine (bat_check base leader app txn2 true last first maxt prod epoch sq xl xq xcap 0 HBE.out HFI.out HFB.out HLN.out HXK.out (H.out.allocRaw #[.int .i64 base, .int .i64 leader, .bool app, .bool txn2, .bool true, .int .i64 last, .int .i64 first, .int .i64 maxt, .int .i64 prod, .int .i64 epoch, .int .i64 sq, .slice xq xl.length xcap] 58)).mono ?_); rintro e_ wn ⟨rfl, h⟩; have y3 := h.rawCell 3; have y4 := h.rawCell 4; simp at y3 y4; replace H := Lib.hid h; clear h); go_ret; exact ⟨rfl, H.out.drop⟩
      | false =>
       rw [if_neg (by simp)] at hc
       cases txn2 with
       | true =>
        cases txn with
        | true =>
         rw [if_neg (by simp)] at hc; have HC2 := Lib.hid hc; clear hc; go_wp2_with (go_at_call 88; (with_reducible refine (bat_check base leader app true false last first maxt prod epoch sq xl xq xcap 0 HBE.out HFI.out HFB.out HLN.out HXK.out (H.out.allocRaw #[.int .i64 base, .int .i64 leader, .bool app, .bool true, .bool false, .int .i64 last, .int .i64 first, .int .i64 maxt, .int .i64 prod, .int .i64 epoch, .int .i64 sq, .slice xq xl.length xcap] 58)).mono ?_); rintro e_ wn ⟨rfl, h⟩; have y3 := h.rawCell 3; have y4 := h.rawCell 4; simp at y3 y4; replace H := Lib.hid h; clear h); go_roundw
         case rel =>
          refine ⟨k + 1, hlt, by go_num, HC2, ?_⟩; exact H.out.drop
         case measure => first | (simp [intOf]; done) | (simp [intOf]; omega)
        | false =>
         rw [if_pos (by simp)] at hc; subst hc; go_wp2_with (go_at_call 88; (with_reducible refine (bat_check base leader app true false last first maxt prod epoch sq xl xq xcap 0 HBE.out HFI.out HFB.out HLN.out HXK.out (H.out.allocRaw #[.int .i64 base, .int .i64 leader, .bool app, .bool true, .bool false, .int .i64 last, .int .i64 first, .int .i64 maxt, .int .i64 prod, .int .i64 epoch, .int .i64 sq, .slice xq xl.length xcap] 58)).mono ?_); rintro e_ wn ⟨rfl, h⟩; have y3 := h.rawCell 3; have y4 := h.rawCell 4; simp at y3 y4; replace H := Lib.hid h; clear h); go_ret; exact ⟨rfl, H.out.drop⟩
       | false =>
        cases txn with
        | true =>
         rw [if_pos (by simp)] at hc; subst hc; go_wp2_with (go_at_call 88; (with_reducible refine (bat_check base leader app false false last first maxt prod epoch sq xl xq xcap 0 HBE.out HFI.out HFB.out HLN.out HXK.out (H.out.allocRaw #[.int .i64 base, .int .i64 leader, .bool app, .bool false, .bool false, .int .i64 last, .int .i64 first, .int .i64 maxt, .int .i64 prod, .int .i64 epoch, .int .i64 sq, .slice xq xl.length xcap] 58)).mono ?_); rintro e_ wn ⟨rfl, h⟩; have y3 := h.rawCell 3; have y4 := h.rawCell 4; simp at y3 y4; replace H := Lib.hid h; clear h); go_ret; exact ⟨rfl, H.out.drop⟩
        | false =>
         rw [if_neg (by simp)] at hc; have HC2 := Lib.hid hc; clear hc; go_wp2_with (go_at_call 88; (with_reducible refine (bat_check base leader app false false last first maxt prod epoch sq xl xq xcap 0 HBE.out HFI.out HFB.out HLN.out HXK.out (H.out.allocRaw #[.int .i64 base, .int .i64 leader, .bool app, .bool false, .bool false, .int .i64 last, .int .i64 first, .int .i64 maxt, .int .i64 prod, .int .i64 epoch, .int .i64 sq, .slice xq xl.length xcap] 58)).mono ?_); rintro e_ wn ⟨rfl, h⟩; have y3 := h.rawCell 3; have y4 := h.rawCell 4; simp at y3 y4; replace H := Lib.hid h; clear h); go_roundw
         case rel =>
          refine ⟨k + 1, hlt, by go_num, HC2, ?_⟩; exact H.out.drop
         case measure => first | (simp [intOf]; done) | (simp [intOf]; omega)
    · rw [if_pos b0] at hc; subst hc; have g1 : (be == 0) = false := by rw [beq_eq_false_iff_ne]; exact b0
      have g2 : (be != 0) = true := by simp [bne, g1]
      clear b0; go_wp2_with (go_at_call 88; (with_reducible refine (bat_check base leader app txn2 ctl last first maxt prod epoch sq xl xq xcap be HBE.out HFI.out HFB.out HLN.out HXK.out (H.out.allocRaw #[.int .i64 base, .int .i64 leader, .bool app, .bool txn2, .bool ctl, .int .i64 last, .int .i64 first, .int .i64 maxt, .int .i64 prod, .int .i64 epoch, .int .i64 sq, .slice xq xl.length xcap] 58)).mono ?_); rintro e_ wn ⟨rfl, h⟩; have y3 := h.rawCell 3; have y4 := h.rawCell 4; simp at y3 y4; replace H := Lib.hid h; clear h); go_ret; exact ⟨rfl, H.out.drop⟩
  · exact zq24
set_option maxHeartbeats 2000000 in
set_option maxRecDepth 100000 in
theorem check_topics (l : List PTop) (q : Option Addr) (cap : Nat) (e : Int) (he : errTops l = e) (hf : ∀ x ∈ l, x.name.length ≤ 140737488355328 ∧ x.l.length ≤ 4398046511104) (hll : l.length ≤ 4398046511104) {W0 w : World} {K : Know} {L : List Res} (hk : K.has (Know.ptops (.slice q l.length cap) l)) (h : St W0 w K L) :
   Calls Tryz.prog 39 #[.slice q l.length cap] w fun en w' => en = .returned (.int .i64 e) ∧ St W0 w' K L := by
 have H := Lib.hid h; have HK := Lib.hid hk; have HF := Lib.hid hf; have hni : (l.length : Int) ≤ 4398046511104 := by omega
 unfold errTops at he; clear h hk hf
 by_cases h0 : l.length = 0
 · rw [if_pos h0] at he; subst he; rw [h0]; clear hni hll h0; go_enter Tryz.func39, Tryz.ntmps39; go_wp2; go_ret; exact ⟨rfl, H.out⟩
 rw [if_neg h0] at he; have HR := Lib.hid (show errT [] (l.drop 0) = e by rw [List.drop_zero]; exact he); have hz : ((l.length : Int) == 0) = false := by rw [beq_eq_false_iff_ne]; omega
 have hz2 : ¬ l.length = 0 := h0; clear he hll h0; go_enter Tryz.func39, Tryz.ntmps39; go_wp2; go_loopw [3, 11] (fun av iv wr => ∃ (k : Nat) (a : Bs), k ≤ l.length ∧ iv = .int .i64 k ∧ av = .string (bb a) ∧ Hid (errT a (l.drop k) = e) ∧ St W0 wr K L) (fun _ iv _ => l.length - (intOf iv).toNat)
 case atStart => exact ⟨0, [], Nat.zero_le _, rfl, rfl, HR, H.out⟩
 case round =>
   obtain ⟨k, a, hkl, rfl, rfl, HC, hst⟩ := hrel; clear H HR; have H := Lib.hid hst; clear hst
   by_cases hlt : k < l.length
   · obtain ⟨bk, off, hqq⟩ := ptops_at HK.out H.out (by omega); subst hqq; obtain ⟨x, hx⟩ : ∃ x, l[k] = x := ⟨_, rfl⟩; have hmem : x ∈ l := hx ▸ List.getElem_mem hlt; obtain ⟨hn1, hn2⟩ := HF.out x hmem; obtain ⟨c0, c1⟩ := ptops_cell HK.out H.out k hlt x hx; have HXK0 := ptops_parts HK.out hmem; have hc := HC.out; rw [List.drop_eq_getElem_cons hlt, hx, errT_cons] at hc; have hkn : (k : Int) < (l.length : Int) := by omega
     obtain ⟨nm, xl, xq, xcap⟩ := x; simp only at c0 c1 hc hn1 hn2 HXK0; have HXK := Lib.hid HXK0; have HNM := Lib.hid hn1; have HLN := Lib.hid hn2; clear hx hmem hn1 HXK0
     by_cases z : xl.length = 0
     · rw [if_pos z] at hc; subst hc; rw [z] at c1; clear z hn2; go_wp2_with fail; go_ret; exact ⟨rfl, H.out.alloc _⟩
     rw [if_neg z] at hc; have z1 : ((xl.length : Int) == 0) = false := by rw [beq_eq_false_iff_ne]; omega
     have z2 : ¬ xl.length = 0 := z; obtain ⟨kr, hkr⟩ : ∃ r, keyRight nm = r := ⟨_, rfl⟩; obtain ⟨rp, hrp⟩ : ∃ r, riseP (-1) xl = r := ⟨_, rfl⟩; rw [hkr, hrp] at hc; have HKR := Lib.hid hkr; have HRP := Lib.hid hrp; clear z hn2 hkr hrp
     cases kr with
     | false =>
       simp only [Bool.false_and, Bool.false_eq_true, if_false] at hc; subst hc
       go_wp2_with (first
   | (go_at_call 38; (with_reducible refine (key_rightQ nm false HKR.out HNM.out (H.out.allocRaw #[.string (bb nm), .slice xq xl.length xcap] 65)).mono ?_); rintro e_ wn ⟨rfl, h⟩; have y0 := h.rawCell 0; have y1 := h.rawCell 1; simp at y0 y1; replace H := Lib.hid h; clear h))
       go_ret; exact ⟨rfl, H.out.drop⟩
     | true =>
       simp only [Bool.true_and] at hc
       cases hp : Op.bytesLess a nm with
       | false =>
        rw [hp] at hc; simp only [Bool.false_and, Bool.false_eq_true, if_false] at hc; subst hc
        rcases leq_cases nm a hp with g1 | ⟨g1, g2⟩
        · clear hp
          go_wp2_with (first
   | (go_at_call 38; (with_reducible refine (key_rightQ nm true HKR.out HNM.out (H.out.allocRaw #[.string (bb nm), .slice xq xl.length xcap] 65)).mono ?_); rintro e_ wn ⟨rfl, h⟩; have y0 := h.rawCell 0; have y1 := h.rawCell 1; simp at y0 y1; replace H := Lib.hid h; clear h))
          go_ret; exact ⟨rfl, H.out.drop⟩
        · clear hp
          go_wp2_with (first
   | (go_at_call 38; (with_reducible refine (key_rightQ nm true HKR.out HNM.out (H.out.allocRaw #[.string (bb nm), .slice xq xl.length xcap] 65)).mono ?_); rintro e_ wn ⟨rfl, h⟩; have y0 := h.rawCell 0; have y1 := h.rawCell 1; simp at y0 y1; replace H := Lib.hid h; clear h))
          go_ret; exact ⟨rfl, H.out.drop⟩
       | true =>
        rw [hp] at hc; simp only [Bool.true_and] at hc; obtain ⟨g1, g2⟩ := leq_parts nm a hp; clear hp
        cases rp with
        | false =>
          simp only [Bool.false_eq_true, if_false] at hc; subst hc
          go_wp2_with (first
   | (go_at_call 38; (with_reducible refine (key_rightQ nm true HKR.out HNM.out (H.out.allocRaw #[.string (bb nm), .slice xq xl.length xcap] 65)).mono ?_); rintro e_ wn ⟨rfl, h⟩; have y0 := h.rawCell 0; have y1 := h.rawCell 1; simp at y0 y1; replace H := Lib.hid h; clear h)
   | (go_at_call 72; clear y0 y1; (with_reducible refine (parts_rise xl xq xcap false HRP.out HLN.out HXK.out H.out).mono ?_); rintro e_ wn ⟨rfl, h⟩; have y0 := h.rawCell 0; simp at y0; replace H := Lib.hid h; clear h))
          go_ret; exact ⟨rfl, H.out.drop⟩
        | true =>
          rw [if_pos rfl] at hc; have HC2 := Lib.hid hc; clear hc
          go_wp2_with (first
   | (go_at_call 38; (with_reducible refine (key_rightQ nm true HKR.out HNM.out (H.out.allocRaw #[.string (bb nm), .slice xq xl.length xcap] 65)).mono ?_); rintro e_ wn ⟨rfl, h⟩; have y0 := h.rawCell 0; have y1 := h.rawCell 1; simp at y0 y1; replace H := Lib.hid h; clear h)
   | (go_at_call 72; clear y0 y1; (with_reducible refine (parts_rise xl xq xcap true HRP.out HLN.out HXK.out H.out).mono ?_); rintro e_ wn ⟨rfl, h⟩; have y0 := h.rawCell 0; simp at y0; replace H := Lib.hid h; clear h))
          go_roundw
          case rel =>
           refine ⟨k + 1, nm, hlt, by go_num, rfl, HC2, ?_⟩; exact H.out.drop
          case measure => first | (simp [intOf]; done) | (simp [intOf]; omega)
   · exact zq24
theorem zq5 {p : Prop} (h : p := by
  clear n0 he2 hv v3
  by_cases e0 : e2 = 0
  · subst e0; rw [if_neg (by simp)] at hep; rw [← hep] at hc; have HC2 := Lib.hid hc; clear hc; go_wp2_with (go_at_call 73; (with_reducible refine (check_batches (!nl) yl yq ycap 0 HBE.out HCK.out HYL.out HYK.out (H.out.allocRaw #[.int .i64 yi, .slice yq yl.length ycap] 68)).mono ?_); rintro e_ wn ⟨rfl, h⟩; have h := h.drop; replace H := Lib.hid h; clear h); go_roundw
    case rel =>
     refine ⟨j + 1, hjt, by go_num, HC2, ?_⟩; exact H.out
    case measure => first | (simp [intOf]; done) | (simp [intOf]; omega)
  · rw [if_pos e0] at hep; subst hep; rw [if_pos e0] at hc; subst hc; have e1 : (e2 == 0) = false := by rw [beq_eq_false_iff_ne]; exact e0
    have e3 : (e2 != 0) = true := by simp [bne, e1]
    clear e0; go_wp2_with (go_at_call 73; (with_reducible refine (check_batches (!nl) yl yq ycap e2 HBE.out HCK.out HYL.out HYK.out (H.out.allocRaw #[.int .i64 yi, .slice yq yl.length ycap] 68)).mono ?_); rintro e_ wn ⟨rfl, h⟩; have h := h.drop; replace H := Lib.hid h; clear h); go_ret; exact ⟨rfl, H.out.drop⟩) : p := h
set_option maxHeartbeats 4000000 in
set_option maxRecDepth 100000 in
theorem check_parts (nl : Bool) (dd : Bs) (ac tm v : Int) (l : List PTop) (q : Option Addr) (cap : Nat) (e : Int) (he : errPT (!nl) v l = e) (hf : ∀ x ∈ l, CkT x) (hll : l.length ≤ 4398046511104) {W0 w : World} {K : Know} {L : List Res} (hk : K.has (Know.ptops (.slice q l.length cap) l)) (h : St W0 w K L) :
  Calls Tryz.prog 40 #[.agg #[.bool nl, .string (bb dd), .int .i64 ac, .int .i64 tm, .slice q l.length cap], .int .i64 v] w fun en w' => en = .returned (.int .i64 e) ∧ St W0 w' K L := by
 obtain ⟨rb, hrb⟩ : ∃ b, w.heap.size = b := ⟨_, rfl⟩; have g1 := h.allocRaw #[.bool nl, .string (bb dd), .int .i64 ac, .int .i64 tm, .slice q l.length cap] 26; rw [hrb] at g1; have z0 := g1.rawCell 0; have z3 := g1.rawCell 4; simp at z0 z3; have H := Lib.hid g1; have HK := Lib.hid hk; have HF := Lib.hid hf; have HR := Lib.hid (show errPT (!nl) v (l.drop 0) = e by rw [List.drop_zero]; exact he); have hni : (l.length : Int) ≤ 4398046511104 := by omega
 clear h g1 hk hf he hll; go_enter Tryz.func40, Tryz.ntmps40; go_wp2; clear z0 z3; go_loopw [13] (fun iv wr => ∃ (k : Nat), k ≤ l.length ∧ iv = .int .i64 k ∧ Hid (errPT (!nl) v (l.drop k) = e) ∧ St W0 wr K (.raw rb #[.bool nl, .string (bb dd), .int .i64 ac, .int .i64 tm, .slice q l.length cap] 26 :: L)) (fun iv _ => l.length - (intOf iv).toNat)
 case atStart => exact ⟨0, Nat.zero_le _, rfl, HR, H.out⟩
 case round =>
  obtain ⟨k, hkl, rfl, HC, hst⟩ := hrel; clear H HR; have H := Lib.hid hst; clear hst
  by_cases hlt : k < l.length
  · obtain ⟨bk, off, hqq⟩ := ptops_at HK.out H.out (by omega); obtain ⟨x, hx⟩ : ∃ x, l[k] = x := ⟨_, rfl⟩; have hmem : x ∈ l := hx ▸ List.getElem_mem hlt; have hck := HF.out x hmem; have HK' := HK.out; rw [hqq] at HK'; obtain ⟨c0, c1⟩ := ptops_cell HK' H.out k hlt x hx; have HXK0 := ptops_parts HK.out hmem; have hc := HC.out; rw [List.drop_eq_getElem_cons hlt, hx, errPT_cons] at hc; have hkn : (k : Int) < (l.length : Int) := by omega
    obtain ⟨nm, xl, xq, xcap⟩ := x; simp only at c0 c1 hc HXK0; have HXK := Lib.hid HXK0; have HPF := Lib.hid (show ∀ y ∈ xl, CkP y from hck.parts); have hxl : xl.length ≤ 4398046511104 := hck.len; have hxi : (xl.length : Int) ≤ 4398046511104 := by omega
    have HIR := Lib.hid (show (if errPs (!nl) v (xl.drop 0) ≠ 0 then errPs (!nl) v (xl.drop 0) else errPT (!nl) v (l.drop (k + 1))) = e by rw [List.drop_zero]; exact hc); have HS := Lib.hid (H.out.alloc (.cells #[.string (bb nm), .slice xq xl.length xcap] 65 (0, 0))); subst hqq; clear hx hmem hck HK' HXK0 hc hxl; go_wp2_with fail; go_loopw [20] (fun jv wr => ∃ (j : Nat), j ≤ xl.length ∧ jv = .int .i64 j ∧ Hid ((if errPs (!nl) v (xl.drop j) ≠ 0 then errPs (!nl) v (xl.drop j) else errPT (!nl) v (l.drop (k + 1))) = e) ∧ St W0 wr K (.raw rb #[.bool nl, .string (bb dd), .int .i64 ac, .int .i64 tm, .slice (some ⟨bk, off, none⟩) l.length cap] 26 :: L)) (fun jv _ => xl.length - (intOf jv).toNat)
    case atStart => exact ⟨0, Nat.zero_le _, rfl, HIR, HS.out⟩
    case round =>
     obtain ⟨j, hjl, rfl, HIC, hst⟩ := hrel; clear H HIR HS c0 c1; have H := Lib.hid hst; clear hst
     by_cases hjt : j < xl.length
     · obtain ⟨pk, poff, hpq⟩ := pparts_at HXK.out H.out (by omega); subst hpq; obtain ⟨y, hy⟩ : ∃ y, xl[j] = y := ⟨_, rfl⟩; have hmem : y ∈ xl := hy ▸ List.getElem_mem hjt; have hck := HPF.out y hmem; obtain ⟨d0, d1⟩ := pparts_cell HXK.out H.out j hjt y hy; have HYK0 := pparts_bats HXK.out hmem; have hc := HIC.out; rw [List.drop_eq_getElem_cons hjt, hy] at hc; obtain ⟨ep, hep⟩ : ∃ ep, errPs (!nl) v (y :: xl.drop (j + 1)) = ep := ⟨_, rfl⟩; rw [hep] at hc; rw [errPs_cons] at hep; have hjn : (j : Int) < (xl.length : Int) := by omega
       obtain ⟨yi, yl, yq, ycap⟩ := y; simp only at d0 d1 hep HYK0; have HYK := Lib.hid HYK0; have HCK := Lib.hid (show ∀ z ∈ yl, CkR z from hck.bats); have HYL := Lib.hid (show yl.length ≤ 4398046511104 from hck.len); have z0 := (H.out.alloc (.cells #[.int .i64 yi, .slice yq yl.length ycap] 68 (0, 0))).rawCell 0; simp at z0; clear hy hmem hck HYK0
       by_cases n0 : yl.length = 0
       · rw [if_pos (Or.inl n0)] at hep; subst hep; rw [if_pos (by decide)] at hc; subst hc; rw [n0] at d1 z0; clear n0 HCK HYL HYK; go_wp2_with fail; go_ret; exact ⟨rfl, by first | exact H.out.drop | exact (H.out.alloc _).drop⟩
       have n1 : ((yl.length : Int) == 0) = false := by rw [beq_eq_false_iff_ne]; omega
       have n2 : ¬ yl.length = 0 := n0
       by_cases hv : v = 3 ∧ 1 < yl.length
       · rw [if_pos (Or.inr hv)] at hep; subst hep; rw [if_pos (by decide)] at hc; subst hc; have v4 : (v == 3) = true := by rw [hv.1]; rfl
         have g2 : (1 : Int) < (yl.length : Int) := by omega
         clear n0 hv; go_wp2_with fail; go_ret; exact ⟨rfl, by first | exact H.out.drop | exact (H.out.alloc _).drop⟩
       rw [if_neg (by intro hh; rcases hh with hh | hh; exact n0 hh; exact hv hh)] at hep; obtain ⟨e2, he2⟩ : ∃ e2, errBs (!nl) yl = e2 := ⟨_, rfl⟩; rw [he2] at hep; have HBE := Lib.hid he2
       by_cases v3 : v = 3
       · have v4 : (v == 3) = true := by rw [v3]; rfl
         have g2 : ¬ (1 : Int) < (yl.length : Int) := by intro hh; exact hv ⟨v3, by omega⟩
         exact zq5
       · have v4 : (v == 3) = false := by rw [beq_eq_false_iff_ne]; exact v3
         exact zq5
     · obtain rfl : j = xl.length := by omega
       have hc := HIC.out; rw [List.drop_length] at hc; have hc : (if (0 : Int) ≠ 0 then 0 else errPT (!nl) v (l.drop (k + 1))) = e := hc; rw [if_neg (by simp)] at hc; have HC2 := Lib.hid hc; clear hc; go_wp2_with fail; go_roundw
       case rel =>
         refine ⟨k + 1, hlt, by go_num, HC2, ?_⟩; exact H.out
       case measure => first | (simp [intOf]; done) | (simp [intOf]; omega)
  · obtain rfl : k = l.length := by omega
    have hc := HC.out; rw [List.drop_length] at hc; have hc : 0 = e := hc; subst hc; go_wp2_with fail; go_ret; exact ⟨rfl, H.out.drop⟩

end Go.Proofs.YtnnnglklgofabaaGreat
