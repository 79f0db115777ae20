/- A text. -/
import Derived.Test.YtnnnglklgofabaaGreatGProduceWrites6
import Derived.Test.YtnnnglklgofabaaGreatGProduceWrites9
import Derived.Test.YtnnnglklgofabaaGreatGProduceWrites4
import Derived.Test.YtnnnglklgofabaaGreatGProduceWrites5
import Derived.Test.YtnnnglklgofabaaGreatRef06b
import Derived.RegionTactic
import Derived.Deep.RegionHeld3
import Derived.Deep.DeepCutAuto
import Derived.WalkMore
/- A text. -/
namespace Go.Proofs.YtnnnglklgofabaaGreat
open Go.RowKit

structure BkP (x : PartR) : Prop where
  idx : -2147483648 ≤ x.idx ∧ x.idx < 2147483648
  len : (encB x.l).length ≤ 2000000
  bats : ∀ z ∈ x.l, SmallOk z.b
structure BkT (x : PTop) : Prop where
  name : x.name.length ≤ 32767
  len : x.l.length ≤ 1000000
  parts : ∀ y ∈ x.l, BkP y
theorem enc_ne (b : BatS) : b.enc ≠ [] := by
 intro h; have h2 := b.enc_len; rw [h, List.length_nil] at h2
 omega
theorem batsS_back : ∀ (l : List BatR), (∀ z ∈ l, SmallOk z.b) → batsS (encB l) = .ok (l.map BatR.b)
  | [], _ => rfl
  | x :: t, h => by
    have e : encB (x :: t) = x.b.enc ++ encB t := rfl; have hb := (h x (by simp)).back (encB t); have hne : x.b.enc ++ encB t ≠ [] := fun hh => enc_ne x.b (List.append_eq_nil_iff.1 hh).1
    rw [e, batsS_ok hne hb, List.drop_left, batsS_back t (fun z hz => h z (by simp [hz]))]
    rfl
theorem ppartP_back (x : PartR) (h : BkP x) (R : Bs) : ppartP (encPart x ++ R) = .ok (x.pb, (encPart x).length) := by
 have e : encPart x ++ R = beBytes x.idx 4 ++ (encF 4 ⟨false, encB x.l⟩ ++ R) := by unfold encPart; rw [List.append_assoc]; rfl
 have l4 : (beBytes x.idx 4).length = 4 := beBytes_length _ _; have hi := sInt_back x.idx 4 (by decide) (pfits4 x.idx h.idx) (encF 4 ⟨false, encB x.l⟩ ++ R); unfold getIntN at hi; have hf := refixed_back 4 ⟨false, encB x.l⟩ rfl (pfits4 _ (by show -2147483648 ≤ ((encB x.l).length : Int) ∧ ((encB x.l).length : Int) < 2147483648; have := h.len; omega)) R; have hlen : ¬ (beBytes x.idx 4 ++ (encF 4 ⟨false, encB x.l⟩ ++ R)).length < 4 := by rw [List.length_append, l4]; omega
 have hll : (encPart x).length = 4 + (encF 4 ⟨false, encB x.l⟩).length := by unfold encPart; rw [List.length_append]; exact congrArg (· + _) l4
 unfold ppartP; rw [e, if_neg hlen]; rw [if_neg hlen] at hi; have hd : (beBytes x.idx 4 ++ (encF 4 ⟨false, encB x.l⟩ ++ R)).drop 4 = encF 4 ⟨false, encB x.l⟩ ++ R := List.drop_left' l4; rw [hd, hf]; simp only [Bool.false_eq_true, if_false, batsS_back x.l h.bats]; have hi2 : sInt ((beBytes x.idx 4 ++ (encF 4 ⟨false, encB x.l⟩ ++ R)).take 4) = x.idx := by injection hi with hi; exact congrArg Prod.fst hi
 rw [hi2, hll]
 rfl
theorem ppartN_back : ∀ (l : List PartR), (∀ y ∈ l, BkP y) → ∀ R : Bs, ppartN l.length (l.flatMap encPart ++ R) = .ok (l.map PartR.pb, (l.flatMap encPart).length)
  | [], _, _ => rfl
  | x :: t, h, R => by
    have e : (x :: t).flatMap encPart ++ R = encPart x ++ (t.flatMap encPart ++ R) := by rw [List.flatMap_cons, List.append_assoc]
    show (match ppartP ((x :: t).flatMap encPart ++ R) with
      | .error e => Except.error e
      | .ok y => match ppartN t.length (((x :: t).flatMap encPart ++ R).drop y.2) with
        | .error e => Except.error e
        | .ok z => Except.ok (y.1 :: z.1, y.2 + z.2)) = _
    rw [e, ppartP_back x (h x (by simp))]; simp only [List.drop_left]; rw [ppartN_back t (fun y hy => h y (by simp [hy])) R]; simp only [List.map_cons, List.flatMap_cons, List.length_append]
theorem ptopP_back (x : PTop) (h : BkT x) (R : Bs) : ptopP (encPTop x ++ R) = .ok (x.pt, (encPTop x).length) := by
 have e : encPTop x ++ R = encF 2 ⟨false, x.name⟩ ++ (beBytes (x.l.length : Int) 4 ++ (x.l.flatMap encPart ++ R)) := by unfold encPTop; simp only [List.append_assoc]; rfl
 have hll : (encPTop x).length = (encF 2 ⟨false, x.name⟩).length + 4 + (x.l.flatMap encPart).length := by
  unfold encPTop; rw [List.length_append, List.length_append]; exact congrArg (fun n => (encF 2 ⟨false, x.name⟩).length + n + _) (beBytes_length _ _)
 have hc := cntP_back 8 x.l.length (x.l.flatMap encPart ++ R) (by decide) (by have := h.len; omega) (by have := encParts_len x.l; rw [List.length_append]; omega); unfold ptopP; rw [e, textP_back x.name h.name]; simp only [List.drop_left]; rw [hc]; simp only
 have hd : (encF 2 ⟨false, x.name⟩ ++ (beBytes (x.l.length : Int) 4 ++ (x.l.flatMap encPart ++ R))).drop ((encF 2 ⟨false, x.name⟩).length + 4) = x.l.flatMap encPart ++ R := by
  rw [← List.drop_drop, List.drop_left]; exact List.drop_left' (beBytes_length _ _)
 rw [hd, ppartN_back x.l h.parts R]; simp only [hll]
 rfl
theorem ptopN_back : ∀ (l : List PTop), (∀ y ∈ l, BkT y) → ∀ R : Bs, ptopN l.length (l.flatMap encPTop ++ R) = .ok (l.map PTop.pt, (l.flatMap encPTop).length)
  | [], _, _ => rfl
  | x :: t, h, R => by
    have e : (x :: t).flatMap encPTop ++ R = encPTop x ++ (t.flatMap encPTop ++ R) := by rw [List.flatMap_cons, List.append_assoc]
    show (match ptopP ((x :: t).flatMap encPTop ++ R) with
      | .error e => Except.error e
      | .ok y => match ptopN t.length (((x :: t).flatMap encPTop ++ R).drop y.2) with
        | .error e => Except.error e
        | .ok z => Except.ok (y.1 :: z.1, y.2 + z.2)) = _
    rw [e, ptopP_back x (h x (by simp))]; simp only [List.drop_left]; rw [ptopN_back t (fun y hy => h y (by simp [hy])) R]; simp only [List.map_cons, List.flatMap_cons, List.length_append]
theorem encPTop_len (x : PTop) : 6 ≤ (encPTop x).length := by
 unfold encPTop encF; simp only [List.length_append]; have h1 : (beBytes (x.l.length : Int) (4 : Int).toNat).length = 4 := beBytes_length _ _; have h2 : ∀ n, (beBytes n 2).length = 2 := fun n => beBytes_length _ _
 rw [h1, h2]
 omega
theorem encPTops_len : ∀ (l : List PTop), 6 * l.length ≤ (l.flatMap encPTop).length
  | [] => by simp
  | x :: t => by
    have h := encPTops_len t; have h2 := encPTop_len x; rw [List.flatMap_cons, List.length_append, List.length_cons]
    omega
theorem preqP_back (nl : Bool) (dd : Bs) (ac tm : Int) (l : List PTop) (hr : (⟨nl, dd⟩ : BlobS).right = true) (hd : dd.length ≤ 32767) (ha : -32768 ≤ ac ∧ ac < 32768) (ht : -2147483648 ≤ tm ∧ tm < 2147483648) (hl : l.length ≤ 1000000) (h : ∀ x ∈ l, BkT x) : preqP (encPReq nl dd ac tm l) = .ok ((⟨nl, dd⟩, ac, tm, l.map PTop.pt), (encPReq nl dd ac tm l).length) := by
 have e : encPReq nl dd ac tm l = encF 2 ⟨nl, dd⟩ ++ (beBytes ac 2 ++ (beBytes tm 4 ++ (beBytes (l.length : Int) 4 ++ l.flatMap encPTop))) := by unfold encPReq; simp only [List.append_assoc]; rfl
 have l2 : (beBytes ac 2).length = 2 := beBytes_length _ _; have l4 : (beBytes tm 4).length = 4 := beBytes_length _ _; have l5 : (beBytes (l.length : Int) 4).length = 4 := beBytes_length _ _; have hlen : (encPReq nl dd ac tm l).length = (encF 2 ⟨nl, dd⟩).length + 10 + (l.flatMap encPTop).length := by rw [e]; simp only [List.length_append, l2, l4, l5]; omega
 have hfl : fits (⟨nl, dd⟩ : BlobS).len 2 := by
  apply pfits2
  unfold BlobS.len
  cases nl <;> simp <;> omega
 have hf := refixed_back 2 ⟨nl, dd⟩ hr hfl (beBytes ac 2 ++ (beBytes tm 4 ++ (beBytes (l.length : Int) 4 ++ l.flatMap encPTop))); have hc := cntP_back 6 l.length (l.flatMap encPTop) (by decide) (by omega) (encPTops_len l); have h1 := sInt_back ac 2 (by decide) (pfits2 ac ha) (beBytes tm 4 ++ (beBytes (l.length : Int) 4 ++ l.flatMap encPTop)); have h2 := sInt_back tm 4 (by decide) (pfits4 tm ht) (beBytes (l.length : Int) 4 ++ l.flatMap encPTop); unfold getIntN at h1 h2; rw [if_neg (by rw [List.length_append, l2]; omega)] at h1; rw [if_neg (by rw [List.length_append, l4]; omega)] at h2; have h1 : sInt ((beBytes ac 2 ++ (beBytes tm 4 ++ (beBytes (l.length : Int) 4 ++ l.flatMap encPTop))).take 2) = ac := by injection h1 with h1; exact congrArg Prod.fst h1
 have h2 : sInt ((beBytes tm 4 ++ (beBytes (l.length : Int) 4 ++ l.flatMap encPTop)).take 4) = tm := by injection h2 with h2; exact congrArg Prod.fst h2
 have d2 : (beBytes ac 2 ++ (beBytes tm 4 ++ (beBytes (l.length : Int) 4 ++ l.flatMap encPTop))).drop 2 = beBytes tm 4 ++ (beBytes (l.length : Int) 4 ++ l.flatMap encPTop) := List.drop_left' l2
 have d6 : (beBytes ac 2 ++ (beBytes tm 4 ++ (beBytes (l.length : Int) 4 ++ l.flatMap encPTop))).drop 6 = beBytes (l.length : Int) 4 ++ l.flatMap encPTop := by
  rw [show (6 : Nat) = 2 + 4 from rfl, ← List.drop_drop, d2]; exact List.drop_left' l4
 have d10 : (beBytes ac 2 ++ (beBytes tm 4 ++ (beBytes (l.length : Int) 4 ++ l.flatMap encPTop))).drop 10 = l.flatMap encPTop := by
  rw [show (10 : Nat) = 6 + 4 from rfl, ← List.drop_drop, d6]; exact List.drop_left' l5
 have hn := ptopN_back l h []; rw [List.append_nil] at hn; unfold preqP; rw [hlen, e, hf]; simp only [← List.drop_drop, List.drop_left]; rw [d2, d6, d10, hc]; rw [if_neg (by simp only [List.length_append, l2, l4, l5]; omega)]; simp only; rw [hn, h1, h2]
theorem rise14 (l : List (TopS × Value)) (q : Option Addr) (cap n : Nat) (hn : n = l.length) (r : Bool) (hr : tRise (l.map (·.1)) = r) (hf : FewT l) {W0 w : World} {K : Know} {L : List Res} (hk : K.has (Know.tops (.slice q n cap) l)) (h : St W0 w K L) :
  Calls Tryz.prog 70 #[.slice q n cap] w fun en w' => en = .returned (.bool r) ∧ St W0 w' K L := by
 subst hn; exact ref14_rise l q cap r hr hf hk h
theorem tops_of {K : Know} {v : Value} {l : List (TopS × Value)} (h : K.has (Know.flat RTop v 2 l)) (ha : ∀ x ∈ l, K.has (Know.flat RI x.2 1 x.1.parts)) : K.has (Know.tops v l) := fun w F hh => ⟨h w F hh, fun x hx => ha x hx w F hh⟩
theorem accK {K : Know} {acc : List (TopS × Value)} {nm : Bs} {pt : List Int} {v : Value} (ha : ∀ x ∈ acc, K.has (Know.flat RI x.2 1 x.1.parts)) (hv : K.has (Know.flat RI v 1 pt)) : ∀ x ∈ acc ++ [((⟨nm, pt⟩ : TopS), v)], K.has (Know.flat RI x.2 1 x.1.parts) := by
 intro x hx
 rcases List.mem_append.1 hx with hx | hx
 · exact ha x hx
 · rw [List.mem_singleton.1 hx]; exact hv
def RiseFew (l : List PTop) : Prop := ∀ j, j ≤ l.length → AllP (l.take j) → j ≤ 1000000 ∧ ∀ x ∈ l.take j, x.name.length ≤ 140737488355328 ∧ x.l.length ≤ 1000000
theorem fewT_acc {l : List PTop} {acc : List (TopS × Value)} {j : Nat} (h : RiseFew l) (hj : j ≤ l.length) (ha : AllP (l.take j)) (he : acc.map (·.1) = (l.take j).map PTop.ts) : FewT acc := by
 obtain ⟨g1, g2⟩ := h j hj ha; have hl := congrArg List.length he; rw [List.length_map, List.length_map, List.length_take] at hl; refine ⟨by omega, fun x hx => ?_⟩; have hm : x.1 ∈ (l.take j).map PTop.ts := he ▸ List.mem_map_of_mem hx; obtain ⟨y, hy, e⟩ := List.mem_map.1 hm; obtain ⟨a, b⟩ := g2 y hy; rw [← e]; exact ⟨a, by show (y.l.map PartR.idx).length ≤ _; rw [List.length_map]; exact b⟩
theorem allP_snoc {l : List PTop} {k : Nat} (hk : k < l.length) {x : PTop} (hx : l[k] = x) (ha : AllP (l.take k)) (h : x.l.length ≠ 0) : AllP (l.take (k + 1)) := by
 rw [List.take_succ_eq_append_getElem hk, hx]; intro y hy
 rcases List.mem_append.1 hy with hy | hy
 · exact ha y hy
 · rw [List.mem_singleton.1 hy]; exact h
set_option maxHeartbeats 4000000 in
set_option maxRecDepth 100000 in
theorem rise20 (l : List PTop) (q : Option Addr) (cap : Nat) (e : Int) (he : errTops l = e) (hll : l.length ≤ 3518437208780) (hfew : RiseFew l) {W0 w : World} {K : Know} {L : List Res} (hk : K.has (Know.ptops (.slice q l.length cap) l)) (h : St W0 w K L) :
   Calls Tryz.prog 35 #[.slice q l.length cap] w fun en w' => en = .returned (.int .i64 e) ∧ St W0 w' K L := by
 have H := Lib.hid h; have HKT := Lib.hid hk; have HF := Lib.hid hfew; have HLN := Lib.hid hll; have hni : (l.length : Int) ≤ 3518437208780 := by omega
 unfold errTops at he; clear h hk hfew
 by_cases h0 : l.length = 0
 · rw [if_pos h0] at he; subst he; rw [h0]; clear hni hll h0; go_enter Tryz.func35, Tryz.ntmps35; go_wp2; go_ret; exact ⟨rfl, H.out⟩
 rw [if_neg h0] at he; have hz : ((l.length : Int) == 0) = false := by rw [beq_eq_false_iff_ne]; omega
 have HR := Lib.hid (show errT [] (l.drop 0) = e by rw [List.drop_zero]; exact he); clear he hll h0; go_enter Tryz.func35, Tryz.ntmps35; go_wp2; clear hz; go_loopw [3, 4] (fun lv iv wr => ∃ (k : Nat) (acc : List (TopS × Value)) (K2 : Know), k ≤ l.length ∧ iv = .int .i64 k ∧ Hid (k = acc.length) ∧ Hid (acc.map (·.1) = (l.take k).map PTop.ts) ∧ Hid (AllP (l.take k)) ∧ Hid (tRise (acc.map (·.1)) = true) ∧ Hid (errT (aheadN (acc.map (·.1))) (l.drop k) = e) ∧ Hid (K2.has K) ∧ Hid (∀ x ∈ acc, K2.has (Know.flat RI x.2 1 x.1.parts)) ∧ St W0 wr K2 (.row lv 129 2 k (acc.flatMap tcells) :: L)) (fun _ iv _ => l.length - (intOf iv).toNat)
 case atStart => exact ⟨0, [], K, Nat.zero_le _, rfl, Lib.hid rfl, Lib.hid (by simp), Lib.hid (fun x hx => by simp at hx), Lib.hid rfl, HR, Lib.hid (Know.has_refl _), Lib.hid (fun x hx => by cases hx), H.out.emptyRow 129 2⟩
 case round =>
   obtain ⟨k, acc, K2, hkl, rfl, HAL, HTS, HAP, HTA, HC, HKK, HALL, hst⟩ := hrel; clear H; obtain ⟨qv0, cv0, hv0⟩ := hst.rowAny; subst hv0; have H := Lib.hid hst; clear hst HR
   by_cases hlt : k < l.length
   · obtain ⟨bk, off, hqq⟩ := ptops_at (Know.has_trans HKK.out HKT.out) H.out (by omega); obtain ⟨x, hx⟩ : ∃ x, l[k] = x := ⟨_, rfl⟩; have hmem : x ∈ l := hx ▸ List.getElem_mem hlt; have HK' := (Know.has_trans HKK.out HKT.out); rw [hqq] at HK'; obtain ⟨c0, c1⟩ := ptops_cell HK' H.out k hlt x hx; have HXK0 := ptops_parts (Know.has_trans HKK.out HKT.out) hmem; have hc := HC.out; rw [List.drop_eq_getElem_cons hlt, hx, errT_cons] at hc; have hkn : (k : Int) < (l.length : Int) := by omega
     have HX := Lib.hid hx; subst hqq
     by_cases h0 : x.l.length = 0
     · rw [if_pos h0] at hc; subst hc; have h0i : ((x.l.length : Int) == 0) = true := by rw [h0]; rfl
       have h0j : (x.l.length : Int) = 0 := by omega
       clear hx hmem HK' HXK0 h0; go_wp2; go_ret; exact ⟨rfl, H.out.drop.know HKK.out⟩
     rw [if_neg h0] at hc; have HAP2 := Lib.hid (allP_snoc hlt hx HAP.out h0); have hft := HF.out (k + 1) hlt HAP2.out; have hxn : x.l.length ≤ 1000000 := (hft.2 x (by rw [List.take_succ_eq_append_getElem hlt, hx]; exact List.mem_append_right _ (List.mem_singleton.2 rfl))).2; have htr := tRise_ts (acc.map (·.1)) x h0 HTA.out; have HAS := Lib.hid (aheadN_snoc (acc.map (·.1)) x); have h0i : ((x.l.length : Int) == 0) = false := by rw [beq_eq_false_iff_ne]; omega
     have h0j : ¬ ((x.l.length : Int) = 0) := by omega
     have HKN := Lib.hid (show k ≤ 3518437208780 by have := HLN.out; omega); obtain ⟨nm, xl, xq, xcap⟩ := x; simp only at c0 c1 HXK0 hc h0i h0j hxn; have HXK := Lib.hid HXK0; have HXN := Lib.hid hxn; have HTS2 := Lib.hid (show ∀ v : Value, (acc ++ [((⟨nm, xl.map PartR.idx⟩ : TopS), v)]).map (·.1) = (l.take (k + 1)).map PTop.ts from fun v => by rw [List.map_append, HTS.out, List.take_succ_eq_append_getElem hlt, HX.out, List.map_append]; rfl); have HFT := Lib.hid (show ∀ v : Value, FewT (acc ++ [((⟨nm, xl.map PartR.idx⟩ : TopS), v)]) from fun v => fewT_acc HF.out hlt HAP2.out (HTS2.out v)); have HLA := Lib.hid (show ∀ v : Value, k + 1 = (acc ++ [((⟨nm, xl.map PartR.idx⟩ : TopS), v)]).length from fun v => by rw [List.length_append, ← HAL.out]; rfl); have HXA := Lib.hid (show ∀ v : Value, acc.flatMap tcells ++ [.string (bb nm), v] = (acc ++ [((⟨nm, xl.map PartR.idx⟩ : TopS), v)]).flatMap tcells from fun v => by rw [List.flatMap_append]; rfl); clear hx hmem HK' HXK0 h0 hft hxn
     cases hb : (keyRight nm && Op.bytesLess (aheadN (acc.map (·.1))) nm && riseP (-1) xl) with
     | false =>
       rw [if_neg (by rw [hb]; exact Bool.false_ne_true)] at hc; subst hc; have HTR := Lib.hid (show ∀ v : Value, tRise ((acc ++ [((⟨nm, xl.map PartR.idx⟩ : TopS), v)]).map (·.1)) = false from fun v => by rw [List.map_append]; exact htr.trans hb); clear htr hb
       go_wp2_with (first
   | (go_at_call 69; (with_reducible refine (plain20 nm xl xq xcap HXN.out HXK.out H.out).mono ?_); rintro e_ wn ⟨q2, c2, K3, rfl, hk3, hki, h⟩; have HK3 := Lib.hid (Know.has_trans hk3 HKK.out); have HKI := Lib.hid hki; have HALL2 := Lib.hid (fun x hx => Know.has_trans hk3 (HALL.out x hx)); clear hk3 hki; replace H := Lib.hid h; clear h)
   | (at_builtin; refine wpl_app1_st rfl _ _ 110 rfl 129 Tryz.underlying110 elem_atop _ _ _ rfl H.out [.string (bb nm), .slice q2 xl.length c2] 129 (by first | rfl | (rw [World.size_alloc]; rfl)) rfl (by simp [Value.oneCell']) zq48 (by have := HKN.out; omega) ?_; intro v' w' h; obtain ⟨qv, cv, hv⟩ := h.rowAny; subst hv; have HAF := Lib.hid (show K3.has K3 from Know.has_refl _); replace H := Lib.hid h; clear h)
   | (go_at_call 70; (obtain ⟨Kp, hp1, hp2, hpst, hback⟩ := H.out.lend (fun S1 hs1 _ => row_rows (acc ++ [(⟨nm, xl.map PartR.idx⟩, .slice q2 xl.length c2)]) tcells (R := RTop) (fun x _ => ⟨rfl, rfl⟩) (HLA.out _) (HXA.out _) S1 hs1)); (with_reducible refine (rise14 (acc ++ [(⟨nm, xl.map PartR.idx⟩, .slice q2 xl.length c2)]) qv cv (k + 1) (HLA.out _) false (HTR.out _) (HFT.out _) (tops_of hp2 (fun x hx => Know.has_trans hp1 (accK HALL2.out HKI.out x hx))) hpst).mono ?_); rintro e_ wn ⟨rfl, h⟩; have h := hback wn _ Kp (Know.has_refl _) h; clear hp1 hp2 hpst hback; replace H := Lib.hid h; clear h))
       go_ret; exact ⟨rfl, H.out.drop.know HK3.out⟩
     | true =>
       rw [if_pos hb] at hc; have HTR := Lib.hid (show ∀ v : Value, tRise ((acc ++ [((⟨nm, xl.map PartR.idx⟩ : TopS), v)]).map (·.1)) = true from fun v => by rw [List.map_append]; exact htr.trans hb); have HC2 := Lib.hid (show ∀ v : Value, errT (aheadN ((acc ++ [((⟨nm, xl.map PartR.idx⟩ : TopS), v)]).map (·.1))) (l.drop (k + 1)) = e from fun v => by rw [List.map_append]; exact (congrArg (fun a => errT a (l.drop (k + 1))) HAS.out).trans hc); clear htr hb hc
       go_wp2_with (first
   | (go_at_call 69; (with_reducible refine (plain20 nm xl xq xcap HXN.out HXK.out H.out).mono ?_); rintro e_ wn ⟨q2, c2, K3, rfl, hk3, hki, h⟩; have HK3 := Lib.hid (Know.has_trans hk3 HKK.out); have HKI := Lib.hid hki; have HALL2 := Lib.hid (fun x hx => Know.has_trans hk3 (HALL.out x hx)); clear hk3 hki; replace H := Lib.hid h; clear h)
   | (at_builtin; refine wpl_app1_st rfl _ _ 110 rfl 129 Tryz.underlying110 elem_atop _ _ _ rfl H.out [.string (bb nm), .slice q2 xl.length c2] 129 (by first | rfl | (rw [World.size_alloc]; rfl)) rfl (by simp [Value.oneCell']) zq48 (by have := HKN.out; omega) ?_; intro v' w' h; obtain ⟨qv, cv, hv⟩ := h.rowAny; subst hv; have HAF := Lib.hid (show K3.has K3 from Know.has_refl _); replace H := Lib.hid h; clear h)
   | (go_at_call 70; (obtain ⟨Kp, hp1, hp2, hpst, hback⟩ := H.out.lend (fun S1 hs1 _ => row_rows (acc ++ [(⟨nm, xl.map PartR.idx⟩, .slice q2 xl.length c2)]) tcells (R := RTop) (fun x _ => ⟨rfl, rfl⟩) (HLA.out _) (HXA.out _) S1 hs1)); (with_reducible refine (rise14 (acc ++ [(⟨nm, xl.map PartR.idx⟩, .slice q2 xl.length c2)]) qv cv (k + 1) (HLA.out _) true (HTR.out _) (HFT.out _) (tops_of hp2 (fun x hx => Know.has_trans hp1 (accK HALL2.out HKI.out x hx))) hpst).mono ?_); rintro e_ wn ⟨rfl, h⟩; have h := hback wn _ Kp (Know.has_refl _) h; clear hp1 hp2 hpst hback; replace H := Lib.hid h; clear h))
       go_roundw
       case rel =>
        refine ⟨k + 1, acc ++ [((⟨nm, xl.map PartR.idx⟩ : TopS), .slice q2 xl.length c2)], K3, hlt, by go_num, Lib.hid (by rw [List.length_append, ← HAL.out]; rfl), Lib.hid (HTS2.out _), HAP2, Lib.hid (HTR.out _), Lib.hid (HC2.out _), HK3, Lib.hid (accK HALL2.out HKI.out), ?_⟩; rw [List.flatMap_append]; exact H.out
       case measure => first | (simp [intOf]; done) | (simp [intOf]; omega)
   · obtain rfl : k = l.length := by omega
     have hc := HC.out; rw [List.drop_length] at hc; have hc : 0 = e := hc; subst hc; go_wp2; go_ret; exact ⟨rfl, H.out.drop.know HKK.out⟩
structure CkB (x : BatR) : Prop where
  ck : CkR x
  base : Rn x.b.base

theorem zq39 {p : Prop} (h : p := by
  rw [if_neg (by simp)] at hc; have HC2 := Lib.hid hc; clear hc; go_wp2_with (go_at_call 71; clear c0 c1 c2 c3 c4 c5 c6 c7 c8 c9 c10 c11; (with_reducible refine (ref11_check _ _ _ _ _ _ _ _ _ _ _ xl _ _ 0 HBE.out HFI.out HB0.out HFB.out HLN.out HXK.out H.out).mono ?_); rintro e_ wn ⟨rfl, h⟩; obtain ⟨_, _, _, d3, d4, _⟩ := bats_cell HK.out h k hlt _ HX.out; replace H := Lib.hid h; clear h); go_roundw
  case rel => exact ⟨k + 1, hlt, by go_num, HC2, H.out⟩
  case measure => first | (simp [intOf]; done) | (simp [intOf]; omega)) : p := h
theorem zq40 {p : Prop} (h : p := by rw [if_pos (by simp)] at hc; subst hc; go_wp2_with (go_at_call 71; clear c0 c1 c2 c3 c4 c5 c6 c7 c8 c9 c10 c11; (with_reducible refine (ref11_check _ _ _ _ _ _ _ _ _ _ _ xl _ _ 0 HBE.out HFI.out HB0.out HFB.out HLN.out HXK.out H.out).mono ?_); rintro e_ wn ⟨rfl, h⟩; obtain ⟨_, _, _, d3, d4, _⟩ := bats_cell HK.out h k hlt _ HX.out; replace H := Lib.hid h; clear h); go_ret; exact ⟨rfl, H.out⟩) : p := h
theorem zq3 {p : Prop} (h : p := by
  obtain ⟨k, hkl, rfl, HC, hst⟩ := hrel; clear H HR; have H := Lib.hid hst; clear hst
  by_cases hlt : k < l.length
  · obtain ⟨bk, off, hqq⟩ := bats_at HK.out H.out (by omega); subst hqq; obtain ⟨x, hx⟩ : ∃ x, l[k] = x := ⟨_, rfl⟩; have hmem : x ∈ l := hx ▸ List.getElem_mem hlt; have hck := (HF.out x hmem).ck; have hbs := (HF.out x hmem).base; have hcell0 := bats_cell HK.out H.out k hlt x hx; have HXK0 := bats_recs HK.out hmem; have hc := HC.out; rw [List.drop_eq_getElem_cons hlt, hx, errBs_cons] at hc; have hkn : (k : Int) < (l.length : Int) := by omega
    have HX := Lib.hid hx; obtain ⟨⟨base, leader, app, txn2, ctl, last, first, maxt, prod, epoch, sq, rcs⟩, xl, xq, xcap⟩ := x; have hcell : wr.cell? ⟨bk, off + k * 12, none⟩ = some (.int .i64 base) ∧ wr.cell? ⟨bk, off + k * 12 + 1, none⟩ = some (.int .i64 leader) ∧ wr.cell? ⟨bk, off + k * 12 + 2, none⟩ = some (.bool app) ∧ wr.cell? ⟨bk, off + k * 12 + 3, none⟩ = some (.bool txn2) ∧ wr.cell? ⟨bk, off + k * 12 + 4, none⟩ = some (.bool ctl) ∧ wr.cell? ⟨bk, off + k * 12 + 5, none⟩ = some (.int .i64 last) ∧ wr.cell? ⟨bk, off + k * 12 + 6, none⟩ = some (.int .i64 first) ∧ wr.cell? ⟨bk, off + k * 12 + 7, none⟩ = some (.int .i64 maxt) ∧ wr.cell? ⟨bk, off + k * 12 + 8, none⟩ = some (.int .i64 prod) ∧ wr.cell? ⟨bk, off + k * 12 + 9, none⟩ = some (.int .i64 epoch) ∧ wr.cell? ⟨bk, off + k * 12 + 10, none⟩ = some (.int .i64 sq) ∧ wr.cell? ⟨bk, off + k * 12 + 11, none⟩ = some (.slice xq xl.length xcap) := hcell0; obtain ⟨c0, c1, c2, c3, c4, c5, c6, c7, c8, c9, c10, c11⟩ := hcell; have HXK := Lib.hid (show K.has (Know.recs (.slice xq xl.length xcap) xl) from HXK0); have HFI := Lib.hid (show first ≤ 9223372036854775807 from hck.first); have HB0 := Lib.hid (show Rn base from hbs); have HFB := Lib.hid (show FitB xl from hck.fit); have HLN := Lib.hid (show xl.length ≤ 1000000 from hck.len); obtain ⟨be, hbe⟩ : ∃ n, batErr ⟨base, leader, app, txn2, ctl, last, first, maxt, prod, epoch, sq, rcs⟩ = n := ⟨_, rfl⟩; have HBE := Lib.hid (show batErr ⟨base, leader, app, txn2, ctl, last, first, maxt, prod, epoch, sq, xl.map (·.1)⟩ = be by rw [show xl.map (·.1) = rcs from hck.recs]; exact hbe); have hc : (if be ≠ 0 then be else if ctl = true then 12 else if txn2 ≠ txn then 8 else errBs txn (l.drop (k + 1))) = e := by rw [← hbe]; exact hc
    clear hx hmem hck hbs hcell0 HXK0 hbe
    by_cases b0 : be = 0
    · subst b0; rw [if_neg (by simp)] at hc
      cases ctl with
      | true =>
       rw [if_pos rfl] at hc; subst hc; go_wp2_with (go_at_call 71; clear c0 c1 c2 c3 c4 c5 c6 c7 c8 c9 c10 c11; (with_reducible refine (ref11_check _ _ _ _ _ _ _ _ _ _ _ xl _ _ 0 HBE.out HFI.out HB0.out HFB.out HLN.out HXK.out H.out).mono ?_); rintro e_ wn ⟨rfl, h⟩; obtain ⟨_, _, _, d3, d4, _⟩ := bats_cell HK.out h k hlt _ HX.out; replace H := Lib.hid h; clear h); go_ret; exact ⟨rfl, H.out⟩
      | false =>
       rw [if_neg (by simp)] at hc
       cases txn2 <;> cases txn
       · -- none, none
         exact zq39
       · -- none, one
         exact zq40
       · -- one, none
         exact zq40
       · -- one, one
         exact zq39
    · rw [if_pos b0] at hc; subst hc; have g1 : (be == 0) = false := by rw [beq_eq_false_iff_ne]; exact b0
      have g2 : (be != 0) = true := by simp [bne, g1]
      have g3 : ¬ be = 0 := b0; clear b0; go_wp2_with (go_at_call 71; clear c0 c1 c2 c3 c4 c5 c6 c7 c8 c9 c10 c11; (with_reducible refine (ref11_check _ _ _ _ _ _ _ _ _ _ _ xl _ _ be HBE.out HFI.out HB0.out HFB.out HLN.out HXK.out H.out).mono ?_); rintro e_ wn ⟨rfl, h⟩; obtain ⟨_, _, _, d3, d4, _⟩ := bats_cell HK.out h k hlt _ HX.out; replace H := Lib.hid h; clear h); go_ret; exact ⟨rfl, H.out⟩
  · obtain rfl : k = l.length := by omega
    have hc := HC.out; rw [List.drop_length] at hc; have hc : 0 = e := hc; subst hc; go_wp2; go_ret; exact ⟨rfl, H.out⟩) : p := h
set_option maxHeartbeats 4000000 in
set_option maxRecDepth 100000 in
theorem batches_l1 (txn : Bool) (v : Int) (l : List BatR) (q : Option Addr) (cap : Nat) (e : Int) (he : errBs txn l = e) (h0 : l.length ≠ 0) (hv : ¬ v = 3) (hf : ∀ x ∈ l, CkB x) (hll : l.length ≤ 4398046511104) {W0 w : World} {K : Know} {L : List Res} (hk : K.has (Know.bats (.slice q l.length cap) l)) (h : St W0 w K L) :
  Calls Tryz.prog 36 #[.slice q l.length cap, .bool txn, .int .i64 v] w fun en w' => en = .returned (.int .i64 e) ∧ St W0 w' K L := by
 have H := Lib.hid h; have HK := Lib.hid hk; have HF := Lib.hid hf; have HR := Lib.hid (show errBs txn (l.drop 0) = e by rw [List.drop_zero]; exact he); have hni : (l.length : Int) ≤ 4398046511104 := by omega
 have z1 : ((l.length : Int) == 0) = false := by rw [beq_eq_false_iff_ne]; omega
 have z2 : ¬ ((l.length : Int) = 0) := by omega
 have z3 : (v == 3) = false := by rw [beq_eq_false_iff_ne]; exact hv
 have z4 : ¬ v = 3 := hv; clear hv; clear h hk he hll hf h0; go_enter Tryz.func36, Tryz.ntmps36; go_wp2; clear z1 z2 z3 z4; go_loopw [7] (fun iv wr => ∃ (k : Nat), k ≤ l.length ∧ iv = .int .i64 k ∧ Hid (errBs txn (l.drop k) = e) ∧ St W0 wr K L) (fun iv _ => l.length - (intOf iv).toNat)
 case atStart => exact ⟨0, Nat.zero_le _, rfl, HR, H.out⟩
 case round =>
  exact zq3

set_option maxHeartbeats 4000000 in
set_option maxRecDepth 100000 in
theorem batches_l2 (txn : Bool) (v : Int) (l : List BatR) (q : Option Addr) (cap : Nat) (e : Int) (he : errBs txn l = e) (h0 : l.length ≠ 0) (hv : v = 3) (h1 : ¬ 1 < l.length) (hf : ∀ x ∈ l, CkB x) (hll : l.length ≤ 4398046511104) {W0 w : World} {K : Know} {L : List Res} (hk : K.has (Know.bats (.slice q l.length cap) l)) (h : St W0 w K L) :
  Calls Tryz.prog 36 #[.slice q l.length cap, .bool txn, .int .i64 v] w fun en w' => en = .returned (.int .i64 e) ∧ St W0 w' K L := by
 have H := Lib.hid h; have HK := Lib.hid hk; have HF := Lib.hid hf; have HR := Lib.hid (show errBs txn (l.drop 0) = e by rw [List.drop_zero]; exact he); have hni : (l.length : Int) ≤ 4398046511104 := by omega
 have z1 : ((l.length : Int) == 0) = false := by rw [beq_eq_false_iff_ne]; omega
 have z2 : ¬ ((l.length : Int) = 0) := by omega
 subst hv; have z3 : ¬ 1 < (l.length : Int) := by omega
 clear h1; clear h hk he hll hf h0; go_enter Tryz.func36, Tryz.ntmps36; go_wp2; clear z1 z2 z3; go_loopw [7] (fun iv wr => ∃ (k : Nat), k ≤ l.length ∧ iv = .int .i64 k ∧ Hid (errBs txn (l.drop k) = e) ∧ St W0 wr K L) (fun iv _ => l.length - (intOf iv).toNat)
 case atStart => exact ⟨0, Nat.zero_le _, rfl, HR, H.out⟩
 case round =>
  exact zq3

set_option maxHeartbeats 2000000 in
set_option maxRecDepth 100000 in
theorem batches_0 (txn : Bool) (v : Int) (q : Option Addr) (cap : Nat) {W0 w : World} {K : Know} {L : List Res} (h : St W0 w K L) :
  Calls Tryz.prog 36 #[.slice q 0 cap, .bool txn, .int .i64 v] w fun en w' => en = .returned (.int .i64 10) ∧ St W0 w' K L := by
 have H := Lib.hid h; clear h; go_enter Tryz.func36, Tryz.ntmps36; go_wp2; go_ret; exact ⟨rfl, H.out⟩
set_option maxHeartbeats 2000000 in
set_option maxRecDepth 100000 in
theorem batches_3 (txn : Bool) (l : List BatR) (q : Option Addr) (cap : Nat) (h1 : 1 < l.length) {W0 w : World} {K : Know} {L : List Res} (h : St W0 w K L) :
  Calls Tryz.prog 36 #[.slice q l.length cap, .bool txn, .int .i64 3] w fun en w' => en = .returned (.int .i64 10) ∧ St W0 w' K L := by
 have H := Lib.hid h; have z1 : ((l.length : Int) == 0) = false := by rw [beq_eq_false_iff_ne]; omega
 have z2 : ¬ ((l.length : Int) = 0) := by omega
 have z3 : 1 < (l.length : Int) := by omega
 clear h h1; go_enter Tryz.func36, Tryz.ntmps36; go_wp2; go_ret; exact ⟨rfl, H.out⟩
def errB20 (txn : Bool) (v : Int) (l : List BatR) : Int := if l.length = 0 ∨ (v = 3 ∧ 1 < l.length) then 10 else errBs txn l
theorem batches20 (txn : Bool) (v : Int) (l : List BatR) (q : Option Addr) (cap : Nat) (e : Int) (he : errB20 txn v l = e) (hf : ∀ x ∈ l, CkB x) (hll : l.length ≤ 4398046511104) {W0 w : World} {K : Know} {L : List Res} (hk : K.has (Know.bats (.slice q l.length cap) l)) (h : St W0 w K L) :
   Calls Tryz.prog 36 #[.slice q l.length cap, .bool txn, .int .i64 v] w fun en w' => en = .returned (.int .i64 e) ∧ St W0 w' K L := by
 unfold errB20 at he
 by_cases h0 : l.length = 0
 · rw [if_pos (.inl h0)] at he; subst he; rw [h0]; exact batches_0 txn v q cap h
 · by_cases hv : v = 3
   · by_cases h1 : 1 < l.length
     · rw [if_pos (.inr ⟨hv, h1⟩)] at he; subst he; subst hv; exact batches_3 txn l q cap h1 h
     · rw [if_neg (by omega)] at he; exact batches_l2 txn v l q cap e he h0 hv h1 hf hll hk h
   · rw [if_neg (by omega)] at he; exact batches_l1 txn v l q cap e he h0 hv hf hll hk h
theorem errPs_b20 (txn : Bool) (v : Int) (x : PartR) (t : List PartR) : errPs txn v (x :: t) = if errB20 txn v x.l ≠ 0 then errB20 txn v x.l else errPs txn v t := by
 rw [errPs_cons]; unfold errB20
 by_cases h : x.l.length = 0 ∨ (v = 3 ∧ 1 < x.l.length)
 · rw [if_pos h, if_pos h, if_pos (by decide)]
 · rw [if_neg h, if_neg h]
theorem ifs_0 {b c e : Int} (h : (if (if (0 : Int) ≠ 0 then (0 : Int) else b) ≠ 0 then (if (0 : Int) ≠ 0 then (0 : Int) else b) else c) = e) : (if b ≠ 0 then b else c) = e := by
 have h1 : (if (0 : Int) ≠ 0 then (0 : Int) else b) = b := if_neg (fun hh => hh rfl); rw [h1] at h; exact h
structure CkP2 (x : PartR) : Prop where
  len : x.l.length ≤ 4398046511104
  bats : ∀ y ∈ x.l, CkB y
structure CkT2 (x : PTop) : Prop where
  len : x.l.length ≤ 4398046511104
  parts : ∀ y ∈ x.l, CkP2 y

set_option maxHeartbeats 4000000 in
set_option maxRecDepth 100000 in
theorem rck_r0 (dd : Bs) (ac tm v : Int) (l : List PTop) (q : Option Addr) (cap : Nat) (hf : ∀ x ∈ l, CkT2 x) (hfew : RiseFew l) (hll : l.length ≤ 3518437208780) (hne : dd ≠ []) {W0 w : World} {K : Know} {L : List Res} (hk : K.has (Know.ptops (.slice q l.length cap) l)) (h : St W0 w K L) :
  Calls Tryz.prog 10 #[.agg #[.bool true, .string (bb dd), .int .i64 ac, .int .i64 tm, .slice q l.length cap], .int .i64 v] w fun en w' => en = .returned (.int .i64 4) ∧ St W0 w' K L := by
 obtain ⟨rb, hrb⟩ : ∃ b, w.heap.size = b := ⟨_, rfl⟩; have g1 := h.allocRaw #[.bool true, .string (bb dd), .int .i64 ac, .int .i64 tm, .slice q l.length cap] 40; rw [hrb] at g1; have z0 := g1.rawCell 0; have z1 := g1.rawCell 1; have z2 := g1.rawCell 2; have z3 := g1.rawCell 3; have z4 := g1.rawCell 4; simp at z0 z1 z2 z3 z4; have H := Lib.hid g1; have HK := Lib.hid hk; have HF := Lib.hid hf; have HFW := Lib.hid hfew; have HLL := Lib.hid hll; have k1 : (dd == []) = false := by cases dd with | nil => exact absurd rfl hne | cons _ _ => rfl
 have k2 : (dd != []) = true := by simp [bne, k1]
 have k3 : ¬ dd = [] := hne; have k4 : ([] == dd) = false := by cases dd with | nil => exact absurd rfl hne | cons _ _ => rfl
 clear h g1 hk hf hfew hne; clear hll; go_enter Tryz.func10, Tryz.ntmps10; go_wp2_with (fail); go_ret; exact ⟨rfl, H.out.drop⟩

set_option maxHeartbeats 4000000 in
set_option maxRecDepth 100000 in
theorem rck_k0 (ac tm v : Int) (l : List PTop) (q : Option Addr) (cap : Nat) (hf : ∀ x ∈ l, CkT2 x) (hfew : RiseFew l) (hll : l.length ≤ 3518437208780)  {W0 w : World} {K : Know} {L : List Res} (hk : K.has (Know.ptops (.slice q l.length cap) l)) (h : St W0 w K L) :
  Calls Tryz.prog 10 #[.agg #[.bool false, .string ⟨#[]⟩, .int .i64 ac, .int .i64 tm, .slice q l.length cap], .int .i64 v] w fun en w' => en = .returned (.int .i64 4) ∧ St W0 w' K L := by
 obtain ⟨rb, hrb⟩ : ∃ b, w.heap.size = b := ⟨_, rfl⟩; have g1 := h.allocRaw #[.bool false, .string ⟨#[]⟩, .int .i64 ac, .int .i64 tm, .slice q l.length cap] 40; rw [hrb] at g1; have z0 := g1.rawCell 0; have z1 := g1.rawCell 1; have z2 := g1.rawCell 2; have z3 := g1.rawCell 3; have z4 := g1.rawCell 4; simp at z0 z1 z2 z3 z4; have H := Lib.hid g1; have HK := Lib.hid hk; have HF := Lib.hid hf; have HFW := Lib.hid hfew; have HLL := Lib.hid hll; clear h g1 hk hf hfew; clear hll; go_enter Tryz.func10, Tryz.ntmps10; go_wp2_with (fail); go_ret; exact ⟨rfl, H.out.drop⟩

set_option maxHeartbeats 4000000 in
set_option maxRecDepth 100000 in
theorem rck_k1 (dd : Bs) (ac tm v : Int) (l : List PTop) (q : Option Addr) (cap : Nat) (hf : ∀ x ∈ l, CkT2 x) (hfew : RiseFew l) (hll : l.length ≤ 3518437208780) (hlen : 32767 < dd.length) {W0 w : World} {K : Know} {L : List Res} (hk : K.has (Know.ptops (.slice q l.length cap) l)) (h : St W0 w K L) :
  Calls Tryz.prog 10 #[.agg #[.bool false, .string (bb dd), .int .i64 ac, .int .i64 tm, .slice q l.length cap], .int .i64 v] w fun en w' => en = .returned (.int .i64 4) ∧ St W0 w' K L := by
 obtain ⟨rb, hrb⟩ : ∃ b, w.heap.size = b := ⟨_, rfl⟩; have g1 := h.allocRaw #[.bool false, .string (bb dd), .int .i64 ac, .int .i64 tm, .slice q l.length cap] 40; rw [hrb] at g1; have z0 := g1.rawCell 0; have z1 := g1.rawCell 1; have z2 := g1.rawCell 2; have z3 := g1.rawCell 3; have z4 := g1.rawCell 4; simp at z0 z1 z2 z3 z4; have H := Lib.hid g1; have HK := Lib.hid hk; have HF := Lib.hid hf; have HFW := Lib.hid hfew; have HLL := Lib.hid hll; have k5 : ¬ (dd.length : Int) < 1 := by omega
 have k6 : 32767 < (dd.length : Int) := by omega
 have k7 : decide ((dd.length : Int) < 1) = false := decide_eq_false k5; have k8 : decide (32767 < (dd.length : Int)) = true := decide_eq_true k6; clear h g1 hk hf hfew hlen; clear hll; go_enter Tryz.func10, Tryz.ntmps10; go_wp2_with (fail); go_ret; exact ⟨rfl, H.out.drop⟩

set_option maxHeartbeats 4000000 in
set_option maxRecDepth 100000 in
theorem rck_a1_true (ac tm v : Int) (l : List PTop) (q : Option Addr) (cap : Nat) (hf : ∀ x ∈ l, CkT2 x) (hfew : RiseFew l) (hll : l.length ≤ 3518437208780) (n1 : ac < -1) {W0 w : World} {K : Know} {L : List Res} (hk : K.has (Know.ptops (.slice q l.length cap) l)) (h : St W0 w K L) :
  Calls Tryz.prog 10 #[.agg #[.bool true, .string ⟨#[]⟩, .int .i64 ac, .int .i64 tm, .slice q l.length cap], .int .i64 v] w fun en w' => en = .returned (.int .i64 11) ∧ St W0 w' K L := by
 obtain ⟨rb, hrb⟩ : ∃ b, w.heap.size = b := ⟨_, rfl⟩; have g1 := h.allocRaw #[.bool true, .string ⟨#[]⟩, .int .i64 ac, .int .i64 tm, .slice q l.length cap] 40; rw [hrb] at g1; have z0 := g1.rawCell 0; have z1 := g1.rawCell 1; have z2 := g1.rawCell 2; have z3 := g1.rawCell 3; have z4 := g1.rawCell 4; simp at z0 z1 z2 z3 z4; have H := Lib.hid g1; have HK := Lib.hid hk; have HF := Lib.hid hf; have HFW := Lib.hid hfew; have HLL := Lib.hid hll; have d1 : decide (ac < -1) = true := decide_eq_true n1; clear h g1 hk hf hfew n1; clear hll; go_enter Tryz.func10, Tryz.ntmps10; go_wp2_with (fail); go_ret; exact ⟨rfl, H.out.drop⟩

set_option maxHeartbeats 4000000 in
set_option maxRecDepth 100000 in
theorem rck_a2_true (ac tm v : Int) (l : List PTop) (q : Option Addr) (cap : Nat) (hf : ∀ x ∈ l, CkT2 x) (hfew : RiseFew l) (hll : l.length ≤ 3518437208780) (n1 : ¬ ac < -1) (n2 : 1 < ac) {W0 w : World} {K : Know} {L : List Res} (hk : K.has (Know.ptops (.slice q l.length cap) l)) (h : St W0 w K L) :
  Calls Tryz.prog 10 #[.agg #[.bool true, .string ⟨#[]⟩, .int .i64 ac, .int .i64 tm, .slice q l.length cap], .int .i64 v] w fun en w' => en = .returned (.int .i64 11) ∧ St W0 w' K L := by
 obtain ⟨rb, hrb⟩ : ∃ b, w.heap.size = b := ⟨_, rfl⟩; have g1 := h.allocRaw #[.bool true, .string ⟨#[]⟩, .int .i64 ac, .int .i64 tm, .slice q l.length cap] 40; rw [hrb] at g1; have z0 := g1.rawCell 0; have z1 := g1.rawCell 1; have z2 := g1.rawCell 2; have z3 := g1.rawCell 3; have z4 := g1.rawCell 4; simp at z0 z1 z2 z3 z4; have H := Lib.hid g1; have HK := Lib.hid hk; have HF := Lib.hid hf; have HFW := Lib.hid hfew; have HLL := Lib.hid hll; have d1 : decide (ac < -1) = false := decide_eq_false n1; have d2 : decide (1 < ac) = true := decide_eq_true n2; clear h g1 hk hf hfew n1 n2; clear hll; go_enter Tryz.func10, Tryz.ntmps10; go_wp2_with (fail); go_ret; exact ⟨rfl, H.out.drop⟩

set_option maxHeartbeats 4000000 in
set_option maxRecDepth 100000 in
theorem rck_a3_true (ac tm v : Int) (l : List PTop) (q : Option Addr) (cap : Nat) (hf : ∀ x ∈ l, CkT2 x) (hfew : RiseFew l) (hll : l.length ≤ 3518437208780) (n1 : ¬ ac < -1) (n2 : ¬ 1 < ac) (n3 : tm < 0) {W0 w : World} {K : Know} {L : List Res} (hk : K.has (Know.ptops (.slice q l.length cap) l)) (h : St W0 w K L) :
  Calls Tryz.prog 10 #[.agg #[.bool true, .string ⟨#[]⟩, .int .i64 ac, .int .i64 tm, .slice q l.length cap], .int .i64 v] w fun en w' => en = .returned (.int .i64 11) ∧ St W0 w' K L := by
 obtain ⟨rb, hrb⟩ : ∃ b, w.heap.size = b := ⟨_, rfl⟩; have g1 := h.allocRaw #[.bool true, .string ⟨#[]⟩, .int .i64 ac, .int .i64 tm, .slice q l.length cap] 40; rw [hrb] at g1; have z0 := g1.rawCell 0; have z1 := g1.rawCell 1; have z2 := g1.rawCell 2; have z3 := g1.rawCell 3; have z4 := g1.rawCell 4; simp at z0 z1 z2 z3 z4; have H := Lib.hid g1; have HK := Lib.hid hk; have HF := Lib.hid hf; have HFW := Lib.hid hfew; have HLL := Lib.hid hll; have d1 : decide (ac < -1) = false := decide_eq_false n1; have d2 : decide (1 < ac) = false := decide_eq_false n2; have d3 : decide (tm < 0) = true := decide_eq_true n3; clear h g1 hk hf hfew n1 n2 n3; clear hll; go_enter Tryz.func10, Tryz.ntmps10; go_wp2_with (fail); go_ret; exact ⟨rfl, H.out.drop⟩

set_option maxHeartbeats 4000000 in
set_option maxRecDepth 100000 in
theorem rck_a4_true (ac tm v : Int) (l : List PTop) (q : Option Addr) (cap : Nat) (hf : ∀ x ∈ l, CkT2 x) (hfew : RiseFew l) (hll : l.length ≤ 3518437208780) (n1 : ¬ ac < -1) (n2 : ¬ 1 < ac) (n3 : ¬ tm < 0) (n4 : 2147483647 < tm) {W0 w : World} {K : Know} {L : List Res} (hk : K.has (Know.ptops (.slice q l.length cap) l)) (h : St W0 w K L) :
  Calls Tryz.prog 10 #[.agg #[.bool true, .string ⟨#[]⟩, .int .i64 ac, .int .i64 tm, .slice q l.length cap], .int .i64 v] w fun en w' => en = .returned (.int .i64 11) ∧ St W0 w' K L := by
 obtain ⟨rb, hrb⟩ : ∃ b, w.heap.size = b := ⟨_, rfl⟩; have g1 := h.allocRaw #[.bool true, .string ⟨#[]⟩, .int .i64 ac, .int .i64 tm, .slice q l.length cap] 40; rw [hrb] at g1; have z0 := g1.rawCell 0; have z1 := g1.rawCell 1; have z2 := g1.rawCell 2; have z3 := g1.rawCell 3; have z4 := g1.rawCell 4; simp at z0 z1 z2 z3 z4; have H := Lib.hid g1; have HK := Lib.hid hk; have HF := Lib.hid hf; have HFW := Lib.hid hfew; have HLL := Lib.hid hll; have d1 : decide (ac < -1) = false := decide_eq_false n1; have d2 : decide (1 < ac) = false := decide_eq_false n2; have d3 : decide (tm < 0) = false := decide_eq_false n3; have d4 : decide (2147483647 < tm) = true := decide_eq_true n4; clear h g1 hk hf hfew n1 n2 n3 n4; clear hll; go_enter Tryz.func10, Tryz.ntmps10; go_wp2_with (fail); go_ret; exact ⟨rfl, H.out.drop⟩

set_option maxHeartbeats 4000000 in
set_option maxRecDepth 100000 in
theorem rck_t_true (ac tm v : Int) (l : List PTop) (q : Option Addr) (cap : Nat) (hf : ∀ x ∈ l, CkT2 x) (hfew : RiseFew l) (hll : l.length ≤ 3518437208780) (n1 : ¬ ac < -1) (n2 : ¬ 1 < ac) (n3 : ¬ tm < 0) (n4 : ¬ 2147483647 < tm) (e : Int) (het : errTops l = e) (h0 : e ≠ 0) {W0 w : World} {K : Know} {L : List Res} (hk : K.has (Know.ptops (.slice q l.length cap) l)) (h : St W0 w K L) :
  Calls Tryz.prog 10 #[.agg #[.bool true, .string ⟨#[]⟩, .int .i64 ac, .int .i64 tm, .slice q l.length cap], .int .i64 v] w fun en w' => en = .returned (.int .i64 e) ∧ St W0 w' K L := by
 obtain ⟨rb, hrb⟩ : ∃ b, w.heap.size = b := ⟨_, rfl⟩; have g1 := h.allocRaw #[.bool true, .string ⟨#[]⟩, .int .i64 ac, .int .i64 tm, .slice q l.length cap] 40; rw [hrb] at g1; have z0 := g1.rawCell 0; have z1 := g1.rawCell 1; have z2 := g1.rawCell 2; have z3 := g1.rawCell 3; have z4 := g1.rawCell 4; simp at z0 z1 z2 z3 z4; have H := Lib.hid g1; have HK := Lib.hid hk; have HF := Lib.hid hf; have HFW := Lib.hid hfew; have HLL := Lib.hid hll; have d1 : decide (ac < -1) = false := decide_eq_false n1; have d2 : decide (1 < ac) = false := decide_eq_false n2; have d3 : decide (tm < 0) = false := decide_eq_false n3; have d4 : decide (2147483647 < tm) = false := decide_eq_false n4; have HET := Lib.hid het; have e1 : (e == 0) = false := by rw [beq_eq_false_iff_ne]; exact h0
 have e3 : (e != 0) = true := by simp [bne, e1]
 clear h g1 hk hf hfew n1 n2 n3 n4 het h0; clear hll; go_enter Tryz.func10, Tryz.ntmps10
 go_wp2_with (first
  | (go_at_call 35; clear z0 z1 z2 z3 z4; (with_reducible refine (rise20 l q cap e HET.out HLL.out HFW.out HK.out H.out).mono ?_); rintro e_ wn ⟨rfl, h⟩; have z0 := h.rawCell 0; have z1 := h.rawCell 1; have z2 := h.rawCell 2; have z3 := h.rawCell 3; have z4 := h.rawCell 4; simp at z0 z1 z2 z3 z4; replace H := Lib.hid h; clear h))
 go_ret; exact ⟨rfl, H.out.drop⟩

theorem zq24 {p : Prop} (h : p := by
  try simp only [Act.put, sA, sB, sC]
  refine tQ 16 ⟨some 8, .assign (.tmp 95), 3, _, _, none⟩ ?_; simp only [Act.put, sA, sB, sC]; refine wpAnyH_done (by kernel_rfl) ?_ _; clear hHeld; go_wp2_with fail; go_roundw
  case rel => exact ⟨j + 1, hjt, by go_num, HC3, hs⟩
  case measure => first | (simp [intOf]; done) | (simp [intOf]; omega)) : p := h
theorem zq28 {p : Prop} (h : p := by
  try simp only [Act.put, sA, sB, sC]
  refine tQ 16 ⟨some 8, .assign (.tmp 95), 3, _, _, none⟩ ?_; simp only [Act.put, sA, sB, sC]; refine wpAnyH_done (by kernel_rfl) ?_ _; clear hHeld; go_wp2_with fail; go_ret; exact ⟨rfl, hs.drop⟩) : p := h
theorem zq37 {p : Prop} (h : p := by
  obtain rfl : k = l.length := by omega
  have hc := HC.out; rw [List.drop_length] at hc; have hc : 0 = e := hc; subst hc; go_wp2; go_ret; exact ⟨rfl, H.out.drop⟩) : p := h
set_option maxHeartbeats 4000000 in
set_option maxRecDepth 100000 in
theorem rck_p_true (ac tm v : Int) (l : List PTop) (q : Option Addr) (cap : Nat) (hf : ∀ x ∈ l, CkT2 x) (hfew : RiseFew l) (hll : l.length ≤ 3518437208780) (n1 : ¬ ac < -1) (n2 : ¬ 1 < ac) (n3 : ¬ tm < 0) (n4 : ¬ 2147483647 < tm) (het : errTops l = 0) (e : Int) (hep : errPT false v l = e) {W0 w : World} {K : Know} {L : List Res} (hk : K.has (Know.ptops (.slice q l.length cap) l)) (h : St W0 w K L) :
  Calls Tryz.prog 10 #[.agg #[.bool true, .string ⟨#[]⟩, .int .i64 ac, .int .i64 tm, .slice q l.length cap], .int .i64 v] w fun en w' => en = .returned (.int .i64 e) ∧ St W0 w' K L := by
 obtain ⟨rb, hrb⟩ : ∃ b, w.heap.size = b := ⟨_, rfl⟩; have g1 := h.allocRaw #[.bool true, .string ⟨#[]⟩, .int .i64 ac, .int .i64 tm, .slice q l.length cap] 40; rw [hrb] at g1; have z0 := g1.rawCell 0; have z1 := g1.rawCell 1; have z2 := g1.rawCell 2; have z3 := g1.rawCell 3; have z4 := g1.rawCell 4; simp at z0 z1 z2 z3 z4; have H := Lib.hid g1; have HK := Lib.hid hk; have HF := Lib.hid hf; have HFW := Lib.hid hfew; have HLL := Lib.hid hll; have d1 : decide (ac < -1) = false := decide_eq_false n1; have d2 : decide (1 < ac) = false := decide_eq_false n2; have d3 : decide (tm < 0) = false := decide_eq_false n3; have d4 : decide (2147483647 < tm) = false := decide_eq_false n4; have HET := Lib.hid het; clear h g1 hk hf hfew n1 n2 n3 n4 het; have HR := Lib.hid (show errPT false v (l.drop 0) = e by rw [List.drop_zero]; exact hep); have hni : (l.length : Int) ≤ 3518437208780 := by omega
 clear hep hll; go_enter Tryz.func10, Tryz.ntmps10; go_wp2_with (go_at_call 35; clear z0 z1 z2 z3 z4; (with_reducible refine (rise20 l q cap 0 HET.out HLL.out HFW.out HK.out H.out).mono ?_); rintro e_ wn ⟨rfl, h⟩; have z0 := h.rawCell 0; have z1 := h.rawCell 1; have z2 := h.rawCell 2; have z3 := h.rawCell 3; have z4 := h.rawCell 4; simp at z0 z1 z2 z3 z4; replace H := Lib.hid h; clear h); clear z0 z1 z2 z3 z4; go_loopw [6] (fun iv wr => ∃ (k : Nat), k ≤ l.length ∧ iv = .int .i64 k ∧ Hid (errPT false v (l.drop k) = e) ∧ St W0 wr K (.raw rb #[.bool true, .string ⟨#[]⟩, .int .i64 ac, .int .i64 tm, .slice q l.length cap] 40 :: L)) (fun iv _ => l.length - (intOf iv).toNat)
 case atStart => exact ⟨0, Nat.zero_le _, rfl, HR, H.out⟩
 case round =>
  obtain ⟨k, hkl, rfl, HC, hst⟩ := hrel; clear H HR; have H := Lib.hid hst; clear hst; have z4 := H.out.rawCell 4; simp at z4
  by_cases hlt : k < l.length
  · obtain ⟨bk, off, hqq⟩ := ptops_at HK.out H.out (by omega); obtain ⟨x, hx⟩ : ∃ x, l[k] = x := ⟨_, rfl⟩; have hmem : x ∈ l := hx ▸ List.getElem_mem hlt; have hck := HF.out x hmem; have HXK0 := ptops_parts HK.out hmem; have hc := HC.out; rw [List.drop_eq_getElem_cons hlt, hx, errPT_cons] at hc; have hkn : (k : Int) < (l.length : Int) := by omega
    have HX := Lib.hid hx; subst hqq; obtain ⟨nm, xl, xq, xcap⟩ := x; simp only at hc HXK0; have HXK := Lib.hid HXK0; have HXF := Lib.hid (show ∀ y ∈ xl, CkP2 y from hck.parts); have hxl : xl.length ≤ 4398046511104 := hck.len; have hxi : (xl.length : Int) ≤ 4398046511104 := by omega
    have HC2 := Lib.hid (show (if errPs false v (xl.drop 0) ≠ 0 then errPs false v (xl.drop 0) else errPT false v (l.drop (k + 1))) = e by rw [List.drop_zero]; exact hc); clear hx hmem hck HXK0 hxl hc; go_wp2_with fail; clear z4; go_loopw [7] (fun jv wr => ∃ (j : Nat), j ≤ xl.length ∧ jv = .int .i64 j ∧ Hid ((if errPs false v (xl.drop j) ≠ 0 then errPs false v (xl.drop j) else errPT false v (l.drop (k + 1))) = e) ∧ St W0 wr K (.raw rb #[.bool true, .string ⟨#[]⟩, .int .i64 ac, .int .i64 tm, .slice (some ⟨bk, off, none⟩) l.length cap] 40 :: L)) (fun jv _ => xl.length - (intOf jv).toNat)
    case atStart => exact ⟨0, Nat.zero_le _, rfl, HC2, H.out⟩
    case round =>
     obtain ⟨j, hjl, rfl, HD, hst⟩ := hrel; clear H HC2; have H := Lib.hid hst; clear hst; have z4 := H.out.rawCell 4; simp at z4; obtain ⟨_, c1⟩ := ptops_cell HK.out H.out k hlt _ HX.out; simp only at c1
     by_cases hjt : j < xl.length
     · obtain ⟨pk, poff, hpq⟩ := pparts_at HXK.out H.out (by omega); subst hpq; obtain ⟨y, hy⟩ : ∃ y, xl[j] = y := ⟨_, rfl⟩; have hmem : y ∈ xl := hy ▸ List.getElem_mem hjt; have hcy := HXF.out y hmem; have HYK0 := pparts_bats HXK.out hmem; have hd := HD.out; rw [List.drop_eq_getElem_cons hjt, hy, errPs_b20] at hd; have hjn : (j : Int) < (xl.length : Int) := by omega
       have HY := Lib.hid hy; obtain ⟨yi, yl, yq, ycap⟩ := y; simp only at hd HYK0; have HYK := Lib.hid HYK0; have HYF := Lib.hid (show ∀ z ∈ yl, CkB z from hcy.bats); have HYN := Lib.hid (show yl.length ≤ 4398046511104 from hcy.len); obtain ⟨be, hbe⟩ : ∃ n, errB20 false v yl = n := ⟨_, rfl⟩; have HBE := Lib.hid hbe; rw [hbe] at hd
       have HKP := Lib.hid (show ∀ (w' : World), St W0 w' K (.raw rb #[.bool true, .string ⟨#[]⟩, .int .i64 ac, .int .i64 tm, .slice (some ⟨bk, off, none⟩) l.length cap] 40 :: L) → (w'.cell? ⟨rb, 0, none⟩ = some (.bool true) ∧ w'.cell? ⟨rb, 4, none⟩ = some (.slice (some ⟨bk, off, none⟩) l.length cap) ∧ w'.cell? ⟨bk, off + k * 2 + 1, none⟩ = some (.slice (some ⟨pk, poff, none⟩) xl.length xcap) ∧ w'.cell? ⟨pk, poff + j * 2 + 1, none⟩ = some (.slice yq yl.length ycap)) from fun w' hs => by
         have a0 := hs.rawCell 0; have a4 := hs.rawCell 4; obtain ⟨_, b1⟩ := ptops_cell HK.out hs k hlt _ HX.out; obtain ⟨_, d1⟩ := pparts_cell HXK.out hs j hjt _ HY.out; simp at a0 a4
         exact ⟨a0, a4, b1, d1⟩)
       clear hy hmem hcy HYK0 hbe
       by_cases b0 : be = 0
       · subst b0; have HC3 := Lib.hid (ifs_0 hd); clear hd; go_wp2; have hs := H.out.drew; refine wp_region_held_drew (S := fun w' => w'.cell? ⟨rb, 0, none⟩ = some (.bool true) ∧ w'.cell? ⟨rb, 4, none⟩ = some (.slice (some ⟨bk, off, none⟩) l.length cap) ∧ w'.cell? ⟨bk, off + k * 2 + 1, none⟩ = some (.slice (some ⟨pk, poff, none⟩) xl.length xcap) ∧ w'.cell? ⟨pk, poff + j * 2 + 1, none⟩ = some (.slice yq yl.length ycap)) (by kernel_rfl) (HKP.out _ hs) (fun hHeld => ?_); refine tQ 0 ⟨some 80, .fieldAddr 40 (.tmp 2) 3, 0, _, _, none⟩ ?_; simp only [Act.put, sA, sB, sC]; refine tQ 1 ⟨some 81, .load 38 (.tmp 80), 38, _, _, none⟩ ?_; simp only [Act.put, sA, sB, sC]; refine tQ 2 ⟨some 82, .move (.tmp 6), 3, _, _, none⟩ ?_; simp only [Act.put, sA, sB, sC]; refine tQ 3 ⟨some 83, .indexAddr 38 (.tmp 81) (.tmp 82), 0, _, _, none⟩ ?_; simp only [Act.put, sA, sB, sC]; refine tQ 4 ⟨some 84, .fieldAddr 83 (.tmp 83) 1, 0, _, _, none⟩ ?_; simp only [Act.put, sA, sB, sC]; refine tQ 5 ⟨some 85, .load 81 (.tmp 84), 81, _, _, none⟩ ?_; simp only [Act.put, sA, sB, sC]; refine tQ 6 ⟨some 86, .move (.tmp 7), 3, _, _, none⟩ ?_; simp only [Act.put, sA, sB, sC]; refine tQ 7 ⟨some 87, .indexAddr 81 (.tmp 85) (.tmp 86), 0, _, _, none⟩ ?_; simp only [Act.put, sA, sB, sC]; refine tQ 8 ⟨some 88, .fieldAddr 85 (.tmp 87) 1, 0, _, _, none⟩ ?_; simp only [Act.put, sA, sB, sC]; refine tQ 9 ⟨some 89, .load 66 (.tmp 88), 66, _, _, none⟩ ?_; simp only [Act.put, sA, sB, sC]; refine tQ 10 ⟨some 90, .fieldAddr 40 (.tmp 2) 0, 0, _, _, none⟩ ?_; simp only [Act.put, sA, sB, sC]; refine tQ 11 ⟨some 91, .fieldAddr 23 (.tmp 90) 0, 0, _, _, none⟩ ?_; simp only [Act.put, sA, sB, sC]; refine tQ 12 ⟨some 92, .load 4 (.tmp 91), 4, _, _, none⟩ ?_; simp only [Act.put, sA, sB, sC]; refine tQ 13 ⟨some 93, .unOp UnOp.not 4 (.tmp 92), 4, _, _, none⟩ ?_; simp only [Act.put, sA, sB, sC]; refine tQ 14 ⟨some 94, .move (.tmp 1), 3, _, _, none⟩ ?_; simp only [Act.put, sA, sB, sC]; refine wpAnyH_ready (rs := [15]) (by kernel_rfl) (by simp) (AllReadyH.cons (o := ⟨some 95, .call { callee := .value (.func 36), args := #[.tmp 89, .tmp 93, .tmp 94], argTypes := #[66, 4, 3] }, 3, _, _, none⟩) rfl (fun KK hK => ?_) AllReadyH.nil); go_simp; go_at_call 36; with_reducible refine (batches20 false v yl yq ycap _ HBE.out HYF.out HYN.out HYK.out hs).mono ?_; rintro e wq ⟨rfl, hs⟩; refine hK.out _ _ (HKP.out _ hs) (fun hHeld => ?_); clear hK KK
         exact zq24
       · rw [if_pos b0, if_pos b0] at hd; subst hd; have g1 : (be == 0) = false := by rw [beq_eq_false_iff_ne]; exact b0
         have g2 : (be != 0) = true := by simp [bne, g1]
         have g3 : ¬ be = 0 := b0; clear b0; go_wp2; have hs := H.out.drew; refine wp_region_held_drew (S := fun w' => w'.cell? ⟨rb, 0, none⟩ = some (.bool true) ∧ w'.cell? ⟨rb, 4, none⟩ = some (.slice (some ⟨bk, off, none⟩) l.length cap) ∧ w'.cell? ⟨bk, off + k * 2 + 1, none⟩ = some (.slice (some ⟨pk, poff, none⟩) xl.length xcap) ∧ w'.cell? ⟨pk, poff + j * 2 + 1, none⟩ = some (.slice yq yl.length ycap)) (by kernel_rfl) (HKP.out _ hs) (fun hHeld => ?_); refine tQ 0 ⟨some 80, .fieldAddr 40 (.tmp 2) 3, 0, _, _, none⟩ ?_; simp only [Act.put, sA, sB, sC]; refine tQ 1 ⟨some 81, .load 38 (.tmp 80), 38, _, _, none⟩ ?_; simp only [Act.put, sA, sB, sC]; refine tQ 2 ⟨some 82, .move (.tmp 6), 3, _, _, none⟩ ?_; simp only [Act.put, sA, sB, sC]; refine tQ 3 ⟨some 83, .indexAddr 38 (.tmp 81) (.tmp 82), 0, _, _, none⟩ ?_; simp only [Act.put, sA, sB, sC]; refine tQ 4 ⟨some 84, .fieldAddr 83 (.tmp 83) 1, 0, _, _, none⟩ ?_; simp only [Act.put, sA, sB, sC]; refine tQ 5 ⟨some 85, .load 81 (.tmp 84), 81, _, _, none⟩ ?_; simp only [Act.put, sA, sB, sC]; refine tQ 6 ⟨some 86, .move (.tmp 7), 3, _, _, none⟩ ?_; simp only [Act.put, sA, sB, sC]; refine tQ 7 ⟨some 87, .indexAddr 81 (.tmp 85) (.tmp 86), 0, _, _, none⟩ ?_; simp only [Act.put, sA, sB, sC]; refine tQ 8 ⟨some 88, .fieldAddr 85 (.tmp 87) 1, 0, _, _, none⟩ ?_; simp only [Act.put, sA, sB, sC]; refine tQ 9 ⟨some 89, .load 66 (.tmp 88), 66, _, _, none⟩ ?_; simp only [Act.put, sA, sB, sC]; refine tQ 10 ⟨some 90, .fieldAddr 40 (.tmp 2) 0, 0, _, _, none⟩ ?_; simp only [Act.put, sA, sB, sC]; refine tQ 11 ⟨some 91, .fieldAddr 23 (.tmp 90) 0, 0, _, _, none⟩ ?_; simp only [Act.put, sA, sB, sC]; refine tQ 12 ⟨some 92, .load 4 (.tmp 91), 4, _, _, none⟩ ?_; simp only [Act.put, sA, sB, sC]; refine tQ 13 ⟨some 93, .unOp UnOp.not 4 (.tmp 92), 4, _, _, none⟩ ?_; simp only [Act.put, sA, sB, sC]; refine tQ 14 ⟨some 94, .move (.tmp 1), 3, _, _, none⟩ ?_; simp only [Act.put, sA, sB, sC]; refine wpAnyH_ready (rs := [15]) (by kernel_rfl) (by simp) (AllReadyH.cons (o := ⟨some 95, .call { callee := .value (.func 36), args := #[.tmp 89, .tmp 93, .tmp 94], argTypes := #[66, 4, 3] }, 3, _, _, none⟩) rfl (fun KK hK => ?_) AllReadyH.nil); go_simp; go_at_call 36; with_reducible refine (batches20 false v yl yq ycap _ HBE.out HYF.out HYN.out HYK.out hs).mono ?_; rintro e wq ⟨rfl, hs⟩; refine hK.out _ _ (HKP.out _ hs) (fun hHeld => ?_); clear hK KK
         exact zq28
     · obtain rfl : j = xl.length := by omega
       have hd := HD.out; rw [List.drop_length] at hd; have hd : errPT false v (l.drop (k + 1)) = e := hd; have HC4 := Lib.hid hd; clear hd; go_wp2; go_roundw
       case rel => exact ⟨k + 1, hlt, by go_num, HC4, H.out⟩
       case measure => first | (simp [intOf]; done) | (simp [intOf]; omega)
  · exact zq37

set_option maxHeartbeats 4000000 in
set_option maxRecDepth 100000 in
theorem rck_a1_false (dd : Bs) (ac tm v : Int) (l : List PTop) (q : Option Addr) (cap : Nat) (hf : ∀ x ∈ l, CkT2 x) (hfew : RiseFew l) (hll : l.length ≤ 3518437208780) (h1 : 1 ≤ dd.length) (h2 : dd.length ≤ 32767) (n1 : ac < -1) {W0 w : World} {K : Know} {L : List Res} (hk : K.has (Know.ptops (.slice q l.length cap) l)) (h : St W0 w K L) :
  Calls Tryz.prog 10 #[.agg #[.bool false, .string (bb dd), .int .i64 ac, .int .i64 tm, .slice q l.length cap], .int .i64 v] w fun en w' => en = .returned (.int .i64 11) ∧ St W0 w' K L := by
 obtain ⟨rb, hrb⟩ : ∃ b, w.heap.size = b := ⟨_, rfl⟩; have g1 := h.allocRaw #[.bool false, .string (bb dd), .int .i64 ac, .int .i64 tm, .slice q l.length cap] 40; rw [hrb] at g1; have z0 := g1.rawCell 0; have z1 := g1.rawCell 1; have z2 := g1.rawCell 2; have z3 := g1.rawCell 3; have z4 := g1.rawCell 4; simp at z0 z1 z2 z3 z4; have H := Lib.hid g1; have HK := Lib.hid hk; have HF := Lib.hid hf; have HFW := Lib.hid hfew; have HLL := Lib.hid hll; have k5 : ¬ (dd.length : Int) < 1 := by omega
 have k6 : ¬ 32767 < (dd.length : Int) := by omega
 have k7 : decide ((dd.length : Int) < 1) = false := decide_eq_false k5; have k8 : decide (32767 < (dd.length : Int)) = false := decide_eq_false k6; have d1 : decide (ac < -1) = true := decide_eq_true n1; clear h g1 hk hf hfew h1 h2 n1; clear hll; go_enter Tryz.func10, Tryz.ntmps10; go_wp2_with (fail); go_ret; exact ⟨rfl, H.out.drop⟩

set_option maxHeartbeats 4000000 in
set_option maxRecDepth 100000 in
theorem rck_a2_false (dd : Bs) (ac tm v : Int) (l : List PTop) (q : Option Addr) (cap : Nat) (hf : ∀ x ∈ l, CkT2 x) (hfew : RiseFew l) (hll : l.length ≤ 3518437208780) (h1 : 1 ≤ dd.length) (h2 : dd.length ≤ 32767) (n1 : ¬ ac < -1) (n2 : 1 < ac) {W0 w : World} {K : Know} {L : List Res} (hk : K.has (Know.ptops (.slice q l.length cap) l)) (h : St W0 w K L) :
  Calls Tryz.prog 10 #[.agg #[.bool false, .string (bb dd), .int .i64 ac, .int .i64 tm, .slice q l.length cap], .int .i64 v] w fun en w' => en = .returned (.int .i64 11) ∧ St W0 w' K L := by
 obtain ⟨rb, hrb⟩ : ∃ b, w.heap.size = b := ⟨_, rfl⟩; have g1 := h.allocRaw #[.bool false, .string (bb dd), .int .i64 ac, .int .i64 tm, .slice q l.length cap] 40; rw [hrb] at g1; have z0 := g1.rawCell 0; have z1 := g1.rawCell 1; have z2 := g1.rawCell 2; have z3 := g1.rawCell 3; have z4 := g1.rawCell 4; simp at z0 z1 z2 z3 z4; have H := Lib.hid g1; have HK := Lib.hid hk; have HF := Lib.hid hf; have HFW := Lib.hid hfew; have HLL := Lib.hid hll; have k5 : ¬ (dd.length : Int) < 1 := by omega
 have k6 : ¬ 32767 < (dd.length : Int) := by omega
 have k7 : decide ((dd.length : Int) < 1) = false := decide_eq_false k5; have k8 : decide (32767 < (dd.length : Int)) = false := decide_eq_false k6; have d1 : decide (ac < -1) = false := decide_eq_false n1; have d2 : decide (1 < ac) = true := decide_eq_true n2; clear h g1 hk hf hfew h1 h2 n1 n2; clear hll; go_enter Tryz.func10, Tryz.ntmps10; go_wp2_with (fail); go_ret; exact ⟨rfl, H.out.drop⟩

set_option maxHeartbeats 4000000 in
set_option maxRecDepth 100000 in
theorem rck_a3_false (dd : Bs) (ac tm v : Int) (l : List PTop) (q : Option Addr) (cap : Nat) (hf : ∀ x ∈ l, CkT2 x) (hfew : RiseFew l) (hll : l.length ≤ 3518437208780) (h1 : 1 ≤ dd.length) (h2 : dd.length ≤ 32767) (n1 : ¬ ac < -1) (n2 : ¬ 1 < ac) (n3 : tm < 0) {W0 w : World} {K : Know} {L : List Res} (hk : K.has (Know.ptops (.slice q l.length cap) l)) (h : St W0 w K L) :
  Calls Tryz.prog 10 #[.agg #[.bool false, .string (bb dd), .int .i64 ac, .int .i64 tm, .slice q l.length cap], .int .i64 v] w fun en w' => en = .returned (.int .i64 11) ∧ St W0 w' K L := by
 obtain ⟨rb, hrb⟩ : ∃ b, w.heap.size = b := ⟨_, rfl⟩; have g1 := h.allocRaw #[.bool false, .string (bb dd), .int .i64 ac, .int .i64 tm, .slice q l.length cap] 40; rw [hrb] at g1; have z0 := g1.rawCell 0; have z1 := g1.rawCell 1; have z2 := g1.rawCell 2; have z3 := g1.rawCell 3; have z4 := g1.rawCell 4; simp at z0 z1 z2 z3 z4; have H := Lib.hid g1; have HK := Lib.hid hk; have HF := Lib.hid hf; have HFW := Lib.hid hfew; have HLL := Lib.hid hll; have k5 : ¬ (dd.length : Int) < 1 := by omega
 have k6 : ¬ 32767 < (dd.length : Int) := by omega
 have k7 : decide ((dd.length : Int) < 1) = false := decide_eq_false k5; have k8 : decide (32767 < (dd.length : Int)) = false := decide_eq_false k6; have d1 : decide (ac < -1) = false := decide_eq_false n1; have d2 : decide (1 < ac) = false := decide_eq_false n2; have d3 : decide (tm < 0) = true := decide_eq_true n3; clear h g1 hk hf hfew h1 h2 n1 n2 n3; clear hll; go_enter Tryz.func10, Tryz.ntmps10; go_wp2_with (fail); go_ret; exact ⟨rfl, H.out.drop⟩

set_option maxHeartbeats 4000000 in
set_option maxRecDepth 100000 in
theorem rck_a4_false (dd : Bs) (ac tm v : Int) (l : List PTop) (q : Option Addr) (cap : Nat) (hf : ∀ x ∈ l, CkT2 x) (hfew : RiseFew l) (hll : l.length ≤ 3518437208780) (h1 : 1 ≤ dd.length) (h2 : dd.length ≤ 32767) (n1 : ¬ ac < -1) (n2 : ¬ 1 < ac) (n3 : ¬ tm < 0) (n4 : 2147483647 < tm) {W0 w : World} {K : Know} {L : List Res} (hk : K.has (Know.ptops (.slice q l.length cap) l)) (h : St W0 w K L) :
  Calls Tryz.prog 10 #[.agg #[.bool false, .string (bb dd), .int .i64 ac, .int .i64 tm, .slice q l.length cap], .int .i64 v] w fun en w' => en = .returned (.int .i64 11) ∧ St W0 w' K L := by
 obtain ⟨rb, hrb⟩ : ∃ b, w.heap.size = b := ⟨_, rfl⟩; have g1 := h.allocRaw #[.bool false, .string (bb dd), .int .i64 ac, .int .i64 tm, .slice q l.length cap] 40; rw [hrb] at g1; have z0 := g1.rawCell 0; have z1 := g1.rawCell 1; have z2 := g1.rawCell 2; have z3 := g1.rawCell 3; have z4 := g1.rawCell 4; simp at z0 z1 z2 z3 z4; have H := Lib.hid g1; have HK := Lib.hid hk; have HF := Lib.hid hf; have HFW := Lib.hid hfew; have HLL := Lib.hid hll; have k5 : ¬ (dd.length : Int) < 1 := by omega
 have k6 : ¬ 32767 < (dd.length : Int) := by omega
 have k7 : decide ((dd.length : Int) < 1) = false := decide_eq_false k5; have k8 : decide (32767 < (dd.length : Int)) = false := decide_eq_false k6; have d1 : decide (ac < -1) = false := decide_eq_false n1; have d2 : decide (1 < ac) = false := decide_eq_false n2; have d3 : decide (tm < 0) = false := decide_eq_false n3; have d4 : decide (2147483647 < tm) = true := decide_eq_true n4; clear h g1 hk hf hfew h1 h2 n1 n2 n3 n4; clear hll; go_enter Tryz.func10, Tryz.ntmps10; go_wp2_with (fail); go_ret; exact ⟨rfl, H.out.drop⟩

set_option maxHeartbeats 4000000 in
set_option maxRecDepth 100000 in
theorem rck_t_false (dd : Bs) (ac tm v : Int) (l : List PTop) (q : Option Addr) (cap : Nat) (hf : ∀ x ∈ l, CkT2 x) (hfew : RiseFew l) (hll : l.length ≤ 3518437208780) (h1 : 1 ≤ dd.length) (h2 : dd.length ≤ 32767) (n1 : ¬ ac < -1) (n2 : ¬ 1 < ac) (n3 : ¬ tm < 0) (n4 : ¬ 2147483647 < tm) (e : Int) (het : errTops l = e) (h0 : e ≠ 0) {W0 w : World} {K : Know} {L : List Res} (hk : K.has (Know.ptops (.slice q l.length cap) l)) (h : St W0 w K L) :
  Calls Tryz.prog 10 #[.agg #[.bool false, .string (bb dd), .int .i64 ac, .int .i64 tm, .slice q l.length cap], .int .i64 v] w fun en w' => en = .returned (.int .i64 e) ∧ St W0 w' K L := by
 obtain ⟨rb, hrb⟩ : ∃ b, w.heap.size = b := ⟨_, rfl⟩; have g1 := h.allocRaw #[.bool false, .string (bb dd), .int .i64 ac, .int .i64 tm, .slice q l.length cap] 40; rw [hrb] at g1; have z0 := g1.rawCell 0; have z1 := g1.rawCell 1; have z2 := g1.rawCell 2; have z3 := g1.rawCell 3; have z4 := g1.rawCell 4; simp at z0 z1 z2 z3 z4; have H := Lib.hid g1; have HK := Lib.hid hk; have HF := Lib.hid hf; have HFW := Lib.hid hfew; have HLL := Lib.hid hll; have k5 : ¬ (dd.length : Int) < 1 := by omega
 have k6 : ¬ 32767 < (dd.length : Int) := by omega
 have k7 : decide ((dd.length : Int) < 1) = false := decide_eq_false k5; have k8 : decide (32767 < (dd.length : Int)) = false := decide_eq_false k6; have d1 : decide (ac < -1) = false := decide_eq_false n1; have d2 : decide (1 < ac) = false := decide_eq_false n2; have d3 : decide (tm < 0) = false := decide_eq_false n3; have d4 : decide (2147483647 < tm) = false := decide_eq_false n4; have HET := Lib.hid het; have e1 : (e == 0) = false := by rw [beq_eq_false_iff_ne]; exact h0
 have e3 : (e != 0) = true := by simp [bne, e1]
 clear h g1 hk hf hfew h1 h2 n1 n2 n3 n4 het h0; clear hll; go_enter Tryz.func10, Tryz.ntmps10
 go_wp2_with (first
  | (go_at_call 35; clear z0 z1 z2 z3 z4; (with_reducible refine (rise20 l q cap e HET.out HLL.out HFW.out HK.out H.out).mono ?_); rintro e_ wn ⟨rfl, h⟩; have z0 := h.rawCell 0; have z1 := h.rawCell 1; have z2 := h.rawCell 2; have z3 := h.rawCell 3; have z4 := h.rawCell 4; simp at z0 z1 z2 z3 z4; replace H := Lib.hid h; clear h))
 go_ret; exact ⟨rfl, H.out.drop⟩

set_option maxHeartbeats 4000000 in
set_option maxRecDepth 100000 in
theorem rck_p_false (dd : Bs) (ac tm v : Int) (l : List PTop) (q : Option Addr) (cap : Nat) (hf : ∀ x ∈ l, CkT2 x) (hfew : RiseFew l) (hll : l.length ≤ 3518437208780) (h1 : 1 ≤ dd.length) (h2 : dd.length ≤ 32767) (n1 : ¬ ac < -1) (n2 : ¬ 1 < ac) (n3 : ¬ tm < 0) (n4 : ¬ 2147483647 < tm) (het : errTops l = 0) (e : Int) (hep : errPT true v l = e) {W0 w : World} {K : Know} {L : List Res} (hk : K.has (Know.ptops (.slice q l.length cap) l)) (h : St W0 w K L) :
  Calls Tryz.prog 10 #[.agg #[.bool false, .string (bb dd), .int .i64 ac, .int .i64 tm, .slice q l.length cap], .int .i64 v] w fun en w' => en = .returned (.int .i64 e) ∧ St W0 w' K L := by
 obtain ⟨rb, hrb⟩ : ∃ b, w.heap.size = b := ⟨_, rfl⟩; have g1 := h.allocRaw #[.bool false, .string (bb dd), .int .i64 ac, .int .i64 tm, .slice q l.length cap] 40; rw [hrb] at g1; have z0 := g1.rawCell 0; have z1 := g1.rawCell 1; have z2 := g1.rawCell 2; have z3 := g1.rawCell 3; have z4 := g1.rawCell 4; simp at z0 z1 z2 z3 z4; have H := Lib.hid g1; have HK := Lib.hid hk; have HF := Lib.hid hf; have HFW := Lib.hid hfew; have HLL := Lib.hid hll; have k5 : ¬ (dd.length : Int) < 1 := by omega
 have k6 : ¬ 32767 < (dd.length : Int) := by omega
 have k7 : decide ((dd.length : Int) < 1) = false := decide_eq_false k5; have k8 : decide (32767 < (dd.length : Int)) = false := decide_eq_false k6; have d1 : decide (ac < -1) = false := decide_eq_false n1; have d2 : decide (1 < ac) = false := decide_eq_false n2; have d3 : decide (tm < 0) = false := decide_eq_false n3; have d4 : decide (2147483647 < tm) = false := decide_eq_false n4; have HET := Lib.hid het; clear h g1 hk hf hfew h1 h2 n1 n2 n3 n4 het; have HR := Lib.hid (show errPT true v (l.drop 0) = e by rw [List.drop_zero]; exact hep); have hni : (l.length : Int) ≤ 3518437208780 := by omega
 clear hep hll; go_enter Tryz.func10, Tryz.ntmps10; go_wp2_with (go_at_call 35; clear z0 z1 z2 z3 z4; (with_reducible refine (rise20 l q cap 0 HET.out HLL.out HFW.out HK.out H.out).mono ?_); rintro e_ wn ⟨rfl, h⟩; have z0 := h.rawCell 0; have z1 := h.rawCell 1; have z2 := h.rawCell 2; have z3 := h.rawCell 3; have z4 := h.rawCell 4; simp at z0 z1 z2 z3 z4; replace H := Lib.hid h; clear h); clear z0 z1 z2 z3 z4; go_loopw [6] (fun iv wr => ∃ (k : Nat), k ≤ l.length ∧ iv = .int .i64 k ∧ Hid (errPT true v (l.drop k) = e) ∧ St W0 wr K (.raw rb #[.bool false, .string (bb dd), .int .i64 ac, .int .i64 tm, .slice q l.length cap] 40 :: L)) (fun iv _ => l.length - (intOf iv).toNat)
 case atStart => exact ⟨0, Nat.zero_le _, rfl, HR, H.out⟩
 case round =>
  obtain ⟨k, hkl, rfl, HC, hst⟩ := hrel; clear H HR; have H := Lib.hid hst; clear hst; have z4 := H.out.rawCell 4; simp at z4
  by_cases hlt : k < l.length
  · obtain ⟨bk, off, hqq⟩ := ptops_at HK.out H.out (by omega); obtain ⟨x, hx⟩ : ∃ x, l[k] = x := ⟨_, rfl⟩; have hmem : x ∈ l := hx ▸ List.getElem_mem hlt; have hck := HF.out x hmem; have HXK0 := ptops_parts HK.out hmem; have hc := HC.out; rw [List.drop_eq_getElem_cons hlt, hx, errPT_cons] at hc; have hkn : (k : Int) < (l.length : Int) := by omega
    have HX := Lib.hid hx; subst hqq; obtain ⟨nm, xl, xq, xcap⟩ := x; simp only at hc HXK0; have HXK := Lib.hid HXK0; have HXF := Lib.hid (show ∀ y ∈ xl, CkP2 y from hck.parts); have hxl : xl.length ≤ 4398046511104 := hck.len; have hxi : (xl.length : Int) ≤ 4398046511104 := by omega
    have HC2 := Lib.hid (show (if errPs true v (xl.drop 0) ≠ 0 then errPs true v (xl.drop 0) else errPT true v (l.drop (k + 1))) = e by rw [List.drop_zero]; exact hc); clear hx hmem hck HXK0 hxl hc; go_wp2_with fail; clear z4; go_loopw [7] (fun jv wr => ∃ (j : Nat), j ≤ xl.length ∧ jv = .int .i64 j ∧ Hid ((if errPs true v (xl.drop j) ≠ 0 then errPs true v (xl.drop j) else errPT true v (l.drop (k + 1))) = e) ∧ St W0 wr K (.raw rb #[.bool false, .string (bb dd), .int .i64 ac, .int .i64 tm, .slice (some ⟨bk, off, none⟩) l.length cap] 40 :: L)) (fun jv _ => xl.length - (intOf jv).toNat)
    case atStart => exact ⟨0, Nat.zero_le _, rfl, HC2, H.out⟩
    case round =>
     obtain ⟨j, hjl, rfl, HD, hst⟩ := hrel; clear H HC2; have H := Lib.hid hst; clear hst; have z4 := H.out.rawCell 4; simp at z4; obtain ⟨_, c1⟩ := ptops_cell HK.out H.out k hlt _ HX.out; simp only at c1
     by_cases hjt : j < xl.length
     · obtain ⟨pk, poff, hpq⟩ := pparts_at HXK.out H.out (by omega); subst hpq; obtain ⟨y, hy⟩ : ∃ y, xl[j] = y := ⟨_, rfl⟩; have hmem : y ∈ xl := hy ▸ List.getElem_mem hjt; have hcy := HXF.out y hmem; have HYK0 := pparts_bats HXK.out hmem; have hd := HD.out; rw [List.drop_eq_getElem_cons hjt, hy, errPs_b20] at hd; have hjn : (j : Int) < (xl.length : Int) := by omega
       have HY := Lib.hid hy; obtain ⟨yi, yl, yq, ycap⟩ := y; simp only at hd HYK0; have HYK := Lib.hid HYK0; have HYF := Lib.hid (show ∀ z ∈ yl, CkB z from hcy.bats); have HYN := Lib.hid (show yl.length ≤ 4398046511104 from hcy.len); obtain ⟨be, hbe⟩ : ∃ n, errB20 true v yl = n := ⟨_, rfl⟩; have HBE := Lib.hid hbe; rw [hbe] at hd
       have HKP := Lib.hid (show ∀ (w' : World), St W0 w' K (.raw rb #[.bool false, .string (bb dd), .int .i64 ac, .int .i64 tm, .slice (some ⟨bk, off, none⟩) l.length cap] 40 :: L) → (w'.cell? ⟨rb, 0, none⟩ = some (.bool false) ∧ w'.cell? ⟨rb, 4, none⟩ = some (.slice (some ⟨bk, off, none⟩) l.length cap) ∧ w'.cell? ⟨bk, off + k * 2 + 1, none⟩ = some (.slice (some ⟨pk, poff, none⟩) xl.length xcap) ∧ w'.cell? ⟨pk, poff + j * 2 + 1, none⟩ = some (.slice yq yl.length ycap)) from fun w' hs => by
         have a0 := hs.rawCell 0; have a4 := hs.rawCell 4; obtain ⟨_, b1⟩ := ptops_cell HK.out hs k hlt _ HX.out; obtain ⟨_, d1⟩ := pparts_cell HXK.out hs j hjt _ HY.out; simp at a0 a4
         exact ⟨a0, a4, b1, d1⟩)
       clear hy hmem hcy HYK0 hbe
       by_cases b0 : be = 0
       · subst b0; have HC3 := Lib.hid (ifs_0 hd); clear hd; go_wp2; have hs := H.out.drew; refine wp_region_held_drew (S := fun w' => w'.cell? ⟨rb, 0, none⟩ = some (.bool false) ∧ w'.cell? ⟨rb, 4, none⟩ = some (.slice (some ⟨bk, off, none⟩) l.length cap) ∧ w'.cell? ⟨bk, off + k * 2 + 1, none⟩ = some (.slice (some ⟨pk, poff, none⟩) xl.length xcap) ∧ w'.cell? ⟨pk, poff + j * 2 + 1, none⟩ = some (.slice yq yl.length ycap)) (by kernel_rfl) (HKP.out _ hs) (fun hHeld => ?_); refine tQ 0 ⟨some 80, .fieldAddr 40 (.tmp 2) 3, 0, _, _, none⟩ ?_; simp only [Act.put, sA, sB, sC]; refine tQ 1 ⟨some 81, .load 38 (.tmp 80), 38, _, _, none⟩ ?_; simp only [Act.put, sA, sB, sC]; refine tQ 2 ⟨some 82, .move (.tmp 6), 3, _, _, none⟩ ?_; simp only [Act.put, sA, sB, sC]; refine tQ 3 ⟨some 83, .indexAddr 38 (.tmp 81) (.tmp 82), 0, _, _, none⟩ ?_; simp only [Act.put, sA, sB, sC]; refine tQ 4 ⟨some 84, .fieldAddr 83 (.tmp 83) 1, 0, _, _, none⟩ ?_; simp only [Act.put, sA, sB, sC]; refine tQ 5 ⟨some 85, .load 81 (.tmp 84), 81, _, _, none⟩ ?_; simp only [Act.put, sA, sB, sC]; refine tQ 6 ⟨some 86, .move (.tmp 7), 3, _, _, none⟩ ?_; simp only [Act.put, sA, sB, sC]; refine tQ 7 ⟨some 87, .indexAddr 81 (.tmp 85) (.tmp 86), 0, _, _, none⟩ ?_; simp only [Act.put, sA, sB, sC]; refine tQ 8 ⟨some 88, .fieldAddr 85 (.tmp 87) 1, 0, _, _, none⟩ ?_; simp only [Act.put, sA, sB, sC]; refine tQ 9 ⟨some 89, .load 66 (.tmp 88), 66, _, _, none⟩ ?_; simp only [Act.put, sA, sB, sC]; refine tQ 10 ⟨some 90, .fieldAddr 40 (.tmp 2) 0, 0, _, _, none⟩ ?_; simp only [Act.put, sA, sB, sC]; refine tQ 11 ⟨some 91, .fieldAddr 23 (.tmp 90) 0, 0, _, _, none⟩ ?_; simp only [Act.put, sA, sB, sC]; refine tQ 12 ⟨some 92, .load 4 (.tmp 91), 4, _, _, none⟩ ?_; simp only [Act.put, sA, sB, sC]; refine tQ 13 ⟨some 93, .unOp UnOp.not 4 (.tmp 92), 4, _, _, none⟩ ?_; simp only [Act.put, sA, sB, sC]; refine tQ 14 ⟨some 94, .move (.tmp 1), 3, _, _, none⟩ ?_; simp only [Act.put, sA, sB, sC]; refine wpAnyH_ready (rs := [15]) (by kernel_rfl) (by simp) (AllReadyH.cons (o := ⟨some 95, .call { callee := .value (.func 36), args := #[.tmp 89, .tmp 93, .tmp 94], argTypes := #[66, 4, 3] }, 3, _, _, none⟩) rfl (fun KK hK => ?_) AllReadyH.nil); go_simp; go_at_call 36; with_reducible refine (batches20 true v yl yq ycap _ HBE.out HYF.out HYN.out HYK.out hs).mono ?_; rintro e wq ⟨rfl, hs⟩; refine hK.out _ _ (HKP.out _ hs) (fun hHeld => ?_); clear hK KK
         exact zq24
       · rw [if_pos b0, if_pos b0] at hd; subst hd; have g1 : (be == 0) = false := by rw [beq_eq_false_iff_ne]; exact b0
         have g2 : (be != 0) = true := by simp [bne, g1]
         have g3 : ¬ be = 0 := b0; clear b0; go_wp2; have hs := H.out.drew; refine wp_region_held_drew (S := fun w' => w'.cell? ⟨rb, 0, none⟩ = some (.bool false) ∧ w'.cell? ⟨rb, 4, none⟩ = some (.slice (some ⟨bk, off, none⟩) l.length cap) ∧ w'.cell? ⟨bk, off + k * 2 + 1, none⟩ = some (.slice (some ⟨pk, poff, none⟩) xl.length xcap) ∧ w'.cell? ⟨pk, poff + j * 2 + 1, none⟩ = some (.slice yq yl.length ycap)) (by kernel_rfl) (HKP.out _ hs) (fun hHeld => ?_); refine tQ 0 ⟨some 80, .fieldAddr 40 (.tmp 2) 3, 0, _, _, none⟩ ?_; simp only [Act.put, sA, sB, sC]; refine tQ 1 ⟨some 81, .load 38 (.tmp 80), 38, _, _, none⟩ ?_; simp only [Act.put, sA, sB, sC]; refine tQ 2 ⟨some 82, .move (.tmp 6), 3, _, _, none⟩ ?_; simp only [Act.put, sA, sB, sC]; refine tQ 3 ⟨some 83, .indexAddr 38 (.tmp 81) (.tmp 82), 0, _, _, none⟩ ?_; simp only [Act.put, sA, sB, sC]; refine tQ 4 ⟨some 84, .fieldAddr 83 (.tmp 83) 1, 0, _, _, none⟩ ?_; simp only [Act.put, sA, sB, sC]; refine tQ 5 ⟨some 85, .load 81 (.tmp 84), 81, _, _, none⟩ ?_; simp only [Act.put, sA, sB, sC]; refine tQ 6 ⟨some 86, .move (.tmp 7), 3, _, _, none⟩ ?_; simp only [Act.put, sA, sB, sC]; refine tQ 7 ⟨some 87, .indexAddr 81 (.tmp 85) (.tmp 86), 0, _, _, none⟩ ?_; simp only [Act.put, sA, sB, sC]; refine tQ 8 ⟨some 88, .fieldAddr 85 (.tmp 87) 1, 0, _, _, none⟩ ?_; simp only [Act.put, sA, sB, sC]; refine tQ 9 ⟨some 89, .load 66 (.tmp 88), 66, _, _, none⟩ ?_; simp only [Act.put, sA, sB, sC]; refine tQ 10 ⟨some 90, .fieldAddr 40 (.tmp 2) 0, 0, _, _, none⟩ ?_; simp only [Act.put, sA, sB, sC]; refine tQ 11 ⟨some 91, .fieldAddr 23 (.tmp 90) 0, 0, _, _, none⟩ ?_; simp only [Act.put, sA, sB, sC]; refine tQ 12 ⟨some 92, .load 4 (.tmp 91), 4, _, _, none⟩ ?_; simp only [Act.put, sA, sB, sC]; refine tQ 13 ⟨some 93, .unOp UnOp.not 4 (.tmp 92), 4, _, _, none⟩ ?_; simp only [Act.put, sA, sB, sC]; refine tQ 14 ⟨some 94, .move (.tmp 1), 3, _, _, none⟩ ?_; simp only [Act.put, sA, sB, sC]; refine wpAnyH_ready (rs := [15]) (by kernel_rfl) (by simp) (AllReadyH.cons (o := ⟨some 95, .call { callee := .value (.func 36), args := #[.tmp 89, .tmp 93, .tmp 94], argTypes := #[66, 4, 3] }, 3, _, _, none⟩) rfl (fun KK hK => ?_) AllReadyH.nil); go_simp; go_at_call 36; with_reducible refine (batches20 true v yl yq ycap _ HBE.out HYF.out HYN.out HYK.out hs).mono ?_; rintro e wq ⟨rfl, hs⟩; refine hK.out _ _ (HKP.out _ hs) (fun hHeld => ?_); clear hK KK
         exact zq28
     · obtain rfl : j = xl.length := by omega
       have hd := HD.out; rw [List.drop_length] at hd; have hd : errPT true v (l.drop (k + 1)) = e := hd; have HC4 := Lib.hid hd; clear hd; go_wp2; go_roundw
       case rel => exact ⟨k + 1, hlt, by go_num, HC4, H.out⟩
       case measure => first | (simp [intOf]; done) | (simp [intOf]; omega)
  · exact zq37

theorem ref20_check (nl : Bool) (dd : Bs) (ac tm v : Int) (l : List PTop) (q : Option Addr) (cap : Nat) (hf : ∀ x ∈ l, CkT2 x) (hfew : RiseFew l) (hll : l.length ≤ 3518437208780) (e : Int) (he : errReq ⟨nl, dd⟩ ac tm v l = e) {W0 w : World} {K : Know} {L : List Res} (hk : K.has (Know.ptops (.slice q l.length cap) l)) (h : St W0 w K L) :
  Calls Tryz.prog 10 #[.agg #[.bool nl, .string (bb dd), .int .i64 ac, .int .i64 tm, .slice q l.length cap], .int .i64 v] w fun en w' => en = .returned (.int .i64 e) ∧ St W0 w' K L := by
 unfold errReq at he
 cases nl with
 | true =>
  by_cases hd : dd = []
  · subst hd; rw [if_neg (by simp [BlobS.right])] at he
    by_cases n1 : ac < -1
    · rw [if_pos (.inl n1)] at he; subst he; exact rck_a1_true ac tm v l q cap hf hfew hll n1 hk h
    by_cases n2 : 1 < ac
    · rw [if_pos (.inr (.inl n2))] at he; subst he; exact rck_a2_true ac tm v l q cap hf hfew hll n1 n2 hk h
    by_cases n3 : tm < 0
    · rw [if_pos (.inr (.inr (.inl n3)))] at he; subst he; exact rck_a3_true ac tm v l q cap hf hfew hll n1 n2 n3 hk h
    by_cases n4 : 2147483647 < tm
    · rw [if_pos (.inr (.inr (.inr n4)))] at he; subst he; exact rck_a4_true ac tm v l q cap hf hfew hll n1 n2 n3 n4 hk h
    rw [if_neg (by omega)] at he
    by_cases ht : errTops l = 0
    · rw [if_neg (by simp [ht])] at he; exact rck_p_true ac tm v l q cap hf hfew hll n1 n2 n3 n4 ht e he hk h
    · rw [if_pos ht] at he; exact rck_t_true ac tm v l q cap hf hfew hll n1 n2 n3 n4 e he (by rw [← he]; exact ht) hk h
  · rw [if_pos (.inl (by unfold BlobS.right; cases dd with | nil => exact absurd rfl hd | cons _ _ => rfl))] at he; subst he; exact rck_r0 dd ac tm v l q cap hf hfew hll hd hk h
 | false =>
  by_cases hd : dd = []
  · subst hd; rw [if_pos (.inr ⟨rfl, rfl⟩)] at he; subst he; exact rck_k0 ac tm v l q cap hf hfew hll hk h
  · have h1 : 1 ≤ dd.length := List.length_pos_iff.2 hd
    by_cases h2 : dd.length ≤ 32767
    · have hkr : keyRight dd = true := by
        unfold keyRight; rw [decide_eq_true h2]
        cases dd with
        | nil => exact absurd rfl hd
        | cons _ _ => rfl
      rw [if_neg (by simp [BlobS.right, hkr])] at he
      by_cases n1 : ac < -1
      · rw [if_pos (.inl n1)] at he; subst he; exact rck_a1_false dd ac tm v l q cap hf hfew hll h1 h2 n1 hk h
      by_cases n2 : 1 < ac
      · rw [if_pos (.inr (.inl n2))] at he; subst he; exact rck_a2_false dd ac tm v l q cap hf hfew hll h1 h2 n1 n2 hk h
      by_cases n3 : tm < 0
      · rw [if_pos (.inr (.inr (.inl n3)))] at he; subst he; exact rck_a3_false dd ac tm v l q cap hf hfew hll h1 h2 n1 n2 n3 hk h
      by_cases n4 : 2147483647 < tm
      · rw [if_pos (.inr (.inr (.inr n4)))] at he; subst he; exact rck_a4_false dd ac tm v l q cap hf hfew hll h1 h2 n1 n2 n3 n4 hk h
      rw [if_neg (by omega)] at he
      by_cases ht : errTops l = 0
      · rw [if_neg (by simp [ht])] at he; exact rck_p_false dd ac tm v l q cap hf hfew hll h1 h2 n1 n2 n3 n4 ht e he hk h
      · rw [if_pos ht] at he; exact rck_t_false dd ac tm v l q cap hf hfew hll h1 h2 n1 n2 n3 n4 e he (by rw [← he]; exact ht) hk h
    · have hkr : keyRight dd = false := by
        unfold keyRight; rw [decide_eq_false h2, Bool.and_false]
      rw [if_pos (.inr ⟨rfl, hkr⟩)] at he; subst he; exact rck_k1 dd ac tm v l q cap hf hfew hll (by omega) hk h
def PTop.nl (x : PTop) : Bs × List PartR := (x.name, x.l)
theorem nl_pt {l m : List PTop} (h : l.map PTop.nl = m.map PTop.nl) : l.map PTop.pt = m.map PTop.pt := by
 have e : PTop.pt = (fun p : Bs × List PartR => (p.1, p.2.map PartR.pb)) ∘ PTop.nl := rfl; rw [e, ← List.map_map, h, List.map_map]
theorem nl_len {l m : List PTop} (h : l.map PTop.nl = m.map PTop.nl) : l.length = m.length := by have := congrArg List.length h; simpa using this
theorem nl_mem {l m : List PTop} (h : l.map PTop.nl = m.map PTop.nl) {x : PTop} (hx : x ∈ l) : ∃ y ∈ m, y.name = x.name ∧ y.l = x.l := by
 have h1 : x.nl ∈ m.map PTop.nl := h ▸ List.mem_map_of_mem hx; obtain ⟨y, hy, e⟩ := List.mem_map.1 h1; exact ⟨y, hy, congrArg Prod.fst e, congrArg Prod.snd e⟩
theorem elem_r20p : ElemT Tryz.prog 85 (.agg #[.int .i64 0, .slice none 0 0]) 2 32 := elemT_of (by kernel_rfl) rfl (by decide)
theorem elem_r20t : ElemT Tryz.prog 83 (.agg #[.string ⟨#[]⟩, .slice none 0 0]) 2 40 := elemT_of (by kernel_rfl) rfl (by decide)
theorem take_flat {α : Type} (f : α → List Value) (l : List α) (k : Nat) (h : k < l.length) (x : α) (hx : l[k] = x) : (l.take (k + 1)).flatMap f = (l.take k).flatMap f ++ f x := by
 rw [List.take_succ_eq_append_getElem h, hx, List.flatMap_append]
 simp

end Go.Proofs.YtnnnglklgofabaaGreat
