/- A text. -/
import Derived.Test.YtnnnglklgofabaaGreatGWholeWrites2
import Derived.Test.YtnnnglklgofabaaGreatGWholeWrites8
import Derived.Test.YtnnnglklgofabaaGreatGWholeWrites1
import Derived.Test.YtnnnglklgofabaaGreatGWholeWrites4
import Derived.Test.YtnnnglklgofabaaGreatGWholeWrites7
import Derived.Test.YtnnnglklgofabaaGreatRef04
import Derived.Test.YtnnnglklgofabaaGreatS1
import Derived.Test.YtnnnglklgofabaaGreatGWholeWrites6
import Derived.Test.YtnnnglklgofabaaGreatGWholeWrites3
import Derived.Shelf.Strings.Search3
import Derived.Shelf.LaysM
import Derived.Shelf.Strings.Shaped
import Derived.Test.YtnnnglklgofabaaGreatSep
import Derived.RegionTactic
import Derived.Deep.RegionHeld3
import Derived.Deep.DeepCutAuto
import Derived.WalkMore
import Derived.Test.YtnnnglklgofabaaGreatArgs
import Derived.SizedLaws
import Derived.Deep.Slices
import Derived.Test.YtnnnglklgofabaaGreatRec5
import Derived.Test.YtnnnglklgofabaaGreatL06F
import Derived.Test.YtnnnglklgofabaaGreatRec8
import Derived.Lib.SmallJoins
import Derived.Test.YtnnnglklgofabaaGreatRecs
/- A text. -/
namespace Go.Proofs.YtnnnglklgofabaaGreat
open Go.RowKit

theorem attr_one (a : Int) (h : chk a = 0) : attrN (bitAt a 3) (bitAt a 4) (bitAt a 5) 3 = a ∧ (bitAt a 5 = true → bitAt a 4 = true) := by
 have hr : 0 ≤ a ∧ a ≤ 63 := by
  unfold chk at h
  split at h
  · cases h
  · split at h
    · cases h
    · rename_i _ h2
      simp only [Bool.or_eq_true, decide_eq_true_eq, not_or] at h2
      omega
 have key : ∀ k : Fin 64, chk (k.val : Int) = 0 → attrN (bitAt k.val 3) (bitAt k.val 4) (bitAt k.val 5) 3 = k.val ∧ (bitAt k.val 5 = true → bitAt k.val 4 = true) := by decide
 have := key ⟨a.toNat, by omega⟩; simp only at this; rw [show ((a.toNat : Nat) : Int) = a by omega] at this; exact this h
theorem sumItem_back (v : Int) (h : -2147483648 ≤ v ∧ v < 2147483648) : sumItem (v % 4294967296) = v := by
 unfold sumItem; rw [if_neg (by omega)]
 split <;> omega
theorem preX_bytes {s : Bs} (h : 61 ≤ s.length) (h2 : (preX s).2 = 2) : encInts (preX s).1.items = s.take 61 := by
 have e := enc_intsOf preSizes s h; have hs : preSizes.sum = 61 := rfl; rw [hs] at e; rw [← e]; have h4 := sInt_range4 ((s.drop 17).take 4) (by rw [List.length_take]; omega); have h5 := sumItem_back _ h4
 have e2 : intsOf preSizes s = [sInt (s.take 8), sInt ((s.drop 8).take 4), sInt ((s.drop 12).take 4), sInt ((s.drop 16).take 1), sInt ((s.drop 17).take 4), sInt ((s.drop 21).take 2), sInt ((s.drop 23).take 4), sInt ((s.drop 27).take 8), sInt ((s.drop 35).take 8), sInt ((s.drop 43).take 8), sInt ((s.drop 51).take 2), sInt ((s.drop 53).take 4), sInt ((s.drop 57).take 4)] := by
  unfold preSizes; simp only [intsOf, List.drop_drop, Nat.reduceAdd]
 unfold preX at h2 ⊢; rw [e2] at h2 ⊢; have h3 : sInt ((s.drop 16).take 1) = 2 := h2; rw [h3]
 show encInts (PreS.items ⟨_, _, _, sInt ((s.drop 17).take 4) % 4294967296, _, _, _, _, _, _, _, _⟩) = _
 unfold PreS.items; simp only [h5]
 rfl
theorem unp_enc : ∀ (n : Nat) (rows : Bs) (pos : Nat) (rs : List RecS), pos ≤ rows.length → unp n ⟨rows, pos, 0⟩ = .ok rs → rows.drop pos = rs.flatMap encR
  | 0, rows, pos, rs, hp, h => by
    have h : (if (⟨rows, pos, 0⟩ : InS).left = 0 then Except.ok [] else Except.error (10 : Int)) = Except.ok rs := h
    by_cases c1 : (⟨rows, pos, 0⟩ : InS).left = 0
    · rw [if_pos c1] at h
      cases h
      have c2 : rows.length - pos = 0 := c1; rw [List.drop_of_length_le (by omega)]
      rfl
    · rw [if_neg c1] at h; cases h
  | n + 1, rows, pos, rs, hp, h => by
    have h : (if (⟨rows, pos, 0⟩ : InS).left = 0 then .error 10 else if (⟨rows, pos, 0⟩ : InS).record.2.err = 0 then consE (⟨rows, pos, 0⟩ : InS).record.1 (unp n (⟨rows, pos, 0⟩ : InS).record.2) else .error (⟨rows, pos, 0⟩ : InS).record.2.err) = .ok rs := h
    by_cases c1 : (⟨rows, pos, 0⟩ : InS).left = 0
    · rw [if_pos c1] at h; cases h
    rw [if_neg c1] at h
    cases hr : reRec (rows.drop pos) with
    | error e =>
      obtain ⟨he, q, _, hf⟩ := rds_rec.err rows pos e hp hr; rw [hf] at h; simp only at h; rw [if_neg he] at h
      cases h
    | ok y =>
      obtain ⟨x, m⟩ := y; obtain ⟨hpm, hf⟩ := rds_rec.ok rows pos x m hp hr; rw [hf] at h; simp only [if_true] at h
      cases hu : unp n ⟨rows, pos + m, 0⟩ with
      | error e => rw [hu] at h; cases h
      | ok t =>
        rw [hu] at h; have h : Except.ok (x :: t) = Except.ok rs := h; injection h with h; subst h; have i1 := unp_enc n rows (pos + m) t hpm hu; have j1 := (reRec_one hr).1; rw [List.flatMap_cons, ← i1, j1, ← List.drop_drop, List.take_append_drop]
theorem reBat_one {s : Bs} {b : BatS} {n : Nat} (h : reBat s = .ok (b, n)) : b.enc = s.take n ∧ batErr b = 0 ∧ b.rowsB.length ≤ s.length ∧ b.recs.length ≤ s.length ∧ ∀ x ∈ b.recs, x.R ∧ recOk x = 0 ∧ x.sum ≤ s.length := by
 obtain ⟨x, hp, hn, hns, ha⟩ := reBat_ok h; obtain ⟨p1, p2, p3, p4, p5⟩ := rePre_ok hp; obtain ⟨a1, a2, rs, a3, a4, a5⟩ := asmB_ok ha; obtain ⟨k, hk⟩ : ∃ k, (x.len - 49).toNat = k := ⟨_, rfl⟩; rw [hk] at hn a1 a3; obtain ⟨rows, hrw⟩ : ∃ r, (s.drop 61).take k = r := ⟨_, rfl⟩; rw [hrw] at a1 a3; have hrl : rows.length = k := by rw [← hrw, List.length_take, List.length_drop]; omega
 have u1 := unp_enc _ _ _ _ (Nat.zero_le _) a3; obtain ⟨u2, u3, u4⟩ := unp_fit _ _ _ _ (Nat.zero_le _) a3; rw [List.drop_zero] at u1; have hrb : b.rowsB = rows := by rw [u1, a5]; rfl
 have hrc : b.recs = rs := by rw [a5]
 obtain ⟨at1, at2⟩ := attr_one x.attr a2
 have hpre : b.pre x.sum = x := by
   unfold BatS.pre; rw [hrb, hrc, hrl, u2]; rw [a5]; simp only; rw [at1, show 49 + ((k : Nat) : Int) = x.len by omega, show ((x.count.toNat : Nat) : Int) = x.count by omega]
 have hby := preX_bytes p1 p3
 rw [p2] at hby
 have hbk : (s.take 61).drop 21 = b.back := by rw [← hby, ← hpre, b.pre_drop]
 have hcr : (b.crc : Int) = x.sum := by
   unfold BatS.crc; rw [← hbk, hrb]; exact a1
 refine ⟨?_, by rw [a5]; exact a4, by rw [hrb, hrl]; omega, by rw [hrc]; omega, fun y hy => ?_⟩
 · unfold BatS.enc; rw [hcr, hpre, hby, hrb, ← hrw, hn, List.take_add]
 · rw [hrc] at hy; obtain ⟨v1, v2, v3⟩ := u4 y hy; exact ⟨v1, v2, by omega⟩
theorem pre_R64 {s : Bs} {x : PreS} (h : rePre s = .ok x) : Rn x.base ∧ Rn x.leader ∧ Rn x.last ∧ Rn x.first ∧ Rn x.maxt ∧ Rn x.prod ∧ Rn x.epoch ∧ Rn x.seq := by
 obtain ⟨h1, h2, _, h3, h4⟩ := rePre_ok h; rw [preX_eq] at h2; have h2 := h2.symm; subst h2; have r : ∀ (k m : Nat), m ≤ 8 → Rn (sInt ((s.drop k).take m)) := fun k m hm => sInt_range _ (by rw [List.length_take]; omega)
 exact ⟨r 0 8 (by decide), r 12 4 (by decide), r 23 4 (by decide), r 27 8 (by decide), r 35 8 (by decide), r 43 8 (by decide), r 51 2 (by decide), r 53 4 (by decide)⟩
structure MidOk (b : BatS) : Prop where
  fit : ∀ x ∈ b.recs, x.R ∧ recOk x = 0 ∧ x.sum ≤ 2000
  len : b.recs.length ≤ 1000
  err : batErr b = 0
  rng : b.R
  rows : b.rowsB.length ≤ 2000
theorem rows_two : ∀ (l : List RecS), 2 * l.length ≤ (l.flatMap encR).length
  | [] => by simp
  | x :: t => by
    have h1 := rows_two t
    have h2 : 2 ≤ (encR x).length := by
      have h3 := encV_pos x.key; have h4 : 2 ≤ (recF x).length := by unfold recF; simp only [List.length_append, List.length_cons, List.length_nil]; omega
      show 2 ≤ (putU _ ++ recF x).length
      rw [List.length_append]
      omega
    rw [List.flatMap_cons, List.length_append, List.length_cons]
    omega
theorem MidOk.of {s : Bs} {b : BatS} {n : Nat} (h : reBat s = .ok (b, n)) (hl : s.length ≤ 1500) : MidOk b := by
 obtain ⟨h1, h2, h3, h4, h5⟩ := reBat_one h; obtain ⟨x, hp, _, _, ha⟩ := reBat_ok h; obtain ⟨_, _, rs, _, _, hb⟩ := asmB_ok ha; have hr := pre_R64 hp; have h6 := rows_two b.recs; have h7 : (b.recs.flatMap encR).length = b.rowsB.length := rfl; refine ⟨fun y hy => ?_, by omega, h2, ?_, by omega⟩
 · obtain ⟨v1, v2, v3⟩ := h5 y hy; exact ⟨v1, v2, by omega⟩
 · rw [hb]; exact hr
structure EncOk (b : BatS) : Prop where
  rows : b.rowsB.length ≤ 400000
  len : b.recs.length ≤ 1000
  err : batErr b = 0
  rng : b.R
  recs : ∀ x ∈ b.recs, x.R ∧ recOk x = 0 ∧ x.sum ≤ 1000000
theorem EncOk.small {b : BatS} (h : SmallOk b) : EncOk b := ⟨h.rows, by have := h.len; omega, h.err, h.rng, h.recs⟩
structure WrP (x : PartR) : Prop where
  idx : -9223372036854775808 ≤ x.idx ∧ x.idx < 9223372036854775808
  bats : ∀ z ∈ x.l, z.l.map (·.1) = z.b.recs ∧ EncOk z.b
structure WrT (x : PTop) : Prop where
  name : x.name.length ≤ 32767
  parts : ∀ y ∈ x.l, WrP y
structure BkP (x : PartR) : Prop where
  idx : -2147483648 ≤ x.idx ∧ x.idx < 2147483648
  len : (encB x.l).length ≤ 2000000
  bats : ∀ z ∈ x.l, SmallOk z.b
structure BkT (x : PTop) : Prop where
  name : x.name.length ≤ 32767
  len : x.l.length ≤ 1000000
  parts : ∀ y ∈ x.l, BkP y
theorem riseP_pb : ∀ (l m : List PartR), l.map PartR.pb = m.map PartR.pb → ∀ a, riseP a l = riseP a m
  | [], [], _, _ => rfl
  | [], _ :: _, h, _ => by cases h
  | _ :: _, [], h, _ => by cases h
  | x :: t, y :: u, h, a => by
    simp only [List.map_cons, List.cons.injEq] at h; have e : x.idx = y.idx := congrArg Prod.fst h.1; rw [riseP_cons, riseP_cons, e, riseP_pb t u h.2]
theorem errBs_b (txn : Bool) : ∀ (l m : List BatR), l.map BatR.b = m.map BatR.b → errBs txn l = errBs txn m
  | [], [], _ => rfl
  | [], _ :: _, h => by cases h
  | _ :: _, [], h => by cases h
  | x :: t, y :: u, h => by
    simp only [List.map_cons, List.cons.injEq] at h; rw [errBs_cons, errBs_cons, h.1, errBs_b txn t u h.2]
theorem pb_len {l m : List BatR} (h : l.map BatR.b = m.map BatR.b) : l.length = m.length := by have := congrArg List.length h; simpa using this
theorem errPs_pb (txn : Bool) (v : Int) : ∀ (l m : List PartR), l.map PartR.pb = m.map PartR.pb → errPs txn v l = errPs txn v m
  | [], [], _ => rfl
  | [], _ :: _, h => by cases h
  | _ :: _, [], h => by cases h
  | x :: t, y :: u, h => by
    simp only [List.map_cons, List.cons.injEq] at h; have e : x.l.map BatR.b = y.l.map BatR.b := congrArg Prod.snd h.1; rw [errPs_cons, errPs_cons, pb_len e, errBs_b txn _ _ e, errPs_pb txn v t u h.2]
theorem ppb_len {l m : List PartR} (h : l.map PartR.pb = m.map PartR.pb) : l.length = m.length := by have := congrArg List.length h; simpa using this
theorem errT_pt : ∀ (l m : List PTop), l.map PTop.pt = m.map PTop.pt → ∀ a, errT a l = errT a m
  | [], [], _, _ => rfl
  | [], _ :: _, h, _ => by cases h
  | _ :: _, [], h, _ => by cases h
  | x :: t, y :: u, h, a => by
    simp only [List.map_cons, List.cons.injEq] at h; have e1 : x.name = y.name := congrArg Prod.fst h.1; have e2 : x.l.map PartR.pb = y.l.map PartR.pb := congrArg Prod.snd h.1; rw [errT_cons, errT_cons, e1, ppb_len e2, riseP_pb _ _ e2, errT_pt t u h.2]
theorem errPT_pt (txn : Bool) (v : Int) : ∀ (l m : List PTop), l.map PTop.pt = m.map PTop.pt → errPT txn v l = errPT txn v m
  | [], [], _ => rfl
  | [], _ :: _, h => by cases h
  | _ :: _, [], h => by cases h
  | x :: t, y :: u, h => by
    simp only [List.map_cons, List.cons.injEq] at h; have e2 : x.l.map PartR.pb = y.l.map PartR.pb := congrArg Prod.snd h.1; rw [errPT_cons, errPT_cons, errPs_pb txn v _ _ e2, errPT_pt txn v t u h.2]
theorem ppt_len {l m : List PTop} (h : l.map PTop.pt = m.map PTop.pt) : l.length = m.length := by have := congrArg List.length h; simpa using this
theorem errReq_pt (id : BlobS) (ac tm v : Int) {l m : List PTop} (h : l.map PTop.pt = m.map PTop.pt) : errReq id ac tm v l = errReq id ac tm v m := by
 unfold errReq errTops; rw [errT_pt l m h, errPT_pt _ v l m h, ppt_len h]
theorem nl_take {l m : List PTop} (h : m.map PTop.nl = l.map PTop.nl) (j : Nat) : (m.take j).map PTop.nl = (l.take j).map PTop.nl := by rw [List.map_take, List.map_take, h]
theorem riseFew_nl {l m : List PTop} (h : m.map PTop.nl = l.map PTop.nl) (hf : RiseFew l) : RiseFew m := by
 intro j hj ha; have ht := nl_take h j
 have ha2 : AllP (l.take j) := fun x hx => by
  obtain ⟨y, hy, _, e⟩ := nl_mem ht.symm hx; rw [← e]; exact ha y hy
 obtain ⟨a, b⟩ := hf j (by rw [← nl_len h]; exact hj) ha2; refine ⟨a, fun x hx => ?_⟩; obtain ⟨y, hy, e1, e2⟩ := nl_mem ht hx; rw [← e1, ← e2]; exact b y hy
theorem ckT2_nl {l m : List PTop} (h : m.map PTop.nl = l.map PTop.nl) (hf : ∀ x ∈ l, CkT2 x) : ∀ x ∈ m, CkT2 x := by
 intro x hx; obtain ⟨y, hy, _, e⟩ := nl_mem h hx; have c := hf y hy; exact ⟨by rw [← e]; exact c.len, fun v hv => c.parts v (by rw [e]; exact hv)⟩
theorem few_ckR {z : BatR} (hf : z.Fit) (hs : smallB (z.l.map (·.1)) = true) : CkB z := ⟨⟨hf.2.2, hf.1.2.2.2.1.2 |> fun h => by omega, FitW.fit hf.2.1 hs, by have := smallB_len hs; omega⟩, hf.1.1⟩
theorem few_ckT {l : List PTop} (hf : ∀ x ∈ l, FewT20 x) (hs : ∀ x ∈ l, SmT x) : ∀ x ∈ l, CkT x ∧ CkT2 x := fun x hx =>
  ⟨⟨Nat.le_trans (hf x hx).name (by decide), (hf x hx).len, fun y hy => ⟨Nat.le_trans ((hf x hx).parts y hy).len (by decide), fun z hz => (few_ckR (((hf x hx).parts y hy).fit z hz) (hs x hx y hy z hz)).ck⟩⟩,
   ⟨(hf x hx).len, fun y hy => ⟨Nat.le_trans ((hf x hx).parts y hy).len (by decide), fun z hz => few_ckR (((hf x hx).parts y hy).fit z hz) (hs x hx y hy z hz)⟩⟩⟩
theorem sizeT_mem : ∀ (l : List PTop) (x : PTop), x ∈ l → x.name.length + 10 + sizeP x.l ≤ sizeT l
  | [], _, h => by cases h
  | y :: t, x, h => by
    simp only [sizeT]
    rcases List.mem_cons.1 h with rfl | h
    · omega
    · have := sizeT_mem t x h; omega
theorem sizeP_mem : ∀ (l : List PartR) (y : PartR), y ∈ l → 10 + 100 * y.l.length ≤ sizeP l
  | [], _, h => by cases h
  | z :: t, y, h => by
    simp only [sizeP]
    rcases List.mem_cons.1 h with rfl | h
    · omega
    · have := sizeP_mem t y h; omega
theorem sizeT_len : ∀ (l : List PTop), 10 * l.length ≤ sizeT l
  | [] => by simp [sizeT]
  | x :: t => by have := sizeT_len t; simp only [sizeT, List.length_cons]; omega
theorem sizeP_len : ∀ (l : List PartR), 10 * l.length ≤ sizeP l
  | [] => by simp [sizeP]
  | x :: t => by have := sizeP_len t; simp only [sizeP, List.length_cons]; omega
theorem few_rise {dl : Nat} {l : List PTop} (h : ∀ j, j ≤ l.length → AllP (l.take j) → j = 0 ∨ dl + sizeT (l.take j) ≤ 2000) : RiseFew l := by
 intro j hj ha
 rcases h j hj ha with rfl | h2
 · exact ⟨by omega, fun x hx => by simp at hx⟩
 · have h3 := sizeT_len (l.take j); rw [List.length_take] at h3; refine ⟨by omega, fun x hx => ?_⟩; have h4 := sizeT_mem _ x hx; have h5 := sizeP_len x.l
   omega
theorem errT_all : ∀ (l : List PTop) (a : Bs), errT a l = 0 → ∀ x ∈ l, x.l.length ≠ 0 ∧ keyRight x.name = true ∧ riseP (-1) x.l = true
  | [], _, _, _, hx => by cases hx
  | y :: t, a, h, x, hx => by
    rw [errT_cons] at h
    by_cases h0 : y.l.length = 0
    · rw [if_pos h0] at h; cases h
    rw [if_neg h0] at h
    by_cases hb : (keyRight y.name && Op.bytesLess a y.name && riseP (-1) y.l) = true
    · rw [if_pos hb] at h; simp only [Bool.and_eq_true] at hb
      rcases List.mem_cons.1 hx with rfl | hx
      · exact ⟨h0, hb.1.1, hb.2⟩
      · exact errT_all t y.name h x hx
    · rw [if_neg hb] at h; cases h
theorem riseP_mem : ∀ (l : List PartR) (a : Int), riseP a l = true → ∀ y ∈ l, a < y.idx ∧ y.idx ≤ 2147483647
  | [], _, _, _, hy => by cases hy
  | z :: t, a, h, y, hy => by
    rw [riseP_cons] at h; simp only [Bool.and_eq_true, decide_eq_true_eq] at h
    rcases List.mem_cons.1 hy with rfl | hy
    · exact h.1
    · have := riseP_mem t z.idx h.2 y hy; omega
theorem errBs_all (txn : Bool) : ∀ (l : List BatR), errBs txn l = 0 → ∀ z ∈ l, batErr z.b = 0
  | [], _, _, hz => by cases hz
  | y :: t, h, z, hz => by
    rw [errBs_cons] at h; obtain ⟨be, hbe⟩ : ∃ n, batErr y.b = n := ⟨_, rfl⟩; rw [hbe] at h
    by_cases h0 : be = 0
    · rw [if_neg (fun hh => hh h0)] at h
      by_cases h1 : y.b.ctl = true
      · rw [if_pos h1] at h; exact absurd h (by decide)
      rw [if_neg h1] at h
      by_cases h2 : y.b.txn ≠ txn
      · rw [if_pos h2] at h; exact absurd h (by decide)
      rw [if_neg h2] at h
      rcases List.mem_cons.1 hz with hz | hz
      · rw [hz]; exact hbe.trans h0
      · exact errBs_all txn t h z hz
    · rw [if_pos h0] at h; exact absurd h h0
theorem errPs_all (txn : Bool) (v : Int) : ∀ (l : List PartR), errPs txn v l = 0 → ∀ y ∈ l, errBs txn y.l = 0
  | [], _, _, hx => by cases hx
  | y :: t, h, x, hx => by
    rw [errPs_cons] at h
    by_cases h0 : y.l.length = 0 ∨ (v = 3 ∧ 1 < y.l.length)
    · rw [if_pos h0] at h; cases h
    rw [if_neg h0] at h
    by_cases h1 : errBs txn y.l = 0
    · rw [if_neg (by simp [h1])] at h
      rcases List.mem_cons.1 hx with rfl | hx
      · exact h1
      · exact errPs_all txn v t h x hx
    · rw [if_pos h1] at h; exact absurd h h1
theorem errPT_all (txn : Bool) (v : Int) : ∀ (l : List PTop), errPT txn v l = 0 → ∀ x ∈ l, errPs txn v x.l = 0
  | [], _, _, hx => by cases hx
  | y :: t, h, x, hx => by
    rw [errPT_cons] at h
    by_cases h1 : errPs txn v y.l = 0
    · rw [if_neg (by simp [h1])] at h
      rcases List.mem_cons.1 hx with rfl | hx
      · exact h1
      · exact errPT_all txn v t h x hx
    · rw [if_pos h1] at h; exact absurd h h1
theorem errB_zero : ∀ (l : List BatR), (∀ z ∈ l, batErr z.b = 0) → errB l = 0
  | [], _ => rfl
  | x :: t, h => by
    show (if batErr x.b = 0 then errB t else batErr x.b) = 0
    rw [if_pos (h x (by simp))]; exact errB_zero t (fun z hz => h z (by simp [hz]))
theorem encParts_le : ∀ (l : List PartR), (∀ y ∈ l, (encB y.l).length ≤ 14000 * y.l.length) → (l.flatMap encPart).length ≤ 140 * sizeP l
  | [], _ => by simp [sizeP]
  | x :: t, h => by
    have h1 := encParts_le t (fun y hy => h y (by simp [hy])); have h2 := h x (by simp)
    have h3 : (encPart x).length = 8 + (encB x.l).length := by
      unfold encPart encF; simp only [List.length_append]; have g1 : (beBytes x.idx (4 : Int).toNat).length = 4 := beBytes_length _ _; have g2 : ∀ n, (beBytes n 4).length = 4 := fun n => beBytes_length _ _
      rw [g1, g2]
      omega
    rw [List.flatMap_cons, List.length_append, h3]; simp only [sizeP]
    omega
theorem encPTops_le : ∀ (l : List PTop), (∀ x ∈ l, ∀ y ∈ x.l, (encB y.l).length ≤ 14000 * y.l.length) → (l.flatMap encPTop).length ≤ 140 * sizeT l
  | [], _ => by simp [sizeT]
  | x :: t, h => by
    have h1 := encPTops_le t (fun y hy => h y (by simp [hy])); have h2 := encParts_le x.l (h x (by simp))
    have h3 : (encPTop x).length = 6 + x.name.length + (x.l.flatMap encPart).length := by
      unfold encPTop encF; simp only [List.length_append]; have g1 : (beBytes (x.l.length : Int) (4 : Int).toNat).length = 4 := beBytes_length _ _; have g2 : ∀ n, (beBytes n 2).length = 2 := fun n => beBytes_length _ _
      rw [g1, g2]
      omega
    rw [List.flatMap_cons, List.length_append, h3]; simp only [sizeT]
    omega
theorem encB_le14 : ∀ (l : List BatR), (∀ x ∈ l, x.b.enc.length ≤ 14000) → (encB l).length ≤ 14000 * l.length
  | [], _ => by simp [encB]
  | x :: t, h => by
    have h1 := encB_le14 t (fun y hy => h y (by simp [hy])); have h2 := h x (by simp); rw [encB_cons, List.length_append, List.length_cons]
    omega
structure GoodReq (nl : Bool) (dd : Bs) (ac tm : Int) (l : List PTop) : Prop where
  right : (⟨nl, dd⟩ : BlobS).right = true
  id : dd.length ≤ 32767
  hac : -1 ≤ ac ∧ ac ≤ 1
  htm : 0 ≤ tm ∧ tm < 2147483648
  few : l.length ≤ 1000000
  put : ∀ x ∈ l, PutT x
  wr : ∀ x ∈ l, WrT x
  bk : ∀ x ∈ l, BkT x
  len : (encPReq nl dd ac tm l).length ≤ 300000
set_option maxHeartbeats 2000000 in
theorem GoodReq.of {nl : Bool} {dd : Bs} {ac tm v : Int} {l : List PTop} (he : errReq ⟨nl, dd⟩ ac tm v l = 0) (hf : ∀ x ∈ l, FewT20 x) (hs : ∀ x ∈ l, SmT x) (hz : ∀ j, j ≤ l.length → AllP (l.take j) → j = 0 ∨ dd.length + sizeT (l.take j) ≤ 2000) : GoodReq nl dd ac tm l := by
 unfold errReq at he
 by_cases h1 : (⟨nl, dd⟩ : BlobS).right = false ∨ ((⟨nl, dd⟩ : BlobS).null = false ∧ keyRight (⟨nl, dd⟩ : BlobS).data = false)
 · rw [if_pos h1] at he; cases he
 rw [if_neg h1] at he
 by_cases h2 : ac < -1 ∨ 1 < ac ∨ tm < 0 ∨ 2147483647 < tm
 · rw [if_pos h2] at he; cases he
 rw [if_neg h2] at he
 by_cases h3 : errTops l = 0
 rotate_left
 · rw [if_pos h3] at he; exact absurd he h3
 rw [if_neg (by simp [h3])] at he; have hr : (⟨nl, dd⟩ : BlobS).right = true := by cases hh : (⟨nl, dd⟩ : BlobS).right with | true => rfl | false => exact absurd (.inl hh) h1
 have h0 : l.length ≠ 0 := fun hh => by unfold errTops at h3; rw [if_pos hh] at h3; cases h3
 have ht : errT [] l = 0 := by unfold errTops at h3; rw [if_neg h0] at h3; exact h3
 have hT := errT_all l [] ht
 have hsz : dd.length + sizeT l ≤ 2000 := by
  rcases hz l.length (Nat.le_refl _) (by rw [List.take_length]; exact fun x hx => (hT x hx).1) with h | h
  · exact absurd h h0
  · rwa [List.take_length] at h
 have hP := errPT_all (!nl) v l he; have hbat : ∀ x ∈ l, ∀ y ∈ x.l, ∀ z ∈ y.l, batErr z.b = 0 := fun x hx y hy z hz => errBs_all _ y.l (errPs_all _ _ x.l (hP x hx) y hy) z hz
 have hfit : ∀ x ∈ l, ∀ y ∈ x.l, ∀ z ∈ y.l, z.Fit := fun x hx y hy z hz => ((hf x hx).parts y hy).fit z hz
 have hlen : ∀ x ∈ l, x.name.length ≤ 2000 ∧ x.l.length ≤ 200 ∧ ∀ y ∈ x.l, y.l.length ≤ 20 := fun x hx => by
  have g1 := sizeT_mem l x hx; have g2 := sizeP_len x.l; refine ⟨by omega, by omega, fun y hy => ?_⟩; have g3 := sizeP_mem x.l y hy
  omega
 have hput : ∀ x ∈ l, PutT x := fun x hx => ⟨by have := (hlen x hx).1; omega, by have := (hlen x hx).2.1; omega, fun y hy =>
  ⟨(hlen x hx).2.2 y hy, hfit x hx y hy, fun z hz => hs x hx y hy z hz, errB_zero y.l (hbat x hx y hy), by have := riseP_mem x.l (-1) (hT x hx).2.2 y hy; omega⟩⟩
 have hso : ∀ x ∈ l, ∀ y ∈ x.l, ∀ z ∈ y.l, SmallOk z.b := fun x hx y hy z hz => BatR.small (hfit x hx y hy z hz) (hs x hx y hy z hz) (hbat x hx y hy z hz)
 have hl14 := encPTops_le l (fun x hx y hy => encB_le14 y.l (fun z hz => BatR.elen (hfit x hx y hy z hz) (hs x hx y hy z hz))); have hl10 := sizeT_len l; refine ⟨hr, by omega, by omega, by omega, by omega, hput, fun x hx => ⟨by have := (hlen x hx).1; omega, fun y hy => ⟨by have := ((hput x hx).parts y hy).idx; omega, fun z hz => ⟨(hfit x hx y hy z hz).2.2, EncOk.small (hso x hx y hy z hz)⟩⟩⟩, fun x hx => ⟨by have := (hlen x hx).1; omega, by have := (hlen x hx).2.1; omega, fun y hy => ⟨by have := ((hput x hx).parts y hy).idx; omega, by have := ((hput x hx).parts y hy).len; omega, hso x hx y hy⟩⟩, ?_⟩
 have e : (encPReq nl dd ac tm l).length = 12 + dd.length + (l.flatMap encPTop).length := by
  unfold encPReq encF; simp only [List.length_append]; have g1 : (beBytes (l.length : Int) (4 : Int).toNat).length = 4 := beBytes_length _ _; have g2 : ∀ n, (beBytes n 2).length = 2 := fun n => beBytes_length _ _
  have g3 : (beBytes tm (4 : Int).toNat).length = 4 := beBytes_length _ _; have g4 : (beBytes ac (2 : Int).toNat).length = 2 := beBytes_length _ _; rw [g1, g2, g3, g4]
  omega
 rw [e]
 omega

end Go.Proofs.YtnnnglklgofabaaGreat
namespace Go.Proofs
open Go.Shelf

def Tryz.laysM143_ren : Go.Shelf.Ren := ⟨fun | 143 => 26 | 219 => 61 | 217 => 95 | 225 => 96 | 224 => 97 | 267 => 98 | 266 => 131 | 314 => 132 | n => n, fun | 9 => 9 | 3 => 3 | 4 => 4 | 5 => 5 | 46 => 138 | 146 => 189 | 51 => 144 | n => n, fun | 1 => 0 | n => n⟩
theorem Tryz.laysM143 : Go.Proofs.LaysM.n143 Tryz.prog Tryz.laysM143_ren := {
  mixed := by kernel_rfl
  f143 := Tryz.func26.trans (congrArg some (by kernel_rfl))
  f217 := Tryz.func95.trans (congrArg some (by kernel_rfl))
  f219 := Tryz.func61.trans (congrArg some (by kernel_rfl))
  f224 := Tryz.func97.trans (congrArg some (by kernel_rfl))
  f225 := Tryz.func96.trans (congrArg some (by kernel_rfl))
  f266 := Tryz.func131.trans (congrArg some (by kernel_rfl))
  f267 := Tryz.func98.trans (congrArg some (by kernel_rfl))
  f314 := Tryz.func132.trans (congrArg some (by kernel_rfl))
  t3 := Tryz.underlying3
  a3 := Tryz.isAgg3
  z3 := Tryz.sizeOf3
  v3 := Tryz.zeroValue3
  t4 := Tryz.underlying4
  a4 := Tryz.isAgg4
  z4 := Tryz.sizeOf4
  v4 := Tryz.zeroValue4
  t5 := Tryz.underlying5
  a5 := Tryz.isAgg5
  z5 := Tryz.sizeOf5
  v5 := Tryz.zeroValue5
  t9 := Tryz.underlying9
  a9 := Tryz.isAgg9
  z9 := Tryz.sizeOf9
  v9 := Tryz.zeroValue9
  t46 := Tryz.underlying138
  a46 := Tryz.isAgg138
  z46 := Tryz.sizeOf138
  v46 := Tryz.zeroValue138
  t51 := Tryz.underlying144
  a51 := Tryz.isAgg144
  z51 := Tryz.sizeOf144
  v51 := Tryz.zeroValue144
  t146 := Tryz.underlying189
  a146 := Tryz.isAgg189
  z146 := Tryz.sizeOf189
  v146 := Tryz.zeroValue189
  g1 := by kernel_rfl
  i3 := by kernel_rfl
  i4 := by kernel_rfl
  i5 := by kernel_rfl
  i9 := by kernel_rfl
  i46 := by kernel_rfl
  i51 := by kernel_rfl
  i146 := by kernel_rfl
  m1 := by kernel_rfl
  s1_3 := fun w h => Go.Proofs.cell_of_shapedOpen_int (zero := #[.int .i64 0]) (t := 3) h (of_decide_eq_true (by kernel_rfl)) (by kernel_rfl) rfl (by kernel_rfl) (by kernel_rfl) Tryz.underlying3 }

end Go.Proofs
namespace Go.Proofs.YtnnnglklgofabaaGreat
open Go.RowKit

theorem strIndex_any (s sub : ByteArray) (m : Int) (w : World) (hs : s.size < 4294967281) (hm : w.cell? ⟨0, 0, none⟩ = some (.int .i64 m)) :
  Calls Tryz.prog 26 #[.string s, .string sub] w fun e w' => e = .returned (.int .i64 (Lib.index s.data.toList sub.data.toList)) ∧ w' = w :=
 Any.strings_Index (ρ := Tryz.laysM143_ren) { Tryz.laysM143 with } s sub m w hs hm
theorem maxLen_start {w : World} (h : w.ShapedOpen Tryz.prog) : ∃ m, w.cell? ⟨0, 0, none⟩ = some (.int .i64 m) := Tryz.laysM143.s1_3 w h

end Go.Proofs.YtnnnglklgofabaaGreat
namespace Go.Proofs.YtnnnglklgofabaaGreat
open Go.RowKit

def Know.maxLen : Know where
  p w F := F 0 ∧ ∃ m, w.cell? ⟨0, 0, Option.none⟩ = some (.int .i64 m)
  keep w w' F h hs hk := ⟨h.1, by
    obtain ⟨h1, m, h2⟩ := h; refine ⟨m, ?_⟩; unfold World.cell? at h2 ⊢
    by_cases hl : 0 < w.heap.size
    · rw [hk _ hl h1]; exact h2
    · rw [Array.getElem?_eq_none (by omega)] at h2; cases h2⟩
  mono w F F' h hs := ⟨hs _ h.1, h.2⟩
theorem s_index (s x u : Bs) (r : Int) (hu : u = s) (hr : Lib.index s x = r) (hs : s.length ≤ 1000000) {W0 w : World} {K : Know} {L : List Res} (hk : K.has Know.maxLen) (h : St W0 w K L) :
  Calls Tryz.prog 26 #[.string (bb u), .string (bb x)] w fun en w' => en = .returned (.int .i64 r) ∧ St W0 w' K L := by
 subst hu; obtain ⟨F, hF, _⟩ := h.get; obtain ⟨_, m, hm⟩ := hk _ _ hF; have h2 := strIndex_any (bb u) (bb x) m w (by show u.toArray.size < _; simp; omega) hm; rw [show (bb u).data.toList = u by simp, show (bb x).data.toList = x by simp, hr] at h2; exact h2.mono fun _ _ ⟨a, b⟩ => ⟨a, b ▸ h⟩
theorem marks_check_n {W0 w : World} {K : Know} {L : List Res} (h : St W0 w K L) : Calls Tryz.prog 23 #[.slice none 0 0, .int .i64 0] w fun en w' => en = .returned (.int .i64 10) ∧ St W0 w' K L :=
 marks_check 0 [] none 0 10 (by kernel_rfl) (fun x hx => by cases hx) (by decide) (fun w F hh => ⟨⟨Option.none, 0, rfl, fun h => absurd h (by simp)⟩, fun x hx => by cases hx⟩) h
theorem St.szEx {W0 w : World} {K : Know} {L : List Res} (_ : St W0 w K L) : ∃ b, w.heap.size = b := ⟨_, rfl⟩
theorem ww_textE (p : Nat) (o : Bs) (r : Int) (h0 : r ≠ 0) {W0 w : World} {K : Know} {L : List Res} (h : St W0 w K (.out p ⟨o, r⟩ :: L)) :
  Calls Tryz.prog 9 #[outPtr p] w fun en w' => en = .returned (.tuple #[.string ⟨#[]⟩, .int .i64 r]) ∧ St W0 w' K (.out p ⟨o, r⟩ :: L) := by
 have h2 := so_text p ⟨o, r⟩ h; unfold OutS.text at h2; simp only [if_neg h0] at h2; exact h2
theorem encM_short1 (m : MarkS) (h : topWs m.tops ≤ 1000) : (encM 1 m).length ≤ 2000 := by
 have h8 := beBytes_length m.prod (8 : Int).toNat; have h2 := beBytes_length m.epoch (2 : Int).toNat
 have h4 : (encTs m.tops).length = 4 + topWs m.tops := by
  have : ∀ l : List TopS, (l.flatMap encT).length = topWs l := by
   intro l
   induction l with
   | nil => rfl
   | cons x t ih => rw [List.flatMap_cons, List.length_append, ih, encT_len]; unfold topWs topW; rw [List.map_cons, List.sum_cons]; omega
  unfold encTs; rw [List.length_append, beBytes_length, this]
 have h1 : (encO m.commit).length = 1 := by unfold encO; cases m.commit <;> rfl
 have h5 := beBytes_length m.coord (4 : Int).toNat; have e8 : (8 : Int).toNat = 8 := rfl; have e2 : (2 : Int).toNat = 2 := rfl; have e4 : (4 : Int).toNat = 4 := rfl; unfold encM; rw [if_pos rfl]; simp only [List.length_append]
 omega
theorem fit01 {l : List MarkR} (hw : ∀ x ∈ l, topWs x.m.tops ≤ 1000) (hf : ∀ x ∈ l, x.Fit) (hE : marksErr 1 (l.map MarkR.m) = 0) : ∀ x ∈ l, FitTs x.m.tops ∧ (encM 1 x.m).length ≤ 2000 := fun x hx => by
  have he := (marksErr_ok hE).2 x.m (List.mem_map_of_mem hx); have hri := riseE_ok (mErr_ok (show mErr 1 x.m.prod x.m.epoch x.m.tops x.m.coord = 0 from he)).2.2.2; have h1 := fit_of_rise x.l (hf x hx).2.1 (by rw [(hf x hx).1]; exact hri); rw [(hf x hx).1] at h1; exact ⟨h1, encM_short1 x.m (hw x hx)⟩
theorem encMs_long (v : Int) (l : List MarkS) : 4 ≤ (encMs v l).length := by
 unfold encMs; rw [List.length_append, beBytes_length]
 show 4 ≤ 4 + _
 omega
theorem few01_fit {l : List MarkR} (hw : fewMs (l.map MarkR.m) = 1) (hq : ∀ x ∈ l, x.l.map (·.1) = x.m.tops ∧ x.m.R) : l.length ≤ 20 ∧ (∀ x ∈ l, topWs x.m.tops ≤ 1000) ∧ ∀ x ∈ l, x.Fit := by
 have hn : l.length ≤ 20 := by
  by_cases h20 : 20 < (l.map MarkR.m).length
  · unfold fewMs at hw; rw [if_pos h20] at hw
    cases hw
  · rw [List.length_map] at h20; omega
 have hg : ∀ x ∈ l, topWs x.m.tops ≤ 1000 := by
  unfold fewMs at hw; rw [if_neg (by rw [List.length_map]; omega)] at hw; exact fun x hx => fewG_mem hw x.m (List.mem_map_of_mem hx)
 refine ⟨hn, hg, fun x hx => ?_⟩; obtain ⟨h1, h3⟩ := hq x hx; exact ⟨h1, few_T (by rw [h1]; exact hg x hx), h3⟩

end Go.Proofs.YtnnnglklgofabaaGreat
namespace Go.Proofs.YtnnnglklgofabaaGreat
open Go.RowKit

set_option maxHeartbeats 8000000 in
set_option maxRecDepth 100000 in
theorem ww_few0 (nl : Bool) (dd : Bs) (ac tm : Int) (l : List PTop) (q : Option Addr) (cap : Nat) (lm : List MarkR) (q2 : Option Addr) (cap2 : Nat) (e : Int) (he : errReq ⟨nl, dd⟩ ac tm 4 l = e) (hd1 : dd.length ≤ 140737488351232) (hl1 : l.length ≤ 3518437208780) (hf1 : ∀ x ∈ l, FewT20 x) (hnl : lm.length ≤ 140737488351232) (hb : ∀ x ∈ lm, x.l.map (·.1) = x.m.tops ∧ x.l.length ≤ 140737488351232 ∧ ∀ y ∈ x.l, y.1.name.length ≤ 140737488351232 ∧ y.1.parts.length ≤ 17592186043904) (hmr : ∀ x ∈ lm, x.m.R) {W0 w : World} {K : Know} (hk : K.has (Know.ptops (.slice q l.length cap) l)) (hkm : K.has (Know.marks (.slice q2 lm.length cap2) lm)) (hkx : K.has Know.maxLen) (h : St W0 w K []) (hw : fewMs (lm.map MarkR.m) = 0) :
  Calls Tryz.prog 5 #[.agg #[.bool nl, .string (bb dd), .int .i64 ac, .int .i64 tm, .slice q l.length cap], .slice q2 lm.length cap2] w fun en w' => en = .returned (.bool true) ∧ Below W0.heap.size W0 w' := by
 obtain ⟨rq, hrq⟩ : ∃ b, w.heap.size = b := ⟨_, rfl⟩; have h0 := h.allocRaw #[.bool nl, .string (bb dd), .int .i64 ac, .int .i64 tm, .slice q l.length cap] 26; rw [hrq] at h0; have z0 := (h0).rawCell 0; have z1 := (h0).rawCell 1; have z2 := (h0).rawCell 2; have z3 := (h0).rawCell 3; have z4 := (h0).rawCell 4; simp at z0 z1 z2 z3 z4; have H := Lib.hid h0; have HK := Lib.hid hk; have HKM := Lib.hid hkm; have HKX := Lib.hid hkx; have HD1 := Lib.hid hd1; have HLT := Lib.hid hl1; have HFT := Lib.hid hf1; have HNL := Lib.hid hnl; have HFB := Lib.hid hb; have HMR := Lib.hid hmr; have HER := Lib.hid he; have HFL := Lib.hid (show ∀ x ∈ l, x.l.length ≤ 4398046511104 from fun x hx => (hf1 x hx).len)
 have HKP := Lib.hid (show ∀ (K' : Know) w', St W0 w' K' [.raw rq #[.bool nl, .string (bb dd), .int .i64 ac, .int .i64 tm, .slice q l.length cap] 26] → (w'.cell? ⟨rq, 0, none⟩ = some (.bool nl) ∧ w'.cell? ⟨rq, 1, none⟩ = some (.string (bb dd)) ∧ w'.cell? ⟨rq, 2, none⟩ = some (.int .i64 ac) ∧ w'.cell? ⟨rq, 3, none⟩ = some (.int .i64 tm) ∧ w'.cell? ⟨rq, 4, none⟩ = some (.slice q l.length cap)) from fun K' w' hs => by
  have a0 := hs.rawCell 0; have a1 := hs.rawCell 1; have a2 := hs.rawCell 2; have a3 := hs.rawCell 3; have a4 := hs.rawCell 4; simp at a0 a1 a2 a3 a4
  exact ⟨a0, a1, a2, a3, a4⟩)
 clear h h0 hk hkm hkx hd1 hl1 hf1 hnl hb hmr he; have HFW := Lib.hid hw; clear hw; go_enter Tryz.func5, Tryz.ntmps5
 go_upto_region 4 with (first
  | (go_at_call 22; (try clear z0 z1 z2 z3 z4); (with_reducible refine (top_none H.out).mono ?_); rintro e_ wn ⟨sN, rfl, h⟩; have h := h.alloc (.cells #[.int .i64 0, .int .i64 0, .bool false, .bool false, .bool false, .int .i64 0, .int .i64 0, .int .i64 0, .int .i64 (-1), .int .i64 (-1), .int .i64 (-1), .slice none 0 0] 58 (0, 0)); have z0 := (h).rawCell 0; have z1 := (h).rawCell 1; have z2 := (h).rawCell 2; have z3 := (h).rawCell 3; have z4 := (h).rawCell 4; simp at z0 z1 z2 z3 z4; replace H := Lib.hid h; clear h)
  | (go_at_call 23; (try clear z0 z1 z2 z3 z4); (with_reducible refine (marks_check_n H.out).mono ?_); rintro e_ wn ⟨rfl, h⟩; have z0 := (h).rawCell 0; have z1 := (h).rawCell 1; have z2 := (h).rawCell 2; have z3 := (h).rawCell 3; have z4 := (h).rawCell 4; simp at z0 z1 z2 z3 z4; replace H := Lib.hid h; clear h))
 go_cut [46] (fun s wx => s = .bool true ∧ St W0 wx K [.raw rq #[.bool nl, .string (bb dd), .int .i64 ac, .int .i64 tm, .slice q l.length cap] 26])
 case first =>
  go_wp2_with (first
  | (go_at_call 7; (try clear z0 z1 z2 z3 z4); (with_reducible refine (few20 nl dd ac tm l q cap HD1.out HLT.out HFT.out HK.out H.out).mono ?_); rintro e_ wn ⟨f1, rfl, hf1, h⟩; have z0 := (h).rawCell 0; have z1 := (h).rawCell 1; have z2 := (h).rawCell 2; have z3 := (h).rawCell 3; have z4 := (h).rawCell 4; simp at z0 z1 z2 z3 z4; replace H := Lib.hid h; clear h; have HFR := Lib.hid hf1; (rcases hf1 with h9 | ⟨h9, hsm, hsz, h8⟩ <;> subst h9); rotate_left; have HC2 := Lib.hid (show ∀ x ∈ l, CkT2 x from fun x hx => (few_ckT HFT.out hsm x hx).2); have HRF := Lib.hid (few_rise hsz); clear hsm hsz h8; rotate_left)
  | (go_at_call 24; (try clear z0 z1 z2 z3 z4); (with_reducible refine (law19_few lm q2 cap2 HNL.out HFB.out _ HFW.out HKM.out H.out).mono ?_); rintro e_ wn ⟨rfl, h⟩; have z0 := (h).rawCell 0; have z1 := (h).rawCell 1; have z2 := (h).rawCell 2; have z3 := (h).rawCell 3; have z4 := (h).rawCell 4; simp at z0 z1 z2 z3 z4; replace H := Lib.hid h; clear h))
  all_goals (go_meet; exact ⟨rfl, H.out⟩)
 obtain ⟨rfl, h⟩ := hcut; clear H; have H := Lib.hid h; clear h; go_wp2; go_ret; exact ⟨rfl, H.out.below⟩

end Go.Proofs.YtnnnglklgofabaaGreat
namespace Go.Proofs.YtnnnglklgofabaaGreat
open Go.RowKit

set_option maxHeartbeats 8000000 in
set_option maxRecDepth 100000 in
theorem ww_main (nl : Bool) (dd : Bs) (ac tm : Int) (l : List PTop) (q : Option Addr) (cap : Nat) (lm : List MarkR) (q2 : Option Addr) (cap2 : Nat) (e : Int) (he : errReq ⟨nl, dd⟩ ac tm 4 l = e) (hd1 : dd.length ≤ 140737488351232) (hl1 : l.length ≤ 3518437208780) (hf1 : ∀ x ∈ l, FewT20 x) (hnl : lm.length ≤ 140737488351232) (hb : ∀ x ∈ lm, x.l.map (·.1) = x.m.tops ∧ x.l.length ≤ 140737488351232 ∧ ∀ y ∈ x.l, y.1.name.length ≤ 140737488351232 ∧ y.1.parts.length ≤ 17592186043904) (hmr : ∀ x ∈ lm, x.m.R) {W0 w : World} {K : Know} (hk : K.has (Know.ptops (.slice q l.length cap) l)) (hkm : K.has (Know.marks (.slice q2 lm.length cap2) lm)) (hkx : K.has Know.maxLen) (h : St W0 w K []) (hw : fewMs (lm.map MarkR.m) = 1) (r : Int) (hr : marksErr 1 (lm.map MarkR.m) = r) :
  Calls Tryz.prog 5 #[.agg #[.bool nl, .string (bb dd), .int .i64 ac, .int .i64 tm, .slice q l.length cap], .slice q2 lm.length cap2] w fun en w' => en = .returned (.bool true) ∧ Below W0.heap.size W0 w' := by
 obtain ⟨rq, hrq⟩ : ∃ b, w.heap.size = b := ⟨_, rfl⟩; have h0 := h.allocRaw #[.bool nl, .string (bb dd), .int .i64 ac, .int .i64 tm, .slice q l.length cap] 26; rw [hrq] at h0; have z0 := (h0).rawCell 0; have z1 := (h0).rawCell 1; have z2 := (h0).rawCell 2; have z3 := (h0).rawCell 3; have z4 := (h0).rawCell 4; simp at z0 z1 z2 z3 z4; have H := Lib.hid h0; have HK := Lib.hid hk; have HKM := Lib.hid hkm; have HKX := Lib.hid hkx; have HD1 := Lib.hid hd1; have HLT := Lib.hid hl1; have HFT := Lib.hid hf1; have HNL := Lib.hid hnl; have HFB := Lib.hid hb; have HMR := Lib.hid hmr; have HER := Lib.hid he; have HFL := Lib.hid (show ∀ x ∈ l, x.l.length ≤ 4398046511104 from fun x hx => (hf1 x hx).len)
 have HKP := Lib.hid (show ∀ (K' : Know) w', St W0 w' K' [.raw rq #[.bool nl, .string (bb dd), .int .i64 ac, .int .i64 tm, .slice q l.length cap] 26] → (w'.cell? ⟨rq, 0, none⟩ = some (.bool nl) ∧ w'.cell? ⟨rq, 1, none⟩ = some (.string (bb dd)) ∧ w'.cell? ⟨rq, 2, none⟩ = some (.int .i64 ac) ∧ w'.cell? ⟨rq, 3, none⟩ = some (.int .i64 tm) ∧ w'.cell? ⟨rq, 4, none⟩ = some (.slice q l.length cap)) from fun K' w' hs => by
  have a0 := hs.rawCell 0; have a1 := hs.rawCell 1; have a2 := hs.rawCell 2; have a3 := hs.rawCell 3; have a4 := hs.rawCell 4; simp at a0 a1 a2 a3 a4
  exact ⟨a0, a1, a2, a3, a4⟩)
 clear h h0 hk hkm hkx hd1 hl1 hf1 hnl hb hmr he; have HFW := Lib.hid hw; have HRR := Lib.hid hr; clear hw hr; go_enter Tryz.func5, Tryz.ntmps5
 go_upto_region 4 with (first
  | (go_at_call 22; (try clear z0 z1 z2 z3 z4); (with_reducible refine (top_none H.out).mono ?_); rintro e_ wn ⟨sN, rfl, h⟩; have h := h.alloc (.cells #[.int .i64 0, .int .i64 0, .bool false, .bool false, .bool false, .int .i64 0, .int .i64 0, .int .i64 0, .int .i64 (-1), .int .i64 (-1), .int .i64 (-1), .slice none 0 0] 58 (0, 0)); have z0 := (h).rawCell 0; have z1 := (h).rawCell 1; have z2 := (h).rawCell 2; have z3 := (h).rawCell 3; have z4 := (h).rawCell 4; simp at z0 z1 z2 z3 z4; replace H := Lib.hid h; clear h)
  | (go_at_call 23; (try clear z0 z1 z2 z3 z4); (with_reducible refine (marks_check_n H.out).mono ?_); rintro e_ wn ⟨rfl, h⟩; have z0 := (h).rawCell 0; have z1 := (h).rawCell 1; have z2 := (h).rawCell 2; have z3 := (h).rawCell 3; have z4 := (h).rawCell 4; simp at z0 z1 z2 z3 z4; replace H := Lib.hid h; clear h))
 go_cut [46] (fun s wx => ∃ b : Bool, s = .bool b ∧ Hid (b = false → FewR dd.length l 1 ∧ e = 0) ∧ St W0 wx K [.raw rq #[.bool nl, .string (bb dd), .int .i64 ac, .int .i64 tm, .slice q l.length cap] 26])
 case first =>
  go_wp2_with (first
  | (go_at_call 7; (try clear z0 z1 z2 z3 z4); (with_reducible refine (few20 nl dd ac tm l q cap HD1.out HLT.out HFT.out HK.out H.out).mono ?_); rintro e_ wn ⟨f1, rfl, hf1, h⟩; have z0 := (h).rawCell 0; have z1 := (h).rawCell 1; have z2 := (h).rawCell 2; have z3 := (h).rawCell 3; have z4 := (h).rawCell 4; simp at z0 z1 z2 z3 z4; replace H := Lib.hid h; clear h; have HFR := Lib.hid hf1; (rcases hf1 with h9 | ⟨h9, hsm, hsz, h8⟩ <;> subst h9); rotate_left; have HC2 := Lib.hid (show ∀ x ∈ l, CkT2 x from fun x hx => (few_ckT HFT.out hsm x hx).2); have HRF := Lib.hid (few_rise hsz); clear hsm hsz h8; rotate_left)
  | (go_at_call 24; (try clear z0 z1 z2 z3 z4); (with_reducible refine (law19_few lm q2 cap2 HNL.out HFB.out _ HFW.out HKM.out H.out).mono ?_); rintro e_ wn ⟨rfl, h⟩; have z0 := (h).rawCell 0; have z1 := (h).rawCell 1; have z2 := (h).rawCell 2; have z3 := (h).rawCell 3; have z4 := (h).rawCell 4; simp at z0 z1 z2 z3 z4; replace H := Lib.hid h; clear h)
  | (go_at_call 11; (try clear z0 z1 z2 z3 z4); (with_reducible refine (of20 nl dd ac tm l q cap HLT.out HFL.out HK.out H.out).mono ?_); rintro e_ wn ⟨qa, ca, ma, Ka, rfl, hma, hka, hkma, h⟩; have z0 := (h).rawCell 0; have z1 := (h).rawCell 1; have z2 := (h).rawCell 2; have z3 := (h).rawCell 3; have z4 := (h).rawCell 4; simp at z0 z1 z2 z3 z4; have HMa := Lib.hid hma; have HMKa := Lib.hid hkma; have HKa := Lib.hid hka; clear hma hka hkma; replace H := Lib.hid h; clear h)
  | (go_at_call 10; (try clear z0 z1 z2 z3 z4); (with_reducible refine (ref20_check nl dd ac tm _ ma qa ca (ckT2_nl HMa.out HC2.out) (riseFew_nl HMa.out HRF.out) (Nat.le_trans (Nat.le_of_eq (nl_len HMa.out)) HLT.out) e ((errReq_pt ⟨nl, dd⟩ ac tm _ (nl_pt HMa.out)).trans HER.out) HMKa.out H.out).mono ?_); rintro e_ wn ⟨rfl, h⟩; have h := h.know HKa.out; have z0 := (h).rawCell 0; have z1 := (h).rawCell 1; have z2 := (h).rawCell 2; have z3 := (h).rawCell 3; have z4 := (h).rawCell 4; simp at z0 z1 z2 z3 z4; replace H := Lib.hid h; clear h))
  · go_meet; exact ⟨true, rfl, Lib.hid (fun h => by cases h), H.out⟩
  · go_meet; exact ⟨e != 0, rfl, Lib.hid (fun h => ⟨HFR.out, by simpa using h⟩), H.out⟩
 obtain ⟨b, rfl, HB, h⟩ := hcut; clear H
 cases b with
 | true =>
  have H := Lib.hid h; clear h; go_wp2; go_ret; exact ⟨rfl, H.out.below⟩
 | false =>
  obtain ⟨hfr, rfl⟩ := HB.out rfl
  rcases hfr with h1 | ⟨_, hsm, hsz, _⟩
  · cases h1
  have HDX := Lib.hid (show dd.length ≤ 140737488355328 by have := HD1.out; omega); have HCK := Lib.hid (show ∀ x ∈ l, CkT x from fun x hx => (few_ckT HFT.out hsm x hx).1); obtain ⟨S, hS⟩ : ∃ S, encPReq nl dd ac tm l = S := ⟨_, rfl⟩; have hG := GoodReq.of HER.out HFT.out hsm hsz; have HG := Lib.hid hG; have hlen := hG.len; rw [hS] at hlen; have HS0 := Lib.hid (show [] ++ encPReq nl dd ac tm l = S by rw [List.nil_append]; exact hS); have HS9 := Lib.hid (show S.length ≤ 9000000 by omega); have HSM := Lib.hid (show S.length ≤ 1000000 by omega); have HLK := Lib.hid hG.few; have HAC := Lib.hid (show -32768 ≤ ac ∧ ac < 32768 by have := hG.hac; omega); have HPT := Lib.hid hG.put; have HOC := Lib.hid (show Occ (l.flatMap partBs) S by rw [← hS]; exact occ_req nl dd ac tm l); obtain ⟨hn20, hg19, hfit⟩ := few01_fit HFW.out (fun x hx => ⟨(HFB.out x hx).1, HMR.out x hx⟩); have HMF := Lib.hid hfit; have HMN := Lib.hid hn20; have HMG := Lib.hid hg19; have hli : (l.length : Int) ≤ 1000000 := by have := hG.few; omega
  have hsi : (S.length : Int) ≤ 300000 := by omega
  obtain ⟨po, hpo⟩ := h.szEx; obtain ⟨p2, hp2⟩ : ∃ b, po + 1 = b := ⟨_, rfl⟩; have h := h.allocOut.allocOut; simp only [World.size_alloc, hpo, hp2] at h; have z0 := (h.p2).rawCell 0; have z1 := (h.p2).rawCell 1; have z2 := (h.p2).rawCell 2; have z3 := (h.p2).rawCell 3; have z4 := (h.p2).rawCell 4; simp at z0 z1 z2 z3 z4; have H := Lib.hid h; clear h hsm hsz hG hlen hS hn20 hg19 hfit HB hrq
  go_wp2_with (first
  | (go_at_call 8; (try clear z0 z1 z2 z3 z4); (with_reducible refine (preq_write_ok po [] nl dd ac tm _ l q cap HDX.out HCK.out HLK.out HER.out S HS0.out HS9.out HG.out.right HG.out.id HAC.out HG.out.htm HG.out.put HK.out H.out.p1).mono ?_); rintro e_ wn ⟨rfl, h⟩; replace H := Lib.hid h; clear h)
  | (go_at_call 9; (try clear z0 z1 z2 z3 z4); (with_reducible refine (pso_text po S H.out).mono ?_); rintro e_ wn ⟨rfl, h⟩; have h := h.p1; have z0 := (h.p2).rawCell 0; have z1 := (h.p2).rawCell 1; have z2 := (h.p2).rawCell 2; have z3 := (h.p2).rawCell 3; have z4 := (h.p2).rawCell 4; simp at z0 z1 z2 z3 z4; replace H := Lib.hid h; clear h))
  go_loopw [58, 12] (fun iv av wr => ∃ k n : Nat, k ≤ l.length ∧ n ≤ S.length ∧ iv = .int .i64 k ∧ av = .int .i64 n ∧ Hid (Occ ((l.drop k).flatMap partBs) (S.drop n)) ∧ St W0 wr K [.out p2 ⟨[], 0⟩, .out po ⟨S, 0⟩, .raw rq #[.bool nl, .string (bb dd), .int .i64 ac, .int .i64 tm, .slice q l.length cap] 26]) (fun iv _ _ => l.length - (intOf iv).toNat)
  case atStart => exact ⟨0, 0, Nat.zero_le _, Nat.zero_le _, rfl, rfl, Lib.hid (by rw [List.drop_zero, List.drop_zero]; exact HOC.out), H.out⟩
  case round =>
    obtain ⟨k, n, hkl, hnl2, rfl, rfl, HO, hst⟩ := hrel; clear H z0 z1 z2 z3 z4; have H := Lib.hid hst; clear hst
    by_cases hlt : k < l.length
    · obtain ⟨bk, off, hqq⟩ := ptops_at HK.out H.out (by omega); obtain ⟨x, hx⟩ : ∃ x, l[k] = x := ⟨_, rfl⟩; have hmem : x ∈ l := hx ▸ List.getElem_mem hlt; have hpt := HPT.out x hmem; have hll := (HFT.out x hmem).len; have HK' := HK.out; rw [hqq] at HK'; obtain ⟨c0, c1⟩ := ptops_cell HK' H.out k hlt x hx; have HXK0 := ptops_parts HK.out hmem; have hkn : (k : Int) < (l.length : Int) := by omega
      have HO1 := Lib.hid (show Occ ((x.l.drop 0).map (fun p => encB p.l) ++ (l.drop (k + 1)).flatMap partBs) (S.drop n) by
        have := HO.out; rw [List.drop_eq_getElem_cons hlt, hx, List.flatMap_cons] at this
        exact this)
      obtain ⟨nm, xl, xq, xcap⟩ := x; simp only at c0 c1 HXK0 HO1; have HXK := Lib.hid HXK0; have HPP := Lib.hid (show ∀ y ∈ xl, PutP y from hpt.parts); have hxl : xl.length ≤ 4398046511104 := hll; have hxi : (xl.length : Int) ≤ 4398046511104 := by omega
      have HS := Lib.hid (H.out.alloc (.cells #[.string (bb nm), .slice xq xl.length xcap] 65 (0, 0))); have hqs := hqq; subst hqs; clear hqq hx hmem hpt hll HK' HXK0 HO hxl; go_wp2_with fail; go_loopw [65, 12] (fun jv av wr => ∃ j n : Nat, j ≤ xl.length ∧ n ≤ S.length ∧ jv = .int .i64 j ∧ av = .int .i64 n ∧ Hid (Occ ((xl.drop j).map (fun p => encB p.l) ++ (l.drop (k + 1)).flatMap partBs) (S.drop n)) ∧ St W0 wr K [.out p2 ⟨[], 0⟩, .out po ⟨S, 0⟩, .raw rq #[.bool nl, .string (bb dd), .int .i64 ac, .int .i64 tm, .slice (some ⟨bk, off, none⟩) l.length cap] 26]) (fun jv _ _ => xl.length - (intOf jv).toNat)
      case atStart => exact ⟨0, n, Nat.zero_le _, hnl2, rfl, rfl, HO1, HS.out⟩
      case round =>
        obtain ⟨j, m, hjl, hml, rfl, rfl, HO, hst⟩ := hrel; clear H HS c0 c1 HO1; have H := Lib.hid hst; clear hst
        by_cases hjt : j < xl.length
        · obtain ⟨pk, poff, hpq⟩ := pparts_at HXK.out H.out (by omega); subst hpq; obtain ⟨y, hy⟩ : ∃ y, xl[j] = y := ⟨_, rfl⟩; have hmem : y ∈ xl := hy ▸ List.getElem_mem hjt; have hpp := HPP.out y hmem; obtain ⟨d0, d1⟩ := pparts_cell HXK.out H.out j hjt y hy; have HYK0 := pparts_bats HXK.out hmem; have hjn : (j : Int) < (xl.length : Int) := by omega
          obtain ⟨x, hx⟩ : ∃ x, encB y.l = x := ⟨_, rfl⟩; obtain ⟨s2, hs2⟩ : ∃ s2, S.drop m = s2 := ⟨_, rfl⟩; have ho := HO.out; rw [List.drop_eq_getElem_cons hjt, List.map_cons, hy, hx, hs2] at ho; obtain ⟨i, hix, hil, ho2⟩ := Occ.next ho; have hsl : s2.length + m = S.length := by rw [← hs2, List.length_drop]; omega
          have hss := HSM.out; have HIX := Lib.hid hix; have HS2L := Lib.hid (show s2.length ≤ 1000000 by omega); have HX := Lib.hid (show allB y.l = (x, 0) by rw [allB_good hpp.err, hx]); have HU := Lib.hid (show List.take (S.length - m) (List.drop m S) = s2 by rw [List.take_of_length_le (by rw [List.length_drop]; exact Nat.le_refl _)]; exact hs2)
          have HO2 := Lib.hid (show Occ ((xl.drop (j + 1)).map (fun p => encB p.l) ++ (l.drop (k + 1)).flatMap partBs) (S.drop (m + (i + x.length))) by
           have e9 : S.drop (m + (i + x.length)) = s2.drop (i + x.length) := by rw [← hs2, List.drop_drop]
           rw [e9]; exact ho2)
          have hie : m + (i + x.length) ≤ S.length := by omega
          have e3 : IntKind.i64.wrap ((m : Int) + IntKind.i64.wrap ((i : Int) + (x.length : Int))) = ((m + (i + x.length) : Nat) : Int) := by
           rw [IntWalk.i64_in ((i : Int) + (x.length : Int)) (by omega), IntWalk.i64_in _ (by omega)]; omega
          obtain ⟨yi, yl, yq, ycap⟩ := y; simp only at d0 d1 HYK0 HX; have HYK := Lib.hid HYK0; have HFIT := Lib.hid (show ∀ x ∈ yl, x.Fit from hpp.fit); have HSMA := Lib.hid (show ∀ x ∈ yl, smallB (x.l.map (·.1)) = true from hpp.small); have HLL := Lib.hid (show yl.length ≤ 20 from hpp.few); have hmi : (m : Int) ≤ (S.length : Int) := by omega
          have hm0 : 0 ≤ (m : Int) := by omega
          have hi0 : ¬ (i : Int) < 0 := by omega
          have h := H.out.alloc (.cells #[.int .i64 yi, .slice yq yl.length ycap] 68 (0, 0)); clear H; have H := Lib.hid h; clear h hy hmem hpp HYK0 hx ho hix ho2 hs2
          go_wp2_with (first
  | (go_at_call 25; (with_reducible refine (bat_all yl yq ycap x 0 HX.out HFIT.out HSMA.out HLL.out HYK.out H.out).mono ?_); rintro e_ wn ⟨rfl, h⟩; replace H := Lib.hid h; clear h)
  | (go_at_call 26; (with_reducible refine (s_index s2 x _ _ (by first | rfl | exact HU.out) HIX.out HS2L.out HKX.out H.out).mono ?_); rintro e_ wn ⟨rfl, h⟩; replace H := Lib.hid h; clear h))
          go_roundw
          case rel => exact ⟨j + 1, m + (i + x.length), hjt, hie, by go_num, by first | rfl | exact congrArg (Value.int .i64) e3, HO2, H.out⟩
          case measure => first | (simp [intOf]; done) | (simp [intOf]; omega)
        · obtain rfl : j = xl.length := by omega
          go_wp2_with fail; go_roundw
          case rel => exact ⟨k + 1, m, hlt, hml, by go_num, rfl, Lib.hid (by have := HO.out; rw [List.drop_length] at this; exact this), H.out⟩
          case measure => first | (simp [intOf]; done) | (simp [intOf]; omega)
    · obtain rfl : k = l.length := by omega
      have HN6 := Lib.hid (show lm.length ≤ 1000000 by have := HMN.out; omega)
      by_cases h0 : r = 0
      · subst h0; obtain ⟨M, hM⟩ : ∃ M, encMs 1 (lm.map MarkR.m) = M := ⟨_, rfl⟩; have HM0 := Lib.hid (show [] ++ encMs 1 (lm.map MarkR.m) = M by rw [List.nil_append]; exact hM); have HF1 := Lib.hid (fit01 HMG.out HMF.out HRR.out); have hl4 := encMs_long 1 (lm.map MarkR.m); rw [hM] at hl4
        obtain ⟨c, M2, hc⟩ : ∃ c M2, M = c :: M2 := by
          cases M with
          | nil => simp at hl4
          | cons c M2 => exact ⟨c, M2, rfl⟩
        have mm1 : (M == []) = false := by rw [hc]; rfl
        have mm2 : (M != []) = true := by rw [hc]; rfl
        clear hM hl4 hc
        go_wp2_with (first
  | (go_at_call 27; (with_reducible refine (mark_write_ok p2 [] M 1 lm q2 cap2 HM0.out HRR.out HMF.out HF1.out HMN.out (by decide) HKM.out H.out).mono ?_); rintro e_ wn ⟨rfl, h⟩; replace H := Lib.hid h; clear h)
  | (go_at_call 9; (with_reducible refine (pso_text p2 M H.out).mono ?_); rintro e_ wn ⟨rfl, h⟩; replace H := Lib.hid h; clear h)
  | (go_at_call 23; (with_reducible refine (marks_check 1 lm q2 cap2 _ HRR.out HMF.out HN6.out HKM.out H.out).mono ?_); rintro e_ wn ⟨rfl, h⟩; replace H := Lib.hid h; clear h))
        go_ret; exact ⟨rfl, H.out.below⟩
      · have H0 := Lib.hid h0; have gr0 : (r == 0) = false := by rw [beq_eq_false_iff_ne]; exact h0
        have gr1 : (r != 0) = true := by simp [bne, gr0]
        clear h0
        go_wp2_with (first
  | (go_at_call 27; (with_reducible refine (mark_write_bad p2 [] r 1 lm q2 cap2 HRR.out H0.out HMF.out HN6.out HKM.out H.out).mono ?_); rintro e_ wn ⟨rfl, h⟩; replace H := Lib.hid h; clear h)
  | (go_at_call 9; (with_reducible refine (ww_textE p2 [] r H0.out H.out).mono ?_); rintro e_ wn ⟨rfl, h⟩; replace H := Lib.hid h; clear h)
  | (go_at_call 23; (with_reducible refine (marks_check 1 lm q2 cap2 _ HRR.out HMF.out HN6.out HKM.out H.out).mono ?_); rintro e_ wn ⟨rfl, h⟩; replace H := Lib.hid h; clear h))
        go_ret; exact ⟨rfl, H.out.below⟩

end Go.Proofs.YtnnnglklgofabaaGreat
namespace Go.Proofs.YtnnnglklgofabaaGreat
open Go.RowKit

theorem cells_int : Tryz.prog.cellsOf 3 = 1 := by kernel_rfl
theorem cells_str : Tryz.prog.cellsOf 9 = 1 := by kernel_rfl
theorem len2 {α : Type} {l : List α} (h : l.length = 2) : ∃ a b, l = [a, b] := by
 match l, h with
 | [a, b], _ => exact ⟨a, b, rfl⟩
theorem len3 {α : Type} {l : List α} (h : l.length = 3) : ∃ a b c, l = [a, b, c] := by
 match l, h with
 | [a, b, c], _ => exact ⟨a, b, c, rfl⟩
end Go.Proofs.YtnnnglklgofabaaGreat
namespace Go.Proofs.YtnnnglklgofabaaGreat
open Go.RowKit
open Go.ChangeShapes Go.WideShapes Go.ChangeAt Go.Deep

def Light {H : Type} (t : TypeId) (d : DataW H) : Prop := ∀ k ∈ d.weights Tryz.prog t, k ≤ reachBytes
theorem reach_eq : reachBytes = 140737488351232 := rfl

section
variable {H : Type} {enc : TypeId × Value → H} {w : World} {spare : Nat → Bool} {held : Bool}

theorem light_arg {ts : List TypeId} {ds : List (DataW H)} (h : (DataW.weightsEach Tryz.prog ts ds).all (· ≤ reachBytes) = true) {j : Nat} {t : TypeId} {d : DataW H} (ht : ts[j]? = some t) (hd : ds[j]? = some d) : Light t d := by
 intro k hk; have := List.all_eq_true.1 h k (DataW.weights_mem_each ht hd k hk)
 simpa using this

theorem opens_field {t : TypeId} {fs : Array Field} {n N : Nat} {cs : List Value} {y : DataW H × List MemPlace} (ht : Tryz.prog.underlying t = some (.struct fs)) (h : DataW.trod enc Tryz.prog w 0 spare held n t cs = some y) (hl : Light t y.1) (hN : ∀ x ∈ y.2, x.block < N) :
  cs.length = Tryz.prog.cellsOf t ∧ ∃ m, ∀ (i : Nat) (f : Field), fs[i]? = some f → ∃ z, DataW.trod enc Tryz.prog w 0 spare held m f.type ((cs.drop f.offset).take (Tryz.prog.cellsOf f.type)) = some z ∧ Light f.type z.1 ∧ ∀ x ∈ z.2, x.block < N := by
 obtain ⟨xs, m, _, rfl, hc, hxl, hg⟩ := DataW.trod_struct ht h; refine ⟨hc, m, fun i f hf => ?_⟩; have hi : i < fs.size := (Array.getElem?_eq_some_iff.1 hf).1; have hx : xs[i]? = some (xs[i]'(by omega)) := List.getElem?_eq_getElem (by omega); refine ⟨_, (hg i f hf).trans hx, ?_, fun x hxx => hN x (List.mem_flatMap.2 ⟨_, List.getElem_mem _, hxx⟩)⟩; intro k hk; refine hl k ?_; simp only [DataW.weights, ht]; exact DataW.weights_mem_each (j := i) (by rw [List.getElem?_map, Array.getElem?_toList, hf]; rfl) (by rw [List.getElem?_map, hx]; rfl) k hk

theorem opens_str {t : TypeId} {n : Nat} {cs : List Value} {y : DataW H × List MemPlace} (ht : Tryz.prog.underlying t = some .string) (h : DataW.trod enc Tryz.prog w 0 spare held n t cs = some y) (hl : Light t y.1) : ∃ s : Bs, cs = [.string (bb s)] ∧ s.length ≤ 140737488351232 := by
 obtain ⟨s, e, e2, q⟩ := DataW.trod_string ht h; refine ⟨s.data.toList, e, ?_⟩; subst e2; have := hl s.data.toList.length (by simp [DataW.weights]); rw [reach_eq] at this; exact this
theorem opens_i64 {t : TypeId} {n : Nat} {cs : List Value} {y : DataW H × List MemPlace} (ht : Tryz.prog.underlying t = some (.int .i64)) (h : DataW.trod enc Tryz.prog w 0 spare held n t cs = some y) : ∃ x : Int, cs = [.int .i64 x] ∧ -9223372036854775808 ≤ x ∧ x < 9223372036854775808 := by
 obtain ⟨x, e, _, q⟩ := DataW.trod_int ht h; exact ⟨x, e, wf_i64 q⟩
theorem opens_bool {t : TypeId} {n : Nat} {cs : List Value} {y : DataW H × List MemPlace} (ht : Tryz.prog.underlying t = some .bool) (h : DataW.trod enc Tryz.prog w 0 spare held n t cs = some y) : ∃ x : Bool, cs = [.bool x] := by
 obtain ⟨x, e, _⟩ := DataW.trod_bool ht h; exact ⟨x, e⟩

theorem weightsAll_mem' {P : Program} {e : TypeId} : ∀ {l : List (DataW H)} {d : DataW H}, d ∈ l → ∀ k ∈ d.weights P e, k ∈ DataW.weightsAll P e l
  | a :: l, d, hd, k, hk => by
    simp only [DataW.weightsAll, List.mem_append]
    rcases List.mem_cons.1 hd with rfl | hd
    · exact .inl hk
    · exact .inr (weightsAll_mem' hd k hk)

theorem opens_rows {α : Type} {R : World → List Value → α → Prop} {t e : TypeId} {sz N : Nat} (ht : Tryz.prog.underlying t = some (.slice e)) (hC : Tryz.prog.cellsOf e = sz) (hsz : 0 < sz)
    (hR : ∀ n cs y, DataW.trod enc Tryz.prog w 0 spare held n e cs = some y → Light e y.1 → (∀ x ∈ y.2, x.block < N) → ∃ x, R w cs x)
    {fuel : Nat} {cs : List Value} {x : DataW H × List MemPlace} (h : DataW.trod enc Tryz.prog w 0 spare held fuel t cs = some x) (hl : Light t x.1) (hlt : ∀ y ∈ x.2, y.block < N) (hN : N ≤ w.heap.size) :
    ∃ v l, cs = [v] ∧ RowsOf R (· < N) w v sz l ∧ l.length * Tryz.prog.bytesOf e ≤ 140737488351232 ∧ l.length ≤ maxLen := by
  rcases open_slice ht h with ⟨rfl, rfl⟩ | ⟨a, len, cap, m, n, D, Pl, rfl, hb, hlc, hm, hmm, hx, hi⟩
  · exact ⟨_, [], rfl, ⟨none, 0, rfl, fun h => absurd h (by simp)⟩, by simp, by simp⟩
  · have hlm : len ≤ m := by rw [hmm]; split <;> omega
    have hp2 : x.2 = MemPlace.row a (m * Tryz.prog.cellsOf e) ++ (List.range m).flatMap Pl := by rw [hx]
    have hx1 : x.1 = .slice ((List.range len).map D) ((List.range (m - len)).map fun j => D (len + j)) := by rw [hx]
    have hsum : len * Tryz.prog.bytesOf e ≤ 140737488351232 := by
      have := hl (((List.range len).map D).length * Tryz.prog.bytesOf e + ((List.range (m - len)).map fun j => D (len + j)).length * Tryz.prog.bytesOf e) (by rw [hx1]; simp [DataW.weights, ht, Nat.add_mul]); rw [reach_eq] at this; simp only [List.length_map, List.length_range] at this
      omega
    have hle : ∀ i, i < len → Light e (D i) := by
      intro i hil k hk; refine hl k ?_; rw [hx1]; simp only [DataW.weights, ht, List.mem_cons, List.mem_append]; exact .inr (.inl (weightsAll_mem' (List.mem_map.2 ⟨i, List.mem_range.2 hil, rfl⟩) k hk))
    have key : ∀ i, i < len → ∃ y : α, ∃ cs', cs'.length = sz ∧ R w cs' y ∧ (∀ f u, cs'[f]? = some u → w.cell? ((a.add (i * sz)).add f) = some u) := by
      intro i hil; obtain ⟨cs', hc, htr⟩ := hi i (by omega); obtain ⟨_, hcl, hat⟩ := World.cells?_some hc; obtain ⟨y, hy⟩ := hR n cs' _ htr (hle i hil) (fun z hz => hlt z (by rw [hp2, List.mem_append]; exact .inr (List.mem_flatMap.2 ⟨i, by simp; omega, hz⟩))); rw [hC] at hcl hat; refine ⟨y, cs', hcl, hy, fun f u hu => ?_⟩; have hf : f < sz := by rw [← hcl]; exact (List.getElem?_eq_some_iff.1 hu).1
      rw [hat f hf, hu]
    obtain ⟨l, hll, hq⟩ := list_of len _ key; refine ⟨_, l, rfl, ⟨some a, cap, by rw [hll], fun h0 => ?_⟩, by rw [hll]; exact hsum, by omega⟩; obtain ⟨cs0, h1, h2, h3⟩ := hq 0 h0
    have hc0 : w.cell? a = some (cs0[0]'(by omega)) := by
      have := h3 0 _ (List.getElem?_eq_getElem (by omega))
      simpa [Addr.add] using this
    have hsp : a.spot = none := by
      cases hs : a.spot with
      | none => rfl
      | some s =>
        unfold World.cell? at hc0
        split at hc0 <;> simp_all
    obtain ⟨ab, ao, asp⟩ := a; simp only at hsp; subst hsp
    have hlt0 : ab < N := hlt (.cell ab ao) (by
      rw [hp2, List.mem_append]
      left
      simp only [MemPlace.row, List.mem_map, List.mem_range]
      exact ⟨0, by rw [hC]; exact Nat.mul_pos (by omega) hsz, by simp⟩)
    refine ⟨ab, ao, rfl, hlt0, Nat.lt_of_lt_of_le hlt0 hN, fun i hi => ?_⟩; obtain ⟨cs', g1, g2, g3⟩ := hq i hi; refine ⟨cs', g1, g2, fun f u hu => ?_⟩; have := g3 f u hu; have e1 : ∀ (o q : Nat), (⟨ab, o, none⟩ : Addr).add q = ⟨ab, o + q, none⟩ := by intro o q; unfold Addr.add; split <;> simp_all
    rw [e1, e1, Nat.add_assoc] at this; exact this
end

theorem RowsOf.part {α : Type} {R : World → List Value → α → Prop} {Q : α → Prop} {D : Nat → Prop} {w : World} {v : Value} {sz : Nat} {l : List α} (h : RowsOf (fun w cs x => R w cs x ∧ Q x) D w v sz l) : RowsOf R D w v sz l ∧ ∀ x ∈ l, Q x := by
 refine ⟨h.mono (fun _ _ h => h) (fun _ _ h => h.1), fun x hx => ?_⟩; obtain ⟨i, hi, rfl⟩ := List.mem_iff_getElem.1 hx; obtain ⟨p, cap, rfl, h⟩ := h; obtain ⟨b, off, rfl, _, _, hc⟩ := h (by omega); obtain ⟨cs, _, h2, _⟩ := hc i hi; exact h2.2

end Go.Proofs.YtnnnglklgofabaaGreat
namespace Go.Proofs.YtnnnglklgofabaaGreat
open Go.RowKit
open Go.ChangeShapes Go.WideShapes Go.ChangeAt Go.Deep

theorem cells_blob : Tryz.prog.cellsOf 23 = 2 := by kernel_rfl
theorem cells_bool : Tryz.prog.cellsOf 4 = 1 := by kernel_rfl
section
variable {H : Type} {enc : TypeId × Value → H} {w : World} {spare : Nat → Bool} {held : Bool}
theorem zq8 {p : Prop} (h : p := by intro n cs y h hl hN; obtain ⟨hc, m, hf⟩ := opens_field Tryz.underlying23 h hl hN; rw [cells_blob] at hc; obtain ⟨a, b, rfl⟩ := len2 hc; obtain ⟨z0, g0, l0, _⟩ := hf 0 _ rfl; obtain ⟨z1, g1, l1, _⟩ := hf 1 _ rfl; have g0 : DataW.trod enc Tryz.prog w 0 spare held m 4 (List.take (Tryz.prog.cellsOf 4) (List.drop 0 [a, b])) = some z0 := g0; have g1 : DataW.trod enc Tryz.prog w 0 spare held m 9 (List.take (Tryz.prog.cellsOf 9) (List.drop 1 [a, b])) = some z1 := g1; rw [cells_bool] at g0; rw [cells_str] at g1; obtain ⟨x, e0⟩ := opens_bool Tryz.underlying4 g0; obtain ⟨s, e1, hs⟩ := opens_str Tryz.underlying9 g1 l1; simp at e0 e1; subst e0 e1; exact ⟨⟨x, s⟩, rfl, hs⟩) : p := h
set_option maxRecDepth 100000 in
theorem blob_opens {N : Nat} : ∀ n cs y, DataW.trod enc Tryz.prog w 0 spare held n 23 cs = some y → Light 23 y.1 → (∀ x ∈ y.2, x.block < N) → ∃ x : BlobS, cs = [.bool x.null, .string (bb x.data)] ∧ x.data.length ≤ 140737488351232 := by
 exact zq8
theorem ri_opens {N : Nat} : ∀ n cs y, DataW.trod enc Tryz.prog w 0 spare held n 3 cs = some y → Light 3 y.1 → (∀ x ∈ y.2, x.block < N) → ∃ x : Int, RI cs x ∧ (-9223372036854775808 ≤ x ∧ x < 9223372036854775808) := fun n cs y h _ _ => opens_i64 Tryz.underlying3 h
end
end Go.Proofs.YtnnnglklgofabaaGreat
namespace Go.Proofs.YtnnnglklgofabaaGreat
open Go.RowKit

open Go.ChangeShapes Go.WideShapes Go.ChangeAt Go.Deep

theorem cells_tops : Tryz.prog.cellsOf 110 = 1 := by kernel_rfl
theorem cells_top : Tryz.prog.cellsOf 129 = 2 := by kernel_rfl
theorem cells_ints : Tryz.prog.cellsOf 127 = 1 := by kernel_rfl
theorem bytes_int : Tryz.prog.bytesOf 3 = 8 := by kernel_rfl
def QTop (W : World) (x : TopS × Value) : Prop := RowsOf (fun _ cs x => RI cs x) (· < W.heap.size) W x.2 1 x.1.parts ∧ x.1.name.length ≤ 140737488351232 ∧ x.1.parts.length ≤ 17592186043904 ∧ ∀ n ∈ x.1.parts, -9223372036854775808 ≤ n ∧ n < 9223372036854775808
def FewI (l : List (TopS × Value)) : Prop := l.length ≤ 140737488351232 ∧ ∀ x ∈ l, x.1.name.length ≤ 140737488351232 ∧ x.1.parts.length ≤ 17592186043904 ∧ ∀ n ∈ x.1.parts, -9223372036854775808 ≤ n ∧ n < 9223372036854775808
theorem bytes_top : Tryz.prog.bytesOf 129 = 40 := by kernel_rfl
theorem QTop.few {W : World} {l : List (TopS × Value)} (hn : l.length * Tryz.prog.bytesOf 129 ≤ 140737488351232) (h : ∀ x ∈ l, QTop W x) : FewI l := ⟨by rw [bytes_top] at hn; omega, fun x hx => (h x hx).2⟩
theorem QTop.start {W : World} {v : Value} {l : List (TopS × Value)} (hr : RowsOf (fun _ cs x => RTop cs x) (· < W.heap.size) W v 2 l) (h : ∀ x ∈ l, QTop W x) : St W W (Know.tops v l) [] := St.start ⟨hr, fun x hx => (h x hx).1⟩
section
variable {H : Type} {enc : TypeId × Value → H} {w : World} {spare : Nat → Bool} {held : Bool}
set_option maxHeartbeats 1000000 in
set_option maxRecDepth 100000 in
theorem rtop_opens : ∀ n cs y, DataW.trod enc Tryz.prog w 0 spare held n 129 cs = some y → Light 129 y.1 → (∀ x ∈ y.2, x.block < w.heap.size) → ∃ x : TopS × Value, RTop cs x ∧ QTop w x := by
 intro n cs y hf hl hN; have hNw : w.heap.size ≤ w.heap.size := Nat.le_refl _; obtain ⟨hc, m, hg⟩ := opens_field Tryz.underlying129 hf hl hN; rw [cells_top] at hc
 match cs, hc with
 | [c0, c1], _ =>
  obtain ⟨z0, g0, l0, n0⟩ := hg 0 _ rfl; have g0 : DataW.trod enc Tryz.prog w 0 spare held m 9 (List.take (Tryz.prog.cellsOf 9) (List.drop 0 [c0, c1])) = some z0 := g0; rw [cells_str] at g0; obtain ⟨z1, g1, l1, n1⟩ := hg 1 _ rfl; have g1 : DataW.trod enc Tryz.prog w 0 spare held m 127 (List.take (Tryz.prog.cellsOf 127) (List.drop 1 [c0, c1])) = some z1 := g1; rw [cells_ints] at g1; obtain ⟨x0, e0, s0⟩ := opens_str Tryz.underlying9 g0 l0; obtain ⟨v1, x1, e1, hr, hm, _⟩ := opens_rows (R := fun w cs x => (fun _ cs x => RI cs x) w cs x ∧ (fun x : Int => -9223372036854775808 ≤ x ∧ x < 9223372036854775808) x) (N := w.heap.size) Tryz.underlying127 cells_int (by decide) ri_opens g1 l1 n1 hNw; obtain ⟨hr1, hq⟩ := hr.part; simp at e0 e1; subst e0 e1; rw [bytes_int] at hm; have hm2 : x1.length ≤ 17592186043904 := by omega
  exact ⟨(⟨x0, x1⟩, _), rfl, hr1, s0, hm2, hq⟩
end

end Go.Proofs.YtnnnglklgofabaaGreat
namespace Go.Proofs.YtnnnglklgofabaaGreat
open Go.RowKit

open Go.ChangeShapes Go.WideShapes Go.ChangeAt Go.Deep

theorem cells_mark : Tryz.prog.cellsOf 112 = 5 := by kernel_rfl
theorem cells_boolM : Tryz.prog.cellsOf 4 = 1 := by kernel_rfl
theorem bytes_mark : Tryz.prog.bytesOf 112 = 56 := by kernel_rfl
def QMark (W : World) (x : MarkR) : Prop := (RowsOf (fun _ cs x => RTop cs x) (· < W.heap.size) W (.slice x.q x.l.length x.cap) 2 x.l ∧ ∀ y ∈ x.l, QTop W y) ∧ x.l.map (·.1) = x.m.tops ∧ FewI x.l ∧ x.m.R
theorem QMark.start {W : World} {v : Value} {l : List MarkR} (hr : RowsOf (fun _ cs x => RMark cs x) (· < W.heap.size) W v 5 l) (h : ∀ x ∈ l, QMark W x) : St W W (Know.marks v l) [] := St.start ⟨hr, fun x hx => ⟨(h x hx).1.1, fun y hy => ((h x hx).1.2 y hy).1⟩⟩
section
variable {H : Type} {enc : TypeId × Value → H} {w : World} {spare : Nat → Bool} {held : Bool}
set_option maxHeartbeats 2000000 in
set_option maxRecDepth 100000 in
theorem rmark_opens : ∀ n cs y, DataW.trod enc Tryz.prog w 0 spare held n 112 cs = some y → Light 112 y.1 → (∀ x ∈ y.2, x.block < w.heap.size) → ∃ x : MarkR, RMark cs x ∧ QMark w x := by
 intro n cs y hf hl hN; obtain ⟨hc, m, hg⟩ := opens_field Tryz.underlying112 hf hl hN; rw [cells_mark] at hc
 match cs, hc with
 | [c0, c1, c2, c3, c4], _ =>
  obtain ⟨z0, g0, l0, n0⟩ := hg 0 _ rfl; have g0 : DataW.trod enc Tryz.prog w 0 spare held m 3 (List.take (Tryz.prog.cellsOf 3) (List.drop 0 [c0, c1, c2, c3, c4])) = some z0 := g0; rw [cells_int] at g0; obtain ⟨z1, g1, l1, n1⟩ := hg 1 _ rfl; have g1 : DataW.trod enc Tryz.prog w 0 spare held m 3 (List.take (Tryz.prog.cellsOf 3) (List.drop 1 [c0, c1, c2, c3, c4])) = some z1 := g1; rw [cells_int] at g1; obtain ⟨z2, g2, l2, n2⟩ := hg 2 _ rfl; have g2 : DataW.trod enc Tryz.prog w 0 spare held m 4 (List.take (Tryz.prog.cellsOf 4) (List.drop 2 [c0, c1, c2, c3, c4])) = some z2 := g2; rw [cells_boolM] at g2; obtain ⟨z3, g3, l3, n3⟩ := hg 3 _ rfl; have g3 : DataW.trod enc Tryz.prog w 0 spare held m 110 (List.take (Tryz.prog.cellsOf 110) (List.drop 3 [c0, c1, c2, c3, c4])) = some z3 := g3; rw [cells_tops] at g3; obtain ⟨z4, g4, l4, n4⟩ := hg 4 _ rfl; have g4 : DataW.trod enc Tryz.prog w 0 spare held m 3 (List.take (Tryz.prog.cellsOf 3) (List.drop 4 [c0, c1, c2, c3, c4])) = some z4 := g4; rw [cells_int] at g4; obtain ⟨x0, e0, r0⟩ := opens_i64 Tryz.underlying3 g0; obtain ⟨x1, e1, r1⟩ := opens_i64 Tryz.underlying3 g1; obtain ⟨x2, e2⟩ := opens_bool Tryz.underlying4 g2; obtain ⟨v3, x3, e3, hrq, hm3, _⟩ := opens_rows (R := fun w' cs x => (fun _ cs x => RTop cs x) w' cs x ∧ QTop w x) (N := w.heap.size) Tryz.underlying110 cells_top (by decide) rtop_opens g3 l3 n3 (Nat.le_refl _); obtain ⟨hr, hq⟩ := hrq.part; obtain ⟨x4, e4, r4⟩ := opens_i64 Tryz.underlying3 g4; simp at e0 e1 e2 e3 e4; subst e0 e1 e2 e3 e4; obtain ⟨q, cap, hrv⟩ : ∃ q cap, _ = Value.slice q x3.length cap := by obtain ⟨p, cap, hv, _⟩ := hr; exact ⟨p, cap, hv⟩
  subst hrv; exact ⟨⟨⟨x0, x1, x2, x3.map (·.1), x4⟩, x3, q, cap⟩, rfl, ⟨hr, hq⟩, rfl, QTop.few hm3 hq, r0, r1, r4⟩
end

end Go.Proofs.YtnnnglklgofabaaGreat
namespace Go.Proofs.YtnnnglklgofabaaGreat
open Go.RowKit

end Go.Proofs.YtnnnglklgofabaaGreat
namespace Go.Proofs.YtnnnglklgofabaaGreat
open Go.RowKit

end Go.Proofs.YtnnnglklgofabaaGreat
namespace Go.Proofs.YtnnnglklgofabaaGreat
open Go.RowKit

end Go.Proofs.YtnnnglklgofabaaGreat
namespace Go.Proofs.YtnnnglklgofabaaGreat
open Go.RowKit

end Go.Proofs.YtnnnglklgofabaaGreat
namespace Go.Proofs.YtnnnglklgofabaaGreat
open Go.RowKit

end Go.Proofs.YtnnnglklgofabaaGreat
namespace Go.Proofs.YtnnnglklgofabaaGreat
open Go.RowKit

structure EqP (x : PartR) : Prop where
  len : x.l.length ≤ 4398046511104
  bats : ∀ z ∈ x.l, EqR z
end Go.Proofs.YtnnnglklgofabaaGreat
namespace Go.Proofs.YtnnnglklgofabaaGreat
open Go.RowKit

structure EqT (x : PTop) : Prop where
  len : x.l.length ≤ 4398046511104
  parts : ∀ y ∈ x.l, EqP y
end Go.Proofs.YtnnnglklgofabaaGreat
namespace Go.Proofs.YtnnnglklgofabaaGreat
open Go.RowKit

end Go.Proofs.YtnnnglklgofabaaGreat
namespace Go.Proofs.YtnnnglklgofabaaGreat
open Go.RowKit

end Go.Proofs.YtnnnglklgofabaaGreat
namespace Go.Proofs.YtnnnglklgofabaaGreat
open Go.RowKit

end Go.Proofs.YtnnnglklgofabaaGreat
namespace Go.Proofs.YtnnnglklgofabaaGreat
open Go.RowKit

end Go.Proofs.YtnnnglklgofabaaGreat
namespace Go.Proofs.YtnnnglklgofabaaGreat
open Go.RowKit

end Go.Proofs.YtnnnglklgofabaaGreat
namespace Go.Proofs.YtnnnglklgofabaaGreat
open Go.RowKit

end Go.Proofs.YtnnnglklgofabaaGreat
namespace Go.Proofs.YtnnnglklgofabaaGreat
open Go.RowKit

end Go.Proofs.YtnnnglklgofabaaGreat
namespace Go.Proofs.YtnnnglklgofabaaGreat
open Go.RowKit

end Go.Proofs.YtnnnglklgofabaaGreat
namespace Go.Proofs.YtnnnglklgofabaaGreat
open Go.RowKit

end Go.Proofs.YtnnnglklgofabaaGreat
namespace Go.Proofs.YtnnnglklgofabaaGreat
open Go.RowKit

end Go.Proofs.YtnnnglklgofabaaGreat
namespace Go.Proofs.YtnnnglklgofabaaGreat
open Go.RowKit

end Go.Proofs.YtnnnglklgofabaaGreat
namespace Go.Proofs.YtnnnglklgofabaaGreat
open Go.RowKit

end Go.Proofs.YtnnnglklgofabaaGreat
namespace Go.Proofs.YtnnnglklgofabaaGreat
open Go.RowKit

end Go.Proofs.YtnnnglklgofabaaGreat
namespace Go.Proofs.YtnnnglklgofabaaGreat
open Go.RowKit

end Go.Proofs.YtnnnglklgofabaaGreat
namespace Go.Proofs.YtnnnglklgofabaaGreat
open Go.RowKit

end Go.Proofs.YtnnnglklgofabaaGreat
namespace Go.Proofs.YtnnnglklgofabaaGreat
open Go.RowKit

end Go.Proofs.YtnnnglklgofabaaGreat
namespace Go.Proofs.YtnnnglklgofabaaGreat
open Go.RowKit

end Go.Proofs.YtnnnglklgofabaaGreat
namespace Go.Proofs.YtnnnglklgofabaaGreat
open Go.RowKit

open Go.ChangeShapes Go.WideShapes Go.ChangeAt Go.Deep

theorem cells_hdr : Tryz.prog.cellsOf 121 = 3 := by kernel_rfl
theorem cells_blob_Op06 : Tryz.prog.cellsOf 23 = 2 := by kernel_rfl
theorem cells_bool_Op06 : Tryz.prog.cellsOf 4 = 1 := by kernel_rfl
section
variable {H : Type} {enc : TypeId × Value → H} {w : World} {spare : Nat → Bool} {held : Bool}
end

end Go.Proofs.YtnnnglklgofabaaGreat
namespace Go.Proofs.YtnnnglklgofabaaGreat
open Go.RowKit
open Go.ChangeShapes Go.WideShapes Go.ChangeAt Go.Deep

section
variable {H : Type} {enc : TypeId × Value → H} {w : World} {spare : Nat → Bool} {held : Bool}
set_option maxRecDepth 100000 in
theorem blob_opens_Open6 {N : Nat} : ∀ n cs y, DataW.trod enc Tryz.prog w 0 spare held n 23 cs = some y → Light 23 y.1 → (∀ x ∈ y.2, x.block < N) → ∃ x : BlobS, cs = [.bool x.null, .string (bb x.data)] ∧ x.data.length ≤ 140737488351232 := by
 exact zq8
set_option maxRecDepth 100000 in
theorem rhdr_opens {N : Nat} : ∀ n cs y, DataW.trod enc Tryz.prog w 0 spare held n 121 cs = some y → Light 121 y.1 → (∀ x ∈ y.2, x.block < N) → ∃ x : HdrS, RHdr cs x ∧ (x.key.length ≤ 140737488351232 ∧ x.val.data.length ≤ 140737488351232) := by
 intro n cs y h hl hN; obtain ⟨hc, m, hf⟩ := opens_field Tryz.underlying121 h hl hN; rw [cells_hdr] at hc; obtain ⟨a, b, c, rfl⟩ := len3 hc; obtain ⟨z0, g0, l0, n0⟩ := hf 0 _ rfl; obtain ⟨z1, g1, l1, n1⟩ := hf 1 _ rfl; have g0 : DataW.trod enc Tryz.prog w 0 spare held m 9 (List.take (Tryz.prog.cellsOf 9) (List.drop 0 [a, b, c])) = some z0 := g0; have g1 : DataW.trod enc Tryz.prog w 0 spare held m 23 (List.take (Tryz.prog.cellsOf 23) (List.drop 1 [a, b, c])) = some z1 := g1; rw [cells_str] at g0; rw [cells_blob] at g1; obtain ⟨s, e0, hs⟩ := opens_str Tryz.underlying9 g0 l0; obtain ⟨x, e1, hx⟩ := blob_opens_Open6 _ _ _ g1 l1 n1; simp at e0 e1; obtain ⟨e1, e2⟩ := e1; subst e0 e1 e2; exact ⟨⟨s, x⟩, rfl, hs, hx⟩
end

end Go.Proofs.YtnnnglklgofabaaGreat
namespace Go.Proofs.YtnnnglklgofabaaGreat
open Go.RowKit

end Go.Proofs.YtnnnglklgofabaaGreat
namespace Go.Proofs.YtnnnglklgofabaaGreat
open Go.Joins Go.RowKit
open Go.ChangeShapes Go.WideShapes Go.ChangeAt Go.Deep

theorem cells_rec : Tryz.prog.cellsOf 119 = 7 := by kernel_rfl
theorem cells_hdrs : Tryz.prog.cellsOf 117 = 1 := by kernel_rfl
section
variable {H : Type} {enc : TypeId × Value → H} {w : World} {spare : Nat → Bool} {held : Bool}
end
end Go.Proofs.YtnnnglklgofabaaGreat
namespace Go.Proofs.YtnnnglklgofabaaGreat
open Go.RowKit

def GoodR (l : List (RecS × Value)) : Prop := ∀ x ∈ l, smallR x.1 = 1 ∧ recOk x.1 = 0
theorem GoodR.nil : GoodR [] := fun _ h => by cases h
def FitR (l : List (RecS × Value)) : Prop := ∀ x ∈ l, x.1.R ∧ x.1.hdrs.length ≤ 9223372036854775807 ∧ HFit x.1.hdrs ∧ x.1.key.data.length ≤ 140737488351232 ∧ x.1.val.data.length ≤ 140737488351232
end Go.Proofs.YtnnnglklgofabaaGreat
namespace Go.Proofs.YtnnnglklgofabaaGreat
open Go.Joins Go.RowKit
open Go.ChangeShapes Go.WideShapes Go.ChangeAt Go.Deep

def QRec (W : World) (x : RecS × Value) : Prop := RowsOf (fun _ cs x => RHdr cs x) (· < W.heap.size) W x.2 3 x.1.hdrs ∧ x.1.R ∧ x.1.hdrs.length ≤ 9223372036854775807 ∧ HFit x.1.hdrs ∧ x.1.key.data.length ≤ 140737488351232 ∧ x.1.val.data.length ≤ 140737488351232
theorem QRec.fit {W : World} {l : List (RecS × Value)} (h : ∀ x ∈ l, QRec W x) : FitR l := fun x hx => (h x hx).2
theorem QRec.start {W : World} {v : Value} {l : List (RecS × Value)} (hr : RowsOf (fun _ cs x => RRec cs x) (· < W.heap.size) W v 7 l) (h : ∀ x ∈ l, QRec W x) : St W W (Know.recs v l) [] := St.start ⟨hr, fun x hx => (h x hx).1⟩
section
variable {H : Type} {enc : TypeId × Value → H} {w : World} {spare : Nat → Bool} {held : Bool}
set_option maxHeartbeats 1000000 in
set_option maxRecDepth 100000 in
theorem rrec_opens : ∀ n cs y, DataW.trod enc Tryz.prog w 0 spare held n 119 cs = some y → Light 119 y.1 → (∀ x ∈ y.2, x.block < w.heap.size) → ∃ x : RecS × Value, RRec cs x ∧ QRec w x := by
 intro n cs y hf hl hN; have hNw : w.heap.size ≤ w.heap.size := Nat.le_refl _; obtain ⟨hc, m, hg⟩ := opens_field Tryz.underlying119 hf hl hN; rw [cells_rec] at hc
 match cs, hc with
 | [c0, c1, c2, c3, c4, c5, c6], _ =>
  obtain ⟨z0, g0, l0, n0⟩ := hg 0 _ rfl; have g0 : DataW.trod enc Tryz.prog w 0 spare held m 3 (List.take (Tryz.prog.cellsOf 3) (List.drop 0 [c0, c1, c2, c3, c4, c5, c6])) = some z0 := g0; rw [cells_int] at g0; obtain ⟨z1, g1, l1, n1⟩ := hg 1 _ rfl; have g1 : DataW.trod enc Tryz.prog w 0 spare held m 3 (List.take (Tryz.prog.cellsOf 3) (List.drop 1 [c0, c1, c2, c3, c4, c5, c6])) = some z1 := g1; rw [cells_int] at g1; obtain ⟨z2, g2, l2, n2⟩ := hg 2 _ rfl; have g2 : DataW.trod enc Tryz.prog w 0 spare held m 23 (List.take (Tryz.prog.cellsOf 23) (List.drop 2 [c0, c1, c2, c3, c4, c5, c6])) = some z2 := g2; rw [cells_blob] at g2; obtain ⟨z3, g3, l3, n3⟩ := hg 3 _ rfl; have g3 : DataW.trod enc Tryz.prog w 0 spare held m 23 (List.take (Tryz.prog.cellsOf 23) (List.drop 4 [c0, c1, c2, c3, c4, c5, c6])) = some z3 := g3; rw [cells_blob] at g3; obtain ⟨z4, g4, l4, n4⟩ := hg 4 _ rfl; have g4 : DataW.trod enc Tryz.prog w 0 spare held m 117 (List.take (Tryz.prog.cellsOf 117) (List.drop 6 [c0, c1, c2, c3, c4, c5, c6])) = some z4 := g4; rw [cells_hdrs] at g4; obtain ⟨x0, e0, r0⟩ := opens_i64 Tryz.underlying3 g0; obtain ⟨x1, e1, r1⟩ := opens_i64 Tryz.underlying3 g1; obtain ⟨x2, e2, s2⟩ := blob_opens _ _ _ g2 l2 n2; obtain ⟨x3, e3, s3⟩ := blob_opens _ _ _ g3 l3 n3; obtain ⟨v6, x4, e4, hr, _, hm⟩ := opens_rows (R := fun w cs x => (fun _ cs x => RHdr cs x) w cs x ∧ (fun x : HdrS => x.key.length ≤ 140737488351232 ∧ x.val.data.length ≤ 140737488351232) x) (N := w.heap.size) Tryz.underlying117 cells_hdr (by decide) rhdr_opens g4 l4 n4 hNw; obtain ⟨hr1, hq⟩ := hr.part; simp at e0 e1 e2 e3 e4; obtain ⟨e2a, e2b⟩ := e2; obtain ⟨e3a, e3b⟩ := e3; subst e0 e1 e2a e2b e3a e3b e4; have hm2 : x4.length ≤ 9223372036854775807 := hm; exact ⟨(⟨x0, x1, x2, x3, x4⟩, _), rfl, hr1, ⟨r0, r1⟩, hm2, hq, s2, s3⟩
end
end Go.Proofs.YtnnnglklgofabaaGreat
namespace Go.Proofs.YtnnnglklgofabaaGreat
open Go.Joins Go.RowKit
open Go.ChangeShapes Go.WideShapes Go.ChangeAt Go.Deep

theorem cells_bat : Tryz.prog.cellsOf 58 = 12 := by kernel_rfl
theorem cells_recs : Tryz.prog.cellsOf 56 = 1 := by kernel_rfl
section
variable {H : Type} {enc : TypeId × Value → H} {w : World} {spare : Nat → Bool} {held : Bool}
set_option maxHeartbeats 2000000 in
set_option maxRecDepth 100000 in
theorem bat_opens : ∀ n cs y, DataW.trod enc Tryz.prog w 0 spare held n 58 cs = some y → Light 58 y.1 → (∀ x ∈ y.2, x.block < w.heap.size) →
    ∃ (base leader : Int) (app txn ctl : Bool) (last first maxt prod epoch sq : Int) (l : List (RecS × Value)) (rv : Value), cs = [.int .i64 base, .int .i64 leader, .bool app, .bool txn, .bool ctl, .int .i64 last, .int .i64 first, .int .i64 maxt, .int .i64 prod, .int .i64 epoch, .int .i64 sq, rv] ∧
      BatS.R ⟨base, leader, app, txn, ctl, last, first, maxt, prod, epoch, sq, l.map (·.1)⟩ ∧ RowsOf (fun _ cs x => RRec cs x) (· < w.heap.size) w rv 7 l ∧ (∀ x ∈ l, QRec w x) := by
  intro n cs y hf hl hN; obtain ⟨hc, m, hg⟩ := opens_field Tryz.underlying58 hf hl hN; rw [cells_bat] at hc
  match cs, hc with
  | [c0, c1, c2, c3, c4, c5, c6, c7, c8, c9, c10, c11], _ =>
    obtain ⟨z0, g0, l0, n0⟩ := hg 0 _ rfl; have g0 : DataW.trod enc Tryz.prog w 0 spare held m 3 (List.take (Tryz.prog.cellsOf 3) (List.drop 0 [c0, c1, c2, c3, c4, c5, c6, c7, c8, c9, c10, c11])) = some z0 := g0; rw [cells_int] at g0; obtain ⟨z1, g1, l1, n1⟩ := hg 1 _ rfl; have g1 : DataW.trod enc Tryz.prog w 0 spare held m 3 (List.take (Tryz.prog.cellsOf 3) (List.drop 1 [c0, c1, c2, c3, c4, c5, c6, c7, c8, c9, c10, c11])) = some z1 := g1; rw [cells_int] at g1; obtain ⟨z2, g2, l2, n2⟩ := hg 2 _ rfl; have g2 : DataW.trod enc Tryz.prog w 0 spare held m 4 (List.take (Tryz.prog.cellsOf 4) (List.drop 2 [c0, c1, c2, c3, c4, c5, c6, c7, c8, c9, c10, c11])) = some z2 := g2; rw [cells_bool] at g2; obtain ⟨z3, g3, l3, n3⟩ := hg 3 _ rfl; have g3 : DataW.trod enc Tryz.prog w 0 spare held m 4 (List.take (Tryz.prog.cellsOf 4) (List.drop 3 [c0, c1, c2, c3, c4, c5, c6, c7, c8, c9, c10, c11])) = some z3 := g3; rw [cells_bool] at g3; obtain ⟨z4, g4, l4, n4⟩ := hg 4 _ rfl; have g4 : DataW.trod enc Tryz.prog w 0 spare held m 4 (List.take (Tryz.prog.cellsOf 4) (List.drop 4 [c0, c1, c2, c3, c4, c5, c6, c7, c8, c9, c10, c11])) = some z4 := g4; rw [cells_bool] at g4; obtain ⟨z5, g5, l5, n5⟩ := hg 5 _ rfl; have g5 : DataW.trod enc Tryz.prog w 0 spare held m 3 (List.take (Tryz.prog.cellsOf 3) (List.drop 5 [c0, c1, c2, c3, c4, c5, c6, c7, c8, c9, c10, c11])) = some z5 := g5; rw [cells_int] at g5; obtain ⟨z6, g6, l6, n6⟩ := hg 6 _ rfl; have g6 : DataW.trod enc Tryz.prog w 0 spare held m 3 (List.take (Tryz.prog.cellsOf 3) (List.drop 6 [c0, c1, c2, c3, c4, c5, c6, c7, c8, c9, c10, c11])) = some z6 := g6; rw [cells_int] at g6; obtain ⟨z7, g7, l7, n7⟩ := hg 7 _ rfl; have g7 : DataW.trod enc Tryz.prog w 0 spare held m 3 (List.take (Tryz.prog.cellsOf 3) (List.drop 7 [c0, c1, c2, c3, c4, c5, c6, c7, c8, c9, c10, c11])) = some z7 := g7; rw [cells_int] at g7; obtain ⟨z8, g8, l8, n8⟩ := hg 8 _ rfl; have g8 : DataW.trod enc Tryz.prog w 0 spare held m 3 (List.take (Tryz.prog.cellsOf 3) (List.drop 8 [c0, c1, c2, c3, c4, c5, c6, c7, c8, c9, c10, c11])) = some z8 := g8; rw [cells_int] at g8; obtain ⟨z9, g9, l9, n9⟩ := hg 9 _ rfl; have g9 : DataW.trod enc Tryz.prog w 0 spare held m 3 (List.take (Tryz.prog.cellsOf 3) (List.drop 9 [c0, c1, c2, c3, c4, c5, c6, c7, c8, c9, c10, c11])) = some z9 := g9; rw [cells_int] at g9; obtain ⟨z10, g10, l10, n10⟩ := hg 10 _ rfl; have g10 : DataW.trod enc Tryz.prog w 0 spare held m 3 (List.take (Tryz.prog.cellsOf 3) (List.drop 10 [c0, c1, c2, c3, c4, c5, c6, c7, c8, c9, c10, c11])) = some z10 := g10; rw [cells_int] at g10; obtain ⟨z11, g11, l11, n11⟩ := hg 11 _ rfl; have g11 : DataW.trod enc Tryz.prog w 0 spare held m 56 (List.take (Tryz.prog.cellsOf 56) (List.drop 11 [c0, c1, c2, c3, c4, c5, c6, c7, c8, c9, c10, c11])) = some z11 := g11; rw [cells_recs] at g11; obtain ⟨x0, e0, r0⟩ := opens_i64 Tryz.underlying3 g0; obtain ⟨x1, e1, r1⟩ := opens_i64 Tryz.underlying3 g1; obtain ⟨x2, e2⟩ := opens_bool Tryz.underlying4 g2; obtain ⟨x3, e3⟩ := opens_bool Tryz.underlying4 g3; obtain ⟨x4, e4⟩ := opens_bool Tryz.underlying4 g4; obtain ⟨x5, e5, r5⟩ := opens_i64 Tryz.underlying3 g5; obtain ⟨x6, e6, r6⟩ := opens_i64 Tryz.underlying3 g6; obtain ⟨x7, e7, r7⟩ := opens_i64 Tryz.underlying3 g7; obtain ⟨x8, e8, r8⟩ := opens_i64 Tryz.underlying3 g8; obtain ⟨x9, e9, r9⟩ := opens_i64 Tryz.underlying3 g9; obtain ⟨x10, e10, r10⟩ := opens_i64 Tryz.underlying3 g10; obtain ⟨v11, x11, e11, hrq, _, _⟩ := opens_rows (R := fun w' cs x => (fun _ cs x => RRec cs x) w' cs x ∧ QRec w x) (N := w.heap.size) Tryz.underlying56 cells_rec (by decide) rrec_opens g11 l11 n11 (Nat.le_refl _); obtain ⟨hr, hq⟩ := hrq.part; simp at e0 e1 e2 e3 e4 e5 e6 e7 e8 e9 e10 e11; subst e0 e1 e2 e3 e4 e5 e6 e7 e8 e9 e10 e11; exact ⟨x0, x1, x2, x3, x4, x5, x6, x7, x8, x9, x10, x11, _, rfl, ⟨r0, r1, r5, r6, r7, r8, r9, r10⟩, hr, hq⟩
end
end Go.Proofs.YtnnnglklgofabaaGreat
