/- A text. -/
import Derived.Test.YtnnnglklgofabaaGreatGProduceWrites10
import Derived.Test.YtnnnglklgofabaaGreatGProduceWrites9
import Derived.Test.YtnnnglklgofabaaGreatGProduceWrites5
import Derived.RegionTactic
import Derived.Deep.RegionHeld3
import Derived.Deep.DeepCutAuto
import Derived.WalkMore
import Derived.Test.YtnnnglklgofabaaGreatGProduceWrites6
import Derived.Test.YtnnnglklgofabaaGreatGProduceWrites4
import Derived.Test.YtnnnglklgofabaaGreatGProduceWrites1
/- A text. -/
namespace Go.Proofs.YtnnnglklgofabaaGreat
open Go.RowKit

theorem riseP_pb : ∀ (l m : List PartR), l.map PartR.pb = m.map PartR.pb → ∀ a, riseP a l = riseP a m
  | [], [], _, _ => rfl
  | [], _ :: _, h, _ => by cases h
  | _ :: _, [], h, _ => by cases h
  | x :: t, y :: u, h, a => by
    simp only [List.map_cons, List.cons.injEq] at h; have e : x.idx = y.idx := congrArg Prod.fst h.1; rw [riseP_cons, riseP_cons, e, riseP_pb t u h.2]
theorem errBs_b (txn : Bool) : ∀ (l m : List BatR), l.map BatR.b = m.map BatR.b → errBs txn l = errBs txn m
  | [], [], _ => rfl
  | [], _ :: _, h => by cases h
  | _ :: _, [], h => by cases h
  | x :: t, y :: u, h => by
    simp only [List.map_cons, List.cons.injEq] at h; rw [errBs_cons, errBs_cons, h.1, errBs_b txn t u h.2]
theorem pb_len {l m : List BatR} (h : l.map BatR.b = m.map BatR.b) : l.length = m.length := by have := congrArg List.length h; simpa using this
theorem errPs_pb (txn : Bool) (v : Int) : ∀ (l m : List PartR), l.map PartR.pb = m.map PartR.pb → errPs txn v l = errPs txn v m
  | [], [], _ => rfl
  | [], _ :: _, h => by cases h
  | _ :: _, [], h => by cases h
  | x :: t, y :: u, h => by
    simp only [List.map_cons, List.cons.injEq] at h; have e : x.l.map BatR.b = y.l.map BatR.b := congrArg Prod.snd h.1; rw [errPs_cons, errPs_cons, pb_len e, errBs_b txn _ _ e, errPs_pb txn v t u h.2]
theorem ppb_len {l m : List PartR} (h : l.map PartR.pb = m.map PartR.pb) : l.length = m.length := by have := congrArg List.length h; simpa using this
theorem errT_pt : ∀ (l m : List PTop), l.map PTop.pt = m.map PTop.pt → ∀ a, errT a l = errT a m
  | [], [], _, _ => rfl
  | [], _ :: _, h, _ => by cases h
  | _ :: _, [], h, _ => by cases h
  | x :: t, y :: u, h, a => by
    simp only [List.map_cons, List.cons.injEq] at h; have e1 : x.name = y.name := congrArg Prod.fst h.1; have e2 : x.l.map PartR.pb = y.l.map PartR.pb := congrArg Prod.snd h.1; rw [errT_cons, errT_cons, e1, ppb_len e2, riseP_pb _ _ e2, errT_pt t u h.2]
theorem errPT_pt (txn : Bool) (v : Int) : ∀ (l m : List PTop), l.map PTop.pt = m.map PTop.pt → errPT txn v l = errPT txn v m
  | [], [], _ => rfl
  | [], _ :: _, h => by cases h
  | _ :: _, [], h => by cases h
  | x :: t, y :: u, h => by
    simp only [List.map_cons, List.cons.injEq] at h; have e2 : x.l.map PartR.pb = y.l.map PartR.pb := congrArg Prod.snd h.1; rw [errPT_cons, errPT_cons, errPs_pb txn v _ _ e2, errPT_pt txn v t u h.2]
theorem ppt_len {l m : List PTop} (h : l.map PTop.pt = m.map PTop.pt) : l.length = m.length := by have := congrArg List.length h; simpa using this
theorem errReq_pt (id : BlobS) (ac tm v : Int) {l m : List PTop} (h : l.map PTop.pt = m.map PTop.pt) : errReq id ac tm v l = errReq id ac tm v m := by
 unfold errReq errTops; rw [errT_pt l m h, errPT_pt _ v l m h, ppt_len h]
theorem encB_b : ∀ (l m : List BatR), l.map BatR.b = m.map BatR.b → encB l = encB m
  | [], [], _ => rfl
  | [], _ :: _, h => by cases h
  | _ :: _, [], h => by cases h
  | x :: t, y :: u, h => by
    simp only [List.map_cons, List.cons.injEq] at h; rw [encB_cons, encB_cons, h.1, encB_b t u h.2]
theorem encParts_pb : ∀ (l m : List PartR), l.map PartR.pb = m.map PartR.pb → l.flatMap encPart = m.flatMap encPart
  | [], [], _ => rfl
  | [], _ :: _, h => by cases h
  | _ :: _, [], h => by cases h
  | x :: t, y :: u, h => by
    simp only [List.map_cons, List.cons.injEq] at h; have e1 : x.idx = y.idx := congrArg Prod.fst h.1; have e2 : x.l.map BatR.b = y.l.map BatR.b := congrArg Prod.snd h.1; rw [List.flatMap_cons, List.flatMap_cons, encParts_pb t u h.2]; unfold encPart; rw [e1, encB_b _ _ e2]
theorem encPTops_pt : ∀ (l m : List PTop), l.map PTop.pt = m.map PTop.pt → l.flatMap encPTop = m.flatMap encPTop
  | [], [], _ => rfl
  | [], _ :: _, h => by cases h
  | _ :: _, [], h => by cases h
  | x :: t, y :: u, h => by
    simp only [List.map_cons, List.cons.injEq] at h; have e1 : x.name = y.name := congrArg Prod.fst h.1; have e2 : x.l.map PartR.pb = y.l.map PartR.pb := congrArg Prod.snd h.1; rw [List.flatMap_cons, List.flatMap_cons, encPTops_pt t u h.2]; unfold encPTop; rw [e1, ppb_len e2, encParts_pb _ _ e2]
theorem encPReq_pt (nl : Bool) (dd : Bs) (ac tm : Int) {l m : List PTop} (h : l.map PTop.pt = m.map PTop.pt) : encPReq nl dd ac tm l = encPReq nl dd ac tm m := by
 unfold encPReq; rw [ppt_len h, encPTops_pt l m h]
theorem nl_take {l m : List PTop} (h : m.map PTop.nl = l.map PTop.nl) (j : Nat) : (m.take j).map PTop.nl = (l.take j).map PTop.nl := by rw [List.map_take, List.map_take, h]
theorem riseFew_nl {l m : List PTop} (h : m.map PTop.nl = l.map PTop.nl) (hf : RiseFew l) : RiseFew m := by
 intro j hj ha; have ht := nl_take h j
 have ha2 : AllP (l.take j) := fun x hx => by
  obtain ⟨y, hy, _, e⟩ := nl_mem ht.symm hx; rw [← e]; exact ha y hy
 obtain ⟨a, b⟩ := hf j (by rw [← nl_len h]; exact hj) ha2; refine ⟨a, fun x hx => ?_⟩; obtain ⟨y, hy, e1, e2⟩ := nl_mem ht hx; rw [← e1, ← e2]; exact b y hy
theorem ckT2_nl {l m : List PTop} (h : m.map PTop.nl = l.map PTop.nl) (hf : ∀ x ∈ l, CkT2 x) : ∀ x ∈ m, CkT2 x := by
 intro x hx; obtain ⟨y, hy, _, e⟩ := nl_mem h hx; have c := hf y hy; exact ⟨by rw [← e]; exact c.len, fun v hv => c.parts v (by rw [e]; exact hv)⟩
theorem wrT_nl {l m : List PTop} (h : m.map PTop.nl = l.map PTop.nl) (hf : ∀ x ∈ l, WrT x) : ∀ x ∈ m, WrT x := by
 intro x hx; obtain ⟨y, hy, e1, e⟩ := nl_mem h hx; have c := hf y hy; exact ⟨by rw [← e1]; exact c.name, fun v hv => c.parts v (by rw [e]; exact hv)⟩
theorem few_ckR {z : BatR} (hf : z.Fit) (hs : smallB (z.l.map (·.1)) = true) : CkB z := ⟨⟨hf.2.2, hf.1.2.2.2.1.2 |> fun h => by omega, FitW.fit hf.2.1 hs, by have := smallB_len hs; omega⟩, hf.1.1⟩
theorem few_ckT {l : List PTop} (hf : ∀ x ∈ l, FewT20 x) (hs : ∀ x ∈ l, SmT x) : ∀ x ∈ l, CkT x ∧ CkT2 x := fun x hx =>
  ⟨⟨Nat.le_trans (hf x hx).name (by decide), (hf x hx).len, fun y hy => ⟨Nat.le_trans ((hf x hx).parts y hy).len (by decide), fun z hz => (few_ckR (((hf x hx).parts y hy).fit z hz) (hs x hx y hy z hz)).ck⟩⟩,
   ⟨(hf x hx).len, fun y hy => ⟨Nat.le_trans ((hf x hx).parts y hy).len (by decide), fun z hz => few_ckR (((hf x hx).parts y hy).fit z hz) (hs x hx y hy z hz)⟩⟩⟩
theorem sizeT_mem : ∀ (l : List PTop) (x : PTop), x ∈ l → x.name.length + 10 + sizeP x.l ≤ sizeT l
  | [], _, h => by cases h
  | y :: t, x, h => by
    simp only [sizeT]
    rcases List.mem_cons.1 h with rfl | h
    · omega
    · have := sizeT_mem t x h; omega
theorem sizeP_mem : ∀ (l : List PartR) (y : PartR), y ∈ l → 10 + 100 * y.l.length ≤ sizeP l
  | [], _, h => by cases h
  | z :: t, y, h => by
    simp only [sizeP]
    rcases List.mem_cons.1 h with rfl | h
    · omega
    · have := sizeP_mem t y h; omega
theorem sizeT_len : ∀ (l : List PTop), 10 * l.length ≤ sizeT l
  | [] => by simp [sizeT]
  | x :: t => by have := sizeT_len t; simp only [sizeT, List.length_cons]; omega
theorem sizeP_len : ∀ (l : List PartR), 10 * l.length ≤ sizeP l
  | [] => by simp [sizeP]
  | x :: t => by have := sizeP_len t; simp only [sizeP, List.length_cons]; omega
theorem few_rise {dl : Nat} {l : List PTop} (h : ∀ j, j ≤ l.length → AllP (l.take j) → j = 0 ∨ dl + sizeT (l.take j) ≤ 2000) : RiseFew l := by
 intro j hj ha
 rcases h j hj ha with rfl | h2
 · exact ⟨by omega, fun x hx => by simp at hx⟩
 · have h3 := sizeT_len (l.take j); rw [List.length_take] at h3; refine ⟨by omega, fun x hx => ?_⟩; have h4 := sizeT_mem _ x hx; have h5 := sizeP_len x.l
   omega
theorem errT_all : ∀ (l : List PTop) (a : Bs), errT a l = 0 → ∀ x ∈ l, x.l.length ≠ 0 ∧ keyRight x.name = true ∧ riseP (-1) x.l = true
  | [], _, _, _, hx => by cases hx
  | y :: t, a, h, x, hx => by
    rw [errT_cons] at h
    by_cases h0 : y.l.length = 0
    · rw [if_pos h0] at h; cases h
    rw [if_neg h0] at h
    by_cases hb : (keyRight y.name && Op.bytesLess a y.name && riseP (-1) y.l) = true
    · rw [if_pos hb] at h; simp only [Bool.and_eq_true] at hb
      rcases List.mem_cons.1 hx with rfl | hx
      · exact ⟨h0, hb.1.1, hb.2⟩
      · exact errT_all t y.name h x hx
    · rw [if_neg hb] at h; cases h
theorem riseP_mem : ∀ (l : List PartR) (a : Int), riseP a l = true → ∀ y ∈ l, a < y.idx ∧ y.idx ≤ 2147483647
  | [], _, _, _, hy => by cases hy
  | z :: t, a, h, y, hy => by
    rw [riseP_cons] at h; simp only [Bool.and_eq_true, decide_eq_true_eq] at h
    rcases List.mem_cons.1 hy with rfl | hy
    · exact h.1
    · have := riseP_mem t z.idx h.2 y hy; omega
theorem errBs_all (txn : Bool) : ∀ (l : List BatR), errBs txn l = 0 → ∀ z ∈ l, batErr z.b = 0
  | [], _, _, hz => by cases hz
  | y :: t, h, z, hz => by
    rw [errBs_cons] at h; obtain ⟨be, hbe⟩ : ∃ n, batErr y.b = n := ⟨_, rfl⟩; rw [hbe] at h
    by_cases h0 : be = 0
    · rw [if_neg (fun hh => hh h0)] at h
      by_cases h1 : y.b.ctl = true
      · rw [if_pos h1] at h; exact absurd h (by decide)
      rw [if_neg h1] at h
      by_cases h2 : y.b.txn ≠ txn
      · rw [if_pos h2] at h; exact absurd h (by decide)
      rw [if_neg h2] at h
      rcases List.mem_cons.1 hz with hz | hz
      · rw [hz]; exact hbe.trans h0
      · exact errBs_all txn t h z hz
    · rw [if_pos h0] at h; exact absurd h h0
theorem errPs_all (txn : Bool) (v : Int) : ∀ (l : List PartR), errPs txn v l = 0 → ∀ y ∈ l, errBs txn y.l = 0
  | [], _, _, hx => by cases hx
  | y :: t, h, x, hx => by
    rw [errPs_cons] at h
    by_cases h0 : y.l.length = 0 ∨ (v = 3 ∧ 1 < y.l.length)
    · rw [if_pos h0] at h; cases h
    rw [if_neg h0] at h
    by_cases h1 : errBs txn y.l = 0
    · rw [if_neg (by simp [h1])] at h
      rcases List.mem_cons.1 hx with rfl | hx
      · exact h1
      · exact errPs_all txn v t h x hx
    · rw [if_pos h1] at h; exact absurd h h1
theorem errPT_all (txn : Bool) (v : Int) : ∀ (l : List PTop), errPT txn v l = 0 → ∀ x ∈ l, errPs txn v x.l = 0
  | [], _, _, hx => by cases hx
  | y :: t, h, x, hx => by
    rw [errPT_cons] at h
    by_cases h1 : errPs txn v y.l = 0
    · rw [if_neg (by simp [h1])] at h
      rcases List.mem_cons.1 hx with rfl | hx
      · exact h1
      · exact errPT_all txn v t h x hx
    · rw [if_pos h1] at h; exact absurd h h1
theorem errB_zero : ∀ (l : List BatR), (∀ z ∈ l, batErr z.b = 0) → errB l = 0
  | [], _ => rfl
  | x :: t, h => by
    show (if batErr x.b = 0 then errB t else batErr x.b) = 0
    rw [if_pos (h x (by simp))]; exact errB_zero t (fun z hz => h z (by simp [hz]))
theorem encParts_le : ∀ (l : List PartR), (∀ y ∈ l, (encB y.l).length ≤ 14000 * y.l.length) → (l.flatMap encPart).length ≤ 140 * sizeP l
  | [], _ => by simp [sizeP]
  | x :: t, h => by
    have h1 := encParts_le t (fun y hy => h y (by simp [hy])); have h2 := h x (by simp)
    have h3 : (encPart x).length = 8 + (encB x.l).length := by
      unfold encPart encF; simp only [List.length_append]; have g1 : (beBytes x.idx (4 : Int).toNat).length = 4 := beBytes_length _ _; have g2 : ∀ n, (beBytes n 4).length = 4 := fun n => beBytes_length _ _
      rw [g1, g2]
      omega
    rw [List.flatMap_cons, List.length_append, h3]; simp only [sizeP]
    omega
theorem encPTops_le : ∀ (l : List PTop), (∀ x ∈ l, ∀ y ∈ x.l, (encB y.l).length ≤ 14000 * y.l.length) → (l.flatMap encPTop).length ≤ 140 * sizeT l
  | [], _ => by simp [sizeT]
  | x :: t, h => by
    have h1 := encPTops_le t (fun y hy => h y (by simp [hy])); have h2 := encParts_le x.l (h x (by simp))
    have h3 : (encPTop x).length = 6 + x.name.length + (x.l.flatMap encPart).length := by
      unfold encPTop encF; simp only [List.length_append]; have g1 : (beBytes (x.l.length : Int) (4 : Int).toNat).length = 4 := beBytes_length _ _; have g2 : ∀ n, (beBytes n 2).length = 2 := fun n => beBytes_length _ _
      rw [g1, g2]
      omega
    rw [List.flatMap_cons, List.length_append, h3]; simp only [sizeT]
    omega
theorem encB_le14 : ∀ (l : List BatR), (∀ x ∈ l, x.b.enc.length ≤ 14000) → (encB l).length ≤ 14000 * l.length
  | [], _ => by simp [encB]
  | x :: t, h => by
    have h1 := encB_le14 t (fun y hy => h y (by simp [hy])); have h2 := h x (by simp); rw [encB_cons, List.length_append, List.length_cons]
    omega
structure GoodReq (nl : Bool) (dd : Bs) (ac tm : Int) (l : List PTop) : Prop where
  right : (⟨nl, dd⟩ : BlobS).right = true
  id : dd.length ≤ 32767
  hac : -1 ≤ ac ∧ ac ≤ 1
  htm : 0 ≤ tm ∧ tm < 2147483648
  few : l.length ≤ 1000000
  put : ∀ x ∈ l, PutT x
  wr : ∀ x ∈ l, WrT x
  bk : ∀ x ∈ l, BkT x
  len : (encPReq nl dd ac tm l).length ≤ 300000
set_option maxHeartbeats 2000000 in
theorem GoodReq.of {nl : Bool} {dd : Bs} {ac tm v : Int} {l : List PTop} (he : errReq ⟨nl, dd⟩ ac tm v l = 0) (hf : ∀ x ∈ l, FewT20 x) (hs : ∀ x ∈ l, SmT x) (hz : ∀ j, j ≤ l.length → AllP (l.take j) → j = 0 ∨ dd.length + sizeT (l.take j) ≤ 2000) : GoodReq nl dd ac tm l := by
 unfold errReq at he
 by_cases h1 : (⟨nl, dd⟩ : BlobS).right = false ∨ ((⟨nl, dd⟩ : BlobS).null = false ∧ keyRight (⟨nl, dd⟩ : BlobS).data = false)
 · rw [if_pos h1] at he; cases he
 rw [if_neg h1] at he
 by_cases h2 : ac < -1 ∨ 1 < ac ∨ tm < 0 ∨ 2147483647 < tm
 · rw [if_pos h2] at he; cases he
 rw [if_neg h2] at he
 by_cases h3 : errTops l = 0
 rotate_left
 · rw [if_pos h3] at he; exact absurd he h3
 rw [if_neg (by simp [h3])] at he; have hr : (⟨nl, dd⟩ : BlobS).right = true := by cases hh : (⟨nl, dd⟩ : BlobS).right with | true => rfl | false => exact absurd (.inl hh) h1
 have h0 : l.length ≠ 0 := fun hh => by unfold errTops at h3; rw [if_pos hh] at h3; cases h3
 have ht : errT [] l = 0 := by unfold errTops at h3; rw [if_neg h0] at h3; exact h3
 have hT := errT_all l [] ht
 have hsz : dd.length + sizeT l ≤ 2000 := by
  rcases hz l.length (Nat.le_refl _) (by rw [List.take_length]; exact fun x hx => (hT x hx).1) with h | h
  · exact absurd h h0
  · rwa [List.take_length] at h
 have hP := errPT_all (!nl) v l he; have hbat : ∀ x ∈ l, ∀ y ∈ x.l, ∀ z ∈ y.l, batErr z.b = 0 := fun x hx y hy z hz => errBs_all _ y.l (errPs_all _ _ x.l (hP x hx) y hy) z hz
 have hfit : ∀ x ∈ l, ∀ y ∈ x.l, ∀ z ∈ y.l, z.Fit := fun x hx y hy z hz => ((hf x hx).parts y hy).fit z hz
 have hlen : ∀ x ∈ l, x.name.length ≤ 2000 ∧ x.l.length ≤ 200 ∧ ∀ y ∈ x.l, y.l.length ≤ 20 := fun x hx => by
  have g1 := sizeT_mem l x hx; have g2 := sizeP_len x.l; refine ⟨by omega, by omega, fun y hy => ?_⟩; have g3 := sizeP_mem x.l y hy
  omega
 have hput : ∀ x ∈ l, PutT x := fun x hx => ⟨by have := (hlen x hx).1; omega, by have := (hlen x hx).2.1; omega, fun y hy =>
  ⟨(hlen x hx).2.2 y hy, hfit x hx y hy, fun z hz => hs x hx y hy z hz, errB_zero y.l (hbat x hx y hy), by have := riseP_mem x.l (-1) (hT x hx).2.2 y hy; omega⟩⟩
 have hso : ∀ x ∈ l, ∀ y ∈ x.l, ∀ z ∈ y.l, SmallOk z.b := fun x hx y hy z hz => BatR.small (hfit x hx y hy z hz) (hs x hx y hy z hz) (hbat x hx y hy z hz)
 have hl14 := encPTops_le l (fun x hx y hy => encB_le14 y.l (fun z hz => BatR.elen (hfit x hx y hy z hz) (hs x hx y hy z hz))); have hl10 := sizeT_len l; refine ⟨hr, by omega, by omega, by omega, by omega, hput, fun x hx => ⟨by have := (hlen x hx).1; omega, fun y hy => ⟨by have := ((hput x hx).parts y hy).idx; omega, fun z hz => ⟨(hfit x hx y hy z hz).2.2, hso x hx y hy z hz⟩⟩⟩, fun x hx => ⟨by have := (hlen x hx).1; omega, by have := (hlen x hx).2.1; omega, fun y hy => ⟨by have := ((hput x hx).parts y hy).idx; omega, by have := ((hput x hx).parts y hy).len; omega, hso x hx y hy⟩⟩, ?_⟩
 have e : (encPReq nl dd ac tm l).length = 12 + dd.length + (l.flatMap encPTop).length := by
  unfold encPReq encF; simp only [List.length_append]; have g1 : (beBytes (l.length : Int) (4 : Int).toNat).length = 4 := beBytes_length _ _; have g2 : ∀ n, (beBytes n 2).length = 2 := fun n => beBytes_length _ _
  have g3 : (beBytes tm (4 : Int).toNat).length = 4 := beBytes_length _ _; have g4 : (beBytes ac (2 : Int).toNat).length = 2 := beBytes_length _ _; rw [g1, g2, g3, g4]
  omega
 rw [e]
 omega
theorem buildBatV (b : BatS) (sl : Value) (w : World) : (Instr.buildSlice 66 1 #[(0, .agg #[.int .i64 b.base, .int .i64 b.leader, .bool b.app, .bool b.txn, .bool b.ctl, .int .i64 b.last, .int .i64 b.first, .int .i64 b.maxt, .int .i64 b.prod, .int .i64 b.epoch, .int .i64 b.seq, sl])]).run Tryz.prog w = .ok (.slice (some ⟨w.heap.size, 0, none⟩) 1 1) (w.alloc (.cells #[.int .i64 b.base, .int .i64 b.leader, .bool b.app, .bool b.txn, .bool b.ctl, .int .i64 b.last, .int .i64 b.first, .int .i64 b.maxt, .int .i64 b.prod, .int .i64 b.epoch, .int .i64 b.seq, sl] 58 (0, 0))) := by go_simp
theorem exec_buildB {o : Oper} {ρ : Operand → Value} (ps : Array (Nat × Value)) (v : Value) (w w' : World) (ho : execOp ρ o = (do pure (Next.value (← Instr.buildSlice 66 1 ps)))) (hb : (Instr.buildSlice 66 1 ps).run Tryz.prog w = .ok v w') : (execOp ρ o).run Tryz.prog w = .ok (.value v) w' := by
 rw [ho]; simp [hb]

set_option maxHeartbeats 8000000 in
set_option maxRecDepth 100000 in
theorem read_partG0 (p : Nat) (i i1 i2 i3 j : InS) (a : Int) (d : Bs) (l : List BatS) (h1 : i.int 4 = (a, i1)) (h2 : i1.fixed 4 = (⟨false, d⟩, i2)) (h3 : i2 = i3) (hj : (match batsS d with | .ok l => ((a, l), i3) | .error e => ((a, []), i3.fail e)) = ((a, l), j)) (hd : d.length ≤ 1000000) (hg : j.err = 0) {W0 w : World} {K : Know} {L : List Res} (h : St W0 w K (.inp p i :: L)) :
  Calls Tryz.prog 79 #[inPtr p] w fun en w' => ∃ (q : Option Addr) (n cap : Nat) (lr : List BatR) (K2 : Know), en = .returned (.agg #[.int .i64 a, .slice q n cap]) ∧ K2.has K ∧ (j.err = 0 → n = lr.length ∧ lr.map BatR.b = l ∧ K2.has (Know.bats (.slice q n cap) lr) ∧ ∀ x ∈ lr, x.l.map (·.1) = x.b.recs) ∧ St W0 w' K2 (.inp p j :: L) := by
 obtain ⟨rb, hrb⟩ : ∃ b, w.heap.size = b := ⟨_, rfl⟩; obtain ⟨pb, hpb⟩ : ∃ b, rb + 1 = b := ⟨_, rfl⟩; have g1 := ((h.allocRaw #[.int .i64 0, .slice none 0 0] 68).allocRaw #[.int .i64 0, .slice none 0 0] 68).p2; simp only [World.size_alloc, hrb, hpb] at g1; have H := Lib.hid g1; have H1 := Lib.hid h1; have H2 := Lib.hid h2; have H3 := Lib.hid h3; have HJ := Lib.hid hj; have HG := Lib.hid hg; have HDL := Lib.hid hd; have HDM := Lib.hid (show d.length ≤ 140737488355328 by omega); have hdi : (d.length : Int) ≤ 1000000 := by omega
 clear h g1 h1 h2 h3 hj hd hg; go_enter Tryz.func79, Tryz.ntmps79
 go_wp2_with (first
  | (go_at_call 44; (with_reducible refine (p_int p i i1 a 4 H1.out H.out).mono ?_); rintro e_ wn ⟨rfl, h⟩; have h := h.p1; have x0 := h.rawFree 0; have x1 := h.rawCell 0; simp at x1; have h := (show St W0 (wn.setCell ⟨pb, 0, none⟩ (.int .i64 a)) K (.inp p i1 :: .raw pb #[.int .i64 a, .slice none 0 0] 68 :: .raw rb #[.int .i64 0, .slice none 0 0] 68 :: L) from (h.rawSet 0 (.int .i64 a)).p1); replace H := Lib.hid h; clear h)
  | (go_at_call 43; (with_reducible refine (p_fixed p i1 i2 4 false d H2.out H.out).mono ?_); rintro e_ wn ⟨rfl, h⟩; obtain ⟨qb, hqb⟩ : ∃ b, wn.heap.size = b := ⟨_, rfl⟩; have h := h.allocRaw #[.bool false, .string (bb d)] 23; rw [hqb] at h; have x2 := h.rawCell 0; have x3 := h.rawCell 1; simp at x2 x3; replace H := Lib.hid h; clear h)
  | (go_at_call 14; clear x2 x3; (with_reducible refine (s_new d HDM.out H.out.drop).mono ?_); rintro e_ wn ⟨bi, rfl, h⟩; rw [H3.out] at h; replace H := Lib.hid h; clear h))
 go_loopw [19] (fun _ wr => ∃ (v : Value) (n : Nat) (xs : List Value) (pos : Nat) (er : Int) (K2 : Know), Hid (K2.has K) ∧ Hid (PartJ K2 d n xs pos er) ∧ St W0 wr K2 (.row v 58 12 n xs :: .raw pb #[.int .i64 a, v] 68 :: .inp bi ⟨d, pos, er⟩ :: .raw rb #[.int .i64 0, .slice none 0 0] 68 :: .inp p i3 :: L)) (fun _ wr => PInM bi d.length wr)
 case atStart =>
  refine ⟨.slice none 0 0, 0, [], 0, 0, K, Lib.hid (Know.has_refl _), Lib.hid (.inl ⟨rfl, Nat.zero_le _, by omega, [], rfl, rfl, by rw [List.drop_zero]; exact preB_nil _, fun x hx => (by cases hx), fun x hx => (by cases hx)⟩), ?_⟩; have h9 := H.out; exact (h9.p1.p3.p2.p3.nilRow 58 12)
 case round =>
  obtain ⟨v, n, xs, pos, er, K2, HKK, HPJ, hst⟩ := hrel; clear H; obtain ⟨qv0, cv0, hv0⟩ := hst.rowAny; subst hv0; have HMS := Lib.hid (pinM (n := d.length) hst.p2); have H := Lib.hid hst; clear hst; obtain ⟨lf, hlf⟩ : ∃ lf, (⟨d, pos, er⟩ : InS).left = lf := ⟨_, rfl⟩; have HLF := Lib.hid hlf
  rcases HPJ.out with ⟨er0, hpd, hnb, acc, hn, hxs, hpre, hrec, hmp⟩ | ⟨he0, hbe⟩
  · subst er0; subst hxs; have hlf2 : d.length - pos = lf := hlf; have HREC := Lib.hid hrec; have HMP := Lib.hid hmp; have HPD := Lib.hid hpd; have HNB := Lib.hid (show n ≤ 1000000 by omega)
    by_cases hz : lf = 0
    · subst hz; have hR : d.drop pos = [] := List.drop_of_length_le (by omega); rw [hR, batsS_nil] at hpre; have hpre : Except.ok (acc.map BatR.b ++ []) = batsS d := hpre
      have HB := Lib.hid (show acc.map BatR.b = l ∧ i3 = j by
       have hj := HJ.out; rw [← hpre] at hj; simp only [List.append_nil, Prod.mk.injEq, true_and] at hj
       exact hj)
      have HN := Lib.hid hn; clear hlf hlf2 hpd hnb hn hpre hrec hmp hR
      go_wp2_with (first
  | (go_at_call 52; (with_reducible refine (p_left bi _ _ HLF.out H.out.p2).mono ?_); rintro e_ wn ⟨rfl, h⟩; have h := h.p2.p2; replace H := Lib.hid h; clear h)
  | (go_at_call 20; (try clear y0 y1 w0 w1 v0 v1); (with_reducible refine (p_err bi _ 0 rfl H.out.p2).mono ?_); rintro e_ wn ⟨rfl, h⟩; have h := h.p2.p2; have y0 := h.p1.rawCell 0; have y1 := h.p1.rawCell 1; have w0 := h.p3.rawFree 0; have w1 := h.p3.rawFree 1; have v0 := h.p3.rawCell 0; have v1 := h.p3.rawCell 1; simp at y0 y1 v0 v1; replace H := Lib.hid h; clear h))
      have hz : St W0 _ _ (.raw rb #[.int .i64 a, .slice qv0 n cv0] 68 :: _) := ((H.out.p3.rawSet 0 (.int .i64 a)).rawSet 1 (.slice qv0 n cv0)); refine bodyPost_ret (rc_cell_onlyP rfl _ _ rb [.int .i64 a, .slice qv0 n cv0] _ rfl (rc_rangeP hz) Tryz.underlying68 rfl (by kernel_rfl)) rfl ?_; have hr := hz.drop; have hn := HN.out; subst hn; have hf := hr.freezeBatsP HREC.out; obtain ⟨hl9, hj9⟩ := HB.out; subst hj9; exact ⟨qv0, _, cv0, acc, K2.and (Know.bats (.slice qv0 acc.length cv0) acc), rfl, Know.has_trans (Know.has_left (Know.has_refl _)) HKK.out, fun _ => ⟨rfl, hl9, Know.has_right (Know.has_refl _), HMP.out⟩, hf.drop.drop⟩
    · have hlp : (0 : Int) < (lf : Int) := by omega
      have hR0 : d.drop pos ≠ [] := by intro hh; have := congrArg List.length hh; rw [List.length_drop, List.length_nil] at this; omega
      cases hrb2 : reBat (d.drop pos) with
      | error e =>
       have hbe : batsS d = .error e := by rw [← hpre, batsS_err hR0 hrb2]; rfl
       exact absurd HG.out (fail_ne (by have hj := HJ.out; rw [hbe] at hj; exact congrArg Prod.snd hj) (reBat_ne hrb2))
      | ok y =>
       obtain ⟨b, n2⟩ := y; obtain ⟨xp, _, hn61, hnl, _⟩ := reBat_ok hrb2; rw [List.length_drop] at hnl; have HRB := Lib.hid hrb2; have HN2 := Lib.hid (show 61 ≤ n2 by omega); have HPN := Lib.hid (show pos + n2 ≤ d.length by omega)
       have HNX := Lib.hid (show ∀ (q : Option Addr) (l : List (RecS × Value)) (cap : Nat), l.map (·.1) = b.recs → PartJ (K2.and (Know.recs (.slice q l.length cap) l)) d (n + 1) (acc.flatMap pbcells ++ [.int .i64 b.base, .int .i64 b.leader, .bool b.app, .bool b.txn, .bool b.ctl, .int .i64 b.last, .int .i64 b.first, .int .i64 b.maxt, .int .i64 b.prod, .int .i64 b.epoch, .int .i64 b.seq, .slice q l.length cap]) (pos + n2) 0 from fun q l cap hl => .inl ⟨rfl, by omega, by omega, acc ++ [⟨b, l, q, cap⟩], by rw [List.length_append, hn]; rfl, by rw [List.flatMap_append]; rfl, by
        rw [List.map_append]
        show preB (acc.map BatR.b ++ [b]) _ = _
        rw [preB_snoc, ← List.drop_drop, ← batsS_ok hR0 hrb2]
        exact hpre, fun x hx => by
        rcases List.mem_append.1 hx with hx | hx
        · exact Know.has_left (hrec x hx)
        · rw [List.mem_singleton.1 hx]; exact Know.has_right (Know.has_refl _), fun x hx => by
        rcases List.mem_append.1 hx with hx | hx
        · exact hmp x hx
        · rw [List.mem_singleton.1 hx]; exact hl⟩)
       clear hlf hlf2 hpd hnb hn hpre hrec hmp hR0 hrb2 hz hn61 hnl
       go_wp2_with (first
  | (go_at_call 52; (with_reducible refine (p_left bi _ _ HLF.out H.out.p2).mono ?_); rintro e_ wn ⟨rfl, h⟩; have h := h.p2.p2; replace H := Lib.hid h; clear h)
  | (go_at_call 20; (try clear y0 y1 w0 w1 v0 v1); (with_reducible refine (p_err bi _ 0 rfl H.out.p2).mono ?_); rintro e_ wn ⟨rfl, h⟩; have h := h.p2.p2; have y0 := h.p1.rawCell 0; have y1 := h.p1.rawCell 1; have w0 := h.p3.rawFree 0; have w1 := h.p3.rawFree 1; have v0 := h.p3.rawCell 0; have v1 := h.p3.rawCell 1; simp at y0 y1 v0 v1; replace H := Lib.hid h; clear h))
       have hs := H.out.drew; refine wp_region_held_drew (S := fun _ => True) (by kernel_rfl) trivial (fun hHeld => ?_); refine tQ 0 ⟨some 27, .fieldAddr 68 (.tmp 3) 1, 0, _, _, none⟩ ?_; simp only [Act.put, sA, sB, sC]; refine tQ 2 ⟨some 29, .move (.tmp 5), 44, _, _, none⟩ ?_; simp only [Act.put, sA, sB, sC]; refine wpAnyH_ready (rs := [1, 3]) (by kernel_rfl) (by simp) (AllReadyH.cons (o := ⟨some 28, .load 66 (.tmp 27), 66, _, _, none⟩) rfl (fun KK hK => ?_) (AllReadyH.cons (o := ⟨some 30, .call { callee := .value (.func 109), args := #[.tmp 29], argTypes := #[44] }, 58, _, _, none⟩) rfl (fun KK hK => ?_) AllReadyH.nil))
       focus
        have z1 := hs.p1.rawCell 1; simp at z1; go_simp; refine hK.out _ _ (trivial) (fun hHeld => ?_); clear hK KK
        try simp only [Act.put, sA, sB, sC]
        clear z1; refine wpAnyH_ready (rs := [3]) (by kernel_rfl) (by simp) (AllReadyH.cons (o := ⟨some 30, .call { callee := .value (.func 109), args := #[.tmp 29], argTypes := #[44] }, 58, _, _, none⟩) rfl (fun KK hK => ?_) AllReadyH.nil); go_simp; go_at_call 109; with_reducible refine (bat_read_good bi d pos HDL.out HPD.out b n2 HRB.out hs.p2).mono ?_; rintro e wq ⟨q, l, cap, rfl, hlr, hs⟩; refine hK.out _ _ (trivial) (fun hHeld => ?_); clear hK KK
        try simp only [Act.put, sA, sB, sC]
        have hs := hs.p2.p2; have HLR := Lib.hid hlr; clear hlr; refine wpAnyH_ready (rs := [4]) (by kernel_rfl) (by simp) (AllReadyH.cons (o := ⟨some 31, .buildSlice 66 1 #[(0, .tmp 30)], 66, _, _, none⟩) rfl (fun KK hK => ?_) AllReadyH.nil); rw [if_pos (by rfl)]; refine op_value (exec_buildB _ _ _ _ (by kernel_rfl) (buildBatV b (.slice q l.length cap) _)) ?_; obtain ⟨wy, b2, ey, eb, hs⟩ := hs.allocEx #[.int .i64 b.base, .int .i64 b.leader, .bool b.app, .bool b.txn, .bool b.ctl, .int .i64 b.last, .int .i64 b.first, .int .i64 b.maxt, .int .i64 b.prod, .int .i64 b.epoch, .int .i64 b.seq, .slice q l.length cap] 58; rw [ey, eb]; clear ey eb; refine hK.out _ _ (trivial) (fun hHeld => ?_); clear hK KK
        try simp only [Act.put, sA, sB, sC]
       rotate_left
       focus
        go_simp; go_at_call 109; with_reducible refine (bat_read_good bi d pos HDL.out HPD.out b n2 HRB.out hs.p2).mono ?_; rintro e wq ⟨q, l, cap, rfl, hlr, hs⟩; refine hK.out _ _ (trivial) (fun hHeld => ?_); clear hK KK
        try simp only [Act.put, sA, sB, sC]
        have hs := hs.p2.p2; have HLR := Lib.hid hlr; clear hlr; refine wpAnyH_ready (rs := [1, 4]) (by kernel_rfl) (by simp) (AllReadyH.cons (o := ⟨some 28, .load 66 (.tmp 27), 66, _, _, none⟩) rfl (fun KK hK => ?_) (AllReadyH.cons (o := ⟨some 31, .buildSlice 66 1 #[(0, .tmp 30)], 66, _, _, none⟩) rfl (fun KK hK => ?_) AllReadyH.nil))
        focus
         have z1 := hs.p1.rawCell 1; simp at z1; go_simp; refine hK.out _ _ (trivial) (fun hHeld => ?_); clear hK KK
         try simp only [Act.put, sA, sB, sC]
         clear z1; refine wpAnyH_ready (rs := [4]) (by kernel_rfl) (by simp) (AllReadyH.cons (o := ⟨some 31, .buildSlice 66 1 #[(0, .tmp 30)], 66, _, _, none⟩) rfl (fun KK hK => ?_) AllReadyH.nil); rw [if_pos (by rfl)]; refine op_value (exec_buildB _ _ _ _ (by kernel_rfl) (buildBatV b (.slice q l.length cap) _)) ?_; obtain ⟨wy, b2, ey, eb, hs⟩ := hs.allocEx #[.int .i64 b.base, .int .i64 b.leader, .bool b.app, .bool b.txn, .bool b.ctl, .int .i64 b.last, .int .i64 b.first, .int .i64 b.maxt, .int .i64 b.prod, .int .i64 b.epoch, .int .i64 b.seq, .slice q l.length cap] 58; rw [ey, eb]; clear ey eb; refine hK.out _ _ (trivial) (fun hHeld => ?_); clear hK KK
         try simp only [Act.put, sA, sB, sC]
        rotate_left
        focus
         rw [if_pos (by rfl)]; refine op_value (exec_buildB _ _ _ _ (by kernel_rfl) (buildBatV b (.slice q l.length cap) _)) ?_; obtain ⟨wy, b2, ey, eb, hs⟩ := hs.allocEx #[.int .i64 b.base, .int .i64 b.leader, .bool b.app, .bool b.txn, .bool b.ctl, .int .i64 b.last, .int .i64 b.first, .int .i64 b.maxt, .int .i64 b.prod, .int .i64 b.epoch, .int .i64 b.seq, .slice q l.length cap] 58; rw [ey, eb]; clear ey eb; refine hK.out _ _ (trivial) (fun hHeld => ?_); clear hK KK
         try simp only [Act.put, sA, sB, sC]
         refine wpAnyH_ready (rs := [1]) (by kernel_rfl) (by simp) (AllReadyH.cons (o := ⟨some 28, .load 66 (.tmp 27), 66, _, _, none⟩) rfl (fun KK hK => ?_) AllReadyH.nil); have z1 := hs.p2.rawCell 1; simp at z1; go_simp; refine hK.out _ _ (trivial) (fun hHeld => ?_); clear hK KK
         try simp only [Act.put, sA, sB, sC]
         clear z1
       all_goals
        refine wpAnyH_ready (rs := [5]) (by kernel_rfl) (by simp) (AllReadyH.cons (o := ⟨some 32, .call { callee := .builtin .append, args := #[.tmp 28, .tmp 31], argTypes := #[66, 66] }, 66, _, _, none⟩) rfl (fun KK hK => ?_) AllReadyH.nil); rw [if_pos (by rfl)]; refine op_app1 (.tmp 28) (.tmp 31) 66 rfl 58 Tryz.underlying66 elem_batP _ _ _ (by rfl) b2 #[.int .i64 b.base, .int .i64 b.leader, .bool b.app, .bool b.txn, .bool b.ctl, .int .i64 b.last, .int .i64 b.first, .int .i64 b.maxt, .int .i64 b.prod, .int .i64 b.epoch, .int .i64 b.seq, .slice q l.length cap] 58 hs (by rfl) rfl (by simp [Value.oneCell']) (by have := HNB.out; unfold maxLen; omega) (by have := HNB.out; omega) (fun v' w' h => ?_); have hs := h; clear h; obtain ⟨qv, cv, hv⟩ := hs.rowAny; subst hv; refine hK.out _ _ (trivial) (fun hHeld => ?_); clear hK KK
        try simp only [Act.put, sA, sB, sC]
        refine tQ 6 ⟨some 33, .fieldAddr 68 (.tmp 3) 1, 0, _, _, none⟩ ?_; simp only [Act.put, sA, sB, sC]; refine wpAnyH_ready (rs := [7]) (by kernel_rfl) (by simp) (AllReadyH.cons (o := ⟨none, .store 66 (.tmp 33) (.tmp 32), 0, _, _, none⟩) rfl (fun KK hK => ?_) AllReadyH.nil); have hs := hs.p1; have q1 := hs.rawFree 1; have z1 := hs.rawCell 1; simp at z1; rw [if_pos (by rfl)]; refine op_skip (w' := w'.setCell ⟨pb, 1, none⟩ (.slice qv (n + 1) cv)) (by go_simp) ?_; obtain ⟨wz, ez, hs⟩ := hs.setExP 1 (.slice qv (n + 1) cv); rw [ez]; clear ez q1 z1; have hs := hs.p1; refine hK.out _ _ (trivial) (fun hHeld => ?_); clear hK KK
        try simp only [Act.put]
        refine wpAnyH_done (by kernel_rfl) ?_ _; clear hHeld; go_wp2_with fail; go_roundw
        case rel =>
         refine ⟨.slice qv (n + 1) cv, n + 1, acc.flatMap pbcells ++ [.int .i64 b.base, .int .i64 b.leader, .bool b.app, .bool b.txn, .bool b.ctl, .int .i64 b.last, .int .i64 b.first, .int .i64 b.maxt, .int .i64 b.prod, .int .i64 b.epoch, .int .i64 b.seq, .slice q l.length cap], pos + n2, 0, K2.and (Know.recs (.slice q l.length cap) l), ?_, ?_, ?_⟩
         · exact Lib.hid (Know.has_trans (Know.has_left (Know.has_refl _)) HKK.out)
         · exact Lib.hid (HNX.out q l cap HLR.out)
         · exact hs
        case measure =>
         rw [pinM hs.p2, HMS.out]; have := HN2.out; have := HPN.out
         show (if (0 : Int) ≠ 0 then 0 else d.length + 1 - (pos + n2)) < if (0 : Int) ≠ 0 then 0 else d.length + 1 - pos
         rw [if_neg (by simp), if_neg (by simp)]
         omega
  · exact absurd HG.out (fail_ne (by have hj := HJ.out; rw [hbe] at hj; exact congrArg Prod.snd hj) he0)

theorem fail_keep {i : InS} {e : Int} (h : i.err ≠ 0) : (i.fail e).err ≠ 0 := by unfold InS.fail; rw [if_neg h]; exact h
theorem read_partG (p : Nat) (i j : InS) (a : Int) (l : List BatS) (hx : i.ppart = ((a, l), j)) (hd : (((i.int 4).2.fixed 4).1.data).length ≤ 1000000) (hg : j.err = 0) {W0 w : World} {K : Know} {L : List Res} (h : St W0 w K (.inp p i :: L)) :
  Calls Tryz.prog 79 #[inPtr p] w fun en w' => ∃ (q : Option Addr) (n cap : Nat) (lr : List BatR) (K2 : Know), en = .returned (.agg #[.int .i64 a, .slice q n cap]) ∧ K2.has K ∧ (j.err = 0 → n = lr.length ∧ lr.map BatR.b = l ∧ K2.has (Know.bats (.slice q n cap) lr) ∧ ∀ x ∈ lr, x.l.map (·.1) = x.b.recs) ∧ St W0 w' K2 (.inp p j :: L) := by
 obtain ⟨⟨a1, i1⟩, h1⟩ : ∃ r, i.int 4 = r := ⟨_, rfl⟩; obtain ⟨⟨⟨nu, d⟩, i2⟩, h2⟩ : ∃ r, i1.fixed 4 = r := ⟨_, rfl⟩; unfold InS.ppart at hx; rw [h1] at hx hd; simp only at hx hd; rw [h2] at hx hd; simp only at hx hd
 have ha : a1 = a := by
  revert hx
  cases batsS d <;> intro hx <;> simp only [Prod.mk.injEq] at hx <;> exact hx.1.1
 subst ha
 cases nu with
 | true =>
  rw [if_pos rfl] at hx; have h4 : (i2.fail 4).err ≠ 0 := fail_ne rfl (by decide)
  exfalso
  revert hx
  cases batsS d with
  | ok l2 => intro hx; have e : i2.fail 4 = j := congrArg Prod.snd hx; rw [e] at h4; exact h4 hg
  | error e2 => intro hx; have e : (i2.fail 4).fail e2 = j := congrArg Prod.snd hx; have h5 := fail_keep (e := e2) h4; rw [e] at h5; exact h5 hg
 | false => exact read_partG0 p i i1 i2 _ j a1 d l h1 h2 rfl (by rw [if_neg (by simp)] at hx; exact hx) hd hg h
theorem buildPV12 (a : Int) (sl : Value) (w : World) : (Instr.buildSlice 63 1 #[(0, .agg #[.int .i64 a, sl])]).run Tryz.prog w = .ok (.slice (some ⟨w.heap.size, 0, none⟩) 1 1) (w.alloc (.cells #[.int .i64 a, sl] 68 (0, 0))) := by go_simp
theorem exec_buildP12 {o : Oper} {ρ : Operand → Value} (ps : Array (Nat × Value)) (v : Value) (w w' : World) (ho : execOp ρ o = (do pure (Next.value (← Instr.buildSlice 63 1 ps)))) (hb : (Instr.buildSlice 63 1 ps).run Tryz.prog w = .ok v w') : (execOp ρ o).run Tryz.prog w = .ok (.value v) w' := by
 rw [ho]; simp [hb]
theorem zq41 {p : Prop} (h : p := by
  exact Lib.hid (fun x hx => by
  rcases List.mem_append.1 hx with hx | hx
  · exact ⟨Know.has_trans HK3.out (HALL.out x hx).1, (HALL.out x hx).2⟩
  · rw [List.mem_singleton.1 hx]; exact ⟨hkb, hmb⟩)) : p := h
set_option maxHeartbeats 8000000 in
set_option maxRecDepth 100000 in
theorem read_topG (p : Nat) (i j : InS) (nm : Bs) (ps : List (Int × List BatS)) (hx : i.ptop = ((nm, ps), j)) (hd : i.s.length ≤ 1000000) (hg : j.err = 0) {W0 w : World} {K : Know} {L : List Res} (h : St W0 w K (.inp p i :: L)) :
  Calls Tryz.prog 46 #[inPtr p] w fun en w' => ∃ (q : Option Addr) (n cap : Nat) (lr : List PartR) (K2 : Know), en = .returned (.agg #[.string (bb nm), .slice q n cap]) ∧ K2.has K ∧ (j.err = 0 → n = lr.length ∧ lr.map PartR.pb = ps ∧ K2.has (Know.pparts (.slice q n cap) lr) ∧ ∀ x ∈ lr, ∀ y ∈ x.l, y.l.map (·.1) = y.b.recs) ∧ St W0 w' K2 (.inp p j :: L) := by
 obtain ⟨⟨n1, i1⟩, h1⟩ : ∃ r, i.text = r := ⟨_, rfl⟩; obtain ⟨⟨n, c⟩, h2⟩ : ∃ r, i1.cnt 8 = r := ⟨_, rfl⟩; have hs0 : c.s = i.s := by have := cnt_s12 i1 8; rw [h2] at this; rw [this]; have := text_s12 i; rw [h1] at this; exact this
 have hnl := cnt_nat12 i1 8; rw [h2] at hnl
 have hx2 : n1 = nm ∧ InS.ppartsN n [] c = (ps, j) := by
  unfold InS.ptop at hx; rw [h1] at hx; simp only at hx; rw [h2] at hx; simp only [Prod.mk.injEq] at hx; exact ⟨hx.1.1, Prod.ext hx.1.2 hx.2⟩
 obtain ⟨rfl, hx2⟩ := hx2; obtain ⟨rb, hrb⟩ : ∃ b, w.heap.size = b := ⟨_, rfl⟩; obtain ⟨tb, htb⟩ : ∃ b, rb + 1 = b := ⟨_, rfl⟩; have g1 := ((h.allocRaw #[.string ⟨#[]⟩, .slice none 0 0] 65).allocRaw #[.string ⟨#[]⟩, .slice none 0 0] 65).p2; simp only [World.size_alloc, hrb, htb] at g1; have H := Lib.hid g1; have H1 := Lib.hid h1; have H2 := Lib.hid h2; have HX0 := Lib.hid hx2; have HG := Lib.hid hg; have HS0 := Lib.hid hs0; have HDL := Lib.hid hd; have HNL := Lib.hid (show n ≤ 2147483647 from hnl.2); have hni : (n : Int) ≤ 2147483647 := by have := HNL.out; omega
 clear hg h g1 h1 h2 hx hx2 hd hnl hs0; go_enter Tryz.func46, Tryz.ntmps46
 go_wp2_with (first
  | (go_at_call 78; (with_reducible refine (p_text p i i1 _ H1.out H.out).mono ?_); rintro e_ wn ⟨rfl, h⟩; have h := h.p1; have x0 := h.rawFree 0; have x1 := h.rawCell 0; simp at x1; have h := (show St W0 (wn.setCell ⟨tb, 0, none⟩ (.string (bb n1))) K (.inp p i1 :: .raw tb #[.string (bb n1), .slice none 0 0] 65 :: .raw rb #[.string ⟨#[]⟩, .slice none 0 0] 65 :: L) from (h.rawSet 0 (.string (bb n1))).p1); replace H := Lib.hid h; clear h)
  | (go_at_call 45; (with_reducible refine (p_cnt p i1 c 8 n 8 rfl H2.out H.out).mono ?_); rintro e_ wn ⟨rfl, h⟩; replace H := Lib.hid h; clear h))
 go_loopw [9] (fun iv wr => ∃ (k : Nat) (v : Value) (xs : List Value) (i2 : InS) (acc : List PartR) (K2 : Know), k ≤ n ∧ iv = .int .i64 k ∧ Hid (k = acc.length) ∧ Hid (xs = acc.flatMap pcells) ∧ Hid (InS.ppartsN (n - k) (acc.map PartR.pb) i2 = (ps, j)) ∧ Hid (K2.has K) ∧ Hid (∀ x ∈ acc, K2.has (Know.bats (.slice x.q x.l.length x.cap) x.l) ∧ ∀ y ∈ x.l, y.l.map (·.1) = y.b.recs) ∧ Hid (i2.s = i.s) ∧ St W0 wr K2 (.row v 68 2 k xs :: .raw tb #[.string (bb n1), v] 65 :: .inp p i2 :: .raw rb #[.string ⟨#[]⟩, .slice none 0 0] 65 :: L)) (fun iv _ => n - (intOf iv).toNat)
 case atStart =>
  refine ⟨0, .slice none 0 0, [], c, [], K, Nat.zero_le _, rfl, Lib.hid rfl, Lib.hid rfl, Lib.hid HX0.out, Lib.hid (Know.has_refl _), Lib.hid (fun x hx => by cases hx), Lib.hid HS0.out, ?_⟩; exact (H.out.p1.nilRow 68 2)
 case round =>
  obtain ⟨k, v, xs, i2, acc, K2, hk, rfl, HAL, HXS, HP, HKK, HALL, HS, hst⟩ := hrel; clear H; obtain ⟨qv0, cv0, hv0⟩ := hst.rowAny; subst hv0; have y0 := hst.p1.rawCell 0; have y1 := hst.p1.rawCell 1; have w0 := hst.p3.rawFree 0; have w1 := hst.p3.rawFree 1; have v0 := hst.p3.rawCell 0; have v1 := hst.p3.rawCell 1; simp at y0 y1 v0 v1; have H := Lib.hid hst; clear hst
  by_cases hlt : k < n
  · clear y0 y1 w0 w1 v0 v1; obtain ⟨⟨⟨a, bl⟩, i3⟩, hi3⟩ : ∃ r, i2.ppart = r := ⟨_, rfl⟩; obtain ⟨er, her⟩ : ∃ er, i3.err = er := ⟨_, rfl⟩; have HX := Lib.hid hi3; have HS3 := Lib.hid (show i3.s = i.s by have := ppart_s12 i2; rw [hi3] at this; rw [this]; exact HS.out)
    have hstep : (if er = 0 then InS.ppartsN (n - (k + 1)) (acc.map PartR.pb ++ [(a, bl)]) i3 else ([], i3)) = (ps, j) := by
      have h1 := HP.out; rw [show n - k = (n - (k + 1)) + 1 by omega] at h1; have h2 : (if i2.ppart.2.err = 0 then InS.ppartsN (n - (k + 1)) (acc.map PartR.pb ++ [i2.ppart.1]) i2.ppart.2 else ([], i2.ppart.2)) = (ps, j) := h1; rw [hi3] at h2; simp only at h2; rw [her] at h2; exact h2
    have HKN := Lib.hid (show k ≤ 2147483647 by have := HNL.out; omega); have hkn : (k : Int) < (n : Int) := by omega
    have HER := Lib.hid her; clear hi3
    by_cases he0 : er = 0
    · rw [if_pos he0] at hstep; have HP2 := Lib.hid hstep; subst he0; clear hstep her; go_wp2_with fail; have hs := H.out.drew; refine wp_region_held_drew (S := fun _ => True) (by kernel_rfl) trivial (fun hHeld => ?_); refine tQ 0 ⟨some 11, .fieldAddr 65 (.tmp 3) 1, 0, _, _, none⟩ ?_; simp only [Act.put, sA, sB, sC]; refine tQ 2 ⟨some 13, .move (.tmp 0), 44, _, _, none⟩ ?_; simp only [Act.put, sA, sB, sC]; refine wpAnyH_ready (rs := [1, 3]) (by kernel_rfl) (by simp) (AllReadyH.cons (o := ⟨some 12, .load 63 (.tmp 11), 63, _, _, none⟩) rfl (fun KK hK => ?_) (AllReadyH.cons (o := ⟨some 14, .call { callee := .value (.func 79), args := #[.tmp 13], argTypes := #[44] }, 68, _, _, none⟩) rfl (fun KK hK => ?_) AllReadyH.nil))
      focus
       have z1 := hs.p1.rawCell 1; simp at z1; go_simp; refine hK.out _ _ (trivial) (fun hHeld => ?_); clear hK KK
       try simp only [Act.put, sA, sB, sC]
       clear z1; refine wpAnyH_ready (rs := [3]) (by kernel_rfl) (by simp) (AllReadyH.cons (o := ⟨some 14, .call { callee := .value (.func 79), args := #[.tmp 13], argTypes := #[44] }, 68, _, _, none⟩) rfl (fun KK hK => ?_) AllReadyH.nil); go_simp; go_at_call 79; with_reducible refine (read_partG p i2 i3 a bl HX.out (Nat.le_trans (part_len12 _) (by rw [HS.out]; exact HDL.out)) HER.out hs.p2).mono ?_; rintro e wq ⟨q, n2, cap, lr, K3, rfl, hk3, hgd, hs⟩; refine hK.out _ _ (trivial) (fun hHeld => ?_); clear hK KK
       try simp only [Act.put, sA, sB, sC]
       have hs := hs.p2.p2; refine wpAnyH_ready (rs := [4]) (by kernel_rfl) (by simp) (AllReadyH.cons (o := ⟨some 15, .buildSlice 63 1 #[(0, .tmp 14)], 63, _, _, none⟩) rfl (fun KK hK => ?_) AllReadyH.nil); rw [if_pos (by rfl)]; refine op_value (exec_buildP12 _ _ _ _ (by kernel_rfl) (buildPV12 a (.slice q n2 cap) _)) ?_; obtain ⟨wy, b2, ey, eb, hs⟩ := hs.allocEx #[.int .i64 a, .slice q n2 cap] 68; rw [ey, eb]; clear ey eb; refine hK.out _ _ (trivial) (fun hHeld => ?_); clear hK KK
       try simp only [Act.put, sA, sB, sC]
      rotate_left
      focus
       go_simp; go_at_call 79; with_reducible refine (read_partG p i2 i3 a bl HX.out (Nat.le_trans (part_len12 _) (by rw [HS.out]; exact HDL.out)) HER.out hs.p2).mono ?_; rintro e wq ⟨q, n2, cap, lr, K3, rfl, hk3, hgd, hs⟩; refine hK.out _ _ (trivial) (fun hHeld => ?_); clear hK KK
       try simp only [Act.put, sA, sB, sC]
       have hs := hs.p2.p2; refine wpAnyH_ready (rs := [1, 4]) (by kernel_rfl) (by simp) (AllReadyH.cons (o := ⟨some 12, .load 63 (.tmp 11), 63, _, _, none⟩) rfl (fun KK hK => ?_) (AllReadyH.cons (o := ⟨some 15, .buildSlice 63 1 #[(0, .tmp 14)], 63, _, _, none⟩) rfl (fun KK hK => ?_) AllReadyH.nil))
       focus
        have z1 := hs.p1.rawCell 1; simp at z1; go_simp; refine hK.out _ _ (trivial) (fun hHeld => ?_); clear hK KK
        try simp only [Act.put, sA, sB, sC]
        clear z1; refine wpAnyH_ready (rs := [4]) (by kernel_rfl) (by simp) (AllReadyH.cons (o := ⟨some 15, .buildSlice 63 1 #[(0, .tmp 14)], 63, _, _, none⟩) rfl (fun KK hK => ?_) AllReadyH.nil); rw [if_pos (by rfl)]; refine op_value (exec_buildP12 _ _ _ _ (by kernel_rfl) (buildPV12 a (.slice q n2 cap) _)) ?_; obtain ⟨wy, b2, ey, eb, hs⟩ := hs.allocEx #[.int .i64 a, .slice q n2 cap] 68; rw [ey, eb]; clear ey eb; refine hK.out _ _ (trivial) (fun hHeld => ?_); clear hK KK
        try simp only [Act.put, sA, sB, sC]
       rotate_left
       focus
        rw [if_pos (by rfl)]; refine op_value (exec_buildP12 _ _ _ _ (by kernel_rfl) (buildPV12 a (.slice q n2 cap) _)) ?_; obtain ⟨wy, b2, ey, eb, hs⟩ := hs.allocEx #[.int .i64 a, .slice q n2 cap] 68; rw [ey, eb]; clear ey eb; refine hK.out _ _ (trivial) (fun hHeld => ?_); clear hK KK
        try simp only [Act.put, sA, sB, sC]
        refine wpAnyH_ready (rs := [1]) (by kernel_rfl) (by simp) (AllReadyH.cons (o := ⟨some 12, .load 63 (.tmp 11), 63, _, _, none⟩) rfl (fun KK hK => ?_) AllReadyH.nil); have z1 := hs.p2.rawCell 1; simp at z1; go_simp; refine hK.out _ _ (trivial) (fun hHeld => ?_); clear hK KK
        try simp only [Act.put, sA, sB, sC]
        clear z1
      all_goals
       refine wpAnyH_ready (rs := [5]) (by kernel_rfl) (by simp) (AllReadyH.cons (o := ⟨some 16, .call { callee := .builtin .append, args := #[.tmp 12, .tmp 15], argTypes := #[63, 63] }, 63, _, _, none⟩) rfl (fun KK hK => ?_) AllReadyH.nil); rw [if_pos (by rfl)]; refine op_app1 (.tmp 12) (.tmp 15) 63 rfl 68 Tryz.underlying63 elem_partP _ _ _ (by rfl) b2 #[.int .i64 a, .slice q n2 cap] 68 hs (by rfl) rfl (by simp [Value.oneCell']) zq48 (by have := HKN.out; omega) (fun v' w' h => ?_); have hs := h; clear h; obtain ⟨qv, cv, hv⟩ := hs.rowAny; subst hv; refine hK.out _ _ (trivial) (fun hHeld => ?_); clear hK KK
       try simp only [Act.put, sA, sB, sC]
       refine tQ 6 ⟨some 17, .fieldAddr 65 (.tmp 3) 1, 0, _, _, none⟩ ?_; simp only [Act.put, sA, sB, sC]; refine wpAnyH_ready (rs := [7]) (by kernel_rfl) (by simp) (AllReadyH.cons (o := ⟨none, .store 63 (.tmp 17) (.tmp 16), 0, _, _, none⟩) rfl (fun KK hK => ?_) AllReadyH.nil); have hs := hs.p1; have q1 := hs.rawFree 1; have z1 := hs.rawCell 1; simp at z1; rw [if_pos (by rfl)]; refine op_skip (w' := w'.setCell ⟨tb, 1, none⟩ (.slice qv (k + 1) cv)) (by go_simp) ?_; obtain ⟨wz, ez, hs⟩ := hs.setExP 1 (.slice qv (k + 1) cv); rw [ez]; clear ez q1 z1; have hs := hs.p1; refine hK.out _ _ (trivial) (fun hHeld => ?_); clear hK KK
       try simp only [Act.put]
       refine wpAnyH_done (by kernel_rfl) ?_ _; clear hHeld; have HK3 := Lib.hid hk3; clear hk3; replace H := Lib.hid hs; clear hs; go_wp2_with (go_at_call 20; (try clear y0 y1 w0 w1 v0 v1); (with_reducible refine (p_err p i3 0 HER.out H.out.p2).mono ?_); rintro e_ wn ⟨rfl, h⟩; have h := h.p2.p2; have y0 := h.p1.rawCell 0; have y1 := h.p1.rawCell 1; have w0 := h.p3.rawFree 0; have w1 := h.p3.rawFree 1; have v0 := h.p3.rawCell 0; have v1 := h.p3.rawCell 1; simp at y0 y1 v0 v1; replace H := Lib.hid h; clear h); go_roundw
       case rel =>
        obtain ⟨hn2, hlb, hkb, hmb⟩ := hgd HER.out; subst hn2; refine ⟨k + 1, .slice qv (k + 1) cv, xs ++ [.int .i64 a, .slice q lr.length cap], i3, acc ++ [⟨a, lr, q, cap⟩], K3, hlt, by go_num, ?_, ?_, ?_, ?_, ?_, ?_, ?_⟩
        · exact Lib.hid (by rw [List.length_append, ← HAL.out]; rfl)
        · exact Lib.hid (by rw [List.flatMap_append, HXS.out]; rfl)
        · exact Lib.hid (by rw [List.map_append]; have := HP2.out; rw [← hlb] at this; exact this)
        · exact Lib.hid (Know.has_trans HK3.out HKK.out)
        · exact zq41
        · exact Lib.hid HS3.out
        · exact H.out
       case measure => first | (simp [intOf]; done) | (simp [intOf]; omega)
    · rw [if_neg he0] at hstep; exact absurd HG.out (by have e9 : i3 = j := congrArg Prod.snd hstep; rw [← e9, her]; exact he0)
  · obtain rfl : k = n := by omega
    have hp := HP.out; rw [Nat.sub_self] at hp; have hp : (acc.map PartR.pb, i2) = (ps, j) := hp; simp only [Prod.mk.injEq] at hp; obtain ⟨hpl, rfl⟩ := hp; have HPL := Lib.hid hpl; clear hpl; go_wp2; have hz : St W0 _ _ (.raw rb #[.string (bb n1), .slice qv0 k cv0] 65 :: _) := ((H.out.p3.rawSet 0 (.string (bb n1))).rawSet 1 (.slice qv0 k cv0)); refine bodyPost_ret (rc_cell_onlyP rfl _ _ rb [.string (bb n1), .slice qv0 k cv0] _ rfl (rc_rangeP hz) Tryz.underlying65 rfl (by kernel_rfl)) rfl ?_; have hr := hz.drop; have hn := HAL.out; have hxs := HXS.out; subst hn; subst hxs; have hf := hr.freezeParts (fun x hx => (HALL.out x hx).1); exact ⟨qv0, _, cv0, acc, K2.and (Know.pparts (.slice qv0 acc.length cv0) acc), rfl, Know.has_trans (Know.has_left (Know.has_refl _)) HKK.out, fun _ => ⟨rfl, HPL.out, Know.has_right (Know.has_refl _), fun x hx => (HALL.out x hx).2⟩, hf.drop⟩
theorem zq2 {p : Prop} (h : p := by
  obtain ⟨⟨⟨nm, pl⟩, i3⟩, hi3⟩ : ∃ r, i2.ptop = r := ⟨_, rfl⟩; obtain ⟨er, her⟩ : ∃ er, i3.err = er := ⟨_, rfl⟩; have HX := Lib.hid hi3; have HS3 := Lib.hid (show i3.s = i.s by have := ptop_s12 i2; rw [hi3] at this; rw [this]; exact HS.out)
  have hstep : (if er = 0 then InS.ptopsN (n - (k + 1)) (acc.map PTop.pt ++ [(nm, pl)]) i3 else ([], i3)) = (ts, j) := by
    have h1 := HP.out; rw [show n - k = (n - (k + 1)) + 1 by omega] at h1; have h2 : (if i2.ptop.2.err = 0 then InS.ptopsN (n - (k + 1)) (acc.map PTop.pt ++ [i2.ptop.1]) i2.ptop.2 else ([], i2.ptop.2)) = (ts, j) := h1; rw [hi3] at h2; simp only at h2; rw [her] at h2; exact h2
  have HKN := Lib.hid (show k ≤ 2147483647 by have := HNL.out; omega); have hkn : (k : Int) < (n : Int) := by omega
  have HER := Lib.hid her; clear hi3
  by_cases he0 : er = 0
  · rw [if_pos he0] at hstep; have HP2 := Lib.hid hstep; subst he0; clear hstep her; go_wp2_with fail; have hs := H.out.drew; refine wp_region_held_drew (S := fun _ => True) (by kernel_rfl) trivial (fun hHeld => ?_); refine tQ 0 ⟨some 20, .fieldAddr 26 (.tmp 5) 3, 0, _, _, none⟩ ?_; simp only [Act.put, sA, sB, sC]; refine tQ 2 ⟨some 22, .move (.tmp 0), 44, _, _, none⟩ ?_; simp only [Act.put, sA, sB, sC]; refine wpAnyH_ready (rs := [1, 3]) (by kernel_rfl) (by simp) (AllReadyH.cons (o := ⟨some 21, .load 24 (.tmp 20), 24, _, _, none⟩) rfl (fun KK hK => ?_) (AllReadyH.cons (o := ⟨some 23, .call { callee := .value (.func 46), args := #[.tmp 22], argTypes := #[44] }, 65, _, _, none⟩) rfl (fun KK hK => ?_) AllReadyH.nil))
    focus
      have z1 := hs.p1.rawCell 4; simp at z1; go_simp; refine hK.out _ _ (trivial) (fun hHeld => ?_); clear hK KK
      try simp only [Act.put, sA, sB, sC]
      clear z1; refine wpAnyH_ready (rs := [3]) (by kernel_rfl) (by simp) (AllReadyH.cons (o := ⟨some 23, .call { callee := .value (.func 46), args := #[.tmp 22], argTypes := #[44] }, 65, _, _, none⟩) rfl (fun KK hK => ?_) AllReadyH.nil); go_simp; go_at_call 46; with_reducible refine (read_topG p i2 i3 nm pl HX.out (by rw [HS.out]; exact HDL.out) HER.out hs.p2).mono ?_; rintro e wq ⟨q, n2, cap, lr, K3, rfl, hk3, hgd, hs⟩; refine hK.out _ _ (trivial) (fun hHeld => ?_); clear hK KK
      try simp only [Act.put, sA, sB, sC]
      have hs := hs.p2.p2; refine wpAnyH_ready (rs := [4]) (by kernel_rfl) (by simp) (AllReadyH.cons (o := ⟨some 24, .buildSlice 24 1 #[(0, .tmp 23)], 24, _, _, none⟩) rfl (fun KK hK => ?_) AllReadyH.nil); rw [if_pos (by rfl)]; refine op_value (exec_buildT13 _ _ _ _ (by kernel_rfl) (buildTV13 (.string (bb nm)) (.slice q n2 cap) _)) ?_; obtain ⟨wy, b2, ey, eb, hs⟩ := hs.allocEx #[.string (bb nm), .slice q n2 cap] 65; rw [ey, eb]; clear ey eb; refine hK.out _ _ (trivial) (fun hHeld => ?_); clear hK KK
      try simp only [Act.put, sA, sB, sC]
    rotate_left
    focus
      go_simp; go_at_call 46; with_reducible refine (read_topG p i2 i3 nm pl HX.out (by rw [HS.out]; exact HDL.out) HER.out hs.p2).mono ?_; rintro e wq ⟨q, n2, cap, lr, K3, rfl, hk3, hgd, hs⟩; refine hK.out _ _ (trivial) (fun hHeld => ?_); clear hK KK
      try simp only [Act.put, sA, sB, sC]
      have hs := hs.p2.p2; refine wpAnyH_ready (rs := [1, 4]) (by kernel_rfl) (by simp) (AllReadyH.cons (o := ⟨some 21, .load 24 (.tmp 20), 24, _, _, none⟩) rfl (fun KK hK => ?_) (AllReadyH.cons (o := ⟨some 24, .buildSlice 24 1 #[(0, .tmp 23)], 24, _, _, none⟩) rfl (fun KK hK => ?_) AllReadyH.nil))
      focus
       have z1 := hs.p1.rawCell 4; simp at z1; go_simp; refine hK.out _ _ (trivial) (fun hHeld => ?_); clear hK KK
       try simp only [Act.put, sA, sB, sC]
       clear z1; refine wpAnyH_ready (rs := [4]) (by kernel_rfl) (by simp) (AllReadyH.cons (o := ⟨some 24, .buildSlice 24 1 #[(0, .tmp 23)], 24, _, _, none⟩) rfl (fun KK hK => ?_) AllReadyH.nil); rw [if_pos (by rfl)]; refine op_value (exec_buildT13 _ _ _ _ (by kernel_rfl) (buildTV13 (.string (bb nm)) (.slice q n2 cap) _)) ?_; obtain ⟨wy, b2, ey, eb, hs⟩ := hs.allocEx #[.string (bb nm), .slice q n2 cap] 65; rw [ey, eb]; clear ey eb; refine hK.out _ _ (trivial) (fun hHeld => ?_); clear hK KK
       try simp only [Act.put, sA, sB, sC]
      rotate_left
      focus
       rw [if_pos (by rfl)]; refine op_value (exec_buildT13 _ _ _ _ (by kernel_rfl) (buildTV13 (.string (bb nm)) (.slice q n2 cap) _)) ?_; obtain ⟨wy, b2, ey, eb, hs⟩ := hs.allocEx #[.string (bb nm), .slice q n2 cap] 65; rw [ey, eb]; clear ey eb; refine hK.out _ _ (trivial) (fun hHeld => ?_); clear hK KK
       try simp only [Act.put, sA, sB, sC]
       refine wpAnyH_ready (rs := [1]) (by kernel_rfl) (by simp) (AllReadyH.cons (o := ⟨some 21, .load 24 (.tmp 20), 24, _, _, none⟩) rfl (fun KK hK => ?_) AllReadyH.nil); have z1 := hs.p2.rawCell 4; simp at z1; go_simp; refine hK.out _ _ (trivial) (fun hHeld => ?_); clear hK KK
       try simp only [Act.put, sA, sB, sC]
       clear z1
    all_goals
      refine wpAnyH_ready (rs := [5]) (by kernel_rfl) (by simp) (AllReadyH.cons (o := ⟨some 25, .call { callee := .builtin .append, args := #[.tmp 21, .tmp 24], argTypes := #[24, 24] }, 24, _, _, none⟩) rfl (fun KK hK => ?_) AllReadyH.nil); rw [if_pos (by rfl)]; refine op_app1 (.tmp 21) (.tmp 24) 24 rfl 65 Tryz.underlying24 elem_topP _ _ _ (by rfl) b2 #[.string (bb nm), .slice q n2 cap] 65 hs (by rfl) rfl (by simp [Value.oneCell']) zq48 (by have := HKN.out; omega) (fun v' w' h => ?_); have hs := h; clear h; obtain ⟨qv, cv, hv⟩ := hs.rowAny; subst hv; refine hK.out _ _ (trivial) (fun hHeld => ?_); clear hK KK
      try simp only [Act.put, sA, sB, sC]
      refine tQ 6 ⟨some 26, .fieldAddr 26 (.tmp 5) 3, 0, _, _, none⟩ ?_; simp only [Act.put, sA, sB, sC]; refine wpAnyH_ready (rs := [7]) (by kernel_rfl) (by simp) (AllReadyH.cons (o := ⟨none, .store 24 (.tmp 26) (.tmp 25), 0, _, _, none⟩) rfl (fun KK hK => ?_) AllReadyH.nil); have hs := hs.p1; have q1 := hs.rawFree 4; have z1 := hs.rawCell 4; simp at z1; rw [if_pos (by rfl)]; refine op_skip (w' := w'.setCell ⟨tb, 4, none⟩ (.slice qv (k + 1) cv)) (by go_simp) ?_; obtain ⟨wz, ez, hs⟩ := hs.setExP 4 (.slice qv (k + 1) cv); rw [ez]; clear ez q1 z1; have hs := hs.p1; refine hK.out _ _ (trivial) (fun hHeld => ?_); clear hK KK
      try simp only [Act.put]
      refine wpAnyH_done (by kernel_rfl) ?_ _; clear hHeld; have HK3 := Lib.hid hk3; clear hk3; replace H := Lib.hid hs; clear hs; go_wp2_with (go_at_call 20; (try clear y0 y1 y2 y3 y4 w0 w1 w2 w3 w4 v0 v1 v2 v3 v4); (with_reducible refine (p_err p i3 0 HER.out H.out.p2).mono ?_); rintro e_ wn ⟨rfl, h⟩; have h := h.p2.p2; have y0 := h.p1.rawCell 0; have y1 := h.p1.rawCell 1; have y2 := h.p1.rawCell 2; have y3 := h.p1.rawCell 3; have y4 := h.p1.rawCell 4; have w0 := h.p3.rawFree 0; have w1 := h.p3.rawFree 1; have w2 := h.p3.rawFree 2; have w3 := h.p3.rawFree 3; have w4 := h.p3.rawFree 4; have v0 := h.p3.rawCell 0; have v1 := h.p3.rawCell 1; have v2 := h.p3.rawCell 2; have v3 := h.p3.rawCell 3; have v4 := h.p3.rawCell 4; simp at y0 y1 y2 y3 y4 v0 v1 v2 v3 v4; replace H := Lib.hid h; clear h); go_roundw
      case rel =>
       obtain ⟨hn2, hlb, hkb, hmb⟩ := hgd HER.out; subst hn2; refine ⟨k + 1, .slice qv (k + 1) cv, xs ++ [.string (bb nm), .slice q lr.length cap], i3, acc ++ [⟨nm, lr, q, cap⟩], K3, hlt, by go_num, ?_, ?_, ?_, ?_, ?_, ?_, ?_⟩
       · exact Lib.hid (by rw [List.length_append, ← HAL.out]; rfl)
       · exact Lib.hid (by rw [List.flatMap_append, HXS.out]; rfl)
       · exact Lib.hid (by rw [List.map_append]; have := HP2.out; rw [← hlb] at this; exact this)
       · exact Lib.hid (Know.has_trans HK3.out HKK.out)
       · exact zq41
       · exact Lib.hid HS3.out
       · exact H.out
      case measure => first | (simp [intOf]; done) | (simp [intOf]; omega)
  · rw [if_neg he0] at hstep; exact absurd HG.out (by have e9 : i3 = j := congrArg Prod.snd hstep; rw [← e9, her]; exact he0)) : p := h
theorem zq30 {p : Prop} (h : p := by refine ⟨0, .slice none 0 0, [], c, [], K, Nat.zero_le _, rfl, Lib.hid rfl, Lib.hid rfl, Lib.hid HX0.out, Lib.hid (Know.has_refl _), Lib.hid (fun x hx => by cases hx), Lib.hid HS0.out, ?_⟩; exact (H.out.p1.nilRow 65 2)) : p := h
theorem zq33 {p : Prop} (h : p := by have h9 := ptopsN_ok (M := i.s.length) n [] c (by rw [hs0]; exact Nat.le_refl _) (fun x hx => by cases hx); rw [h5, List.length_nil] at h9; exact ⟨Nat.le_trans h9.1 (by omega), h9.2⟩) : p := h
set_option maxHeartbeats 8000000 in
set_option maxRecDepth 100000 in
theorem read_reqG_false (p : Nat) (v : Int) (i i1 i2 i3 c j : InS) (dd : Bs) (ac tm : Int) (n : Nat) (ts : List (Bs × List (Int × List BatS))) (h1 : i.fixed 2 = (⟨false, dd⟩, i1)) (h2 : i1.int 2 = (ac, i2)) (h3 : i2.int 4 = (tm, i3)) (h4 : i3.cnt 6 = (n, c)) (h5 : InS.ptopsN n [] c = (ts, j)) (hd : i.s.length ≤ 1000000) (hg : j.err = 0) (hge : ∀ lr : List PTop, lr.map PTop.pt = ts → errReq ⟨false, dd⟩ ac tm v lr = 0) {W0 w : World} {K : Know} {L : List Res} (h : St W0 w K (.inp p i :: L)) :
  Calls Tryz.prog 15 #[inPtr p, .int .i64 v] w fun en w' => ∃ (q : Option Addr) (cap : Nat) (lr : List PTop) (K2 : Know), K2.has K ∧ lr.map PTop.pt = ts ∧ (∀ x ∈ lr, CkT x) ∧ lr.length ≤ 1000000 ∧ en = .returned (.agg #[.bool false, .string (bb dd), .int .i64 ac, .int .i64 tm, .slice q lr.length cap]) ∧ K2.has (Know.ptops (.slice q lr.length cap) lr) ∧ St W0 w' K2 (.inp p j :: L) := by
 have s1 : i1.s = i.s := by have := (fixed_s12 i 2).1; rw [h1] at this; exact this
 have s2 : i2.s = i1.s := by have := int_s12 i1 2; rw [h2] at this; exact this
 have s3 : i3.s = i2.s := by have := int_s12 i2 4; rw [h3] at this; exact this
 have s4 : c.s = i3.s := by have := cnt_s12 i3 6; rw [h4] at this; exact this
 have hs0 : c.s = i.s := by rw [s4, s3, s2, s1]
 have hn9 : n ≤ 1000000 := by have h9 := cnt_le13 i3 6 (by decide); rw [h4, s3, s2, s1] at h9; exact Nat.le_trans h9 hd
 have hok : ts.length ≤ 1000000 ∧ ∀ x ∈ ts, PtOk i.s.length x := by
  exact zq33
 have hdd : dd.length ≤ 140737488355328 := by have h9 := (fixed_s12 i 2).2; rw [h1] at h9; have h9 : dd.length ≤ i.s.length := h9; omega
 obtain ⟨rb, hrb⟩ : ∃ b, w.heap.size = b := ⟨_, rfl⟩; obtain ⟨tb, htb⟩ : ∃ b, rb + 1 = b := ⟨_, rfl⟩; have g1 := ((h.allocRaw #[.bool false, .string ⟨#[]⟩, .int .i64 0, .int .i64 0, .slice none 0 0] 26).allocRaw #[.bool false, .string ⟨#[]⟩, .int .i64 0, .int .i64 0, .slice none 0 0] 26).p2; simp only [World.size_alloc, hrb, htb] at g1; have H := Lib.hid g1; have H1 := Lib.hid h1; have H2 := Lib.hid h2; have H3 := Lib.hid h3; have H4 := Lib.hid h4; have HX0 := Lib.hid h5; have HG := Lib.hid hg; have HGE := Lib.hid hge; have HS0 := Lib.hid hs0; have HDL := Lib.hid hd; have HOK := Lib.hid hok; have HDD := Lib.hid hdd; have HNL := Lib.hid hn9; have hni : (n : Int) ≤ 1000000 := by omega
 clear hg hge h g1 h1 h2 h3 h4 h5 hd hs0 hok hdd hn9 s1 s2 s3 s4; go_enter Tryz.func15, Tryz.ntmps15
 go_wp2_with (first
  | (go_at_call 43; (try clear x0 x1 x2 x3); (with_reducible refine (p_fixed p i i1 2 false dd H1.out H.out).mono ?_); rintro e_ wn ⟨rfl, h⟩; have h := h.p1; have x0 := h.rawFree 0; have x1 := h.rawCell 0; have x2 := h.rawFree 1; have x3 := h.rawCell 1; simp at x1 x3; have h := (show St W0 ((wn.setCell ⟨tb, 0, none⟩ (.bool false)).setCell ⟨tb, 1, none⟩ (.string (bb dd))) K (.inp p i1 :: .raw tb #[.bool false, .string (bb dd), .int .i64 0, .int .i64 0, .slice none 0 0] 26 :: .raw rb #[.bool false, .string ⟨#[]⟩, .int .i64 0, .int .i64 0, .slice none 0 0] 26 :: L) from ((h.rawSet 0 (.bool false)).rawSet 1 (.string (bb dd))).p1); replace H := Lib.hid h; clear h)
  | (go_at_call 44; (try clear x0 x1 x2 x3); (with_reducible refine (p_int p i1 i2 ac 2 H2.out H.out).mono ?_); rintro e_ wn ⟨rfl, h⟩; have h := h.p1; have x0 := h.rawFree 2; have x1 := h.rawCell 2; simp at x1; have h := (show St W0 (wn.setCell ⟨tb, 2, none⟩ (.int .i64 ac)) K (.inp p i2 :: .raw tb #[.bool false, .string (bb dd), .int .i64 ac, .int .i64 0, .slice none 0 0] 26 :: .raw rb #[.bool false, .string ⟨#[]⟩, .int .i64 0, .int .i64 0, .slice none 0 0] 26 :: L) from (h.rawSet 2 (.int .i64 ac)).p1); replace H := Lib.hid h; clear h)
  | (go_at_call 44; (try clear x0 x1 x2 x3); (with_reducible refine (p_int p i2 i3 tm 4 H3.out H.out).mono ?_); rintro e_ wn ⟨rfl, h⟩; have h := h.p1; have x0 := h.rawFree 3; have x1 := h.rawCell 3; simp at x1; have h := (show St W0 (wn.setCell ⟨tb, 3, none⟩ (.int .i64 tm)) K (.inp p i3 :: .raw tb #[.bool false, .string (bb dd), .int .i64 ac, .int .i64 tm, .slice none 0 0] 26 :: .raw rb #[.bool false, .string ⟨#[]⟩, .int .i64 0, .int .i64 0, .slice none 0 0] 26 :: L) from (h.rawSet 3 (.int .i64 tm)).p1); replace H := Lib.hid h; clear h)
  | (go_at_call 45; (try clear x0 x1 x2 x3); (with_reducible refine (p_cnt p i3 c 6 n 6 rfl H4.out H.out).mono ?_); rintro e_ wn ⟨rfl, h⟩; replace H := Lib.hid h; clear h))
 go_loopw [18] (fun iv wr => ∃ (k : Nat) (v : Value) (xs : List Value) (i2 : InS) (acc : List PTop) (K2 : Know), k ≤ n ∧ iv = .int .i64 k ∧ Hid (k = acc.length) ∧ Hid (xs = acc.flatMap ptcells) ∧ Hid (InS.ptopsN (n - k) (acc.map PTop.pt) i2 = (ts, j)) ∧ Hid (K2.has K) ∧ Hid (∀ x ∈ acc, K2.has (Know.pparts (.slice x.q x.l.length x.cap) x.l) ∧ ∀ y ∈ x.l, ∀ z ∈ y.l, z.l.map (·.1) = z.b.recs) ∧ Hid (i2.s = i.s) ∧ St W0 wr K2 (.row v 65 2 k xs :: .raw tb #[.bool false, .string (bb dd), .int .i64 ac, .int .i64 tm, v] 26 :: .inp p i2 :: .raw rb #[.bool false, .string ⟨#[]⟩, .int .i64 0, .int .i64 0, .slice none 0 0] 26 :: L)) (fun iv _ => n - (intOf iv).toNat)
 case atStart =>
  exact zq30
 case round =>
  obtain ⟨k, v9, xs, i2, acc, K2, hk, rfl, HAL, HXS, HP, HKK, HALL, HS, hst⟩ := hrel; clear H; obtain ⟨qv0, cv0, hv0⟩ := hst.rowAny; subst hv0; have H := Lib.hid hst; clear hst
  by_cases hlt : k < n
  · exact zq2
  · obtain rfl : k = n := by omega
    have hp := HP.out; rw [Nat.sub_self] at hp; have hp : (acc.map PTop.pt, i2) = (ts, j) := hp; simp only [Prod.mk.injEq] at hp; obtain ⟨hpl, rfl⟩ := hp; have HPL := Lib.hid hpl; have HLL := Lib.hid (show acc.length ≤ 1000000 by have h9 := HOK.out.1; rw [← hpl, List.length_map] at h9; exact h9); have HCK := Lib.hid (show ∀ x ∈ acc, CkT x from fun x hx => ck_top HDL.out x (HOK.out.2 x.pt (by rw [← hpl]; exact List.mem_map_of_mem hx)) (HALL.out x hx).2); have HOT := Lib.hid (show ∀ x ∈ acc, PtOk i.s.length x.pt ∧ ∀ y ∈ x.l, ∀ z ∈ y.l, z.l.map (·.1) = z.b.recs from fun x hx => ⟨HOK.out.2 x.pt (by rw [← hpl]; exact List.mem_map_of_mem hx), (HALL.out x hx).2⟩); clear hpl; obtain ⟨er, her⟩ : ∃ er, i2.err = er := ⟨_, rfl⟩; have HER := Lib.hid her
    by_cases he0 : er = 0
    · subst he0; clear her; have hf := H.out.freezeTopsK HAL.out HXS.out (fun x hx => (HALL.out x hx).1); have HK9 := Lib.hid (show (K2.and (Know.ptops (.slice qv0 k cv0) acc)).has (Know.ptops (.slice qv0 k cv0) acc) from Know.has_right (Know.has_refl _)); have HK8 := Lib.hid (show (K2.and (Know.ptops (.slice qv0 k cv0) acc)).has K from Know.has_trans (Know.has_left (Know.has_refl _)) HKK.out); clear H; have H := Lib.hid hf; clear hf; obtain ⟨e, he⟩ : ∃ e, errReq ⟨false, dd⟩ ac tm v acc = e := ⟨_, rfl⟩; have HE := Lib.hid he
      by_cases h0 : e = 0
      · subst h0; clear he
        go_wp2_with (first
  | (go_at_call 20; (try clear y0 y1 y2 y3 y4 w0 w1 w2 w3 w4 v0 v1 v2 v3 v4); (with_reducible refine (p_err p i2 0 HER.out H.out.p1).mono ?_); rintro e_ wn ⟨rfl, h⟩; have h := h.p1; have y0 := h.rawCell 0; have y1 := h.rawCell 1; have y2 := h.rawCell 2; have y3 := h.rawCell 3; have y4 := h.rawCell 4; have w0 := h.p2.rawFree 0; have w1 := h.p2.rawFree 1; have w2 := h.p2.rawFree 2; have w3 := h.p2.rawFree 3; have w4 := h.p2.rawFree 4; have v0 := h.p2.rawCell 0; have v1 := h.p2.rawCell 1; have v2 := h.p2.rawCell 2; have v3 := h.p2.rawCell 3; have v4 := h.p2.rawCell 4; simp at y0 y1 y2 y3 y4 v0 v1 v2 v3 v4; replace H := Lib.hid h; clear h)
  | (go_at_call 12; (try clear y0 y1 y2 y3 y4 w0 w1 w2 w3 w4 v0 v1 v2 v3 v4); (with_reducible refine (preq_checkK false dd ac tm v acc qv0 cv0 k HAL.out HDD.out HCK.out (Nat.le_trans HLL.out (by decide)) 0 HE.out HK9.out H.out).mono ?_); rintro e_ wn ⟨rfl, h⟩; have y0 := h.rawCell 0; have y1 := h.rawCell 1; have y2 := h.rawCell 2; have y3 := h.rawCell 3; have y4 := h.rawCell 4; have w0 := h.p2.rawFree 0; have w1 := h.p2.rawFree 1; have w2 := h.p2.rawFree 2; have w3 := h.p2.rawFree 3; have w4 := h.p2.rawFree 4; have v0 := h.p2.rawCell 0; have v1 := h.p2.rawCell 1; have v2 := h.p2.rawCell 2; have v3 := h.p2.rawCell 3; have v4 := h.p2.rawCell 4; simp at y0 y1 y2 y3 y4 v0 v1 v2 v3 v4; replace H := Lib.hid h; clear h))
        have hz : St W0 _ _ (.raw rb #[.bool false, .string (bb dd), .int .i64 ac, .int .i64 tm, .slice qv0 k cv0] 26 :: _) := St.sets5P _ _ _ _ _ H.out.p2; refine bodyPost_ret (rc_cell_onlyP rfl _ _ rb [.bool false, .string (bb dd), .int .i64 ac, .int .i64 tm, .slice qv0 k cv0] _ rfl (rc_rangeP hz) Tryz.underlying26 rfl (by kernel_rfl)) rfl ?_; have hn := HAL.out; subst hn; exact ⟨qv0, cv0, acc, _, HK8.out, HPL.out, HCK.out, HLL.out, rfl, HK9.out, hz.drop.drop⟩
      · exact absurd (he.symm.trans (HGE.out acc HPL.out)) h0
    · exact absurd (her.symm.trans HG.out) he0

set_option maxHeartbeats 8000000 in
set_option maxRecDepth 100000 in
theorem read_reqG_true (p : Nat) (v : Int) (i i1 i2 i3 c j : InS) (dd : Bs) (ac tm : Int) (n : Nat) (ts : List (Bs × List (Int × List BatS))) (h1 : i.fixed 2 = (⟨true, dd⟩, i1)) (h2 : i1.int 2 = (ac, i2)) (h3 : i2.int 4 = (tm, i3)) (h4 : i3.cnt 6 = (n, c)) (h5 : InS.ptopsN n [] c = (ts, j)) (hd : i.s.length ≤ 1000000) (hg : j.err = 0) (hge : ∀ lr : List PTop, lr.map PTop.pt = ts → errReq ⟨true, dd⟩ ac tm v lr = 0) {W0 w : World} {K : Know} {L : List Res} (h : St W0 w K (.inp p i :: L)) :
  Calls Tryz.prog 15 #[inPtr p, .int .i64 v] w fun en w' => ∃ (q : Option Addr) (cap : Nat) (lr : List PTop) (K2 : Know), K2.has K ∧ lr.map PTop.pt = ts ∧ (∀ x ∈ lr, CkT x) ∧ lr.length ≤ 1000000 ∧ en = .returned (.agg #[.bool true, .string (bb dd), .int .i64 ac, .int .i64 tm, .slice q lr.length cap]) ∧ K2.has (Know.ptops (.slice q lr.length cap) lr) ∧ St W0 w' K2 (.inp p j :: L) := by
 have s1 : i1.s = i.s := by have := (fixed_s12 i 2).1; rw [h1] at this; exact this
 have s2 : i2.s = i1.s := by have := int_s12 i1 2; rw [h2] at this; exact this
 have s3 : i3.s = i2.s := by have := int_s12 i2 4; rw [h3] at this; exact this
 have s4 : c.s = i3.s := by have := cnt_s12 i3 6; rw [h4] at this; exact this
 have hs0 : c.s = i.s := by rw [s4, s3, s2, s1]
 have hn9 : n ≤ 1000000 := by have h9 := cnt_le13 i3 6 (by decide); rw [h4, s3, s2, s1] at h9; exact Nat.le_trans h9 hd
 have hok : ts.length ≤ 1000000 ∧ ∀ x ∈ ts, PtOk i.s.length x := by
  exact zq33
 have hdd : dd.length ≤ 140737488355328 := by have h9 := (fixed_s12 i 2).2; rw [h1] at h9; have h9 : dd.length ≤ i.s.length := h9; omega
 obtain ⟨rb, hrb⟩ : ∃ b, w.heap.size = b := ⟨_, rfl⟩; obtain ⟨tb, htb⟩ : ∃ b, rb + 1 = b := ⟨_, rfl⟩; have g1 := ((h.allocRaw #[.bool false, .string ⟨#[]⟩, .int .i64 0, .int .i64 0, .slice none 0 0] 26).allocRaw #[.bool false, .string ⟨#[]⟩, .int .i64 0, .int .i64 0, .slice none 0 0] 26).p2; simp only [World.size_alloc, hrb, htb] at g1; have H := Lib.hid g1; have H1 := Lib.hid h1; have H2 := Lib.hid h2; have H3 := Lib.hid h3; have H4 := Lib.hid h4; have HX0 := Lib.hid h5; have HG := Lib.hid hg; have HGE := Lib.hid hge; have HS0 := Lib.hid hs0; have HDL := Lib.hid hd; have HOK := Lib.hid hok; have HDD := Lib.hid hdd; have HNL := Lib.hid hn9; have hni : (n : Int) ≤ 1000000 := by omega
 clear hg hge h g1 h1 h2 h3 h4 h5 hd hs0 hok hdd hn9 s1 s2 s3 s4; go_enter Tryz.func15, Tryz.ntmps15
 go_wp2_with (first
  | (go_at_call 43; (try clear x0 x1 x2 x3); (with_reducible refine (p_fixed p i i1 2 true dd H1.out H.out).mono ?_); rintro e_ wn ⟨rfl, h⟩; have h := h.p1; have x0 := h.rawFree 0; have x1 := h.rawCell 0; have x2 := h.rawFree 1; have x3 := h.rawCell 1; simp at x1 x3; have h := (show St W0 ((wn.setCell ⟨tb, 0, none⟩ (.bool true)).setCell ⟨tb, 1, none⟩ (.string (bb dd))) K (.inp p i1 :: .raw tb #[.bool true, .string (bb dd), .int .i64 0, .int .i64 0, .slice none 0 0] 26 :: .raw rb #[.bool false, .string ⟨#[]⟩, .int .i64 0, .int .i64 0, .slice none 0 0] 26 :: L) from ((h.rawSet 0 (.bool true)).rawSet 1 (.string (bb dd))).p1); replace H := Lib.hid h; clear h)
  | (go_at_call 44; (try clear x0 x1 x2 x3); (with_reducible refine (p_int p i1 i2 ac 2 H2.out H.out).mono ?_); rintro e_ wn ⟨rfl, h⟩; have h := h.p1; have x0 := h.rawFree 2; have x1 := h.rawCell 2; simp at x1; have h := (show St W0 (wn.setCell ⟨tb, 2, none⟩ (.int .i64 ac)) K (.inp p i2 :: .raw tb #[.bool true, .string (bb dd), .int .i64 ac, .int .i64 0, .slice none 0 0] 26 :: .raw rb #[.bool false, .string ⟨#[]⟩, .int .i64 0, .int .i64 0, .slice none 0 0] 26 :: L) from (h.rawSet 2 (.int .i64 ac)).p1); replace H := Lib.hid h; clear h)
  | (go_at_call 44; (try clear x0 x1 x2 x3); (with_reducible refine (p_int p i2 i3 tm 4 H3.out H.out).mono ?_); rintro e_ wn ⟨rfl, h⟩; have h := h.p1; have x0 := h.rawFree 3; have x1 := h.rawCell 3; simp at x1; have h := (show St W0 (wn.setCell ⟨tb, 3, none⟩ (.int .i64 tm)) K (.inp p i3 :: .raw tb #[.bool true, .string (bb dd), .int .i64 ac, .int .i64 tm, .slice none 0 0] 26 :: .raw rb #[.bool false, .string ⟨#[]⟩, .int .i64 0, .int .i64 0, .slice none 0 0] 26 :: L) from (h.rawSet 3 (.int .i64 tm)).p1); replace H := Lib.hid h; clear h)
  | (go_at_call 45; (try clear x0 x1 x2 x3); (with_reducible refine (p_cnt p i3 c 6 n 6 rfl H4.out H.out).mono ?_); rintro e_ wn ⟨rfl, h⟩; replace H := Lib.hid h; clear h))
 go_loopw [18] (fun iv wr => ∃ (k : Nat) (v : Value) (xs : List Value) (i2 : InS) (acc : List PTop) (K2 : Know), k ≤ n ∧ iv = .int .i64 k ∧ Hid (k = acc.length) ∧ Hid (xs = acc.flatMap ptcells) ∧ Hid (InS.ptopsN (n - k) (acc.map PTop.pt) i2 = (ts, j)) ∧ Hid (K2.has K) ∧ Hid (∀ x ∈ acc, K2.has (Know.pparts (.slice x.q x.l.length x.cap) x.l) ∧ ∀ y ∈ x.l, ∀ z ∈ y.l, z.l.map (·.1) = z.b.recs) ∧ Hid (i2.s = i.s) ∧ St W0 wr K2 (.row v 65 2 k xs :: .raw tb #[.bool true, .string (bb dd), .int .i64 ac, .int .i64 tm, v] 26 :: .inp p i2 :: .raw rb #[.bool false, .string ⟨#[]⟩, .int .i64 0, .int .i64 0, .slice none 0 0] 26 :: L)) (fun iv _ => n - (intOf iv).toNat)
 case atStart =>
  exact zq30
 case round =>
  obtain ⟨k, v9, xs, i2, acc, K2, hk, rfl, HAL, HXS, HP, HKK, HALL, HS, hst⟩ := hrel; clear H; obtain ⟨qv0, cv0, hv0⟩ := hst.rowAny; subst hv0; have H := Lib.hid hst; clear hst
  by_cases hlt : k < n
  · exact zq2
  · obtain rfl : k = n := by omega
    have hp := HP.out; rw [Nat.sub_self] at hp; have hp : (acc.map PTop.pt, i2) = (ts, j) := hp; simp only [Prod.mk.injEq] at hp; obtain ⟨hpl, rfl⟩ := hp; have HPL := Lib.hid hpl; have HLL := Lib.hid (show acc.length ≤ 1000000 by have h9 := HOK.out.1; rw [← hpl, List.length_map] at h9; exact h9); have HCK := Lib.hid (show ∀ x ∈ acc, CkT x from fun x hx => ck_top HDL.out x (HOK.out.2 x.pt (by rw [← hpl]; exact List.mem_map_of_mem hx)) (HALL.out x hx).2); have HOT := Lib.hid (show ∀ x ∈ acc, PtOk i.s.length x.pt ∧ ∀ y ∈ x.l, ∀ z ∈ y.l, z.l.map (·.1) = z.b.recs from fun x hx => ⟨HOK.out.2 x.pt (by rw [← hpl]; exact List.mem_map_of_mem hx), (HALL.out x hx).2⟩); clear hpl; obtain ⟨er, her⟩ : ∃ er, i2.err = er := ⟨_, rfl⟩; have HER := Lib.hid her
    by_cases he0 : er = 0
    · subst he0; clear her; have hf := H.out.freezeTopsK HAL.out HXS.out (fun x hx => (HALL.out x hx).1); have HK9 := Lib.hid (show (K2.and (Know.ptops (.slice qv0 k cv0) acc)).has (Know.ptops (.slice qv0 k cv0) acc) from Know.has_right (Know.has_refl _)); have HK8 := Lib.hid (show (K2.and (Know.ptops (.slice qv0 k cv0) acc)).has K from Know.has_trans (Know.has_left (Know.has_refl _)) HKK.out); clear H; have H := Lib.hid hf; clear hf; obtain ⟨e, he⟩ : ∃ e, errReq ⟨true, dd⟩ ac tm v acc = e := ⟨_, rfl⟩; have HE := Lib.hid he
      by_cases h0 : e = 0
      · subst h0; clear he
        go_wp2_with (first
  | (go_at_call 20; (try clear y0 y1 y2 y3 y4 w0 w1 w2 w3 w4 v0 v1 v2 v3 v4); (with_reducible refine (p_err p i2 0 HER.out H.out.p1).mono ?_); rintro e_ wn ⟨rfl, h⟩; have h := h.p1; have y0 := h.rawCell 0; have y1 := h.rawCell 1; have y2 := h.rawCell 2; have y3 := h.rawCell 3; have y4 := h.rawCell 4; have w0 := h.p2.rawFree 0; have w1 := h.p2.rawFree 1; have w2 := h.p2.rawFree 2; have w3 := h.p2.rawFree 3; have w4 := h.p2.rawFree 4; have v0 := h.p2.rawCell 0; have v1 := h.p2.rawCell 1; have v2 := h.p2.rawCell 2; have v3 := h.p2.rawCell 3; have v4 := h.p2.rawCell 4; simp at y0 y1 y2 y3 y4 v0 v1 v2 v3 v4; replace H := Lib.hid h; clear h)
  | (go_at_call 12; (try clear y0 y1 y2 y3 y4 w0 w1 w2 w3 w4 v0 v1 v2 v3 v4); (with_reducible refine (preq_checkK true dd ac tm v acc qv0 cv0 k HAL.out HDD.out HCK.out (Nat.le_trans HLL.out (by decide)) 0 HE.out HK9.out H.out).mono ?_); rintro e_ wn ⟨rfl, h⟩; have y0 := h.rawCell 0; have y1 := h.rawCell 1; have y2 := h.rawCell 2; have y3 := h.rawCell 3; have y4 := h.rawCell 4; have w0 := h.p2.rawFree 0; have w1 := h.p2.rawFree 1; have w2 := h.p2.rawFree 2; have w3 := h.p2.rawFree 3; have w4 := h.p2.rawFree 4; have v0 := h.p2.rawCell 0; have v1 := h.p2.rawCell 1; have v2 := h.p2.rawCell 2; have v3 := h.p2.rawCell 3; have v4 := h.p2.rawCell 4; simp at y0 y1 y2 y3 y4 v0 v1 v2 v3 v4; replace H := Lib.hid h; clear h))
        have hz : St W0 _ _ (.raw rb #[.bool true, .string (bb dd), .int .i64 ac, .int .i64 tm, .slice qv0 k cv0] 26 :: _) := St.sets5P _ _ _ _ _ H.out.p2; refine bodyPost_ret (rc_cell_onlyP rfl _ _ rb [.bool true, .string (bb dd), .int .i64 ac, .int .i64 tm, .slice qv0 k cv0] _ rfl (rc_rangeP hz) Tryz.underlying26 rfl (by kernel_rfl)) rfl ?_; have hn := HAL.out; subst hn; exact ⟨qv0, cv0, acc, _, HK8.out, HPL.out, HCK.out, HLL.out, rfl, HK9.out, hz.drop.drop⟩
      · exact absurd (he.symm.trans (HGE.out acc HPL.out)) h0
    · exact absurd (her.symm.trans HG.out) he0
set_option maxHeartbeats 8000000 in
set_option maxRecDepth 100000 in
theorem few20 (nl : Bool) (dd : Bs) (ac tm : Int) (l : List PTop) (q : Option Addr) (cap : Nat) (hdd : dd.length ≤ 140737488351232) (hll : l.length ≤ 3518437208780) (hf : ∀ x ∈ l, FewT20 x) {W0 w : World} {K : Know} {L : List Res} (hk : K.has (Know.ptops (.slice q l.length cap) l)) (h : St W0 w K L) :
  Calls Tryz.prog 7 #[.agg #[.bool nl, .string (bb dd), .int .i64 ac, .int .i64 tm, .slice q l.length cap]] w fun en w' => ∃ r : Int, en = .returned (.int .i64 r) ∧ FewR dd.length l r ∧ St W0 w' K L := by
 obtain ⟨rq, hrq⟩ : ∃ b, w.heap.size = b := ⟨_, rfl⟩; have h0 := h.allocRaw #[.bool nl, .string (bb dd), .int .i64 ac, .int .i64 tm, .slice q l.length cap] 26; rw [hrq] at h0; have z1 := h0.rawCell 1; have z4 := h0.rawCell 4; simp at z1 z4; have H := Lib.hid h0; have HKT := Lib.hid hk; have HF := Lib.hid hf; have HDD := Lib.hid hdd; have hni : (l.length : Int) ≤ 3518437208780 := by omega
 clear h h0 hk hf hdd hll; go_enter Tryz.func7, Tryz.ntmps7; go_wp2; clear z1 z4; go_loopw [3, 17] (fun nv iv wr => ∃ (k : Nat) (z : Int), k ≤ l.length ∧ iv = .int .i64 k ∧ nv = .int .i64 z ∧ Hid (FewI20 dd.length l k z) ∧ St W0 wr K (.raw rq #[.bool nl, .string (bb dd), .int .i64 ac, .int .i64 tm, .slice q l.length cap] 26 :: L)) (fun _ iv _ => l.length - (intOf iv).toNat)
 case atStart => exact ⟨0, dd.length, Nat.zero_le _, rfl, rfl, Lib.hid (FewI20.zero _ _), H.out⟩
 case round =>
  obtain ⟨k, z, hkl, rfl, rfl, HI, hst⟩ := hrel; clear H; have H := Lib.hid hst; clear hst
  by_cases hlt : k < l.length
  · obtain ⟨bk, off, hqq⟩ := ptops_at HKT.out H.out (by omega); obtain ⟨x, hx⟩ : ∃ x, l[k] = x := ⟨_, rfl⟩; have hmem : x ∈ l := hx ▸ List.getElem_mem hlt; have hfx := HF.out x hmem; have HK' := HKT.out; rw [hqq] at HK'; obtain ⟨c0, c1⟩ := ptops_cell HK' H.out k hlt x hx; have HXK0 := ptops_parts HKT.out hmem; have hkn : (k : Int) < (l.length : Int) := by omega
    have HX := Lib.hid hx; obtain ⟨nm, xl, xq, xcap⟩ := x; simp only at c0 c1 HXK0; have HXK := Lib.hid HXK0; have HPF := Lib.hid (show ∀ y ∈ xl, FewPt y from hfx.parts); have HNM := Lib.hid (show nm.length ≤ 140737488351232 from hfx.name); have hnmi : (nm.length : Int) ≤ 140737488351232 := by have := HNM.out; omega
    have hxl : xl.length ≤ 4398046511104 := hfx.len; have hxi : (xl.length : Int) ≤ 4398046511104 := by omega
    have HS := Lib.hid (H.out.alloc (.cells #[.string (bb nm), .slice xq xl.length xcap] 65 (0, 0))); subst hqq; clear hx hmem hfx HK' HXK0 hxl; go_wp2_with fail; go_loopw [3, 30] (fun nv jv wr => ∃ (j : Nat) (z2 : Int), j ≤ xl.length ∧ jv = .int .i64 j ∧ nv = .int .i64 z2 ∧ Hid (FewJ dd.length l k ⟨nm, xl, xq, xcap⟩ j z2) ∧ St W0 wr K (.raw rq #[.bool nl, .string (bb dd), .int .i64 ac, .int .i64 tm, .slice (some ⟨bk, off, none⟩) l.length cap] 26 :: L)) (fun _ jv _ => xl.length - (intOf jv).toNat)
    case atStart => exact ⟨0, _, Nat.zero_le _, rfl, rfl, Lib.hid (FewJ.zero _ HI.out HDD.out HNM.out (fun g1 g2 => wrap64_in _ g1 g2)), HS.out⟩
    case round =>
      obtain ⟨j, z2, hjl, rfl, rfl, HJ, hst⟩ := hrel; clear H HS c0 c1; have H := Lib.hid hst; clear hst
      by_cases hjt : j < xl.length
      · obtain ⟨pk, poff, hpq⟩ := pparts_at HXK.out H.out (by omega); subst hpq; obtain ⟨y, hy⟩ : ∃ y, xl[j] = y := ⟨_, rfl⟩; have hmem : y ∈ xl := hy ▸ List.getElem_mem hjt; have hfy := HPF.out y hmem; obtain ⟨d0, d1⟩ := pparts_cell HXK.out H.out j hjt y hy; have HYK0 := pparts_bats HXK.out hmem; have hjn : (j : Int) < (xl.length : Int) := by omega
        have HY := Lib.hid hy; obtain ⟨yi, yl, yq, ycap⟩ := y; simp only at d0 d1 HYK0; have HYK := Lib.hid HYK0; have HYF := Lib.hid (show ∀ z ∈ yl, z.Fit from hfy.fit); have HYN := Lib.hid (show yl.length ≤ 1466015503701 from hfy.len); have hyi : (yl.length : Int) ≤ 1466015503701 := by have := HYN.out; omega
        have HS := Lib.hid (H.out.alloc (.cells #[.int .i64 yi, .slice yq yl.length ycap] 68 (0, 0))); clear hy hmem hfy HYK0
        by_cases hbig : 2000 < wrap64 (z2 + (10 + 100 * (yl.length : Int)))
        · go_wp2; go_ret; exact ⟨0, rfl, .inl rfl, HS.out.drop⟩
        go_wp2_with fail; go_loopw [46] (fun mv wr => ∃ (m : Nat), m ≤ yl.length ∧ mv = .int .i64 m ∧ Hid (∀ z ∈ yl.take m, smallB (z.l.map (·.1)) = true) ∧ St W0 wr K (.raw rq #[.bool nl, .string (bb dd), .int .i64 ac, .int .i64 tm, .slice (some ⟨bk, off, none⟩) l.length cap] 26 :: L)) (fun mv _ => yl.length - (intOf mv).toNat)
        case atStart => exact ⟨0, Nat.zero_le _, rfl, Lib.hid (fun z hz => by simp at hz), HS.out⟩
        case round =>
          obtain ⟨m, hml, rfl, HM, hst⟩ := hrel; clear H HS d0 d1; have H := Lib.hid hst; clear hst
          by_cases hmt : m < yl.length
          · obtain ⟨tk, toff, htq⟩ := bats_at HYK.out H.out (by omega); subst htq; obtain ⟨u, hu⟩ : ∃ u, yl[m] = u := ⟨_, rfl⟩; have hmem : u ∈ yl := hu ▸ List.getElem_mem hmt; have hfu := HYF.out u hmem; have hcell0 := bats_cell HYK.out H.out m hmt u hu; have HZK0 := bats_recs HYK.out hmem; have hmn : (m : Int) < (yl.length : Int) := by omega
            have HU := Lib.hid hu; obtain ⟨⟨base, leader, app, txn, ctl, last, first, maxt, prod, epoch, sq, rcs⟩, zl, zq, zcap⟩ := u; have HFW := Lib.hid (show FitW zl from hfu.2.1); have HZK := Lib.hid (show K.has (Know.recs (.slice zq zl.length zcap) zl) from HZK0); obtain ⟨c0, c1, c2, c3, c4, c5, c6, c7, c8, c9, c10, c11⟩ := hcell0; simp only at c0 c1 c2 c3 c4 c5 c6 c7 c8 c9 c10 c11; have HS := Lib.hid (H.out.alloc (.cells #[.int .i64 base, .int .i64 leader, .bool app, .bool txn, .bool ctl, .int .i64 last, .int .i64 first, .int .i64 maxt, .int .i64 prod, .int .i64 epoch, .int .i64 sq, .slice zq zl.length zcap] 58 (0, 0)))
            cases hs : smallB (zl.map (·.1)) with
            | false =>
             have HSM := Lib.hid hs; clear hs hu hmem hfu HZK0; go_wp2_with (go_at_call 29; (try clear u0 u1 u2 u3 u4 u5 u6 u7 u8 u9 u10 u11); (with_reducible refine (l11_small _ _ _ _ _ _ _ _ _ _ _ zl _ _ false HSM.out HFW.out HZK.out HS.out).mono ?_); rintro e_ wn ⟨rfl, h⟩; clear HS; replace H := Lib.hid h; clear h); go_ret; exact ⟨0, rfl, .inl rfl, H.out.drop⟩
            | true =>
             have HSM := Lib.hid hs; clear hs hu hmem hfu HZK0; go_wp2_with (go_at_call 29; (try clear u0 u1 u2 u3 u4 u5 u6 u7 u8 u9 u10 u11); (with_reducible refine (l11_small _ _ _ _ _ _ _ _ _ _ _ zl _ _ true HSM.out HFW.out HZK.out HS.out).mono ?_); rintro e_ wn ⟨rfl, h⟩; clear HS; replace H := Lib.hid h; clear h); go_roundw
             case rel => exact ⟨m + 1, hmt, by go_num, Lib.hid (fun v hv => by
              rw [List.take_succ_eq_append_getElem hmt, HU.out] at hv
              rcases List.mem_append.1 hv with hv | hv
              · exact HM.out v hv
              · rw [List.mem_singleton.1 hv]; exact HSM.out), H.out⟩
             case measure => first | (simp [intOf]; done) | (simp [intOf]; omega)
          · obtain rfl : m = yl.length := by omega
            have HM2 := HM.out; rw [List.take_length] at HM2; have HM3 := Lib.hid HM2; clear HM2; go_wp2; go_roundw
            case rel => exact ⟨j + 1, _, hjt, by go_num, rfl, Lib.hid (FewJ.step ⟨yi, yl, yq, ycap⟩ HI.out HJ.out hjt HY.out HDD.out HNM.out HYN.out HM3.out (fun g1 g2 => wrap64_in _ g1 g2) (by omega)), H.out⟩
            case measure => first | (simp [intOf]; done) | (simp [intOf]; omega)
      · obtain rfl : j = xl.length := by omega
        go_wp2; go_roundw
        case rel => exact ⟨k + 1, z2, hlt, by go_num, rfl, Lib.hid (FewI20.step _ HI.out HJ.out hlt HX.out), H.out⟩
        case measure => first | (simp [intOf]; done) | (simp [intOf]; omega)
  · obtain rfl : k = l.length := by omega
    by_cases hz : 2000 < z
    · go_wp2; go_ret; exact ⟨0, rfl, .inl rfl, H.out.drop⟩
    · go_wp2; go_ret; exact ⟨1, rfl, FewI20.done HI.out (by omega), H.out.drop⟩
theorem batS_ne {a b : BatS} (h : ¬ a = b) {r : Bool} (hr : decide (a = b) = r) : r = false := by rw [← hr]; exact decide_eq_false h
theorem batS_recs (base1 : Int) (leader1 : Int) (app1 : Bool) (txn1 : Bool) (ctl1 : Bool) (last1 : Int) (first1 : Int) (maxt1 : Int) (prod1 : Int) (epoch1 : Int) (seq1 : Int) (base2 : Int) (leader2 : Int) (app2 : Bool) (txn2 : Bool) (ctl2 : Bool) (last2 : Int) (first2 : Int) (maxt2 : Int) (prod2 : Int) (epoch2 : Int) (seq2 : Int) (l1 l2 : List RecS) (h : l1 ≠ l2) : ((⟨base1, leader1, app1, txn1, ctl1, last1, first1, maxt1, prod1, epoch1, seq1, l1⟩ : BatS)) ≠ (⟨base2, leader2, app2, txn2, ctl2, last2, first2, maxt2, prod2, epoch2, seq2, l2⟩ : BatS) := by intro hh; injection hh; contradiction
theorem map_take_succ (l : List (RecS × Value)) (k : Nat) (h : k < l.length) (x : RecS) (hx : l[k].1 = x) : (l.map (·.1)).take (k + 1) = (l.map (·.1)).take k ++ [x] := by
 subst hx; rw [List.take_succ_eq_append_getElem (by simpa using h)]
 simp
theorem map_ne_of_get (l m : List (RecS × Value)) (k : Nat) (h1 : k < l.length) (h2 : k < m.length) (x y : RecS) (hx : l[k].1 = x) (hy : m[k].1 = y) (h : x ≠ y) : l.map (·.1) ≠ m.map (·.1) := by
 intro hh; have e1 : (l.map (·.1))[k]? = (m.map (·.1))[k]? := by rw [hh]
 rw [List.getElem?_map, List.getElem?_map, List.getElem?_eq_getElem h1, List.getElem?_eq_getElem h2] at e1; simp at e1; exact h (hx ▸ hy ▸ e1)
theorem map_len_ne (l m : List (RecS × Value)) (h : l.length ≠ m.length) : l.map (·.1) ≠ m.map (·.1) := fun hh => h (by have := congrArg List.length hh; simpa using this)

end Go.Proofs.YtnnnglklgofabaaGreat
