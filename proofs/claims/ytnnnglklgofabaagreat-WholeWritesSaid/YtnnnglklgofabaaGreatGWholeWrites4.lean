/- A text. -/
import Derived.Test.YtnnnglklgofabaaGreatGWholeWrites3
import Derived.Test.YtnnnglklgofabaaGreatRecs
import Derived.Test.YtnnnglklgofabaaGreatKeyP
import Derived.Test.YtnnnglklgofabaaGreatGWholeWrites1
import Derived.Test.YtnnnglklgofabaaGreatBlob1
import Derived.Lib.IndexLaws
import Derived.Lib.IndexBytes
import Derived.Test.YtnnnglklgofabaaGreatGWholeWrites2
import Derived.Test.YtnnnglklgofabaaGreatHdr1
import Derived.Test.YtnnnglklgofabaaGreatRec5
import Derived.Deep.RegionHeld3
import Derived.Test.YtnnnglklgofabaaGreatSep
import Derived.Deep.OwnRows
import Derived.Deep.DeepCutAuto
import Derived.IntWalk
import Derived.Test.YtnnnglklgofabaaGreatRec6
import Derived.Test.YtnnnglklgofabaaGreatGrow
import Derived.Test.YtnnnglklgofabaaGreatBlobP
import Derived.Test.YtnnnglklgofabaaGreatBlob2
import Derived.RegionTactic
import Derived.Test.YtnnnglklgofabaaGreatOut
/- A text. -/
namespace Go.Proofs.YtnnnglklgofabaaGreat
open Go.RowKit

structure BatR where
  b : BatS
  l : List (RecS × Value)
  q : Option Addr
  cap : Nat
def RBat (cs : List Value) (x : BatR) : Prop := cs = [.int .i64 x.b.base, .int .i64 x.b.leader, .bool x.b.app, .bool x.b.txn, .bool x.b.ctl, .int .i64 x.b.last, .int .i64 x.b.first, .int .i64 x.b.maxt, .int .i64 x.b.prod, .int .i64 x.b.epoch, .int .i64 x.b.seq, .slice x.q x.l.length x.cap]
def BatR.Fit (x : BatR) : Prop := x.b.R ∧ FitW x.l ∧ x.l.map (·.1) = x.b.recs
def Know.bats (v : Value) (l : List BatR) : Know := (Know.flat RBat v 12 l).and (Know.all l fun x => Know.recs (.slice x.q x.l.length x.cap) x.l)
theorem bats_flat {K : Know} {v : Value} {l : List BatR} (h : K.has (Know.bats v l)) : K.has (Know.flat RBat v 12 l) := fun w F x => (h w F x).1
theorem bats_recs {K : Know} {v : Value} {l : List BatR} (h : K.has (Know.bats v l)) {x : BatR} (hx : x ∈ l) : K.has (Know.recs (.slice x.q x.l.length x.cap) x.l) := fun w F y => (h w F y).2 x hx
theorem bats_at {W0 w : World} {K : Know} {L : List Res} {q : Option Addr} {n cap : Nat} {l : List BatR} (hk : K.has (Know.bats (.slice q n cap) l)) (h : St W0 w K L) (h0 : 0 < l.length) : ∃ b off, q = some ⟨b, off, none⟩ := by
 obtain ⟨F, hF, _⟩ := h.get; obtain ⟨q2, cap2, hv, hr⟩ := (bats_flat hk _ _ hF).at; obtain ⟨b, off, hq, _⟩ := hr h0; simp at hv; exact ⟨b, off, hv.1.trans hq⟩
theorem bats_cell {W0 w : World} {K : Know} {L : List Res} {b off n cap : Nat} {l : List BatR} (hk : K.has (Know.bats (.slice (some ⟨b, off, none⟩) n cap) l)) (h : St W0 w K L) (i : Nat) (hi : i < l.length) (x : BatR) (hx : l[i] = x) :
  w.cell? ⟨b, off + i * 12, none⟩ = some (.int .i64 x.b.base) ∧ w.cell? ⟨b, off + i * 12 + 1, none⟩ = some (.int .i64 x.b.leader) ∧ w.cell? ⟨b, off + i * 12 + 2, none⟩ = some (.bool x.b.app) ∧ w.cell? ⟨b, off + i * 12 + 3, none⟩ = some (.bool x.b.txn) ∧ w.cell? ⟨b, off + i * 12 + 4, none⟩ = some (.bool x.b.ctl) ∧ w.cell? ⟨b, off + i * 12 + 5, none⟩ = some (.int .i64 x.b.last) ∧ w.cell? ⟨b, off + i * 12 + 6, none⟩ = some (.int .i64 x.b.first) ∧ w.cell? ⟨b, off + i * 12 + 7, none⟩ = some (.int .i64 x.b.maxt) ∧ w.cell? ⟨b, off + i * 12 + 8, none⟩ = some (.int .i64 x.b.prod) ∧ w.cell? ⟨b, off + i * 12 + 9, none⟩ = some (.int .i64 x.b.epoch) ∧ w.cell? ⟨b, off + i * 12 + 10, none⟩ = some (.int .i64 x.b.seq) ∧ w.cell? ⟨b, off + i * 12 + 11, none⟩ = some (.slice x.q x.l.length x.cap) := by
 subst hx; obtain ⟨F, hF, _⟩ := h.get; obtain ⟨q2, cap2, hv, hr⟩ := (bats_flat hk _ _ hF).at; obtain ⟨b2, off2, hq, hc⟩ := hr (by omega); rw [hq] at hv; simp at hv; obtain ⟨⟨rfl, rfl⟩, _, _⟩ := hv; obtain ⟨cs, _, hR, hcs⟩ := hc i hi; unfold RBat at hR; subst hR; refine ⟨?_, ?_, ?_, ?_, ?_, ?_, ?_, ?_, ?_, ?_, ?_, ?_⟩
 · exact hcs 0 _ rfl
 · rw [Nat.add_assoc]; exact hcs 1 _ rfl
 · rw [Nat.add_assoc]; exact hcs 2 _ rfl
 · rw [Nat.add_assoc]; exact hcs 3 _ rfl
 · rw [Nat.add_assoc]; exact hcs 4 _ rfl
 · rw [Nat.add_assoc]; exact hcs 5 _ rfl
 · rw [Nat.add_assoc]; exact hcs 6 _ rfl
 · rw [Nat.add_assoc]; exact hcs 7 _ rfl
 · rw [Nat.add_assoc]; exact hcs 8 _ rfl
 · rw [Nat.add_assoc]; exact hcs 9 _ rfl
 · rw [Nat.add_assoc]; exact hcs 10 _ rfl
 · rw [Nat.add_assoc]; exact hcs 11 _ rfl
def errB : List BatR → Int
  | [] => 0
  | x :: t => if batErr x.b = 0 then errB t else batErr x.b
def encB (l : List BatR) : Bs := l.flatMap fun x => x.b.enc
def allB (l : List BatR) : Bs × Int := if errB l = 0 then (encB l, 0) else ([], errB l)
theorem encB_append (l m : List BatR) : encB (l ++ m) = encB l ++ encB m := List.flatMap_append
theorem encB_one (x : BatR) : encB [x] = x.b.enc := by unfold encB; rw [List.flatMap_cons, List.flatMap_nil, List.append_nil]
theorem encB_cons (x : BatR) (t : List BatR) : encB (x :: t) = x.b.enc ++ encB t := rfl
theorem encB_take (l : List BatR) (k : Nat) (h : k < l.length) : encB (l.take (k + 1)) = encB (l.take k) ++ l[k].b.enc := by
 rw [List.take_succ_eq_append_getElem h, encB_append, encB_one]
theorem errB_append (l m : List BatR) (h : errB l = 0) : errB (l ++ m) = errB m := by
 induction l with
 | nil => rfl
 | cons x t ih =>
  have hx : (if batErr x.b = 0 then errB t else batErr x.b) = 0 := h
  show (if batErr x.b = 0 then errB (t ++ m) else batErr x.b) = _
  by_cases h1 : batErr x.b = 0
  · rw [if_pos h1] at hx ⊢; exact ih hx
  · rw [if_neg h1] at hx; exact absurd hx h1
theorem errB_append_ne (l m : List BatR) (h : errB l ≠ 0) : errB (l ++ m) = errB l := by
 induction l with
 | nil => exact absurd rfl h
 | cons x t ih =>
  have hx : (if batErr x.b = 0 then errB t else batErr x.b) ≠ 0 := h
  show (if batErr x.b = 0 then errB (t ++ m) else batErr x.b) = if batErr x.b = 0 then errB t else batErr x.b
  by_cases h1 : batErr x.b = 0
  · rw [if_pos h1] at hx; rw [if_pos h1, if_pos h1]; exact ih hx
  · rw [if_neg h1, if_neg h1]
theorem errB_step (l : List BatR) (k : Nat) (h : k < l.length) (h0 : errB (l.take k) = 0) : errB (l.take (k + 1)) = batErr l[k].b := by
 rw [List.take_succ_eq_append_getElem h, errB_append _ _ h0]
 show (if batErr l[k].b = 0 then 0 else batErr l[k].b) = _
 by_cases h1 : batErr l[k].b = 0
 · rw [if_pos h1, h1]
 · rw [if_neg h1]
theorem errB_at (l : List BatR) (k : Nat) (h : k < l.length) (h0 : errB (l.take k) = 0) (h1 : batErr l[k].b ≠ 0) : errB l = batErr l[k].b := by
 have e : errB l = errB (l.take (k + 1) ++ l.drop (k + 1)) := by rw [List.take_append_drop]
 have h2 := errB_step l k h h0; rw [e, errB_append_ne _ _ (by rw [h2]; exact h1), h2]
theorem errB_mem : ∀ (l : List BatR), errB l = 0 → ∀ x ∈ l, batErr x.b = 0
  | [], _, _, h => by cases h
  | y :: t, hh, x, hx => by
    have hh : (if batErr y.b = 0 then errB t else batErr y.b) = 0 := hh
    by_cases h1 : batErr y.b = 0
    · rw [if_pos h1] at hh
      rcases List.mem_cons.1 hx with rfl | hx
      · exact h1
      · exact errB_mem t hh x hx
    · rw [if_neg h1] at hh; exact absurd hh h1
theorem encB_le : ∀ (l : List BatR), (∀ x ∈ l, x.b.enc.length ≤ 401000) → (encB l).length ≤ 401000 * l.length
  | [], _ => by simp [encB]
  | x :: t, h => by
    have h1 := encB_le t (fun y hy => h y (by simp [hy])); have h2 := h x (by simp); have e : encB (x :: t) = x.b.enc ++ encB t := rfl; rw [e, List.length_append, List.length_cons]
    omega
theorem BatR.small {x : BatR} (hf : x.Fit) (hs : smallB (x.l.map (·.1)) = true) (he : batErr x.b = 0) : SmallOk x.b := SmallOk.of hf.2.2.symm hf.2.1 hs he hf.1
theorem encR_small2 (x : RecS) (hx : x.R) (hs : smallRec x = true) : (encR x).length ≤ 1100 := by
 unfold smallRec at hs; simp only [Bool.and_eq_true, decide_eq_true_eq] at hs; obtain ⟨s1, s2, s3⟩ := hs; have hm := hAll_sum _ s3; have h0 := hsum_le x.hdrs; have h1 := encI_le x.time hx.1; have h2 := encI_le x.off hx.2; have h3 := encV_le x.key (by omega); have h4 := encV_le x.val (by omega); have h5 := encHs_le x.hdrs (by omega); have h8 := encI_le x.hdrs.length (by omega)
 have h6 : (recF x).length ≤ 1060 := by
  unfold recF encHs; simp only [List.length_append, List.length_cons, List.length_nil]
  omega
 have h7 := encV_le ⟨false, recF x⟩ (by simp only; omega); simp only at h7; unfold encR
 omega
theorem BatR.elen {x : BatR} (hf : x.Fit) (hs : smallB (x.l.map (·.1)) = true) : x.b.enc.length ≤ 14000 := by
 rw [x.b.enc_len]; unfold smallB at hs; simp only [Bool.and_eq_true, decide_eq_true_eq] at hs; rw [hf.2.2] at hs
 have h1 := rows_small x.b.recs 1100 (fun y hy => encR_small2 y (by
  have hy2 : y ∈ x.l.map (·.1) := hf.2.2 ▸ hy; obtain ⟨z, hz, rfl⟩ := List.mem_map.1 hy2
  exact (hf.2.1 z hz).1) (rAll_mem _ hs.2 y hy))
 unfold BatS.rowsB
 omega
theorem encB_le2 : ∀ (l : List BatR), (∀ x ∈ l, x.Fit) → (∀ x ∈ l, smallB (x.l.map (·.1)) = true) → (encB l).length ≤ 14000 * l.length
  | [], _, _ => by simp [encB]
  | x :: t, hf, hs => by
    have h1 := encB_le2 t (fun y hy => hf y (by simp [hy])) (fun y hy => hs y (by simp [hy])); have h2 := BatR.elen (hf x (by simp)) (hs x (by simp)); have e : encB (x :: t) = x.b.enc ++ encB t := rfl; rw [e, List.length_append, List.length_cons]
    omega
set_option maxHeartbeats 1000000 in
set_option maxRecDepth 100000 in
theorem key_right (s : Bs) (hs : s.length ≤ 140737488355328) {W0 w : World} {K : Know} {L : List Res} (h : St W0 w K L) :
  Calls Tryz.prog 38 #[.string (bb s)] w fun en w' => en = .returned (.bool (keyRight s)) ∧ St W0 w' K L := by
 have H := Lib.hid h; clear h
 cases s with
 | nil =>
  go_enter Tryz.func38, Tryz.ntmps38; go_wp2; go_ret; exact ⟨rfl, H.out⟩
 | cons c t =>
  have HS := Lib.hid hs; clear hs; go_enter Tryz.func38, Tryz.ntmps38; go_wp2; go_ret; refine ⟨ret_bool ?_, H.out⟩; unfold keyRight; rw [Bool.eq_iff_iff]
  simp
  omega
structure PartR where
  idx : Int
  l : List BatR
  q : Option Addr
  cap : Nat
def RPart (cs : List Value) (x : PartR) : Prop := cs = [.int .i64 x.idx, .slice x.q x.l.length x.cap]
def pcells (x : PartR) : List Value := [.int .i64 x.idx, .slice x.q x.l.length x.cap]
def Know.pparts (v : Value) (l : List PartR) : Know := (Know.flat RPart v 2 l).and (Know.all l fun x => Know.bats (.slice x.q x.l.length x.cap) x.l)
structure PTop where
  name : Bs
  l : List PartR
  q : Option Addr
  cap : Nat
def RPTop (cs : List Value) (x : PTop) : Prop := cs = [.string (bb x.name), .slice x.q x.l.length x.cap]
def ptcells (x : PTop) : List Value := [.string (bb x.name), .slice x.q x.l.length x.cap]
def Know.ptops (v : Value) (l : List PTop) : Know := (Know.flat RPTop v 2 l).and (Know.all l fun x => Know.pparts (.slice x.q x.l.length x.cap) x.l)
theorem pparts_flat {K : Know} {v : Value} {l : List PartR} (h : K.has (Know.pparts v l)) : K.has (Know.flat RPart v 2 l) := fun w F x => (h w F x).1
theorem pparts_bats {K : Know} {v : Value} {l : List PartR} (h : K.has (Know.pparts v l)) {x : PartR} (hx : x ∈ l) : K.has (Know.bats (.slice x.q x.l.length x.cap) x.l) := fun w F y => (h w F y).2 x hx
theorem ptops_flat {K : Know} {v : Value} {l : List PTop} (h : K.has (Know.ptops v l)) : K.has (Know.flat RPTop v 2 l) := fun w F x => (h w F x).1
theorem ptops_parts {K : Know} {v : Value} {l : List PTop} (h : K.has (Know.ptops v l)) {x : PTop} (hx : x ∈ l) : K.has (Know.pparts (.slice x.q x.l.length x.cap) x.l) := fun w F y => (h w F y).2 x hx
theorem pparts_at {W0 w : World} {K : Know} {L : List Res} {q : Option Addr} {n cap : Nat} {l : List PartR} (hk : K.has (Know.pparts (.slice q n cap) l)) (h : St W0 w K L) (h0 : 0 < l.length) : ∃ b off, q = some ⟨b, off, none⟩ := by
 obtain ⟨F, hF, _⟩ := h.get; obtain ⟨q2, cap2, hv, hr⟩ := (pparts_flat hk _ _ hF).at; obtain ⟨b, off, hq, _⟩ := hr h0; simp at hv; exact ⟨b, off, hv.1.trans hq⟩
theorem ptops_at {W0 w : World} {K : Know} {L : List Res} {q : Option Addr} {n cap : Nat} {l : List PTop} (hk : K.has (Know.ptops (.slice q n cap) l)) (h : St W0 w K L) (h0 : 0 < l.length) : ∃ b off, q = some ⟨b, off, none⟩ := by
 obtain ⟨F, hF, _⟩ := h.get; obtain ⟨q2, cap2, hv, hr⟩ := (ptops_flat hk _ _ hF).at; obtain ⟨b, off, hq, _⟩ := hr h0; simp at hv; exact ⟨b, off, hv.1.trans hq⟩
theorem pparts_cell {W0 w : World} {K : Know} {L : List Res} {b off n cap : Nat} {l : List PartR} (hk : K.has (Know.pparts (.slice (some ⟨b, off, none⟩) n cap) l)) (h : St W0 w K L) (i : Nat) (hi : i < l.length) (x : PartR) (hx : l[i] = x) :
  w.cell? ⟨b, off + i * 2, none⟩ = some (.int .i64 x.idx) ∧ w.cell? ⟨b, off + i * 2 + 1, none⟩ = some (.slice x.q x.l.length x.cap) := by
 subst hx; obtain ⟨F, hF, _⟩ := h.get; obtain ⟨q2, cap2, hv, hr⟩ := (pparts_flat hk _ _ hF).at; obtain ⟨b2, off2, hq, hc⟩ := hr (by omega); rw [hq] at hv; simp at hv; obtain ⟨⟨rfl, rfl⟩, _, _⟩ := hv; obtain ⟨cs, _, hR, hcs⟩ := hc i hi; unfold RPart at hR; subst hR; exact ⟨hcs 0 _ rfl, by rw [Nat.add_assoc]; exact hcs 1 _ rfl⟩
theorem ptops_cell {W0 w : World} {K : Know} {L : List Res} {b off n cap : Nat} {l : List PTop} (hk : K.has (Know.ptops (.slice (some ⟨b, off, none⟩) n cap) l)) (h : St W0 w K L) (i : Nat) (hi : i < l.length) (x : PTop) (hx : l[i] = x) :
  w.cell? ⟨b, off + i * 2, none⟩ = some (.string (bb x.name)) ∧ w.cell? ⟨b, off + i * 2 + 1, none⟩ = some (.slice x.q x.l.length x.cap) := by
 subst hx; obtain ⟨F, hF, _⟩ := h.get; obtain ⟨q2, cap2, hv, hr⟩ := (ptops_flat hk _ _ hF).at; obtain ⟨b2, off2, hq, hc⟩ := hr (by omega); rw [hq] at hv; simp at hv; obtain ⟨⟨rfl, rfl⟩, _, _⟩ := hv; obtain ⟨cs, _, hR, hcs⟩ := hc i hi; unfold RPTop at hR; subst hR; exact ⟨hcs 0 _ rfl, by rw [Nat.add_assoc]; exact hcs 1 _ rfl⟩
def riseP : Int → List PartR → Bool
  | _, [] => true
  | a, x :: t => decide (a < x.idx) && decide (x.idx ≤ 2147483647) && riseP x.idx t
def errT : Bs → List PTop → Int
  | _, [] => 0
  | a, x :: t => if x.l.length = 0 then 10 else if (keyRight x.name && Op.bytesLess a x.name && riseP (-1) x.l) = true then errT x.name t else 13
def errTops (l : List PTop) : Int := if l.length = 0 then 10 else errT [] l
def errBs (txn : Bool) : List BatR → Int
  | [] => 0
  | x :: t => if batErr x.b ≠ 0 then batErr x.b else if x.b.ctl = true then 12 else if x.b.txn ≠ txn then 8 else errBs txn t
def errPs (txn : Bool) (v : Int) : List PartR → Int
  | [] => 0
  | x :: t => if x.l.length = 0 ∨ (v = 3 ∧ 1 < x.l.length) then 10 else if errBs txn x.l ≠ 0 then errBs txn x.l else errPs txn v t
def errPT (txn : Bool) (v : Int) : List PTop → Int
  | [] => 0
  | x :: t => if errPs txn v x.l ≠ 0 then errPs txn v x.l else errPT txn v t
def errReq (id : BlobS) (acks tmo : Int) (v : Int) (l : List PTop) : Int :=
  if id.right = false ∨ (id.null = false ∧ keyRight id.data = false) then 4
  else if acks < -1 ∨ 1 < acks ∨ tmo < 0 ∨ 2147483647 < tmo then 11
  else if errTops l ≠ 0 then errTops l else errPT (!id.null) v l
theorem riseP_cons (a : Int) (x : PartR) (t : List PartR) : riseP a (x :: t) = (decide (a < x.idx) && decide (x.idx ≤ 2147483647) && riseP x.idx t) := rfl
structure CkR (x : BatR) : Prop where
  recs : x.l.map (·.1) = x.b.recs
  first : x.b.first ≤ 9223372036854775807
  fit : FitB x.l
  len : x.l.length ≤ 1000000
theorem errBs_cons (txn : Bool) (x : BatR) (t : List BatR) : errBs txn (x :: t) = if batErr x.b ≠ 0 then batErr x.b else if x.b.ctl = true then 12 else if x.b.txn ≠ txn then 8 else errBs txn t := rfl
theorem zq12 {p : Prop} (h : p := by
  have e1 : (a == b) = false := by simpa using h1
  have e2 : (b == a) = false := by simpa using fun h => h1 h.symm
  rw [e1, e2]; simp only [Bool.false_and, Bool.or_false]; have h3 : a.toNat ≠ b.toNat := fun h => h1 (UInt8.toNat_inj.1 h)
  by_cases h4 : a < b
  · have h5 : ¬ b < a := by rw [UInt8.lt_iff_toNat_lt] at h4 ⊢; omega
    simp [h4, h5]
  · have h5 : b < a := by rw [UInt8.lt_iff_toNat_lt] at h4 ⊢; omega
    simp [h4, h5]) : p := h
theorem zq27 {p : Prop} (h : p := by
  subst h1; have h2 : ¬ a < a := by rw [UInt8.lt_iff_toNat_lt]; omega
  simp only [h2, decide_false, Bool.false_or, beq_self_eq_true, Bool.true_and]; exact ih) : p := h
theorem lex_leqP : ∀ x y : Bs, (Op.bytesLess x y || x == y) = !Op.bytesLess y x
  | [], [] => rfl
  | [], _ :: _ => rfl
  | _ :: _, [] => rfl
  | a :: x, b :: y => by
    have ih := lex_leqP x y
    show ((decide (a < b) || (a == b && Op.bytesLess x y)) || (a == b && x == y)) = !(decide (b < a) || (b == a && Op.bytesLess y x))
    by_cases h1 : a = b
    · exact zq27
    · exact zq12
theorem errT_cons (a : Bs) (x : PTop) (t : List PTop) : errT a (x :: t) = if x.l.length = 0 then 10 else if (keyRight x.name && Op.bytesLess a x.name && riseP (-1) x.l) = true then errT x.name t else 13 := rfl
theorem key_rightQ (s : Bs) (r : Bool) (hr : keyRight s = r) (hs : s.length ≤ 140737488355328) {W0 w : World} {K : Know} {L : List Res} (h : St W0 w K L) :
  Calls Tryz.prog 38 #[.string (bb s)] w fun en w' => en = .returned (.bool r) ∧ St W0 w' K L := by
 subst hr; exact key_right s hs h
theorem leq_parts (x y : Bs) (h : Op.bytesLess y x = true) : Op.bytesLess x y = false ∧ (x == y) = false := by
 have := lex_leqP x y; rw [h] at this
 simpa using this
theorem leq_cases (x y : Bs) (h : Op.bytesLess y x = false) : Op.bytesLess x y = true ∨ (Op.bytesLess x y = false ∧ (x == y) = true) := by
 have := lex_leqP x y; rw [h] at this
 cases c : Op.bytesLess x y with
 | true => exact .inl rfl
 | false => rw [c] at this; exact .inr ⟨rfl, by simpa using this⟩
theorem errPs_cons (txn : Bool) (v : Int) (x : PartR) (t : List PartR) : errPs txn v (x :: t) = if x.l.length = 0 ∨ (v = 3 ∧ 1 < x.l.length) then 10 else if errBs txn x.l ≠ 0 then errBs txn x.l else errPs txn v t := rfl
theorem errPT_cons (txn : Bool) (v : Int) (x : PTop) (t : List PTop) : errPT txn v (x :: t) = if errPs txn v x.l ≠ 0 then errPs txn v x.l else errPT txn v t := rfl
structure CkP (x : PartR) : Prop where
  len : x.l.length ≤ 4398046511104
  bats : ∀ y ∈ x.l, CkR y
structure CkT (x : PTop) : Prop where
  name : x.name.length ≤ 140737488355328
  len : x.l.length ≤ 4398046511104
  parts : ∀ y ∈ x.l, CkP y
theorem pblob_rightQ (nl : Bool) (dd : Bs) (r : Bool) (hr : (⟨nl, dd⟩ : BlobS).right = r) {W0 w : World} {K : Know} {L : List Res} (h : St W0 w K L) :
  Calls Tryz.prog 37 #[.agg #[.bool nl, .string (bb dd)]] w fun en w' => en = .returned (.bool r) ∧ St W0 w' K L := by
 subst hr; exact blob_right ⟨nl, dd⟩ h
theorem ckT_few {l : List PTop} (h : ∀ x ∈ l, CkT x) : ∀ x ∈ l, x.name.length ≤ 140737488355328 ∧ x.l.length ≤ 4398046511104 := fun x hx => ⟨(h x hx).name, (h x hx).len⟩
theorem allB_bad {l : List BatR} {s : Bs} {e : Int} (h : allB l = (s, e)) (h0 : errB l ≠ 0) : s = [] ∧ e = errB l := by unfold allB at h; rw [if_neg h0] at h; cases h; exact ⟨rfl, rfl⟩
theorem allB_ok {l : List BatR} {s : Bs} {e : Int} (h : allB l = (s, e)) (h0 : errB l = 0) : s = encB l ∧ e = 0 := by unfold allB at h; rw [if_pos h0] at h; cases h; exact ⟨rfl, rfl⟩
set_option maxHeartbeats 2000000 in
set_option maxRecDepth 100000 in
theorem bat_all (l : List BatR) (q : Option Addr) (cap : Nat) (s : Bs) (e : Int) (hse : allB l = (s, e)) (hf : ∀ x ∈ l, x.Fit) (hsm : ∀ x ∈ l, smallB (x.l.map (·.1)) = true) (hll : l.length ≤ 20) {W0 w : World} {K : Know} {L : List Res} (hk : K.has (Know.bats (.slice q l.length cap) l)) (h : St W0 w K L) :
  Calls Tryz.prog 25 #[.slice q l.length cap] w fun en w' => en = .returned (.tuple #[.string (bb s), .int .i64 e]) ∧ St W0 w' K L := by
 have g1 := h.allocOut; obtain ⟨po, hpo⟩ : ∃ b, w.heap.size = b := ⟨_, rfl⟩; rw [hpo] at g1; have H := Lib.hid g1; have HK := Lib.hid hk; have HFT := Lib.hid hf; have HSMA := Lib.hid hsm; have HLL := Lib.hid hll; have HSE := Lib.hid hse; clear h g1 hk hf hsm hll hse; go_enter Tryz.func25, Tryz.ntmps25; go_wp2; go_loopw [6, 7, 8, 11] (fun _ _ _ iv wr => ∃ k : Nat, k ≤ l.length ∧ iv = .int .i64 k ∧ errB (l.take k) = 0 ∧ St W0 wr K (.out po ⟨encB (l.take k), 0⟩ :: L)) (fun _ _ _ iv _ => l.length - (intOf iv).toNat)
 case atStart => exact ⟨0, Nat.zero_le _, rfl, rfl, H.out⟩
 case round =>
  obtain ⟨k, hkl, rfl, her, hst⟩ := hrel; clear H; have H := Lib.hid hst; have HER := Lib.hid her; clear hst her
  by_cases hlt : k < l.length
  · have hl20 : (l.length : Int) ≤ 20 := by have := HLL.out; omega
    have hstep := errB_step l k hlt HER.out; have hat := errB_at l k hlt HER.out; have het := encB_take l k hlt; obtain ⟨b, off, hqq⟩ := bats_at HK.out H.out (by omega); subst hqq; obtain ⟨x, hx⟩ : ∃ x, l[k] = x := ⟨_, rfl⟩; have cc := bats_cell HK.out H.out k hlt x hx; have hmem : x ∈ l := hx ▸ List.getElem_mem hlt; have XF := Lib.hid (HFT.out x hmem); have XR2 := Lib.hid XF.out.2.1; have XR3 := Lib.hid XF.out.2.2; have XK := Lib.hid (bats_recs HK.out hmem); obtain ⟨c0, c1, c2, c3, c4, c5, c6, c7, c8, c9, c10, c11⟩ := cc; obtain ⟨wE, hwE⟩ : ∃ b, wr.heap.size = b := ⟨_, rfl⟩; have hki : (k : Int) < (l.length : Int) := by omega
    have h := H.out.allocRaw #[.int .i64 x.b.base, .int .i64 x.b.leader, .bool x.b.app, .bool x.b.txn, .bool x.b.ctl, .int .i64 x.b.last, .int .i64 x.b.first, .int .i64 x.b.maxt, .int .i64 x.b.prod, .int .i64 x.b.epoch, .int .i64 x.b.seq, .slice x.q x.l.length x.cap] 58; rw [hwE] at h; clear H; have H := Lib.hid h; clear h; rw [hx] at hstep hat het; have HSX := Lib.hid (HSMA.out x hmem); have HSTEP := Lib.hid hstep; clear hstep; obtain ⟨x0, x1, x2, x3, x4, x5, x6, x7, x8, x9, x10, x11, y0, y1, y2, y3, y4, y5, y6, y7, y8, y9, y10, y11⟩ := raw12 (b := wE) (H.out)
    by_cases he : batErr x.b = 0
    · have HSO := Lib.hid (BatR.small XF.out HSX.out he); obtain ⟨s0, hs0⟩ : ∃ s, x.b.enc = s := ⟨_, rfl⟩; have HS := Lib.hid hs0; rw [hs0] at het
      have OK := Lib.hid (show (⟨encB (l.take k), 0⟩ : OutS).ok s0.length by
       have h1 := encB_le (l.take k) (fun y hy => (BatR.small (HFT.out y (List.mem_of_mem_take hy)) (HSMA.out y (List.mem_of_mem_take hy)) (errB_mem _ HER.out y hy)).elen); have h2 := HLL.out; have h3 := HSO.out.elen; rw [HS.out] at h3; rw [List.length_take] at h1; unfold OutS.ok; simp only
       omega)
      have EP := Lib.hid (show (⟨encB (l.take k), 0⟩ : OutS).put s0 = ⟨encB (l.take (k + 1)), 0⟩ by rw [het]; rfl); have NE := Lib.hid (show errB (l.take (k + 1)) = 0 by rw [HSTEP.out]; exact he); clear het hat hs0 he hx hmem
      go_wp2_with (first
  | (go_at_call 57; clear x0 y0 x1 y1 x2 y2 x3 y3 x4 y4 x5 y5 x6 y6 x7 y7 x8 y8 x9 y9 x10 y10 x11 y11; (with_reducible refine (bat_encode_encE x.b s0 HS.out x.l _ _ XR3.out HSO.out XK.out H.out).mono ?_); rintro e_ wn ⟨rfl, h⟩; replace H := Lib.hid h; clear h; obtain ⟨x0, x1, x2, x3, x4, x5, x6, x7, x8, x9, x10, x11, y0, y1, y2, y3, y4, y5, y6, y7, y8, y9, y10, y11⟩ := raw12 (b := wE) (H.out))
  | (go_at_call 60; (with_reducible refine (so_put po _ _ H.out.p1 OK.out).mono ?_); rw [EP.out]; rintro e_ wn ⟨rfl, h⟩; replace H := Lib.hid h; clear h))
      go_roundw
      case rel => exact ⟨k + 1, hlt, by go_num, NE.out, H.out.p1.drop⟩
      case measure => first | (simp [intOf]; done) | (simp [intOf]; omega)
    · have hee := allB_bad HSE.out (by rw [hat he]; exact he); rw [hat he] at hee; obtain ⟨rfl, he0⟩ := hee; have he2 : batErr x.b = e := he0.symm; rw [he2] at he; have HE := Lib.hid (show batErr ⟨x.b.base, x.b.leader, x.b.app, x.b.txn, x.b.ctl, x.b.last, x.b.first, x.b.maxt, x.b.prod, x.b.epoch, x.b.seq, x.l.map (·.1)⟩ = e by rw [XF.out.2.2]; exact he2); have H0 := Lib.hid he; have HMX := Lib.hid (show x.b.first ≤ 9223372036854775807 by have := XF.out.1.2.2.2.1.2; omega); have HFB := Lib.hid (FitW.fit XF.out.2.1 HSX.out); have HLL3 := Lib.hid (show x.l.length ≤ 1000 by have := smallB_len HSX.out; omega); have gz : (e == 0) = false := by rw [beq_eq_false_iff_ne]; exact he
      have gz3 : (e != 0) = true := by simp [bne, gz]
      clear het hat he he0 he2 hx hmem
      go_wp2_with (first
  | (go_at_call 57; clear x0 y0 x1 y1 x2 y2 x3 y3 x4 y4 x5 y5 x6 y6 x7 y7 x8 y8 x9 y9 x10 y10 x11 y11; (with_reducible refine (bat_encode_bad _ _ _ _ _ _ _ _ _ _ _ x.l _ _ e HE.out H0.out HMX.out HFB.out HLL3.out XK.out H.out).mono ?_); rintro e_ wn ⟨rfl, h⟩; replace H := Lib.hid h; clear h; obtain ⟨x0, x1, x2, x3, x4, x5, x6, x7, x8, x9, x10, x11, y0, y1, y2, y3, y4, y5, y6, y7, y8, y9, y10, y11⟩ := raw12 (b := wE) (H.out)))
      go_ret2; exact ⟨rfl, H.out.drop.drop⟩
  · obtain rfl : k = l.length := by omega
    have her := HER.out; rw [List.take_length] at her; obtain ⟨hs, rfl⟩ := allB_ok HSE.out her; have h := H.out; rw [List.take_length, ← hs] at h; clear H her hs; have H := Lib.hid h; clear h; have ET := Lib.hid (show (⟨s, 0⟩ : OutS).text = (s, 0) from rfl)
    go_wp2_with (first
  | (go_at_call 9; (with_reducible refine (so_text po _ H.out).mono ?_); rw [ET.out]; rintro e_ wn ⟨rfl, h⟩; replace H := Lib.hid h; clear h))
    go_ret2; exact ⟨rfl, H.out.drop⟩
def encPart (x : PartR) : Bs := beBytes x.idx (4 : Int).toNat ++ encF 4 ⟨false, encB x.l⟩
def encPTop (x : PTop) : Bs := (encF 2 ⟨false, x.name⟩ ++ beBytes (x.l.length : Int) (4 : Int).toNat) ++ x.l.flatMap encPart
def encPReq (nl : Bool) (dd : Bs) (ac tm : Int) (l : List PTop) : Bs := (((encF 2 ⟨nl, dd⟩ ++ beBytes ac (2 : Int).toNat) ++ beBytes tm (4 : Int).toNat) ++ beBytes (l.length : Int) (4 : Int).toNat) ++ l.flatMap encPTop
theorem pfits2 (n : Int) (h : -32768 ≤ n ∧ n < 32768) : fits n 2 := by
 refine ⟨by decide, by decide, ?_, ?_⟩
 · show -(128 * 256 ^ 1 : Int) ≤ n; omega
 · show n < 128 * 256 ^ 1; omega
theorem pfits4 (n : Int) (h : -2147483648 ≤ n ∧ n < 2147483648) : fits n 4 := by
 refine ⟨by decide, by decide, ?_, ?_⟩
 · show -(128 * 256 ^ 3 : Int) ≤ n; omega
 · show n < 128 * 256 ^ 3; omega
theorem zq30 {p : Prop} (h : p := by unfold OutS.ok; simp only; omega) : p := h
theorem pso_int (p : Nat) (e e2 : Bs) (n size : Int) (he : e ++ beBytes n size.toNat = e2) (hf : fits n size) (hn : -9223372036854775808 ≤ n ∧ n < 9223372036854775808) (hl : e.length ≤ 100000000000000) {W0 w : World} {K : Know} {L : List Res} (h : St W0 w K (.out p ⟨e, 0⟩ :: L)) :
  Calls Tryz.prog 32 #[outPtr p, .int .i64 n, .int .i64 size] w fun en w' => en = .returned (.tuple #[]) ∧ St W0 w' K (.out p ⟨e2, 0⟩ :: L) := by
 have h2 := so_int p ⟨e, 0⟩ n size hn h zq30; have e3 : (⟨e, 0⟩ : OutS).int n size = ⟨e2, 0⟩ := by unfold OutS.int; rw [if_pos hf, ← he]; rfl
 rw [e3] at h2; exact h2
theorem zq20 {p : Prop} (h : p := by
  show ((⟨e, 0⟩ : OutS).int (⟨false, s⟩ : BlobS).len 2).putData ⟨false, s⟩ = _
  unfold OutS.int; rw [if_pos hf, ← he]
  show (⟨(e ++ beBytes (⟨false, s⟩ : BlobS).len 2) ++ s, 0⟩ : OutS) = _
  rw [List.append_assoc]
  rfl) : p := h
theorem zq31 {p : Prop} (h : p := by show -32768 ≤ (s.length : Int) ∧ (s.length : Int) < 32768; omega) : p := h
theorem pblob_text (p : Nat) (e e2 s : Bs) (he : e ++ encF 2 ⟨false, s⟩ = e2) (hs : s.length ≤ 32767) (hl : e.length ≤ 100000000000000) {W0 w : World} {K : Know} {L : List Res} (h : St W0 w K (.out p ⟨e, 0⟩ :: L)) :
  Calls Tryz.prog 33 #[outPtr p, .string (bb s)] w fun en w' => en = .returned (.tuple #[]) ∧ St W0 w' K (.out p ⟨e2, 0⟩ :: L) := by
 have h2 := blob_putText p ⟨e, 0⟩ s h zq30; have hf : fits (⟨false, s⟩ : BlobS).len 2 := pfits2 _ zq31
 have e3 : (⟨e, 0⟩ : OutS).putText s = ⟨e2, 0⟩ := by
  exact zq20
 rw [e3] at h2; exact h2
theorem pblob_fixed2 (p : Nat) (e e2 : Bs) (u : Bool) (s : Bs) (he : e ++ encF 2 ⟨u, s⟩ = e2) (hr : (⟨u, s⟩ : BlobS).right = true) (hs : s.length ≤ 32767) (hl : e.length ≤ 100000000000000) {W0 w : World} {K : Know} {L : List Res} (h : St W0 w K (.out p ⟨e, 0⟩ :: L)) :
  Calls Tryz.prog 31 #[outPtr p, .agg #[.bool u, .string (bb s)], .int .i64 2] w fun en w' => en = .returned (.tuple #[]) ∧ St W0 w' K (.out p ⟨e2, 0⟩ :: L) := by
 have h2 := blob_putFixed p ⟨e, 0⟩ ⟨u, s⟩ 2 h zq30
 have e3 : (⟨e, 0⟩ : OutS).putFixed ⟨u, s⟩ 2 = ⟨e2, 0⟩ := by
  unfold OutS.putFixed OutS.int
  cases u with
  | true =>
   have h3 : s = [] := by cases s with | nil => rfl | cons _ _ => cases hr
   subst h3; rw [if_pos (pfits2 _ (by decide)), ← he]
   show (⟨(e ++ beBytes (⟨true, []⟩ : BlobS).len 2) ++ [], 0⟩ : OutS) = _
   rw [List.append_assoc]
   rfl
  | false =>
   rw [if_pos (pfits2 _ zq31), ← he]
   show (⟨(e ++ beBytes (⟨false, s⟩ : BlobS).len 2) ++ s, 0⟩ : OutS) = _
   rw [List.append_assoc]
   rfl
 rw [e3] at h2; exact h2
theorem pblob_fixed4 (p : Nat) (e e2 s : Bs) (he : e ++ encF 4 ⟨false, s⟩ = e2) (hs : s.length ≤ 100000000) (hl : e.length ≤ 100000000000000) {W0 w : World} {K : Know} {L : List Res} (h : St W0 w K (.out p ⟨e, 0⟩ :: L)) :
  Calls Tryz.prog 31 #[outPtr p, .agg #[.bool false, .string (bb s)], .int .i64 4] w fun en w' => en = .returned (.tuple #[]) ∧ St W0 w' K (.out p ⟨e2, 0⟩ :: L) := by
 have h2 := blob_putFixed p ⟨e, 0⟩ ⟨false, s⟩ 4 h zq30
 have e3 : (⟨e, 0⟩ : OutS).putFixed ⟨false, s⟩ 4 = ⟨e2, 0⟩ := by
  unfold OutS.putFixed OutS.int; rw [if_pos (pfits4 _ (by show -2147483648 ≤ (s.length : Int) ∧ (s.length : Int) < 2147483648; omega)), ← he]
  show (⟨(e ++ beBytes (⟨false, s⟩ : BlobS).len 4) ++ s, 0⟩ : OutS) = _
  rw [List.append_assoc]
  rfl
 rw [e3] at h2; exact h2
theorem pblob_of (s : Bs) {W0 w : World} {K : Know} {L : List Res} (h : St W0 w K L) : Calls Tryz.prog 68 #[.string (bb s)] w fun en w' => en = .returned (.agg #[.bool false, .string (bb s)]) ∧ St W0 w' K L := blob_of s h
structure PutP (x : PartR) : Prop where
  few : x.l.length ≤ 20
  fit : ∀ y ∈ x.l, y.Fit
  small : ∀ y ∈ x.l, smallB (y.l.map (·.1)) = true
  err : errB x.l = 0
  idx : 0 ≤ x.idx ∧ x.idx ≤ 2147483647
theorem PutP.len {x : PartR} (h : PutP x) : (encB x.l).length ≤ 280000 := by
 have h1 := encB_le2 x.l h.fit h.small; have := h.few
 omega
theorem allB_good {l : List BatR} (h : errB l = 0) : allB l = (encB l, 0) := by unfold allB; rw [if_pos h]
def Occ : List Bs → Bs → Prop
  | [], _ => True
  | x :: l, s => ∃ a b, s = a ++ (x ++ b) ∧ Occ l b
theorem Occ.pre : ∀ {l : List Bs} {s : Bs} (c : Bs), Occ l s → Occ l (c ++ s)
  | [], _, _, _ => trivial
  | _ :: _, _, c, ⟨a, b, h1, h2⟩ => ⟨c ++ a, b, by rw [h1, List.append_assoc], h2⟩
theorem Occ.join : ∀ {l m : List Bs} {s t : Bs}, Occ l s → Occ m t → Occ (l ++ m) (s ++ t)
  | [], _, s, _, _, h => h.pre s
  | _ :: _, _, _, _, ⟨a, b, h1, h2⟩, h => ⟨a, b ++ _, by rw [h1]; simp only [List.append_assoc], h2.join h⟩
theorem Occ.one (a x : Bs) : Occ [x] (a ++ x) := ⟨a, [], by rw [List.append_nil], trivial⟩
theorem Occ.flat {A : Type} (f : A → Bs) (g : A → List Bs) : ∀ l : List A, (∀ x ∈ l, Occ (g x) (f x)) → Occ (l.flatMap g) (l.flatMap f)
  | [], _ => trivial
  | x :: l, h => by
    rw [List.flatMap_cons, List.flatMap_cons]; exact (h x (by simp)).join (Occ.flat f g l fun y hy => h y (by simp [hy]))

theorem index_le_occ : ∀ (a x b : Bs), ∃ k : Nat, Lib.index (a ++ (x ++ b)) x = k ∧ k ≤ a.length
  | [], x, b => ⟨0, by
      have h : x.isPrefixOf (x ++ b) = true := by simp
      show Lib.index (x ++ b) x = _
      cases hx : x ++ b with
      | nil =>
        have h0 : x = [] := (List.append_eq_nil_iff.1 hx).1; subst h0
        rfl
      | cons c l =>
        rw [hx] at h; unfold Lib.index; rw [if_pos h]
        rfl, Nat.le_refl _⟩
  | c :: a, x, b => by
      obtain ⟨k, h1, h2⟩ := index_le_occ a x b
      show ∃ k : Nat, Lib.index (c :: (a ++ (x ++ b))) x = k ∧ k ≤ (c :: a).length
      unfold Lib.index
      by_cases hp : x.isPrefixOf (c :: (a ++ (x ++ b))) = true
      · rw [if_pos hp]; exact ⟨0, rfl, by simp⟩
      · rw [if_neg hp, h1, if_neg (by simp)]; exact ⟨k + 1, by simp, Nat.succ_le_succ h2⟩
theorem Occ.next {x : Bs} {l : List Bs} {s : Bs} (h : Occ (x :: l) s) : ∃ k : Nat, Lib.index s x = k ∧ k + x.length ≤ s.length ∧ Occ l (s.drop (k + x.length)) := by
 obtain ⟨a, b, rfl, h2⟩ := h; obtain ⟨k, h3, h4⟩ := index_le_occ a x b; refine ⟨k, h3, by simp only [List.length_append]; omega, ?_⟩; rw [← List.append_assoc, List.drop_append_of_le_length (by rw [List.length_append]; omega)]; exact h2.pre _

def partBs (x : PTop) : List Bs := x.l.map fun p => encB p.l
theorem occ_part (p : PartR) : Occ [encB p.l] (encPart p) := by
 have h : encPart p = (beBytes p.idx (4 : Int).toNat ++ beBytes (⟨false, encB p.l⟩ : BlobS).len 4) ++ encB p.l := by
  show beBytes p.idx (4 : Int).toNat ++ (beBytes (⟨false, encB p.l⟩ : BlobS).len 4 ++ encB p.l) = _
  rw [List.append_assoc]
 rw [h]; exact Occ.one _ _
theorem flatMap_one {A B : Type} (f : A → B) : ∀ l : List A, l.flatMap (fun x => [f x]) = l.map f
  | [] => rfl
  | x :: l => by rw [List.flatMap_cons, flatMap_one f l]; rfl
theorem occ_top (x : PTop) : Occ (partBs x) (encPTop x) := by
 have h := Occ.flat encPart (fun p : PartR => [encB p.l]) x.l (fun p _ => occ_part p); rw [flatMap_one (fun p : PartR => encB p.l)] at h; exact h.pre _
theorem occ_req (nl : Bool) (dd : Bs) (ac tm : Int) (l : List PTop) : Occ (l.flatMap partBs) (encPReq nl dd ac tm l) :=
 (Occ.flat encPTop partBs l fun x _ => occ_top x).pre _
theorem recs_nilK (K : Know) : K.has (Know.recs (.slice none 0 0) []) := fun _ _ _ => ⟨⟨none, 0, rfl, fun h => absurd h (by decide)⟩, fun x h => by cases h⟩
def turned : Nat → List Bool → List Bool
  | 0, m => m
  | k + 1, m => (turned k m).set k (!(turned k m).getD k false)
structure EndS where
  n1 : Int
  n2 : Int
  n3 : Int
  n4 : Int
  n5 : Int
def EndS.R (x : EndS) : Prop := Rn x.n1 ∧ Rn x.n2 ∧ Rn x.n3 ∧ Rn x.n4 ∧ Rn x.n5
structure Good1 (x : BatR) : Prop where
  so : SmallOk x.b
  recs : x.l.map (·.1) = x.b.recs
  len : x.b.enc.length ≤ 14000
  told : x.b.ctl = true → (endOf x.b).2.2.2.2.2 = true
theorem results_cell_tmp2 {P : Program} {fn : Func} {p t t' : Tmp} {ty : TypeId} (h : fn.results = #[.cell p ty, .tmp t, .tmp t']) (tmps : Array Value) (w : World) (b : Nat) (cs : List Value) (dd : TypeDesc)
    (hp : tmps.getD p undef = .pointer (some ⟨b, 0, none⟩)) (hc : w.rangeAt b 0 cs) (hu : P.underlying ty = some dd) (hd : dd.isRow = true) (hi : (P.info? ty).map (·.size) = some cs.length) :
    (results fn tmps).run P w = .ok (.tuple #[.agg cs.toArray, tmps.getD t undef, tmps.getD t' undef]) w := by
  have hp' : tmps[p]?.getD undef = .pointer (some ⟨b, 0, none⟩) := by simpa using hp
  simp [results, h, hp', asAddr, run_loadVar_mid w b 0 ty cs dd hc hu hd hi]
def noneB : BatS := ⟨0, 0, false, false, false, 0, 0, 0, -1, -1, -1, []⟩
theorem so_none : SmallOk noneB where
 fit := fun x hx => by cases hx
 len := by decide
 err := by decide +kernel
 rng := by unfold BatS.R noneB Rn; decide
theorem len_none : noneB.enc.length = 61 := by rw [BatS.enc_len]; rfl
theorem encode_none (s : Bs) (hs : noneB.enc = s) {W0 w : World} {K : Know} {L : List Res} (h : St W0 w K L) :
  Calls Tryz.prog 57 #[.agg #[.int .i64 0, .int .i64 0, .bool false, .bool false, .bool false, .int .i64 0, .int .i64 0, .int .i64 0, .int .i64 (-1), .int .i64 (-1), .int .i64 (-1), .slice none 0 0]] w fun en w' => en = .returned (.tuple #[.string (bb s), .int .i64 0]) ∧ St W0 w' K L := by
 subst hs; exact bat_encode_enc noneB [] none 0 rfl so_none (recs_nilK K) h
set_option maxHeartbeats 4000000 in
set_option maxRecDepth 100000 in
theorem top_none {W0 w : World} {K : Know} {L : List Res} (h : St W0 w K L) :
  Calls Tryz.prog 22 #[] w fun en w' => ∃ s : Bs, en = .returned (.tuple #[.agg #[.int .i64 0, .int .i64 0, .bool false, .bool false, .bool false, .int .i64 0, .int .i64 0, .int .i64 0, .int .i64 (-1), .int .i64 (-1), .int .i64 (-1), .slice none 0 0], .string (bb s), .bool true]) ∧ St W0 w' K L := by
 obtain ⟨s, hs⟩ : ∃ s, noneB.enc = s := ⟨_, rfl⟩; have HS := Lib.hid hs; have hsl : s.length = 61 := by rw [← hs]; exact len_none
 have hl61 : ((s.length : Int) == 61) = true := by rw [hsl]; rfl
 obtain ⟨rb, hrb⟩ : ∃ b, w.heap.size = b := ⟨_, rfl⟩; obtain ⟨nb, hnb⟩ : ∃ b, rb + 1 = b := ⟨_, rfl⟩; have h1 := (h.allocRaw #[.int .i64 0, .int .i64 0, .bool false, .bool false, .bool false, .int .i64 0, .int .i64 0, .int .i64 0, .int .i64 0, .int .i64 0, .int .i64 0, .slice none 0 0] 58).allocRaw #[.int .i64 0, .int .i64 0, .bool false, .bool false, .bool false, .int .i64 0, .int .i64 0, .int .i64 0, .int .i64 (-1), .int .i64 (-1), .int .i64 (-1), .slice none 0 0] 58; simp only [World.size_alloc, hrb, hnb] at h1; obtain ⟨x0, x1, x2, x3, x4, x5, x6, x7, x8, x9, x10, x11, y0, y1, y2, y3, y4, y5, y6, y7, y8, y9, y10, y11⟩ := raw12 (b := nb) (h1); obtain ⟨z0, z1, z2, z3, z4, z5, z6, z7, z8, z9, z10, z11, v0, v1, v2, v3, v4, v5, v6, v7, v8, v9, v10, v11⟩ := raw12 (b := rb) (h1.p1); have H := Lib.hid h1; clear h h1 hs hsl; go_enter Tryz.func22, Tryz.ntmps22; go_wp2_with (go_at_call 57; clear x0 y0 z0 v0 x1 y1 z1 v1 x2 y2 z2 v2 x3 y3 z3 v3 x4 y4 z4 v4 x5 y5 z5 v5 x6 y6 z6 v6 x7 y7 z7 v7 x8 y8 z8 v8 x9 y9 z9 v9 x10 y10 z10 v10 x11 y11 z11 v11; (with_reducible refine (encode_none s HS.out H.out).mono ?_); rintro e_ wn ⟨rfl, h⟩; obtain ⟨x0, x1, x2, x3, x4, x5, x6, x7, x8, x9, x10, x11, y0, y1, y2, y3, y4, y5, y6, y7, y8, y9, y10, y11⟩ := raw12 (b := nb) (h); obtain ⟨z0, z1, z2, z3, z4, z5, z6, z7, z8, z9, z10, z11, v0, v1, v2, v3, v4, v5, v6, v7, v8, v9, v10, v11⟩ := raw12 (b := rb) (h.p1); replace H := Lib.hid h; clear h); have hz : St W0 _ K (.raw rb #[.int .i64 0, .int .i64 0, .bool false, .bool false, .bool false, .int .i64 0, .int .i64 0, .int .i64 0, .int .i64 (-1), .int .i64 (-1), .int .i64 (-1), .slice none 0 0] 58 :: _) := St.sets12 _ _ _ _ _ _ _ _ _ _ _ _ (H.out.p1); refine bodyPost_ret (results_cell_tmp2 rfl _ _ rb [.int .i64 0, .int .i64 0, .bool false, .bool false, .bool false, .int .i64 0, .int .i64 0, .int .i64 0, .int .i64 (-1), .int .i64 (-1), .int .i64 (-1), .slice none 0 0] _ rfl (rc_range hz) Tryz.underlying58 rfl (by kernel_rfl)) rfl ?_; exact ⟨s, rfl, hz.drop.drop⟩
structure Ext {α : Type} (p : Bs → Except Int (α × Nat)) : Prop where
  ok : ∀ (t r : Bs) (x : α × Nat), p t = .ok x → p (t ++ r) = .ok x
  err : ∀ (t r : Bs) (e : Int), p t = .error e → e ≠ 1 → p (t ++ r) = .error e
  le : ∀ (t : Bs) (x : α) (k : Nat), p t = .ok (x, k) → k ≤ t.length
theorem Ext.short {α : Type} {p : Bs → Except Int (α × Nat)} (h : Ext p) {e : Bs} {x : α} (hb : p e = .ok (x, e.length)) (j : Nat) (hj : j < e.length) : p (e.take j) = .error 1 := by
 have hs : e.take j ++ e.drop j = e := List.take_append_drop _ _
 cases hp : p (e.take j) with
 | ok y =>
  obtain ⟨y, k⟩ := y; have h1 := h.ok _ (e.drop j) _ hp; rw [hs, hb] at h1
  cases h1
  have h2 := h.le _ _ _ hp; rw [List.length_take] at h2
  omega
 | error f =>
  by_cases hf : f = 1
  · rw [hf]
  · have h1 := h.err _ (e.drop j) _ hp hf; rw [hs, hb] at h1
    cases h1
theorem ext_vgetF (top : Nat) : ∀ (t : Bs) (f r n : Nat) (rest : Bs), (∀ x, vgetF top f r n t = .ok x → vgetF top f r n (t ++ rest) = .ok x) ∧ (∀ e, vgetF top f r n t = .error e → e ≠ 1 → vgetF top f r n (t ++ rest) = .error e)
  | [], f, r, n, rest => ⟨fun x h => (by rw [vg_none] at h; cases h), fun e h h1 => (by rw [vg_none] at h; cases h; exact absurd rfl h1)⟩
  | c :: t, 0, r, n, rest => ⟨fun x h => (by cases h), fun e h h1 => (by cases h; rfl)⟩
  | c :: t, f + 1, r, n, rest => by
    have ih := ext_vgetF top t f (r + 1) (n + c.toNat % 128 * 128 ^ r) rest
    constructor
    · intro x h; simp only [vgetF, List.cons_append] at h ⊢
      split at h
      · cases h
      · rename_i h1
        rw [if_neg h1]
        split at h
        · rename_i h2
          rw [if_pos h2]; exact ih.1 x h
        · rename_i h2
          rw [if_neg h2]; exact h
    · intro e h he; simp only [vgetF, List.cons_append] at h ⊢
      split at h
      · rename_i h1
        rw [if_pos h1]; exact h
      · rename_i h1
        rw [if_neg h1]
        split at h
        · rename_i h2
          rw [if_pos h2]; exact ih.2 e h he
        · cases h
theorem ext_vgetL : Ext vgetL := by
 refine ⟨fun t r x h => ?_, fun t r e h he => ?_, fun t x k h => (vgetL_one h).2.2.1⟩
 · unfold vgetL at h ⊢
   cases hv : vgetF 1 10 0 0 t with
   | error e => rw [hv] at h; cases h
   | ok y => rw [hv] at h; rw [(ext_vgetF 1 t 10 0 0 r).1 _ hv]; exact h
 · unfold vgetL at h ⊢
   cases hv : vgetF 1 10 0 0 t with
   | error e2 => rw [hv] at h; cases h; rw [(ext_vgetF 1 t 10 0 0 r).2 _ hv he]
   | ok y => rw [hv] at h; cases h
theorem ext_vgetI : Ext vgetI := by
 refine ⟨fun t r x h => ?_, fun t r e h he => ?_, fun t x k h => (vgetI_one h).2.2.1⟩
 · unfold vgetI at h ⊢
   cases hv : vgetF 15 5 0 0 t with
   | error e => rw [hv] at h; cases h
   | ok y => rw [hv] at h; rw [(ext_vgetF 15 t 5 0 0 r).1 _ hv]; exact h
 · unfold vgetI at h ⊢
   cases hv : vgetF 15 5 0 0 t with
   | error e2 => rw [hv] at h; cases h; rw [(ext_vgetF 15 t 5 0 0 r).2 _ hv he]
   | ok y => rw [hv] at h; cases h
theorem gotS_ok {t : Bs} {k : Nat} {n : Int} {x : BlobS × Nat} (hk : k ≤ t.length) (h : gotS t k n = .ok x) (r : Bs) : gotS (t ++ r) k n = .ok x ∧ x.2 ≤ t.length := by
 unfold gotS at h ⊢
 by_cases h1 : n = -1
 · rw [if_pos h1] at h ⊢; cases h; exact ⟨rfl, hk⟩
 rw [if_neg h1] at h ⊢
 by_cases h2 : n < 0
 · rw [if_pos h2] at h; cases h
 rw [if_neg h2] at h ⊢
 by_cases h3 : (t.length : Int) - k < n
 · rw [if_pos h3] at h; cases h
 rw [if_neg h3] at h
 cases h
 rw [if_neg (by rw [List.length_append]; omega)]; refine ⟨?_, by simp only; omega⟩; rw [List.drop_append_of_le_length hk, List.take_append_of_le_length (by rw [List.length_drop]; omega)]
theorem gotS_er {t : Bs} {k : Nat} {n : Int} {e : Int} (h : gotS t k n = .error e) (he : e ≠ 1) (r : Bs) : gotS (t ++ r) k n = .error e := by
 unfold gotS at h ⊢
 by_cases h1 : n = -1
 · rw [if_pos h1] at h; cases h
 rw [if_neg h1] at h ⊢
 by_cases h2 : n < 0
 · rw [if_pos h2] at h ⊢; exact h
 rw [if_neg h2] at h
 by_cases h3 : (t.length : Int) - k < n
 · rw [if_pos h3] at h; cases h; exact absurd rfl he
 · rw [if_neg h3] at h; cases h
theorem ext_varied : Ext revaried := by
 refine ⟨fun t r x h => ?_, fun t r e h he => ?_, fun t x k h => ?_⟩
 · unfold revaried at h ⊢
   cases hv : vgetI t with
   | error e => rw [hv] at h; cases h
   | ok y => rw [hv] at h; rw [ext_vgetI.ok _ r _ hv]; exact (gotS_ok (ext_vgetI.le _ _ _ hv) h r).1
 · unfold revaried at h ⊢
   cases hv : vgetI t with
   | error e2 => rw [hv] at h; cases h; rw [ext_vgetI.err _ r _ hv he]
   | ok y => rw [hv] at h; rw [ext_vgetI.ok _ r _ hv]; exact gotS_er h he r
 · unfold revaried at h
   cases hv : vgetI t with
   | error e => rw [hv] at h; cases h
   | ok y => rw [hv] at h; exact (gotS_ok (ext_vgetI.le _ _ _ hv) h []).2
theorem ext_fixed (size : Nat) : Ext (refixed size) := by
 refine ⟨fun t r x h => ?_, fun t r e h he => ?_, fun t x k h => ?_⟩
 · unfold refixed at h ⊢
   by_cases h1 : t.length < size
   · rw [if_pos h1] at h; cases h
   · rw [if_neg h1] at h; rw [if_neg (by rw [List.length_append]; omega), List.take_append_of_le_length (by omega)]; exact (gotS_ok (by omega) h r).1
 · unfold refixed at h ⊢
   by_cases h1 : t.length < size
   · rw [if_pos h1] at h; cases h; exact absurd rfl he
   · rw [if_neg h1] at h; rw [if_neg (by rw [List.length_append]; omega), List.take_append_of_le_length (by omega)]; exact gotS_er h he r
 · unfold refixed at h
   by_cases h1 : t.length < size
   · rw [if_pos h1] at h; cases h
   · rw [if_neg h1] at h; exact (gotS_ok (by omega) h []).2

def rdL (z : Bool × InS) (n : Int) : Bool × InS := (decide (z.2.vlong.1 = n) && z.1, z.2.vlong.2)
def rdV (z : Bool × InS) (b : BlobS) : Bool × InS := (decide (z.2.varied.1 = b) && z.1, z.2.varied.2)
def rdF (z : Bool × InS) (b : BlobS) : Bool × InS := (decide ((z.2.fixed 2).1 = b) && z.1, (z.2.fixed 2).2)
def rdB (z : Bool × InS) (b : BlobS) : Bool × InS := rdF (rdV z b) b
def encN (n : Int) : Bs := putU (foldN n)
def encBl (b : BlobS) : Bs := encV b ++ encF 2 b
def At (s : Bs) (c : Nat) (z : Bool × InS) (a : Nat) : Prop := (a ≤ c ∧ z.2 = ⟨s.take c, a, 0⟩ ∧ (z.1 = true)) ∨ (c < a ∧ z.2.err = 1)
theorem At.read {α : Type} [DecidableEq α] {f : InS → α × InS} {p : Bs → Except Int (α × Nat)} {d : α} (hr : Rds f p d) (he : Ext p) {s r : Bs} {c a : Nat} {z : Bool × InS} (hc : c ≤ s.length) (h : At s c z a) {e : Bs} {x : α} (hp : p e = .ok (x, e.length)) (hs : s.drop a = e ++ r) :
   At s c (decide ((f z.2).1 = x) && z.1, (f z.2).2) (a + e.length) := by
 have hl : (s.take c).length = c := by rw [List.length_take]; omega
 rcases h with ⟨h1, h2, h3⟩ | ⟨h1, h2⟩
 · rw [h2, h3]; have hd : (s.take c).drop a = (e ++ r).take (c - a) := by rw [← hs, List.drop_take]
   by_cases hlt : a + e.length ≤ c
   · have h4 : p ((s.take c).drop a) = .ok (x, e.length) := by
      rw [hd, List.take_append, List.take_of_length_le (by omega)]; exact he.ok _ _ _ hp
     have h5 := (hr.ok (s.take c) a x e.length (by omega) h4).2; rw [h5]; exact .inl ⟨hlt, rfl, by simp⟩
   · have h4 : p ((s.take c).drop a) = .error 1 := by
      rw [hd, List.take_append_of_le_length (by omega)]; exact he.short hp _ (by omega)
     obtain ⟨_, q, _, h5⟩ := hr.err (s.take c) a 1 (by omega) h4; rw [h5]; exact .inr ⟨by omega, rfl⟩
 · have h4 := hr.stuck z.2 (by rw [h2]; decide); rw [h4]; exact .inr ⟨by omega, h2⟩
theorem At.long {s r : Bs} {c a : Nat} {z : Bool × InS} (hc : c ≤ s.length) (h : At s c z a) (n : Int) (h0 : -9223372036854775808 ≤ n) (h1 : n < 9223372036854775808) (hs : s.drop a = encN n ++ r) : At s c (rdL z n) (a + (encN n).length) := by
 have hp : vgetL (encN n) = .ok (n, (encN n).length) := by
  have := vgetL_put n h0 h1 []
  rwa [List.append_nil] at this
 exact At.read rds_long ext_vgetL hc h hp hs
theorem At.varied {s r : Bs} {c a : Nat} {z : Bool × InS} (hc : c ≤ s.length) (h : At s c z a) (b : BlobS) (hb : b.right = true) (hl : b.data.length ≤ 2147483647) (hs : s.drop a = encV b ++ r) : At s c (rdV z b) (a + (encV b).length) := by
 have hp : revaried (encV b) = .ok (b, (encV b).length) := by
  have := revaried_back b hb hl []
  rwa [List.append_nil] at this
 exact At.read rds_varied ext_varied hc h hp hs
theorem At.fixed {s r : Bs} {c a : Nat} {z : Bool × InS} (hc : c ≤ s.length) (h : At s c z a) (b : BlobS) (hb : b.right = true) (hf : fits b.len 2) (hs : s.drop a = encF 2 b ++ r) : At s c (rdF z b) (a + (encF 2 b).length) := by
 have hp : refixed 2 (encF 2 b) = .ok (b, (encF 2 b).length) := by
  have := refixed_back 2 b hb hf []
  rwa [List.append_nil] at this
 exact At.read (rds_fixed 2 (by decide) (by decide)) (ext_fixed 2) hc h hp hs
def BOk (b : BlobS) : Prop := b.right = true ∧ b.data.length ≤ 200
theorem BOk.fits {b : BlobS} (h : BOk b) : fits b.len 2 := by
 have h128 : half 2 = 32768 := by decide
 have hl := h.2; refine ⟨by decide, by decide, ?_, ?_⟩ <;> unfold BlobS.len <;> split <;> simp [h128] <;> omega
theorem At.blob {s r : Bs} {c a : Nat} {z : Bool × InS} (hc : c ≤ s.length) (h : At s c z a) (b : BlobS) (hb : BOk b) (hs : s.drop a = encBl b ++ r) : At s c (rdB z b) (a + (encBl b).length) := by
 unfold encBl at hs ⊢; rw [List.append_assoc] at hs; have h1 := h.varied hc b hb.1 (by have := hb.2; omega) hs; have h2 : s.drop (a + (encV b).length) = encF 2 b ++ r := by rw [← List.drop_drop, hs, List.drop_left]
 have h3 := h1.fixed hc b hb.1 hb.fits h2; rw [List.length_append, ← Nat.add_assoc]; exact h3
def RI (cs : List Value) (x : Int) : Prop := cs = [.int .i64 x]
theorem flat_at {α : Type} {R : List Value → α → Prop} {sz n cap : Nat} {q : Option Addr} {l : List α} {W0 w : World} {K : Know} {L : List Res} (hk : K.has (Know.flat R (.slice q n cap) sz l)) (h : St W0 w K L) (h0 : 0 < l.length) : ∃ b off, q = some ⟨b, off, none⟩ := by
 obtain ⟨F, hF, _⟩ := h.get; obtain ⟨q2, cap2, hv, hr⟩ := (hk _ _ hF).at; obtain ⟨b, off, hq, _⟩ := hr h0; simp at hv; exact ⟨b, off, hv.1.trans hq⟩
theorem flat_cell {α : Type} {R : List Value → α → Prop} {sz n cap b off : Nat} {l : List α} {W0 w : World} {K : Know} {L : List Res} (hk : K.has (Know.flat R (.slice (some ⟨b, off, none⟩) n cap) sz l)) (h : St W0 w K L) (i : Nat) (hi : i < l.length) : ∃ cs, R cs l[i] ∧ ∀ f u, cs[f]? = some u → w.cell? ⟨b, off + (i * sz + f), none⟩ = some u := by
 obtain ⟨F, hF, _⟩ := h.get; obtain ⟨q2, cap2, hv, hr⟩ := (hk _ _ hF).at; obtain ⟨b2, off2, hq, hc⟩ := hr (by omega); rw [hq] at hv; simp at hv; obtain ⟨⟨rfl, rfl⟩, _, _⟩ := hv; obtain ⟨cs, _, h1, h2⟩ := hc i hi; exact ⟨cs, h1, h2⟩
structure TopS where
  name : Bs
  parts : List Int
deriving DecidableEq
def RTop (cs : List Value) (x : TopS × Value) : Prop := cs = [.string (bb x.1.name), x.2]
def tcells (x : TopS × Value) : List Value := [.string (bb x.1.name), x.2]
def RSt (cs : List Value) (x : Bs) : Prop := cs = [.string (bb x)]
def Know.tops (v : Value) (l : List (TopS × Value)) : Know := (Know.flat RTop v 2 l).and (Know.all l fun x => Know.flat RI x.2 1 x.1.parts)
theorem tops_flat {K : Know} {v : Value} {l : List (TopS × Value)} (h : K.has (Know.tops v l)) : K.has (Know.flat RTop v 2 l) := fun w F x => (h w F x).1
theorem tops_parts {K : Know} {v : Value} {l : List (TopS × Value)} (h : K.has (Know.tops v l)) {x : TopS × Value} (hx : x ∈ l) : K.has (Know.flat RI x.2 1 x.1.parts) := fun w F y => (h w F y).2 x hx
theorem tops_at {W0 w : World} {K : Know} {L : List Res} {q : Option Addr} {n cap : Nat} {l : List (TopS × Value)} (hk : K.has (Know.tops (.slice q n cap) l)) (h : St W0 w K L) (h0 : 0 < l.length) : ∃ b off, q = some ⟨b, off, none⟩ := by
 obtain ⟨F, hF, _⟩ := h.get; obtain ⟨q2, cap2, hv, hr⟩ := (tops_flat hk _ _ hF).at; obtain ⟨b, off, hq, _⟩ := hr h0; simp at hv; exact ⟨b, off, hv.1.trans hq⟩
theorem tops_cell {W0 w : World} {K : Know} {L : List Res} {b off n cap : Nat} {l : List (TopS × Value)} (hk : K.has (Know.tops (.slice (some ⟨b, off, none⟩) n cap) l)) (h : St W0 w K L) (i : Nat) (hi : i < l.length) (x : TopS × Value) (hx : l[i] = x) :
  w.cell? ⟨b, off + i * 2, none⟩ = some (.string (bb x.1.name)) ∧ w.cell? ⟨b, off + i * 2 + 1, none⟩ = some x.2 := by
 subst hx; obtain ⟨F, hF, _⟩ := h.get; obtain ⟨q2, cap2, hv, hr⟩ := (tops_flat hk _ _ hF).at; obtain ⟨b2, off2, hq, hc⟩ := hr (by omega); rw [hq] at hv; simp at hv; obtain ⟨⟨rfl, rfl⟩, _, _⟩ := hv; obtain ⟨cs, _, hR, hcs⟩ := hc i hi; unfold RTop at hR; subst hR; exact ⟨hcs 0 _ rfl, by rw [Nat.add_assoc]; exact hcs 1 _ rfl⟩
theorem int_cell {W0 w : World} {K : Know} {L : List Res} {b off n cap : Nat} {l : List Int} (hk : K.has (Know.flat RI (.slice (some ⟨b, off, none⟩) n cap) 1 l)) (h : St W0 w K L) (i : Nat) (hi : i < l.length) : w.cell? ⟨b, off + i, none⟩ = some (.int .i64 (l.getD i 0)) := by
 obtain ⟨cs, hR, hc⟩ := flat_cell hk h i hi; unfold RI at hR; subst hR; have c0 := hc 0 _ rfl; rw [Nat.mul_one, Nat.add_zero] at c0; rw [c0, List.getD_eq_getElem?_getD, List.getElem?_eq_getElem hi]
 rfl
theorem str_cell {W0 w : World} {K : Know} {L : List Res} {b off n cap : Nat} {l : List Bs} (hk : K.has (Know.flat RSt (.slice (some ⟨b, off, none⟩) n cap) 1 l)) (h : St W0 w K L) (i : Nat) (hi : i < l.length) : w.cell? ⟨b, off + i, none⟩ = some (.string (bb (l.getD i []))) := by
 obtain ⟨cs, hR, hc⟩ := flat_cell hk h i hi; unfold RSt at hR; subst hR; have c0 := hc 0 _ rfl; rw [Nat.mul_one, Nat.add_zero] at c0; rw [c0, List.getD_eq_getElem?_getD, List.getElem?_eq_getElem hi]
 rfl
def allN (n : Nat) (p : Nat → Bool) : Bool := (List.range n).all p
theorem allN_true {n : Nat} {p : Nat → Bool} (h : ∀ k, k < n → p k = true) : allN n p = true := by
 unfold allN; rw [List.all_eq_true]; intro x hx; exact h x (List.mem_range.1 hx)
theorem allN_at {n : Nat} {p : Nat → Bool} (h : allN n p = true) (k : Nat) (hk : k < n) : p k = true := List.all_eq_true.1 h k (List.mem_range.2 hk)
theorem allN_false {n : Nat} {p : Nat → Bool} (k : Nat) (hk : k < n) (h : p k = false) : allN n p = false := by
 cases hh : allN n p with
 | false => rfl
 | true => have := allN_at hh k hk; rw [h] at this; cases this
theorem allN_ext {n : Nat} {p q : Nat → Bool} (h : ∀ k, k < n → p k = q k) : allN n p = allN n q := by
 cases hh : allN n q with
 | true => exact allN_true fun k hk => (h k hk).trans (allN_at hh k hk)
 | false =>
  cases h2 : allN n p with
  | false => rfl
  | true => rw [allN_true fun k hk => (h k hk).symm.trans (allN_at h2 k hk)] at hh; cases hh
def upI (l : List Int) (k : Nat) : Bool := k == 0 || decide (l.getD (k - 1) 0 < l.getD k 0)
def upS (l : List Bs) (k : Nat) : Bool := k == 0 || Op.bytesLess (l.getD (k - 1) []) (l.getD k [])
def riseI (l : List Int) : Bool := allN l.length (upI l)
def riseS (l : List Bs) : Bool := allN l.length (upS l)
theorem lex_leq : ∀ x y : Bs, (Op.bytesLess x y || x == y) = !Op.bytesLess y x
  | [], [] => rfl
  | [], _ :: _ => rfl
  | _ :: _, [] => rfl
  | a :: x, b :: y => by
    have ih := lex_leq x y
    show ((decide (a < b) || (a == b && Op.bytesLess x y)) || (a == b && x == y)) = !(decide (b < a) || (b == a && Op.bytesLess y x))
    by_cases h1 : a = b
    · exact zq27
    · exact zq12
theorem upI_zero (l : List Int) (j : Nat) (hj : j < 1) : upI l j = true := by
 obtain rfl : j = 0 := by omega
 rfl
theorem upS_zero (l : List Bs) (j : Nat) (hj : j < 1) : upS l j = true := by
 obtain rfl : j = 0 := by omega
 rfl

set_option maxHeartbeats 1000000 in
set_option maxRecDepth 100000 in
theorem val_riseI (l : List Int) (q : Option Addr) (cap : Nat) (r : Bool) (hr : riseI l = r) (hn : l.length ≤ 1000000) {W0 w : World} {K : Know} {L : List Res} (hk : K.has (Know.flat RI (.slice q l.length cap) 1 l)) (h : St W0 w K L) :
  Calls Tryz.prog 184 #[.slice q l.length cap] w fun en w' => en = .returned (.bool r) ∧ St W0 w' K L := by
 have H := Lib.hid h; have HK := Lib.hid hk; have HR := Lib.hid hr; have hni : (l.length : Int) ≤ 1000000 := by omega
 clear h hk hr hn; go_enter Tryz.func184, Tryz.ntmps184; go_wp2; go_loopw [3] (fun iv wr => ∃ k : Nat, 1 ≤ k ∧ (k ≤ l.length ∨ k = 1) ∧ iv = .int .i64 k ∧ Hid (∀ j, j < k → j < l.length → upI l j = true) ∧ St W0 wr K L) (fun iv _ => l.length - (intOf iv).toNat)
 case atStart => exact ⟨1, Nat.le_refl _, .inr rfl, rfl, Lib.hid (fun j hj _ => upI_zero l j hj), H.out⟩
 case round =>
  obtain ⟨k, hk1, hkl, rfl, HP, hst⟩ := hrel; clear H; have H := Lib.hid hst; clear hst
  by_cases hlt : k < l.length
  · obtain ⟨b, off, hqq⟩ := flat_at HK.out H.out (by omega); subst hqq; obtain ⟨j, hj⟩ : ∃ j, k - 1 = j := ⟨_, rfl⟩; have c0 := int_cell HK.out H.out k hlt; have c1 := int_cell HK.out H.out j (by omega); obtain ⟨x, hx⟩ : ∃ x, l.getD k 0 = x := ⟨_, rfl⟩; obtain ⟨y, hy⟩ : ∃ y, l.getD j 0 = y := ⟨_, rfl⟩
    have hup : upI l k = decide (y < x) := by
      unfold upI; have : (k == 0) = false := by rw [beq_eq_false_iff_ne]; omega
      rw [this, hj, hx, hy, Bool.false_or]
    rw [hx] at c0; rw [hy] at c1; have e1 : wrap64 ((k : Int) - 1) = (j : Int) := by unfold wrap64; omega
    have e2 : IntKind.i64.wrap ((k : Int) - 1) = (j : Int) := by rw [show (k : Int) - 1 = (j : Int) by omega]; exact IntWalk.i64_in _ (by omega)
    have hjl : (j : Int) < (l.length : Int) := by omega
    have hkl2 : (k : Int) < (l.length : Int) := by omega
    have HUP := Lib.hid hup; clear hj hx hy hup
    by_cases hc : x ≤ y
    · have hr2 : r = false := by rw [← HR.out]; exact allN_false k hlt (by rw [HUP.out]; exact decide_eq_false (by omega))
      subst hr2; have hd : decide (x ≤ y) = true := decide_eq_true hc; go_wp2; have hs := H.out.drew
      go_region
      go_wp2; go_ret; exact ⟨rfl, hs⟩
    · have hd : decide (x ≤ y) = false := decide_eq_false hc; go_wp2; have hs := H.out.drew
      go_region
      go_wp2; go_roundw
      case rel => exact ⟨k + 1, by omega, .inl hlt, by go_num, Lib.hid (fun i hi hil => by
       by_cases hik : i = k
       · subst hik; rw [HUP.out]; exact decide_eq_true (by omega)
       · exact HP.out i (by omega) hil), hs⟩
      case measure => first | (simp [intOf]; done) | (simp [intOf]; omega)
  · have hr2 : r = true := by
      rw [← HR.out]; exact allN_true fun j hj => HP.out j (by omega) hj
    subst hr2; have hge : ¬ (k : Int) < (l.length : Int) := by omega
    go_wp2; go_ret; exact ⟨rfl, H.out⟩

theorem zq23 {p : Prop} (h : p := by
  rw [hq2] at HUP; clear hq hq2; have hr2 : r = false := by rw [← HR.out]; exact allN_false k hlt HUP.out
  subst hr2; go_wp2; have hs := H.out.drew
  go_region
  go_wp2; go_ret; exact ⟨rfl, hs⟩) : p := h
set_option maxHeartbeats 1000000 in
set_option maxRecDepth 100000 in
theorem val_riseS (l : List Bs) (q : Option Addr) (cap : Nat) (r : Bool) (hr : riseS l = r) (hn : l.length ≤ 1000000) {W0 w : World} {K : Know} {L : List Res} (hk : K.has (Know.flat RSt (.slice q l.length cap) 1 l)) (h : St W0 w K L) :
  Calls Tryz.prog 180 #[.slice q l.length cap] w fun en w' => en = .returned (.bool r) ∧ St W0 w' K L := by
 have H := Lib.hid h; have HK := Lib.hid hk; have HR := Lib.hid hr; have hni : (l.length : Int) ≤ 1000000 := by omega
 clear h hk hr hn; go_enter Tryz.func180, Tryz.ntmps180; go_wp2; go_loopw [3] (fun iv wr => ∃ k : Nat, 1 ≤ k ∧ (k ≤ l.length ∨ k = 1) ∧ iv = .int .i64 k ∧ Hid (∀ j, j < k → j < l.length → upS l j = true) ∧ St W0 wr K L) (fun iv _ => l.length - (intOf iv).toNat)
 case atStart => exact ⟨1, Nat.le_refl _, .inr rfl, rfl, Lib.hid (fun j hj _ => upS_zero l j hj), H.out⟩
 case round =>
  obtain ⟨k, hk1, hkl, rfl, HP, hst⟩ := hrel; clear H; have H := Lib.hid hst; clear hst
  by_cases hlt : k < l.length
  · obtain ⟨b, off, hqq⟩ := flat_at HK.out H.out (by omega); subst hqq; obtain ⟨j, hj⟩ : ∃ j, k - 1 = j := ⟨_, rfl⟩; have c0 := str_cell HK.out H.out k hlt; have c1 := str_cell HK.out H.out j (by omega); obtain ⟨x, hx⟩ : ∃ x, l.getD k [] = x := ⟨_, rfl⟩; obtain ⟨y, hy⟩ : ∃ y, l.getD j [] = y := ⟨_, rfl⟩
    have hup : upS l k = Op.bytesLess y x := by
     unfold upS; have : (k == 0) = false := by rw [beq_eq_false_iff_ne]; omega
     rw [this, hj, hx, hy, Bool.false_or]
    rw [hx] at c0; rw [hy] at c1; have e1 : wrap64 ((k : Int) - 1) = (j : Int) := by unfold wrap64; omega
    have e2 : IntKind.i64.wrap ((k : Int) - 1) = (j : Int) := by rw [show (k : Int) - 1 = (j : Int) by omega]; exact IntWalk.i64_in _ (by omega)
    have hjl : (j : Int) < (l.length : Int) := by omega
    have hkl2 : (k : Int) < (l.length : Int) := by omega
    have HUP := Lib.hid hup; clear hj hx hy hup; have hq := lex_leq x y
    cases hp : Op.bytesLess x y with
    | true =>
     rw [hp, Bool.true_or] at hq; have hq2 : Op.bytesLess y x = false := by simpa using hq.symm
     exact zq23
    | false =>
     rw [hp, Bool.false_or] at hq
     cases he : (x == y) with
     | true =>
      rw [he] at hq; have hq2 : Op.bytesLess y x = false := by simpa using hq.symm
      exact zq23
     | false =>
      rw [he] at hq; have hq2 : Op.bytesLess y x = true := by simpa using hq.symm
      rw [hq2] at HUP; clear hq hq2; go_wp2; have hs := H.out.drew
      go_region
      go_wp2; go_roundw
      case rel => exact ⟨k + 1, by omega, .inl hlt, by go_num, Lib.hid (fun i hi hil => by
       by_cases hik : i = k
       · subst hik; rw [HUP.out]
       · exact HP.out i (by omega) hil), hs⟩
      case measure => first | (simp [intOf]; done) | (simp [intOf]; omega)
  · have hr2 : r = true := by
     rw [← HR.out]; exact allN_true fun j hj => HP.out j (by omega) hj
    subst hr2; have hge : ¬ (k : Int) < (l.length : Int) := by omega
    go_wp2; go_ret; exact ⟨rfl, H.out⟩
def pRise (l : List Int) : Bool := !l.isEmpty && allN l.length (fun k => decide (0 ≤ l.getD k 0 ∧ l.getD k 0 ≤ 2147483647) && upI l k)
def tOk (t : TopS) : Bool := !t.name.isEmpty && decide (t.name.length ≤ 32767) && pRise t.parts
def tRise (l : List TopS) : Bool := l.all tOk && riseS (l.map (·.name))
theorem riseI_mono (l : List Int) (h : riseI l = true) (i : Nat) : ∀ j, i ≤ j → j < l.length → l.getD i 0 ≤ l.getD j 0
  | 0, h1, _ => by
    obtain rfl : i = 0 := by omega
    exact Int.le_refl _
  | j + 1, h1, h2 => by
    by_cases hij : i = j + 1
    · subst hij; exact Int.le_refl _
    · have ih := riseI_mono l h i j (by omega) (by omega); have hu := allN_at h (j + 1) h2; unfold upI at hu; have e : (j + 1 == 0) = false := by rw [beq_eq_false_iff_ne]; omega
      rw [e, Bool.false_or, Nat.add_sub_cancel] at hu; have := of_decide_eq_true hu
      omega
theorem pRise_nil : pRise [] = false := rfl
theorem pRise_eq (l : List Int) (h : l ≠ []) : pRise l = (decide (0 ≤ l.getD 0 0) && (decide (l.getD (l.length - 1) 0 ≤ 2147483647) && riseI l)) := by
 have h0 : 0 < l.length := List.length_pos_iff.2 h
 have he : l.isEmpty = false := by cases l with
  | nil => exact absurd rfl h
  | cons _ _ => rfl
 unfold pRise; rw [he, Bool.not_false, Bool.true_and]
 cases hr : riseI l with
 | false =>
  rw [Bool.and_false, Bool.and_false]
  cases ha : allN l.length (fun k => decide (0 ≤ l.getD k 0 ∧ l.getD k 0 ≤ 2147483647) && upI l k) with
  | false => rfl
  | true =>
    have : riseI l = true := allN_true fun k hk => by
      have := allN_at ha k hk; rw [Bool.and_eq_true] at this; exact this.2
    rw [hr] at this; cases this
 | true =>
  rw [Bool.and_true]
  by_cases h1 : 0 ≤ l.getD 0 0
  · by_cases h2 : l.getD (l.length - 1) 0 ≤ 2147483647
    · rw [decide_eq_true h1, decide_eq_true h2]; refine allN_true fun k hk => ?_
      rw [Bool.and_eq_true]; have m1 := riseI_mono l hr 0 k (Nat.zero_le _) hk; have m2 := riseI_mono l hr k (l.length - 1) (by omega) (by omega); exact ⟨decide_eq_true ⟨by omega, by omega⟩, allN_at hr k hk⟩
    · rw [decide_eq_false h2, Bool.and_false]; refine allN_false (l.length - 1) (by omega) ?_; rw [decide_eq_false (fun h => h2 h.2), Bool.false_and]
  · rw [decide_eq_false h1, Bool.false_and]; refine allN_false 0 h0 ?_; rw [decide_eq_false (fun h => h1 h.1), Bool.false_and]
structure ValS where
  prod : Int
  epoch : Int
  timeout : Int
  state : Int
  tops : List TopS
  upd : Int
  started : Int
deriving DecidableEq
def ValS.ranged (v : ValS) : Bool := decide (0 ≤ v.prod) && (decide (0 ≤ v.epoch) && (decide (v.epoch ≤ 32767) && (decide (0 ≤ v.timeout) && (decide (v.timeout ≤ 2147483647) && (decide (0 ≤ v.upd) && decide (-1 ≤ v.started))))))
def idle (s : Int) : Bool := !(s == 1) && (!(s == 2) && !(s == 3))
def ValS.err (v : ValS) : Int :=
  if v.ranged = false then 11
  else if v.state < 0 ∨ 7 ≤ v.state then 12
  else if (idle v.state != v.tops.isEmpty) = true ∨ ((v.state == 0) != (v.started == -1)) = true then 10
  else if tRise v.tops = false then 13 else 0
theorem elem_str : ElemT Tryz.prog 9 (.string ⟨#[]⟩) 1 16 := elemT_of (by kernel_rfl) rfl (by decide)
def FewT (l : List (TopS × Value)) : Prop := l.length ≤ 1000000 ∧ ∀ x ∈ l, x.1.name.length ≤ 140737488355328 ∧ x.1.parts.length ≤ 1000000
set_option maxHeartbeats 1000000 in
set_option maxRecDepth 100000 in
theorem val_partsRise (l : List Int) (q : Option Addr) (cap : Nat) (r : Bool) (hr : pRise l = r) (hn : l.length ≤ 1000000) {W0 w : World} {K : Know} {L : List Res} (hk : K.has (Know.flat RI (.slice q l.length cap) 1 l)) (h : St W0 w K L) :
   Calls Tryz.prog 179 #[.slice q l.length cap] w fun en w' => en = .returned (.bool r) ∧ St W0 w' K L := by
 have H := Lib.hid h; have HK := Lib.hid hk; have HN := Lib.hid hn; clear h hk
 by_cases hl : l = []
 · subst hl; rw [pRise_nil] at hr; subst hr; clear hn; go_enter Tryz.func179, Tryz.ntmps179; go_wp2; go_ret; exact ⟨rfl, H.out⟩
 · rw [pRise_eq l hl] at hr; have h0 : 0 < l.length := List.length_pos_iff.2 hl; obtain ⟨b, off, hqq⟩ := flat_at HK.out H.out h0; subst hqq; have c0 := int_cell HK.out H.out 0 h0; obtain ⟨m, hm⟩ : ∃ m, l.length - 1 = m := ⟨_, rfl⟩; have c1 := int_cell HK.out H.out m (by omega); obtain ⟨x, hx⟩ : ∃ x, l.getD 0 0 = x := ⟨_, rfl⟩; obtain ⟨y, hy⟩ : ∃ y, l.getD m 0 = y := ⟨_, rfl⟩; rw [hm, hx, hy] at hr; rw [hx] at c0; rw [hy] at c1; rw [Nat.add_zero] at c0; have e1 : wrap64 ((l.length : Int) - 1) = (m : Int) := by unfold wrap64; omega
   have e2 : IntKind.i64.wrap ((l.length : Int) - 1) = (m : Int) := by rw [show (l.length : Int) - 1 = (m : Int) by omega]; exact IntWalk.i64_in _ (by omega)
   have hg : decide ((0 : Int) < (l.length : Int)) = true := decide_eq_true (by omega); have hi0 : (0 : Int) < (l.length : Int) := by omega
   have him : (m : Int) < (l.length : Int) := by omega
   have hl2 : 0 < l.length := h0; clear hm hx hy hn
   by_cases h1 : 0 ≤ x
   · rw [decide_eq_true h1, Bool.true_and] at hr
     by_cases h2 : y ≤ 2147483647
     · rw [decide_eq_true h2, Bool.true_and] at hr; have HR := Lib.hid hr; clear hr; go_enter Tryz.func179, Tryz.ntmps179; go_wp2_with (go_at_call 184; (with_reducible refine (val_riseI l _ _ r HR.out HN.out HK.out H.out).mono ?_); rintro e_ wn ⟨rfl, h⟩; replace H := Lib.hid h; clear h); go_ret; exact ⟨rfl, H.out⟩
     · rw [decide_eq_false h2, Bool.false_and] at hr; subst hr; go_enter Tryz.func179, Tryz.ntmps179; go_wp2; go_ret; exact ⟨rfl, H.out⟩
   · rw [decide_eq_false h1, Bool.false_and] at hr; subst hr; go_enter Tryz.func179, Tryz.ntmps179; go_wp2; go_ret; exact ⟨rfl, H.out⟩
theorem tRise_bad (l : List TopS) (k : Nat) (hk : k < l.length) (h : tOk l[k] = false) : tRise l = false := by
 unfold tRise
 cases ha : l.all tOk with
 | false => rfl
 | true => have := List.all_eq_true.1 ha _ (List.getElem_mem hk); rw [h] at this; cases this
theorem tRise_ok (l : List TopS) (h : l.all tOk = true) : tRise l = riseS (l.map (·.name)) := by unfold tRise; rw [h, Bool.true_and]
set_option maxHeartbeats 1000000 in
set_option maxRecDepth 100000 in
theorem val_topicsRise (l : List (TopS × Value)) (q : Option Addr) (cap : Nat) (r : Bool) (hr : tRise (l.map (·.1)) = r) (hf : FewT l) {W0 w : World} {K : Know} {L : List Res} (hk : K.has (Know.tops (.slice q l.length cap) l)) (h : St W0 w K L) :
  Calls Tryz.prog 162 #[.slice q l.length cap] w fun en w' => en = .returned (.bool r) ∧ St W0 w' K L := by
 have H := Lib.hid h; have HK := Lib.hid hk; have HR := Lib.hid hr; have HF := Lib.hid hf; have hni : (l.length : Int) ≤ 1000000 := by have := hf.1; omega
 clear h hk hr hf; go_enter Tryz.func162, Tryz.ntmps162; go_wp2; go_loopw [3, 5, 8] (fun nv _ iv wr => ∃ (k : Nat) (acc : List Bs), k ≤ l.length ∧ iv = .int .i64 k ∧ Hid (acc = (l.take k).map (·.1.name)) ∧ Hid ((l.take k).all (fun x => tOk x.1) = true) ∧ St W0 wr K (.row nv 9 1 acc.length (acc.flatMap fun x => [.string (bb x)]) :: L)) (fun _ _ iv _ => l.length - (intOf iv).toNat)
 case atStart => exact ⟨0, [], Nat.zero_le _, rfl, Lib.hid rfl, Lib.hid rfl, H.out.nilRow 9 1⟩
 case round =>
  obtain ⟨k, acc, hkl, rfl, HA, HO, hst⟩ := hrel; clear H; have H := Lib.hid hst; clear hst
  by_cases hlt : k < l.length
  · obtain ⟨b, off, hqq⟩ := tops_at HK.out H.out (by omega); subst hqq; obtain ⟨⟨⟨nm, ps⟩, vx⟩, hx⟩ : ∃ x, l[k] = x := ⟨_, rfl⟩; obtain ⟨c0, c1⟩ : wr.cell? ⟨b, off + k * 2, none⟩ = some (.string (bb nm)) ∧ wr.cell? ⟨b, off + k * 2 + 1, none⟩ = some vx := tops_cell HK.out H.out k hlt _ hx; have hmem : ((⟨nm, ps⟩ : TopS), vx) ∈ l := hx ▸ List.getElem_mem hlt; have hxk : K.has (Know.flat RI vx 1 ps) := tops_parts HK.out hmem; obtain ⟨qx, capx, hvx⟩ := flat_form hxk H.out; subst hvx; have HXK := Lib.hid hxk; have hfx : nm.length ≤ 140737488355328 ∧ ps.length ≤ 1000000 := HF.out.2 _ hmem; have HPN := Lib.hid hfx.2; have hnl : nm.length ≤ 140737488355328 := hfx.1; have hkn : (k : Int) < (l.length : Int) := by omega
    have hmk : k < (l.map (·.1)).length := by rw [List.length_map]; exact hlt
    have hmg : (l.map (·.1))[k] = ⟨nm, ps⟩ := by rw [List.getElem_map, hx]
    have hbad : tOk ⟨nm, ps⟩ = false → r = false := fun h => by rw [← HR.out]; exact tRise_bad _ k hmk (by rw [hmg]; exact h)
    have htk : l.take (k + 1) = l.take k ++ [((⟨nm, ps⟩ : TopS), Value.slice qx ps.length capx)] := by rw [List.take_succ_eq_append_getElem hlt, hx]
    have HAL := Lib.hid (show acc.length ≤ 1000000 by rw [HA.out, List.length_map, List.length_take]; have := HF.out.1; omega); obtain ⟨tb, htb⟩ : ∃ b, wr.heap.size = b := ⟨_, rfl⟩; have h := H.out.allocRaw #[.string (bb nm), .slice qx ps.length capx] 129; rw [htb] at h; have t0 := h.rawCell 0; have t1 := h.rawCell 1; simp at t0 t1; clear H; have H := Lib.hid h; have HTK := Lib.hid htk; clear h hx hmem hxk hfx hmk hmg htk
    by_cases hn0 : nm = []
    · as_aux_lemma =>
      subst hn0; have hr2 : r = false := hbad rfl; subst hr2; go_wp2; go_ret; exact ⟨rfl, H.out.drop.drop⟩
    · have hn1 : (nm == []) = false := by rw [beq_eq_false_iff_ne]; exact hn0
      have hn2 : ([] == nm) = false := by rw [beq_eq_false_iff_ne]; exact fun h => hn0 h.symm
      have hie : nm.isEmpty = false := by cases nm with
        | nil => exact absurd rfl hn0
        | cons _ _ => rfl
      by_cases hln : nm.length ≤ 32767
      · obtain ⟨pr, hpr⟩ : ∃ pr, pRise ps = pr := ⟨_, rfl⟩; have HPR := Lib.hid hpr; have hl2 : (nm.length : Int) ≤ 32767 := by omega
        have hl3 : decide ((32767 : Int) < (nm.length : Int)) = false := decide_eq_false (by omega)
        cases pr with
        | false =>
         as_aux_lemma =>
         have hr2 : r = false := hbad (by unfold tOk; rw [hpr]; simp); subst hr2; clear hpr; go_wp2_with (go_at_call 179; (with_reducible refine (val_partsRise ps _ _ _ HPR.out HPN.out HXK.out H.out).mono ?_); rintro e_ wn ⟨rfl, h⟩; have t0 := h.rawCell 0; have t1 := h.rawCell 1; simp at t0 t1; replace H := Lib.hid h; clear h); go_ret; exact ⟨rfl, H.out.drop.drop⟩
        | true =>
         as_aux_lemma =>
         have HO2 := Lib.hid (show (l.take (k + 1)).all (fun x => tOk x.1) = true by
          rw [HTK.out, List.all_append, HO.out]
          show (true && (tOk ⟨nm, ps⟩ && true)) = true
          unfold tOk; simp only [hie, hpr, decide_eq_true hln]
          rfl)
         have HA2 := Lib.hid (show acc ++ [nm] = (l.take (k + 1)).map (·.1.name) by rw [HTK.out, List.map_append, HA.out]; rfl); clear hpr hie
         go_wp2_with (first
  | (go_at_call 179; (with_reducible refine (val_partsRise ps _ _ _ HPR.out HPN.out HXK.out H.out).mono ?_); rintro e_ wn ⟨rfl, h⟩; have t0 := h.rawCell 0; have t1 := h.rawCell 1; simp at t0 t1; replace H := Lib.hid h; clear h)
  | (at_builtin; refine wpl_app1_st rfl _ _ 216 rfl 9 Tryz.underlying216 elem_str _ _ _ rfl H.out.p1 [.string (bb nm)] 9 rfl rfl (by simp [Value.oneCell']) (by have := HAL.out; unfold maxLen; omega) (by have := HAL.out; omega) ?_; intro v' w' h; replace H := Lib.hid h; clear h))
         go_roundw
         case rel => exact ⟨k + 1, acc ++ [nm], hlt, by go_num, HA2, HO2, by
          have h3 := H.out.p1.drop; rw [List.length_append, List.flatMap_append]
          exact H.out.p1.drop⟩
         case measure => first | (simp [intOf]; done) | (simp [intOf]; omega)
      · as_aux_lemma =>
        have hl3 : decide ((32767 : Int) < (nm.length : Int)) = true := decide_eq_true (by omega); have hl2 : ¬ (nm.length : Int) ≤ 32767 := by omega
        have hr2 : r = false := hbad (by unfold tOk; simp only [decide_eq_false hln]; simp); subst hr2; go_wp2; go_ret; exact ⟨rfl, H.out.drop.drop⟩
  · obtain rfl : k = l.length := by omega
    have ho := HO.out; have ha := HA.out; rw [List.take_length] at ho ha; have h2 := H.out.freezeRow (R := RSt) (fun x _ => ⟨rfl, rfl⟩); obtain ⟨p0, cap0, hlv⟩ := H.out.rowAny; subst hlv; have HAL := Lib.hid (show acc.length ≤ 1000000 by rw [ha, List.length_map]; have := HF.out.1; omega)
    have HRS := Lib.hid (show riseS acc = r by
      rw [← HR.out, tRise_ok _ (by rw [List.all_map]; exact ho), ha, List.map_map]
      rfl)
    clear H ho ha; have H := Lib.hid h2; clear h2; go_wp2_with (go_at_call 180; (with_reducible refine (val_riseS acc _ _ r HRS.out HAL.out (Know.has_right (Know.has_refl _)) H.out).mono ?_); rintro e_ wn ⟨rfl, h⟩; replace H := Lib.hid h; clear h); go_ret; exact ⟨rfl, H.out.know (Know.has_left (Know.has_refl _))⟩
theorem less_step : ∀ (i : Nat) (a b : Bs) (hi : i < a.length) (hj : i < b.length), a.take i = b.take i → a[i] ≠ b[i] → Op.bytesLess a b = decide (a[i] < b[i])
  | 0, x :: a, y :: b, _, _, _, hne => by
    show (decide (x < y) || (x == y && Op.bytesLess a b)) = decide (x < y)
    have e : (x == y) = false := by simpa using hne
    rw [e, Bool.false_and, Bool.or_false]
  | i + 1, x :: a, y :: b, hi, hj, ht, hne => by
    rw [List.take_succ_cons, List.take_succ_cons] at ht; injection ht with h1 h2; subst h1; have ih := less_step i a b (by simpa using hi) (by simpa using hj) h2 hne
    show (decide (x < x) || (x == x && Op.bytesLess a b)) = _
    have h3 : ¬ x < x := by rw [UInt8.lt_iff_toNat_lt]; omega
    rw [decide_eq_false h3, beq_self_eq_true, Bool.true_and, Bool.false_or, ih]
    rfl
theorem less_end : ∀ (i : Nat) (a b : Bs), i ≤ a.length → i ≤ b.length → a.take i = b.take i → (i = a.length ∨ i = b.length) → Op.bytesLess a b = decide (a.length < b.length)
  | 0, [], [], _, _, _, _ => rfl
  | 0, [], y :: b, _, _, _, _ => by show true = _; simp
  | 0, x :: a, [], _, _, _, _ => by show false = _; simp
  | 0, x :: a, y :: b, _, _, _, h => by rcases h with h | h <;> simp at h
  | i + 1, [], _, h, _, _, _ => by simp at h
  | i + 1, x :: a, [], _, h, _, _ => by simp at h
  | i + 1, x :: a, y :: b, hi, hj, ht, h => by
    rw [List.take_succ_cons, List.take_succ_cons] at ht; injection ht with h1 h2; subst h1; have ih := less_end i a b (by simpa using hi) (by simpa using hj) h2 (by simpa using h)
    show (decide (x < x) || (x == x && Op.bytesLess a b)) = _
    have h3 : ¬ x < x := by rw [UInt8.lt_iff_toNat_lt]; omega
    rw [decide_eq_false h3, beq_self_eq_true, Bool.true_and, Bool.false_or, ih]
    simp
theorem take_step (i : Nat) (a b : Bs) (hi : i < a.length) (hj : i < b.length) (h : a.take i = b.take i) (he : a[i] = b[i]) : a.take (i + 1) = b.take (i + 1) := by
 rw [List.take_succ_eq_append_getElem hi, List.take_succ_eq_append_getElem hj, h, he]
set_option maxHeartbeats 1000000 in
set_option maxRecDepth 100000 in
theorem ref14_less (a b : Bs) (r : Bool) (hr : Op.bytesLess a b = r) (ha : a.length ≤ 140737488355328) (hb : b.length ≤ 140737488355328) {W0 w : World} {K : Know} {L : List Res} (h : St W0 w K L) :
  Calls Tryz.prog 99 #[.string (bb a), .string (bb b)] w fun en w' => en = .returned (.bool r) ∧ St W0 w' K L := by
 have H := Lib.hid h; have HR := Lib.hid hr; have hai : (a.length : Int) ≤ 140737488355328 := by omega
 have hbi : (b.length : Int) ≤ 140737488355328 := by omega
 clear h hr ha hb; go_enter Tryz.func99, Tryz.ntmps99; go_wp2; go_loopw [5] (fun iv wr => ∃ i : Nat, i ≤ a.length ∧ i ≤ b.length ∧ iv = .int .i64 i ∧ Hid (a.take i = b.take i) ∧ St W0 wr K L) (fun iv _ => a.length - (intOf iv).toNat)
 case atStart => exact ⟨0, Nat.zero_le _, Nat.zero_le _, rfl, Lib.hid rfl, H.out⟩
 case round =>
  obtain ⟨i, hia, hib, rfl, HT, hst⟩ := hrel; clear H; have H := Lib.hid hst; clear hst
  by_cases h1 : i < a.length
  · by_cases h2 : i < b.length
    · have hi1 : (i : Int) < (a.length : Int) := by omega
      have hi2 : (i : Int) < (b.length : Int) := by omega
      have hi0 : (0 : Int) ≤ (i : Int) := by omega
      by_cases hxy : a[i] = b[i]
      · have HT2 := Lib.hid (take_step i a b h1 h2 HT.out hxy); have e1 : (((a[i]).toNat : Int) != ((b[i]).toNat : Int)) = false := by rw [hxy]; simp
        have e2 : (((a[i]).toNat : Int) == ((b[i]).toNat : Int)) = true := by rw [hxy]; simp
        clear hxy; go_wp2; have hs := H.out.drew
        go_region
        go_wp2; go_roundw
        case rel => exact ⟨i + 1, h1, h2, by go_num, HT2, hs⟩
        case measure => first | (simp [intOf]; done) | (simp [intOf]; omega)
      · have hl := less_step i a b h1 h2 HT.out hxy; rw [HR.out] at hl; have hne : ((a[i]).toNat : Int) ≠ ((b[i]).toNat : Int) := fun h => hxy (UInt8.toNat_inj.1 (by omega))
        have e1 : (((a[i]).toNat : Int) != ((b[i]).toNat : Int)) = true := by simpa using hne
        have e2 : (((a[i]).toNat : Int) == ((b[i]).toNat : Int)) = false := by simpa using hne
        have hl2 : r = decide ((a[i]).toNat < (b[i]).toNat) := by
         rw [hl]
         congr 1
        clear hl hxy hne; subst hl2; go_wp2; have hs := H.out.drew
        go_region
        go_wp2; have hs := hs.drew
        go_region
        go_wp2; go_ret; exact ⟨rfl, hs⟩
    · have hl := less_end i a b hia hib HT.out (by omega); rw [HR.out] at hl
      have hl2 : r = decide ((a.length : Int) < (b.length : Int)) := by
        rw [hl]; congr 1; exact propext ⟨fun h => by omega, fun h => by omega⟩
      clear hl; subst hl2; have hi1 : (i : Int) < (a.length : Int) := by omega
      have hi2 : ¬ (i : Int) < (b.length : Int) := by omega
      go_wp2; go_ret; exact ⟨by simp, H.out⟩
  · have hl := less_end i a b hia hib HT.out (by omega); rw [HR.out] at hl
    have hl2 : r = decide ((a.length : Int) < (b.length : Int)) := by
      rw [hl]; congr 1; exact propext ⟨fun h => by omega, fun h => by omega⟩
    clear hl; subst hl2; have hi1 : ¬ (i : Int) < (a.length : Int) := by omega
    go_wp2; go_ret; exact ⟨by simp, H.out⟩
def tRef (l : List TopS) (i : Nat) : Bool := tOk (l.getD i ⟨[], []⟩) && upS (l.map (·.name)) i
theorem tRise_allN (l : List TopS) : tRise l = allN l.length (tRef l) := by
 have hg : ∀ i (h : i < l.length), l.getD i ⟨[], []⟩ = l[i] := fun i h => by rw [List.getD_eq_getElem?_getD, List.getElem?_eq_getElem h]; rfl
 unfold tRise
 cases ha : l.all tOk with
 | false =>
  rw [Bool.false_and]; obtain ⟨x, hx, hx2⟩ := List.all_eq_false.1 ha; obtain ⟨i, hi, rfl⟩ := List.mem_iff_getElem.1 hx; refine (allN_false i hi ?_).symm; unfold tRef; rw [hg i hi]; have : tOk l[i] = false := by simpa using hx2
  rw [this, Bool.false_and]
 | true =>
  rw [Bool.true_and]; unfold riseS; rw [List.length_map]; refine allN_ext fun k hk => ?_
  unfold tRef; rw [hg k hk, List.all_eq_true.1 ha _ (List.getElem_mem hk), Bool.true_and]
def pk (l : List Int) (k : Nat) : Bool := decide (0 ≤ l.getD k 0 ∧ l.getD k 0 ≤ 2147483647) && upI l k
theorem pRise_pk (l : List Int) (h : l ≠ []) : pRise l = allN l.length (pk l) := by
 unfold pRise
 cases l with
 | nil => exact absurd rfl h
 | cons _ _ => rfl
def be4s (l : List Int) : Bs := l.flatMap fun n => beBytes n 4
def encT (t : TopS) : Bs := encF 2 ⟨false, t.name⟩ ++ (beBytes t.parts.length 4 ++ be4s t.parts)
def preT (l : List TopS) (k : Nat) : Bs := beBytes l.length 4 ++ (l.take k).flatMap encT
def encTs (l : List TopS) : Bs := beBytes l.length 4 ++ l.flatMap encT
def ValS.enc (v : ValS) : Bs := beBytes 0 2 ++ beBytes v.prod 8 ++ beBytes v.epoch 2 ++ beBytes v.timeout 4 ++ beBytes v.state 1 ++ encTs v.tops ++ beBytes v.upd 8 ++ beBytes v.started 8
def TopS.Fit (t : TopS) : Prop := t.name.length ≤ 32767 ∧ t.parts.length ≤ 1000000 ∧ ∀ n ∈ t.parts, -2147483648 ≤ n ∧ n < 2147483648
def FitTs (l : List TopS) : Prop := l.length ≤ 1000000 ∧ ∀ t ∈ l, t.Fit
theorem be4s_len (l : List Int) : (be4s l).length = 4 * l.length := by
 unfold be4s
 induction l with
 | nil => rfl
 | cons x t ih => rw [List.flatMap_cons, List.length_append, beBytes_length, ih, List.length_cons]; omega
theorem encT_len (t : TopS) : (encT t).length = 6 + t.name.length + 4 * t.parts.length := by
 unfold encT encF; simp only [List.length_append, beBytes_length, be4s_len]
 omega
theorem preT_le (l : List TopS) (h : FitTs l) (k : Nat) (hk : k ≤ l.length) : (preT l k).length ≤ 4 + 4100000 * k := by
 unfold preT; rw [List.length_append, beBytes_length]
 have : ∀ (m : List TopS), (∀ t ∈ m, t.Fit) → (m.flatMap encT).length ≤ 4100000 * m.length := by
  intro m
  induction m with
  | nil => intro _; simp
  | cons x t ih =>
   intro hm; have h1 := ih (fun y hy => hm y (by simp [hy])); have h2 := hm x (by simp); have h3 := encT_len x; unfold TopS.Fit at h2; rw [List.flatMap_cons, List.length_append, List.length_cons]
   omega
 have h1 := this (l.take k) (fun t ht => h.2 t (List.mem_of_mem_take ht)); rw [List.length_take] at h1; have e : min k l.length = k := by omega
 rw [e] at h1
 omega
theorem preT_step (l : List TopS) (k : Nat) (hk : k < l.length) (t : TopS) (ht : l[k] = t) : preT l (k + 1) = preT l k ++ (encF 2 ⟨false, t.name⟩ ++ (beBytes t.parts.length 4 ++ be4s t.parts)) := by
 unfold preT; rw [List.take_succ_eq_append_getElem hk, List.flatMap_append, ht, List.flatMap_cons, List.flatMap_nil, List.append_nil, List.append_assoc]
 rfl
theorem preT_all (l : List TopS) : preT l l.length = encTs l := by unfold preT encTs; rw [List.take_length]
theorem preT_zero (l : List TopS) : preT l 0 = beBytes l.length 4 := by unfold preT; rw [List.take_zero, List.flatMap_nil, List.append_nil]
theorem be4s_step (l : List Int) (k : Nat) (hk : k < l.length) (n : Int) (hn : l.getD k 0 = n) : be4s (l.take (k + 1)) = be4s (l.take k) ++ beBytes n 4 := by
 have e : l[k] = n := by rw [← hn, List.getD_eq_getElem?_getD, List.getElem?_eq_getElem hk]; rfl
 unfold be4s; rw [List.take_succ_eq_append_getElem hk, List.flatMap_append, e, List.flatMap_cons, List.flatMap_nil, List.append_nil]
theorem vfits4 (n : Int) (h : -2147483648 ≤ n ∧ n < 2147483648) : fits n 4 := by
 unfold fits half; refine ⟨by decide, by decide, ?_, ?_⟩
 · show -(128 * 256 ^ 3) ≤ n; omega
 · show n < 128 * 256 ^ 3; omega
theorem vfits8 (n : Int) (h : -9223372036854775808 ≤ n ∧ n < 9223372036854775808) : fits n 8 := by
 unfold fits half; refine ⟨by decide, by decide, ?_, ?_⟩
 · show -(128 * 256 ^ 7) ≤ n; omega
 · show n < 128 * 256 ^ 7; omega
theorem vfits2 (n : Int) (h : -32768 ≤ n ∧ n < 32768) : fits n 2 := by
 unfold fits half; refine ⟨by decide, by decide, ?_, ?_⟩
 · show -(128 * 256 ^ 1) ≤ n; omega
 · show n < 128 * 256 ^ 1; omega
theorem getD_mem (l : List Int) (k : Nat) (hk : k < l.length) : l.getD k 0 ∈ l := by
 rw [List.getD_eq_getElem?_getD, List.getElem?_eq_getElem hk]; exact List.getElem_mem hk

end Go.Proofs.YtnnnglklgofabaaGreat
