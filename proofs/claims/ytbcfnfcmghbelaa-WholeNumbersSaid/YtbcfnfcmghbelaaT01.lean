/- Numbers as bytes, all through. -/
import Derived.Test.YtbcfnfcmghbelaaL02
import Derived.Test.YtbcfnfcmghbelaaL01B
import Derived.Deep.RegionWith
import Derived.Deep.DeepCutAuto
namespace Go.Proofs.Ytbcfnfcmghbelaa
open Go.RowKit

/-- A number, and of how many bytes it is to be. -/
structure FieldM where
  n : Int
  size : Int

def RField (_ : World) (cs : List Value) (a : FieldM) : Prop :=
  cs = [.int .i64 a.n, .int .i64 a.size] ∧ -9223372036854775808 ≤ a.n ∧ a.n < 9223372036854775808

def fcells (l : List FieldM) : List Value := l.flatMap fun f => [.int .i64 f.n, .int .i64 f.size]
def fkept (l : List FieldM) : List FieldM := l.filter fun f => decide (fits f.n f.size)
def fbytes (l : List FieldM) : Bs := l.flatMap fun f => beBytes f.n f.size.toNat

theorem fkept_snoc (l : List FieldM) (x : FieldM) : fkept (l ++ [x]) = fkept l ++ (if fits x.n x.size then [x] else []) := by
  unfold fkept
  rw [List.filter_append]
  congr 1
  by_cases h : fits x.n x.size <;> simp [List.filter_cons, h]
theorem fbytes_snoc (l : List FieldM) (x : FieldM) : fbytes (l ++ [x]) = fbytes l ++ beBytes x.n x.size.toNat := by simp [fbytes]
theorem fbytes_app (a b : List FieldM) : fbytes (a ++ b) = fbytes a ++ fbytes b := by simp [fbytes]
theorem fcells_length (l : List FieldM) : (fcells l).length = l.length * 2 := by
  induction l with
  | nil => rfl
  | cons x l ih => simp only [fcells, List.flatMap_cons, List.length_append, List.length_cons, List.length_nil] at ih ⊢; omega
theorem fcells_snoc (l : List FieldM) (x : FieldM) : fcells (l ++ [x]) = fcells l ++ [.int .i64 x.n, .int .i64 x.size] := by simp [fcells]
theorem cells_new2 (w : World) (x y : Value) (T : TypeId) : ∀ j u, [x, y][j]? = some u → (w.alloc (.cells #[x, y] T)).cell? ((⟨w.heap.size, 0, none⟩ : Addr).add j) = some u := by
  intro j u hj
  match j, hj with
  | 0, hj => simp [Addr.add] at hj ⊢; exact hj
  | 1, hj => simp [Addr.add] at hj ⊢; exact hj
  | j + 2, hj => simp at hj
theorem info_field : (Try.prog.info? 87).map (fun i => (i.zero, i.size, i.bytes)) = some (some (.agg #[.int .i64 0, .int .i64 0]), 2, 16) := by kernel_rfl

theorem fbytes_le (l : List FieldM) (h : ∀ f ∈ l, fits f.n f.size) : (fbytes l).length ≤ l.length * 8 := by
  induction l with
  | nil => simp [fbytes]
  | cons x l ih =>
    have hx := (h x (by simp)).2.1
    have := ih (fun f hf => h f (by simp [hf]))
    simp only [fbytes, List.flatMap_cons, List.length_append, beBytes_length, List.length_cons] at this ⊢
    omega

/-- The next number that fits is read. -/
theorem int_fit (a b : Bs) (n size : Int) (h : fits n size) :
    (⟨a ++ beBytes n size.toNat ++ b, a.length, 0⟩ : InS).int size = (n, ⟨a ++ beBytes n size.toNat ++ b, (a ++ beBytes n size.toNat).length, 0⟩) := by
  obtain ⟨k, rfl⟩ : ∃ k : Nat, size = k := ⟨size.toNat, by have := h.1; omega⟩
  have h1 := h.1
  have h8 := h.2.1
  unfold InS.int
  rw [if_neg (by omega), InS.take_ok (n := (k : Int)) rfl (by omega) (by simp [InS.left]; omega)]
  have ht : (beBytes n k ++ b).take k = beBytes n k := by
    have h2 := beBytes_length n k
    rw [List.take_append_of_le_length (by omega), List.take_of_length_le (by omega)]
  simp only [Int.toNat_natCast, List.append_assoc, List.drop_left, ht, (sInt_beBytes_iff n k (by omega)).2 h.2.2, List.length_append, beBytes_length]

/-- One that isn't wholly there isn't. -/
theorem int_cut (s : Bs) (pos : Nat) (n size : Int) (h : fits n size) (hs : s.length < pos + size.toNat) :
    (⟨s, pos, 0⟩ : InS).int size = (0, ⟨s, pos, 1⟩) := by
  have h1 := h.1
  have h8 := h.2.1
  unfold InS.int
  rw [if_neg (by omega), InS.take_short (by omega) (by simp only [InS.left]; omega)]
  rfl

/-- Where the i-th number begins. -/
def fpos (F : List FieldM) (i : Nat) : Nat := (fbytes (F.take i)).length

theorem fbytes_split (F : List FieldM) (i : Nat) (h : i < F.length) : fbytes F = fbytes (F.take i) ++ beBytes F[i].n F[i].size.toNat ++ fbytes (F.drop (i + 1)) := by
  have h2 : F = F.take i ++ F[i] :: F.drop (i + 1) := by simp
  exact (congrArg fbytes h2).trans (by rw [fbytes_app]; simp only [fbytes, List.flatMap_cons, List.append_assoc])
theorem fpos_succ (F : List FieldM) (i : Nat) (h : i < F.length) : (fbytes (F.take i) ++ beBytes F[i].n F[i].size.toNat).length = fpos F (i + 1) := by
  unfold fpos
  rw [List.take_succ_eq_append_getElem h, fbytes_snoc]

theorem fcells_get : ∀ (l : List FieldM) (j : Nat) (h : j < l.length) (i : Fin 2), (fcells l)[j * 2 + i.1]? = some ([Value.int .i64 l[j].n, .int .i64 l[j].size][i.1])
  | [], j, h, _ => by simp at h
  | x :: l, 0, _, i => by
    match i with
    | 0 => rfl
    | 1 => rfl
  | x :: l, j + 1, h, i => by
    have := fcells_get l j (by simpa using h) i
    have e : (j + 1) * 2 + i.1 = (j * 2 + i.1) + 2 := by omega
    rw [e]
    exact this

theorem in_next (F : List FieldM) (more : Bs) (i : Nat) (h : i < F.length) (hf : fits F[i].n F[i].size) :
    (⟨fbytes F ++ more, fpos F i, 0⟩ : InS).int F[i].size = (F[i].n, ⟨fbytes F ++ more, fpos F (i + 1), 0⟩) := by
  have := int_fit (fbytes (F.take i)) (fbytes (F.drop (i + 1)) ++ more) F[i].n F[i].size hf
  rw [← List.append_assoc, ← fbytes_split F i h, fpos_succ F i h] at this
  exact this

theorem short_next (F : List FieldM) (i : Nat) (h : i + 1 < F.length) (hf : ∀ f ∈ F, fits f.n f.size) :
    (⟨(fbytes F).dropLast, fpos F i, 0⟩ : InS).int (F[i]'(by omega)).size = ((F[i]'(by omega)).n, ⟨(fbytes F).dropLast, fpos F (i + 1), 0⟩) := by
  have hi : i < F.length := by omega
  have hne : fbytes (F.drop (i + 1)) ≠ [] := by
    have h3 : F.drop (i + 1) = F[i + 1] :: F.drop (i + 2) := List.drop_eq_getElem_cons h
    rw [h3]
    intro h4
    have h5 := congrArg List.length h4
    have h6 := (hf F[i + 1] (List.getElem_mem h)).1
    simp only [fbytes, List.flatMap_cons, List.length_append, beBytes_length, List.length_nil] at h5
    omega
  have hd : (fbytes F).dropLast = fbytes (F.take i) ++ beBytes F[i].n F[i].size.toNat ++ (fbytes (F.drop (i + 1))).dropLast := by
    rw [fbytes_split F i hi, List.dropLast_append_of_ne_nil hne]
  have := int_fit (fbytes (F.take i)) (fbytes (F.drop (i + 1))).dropLast F[i].n F[i].size (hf _ (List.getElem_mem hi))
  rw [← hd, fpos_succ F i hi] at this
  exact this

theorem short_last (F : List FieldM) (i : Nat) (h : i + 1 = F.length) (hf : ∀ f ∈ F, fits f.n f.size) :
    (⟨(fbytes F).dropLast, fpos F i, 0⟩ : InS).int (F[i]'(by omega)).size = (0, ⟨(fbytes F).dropLast, fpos F i, 1⟩) := by
  have hi : i < F.length := by omega
  have hfi := hf _ (List.getElem_mem hi)
  refine int_cut _ _ _ _ hfi ?_
  have h1 := congrArg List.length (fbytes_split F i hi)
  have h2 : fbytes (F.drop (i + 1)) = [] := by rw [List.drop_of_length_le (by omega)]; rfl
  rw [h2] at h1
  simp only [List.length_append, beBytes_length, List.length_nil] at h1
  rw [List.length_dropLast]
  unfold fpos
  have := hfi.1
  omega

/-- What has been read of the shorter one. -/
def fshort (F : List FieldM) (i : Nat) : InS := if i < F.length then ⟨(fbytes F).dropLast, fpos F i, 0⟩ else ⟨(fbytes F).dropLast, fpos F (F.length - 1), 1⟩

theorem fshort_next (F : List FieldM) (i : Nat) (h : i < F.length) (hf : ∀ f ∈ F, fits f.n f.size) :
    ((fshort F i).int F[i].size).2 = fshort F (i + 1) := by
  unfold fshort
  rw [if_pos h]
  by_cases h2 : i + 1 < F.length
  · rw [if_pos h2, short_next F i h2 hf]
  · rw [if_neg h2, short_last F i (by omega) hf]
    have : F.length - 1 = i := by omega
    rw [this]

theorem IsIn.apart {w : World} {b : Nat} {i : InS} {B : Nat} {T : TypeId} {sz n : Nat} {v : Value} {xs : List Value} (h : IsIn w b i) (k : w.ownsRow B T sz v n xs)
    (h1 : T ≠ 93) : v.ownBlock ≠ some b := by
  intro hx
  rcases k.2 with ⟨rfl, _⟩ | ⟨g1, cap, cur, rfl, _, hg1, _⟩
  · simp [Value.ownBlock] at hx
  · simp [Value.ownBlock] at hx
    subst hx
    rw [h.1] at hg1
    simp at hg1
    exact h1 hg1.2.symm

set_option maxHeartbeats 2000000 in
set_option maxRecDepth 100000 in
theorem wholeNumbers_any (l : List FieldM) (v : Value) (more : Bs) (w : World) (hr : RowsOf RField (· < w.heap.size) w v 2 l) (hl : l.length ≤ maxLen) (hm : more.length ≤ maxLen) :
    Calls Try.prog 12 #[v, .string (bb more)] w fun en w' => en = .returned (.bool true) ∧ Below w.heap.size w w' := by
  unfold maxLen at hl hm
  obtain ⟨p, cap, rfl, hrow⟩ := hr
  have HROW := Lib.hid hrow
  have hl2 : l.length ≤ 9223372036854775807 := by omega
  have hm2 : more.length ≤ 9223372036854775807 := by omega
  have e1 : (⟨[], 0⟩ : OutS).int 5 1 = ⟨[5], 0⟩ := by decide +kernel
  have E1 := Lib.hid e1
  have Z := Lib.hid (out_zero w)
  clear hrow hl hm e1
  by_cases h60 : 60 < l.length
  · clear hm2
    go_enter Try.func12, Try.ntmps12
    go_wp2_with (first
      | (go_at_call 31; refine (out_int _ _ _ _ _ _ Z.out (by simp [OutS.ok]) (by decide) (by decide)).mono ?_; rw [E1.out]; rintro e w1 ⟨rfl, g1, h1, k1, n1⟩; have H1 := Lib.hid h1; have K1 := Lib.hid k1; clear h1 k1 n1)
      | (go_at_call 33; refine (out_len _ _ _ _ H1.out).mono ?_; rintro e w2 ⟨rfl, rfl⟩))
    go_ret
    exact ⟨rfl, ((below0 w).a _).k K1.out (out_M0 (Nat.le_refl _))⟩
  · clear hl2
    by_cases h100 : 100 < more.length
    · go_enter Try.func12, Try.ntmps12
      go_wp2_with (first
        | (go_at_call 31; refine (out_int _ _ _ _ _ _ Z.out (by simp [OutS.ok]) (by decide) (by decide)).mono ?_; rw [E1.out]; rintro e w1 ⟨rfl, g1, h1, k1, n1⟩; have H1 := Lib.hid h1; have K1 := Lib.hid k1; clear h1 k1 n1)
        | (go_at_call 33; refine (out_len _ _ _ _ H1.out).mono ?_; rintro e w2 ⟨rfl, rfl⟩))
      go_ret
      exact ⟨rfl, ((below0 w).a _).k K1.out (out_M0 (Nat.le_refl _))⟩
    · clear hm2
      go_enter Try.func12, Try.ntmps12
      go_wp2_with (first
        | (go_at_call 31; refine (out_int _ _ _ _ _ _ Z.out (by simp [OutS.ok]) (by decide) (by decide)).mono ?_; rw [E1.out]; rintro e w1 ⟨rfl, g1, h1, k1, n1⟩; have H1 := Lib.hid h1; have K1 := Lib.hid k1; have N1 := Lib.hid n1; clear h1 k1 n1)
        | (go_at_call 33; refine (out_len _ _ _ _ H1.out).mono ?_; rintro e w2 ⟨rfl, rfl⟩))
      obtain ⟨i0, hi, hz0, hz1, hz2⟩ := info_parts info_field
      have HI := Lib.hid (And.intro hi (And.intro hz0 (And.intro hz1 hz2)))
      clear hi hz0 hz1 hz2
      go_loopw [6, 28] (fun pv kv wr => ∃ (k : Nat) (g : Option Nat), k ≤ l.length ∧ kv = .int .i64 k ∧ wr.ownsRow 0 87 2 pv (fkept (l.take k)).length (fcells (fkept (l.take k))) ∧ (∀ x, pv.ownBlock = some x → w.heap.size ≤ x) ∧ IsOut wr w.heap.size g ⟨[5] ++ fbytes (fkept (l.take k)), 0⟩ ∧ (∀ x, g = some x → w.heap.size ≤ x) ∧ Below w.heap.size w wr) (fun _ kv _ => l.length - (intOf kv).toNat)
      case atStart =>
        refine ⟨0, g1, Nat.zero_le _, rfl, World.ownsRow_nil _ _ _ _, by simp [Value.ownBlock], H1.out, ?_, ((below0 w).a _).k K1.out (out_M0 (Nat.le_refl _))⟩
        intro x hx
        rcases N1.out with h | ⟨y, h, hy⟩
        · rw [h] at hx; cases hx
        · rw [h] at hx; simp at hx hy; omega
      case round =>
        obtain ⟨k, g, hkl, rfl, hown, hgb, hout, hgo, hbl⟩ := hrel
        have HOWN := Lib.hid hown
        have HGB := Lib.hid hgb
        have HOUT := Lib.hid hout
        have HGO := Lib.hid hgo
        have HBL := Lib.hid hbl
        have hb1 := hout.lt
        clear hown hgb hout hgo hbl
        by_cases hlt : k < l.length
        · obtain ⟨b, off, rfl, hbD, hbs, hcells⟩ := HROW.out (by omega)
          obtain ⟨cs, hcs, ⟨rfl, hn0, hn1⟩, hcell⟩ := hcells k hlt
          have c0 : wr.cell? ⟨b, off + k * 2, none⟩ = some (.int .i64 l[k].n) := (HBL.out.cell (p := ⟨b, off + k * 2, none⟩) hbD).trans (hcell 0 _ rfl)
          have c1 : wr.cell? ⟨b, off + k * 2 + 1, none⟩ = some (.int .i64 l[k].size) := (HBL.out.cell (p := ⟨b, off + k * 2 + 1, none⟩) hbD).trans (hcell 1 _ rfl)
          have ht : l.take (k + 1) = l.take k ++ [l[k]] := List.take_succ_eq_append_getElem hlt
          clear hcs hcell hcells
          generalize l[k] = f at *
          obtain ⟨n, size⟩ := f
          simp only at hn0 hn1 c0 c1
          have HN := Lib.hid (And.intro hn0 hn1)
          have hk60 : (fkept (l.take k)).length ≤ 60 := Nat.le_trans (List.length_filter_le _ _) (by rw [List.length_take]; omega)
          have hby : ([5] ++ fbytes (fkept (l.take k))).length ≤ 500 := by
            have := fbytes_le (fkept (l.take k)) (fun f hf => by simpa using (List.mem_filter.1 hf).2)
            simp only [List.length_append, List.length_cons, List.length_nil]
            omega
          have HK := Lib.hid (And.intro hk60 hby)
          have hsn := fkept_snoc (l.take k) ⟨n, size⟩
          rw [← ht] at hsn
          clear hn0 hn1 hk60 hby ht
          by_cases hf : fits n size
          · as_aux_lemma =>
              rw [if_pos hf] at hsn
              have HSN := Lib.hid hsn
              have hd : decide (fits n size) = true := decide_eq_true hf
              generalize fkept (l.take k) = ks at *
              have he : (⟨[5] ++ fbytes ks, 0⟩ : OutS).int n size = ⟨[5] ++ fbytes ks ++ beBytes n size.toNat, 0⟩ := (if_pos hf).trans (if_pos rfl)
              have HE := Lib.hid he
              clear hsn hf he
              go_wp2_with (first
                | (go_at_call 25; refine (ref_fits _ _ _ HN.out.1 HN.out.2).mono ?_; rintro e w2 ⟨rfl, k2⟩; have q0 := k2.cell wr.heap.size 0 (by simp) (by simp); have q1 := k2.cell wr.heap.size 1 (by simp) (by simp); have K2 := Lib.hid k2; have O2 := Lib.hid (ownsRow_keeps (HOWN.out.alloc _) k2 (by simp)); have U2 := Lib.hid ((HOUT.out.alloc _).keeps k2 (by simp) (by simp)); clear k2)
                | (go_at_call 31; refine (out_int _ _ _ _ _ _ U2.out (by have := HK.out.2; show ([5] ++ fbytes ks).length + 8 ≤ 140737488355328; omega) HN.out.1 HN.out.2).mono ?_; rw [HE.out]; rintro e w3 ⟨rfl, g3, h3, k3, n3⟩; have s2 := K2.out.size; have H3 := Lib.hid h3; have r0 := k3.cell wr.heap.size 0 (by simp at s2; omega) (HOUT.out.notM (Nat.le_refl _)); have r1 := k3.cell wr.heap.size 1 (by simp at s2; omega) (HOUT.out.notM (Nat.le_refl _)); have O3 := Lib.hid (ownsRow_keeps O2.out k3 (U2.out.apart O2.out (by decide) (by decide))); have K3 := Lib.hid k3; have N3 := Lib.hid n3; clear h3 k3 n3)
                | (at_builtin; refine wpl_app_val rfl _ _ 85 rfl 87 i0 (.agg #[.int .i64 0, .int .i64 0]) 2 16 Try.underlying85 HI.out.1 HI.out.2.1 HI.out.2.2.1 HI.out.2.2.2 rfl (by decide) u6 _ _ rfl (O3.out.alloc _) ⟨w3.heap.size, 0, none⟩ 1 1 [.int .i64 n, .int .i64 size] rfl rfl (cells_new2 w3 _ _ _) (by simp [Value.oneCell']) (by have := HK.out.1; unfold maxLen; omega) (by have := HK.out.1; omega) ?_; intro v' w4 h1 h2 h3; have H4 := Lib.hid h1; have G4 := Lib.hid h2; have N4 := Lib.hid h3; clear h1 h2 h3))
              have s3 := K3.out.size
              have s2 := K2.out.size
              simp only [World.size_alloc] at s2
              have kg := (Keeps.refl (fun k => some k = u6.ownBlock) w3).alloc (.cells #[.int .i64 n, .int .i64 size] 87) |>.trans (Keeps.of_grown G4.out)
              have hap := H3.out.apart O3.out (by decide) (by decide)
              go_roundw
              case rel =>
                refine ⟨k + 1, g3, hlt, by go_num, ?_, ?_, ?_, ?_, ?_⟩
                · rw [HSN.out, fcells_snoc, List.length_append]
                  exact H4.out
                · intro y hy
                  rcases N4.out with h | ⟨z, h, hz⟩
                  · exact HGB.out y (h ▸ hy)
                  · rw [h] at hy
                    simp at hy hz
                    have := HBL.out.size
                    omega
                · rw [HSN.out, fbytes_snoc, ← List.append_assoc]
                  exact H3.out.keeps kg (fun h => hap _ h.symm (.inl rfl)) (fun x hx h => hap _ h.symm (.inr hx.symm))
                · intro y hy
                  rcases N3.out with h | ⟨z, h, hz⟩
                  · exact HGO.out y (h ▸ hy)
                  · rw [h] at hy
                    simp at hy
                    have := HBL.out.size
                    omega
                · exact (((HBL.out.a _).k K2.out none_M).k K3.out (out_M (Nat.le_refl _) HGO.out)).k kg (fun y h => HGB.out y h.symm)
              case measure => first | (simp [intOf]; done) | (simp [intOf]; omega)
          · as_aux_lemma =>
              rw [if_neg hf, List.append_nil] at hsn
              have HSN := Lib.hid hsn
              have hd : decide (fits n size) = false := decide_eq_false hf
              clear hsn hf
              go_wp2_with (first
                | (go_at_call 25; refine (ref_fits _ _ _ HN.out.1 HN.out.2).mono ?_; rintro e w2 ⟨rfl, k2⟩; have K2 := Lib.hid k2; have O2 := Lib.hid (ownsRow_keeps (HOWN.out.alloc _) k2 (by simp)); have U2 := Lib.hid ((HOUT.out.alloc _).keeps k2 (by simp) (by simp)); clear k2))
              go_roundw
              case rel => exact ⟨k + 1, g, hlt, by go_num, by rw [HSN.out]; exact O2.out, HGB.out, by rw [HSN.out]; exact U2.out, HGO.out, (HBL.out.a _).k K2.out none_M⟩
              case measure => first | (simp [intOf]; done) | (simp [intOf]; omega)
        · have htk : l.take k = l := List.take_of_length_le (by omega)
          rw [htk] at HOWN HOUT
          have hks : ∀ f ∈ fkept l, fits f.n f.size := fun f hf => by simpa using (List.mem_filter.1 hf).2
          have hk60 : (fkept l).length ≤ 60 := Nat.le_trans (List.length_filter_le _ _) (by omega)
          generalize fkept l = ks at *
          have hby := fbytes_le ks hks
          have hlen1 : (5 :: (fbytes ks ++ more)).length ≤ 140737488355328 := by simp only [List.length_append, List.length_cons]; omega
          have hlen2 : ((5 :: fbytes ks).take (fbytes ks).length).length ≤ 140737488355328 := by rw [List.length_take]; omega
          have HKS := Lib.hid (And.intro hks (And.intro hk60 (And.intro hby (And.intro hlen1 hlen2))))
          have hsz : (fbytes ks).length ≤ 480 := by omega
          clear hks hk60 hby htk hlen1 hlen2
          have et : (⟨[5] ++ fbytes ks, 0⟩ : OutS).text = (5 :: fbytes ks, 0) := rfl
          have ET := Lib.hid et
          clear et
          go_wp2_with (first
            | (go_at_call 35; refine (out_text _ _ _ _ HOUT.out).mono ?_; rw [ET.out]; rintro e w2 ⟨rfl, n2, rfl⟩))
          go_cut [11, 12] (fun a b wx => ∃ b1 b2 : Nat, a = inPtr b1 ∧ b = inPtr b2 ∧ IsIn wx b1 ⟨5 :: (fbytes ks ++ more), 0, 0⟩ ∧ IsIn wx b2 ⟨(5 :: fbytes ks).take (fbytes ks).length, 0, 0⟩ ∧ b1 ≠ b2 ∧ wr.heap.size ≤ b1 ∧ wr.heap.size ≤ b2 ∧ wx.ownsRow 0 87 2 u6 ks.length (fcells ks) ∧ Below w.heap.size w wx)
          case first =>
            have hw2 : IntKind.i64.wrap ((fbytes ks).length : Int) = (fbytes ks).length := IntWalk.i64_in _ ⟨by omega, by omega⟩
            have hw3 : wrap64 ((fbytes ks).length : Int) = (fbytes ks).length := wrap64_in _ (by omega) (by omega)
            have hw4 : IntKind.i64.wrap (((fbytes ks).length : Int) + 1 - 1) = (fbytes ks).length := (IntWalk.i64_in _ ⟨by omega, by omega⟩).trans (by omega)
            have hw5 : (0 : Int) ≤ (fbytes ks).length := by omega
            go_region_with (first
              | (go_at_call 15; refine (in_new _ _ HKS.out.2.2.2.1).mono ?_; rintro e w3 ⟨rfl, h3, k3⟩; have H3 := Lib.hid h3; have K3 := Lib.hid k3; clear h3 k3)
              | (go_at_call 15; refine (in_new _ _ HKS.out.2.2.2.2).mono ?_; rintro e w4 ⟨rfl, h4, k4⟩; have H4 := Lib.hid h4; have K4 := Lib.hid k4; clear h4 k4))
            all_goals
              go_wp2_with fail
              go_meet
              have z3 := H3.out.lt
              have z4 := H4.out.lt
              have y3 := K3.out.size
              have y4 := K4.out.size
              (try simp only [World.drewN_heap] at z3 z4 y3 y4)
              first
                | exact ⟨_, _, rfl, rfl, H3.out.keeps K4.out (by simp), H4.out, by (try simp only [World.drewN_heap]); omega, by (try simp only [World.drewN_heap]); omega, by (try simp only [World.drewN_heap]); omega, ownsRow_keeps (ownsRow_keeps (ownsRow_keeps HOWN.out ((Keeps.refl (fun _ => False) _).drewN _) (by simp)) K3.out (by simp)) K4.out (by simp), ((HBL.out.drewN' _).k K3.out none_M).k K4.out none_M⟩
                | exact ⟨_, _, rfl, rfl, H3.out, H4.out.keeps K3.out (by simp), by (try simp only [World.drewN_heap]); omega, by (try simp only [World.drewN_heap]); omega, by (try simp only [World.drewN_heap]); omega, ownsRow_keeps (ownsRow_keeps (ownsRow_keeps HOWN.out ((Keeps.refl (fun _ => False) _).drewN _) (by simp)) K4.out (by simp)) K3.out (by simp), ((HBL.out.drewN' _).k K4.out none_M).k K3.out none_M⟩
          case rest =>
            obtain ⟨b1, b2, rfl, rfl, h3, h4, hne, hb1', hb2', hown, hbl⟩ := hcut
            have H3 := Lib.hid h3
            have H4 := Lib.hid h4
            have OWN := Lib.hid hown
            obtain ⟨pp, pc, hu6, _⟩ := owns_row hown
            subst hu6
            have hks60 := HKS.out.2.1
            have BL := Lib.hid hbl
            clear h3 h4 hown hbl
            have hF : ∃ F : List FieldM, F = ⟨5, 1⟩ :: ks := ⟨_, rfl⟩
            obtain ⟨F, hF⟩ := hF
            have hFb : fbytes F = 5 :: fbytes ks := by
              rw [hF]
              have : beBytes 5 1 = [5] := by decide
              simp [fbytes, this]
            have hFl : F.length = ks.length + 1 := by rw [hF]; rfl
            have hFf : ∀ f ∈ F, fits f.n f.size := by
              intro f hf
              rw [hF] at hf
              rcases List.mem_cons.1 hf with rfl | hf
              · decide +kernel
              · exact HKS.out.1 f hf
            have hFg : ∀ j (hj : j < ks.length) (h' : j + 1 < F.length), F[j + 1]'h' = ks[j] := by intro j hj h'; subst hF; rfl
            have hF0 : F[0]'(by omega) = ⟨5, 1⟩ := by subst hF; rfl
            have hdl : (5 :: fbytes ks).take (fbytes ks).length = (fbytes F).dropLast := by rw [hFb, List.dropLast_eq_take]; simp
            have e0 := in_next F more 0 (by omega) (hFf _ (List.getElem_mem _))
            have f0 := fshort_next F 0 (by omega) hFf
            rw [hF0] at e0 f0
            have g0 : fshort F 0 = ⟨(5 :: fbytes ks).take (fbytes ks).length, 0, 0⟩ := by unfold fshort; rw [if_pos (by omega), hdl]; rfl
            rw [g0] at f0
            have k0 : (⟨fbytes F ++ more, fpos F 0, 0⟩ : InS) = ⟨5 :: (fbytes ks ++ more), 0, 0⟩ := by rw [hFb]; rfl
            rw [k0] at e0
            have E0 := Lib.hid e0
            have F0 := Lib.hid f0
            have FF := Lib.hid (And.intro hFb (And.intro hFl (And.intro hFf hFg)))
            clear hF hFb hFl hFf hFg hF0 hdl e0 f0 g0 k0
            go_wp2_with (first
              | (go_at_call_of 18 (inPtr b1); refine (in_int _ _ _ _ H3.out).mono ?_; rw [E0.out]; rintro e w5 ⟨rfl, h5, k5⟩; have H5 := Lib.hid h5; have H6 := Lib.hid (H4.out.keeps k5 (by omega)); have K5 := Lib.hid k5; have O5 := Lib.hid (ownsRow_keeps OWN.out k5 (fun x hx => by rintro rfl; exact H3.out.apart OWN.out (by decide) hx)); clear h5 k5)
              | (go_at_call_of 18 (inPtr b2); refine (in_int _ _ _ _ H6.out).mono ?_; rintro e w6 ⟨rfl, h6, k6⟩; rw [F0.out] at h6; have H7 := Lib.hid h6; have H8 := Lib.hid (H5.out.keeps k6 (by omega)); have K6 := Lib.hid k6; have O6 := Lib.hid (ownsRow_keeps O5.out k6 (fun x hx => by rintro rfl; exact H6.out.apart O5.out (by decide) hx)); clear h6 k6))
            have z5 := K5.out.size
            have z6 := K6.out.size
            have hz := H7.out.lt
            go_loopw [70] (fun jv wx => ∃ j : Nat, j ≤ ks.length ∧ jv = .int .i64 j ∧ IsIn wx b1 ⟨fbytes F ++ more, fpos F (j + 1), 0⟩ ∧ IsIn wx b2 (fshort F (j + 1)) ∧ wx.ownsRow 0 87 2 (.slice pp ks.length pc) ks.length (fcells ks) ∧ Below w.heap.size w wx) (fun jv _ => ks.length - (intOf jv).toNat)
            case atStart =>
              refine ⟨0, Nat.zero_le _, rfl, ?_, H7.out, O6.out, (BL.out.k K5.out (one_M (by have := HBL.out.size; omega))).k K6.out (one_M (by have := HBL.out.size; omega))⟩
              exact H8.out
            case round =>
              obtain ⟨j, hjl, rfl, hi1, hi2, hown2, hbl2⟩ := hrel
              have I1 := Lib.hid hi1
              have I2 := Lib.hid hi2
              have OW := Lib.hid hown2
              have BL2 := Lib.hid hbl2
              have hlt1 := hi1.lt
              have hlt2 := hi2.lt
              clear hi1 hi2 hown2 hbl2
              by_cases hjlt : j < ks.length
              · as_aux_lemma =>
                  obtain ⟨pp', pc', hsl, hcells⟩ := owns_row OW.out
                  cases hsl
                  obtain ⟨gp, rfl, hgp, hcell⟩ := hcells (by omega)
                  have hj1 : j + 1 < F.length := by have := FF.out.2.1; omega
                  have c0 : World.cell? _ ⟨gp, j * 2, none⟩ = some (Value.int .i64 ks[j].n) := hcell (j * 2) _ (fcells_get ks j hjlt 0)
                  have c1 : World.cell? _ ⟨gp, j * 2 + 1, none⟩ = some (Value.int .i64 ks[j].size) := hcell (j * 2 + 1) _ (fcells_get ks j hjlt 1)
                  have en := in_next F more (j + 1) hj1 (FF.out.2.2.1 _ (List.getElem_mem _))
                  have es := fshort_next F (j + 1) hj1 FF.out.2.2.1
                  rw [FF.out.2.2.2 j hjlt hj1] at en es
                  clear hcell hcells
                  generalize ks[j] = f at c0 c1 en es
                  obtain ⟨n, size⟩ := f
                  simp only at c0 c1 en es
                  have EN := Lib.hid en
                  have ES := Lib.hid es
                  clear en es hj1
                  obtain ⟨wl, hwl⟩ : ∃ wl : World, wl = wr := ⟨_, rfl⟩
                  go_wp2_with fail
                  go_region_with (go_at_call_of 18 (inPtr b1); refine (in_int _ _ _ _ (I1.out.keeps (M := fun _ => False) (by first | exact ((Keeps.refl _ _).alloc _).drew | exact ((Keeps.refl _ _).alloc _).drewN _) (by simp))).mono ?_; rw [EN.out]; rintro e w7 ⟨rfl, h7, k7⟩; have H17 := Lib.hid h7; have q0 := k7.cell wr.heap.size 0 (by simp) (by omega); have q1 := k7.cell wr.heap.size 1 (by simp) (by omega); have K17 := Lib.hid k7; have H18 := Lib.hid ((I2.out.keeps (M := fun _ => False) (by first | exact ((Keeps.refl _ _).alloc _).drew | exact ((Keeps.refl _ _).alloc _).drewN _) (by simp)).keeps k7 (by omega)); clear h7 k7)
                  all_goals
                    go_wp2_with (go_at_call_of 18 (inPtr b2); refine (in_int _ _ _ _ H18.out).mono ?_; rintro e w9 ⟨rfl, h9, k9⟩; rw [ES.out] at h9; have H19 := Lib.hid h9; have H27 := Lib.hid (H17.out.keeps k9 (by omega)); have K19 := Lib.hid k9; clear h9 k9)
                    go_roundw
                    case rel =>
                      refine ⟨j + 1, hjlt, by go_num, H27.out, H19.out, ?_, ?_⟩
                      · refine ownsRow_keeps (ownsRow_keeps (ownsRow_keeps (OW.out.alloc (.cells #[.int .i64 n, .int .i64 size] 87)) (M := fun _ => False) ?_ (by simp)) K17.out (fun x hx => by rintro rfl; exact I1.out.apart OW.out (by decide) hx)) K19.out (fun x hx => by rintro rfl; exact I2.out.apart OW.out (by decide) hx)
                        first | exact (Keeps.refl _ _).drew | exact (Keeps.refl _ _).drewN _
                      · refine ((Below.trans (BL2.out.a (.cells #[.int .i64 n, .int .i64 size] 87)) ?_).k K17.out (one_M (by have := HBL.out.size; omega))).k K19.out (one_M (by have := HBL.out.size; omega))
                        first | exact (Below.refl _ _).drew | exact (Below.refl _ _).drewN' _
                    case measure => first | (simp [intOf]; done) | (simp [intOf]; omega)
              · have hjj : j = ks.length := by omega
                subst hjj
                have hin : ((⟨fbytes F ++ more, fpos F (ks.length + 1), 0⟩ : InS).left : Int) = more.length := by
                  have h1 : fpos F (ks.length + 1) = (fbytes F).length := by
                    unfold fpos; rw [List.take_of_length_le (by have := FF.out.2.1; omega)]
                  simp only [InS.left, h1, List.length_append]
                  omega
                have hc1 : (⟨fbytes F ++ more, fpos F (ks.length + 1), 0⟩ : InS).close.err = if more = [] then 0 else 2 := by
                  unfold InS.close
                  by_cases hm : more = []
                  · subst hm
                    rw [if_neg (by simp only [List.length_nil] at hin; omega), if_pos rfl]
                  · have : 0 < more.length := List.length_pos_iff.2 hm
                    rw [if_pos (by omega), if_neg hm]
                    rfl
                have hc2 : (fshort F (ks.length + 1)).close.err = 1 := by
                  unfold fshort
                  rw [if_neg (by have := FF.out.2.1; omega)]
                  unfold InS.close InS.fail
                  split <;> rfl
                have HIN := Lib.hid hin
                have HC1 := Lib.hid hc1
                have HC2 := Lib.hid hc2
                clear hin hc1 hc2
                by_cases hm : more = []
                · have hmb : more.isEmpty = true := by rw [hm]; rfl
                  have hml : more.length = 0 := by rw [hm]; rfl
                  rw [if_pos hm] at HC1
                  clear hm
                  go_wp2_with (first
                    | (go_at_call 21; refine (in_left _ _ _ I1.out).mono ?_; rw [HIN.out]; rintro e w7 ⟨rfl, n7, rfl⟩)
                    | (go_at_call_of 24 (inPtr b1); refine (in_close _ _ _ (I1.out.drewN _)).mono ?_; rw [HC1.out]; rintro e w8 ⟨rfl, h8, k8⟩; have K8 := Lib.hid k8; have H8' := Lib.hid ((I2.out.drewN _).keeps k8 (by omega)); clear h8 k8)
                    | (go_at_call_of 24 (inPtr b2); refine (in_close _ _ _ H8'.out).mono ?_; rw [HC2.out]; rintro e w9 ⟨rfl, h9, k9⟩; have K9 := Lib.hid k9; clear h9 k9))
                  go_ret
                  exact ⟨rfl, ((BL2.out.drewN' _).k K8.out (one_M (by have := HBL.out.size; omega))).k K9.out (one_M (by have := HBL.out.size; omega))⟩
                · have hmb : more.isEmpty = false := by cases more <;> simp_all
                  rw [if_neg hm] at HC1
                  go_wp2_with (first
                    | (go_at_call 21; refine (in_left _ _ _ I1.out).mono ?_; rw [HIN.out]; rintro e w7 ⟨rfl, n7, rfl⟩)
                    | (go_at_call_of 24 (inPtr b1); refine (in_close _ _ _ (I1.out.drewN _)).mono ?_; rw [HC1.out]; rintro e w8 ⟨rfl, h8, k8⟩; have K8 := Lib.hid k8; have H8' := Lib.hid ((I2.out.drewN _).keeps k8 (by omega)); clear h8 k8)
                    | (go_at_call_of 24 (inPtr b2); refine (in_close _ _ _ H8'.out).mono ?_; rw [HC2.out]; rintro e w9 ⟨rfl, h9, k9⟩; have K9 := Lib.hid k9; clear h9 k9))
                  go_ret
                  exact ⟨rfl, ((BL2.out.drewN' _).k K8.out (one_M (by have := HBL.out.size; omega))).k K9.out (one_M (by have := HBL.out.size; omega))⟩

end Go.Proofs.Ytbcfnfcmghbelaa
