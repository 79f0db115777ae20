/- Two ways to cut any bytes come to the same batches, and the same end, and what comes of bytes with more behind them begins with what came of these: proved of every two texts and every row of sizes. -/
import Derived.Test.YtngojlinfdokpaaGWholeChunks9
import Derived.Test.YtngojlinfdokpaaGWholeChunks7
import Derived.RegionTactic
import Derived.Deep.RegionHeld3
import Derived.Deep.DeepCutAuto
import Derived.WalkMore
import Derived.Test.YtngojlinfdokpaaGWholeChunks3
import Derived.Test.YtngojlinfdokpaaArgs
/- Whether rows of batches are one. -/
namespace Go.Proofs.Ytngojlinfdokpaa
open Go.RowKit

theorem lite_hdrs {x : BatR} (h : LiteR x) : x.l.length ≤ 1000000 ∧ ∀ y ∈ x.l, y.1.hdrs.length ≤ 9223372036854775807 := by
  obtain ⟨h1, h2, h3⟩ := h
  refine ⟨by have := congrArg List.length h1; rw [List.length_map] at this; omega, fun y hy => ?_⟩
  have := sum_hdrs (h3 y.1 (by rw [← h1]; exact List.mem_map_of_mem hy))
  omega
set_option maxHeartbeats 6000000 in
set_option maxRecDepth 100000 in
theorem ref11_rowsT (l1 l2 : List BatR) (q1 q2 : Option Addr) (cap1 cap2 : Nat) (hx : l1.map BatR.b = l2.map BatR.b) (hf1 : ∀ x ∈ l1, LiteR x) (hf2 : ∀ x ∈ l2, LiteR x) (hn : l1.length ≤ 100000) {W0 w : World} {K : Know} {L : List Res} (hk1 : K.has (Know.bats (.slice q1 l1.length cap1) l1)) (hk2 : K.has (Know.bats (.slice q2 l2.length cap2) l2)) (h : St W0 w K L) :
    Calls Try.prog 9 #[.slice q1 l1.length cap1, .slice q2 l2.length cap2] w fun en w' => en = .returned (.bool true) ∧ St W0 w' K L := by
  have H := Lib.hid h
  have HK1 := Lib.hid hk1
  have HK2 := Lib.hid hk2
  have HF1 := Lib.hid hf1
  have HF2 := Lib.hid hf2
  have HX := Lib.hid hx
  have hll : l1.length = l2.length := by have := congrArg List.length hx; rwa [List.length_map, List.length_map] at this
  have HLL := Lib.hid hll
  have hni : (l1.length : Int) ≤ 100000 := by omega
  have g0 : ((l1.length : Int) == (l2.length : Int)) = true := by rw [hll]; exact beq_self_eq_true _
  have g1 : ((l1.length : Int) != (l2.length : Int)) = false := by simp [bne, g0]
  clear h hk1 hk2 hf1 hf2 hx hll
  go_enter Try.func9, Try.ntmps9
  go_wp2
  go_loopw [5] (fun iv wr => ∃ k : Nat, k ≤ l1.length ∧ iv = .int .i64 k ∧ St W0 wr K L) (fun iv _ => l1.length - (intOf iv).toNat)
  case atStart => exact ⟨0, Nat.zero_le _, rfl, H.out⟩
  case round =>
    obtain ⟨k, hkl, rfl, hst⟩ := hrel
    clear H
    have H := Lib.hid hst
    clear hst
    by_cases hlt : k < l1.length
    · have hlt2 : k < l2.length := by rw [← HLL.out]; exact hlt
      obtain ⟨bk1, off1, hq1⟩ := bats_at HK1.out H.out (by omega)
      obtain ⟨bk2, off2, hq2⟩ := bats_at HK2.out H.out (by omega)
      subst hq1
      subst hq2
      obtain ⟨⟨b, xl1, xq1, xc1⟩, hx1⟩ : ∃ x, l1[k] = x := ⟨_, rfl⟩
      obtain ⟨⟨b2, xl2, xq2, xc2⟩, hx2⟩ : ∃ x, l2[k] = x := ⟨_, rfl⟩
      have hm1 : (⟨b, xl1, xq1, xc1⟩ : BatR) ∈ l1 := hx1 ▸ List.getElem_mem hlt
      have hm2 : (⟨b2, xl2, xq2, xc2⟩ : BatR) ∈ l2 := hx2 ▸ List.getElem_mem hlt2
      obtain rfl : b = b2 := by
        have h1 : (l1.map BatR.b)[k]? = some b := by rw [List.getElem?_map, List.getElem?_eq_getElem hlt, hx1]; rfl
        have h2 : (l2.map BatR.b)[k]? = some b2 := by rw [List.getElem?_map, List.getElem?_eq_getElem hlt2, hx2]; rfl
        rw [HX.out, h2] at h1
        exact (Option.some.inj h1).symm
      have hkn : (k : Int) < (l1.length : Int) := by omega
      have hkn2 : (k : Int) < (l2.length : Int) := by omega
      have HKA := Lib.hid (show K.has (Know.recs (.slice xq1 xl1.length xc1) xl1) from bats_recs HK1.out hm1)
      have HKB := Lib.hid (show K.has (Know.recs (.slice xq2 xl2.length xc2) xl2) from bats_recs HK2.out hm2)
      have HN1 := Lib.hid (show xl1.length ≤ 1000000 from (lite_hdrs (HF1.out _ hm1)).1)
      have HD1 := Lib.hid (show ∀ y ∈ xl1, y.1.hdrs.length ≤ 9223372036854775807 from (lite_hdrs (HF1.out _ hm1)).2)
      have HD2 := Lib.hid (show ∀ y ∈ xl2, y.1.hdrs.length ≤ 9223372036854775807 from (lite_hdrs (HF2.out _ hm2)).2)
      have HX1 := Lib.hid (show xl1.map (·.1) = b.recs from (HF1.out _ hm1).1)
      have HX2 := Lib.hid (show xl2.map (·.1) = b.recs from (HF2.out _ hm2).1)
      have HKP := Lib.hid (show ∀ w', St W0 w' K L → (w'.cell? ⟨bk1, off1 + k * 12, none⟩ = some (.int .i64 b.base) ∧ w'.cell? ⟨bk1, off1 + k * 12 + 1, none⟩ = some (.int .i64 b.leader) ∧ w'.cell? ⟨bk1, off1 + k * 12 + 2, none⟩ = some (.bool b.app) ∧ w'.cell? ⟨bk1, off1 + k * 12 + 3, none⟩ = some (.bool b.txn) ∧ w'.cell? ⟨bk1, off1 + k * 12 + 4, none⟩ = some (.bool b.ctl) ∧ w'.cell? ⟨bk1, off1 + k * 12 + 5, none⟩ = some (.int .i64 b.last) ∧ w'.cell? ⟨bk1, off1 + k * 12 + 6, none⟩ = some (.int .i64 b.first) ∧ w'.cell? ⟨bk1, off1 + k * 12 + 7, none⟩ = some (.int .i64 b.maxt) ∧ w'.cell? ⟨bk1, off1 + k * 12 + 8, none⟩ = some (.int .i64 b.prod) ∧ w'.cell? ⟨bk1, off1 + k * 12 + 9, none⟩ = some (.int .i64 b.epoch) ∧ w'.cell? ⟨bk1, off1 + k * 12 + 10, none⟩ = some (.int .i64 b.seq) ∧ w'.cell? ⟨bk1, off1 + k * 12 + 11, none⟩ = some (.slice xq1 xl1.length xc1) ∧ w'.cell? ⟨bk2, off2 + k * 12, none⟩ = some (.int .i64 b.base) ∧ w'.cell? ⟨bk2, off2 + k * 12 + 1, none⟩ = some (.int .i64 b.leader) ∧ w'.cell? ⟨bk2, off2 + k * 12 + 2, none⟩ = some (.bool b.app) ∧ w'.cell? ⟨bk2, off2 + k * 12 + 3, none⟩ = some (.bool b.txn) ∧ w'.cell? ⟨bk2, off2 + k * 12 + 4, none⟩ = some (.bool b.ctl) ∧ w'.cell? ⟨bk2, off2 + k * 12 + 5, none⟩ = some (.int .i64 b.last) ∧ w'.cell? ⟨bk2, off2 + k * 12 + 6, none⟩ = some (.int .i64 b.first) ∧ w'.cell? ⟨bk2, off2 + k * 12 + 7, none⟩ = some (.int .i64 b.maxt) ∧ w'.cell? ⟨bk2, off2 + k * 12 + 8, none⟩ = some (.int .i64 b.prod) ∧ w'.cell? ⟨bk2, off2 + k * 12 + 9, none⟩ = some (.int .i64 b.epoch) ∧ w'.cell? ⟨bk2, off2 + k * 12 + 10, none⟩ = some (.int .i64 b.seq) ∧ w'.cell? ⟨bk2, off2 + k * 12 + 11, none⟩ = some (.slice xq2 xl2.length xc2)) from fun w' hs => by
        obtain ⟨a0, a1, a2, a3, a4, a5, a6, a7, a8, a9, a10, a11⟩ := bats_cell HK1.out hs k hlt _ hx1
        obtain ⟨d0, d1, d2, d3, d4, d5, d6, d7, d8, d9, d10, d11⟩ := bats_cell HK2.out hs k hlt2 _ hx2
        exact ⟨a0, a1, a2, a3, a4, a5, a6, a7, a8, a9, a10, a11, d0, d1, d2, d3, d4, d5, d6, d7, d8, d9, d10, d11⟩)
      clear hx1 hx2 hm1 hm2
      go_wp2
      have hs := H.out.drew
      refine wp_region_held_drew (S := fun w' => w'.cell? ⟨bk1, off1 + k * 12, none⟩ = some (.int .i64 b.base) ∧ w'.cell? ⟨bk1, off1 + k * 12 + 1, none⟩ = some (.int .i64 b.leader) ∧ w'.cell? ⟨bk1, off1 + k * 12 + 2, none⟩ = some (.bool b.app) ∧ w'.cell? ⟨bk1, off1 + k * 12 + 3, none⟩ = some (.bool b.txn) ∧ w'.cell? ⟨bk1, off1 + k * 12 + 4, none⟩ = some (.bool b.ctl) ∧ w'.cell? ⟨bk1, off1 + k * 12 + 5, none⟩ = some (.int .i64 b.last) ∧ w'.cell? ⟨bk1, off1 + k * 12 + 6, none⟩ = some (.int .i64 b.first) ∧ w'.cell? ⟨bk1, off1 + k * 12 + 7, none⟩ = some (.int .i64 b.maxt) ∧ w'.cell? ⟨bk1, off1 + k * 12 + 8, none⟩ = some (.int .i64 b.prod) ∧ w'.cell? ⟨bk1, off1 + k * 12 + 9, none⟩ = some (.int .i64 b.epoch) ∧ w'.cell? ⟨bk1, off1 + k * 12 + 10, none⟩ = some (.int .i64 b.seq) ∧ w'.cell? ⟨bk1, off1 + k * 12 + 11, none⟩ = some (.slice xq1 xl1.length xc1) ∧ w'.cell? ⟨bk2, off2 + k * 12, none⟩ = some (.int .i64 b.base) ∧ w'.cell? ⟨bk2, off2 + k * 12 + 1, none⟩ = some (.int .i64 b.leader) ∧ w'.cell? ⟨bk2, off2 + k * 12 + 2, none⟩ = some (.bool b.app) ∧ w'.cell? ⟨bk2, off2 + k * 12 + 3, none⟩ = some (.bool b.txn) ∧ w'.cell? ⟨bk2, off2 + k * 12 + 4, none⟩ = some (.bool b.ctl) ∧ w'.cell? ⟨bk2, off2 + k * 12 + 5, none⟩ = some (.int .i64 b.last) ∧ w'.cell? ⟨bk2, off2 + k * 12 + 6, none⟩ = some (.int .i64 b.first) ∧ w'.cell? ⟨bk2, off2 + k * 12 + 7, none⟩ = some (.int .i64 b.maxt) ∧ w'.cell? ⟨bk2, off2 + k * 12 + 8, none⟩ = some (.int .i64 b.prod) ∧ w'.cell? ⟨bk2, off2 + k * 12 + 9, none⟩ = some (.int .i64 b.epoch) ∧ w'.cell? ⟨bk2, off2 + k * 12 + 10, none⟩ = some (.int .i64 b.seq) ∧ w'.cell? ⟨bk2, off2 + k * 12 + 11, none⟩ = some (.slice xq2 xl2.length xc2)) (by kernel_rfl) (HKP.out _ hs) (fun hHeld => ?_)
      refine wpAnyH_take (i := 0) (oi := { dst := some 17, op := Op.move (Operand.tmp 0), type := 23, pos := "ref.go:193", after := #[], guard := none }) (v := ?_) rfl (by kernel_rfl) (by kernel_rfl) (by kernel_rfl) (fun _ _ _ h => h) (Or.inl ⟨by rfl, ?_⟩) (by assumption) ?_
      rotate_left
      · intro w hSw; (try dsimp only at hSw); go_simp; try with_reducible rfl
      simp only [Act.put, List.setIfInBounds_toArray, List.set_cons_zero, List.set_cons_succ]
      refine wpAnyH_take (i := 1) (oi := { dst := some 18, op := Op.move (Operand.tmp 5), type := 3, pos := "ref.go:193", after := #[], guard := none }) (v := ?_) rfl (by kernel_rfl) (by kernel_rfl) (by kernel_rfl) (fun _ _ _ h => h) (Or.inl ⟨by rfl, ?_⟩) (by assumption) ?_
      rotate_left
      · intro w hSw; (try dsimp only at hSw); go_simp; try with_reducible rfl
      simp only [Act.put, List.setIfInBounds_toArray, List.set_cons_zero, List.set_cons_succ]
      refine wpAnyH_take (i := 2) (oi := { dst := some 19, op := Op.indexAddr 23 (Operand.tmp 17) (Operand.tmp 18), type := 0, pos := "ref.go:193", after := #[{ on := 0, ground := Ground.data }, { on := 1, ground := Ground.data }], guard := none }) (v := ?_) rfl (by kernel_rfl) (by kernel_rfl) (by kernel_rfl) (fun _ _ _ h => h) (Or.inl ⟨by rfl, ?_⟩) (by assumption) ?_
      rotate_left
      · intro w hSw; (try dsimp only at hSw); go_simp; try with_reducible rfl
      simp only [Act.put, List.setIfInBounds_toArray, List.set_cons_zero, List.set_cons_succ]
      refine wpAnyH_take (i := 3) (oi := { dst := some 20, op := Op.load 37 (Operand.tmp 19), type := 37, pos := "ref.go:193", after := #[{ on := 2, ground := Ground.data }], guard := none }) (v := ?_) rfl (by kernel_rfl) (by kernel_rfl) (by kernel_rfl) (fun _ _ _ h => h) (Or.inl ⟨by rfl, ?_⟩) (by assumption) ?_
      rotate_left
      · intro w hSw; (try dsimp only at hSw); go_simp; try with_reducible rfl
      simp only [Act.put, List.setIfInBounds_toArray, List.set_cons_zero, List.set_cons_succ]
      refine wpAnyH_take (i := 4) (oi := { dst := some 21, op := Op.move (Operand.tmp 1), type := 23, pos := "ref.go:193", after := #[], guard := none }) (v := ?_) rfl (by kernel_rfl) (by kernel_rfl) (by kernel_rfl) (fun _ _ _ h => h) (Or.inl ⟨by rfl, ?_⟩) (by assumption) ?_
      rotate_left
      · intro w hSw; (try dsimp only at hSw); go_simp; try with_reducible rfl
      simp only [Act.put, List.setIfInBounds_toArray, List.set_cons_zero, List.set_cons_succ]
      refine wpAnyH_take (i := 5) (oi := { dst := some 22, op := Op.move (Operand.tmp 5), type := 3, pos := "ref.go:193", after := #[], guard := none }) (v := ?_) rfl (by kernel_rfl) (by kernel_rfl) (by kernel_rfl) (fun _ _ _ h => h) (Or.inl ⟨by rfl, ?_⟩) (by assumption) ?_
      rotate_left
      · intro w hSw; (try dsimp only at hSw); go_simp; try with_reducible rfl
      simp only [Act.put, List.setIfInBounds_toArray, List.set_cons_zero, List.set_cons_succ]
      refine wpAnyH_take (i := 6) (oi := { dst := some 23, op := Op.indexAddr 23 (Operand.tmp 21) (Operand.tmp 22), type := 0, pos := "ref.go:193", after := #[{ on := 4, ground := Ground.data }, { on := 5, ground := Ground.data }], guard := none }) (v := ?_) rfl (by kernel_rfl) (by kernel_rfl) (by kernel_rfl) (fun _ _ _ h => h) (Or.inl ⟨by rfl, ?_⟩) (by assumption) ?_
      rotate_left
      · intro w hSw; (try dsimp only at hSw); go_simp; try with_reducible rfl
      simp only [Act.put, List.setIfInBounds_toArray, List.set_cons_zero, List.set_cons_succ]
      refine wpAnyH_take (i := 7) (oi := { dst := some 24, op := Op.load 37 (Operand.tmp 23), type := 37, pos := "ref.go:193", after := #[{ on := 6, ground := Ground.data }], guard := none }) (v := ?_) rfl (by kernel_rfl) (by kernel_rfl) (by kernel_rfl) (fun _ _ _ h => h) (Or.inl ⟨by rfl, ?_⟩) (by assumption) ?_
      rotate_left
      · intro w hSw; (try dsimp only at hSw); go_simp; try with_reducible rfl
      simp only [Act.put, List.setIfInBounds_toArray, List.set_cons_zero, List.set_cons_succ]
      refine wpAnyH_ready (rs := [8]) (by kernel_rfl) (by simp) (AllReadyH.cons (o := { dst := some 25, op := Op.call { callee := Callee.value (Operand.func 21), args := #[Operand.tmp 20, Operand.tmp 24], argTypes := #[37, 37] }, type := 4, pos := "ref.go:193", after := #[{ on := 3, ground := Ground.data }, { on := 7, ground := Ground.data }], guard := none }) rfl (fun KK hK => ?_) AllReadyH.nil)
      · go_simp
        go_at_call 21
        with_reducible refine (ref11_sameT b xl1 xl2 xq1 xq2 xc1 xc2 HN1.out HX1.out HX2.out HD1.out HD2.out HKA.out HKB.out hs).mono ?_
        rintro e wq ⟨rfl, hs⟩
        refine hK.out _ _ (HKP.out _ hs) (fun hHeld => ?_)
        clear hK KK
        try simp only [Act.put, List.setIfInBounds_toArray, List.set_cons_zero, List.set_cons_succ]
        refine wpAnyH_take (i := 9) (oi := { dst := some 26, op := Op.unOp UnOp.not 4 (Operand.tmp 25), type := 4, pos := "ref.go:193", after := #[{ on := 8, ground := Ground.data }], guard := none }) (v := ?_) rfl (by kernel_rfl) (by kernel_rfl) (by kernel_rfl) (fun _ _ _ h => h) (Or.inl ⟨by rfl, ?_⟩) (by assumption) ?_
        rotate_left
        · intro w hSw; (try dsimp only at hSw); go_simp; try with_reducible rfl
        simp only [Act.put, List.setIfInBounds_toArray, List.set_cons_zero, List.set_cons_succ]
        refine wpAnyH_done (by kernel_rfl) ?_ _
        clear hHeld
        go_wp2_with fail
        go_roundw
        case rel => exact ⟨k + 1, hlt, by go_num, hs⟩
        case measure => first | (simp [intOf]; done) | (simp [intOf]; omega)
    · obtain rfl : k = l1.length := by omega
      go_wp2
      go_ret
      exact ⟨rfl, H.out⟩

end Go.Proofs.Ytngojlinfdokpaa

/- Scan, of one text, of two; parts of known batches. -/
namespace Go.Proofs.Ytngojlinfdokpaa
open Go.RowKit

theorem scan_any (l : List Bs) (A : Bs) (hA : l.flatten = A) (bs : List BatS) (pv : Nat) (rest : Bs) (pe ps : Int) (hf : finS A = (bs, pv, rest, pe)) (hps : stopS rest pe = ps) (hl : A.length ≤ 50000) (q : Option Addr) (cap : Nat) (hll : l.length ≤ 1000000) {W0 w : World} {K : Know} {L : List Res} (hk : K.has (Know.strs (.slice q l.length cap) l)) (h : St W0 w K L) :
    Calls Try.prog 7 #[.slice q l.length cap] w fun en w' => ∃ (q : Option Addr) (cap : Nat) (lr : List BatR), en = .returned (.tuple #[.slice q lr.length cap, .agg #[.int .i64 (pv : Nat), .int .i64 ps, .int .i64 pe]]) ∧ lr.map BatR.b = bs ∧ (∀ x ∈ lr, LiteR x) ∧ 61 * lr.length ≤ A.length ∧ (((q = none ∧ cap = 0) ∨ ∃ g, q = some ⟨g, 0, none⟩) ∧ lr.length ≤ cap) ∧ St W0 w' (K.and (Know.bats (.slice q lr.length cap) lr)) L := by
  refine (scan_scan l A hA hl q cap hll hk h).mono ?_
  rintro en wn ⟨q2, cap2, lr, rfl, h1, h2, h3, h4, h5⟩
  rw [hf] at h1
  refine ⟨q2, cap2, lr, ?_, h1, h2, h3, h4, h5⟩
  rw [hf, ← hps]
theorem scan_one (A : Bs) (bs : List BatS) (pv : Nat) (rest : Bs) (pe ps : Int) (hf : finS A = (bs, pv, rest, pe)) (hps : stopS rest pe = ps) (hl : A.length ≤ 50000) (r : Nat) {W0 w : World} {K : Know} {L : List Res} (h : St W0 w K (.raw r #[.string (bb A)] 9 :: L)) :
    Calls Try.prog 7 #[.slice (some ⟨r, 0, none⟩) 1 1] w fun en w' => ∃ (q : Option Addr) (cap : Nat) (lr : List BatR), en = .returned (.tuple #[.slice q lr.length cap, .agg #[.int .i64 (pv : Nat), .int .i64 ps, .int .i64 pe]]) ∧ lr.map BatR.b = bs ∧ (∀ x ∈ lr, LiteR x) ∧ 61 * lr.length ≤ A.length ∧ (((q = none ∧ cap = 0) ∨ ∃ g, q = some ⟨g, 0, none⟩) ∧ lr.length ≤ cap) ∧ St W0 w' (K.and (Know.bats (.slice q lr.length cap) lr)) L := by
  refine (scan_any [A] A (by simp) bs pv rest pe ps hf hps hl (some ⟨r, 0, none⟩) 1 (by show 1 ≤ 1000000; decide) (Know.has_right (Know.has_refl _)) h.freezeStr).mono ?_
  rintro en wn ⟨q2, cap2, lr, h0, h1, h2, h3, h4, h5⟩
  exact ⟨q2, cap2, lr, h0, h1, h2, h3, h4, h5.know (Know.has_and (Know.has_left (Know.has_left (Know.has_refl _))) (Know.has_right (Know.has_refl _)))⟩
theorem scan_two (s t A : Bs) (hA : s ++ t = A) (bs : List BatS) (pv : Nat) (rest : Bs) (pe ps : Int) (hf : finS A = (bs, pv, rest, pe)) (hps : stopS rest pe = ps) (hl : A.length ≤ 50000) (r : Nat) {W0 w : World} {K : Know} {L : List Res} (h : St W0 w K (.raw r #[.string (bb s), .string (bb t)] 9 :: L)) :
    Calls Try.prog 7 #[.slice (some ⟨r, 0, none⟩) 2 2] w fun en w' => ∃ (q : Option Addr) (cap : Nat) (lr : List BatR), en = .returned (.tuple #[.slice q lr.length cap, .agg #[.int .i64 (pv : Nat), .int .i64 ps, .int .i64 pe]]) ∧ lr.map BatR.b = bs ∧ (∀ x ∈ lr, LiteR x) ∧ 61 * lr.length ≤ A.length ∧ (((q = none ∧ cap = 0) ∨ ∃ g, q = some ⟨g, 0, none⟩) ∧ lr.length ≤ cap) ∧ St W0 w' (K.and (Know.bats (.slice q lr.length cap) lr)) L := by
  refine (scan_any [s, t] A (by simpa using hA) bs pv rest pe ps hf hps hl (some ⟨r, 0, none⟩) 2 (by show 2 ≤ 1000000; decide) (Know.has_right (Know.has_refl _)) (St.freezeStrs [s, t] h)).mono ?_
  rintro en wn ⟨q2, cap2, lr, h0, h1, h2, h3, h4, h5⟩
  exact ⟨q2, cap2, lr, h0, h1, h2, h3, h4, h5.know (Know.has_and (Know.has_left (Know.has_left (Know.has_refl _))) (Know.has_right (Know.has_refl _)))⟩
/-- Some of the first of known batches. -/
theorem bats_take {K : Know} {q : Option Addr} {n cap : Nat} {l : List BatR} (m : Nat) (hm : m ≤ l.length) (h : K.has (Know.bats (.slice q n cap) l)) : K.has (Know.bats (.slice q m cap) (l.take m)) := by
  intro w F hF
  obtain ⟨⟨q2, cap2, hv, hr⟩, ht⟩ := h w F hF
  simp at hv
  obtain ⟨rfl, _, rfl⟩ := hv
  have hl : (l.take m).length = m := by rw [List.length_take]; omega
  refine ⟨⟨q, cap, by rw [hl], fun h0 => ?_⟩, fun x hx => ht x (List.mem_of_mem_take hx)⟩
  obtain ⟨b, off, hq, hb, hs, hc⟩ := hr (by omega)
  refine ⟨b, off, hq, hb, hs, fun i hi => ?_⟩
  obtain ⟨cs, a1, a2, a3⟩ := hc i (by omega)
  exact ⟨cs, a1, by rw [List.getElem_take]; exact a2, a3⟩
/-- The other ones. -/
theorem bats_drop {K : Know} {b off n cap cap2 : Nat} {l : List BatR} (m : Nat) (h : K.has (Know.bats (.slice (some ⟨b, off, none⟩) n cap) l)) : K.has (Know.bats (.slice (some ⟨b, off + m * 12, none⟩) (l.drop m).length cap2) (l.drop m)) := by
  intro w F hF
  obtain ⟨⟨q2, c2, hv, hr⟩, ht⟩ := h w F hF
  simp at hv
  obtain ⟨rfl, _, rfl⟩ := hv
  refine ⟨⟨_, cap2, rfl, fun h0 => ?_⟩, fun x hx => ht x (List.mem_of_mem_drop hx)⟩
  rw [List.length_drop] at h0
  obtain ⟨b2, off2, hq, hb, hs, hc⟩ := hr (by omega)
  simp at hq
  obtain ⟨rfl, rfl⟩ := hq
  refine ⟨b, off + m * 12, rfl, hb, hs, fun i hi => ?_⟩
  rw [List.length_drop] at hi
  obtain ⟨cs, a1, a2, a3⟩ := hc (m + i) (by omega)
  refine ⟨cs, a1, by rw [List.getElem_drop]; exact a2, fun f u hu => ?_⟩
  have := a3 f u hu
  rw [show off + m * 12 + (i * 12 + f) = off + ((m + i) * 12 + f) by rw [Nat.add_mul]; omega]
  exact this
theorem ref11_rowsN (l1 l2 : List BatR) (n1 n2 : Nat) (h1 : l1.length = n1) (h2 : l2.length = n2) (q1 q2 : Option Addr) (cap1 cap2 : Nat) (hx : l1.map BatR.b = l2.map BatR.b) (hf1 : ∀ x ∈ l1, LiteR x) (hf2 : ∀ x ∈ l2, LiteR x) (hn : n1 ≤ 100000) {W0 w : World} {K : Know} {L : List Res} (hk1 : K.has (Know.bats (.slice q1 n1 cap1) l1)) (hk2 : K.has (Know.bats (.slice q2 n2 cap2) l2)) (h : St W0 w K L) :
    Calls Try.prog 9 #[.slice q1 n1 cap1, .slice q2 n2 cap2] w fun en w' => en = .returned (.bool true) ∧ St W0 w' K L := by
  subst h1 h2
  exact ref11_rowsT l1 l2 q1 q2 cap1 cap2 hx hf1 hf2 hn hk1 hk2 h
theorem bats_empty (K : Know) (q : Option Addr) (cap : Nat) : K.has (Know.bats (.slice q 0 cap) []) := bats_know (fun _ _ _ => ⟨q, cap, rfl, fun h => absurd h (by simp)⟩) (fun x hx => by cases hx)
theorem rows_zero (q1 q2 : Option Addr) (cap1 cap2 : Nat) {W0 w : World} {K : Know} {L : List Res} (h : St W0 w K L) :
    Calls Try.prog 9 #[.slice q1 0 cap1, .slice q2 0 cap2] w fun en w' => en = .returned (.bool true) ∧ St W0 w' K L :=
  ref11_rowsN [] [] 0 0 rfl rfl q1 q2 cap1 cap2 rfl (fun x hx => by cases hx) (fun x hx => by cases hx) (by decide) (bats_empty _ _ _) (bats_empty _ _ _) h
theorem bats_drop0 {K : Know} {b n cap cap2 k : Nat} {l : List BatR} (m : Nat) (hk : k = l.length - m) (h : K.has (Know.bats (.slice (some ⟨b, 0, none⟩) n cap) l)) : K.has (Know.bats (.slice (some ⟨b, m * 12, none⟩) k cap2) (l.drop m)) := by
  have h2 := bats_drop (cap2 := cap2) m h
  rw [Nat.zero_add, List.length_drop, ← hk] at h2
  exact h2
/-- Batches of bytes, and of these with more behind them. -/
theorem fin_clean (R c : Bs) (h0 : (finS R).2.2.2 = 0) (hr : (finS R).2.2.1 = []) : (finS (R ++ c)).1 = (finS R).1 ++ (finS c).1 ∧ (finS (R ++ c)).2.1 = (finS R).2.1 + (finS c).2.1 ∧ (finS (R ++ c)).2.2 = (finS c).2.2 := by
  rw [fin_good R c h0, hr, List.nil_append]
  exact ⟨rfl, rfl, rfl⟩
theorem fin_more (R c : Bs) (h0 : (finS R).2.2.2 = 0) : ∃ m, (finS (R ++ c)).1 = (finS R).1 ++ m ∧ (finS R).2.1 ≤ (finS (R ++ c)).2.1 := by
  rw [fin_good R c h0]
  exact ⟨_, rfl, Nat.le_add_right _ _⟩

end Go.Proofs.Ytngojlinfdokpaa

/- A batch of nobody. -/
namespace Go.Proofs.Ytngojlinfdokpaa
open Go.RowKit

set_option maxHeartbeats 4000000 in
set_option maxRecDepth 100000 in
theorem top_none {W0 w : World} {K : Know} {L : List Res} (h : St W0 w K L) :
    Calls Try.prog 10 #[] w fun en w' => ∃ s : Bs, en = .returned (.tuple #[.agg #[.int .i64 0, .int .i64 0, .bool false, .bool false, .bool false, .int .i64 0, .int .i64 0, .int .i64 0, .int .i64 (-1), .int .i64 (-1), .int .i64 (-1), .slice none 0 0], .string (bb s), .bool true]) ∧ St W0 w' K L := by
  obtain ⟨s, hs⟩ : ∃ s, noneB.enc = s := ⟨_, rfl⟩
  have HS := Lib.hid hs
  have hsl : s.length = 61 := by rw [← hs]; exact len_none
  have hl61 : ((s.length : Int) == 61) = true := by rw [hsl]; rfl
  obtain ⟨rb, hrb⟩ : ∃ b, w.heap.size = b := ⟨_, rfl⟩
  obtain ⟨nb, hnb⟩ : ∃ b, rb + 1 = b := ⟨_, rfl⟩
  have h1 := (h.allocRaw #[.int .i64 0, .int .i64 0, .bool false, .bool false, .bool false, .int .i64 0, .int .i64 0, .int .i64 0, .int .i64 0, .int .i64 0, .int .i64 0, .slice none 0 0] 37).allocRaw #[.int .i64 0, .int .i64 0, .bool false, .bool false, .bool false, .int .i64 0, .int .i64 0, .int .i64 0, .int .i64 (-1), .int .i64 (-1), .int .i64 (-1), .slice none 0 0] 37
  simp only [World.size_alloc, hrb, hnb] at h1
  obtain ⟨x0, x1, x2, x3, x4, x5, x6, x7, x8, x9, x10, x11, y0, y1, y2, y3, y4, y5, y6, y7, y8, y9, y10, y11⟩ := raw12 (b := nb) (h1)
  obtain ⟨z0, z1, z2, z3, z4, z5, z6, z7, z8, z9, z10, z11, v0, v1, v2, v3, v4, v5, v6, v7, v8, v9, v10, v11⟩ := raw12 (b := rb) (h1.p1)
  have H := Lib.hid h1
  clear h h1 hs hsl
  go_enter Try.func10, Try.ntmps10
  go_wp2_with (go_at_call 15; clear x0 y0 z0 v0 x1 y1 z1 v1 x2 y2 z2 v2 x3 y3 z3 v3 x4 y4 z4 v4 x5 y5 z5 v5 x6 y6 z6 v6 x7 y7 z7 v7 x8 y8 z8 v8 x9 y9 z9 v9 x10 y10 z10 v10 x11 y11 z11 v11; (with_reducible refine (encode_none s HS.out H.out).mono ?_); rintro e_ wn ⟨rfl, h⟩; obtain ⟨x0, x1, x2, x3, x4, x5, x6, x7, x8, x9, x10, x11, y0, y1, y2, y3, y4, y5, y6, y7, y8, y9, y10, y11⟩ := raw12 (b := nb) (h); obtain ⟨z0, z1, z2, z3, z4, z5, z6, z7, z8, z9, z10, z11, v0, v1, v2, v3, v4, v5, v6, v7, v8, v9, v10, v11⟩ := raw12 (b := rb) (h.p1); replace H := Lib.hid h; clear h)
  have hz : St W0 _ K (.raw rb #[.int .i64 0, .int .i64 0, .bool false, .bool false, .bool false, .int .i64 0, .int .i64 0, .int .i64 0, .int .i64 (-1), .int .i64 (-1), .int .i64 (-1), .slice none 0 0] 37 :: _) := St.sets12 _ _ _ _ _ _ _ _ _ _ _ _ (H.out.p1)
  refine bodyPost_ret (results_cell_tmp2 rfl _ _ rb [.int .i64 0, .int .i64 0, .bool false, .bool false, .bool false, .int .i64 0, .int .i64 0, .int .i64 0, .int .i64 (-1), .int .i64 (-1), .int .i64 (-1), .slice none 0 0] _ rfl (rc_range hz) Try.underlying37 rfl (by kernel_rfl)) rfl ?_
  exact ⟨s, rfl, hz.drop.drop⟩

end Go.Proofs.Ytngojlinfdokpaa

/- WholeChunks: too long. -/
namespace Go.Proofs.Ytngojlinfdokpaa
open Go.RowKit

set_option maxHeartbeats 8000000 in
set_option maxRecDepth 100000 in
theorem wc_l1 (s more : Bs) (ns : List Int) (hns : ∀ x ∈ ns, 0 ≤ x ∧ x < 256) (q : Option Addr) (cap : Nat) (hl : 1500 < s.length) {W0 w : World} {K : Know} (hk : K.has (Know.flat RU8 (.slice q ns.length cap) 1 ns)) (h : St W0 w K []) :
    Calls Try.prog 5 #[.string (bb s), .string (bb more), .slice q ns.length cap] w fun en w' => en = .returned (.bool true) ∧ Below W0.heap.size W0 w' := by
  have H := Lib.hid h
  have HK := Lib.hid hk
  have HNS := Lib.hid hns
  have c1 : 1500 < (s.length : Int) := by omega
  clear h hk hns hl
  go_enter Try.func5, Try.ntmps5
  go_wp2_with (go_at_call 10; (with_reducible refine (top_none H.out).mono ?_); rintro e_ wn ⟨sN, rfl, h⟩; have h := h.alloc (.cells #[.int .i64 0, .int .i64 0, .bool false, .bool false, .bool false, .int .i64 0, .int .i64 0, .int .i64 0, .int .i64 (-1), .int .i64 (-1), .int .i64 (-1), .slice none 0 0] 37 (0, 0)); replace H := Lib.hid h; clear h)
  go_ret
  exact ⟨rfl, H.out.below⟩

set_option maxHeartbeats 8000000 in
set_option maxRecDepth 100000 in
theorem wc_l2 (s more : Bs) (ns : List Int) (hns : ∀ x ∈ ns, 0 ≤ x ∧ x < 256) (q : Option Addr) (cap : Nat) (hl1 : ¬ 1500 < s.length) (hl : 1500 < more.length) {W0 w : World} {K : Know} (hk : K.has (Know.flat RU8 (.slice q ns.length cap) 1 ns)) (h : St W0 w K []) :
    Calls Try.prog 5 #[.string (bb s), .string (bb more), .slice q ns.length cap] w fun en w' => en = .returned (.bool true) ∧ Below W0.heap.size W0 w' := by
  have H := Lib.hid h
  have HK := Lib.hid hk
  have HNS := Lib.hid hns
  have c1 : ¬ 1500 < (s.length : Int) := by omega
  have c2 : 1500 < (more.length : Int) := by omega
  clear h hk hns hl
  go_enter Try.func5, Try.ntmps5
  go_wp2_with (go_at_call 10; (with_reducible refine (top_none H.out).mono ?_); rintro e_ wn ⟨sN, rfl, h⟩; have h := h.alloc (.cells #[.int .i64 0, .int .i64 0, .bool false, .bool false, .bool false, .int .i64 0, .int .i64 0, .int .i64 0, .int .i64 (-1), .int .i64 (-1), .int .i64 (-1), .slice none 0 0] 37 (0, 0)); replace H := Lib.hid h; clear h)
  go_ret
  exact ⟨rfl, H.out.below⟩

set_option maxHeartbeats 8000000 in
set_option maxRecDepth 100000 in
theorem wc_l3 (s more : Bs) (ns : List Int) (hns : ∀ x ∈ ns, 0 ≤ x ∧ x < 256) (q : Option Addr) (cap : Nat) (hl1 : ¬ 1500 < s.length) (hl2 : ¬ 1500 < more.length) (hl : 200 < ns.length) {W0 w : World} {K : Know} (hk : K.has (Know.flat RU8 (.slice q ns.length cap) 1 ns)) (h : St W0 w K []) :
    Calls Try.prog 5 #[.string (bb s), .string (bb more), .slice q ns.length cap] w fun en w' => en = .returned (.bool true) ∧ Below W0.heap.size W0 w' := by
  have H := Lib.hid h
  have HK := Lib.hid hk
  have HNS := Lib.hid hns
  have c1 : ¬ 1500 < (s.length : Int) := by omega
  have c2 : ¬ 1500 < (more.length : Int) := by omega
  have c3 : 200 < (ns.length : Int) := by omega
  clear h hk hns hl
  go_enter Try.func5, Try.ntmps5
  go_wp2_with (go_at_call 10; (with_reducible refine (top_none H.out).mono ?_); rintro e_ wn ⟨sN, rfl, h⟩; have h := h.alloc (.cells #[.int .i64 0, .int .i64 0, .bool false, .bool false, .bool false, .int .i64 0, .int .i64 0, .int .i64 0, .int .i64 (-1), .int .i64 (-1), .int .i64 (-1), .slice none 0 0] 37 (0, 0)); replace H := Lib.hid h; clear h)
  go_ret
  exact ⟨rfl, H.out.below⟩

end Go.Proofs.Ytngojlinfdokpaa

/- WholeChunks: bytes that are none. -/
namespace Go.Proofs.Ytngojlinfdokpaa
open Go.RowKit

set_option maxHeartbeats 8000000 in
set_option maxRecDepth 100000 in
theorem wc_bad (s more : Bs) (ns : List Int) (hns : ∀ x ∈ ns, 0 ≤ x ∧ x < 256) (q : Option Addr) (cap : Nat) (h1 : ¬ 1500 < s.length) (h2 : ¬ 1500 < more.length) (h3 : ¬ 200 < ns.length) (bs : List BatS) (pv : Nat) (rest : Bs) (pe : Int) (hfe : finS s = (bs, pv, rest, pe)) (hps : stopS rest pe = 2) (h0 : pe ≠ 0) {W0 w : World} {K : Know} (hk : K.has (Know.flat RU8 (.slice q ns.length cap) 1 ns)) (h : St W0 w K []) :
    Calls Try.prog 5 #[.string (bb s), .string (bb more), .slice q ns.length cap] w fun en w' => en = .returned (.bool true) ∧ Below W0.heap.size W0 w' := by
  have H := Lib.hid h
  have HK := Lib.hid hk
  have HNS := Lib.hid hns
  have c1 : ¬ 1500 < (s.length : Int) := by omega
  have c2 : ¬ 1500 < (more.length : Int) := by omega
  have c3 : ¬ 200 < (ns.length : Int) := by omega
  have HSL := Lib.hid (show s.length ≤ 50000 by omega)
  have HML := Lib.hid (show more.length ≤ 50000 by omega)
  have HNL := Lib.hid (show ns.length ≤ 1000 by omega)
  have HCL := Lib.hid (show (cutS s ns).length ≤ 1000000 by rw [cutS_len]; omega)
  obtain ⟨sm, hsm⟩ : ∃ x, s ++ more = x := ⟨_, rfl⟩
  have HSM := Lib.hid hsm
  have HSM2 := Lib.hid (show sm.length ≤ 50000 by rw [← hsm, List.length_append]; omega)
  have HFE := Lib.hid hfe
  have HPS := Lib.hid hps
  have g1 : ((pv : Int) == (pv : Int)) = true := beq_self_eq_true _
  have HFR := Lib.hid (show finS sm = (bs, pv, rest, pe) by rw [← hsm, fin_bad s more (by rw [hfe]; exact h0), hfe])
  have HRS := Lib.hid hps
  have g2 : (pe == pe) = true := beq_self_eq_true _
  clear h hk hns h1 h2 h3 hfe hps hsm h0
  go_enter Try.func5, Try.ntmps5
  go_wp2_with (first
    | (go_at_call 10; (with_reducible refine (top_none H.out).mono ?_); rintro e_ wn ⟨sN, rfl, h⟩; have h := h.alloc (.cells #[.int .i64 0, .int .i64 0, .bool false, .bool false, .bool false, .int .i64 0, .int .i64 0, .int .i64 0, .int .i64 (-1), .int .i64 (-1), .int .i64 (-1), .slice none 0 0] 37 (0, 0)); replace H := Lib.hid h; clear h)
    | (go_at_call 7; have h9 := H.out.allocRaw #[.string (bb s)] 9; simp only [World.size_alloc] at h9; (with_reducible refine (scan_one s bs pv rest pe 2 HFE.out HPS.out HSL.out _ h9).mono ?_); rintro e_ wn ⟨qa, capa, la, rfl, hma, hla, hca, hqa, h⟩; clear h9; have HMa := Lib.hid hma; have HLa := Lib.hid hla; have HCa := Lib.hid hca; have HQa := Lib.hid hqa; clear hma hla hca hqa; obtain ⟨px, hpx⟩ : ∃ b, wn.heap.size = b := ⟨_, rfl⟩; have h := h.allocRaw #[.int .i64 pv, .int .i64 2, .int .i64 pe] 26; rw [hpx] at h; have px0 := h.rawCell 0; have px1 := h.rawCell 1; have px2 := h.rawCell 2; simp at px0 px1 px2; replace H := Lib.hid h; clear h)
    | (go_at_call 13; (with_reducible refine (law22_cut s ns HSL.out HNS.out HNL.out q cap (Know.has_left HK.out) H.out).mono ?_); rintro e_ wn ⟨q2c, cap2c, rfl, h⟩; have px0 := h.rawCell 0; have px1 := h.rawCell 1; have px2 := h.rawCell 2; simp at px0 px1 px2; replace H := Lib.hid h; clear h)
    | (go_at_call 7; (with_reducible refine (scan_any (cutS s ns) s (cutS_flat ns s) bs pv rest pe 2 HFE.out HPS.out HSL.out q2c cap2c HCL.out (Know.has_right (Know.has_refl _)) H.out).mono ?_); rintro e_ wn ⟨qb, capb, lb, rfl, hmb, hlb, hcb, hqb, h⟩; have HMb := Lib.hid hmb; have HLb := Lib.hid hlb; have HCb := Lib.hid hcb; have HQb := Lib.hid hqb; clear hmb hlb hcb hqb; have h := h.know (Know.has_and (Know.has_left (Know.has_left (Know.has_refl _))) (Know.has_right (Know.has_refl _))); obtain ⟨qx, hqx⟩ : ∃ b, wn.heap.size = b := ⟨_, rfl⟩; have h := h.allocRaw #[.int .i64 pv, .int .i64 2, .int .i64 pe] 26; rw [hqx] at h; have qx0 := h.rawCell 0; have qx1 := h.rawCell 1; have qx2 := h.rawCell 2; have px0 := h.p1.rawCell 0; have px1 := h.p1.rawCell 1; have px2 := h.p1.rawCell 2; simp at qx0 qx1 qx2 px0 px1 px2; replace H := Lib.hid h; clear h)
    | (go_at_call 7; (with_reducible refine (scan_two s more sm HSM.out (bs) pv rest pe 2 HFR.out HRS.out HSM2.out _ (H.out.allocRaw _ _)).mono ?_); rintro e_ wn ⟨qc, capc, lc, rfl, hmc, hlc, hcc, hqc, h⟩; have HMc := Lib.hid hmc; have HLc := Lib.hid hlc; have HCc := Lib.hid hcc; have HQc := Lib.hid hqc; clear hmc hlc hcc hqc; obtain ⟨rx, hrx⟩ : ∃ b, wn.heap.size = b := ⟨_, rfl⟩; have h := h.allocRaw #[.int .i64 pv, .int .i64 2, .int .i64 pe] 26; rw [hrx] at h; have rx0 := h.rawCell 0; have rx1 := h.rawCell 1; have rx2 := h.rawCell 2; have qx0 := h.p1.rawCell 0; have qx1 := h.p1.rawCell 1; have qx2 := h.p1.rawCell 2; have px0 := h.p2.rawCell 0; have px1 := h.p2.rawCell 1; have px2 := h.p2.rawCell 2; simp at rx0 rx1 rx2 qx0 qx1 qx2 px0 px1 px2; replace H := Lib.hid h; clear h)
    | (go_at_call 9; (with_reducible refine (ref11_rowsT la lb qa qb capa capb (HMa.out.trans HMb.out.symm) HLa.out HLb.out (by have := HCa.out; have := HSL.out; omega) (Know.has_left (Know.has_right (Know.has_refl _))) (Know.has_right (Know.has_refl _)) H.out).mono ?_); rintro e_ wn ⟨rfl, h⟩; have qx0 := h.rawCell 0; have qx1 := h.rawCell 1; have qx2 := h.rawCell 2; have px0 := h.p1.rawCell 0; have px1 := h.p1.rawCell 1; have px2 := h.p1.rawCell 2; simp at qx0 qx1 qx2 px0 px1 px2; replace H := Lib.hid h; clear h)
    | (go_at_call 9; (with_reducible refine (ref11_rowsT la lc qa qc capa capc (HMa.out.trans HMc.out.symm) HLa.out HLc.out (by have := HCa.out; have := HSL.out; omega) (Know.has_left (Know.has_left (Know.has_right (Know.has_refl _)))) (Know.has_right (Know.has_refl _)) H.out).mono ?_); rintro e_ wn ⟨rfl, h⟩; have rx0 := h.rawCell 0; have rx1 := h.rawCell 1; have rx2 := h.rawCell 2; have qx0 := h.p1.rawCell 0; have qx1 := h.p1.rawCell 1; have qx2 := h.p1.rawCell 2; have px0 := h.p2.rawCell 0; have px1 := h.p2.rawCell 1; have px2 := h.p2.rawCell 2; simp at rx0 rx1 rx2 qx0 qx1 qx2 px0 px1 px2; replace H := Lib.hid h; clear h))
  go_ret
  exact ⟨rfl, H.out.below⟩

end Go.Proofs.Ytngojlinfdokpaa

/- WholeChunks: torn bytes. -/
namespace Go.Proofs.Ytngojlinfdokpaa
open Go.RowKit

set_option maxHeartbeats 8000000 in
set_option maxRecDepth 100000 in
theorem wc_torn (s more : Bs) (ns : List Int) (hns : ∀ x ∈ ns, 0 ≤ x ∧ x < 256) (q : Option Addr) (cap : Nat) (h1 : ¬ 1500 < s.length) (h2 : ¬ 1500 < more.length) (h3 : ¬ 200 < ns.length) (bs : List BatS) (pv : Nat) (rest : Bs) (hfe : finS s = (bs, pv, rest, 0)) (hps : stopS rest 0 = 1) (m : List BatS) (rv : Nat) (rest2 : Bs) (re rs : Int) (hfr : finS (s ++ more) = (bs ++ m, rv, rest2, re)) (hrs : stopS rest2 re = rs) (hpr : pv ≤ rv) {W0 w : World} {K : Know} (hk : K.has (Know.flat RU8 (.slice q ns.length cap) 1 ns)) (h : St W0 w K []) :
    Calls Try.prog 5 #[.string (bb s), .string (bb more), .slice q ns.length cap] w fun en w' => en = .returned (.bool true) ∧ Below W0.heap.size W0 w' := by
  have H := Lib.hid h
  have HK := Lib.hid hk
  have HNS := Lib.hid hns
  have c1 : ¬ 1500 < (s.length : Int) := by omega
  have c2 : ¬ 1500 < (more.length : Int) := by omega
  have c3 : ¬ 200 < (ns.length : Int) := by omega
  have HSL := Lib.hid (show s.length ≤ 50000 by omega)
  have HML := Lib.hid (show more.length ≤ 50000 by omega)
  have HNL := Lib.hid (show ns.length ≤ 1000 by omega)
  have HCL := Lib.hid (show (cutS s ns).length ≤ 1000000 by rw [cutS_len]; omega)
  obtain ⟨sm, hsm⟩ : ∃ x, s ++ more = x := ⟨_, rfl⟩
  have HSM := Lib.hid hsm
  have HSM2 := Lib.hid (show sm.length ≤ 50000 by rw [← hsm, List.length_append]; omega)
  have HFE := Lib.hid hfe
  have HPS := Lib.hid hps
  have g1 : ((pv : Int) == (pv : Int)) = true := beq_self_eq_true _
  have HFR := Lib.hid (show finS sm = (bs ++ m, rv, rest2, re) by rw [← hsm, hfr])
  have HRS := Lib.hid hrs
  have hpri : (pv : Int) ≤ (rv : Int) := by omega
  clear h hk hns h1 h2 h3 hfe hps hsm hfr hrs hpr
  go_enter Try.func5, Try.ntmps5
  go_wp2_with (first
    | (go_at_call 10; (with_reducible refine (top_none H.out).mono ?_); rintro e_ wn ⟨sN, rfl, h⟩; have h := h.alloc (.cells #[.int .i64 0, .int .i64 0, .bool false, .bool false, .bool false, .int .i64 0, .int .i64 0, .int .i64 0, .int .i64 (-1), .int .i64 (-1), .int .i64 (-1), .slice none 0 0] 37 (0, 0)); replace H := Lib.hid h; clear h)
    | (go_at_call 7; have h9 := H.out.allocRaw #[.string (bb s)] 9; simp only [World.size_alloc] at h9; (with_reducible refine (scan_one s bs pv rest 0 1 HFE.out HPS.out HSL.out _ h9).mono ?_); rintro e_ wn ⟨qa, capa, la, rfl, hma, hla, hca, hqa, h⟩; clear h9; have HMa := Lib.hid hma; have HLa := Lib.hid hla; have HCa := Lib.hid hca; have HQa := Lib.hid hqa; clear hma hla hca hqa; obtain ⟨px, hpx⟩ : ∃ b, wn.heap.size = b := ⟨_, rfl⟩; have h := h.allocRaw #[.int .i64 pv, .int .i64 1, .int .i64 0] 26; rw [hpx] at h; have px0 := h.rawCell 0; have px1 := h.rawCell 1; have px2 := h.rawCell 2; simp at px0 px1 px2; replace H := Lib.hid h; clear h)
    | (go_at_call 13; (with_reducible refine (law22_cut s ns HSL.out HNS.out HNL.out q cap (Know.has_left HK.out) H.out).mono ?_); rintro e_ wn ⟨q2c, cap2c, rfl, h⟩; have px0 := h.rawCell 0; have px1 := h.rawCell 1; have px2 := h.rawCell 2; simp at px0 px1 px2; replace H := Lib.hid h; clear h)
    | (go_at_call 7; (with_reducible refine (scan_any (cutS s ns) s (cutS_flat ns s) bs pv rest 0 1 HFE.out HPS.out HSL.out q2c cap2c HCL.out (Know.has_right (Know.has_refl _)) H.out).mono ?_); rintro e_ wn ⟨qb, capb, lb, rfl, hmb, hlb, hcb, hqb, h⟩; have HMb := Lib.hid hmb; have HLb := Lib.hid hlb; have HCb := Lib.hid hcb; have HQb := Lib.hid hqb; clear hmb hlb hcb hqb; have h := h.know (Know.has_and (Know.has_left (Know.has_left (Know.has_refl _))) (Know.has_right (Know.has_refl _))); obtain ⟨qx, hqx⟩ : ∃ b, wn.heap.size = b := ⟨_, rfl⟩; have h := h.allocRaw #[.int .i64 pv, .int .i64 1, .int .i64 0] 26; rw [hqx] at h; have qx0 := h.rawCell 0; have qx1 := h.rawCell 1; have qx2 := h.rawCell 2; have px0 := h.p1.rawCell 0; have px1 := h.p1.rawCell 1; have px2 := h.p1.rawCell 2; simp at qx0 qx1 qx2 px0 px1 px2; replace H := Lib.hid h; clear h)
    | (go_at_call 7; (with_reducible refine (scan_two s more sm HSM.out (bs ++ m) rv rest2 re rs HFR.out HRS.out HSM2.out _ (H.out.allocRaw _ _)).mono ?_); rintro e_ wn ⟨qc, capc, lc, rfl, hmc, hlc, hcc, hqc, h⟩; have HMc := Lib.hid hmc; have HLc := Lib.hid hlc; have HCc := Lib.hid hcc; have HQc := Lib.hid hqc; clear hmc hlc hcc hqc; have h71 := congrArg List.length HMa.out; have h72 := congrArg List.length HMc.out; rw [List.length_map] at h71 h72; rw [List.length_append] at h72; have hlen : (la.length : Int) ≤ (lc.length : Int) := (by omega); have hlcc : (lc.length : Int) ≤ (capc : Int) := (by have := HQc.out.2; omega); have hlac : (la.length : Int) ≤ (capc : Int) := (by omega); have HTL := Lib.hid (show la.length ≤ lc.length by omega); clear h71 h72; obtain ⟨rx, hrx⟩ : ∃ b, wn.heap.size = b := ⟨_, rfl⟩; have h := h.allocRaw #[.int .i64 rv, .int .i64 rs, .int .i64 re] 26; rw [hrx] at h; have rx0 := h.rawCell 0; have rx1 := h.rawCell 1; have rx2 := h.rawCell 2; have qx0 := h.p1.rawCell 0; have qx1 := h.p1.rawCell 1; have qx2 := h.p1.rawCell 2; have px0 := h.p2.rawCell 0; have px1 := h.p2.rawCell 1; have px2 := h.p2.rawCell 2; simp at rx0 rx1 rx2 qx0 qx1 qx2 px0 px1 px2; replace H := Lib.hid h; clear h)
    | (go_at_call 9; (with_reducible refine (ref11_rowsT la lb qa qb capa capb (HMa.out.trans HMb.out.symm) HLa.out HLb.out (by have := HCa.out; have := HSL.out; omega) (Know.has_left (Know.has_right (Know.has_refl _))) (Know.has_right (Know.has_refl _)) H.out).mono ?_); rintro e_ wn ⟨rfl, h⟩; have qx0 := h.rawCell 0; have qx1 := h.rawCell 1; have qx2 := h.rawCell 2; have px0 := h.p1.rawCell 0; have px1 := h.p1.rawCell 1; have px2 := h.p1.rawCell 2; simp at qx0 qx1 qx2 px0 px1 px2; replace H := Lib.hid h; clear h)
    | (go_at_call 9; (with_reducible refine (ref11_rowsN (lc.take la.length) la la.length la.length (by rw [List.length_take]; have := HTL.out; omega) rfl _ qa capc capa (by rw [List.map_take, HMc.out, HMa.out, ← List.length_map (f := BatR.b), HMa.out, List.take_left]) (fun x hx => HLc.out x (List.mem_of_mem_take hx)) HLa.out (by have := HCa.out; have := HSL.out; omega) (bats_take la.length HTL.out (Know.has_right (Know.has_refl _))) (Know.has_left (Know.has_left (Know.has_right (Know.has_refl _)))) H.out).mono ?_); rintro e_ wn ⟨rfl, h⟩; have rx0 := h.rawCell 0; have rx1 := h.rawCell 1; have rx2 := h.rawCell 2; have qx0 := h.p1.rawCell 0; have qx1 := h.p1.rawCell 1; have qx2 := h.p1.rawCell 2; have px0 := h.p2.rawCell 0; have px1 := h.p2.rawCell 1; have px2 := h.p2.rawCell 2; simp at rx0 rx1 rx2 qx0 qx1 qx2 px0 px1 px2; replace H := Lib.hid h; clear h))
  go_ret
  exact ⟨rfl, H.out.below⟩

end Go.Proofs.Ytngojlinfdokpaa

/- WholeChunks: clean bytes. -/
namespace Go.Proofs.Ytngojlinfdokpaa
open Go.RowKit

set_option maxHeartbeats 8000000 in
set_option maxRecDepth 100000 in
theorem wc_clean (s more : Bs) (ns : List Int) (hns : ∀ x ∈ ns, 0 ≤ x ∧ x < 256) (q : Option Addr) (cap : Nat) (h1 : ¬ 1500 < s.length) (h2 : ¬ 1500 < more.length) (h3 : ¬ 200 < ns.length) (bs : List BatS) (pv : Nat) (rest : Bs) (hfe : finS s = (bs, pv, rest, 0)) (hps : stopS rest 0 = 0) (ds : List BatS) (tv rv : Nat) (restT : Bs) (te ts : Int) (hfd : finS more = (ds, tv, restT, te)) (hrv : pv + tv = rv) (hrl : rv ≤ 10000) (hfr : finS (s ++ more) = (bs ++ ds, rv, restT, te)) (hrs : stopS restT te = ts) {W0 w : World} {K : Know} (hk : K.has (Know.flat RU8 (.slice q ns.length cap) 1 ns)) (h : St W0 w K []) :
    Calls Try.prog 5 #[.string (bb s), .string (bb more), .slice q ns.length cap] w fun en w' => en = .returned (.bool true) ∧ Below W0.heap.size W0 w' := by
  have H := Lib.hid h
  have HK := Lib.hid hk
  have HNS := Lib.hid hns
  have c1 : ¬ 1500 < (s.length : Int) := by omega
  have c2 : ¬ 1500 < (more.length : Int) := by omega
  have c3 : ¬ 200 < (ns.length : Int) := by omega
  have HSL := Lib.hid (show s.length ≤ 50000 by omega)
  have HML := Lib.hid (show more.length ≤ 50000 by omega)
  have HNL := Lib.hid (show ns.length ≤ 1000 by omega)
  have HCL := Lib.hid (show (cutS s ns).length ≤ 1000000 by rw [cutS_len]; omega)
  obtain ⟨sm, hsm⟩ : ∃ x, s ++ more = x := ⟨_, rfl⟩
  have HSM := Lib.hid hsm
  have HSM2 := Lib.hid (show sm.length ≤ 50000 by rw [← hsm, List.length_append]; omega)
  have HFE := Lib.hid hfe
  have HPS := Lib.hid hps
  have g1 : ((pv : Int) == (pv : Int)) = true := beq_self_eq_true _
  have HFR := Lib.hid (show finS sm = (bs ++ ds, rv, restT, te) by rw [← hsm, hfr])
  have HRS := Lib.hid hrs
  have HFD := Lib.hid hfd
  have hadd : (pv : Int) + (tv : Int) = (rv : Int) := by omega
  have hwadd : IntKind.i64.wrap ((pv : Int) + (tv : Int)) = (rv : Int) := by rw [IntKind.wrap_i64]; omega
  have hwad2 : IntKind.i64.wrap (rv : Int) = (rv : Int) := by rw [IntKind.wrap_i64]; omega
  have g2 : ((rv : Int) == (rv : Int)) = true := beq_self_eq_true _
  have g3 : (te == te) = true := beq_self_eq_true _
  have g4 : (ts == ts) = true := beq_self_eq_true _
  clear h hk hns h1 h2 h3 hfe hps hsm hfr hrs hfd hrv hrl
  go_enter Try.func5, Try.ntmps5
  go_upto_region 16 with (first
    | (go_at_call 10; (with_reducible refine (top_none H.out).mono ?_); rintro e_ wn ⟨sN, rfl, h⟩; have h := h.alloc (.cells #[.int .i64 0, .int .i64 0, .bool false, .bool false, .bool false, .int .i64 0, .int .i64 0, .int .i64 0, .int .i64 (-1), .int .i64 (-1), .int .i64 (-1), .slice none 0 0] 37 (0, 0)); replace H := Lib.hid h; clear h)
    | (go_at_call 7; have h9 := H.out.allocRaw #[.string (bb s)] 9; simp only [World.size_alloc] at h9; (with_reducible refine (scan_one s bs pv rest 0 0 HFE.out HPS.out HSL.out _ h9).mono ?_); rintro e_ wn ⟨qa, capa, la, rfl, hma, hla, hca, hqa, h⟩; clear h9; have HMa := Lib.hid hma; have HLa := Lib.hid hla; have HCa := Lib.hid hca; have HQa := Lib.hid hqa; clear hma hla hca hqa; obtain ⟨px, hpx⟩ : ∃ b, wn.heap.size = b := ⟨_, rfl⟩; have h := h.allocRaw #[.int .i64 pv, .int .i64 0, .int .i64 0] 26; rw [hpx] at h; have px0 := h.rawCell 0; have px1 := h.rawCell 1; have px2 := h.rawCell 2; simp at px0 px1 px2; replace H := Lib.hid h; clear h)
    | (go_at_call 13; (with_reducible refine (law22_cut s ns HSL.out HNS.out HNL.out q cap (Know.has_left HK.out) H.out).mono ?_); rintro e_ wn ⟨q2c, cap2c, rfl, h⟩; have px0 := h.rawCell 0; have px1 := h.rawCell 1; have px2 := h.rawCell 2; simp at px0 px1 px2; replace H := Lib.hid h; clear h)
    | (go_at_call 7; (with_reducible refine (scan_any (cutS s ns) s (cutS_flat ns s) bs pv rest 0 0 HFE.out HPS.out HSL.out q2c cap2c HCL.out (Know.has_right (Know.has_refl _)) H.out).mono ?_); rintro e_ wn ⟨qb, capb, lb, rfl, hmb, hlb, hcb, hqb, h⟩; have HMb := Lib.hid hmb; have HLb := Lib.hid hlb; have HCb := Lib.hid hcb; have HQb := Lib.hid hqb; clear hmb hlb hcb hqb; have h := h.know (Know.has_and (Know.has_left (Know.has_left (Know.has_refl _))) (Know.has_right (Know.has_refl _))); obtain ⟨qx, hqx⟩ : ∃ b, wn.heap.size = b := ⟨_, rfl⟩; have h := h.allocRaw #[.int .i64 pv, .int .i64 0, .int .i64 0] 26; rw [hqx] at h; have qx0 := h.rawCell 0; have qx1 := h.rawCell 1; have qx2 := h.rawCell 2; have px0 := h.p1.rawCell 0; have px1 := h.p1.rawCell 1; have px2 := h.p1.rawCell 2; simp at qx0 qx1 qx2 px0 px1 px2; replace H := Lib.hid h; clear h)
    | (go_at_call 7; (with_reducible refine (scan_two s more sm HSM.out (bs ++ ds) rv restT te ts HFR.out HRS.out HSM2.out _ (H.out.allocRaw _ _)).mono ?_); rintro e_ wn ⟨qc, capc, lc, rfl, hmc, hlc, hcc, hqc, h⟩; have HMc := Lib.hid hmc; have HLc := Lib.hid hlc; have HCc := Lib.hid hcc; have HQc := Lib.hid hqc; clear hmc hlc hcc hqc; have h71 := congrArg List.length HMa.out; have h72 := congrArg List.length HMc.out; rw [List.length_map] at h71 h72; rw [List.length_append] at h72; have hlen : (la.length : Int) ≤ (lc.length : Int) := (by omega); have hlcc : (lc.length : Int) ≤ (capc : Int) := (by have := HQc.out.2; omega); have hlac : (la.length : Int) ≤ (capc : Int) := (by omega); have HTL := Lib.hid (show la.length ≤ lc.length by omega); clear h71 h72; obtain ⟨rx, hrx⟩ : ∃ b, wn.heap.size = b := ⟨_, rfl⟩; have h := h.allocRaw #[.int .i64 rv, .int .i64 ts, .int .i64 te] 26; rw [hrx] at h; have rx0 := h.rawCell 0; have rx1 := h.rawCell 1; have rx2 := h.rawCell 2; have qx0 := h.p1.rawCell 0; have qx1 := h.p1.rawCell 1; have qx2 := h.p1.rawCell 2; have px0 := h.p2.rawCell 0; have px1 := h.p2.rawCell 1; have px2 := h.p2.rawCell 2; simp at rx0 rx1 rx2 qx0 qx1 qx2 px0 px1 px2; replace H := Lib.hid h; clear h)
    | (go_at_call 7; have h9 := H.out.allocRaw #[.string (bb more)] 9; simp only [World.size_alloc, hrx] at h9; (with_reducible refine (scan_one more ds tv restT te ts HFD.out HRS.out HML.out _ h9).mono ?_); rintro e_ wn ⟨qd, capd, ld, rfl, hmd, hld, hcd, hqd, h⟩; clear h9; have HMd := Lib.hid hmd; have HLd := Lib.hid hld; have HCd := Lib.hid hcd; have HQd := Lib.hid hqd; clear hmd hld hcd hqd; obtain ⟨tx, htx⟩ : ∃ b, wn.heap.size = b := ⟨_, rfl⟩; have h := h.allocRaw #[.int .i64 tv, .int .i64 ts, .int .i64 te] 26; rw [htx] at h; have tx0 := h.rawCell 0; have tx1 := h.rawCell 1; have tx2 := h.rawCell 2; have rx0 := h.p1.rawCell 0; have rx1 := h.p1.rawCell 1; have rx2 := h.p1.rawCell 2; have qx0 := h.p2.rawCell 0; have qx1 := h.p2.rawCell 1; have qx2 := h.p2.rawCell 2; have px0 := h.p3.rawCell 0; have px1 := h.p3.rawCell 1; have px2 := h.p3.rawCell 2; simp at tx0 tx1 tx2 rx0 rx1 rx2 qx0 qx1 qx2 px0 px1 px2; replace H := Lib.hid h; clear h)
    | (go_at_call 9; (with_reducible refine (ref11_rowsT la lb qa qb capa capb (HMa.out.trans HMb.out.symm) HLa.out HLb.out (by have := HCa.out; have := HSL.out; omega) (Know.has_left (Know.has_right (Know.has_refl _))) (Know.has_right (Know.has_refl _)) H.out).mono ?_); rintro e_ wn ⟨rfl, h⟩; have qx0 := h.rawCell 0; have qx1 := h.rawCell 1; have qx2 := h.rawCell 2; have px0 := h.p1.rawCell 0; have px1 := h.p1.rawCell 1; have px2 := h.p1.rawCell 2; simp at qx0 qx1 qx2 px0 px1 px2; replace H := Lib.hid h; clear h))
  have k1 := congrArg List.length HMa.out
  have k2 := congrArg List.length HMc.out
  have k3 := congrArg List.length HMd.out
  rw [List.length_map] at k1 k2 k3
  rw [List.length_append] at k2
  have kcap := HQc.out.2
  have kca := HCa.out
  have kcc := HCc.out
  have ksl := HSL.out
  have ksm := HSM2.out
  have hll : lc.length = la.length + ld.length := by omega
  have hwl : IntKind.i64.wrap ((la.length : Int) + (ld.length : Int)) = (la.length : Int) + (ld.length : Int) := by rw [IntKind.wrap_i64]; omega
  have heq : ((lc.length : Int) == (la.length : Int) + (ld.length : Int)) = true := by rw [beq_iff_eq]; omega
  have HCT := Lib.hid (show (lc.take la.length).map BatR.b = la.map BatR.b by rw [List.map_take, HMc.out, HMa.out, ← List.length_map (f := BatR.b), HMa.out, List.take_left])
  have HCD := Lib.hid (show (lc.drop la.length).map BatR.b = ld.map BatR.b by rw [List.map_drop, HMc.out, HMd.out, ← List.length_map (f := BatR.b), HMa.out, List.drop_left])
  have HLA := Lib.hid (show la.length ≤ 100000 by omega)
  have HLN := Lib.hid (show lc.length - la.length ≤ 100000 by omega)
  have hqf := HQc.out.1
  rcases hqf with ⟨rfl, rfl⟩ | ⟨g, rfl⟩
  · obtain rfl : lc = [] := List.eq_nil_of_length_eq_zero (by omega)
    obtain rfl : la = [] := List.eq_nil_of_length_eq_zero (by simp only [List.length_nil] at hll; omega)
    obtain rfl : ld = [] := List.eq_nil_of_length_eq_zero (by simp only [List.length_nil] at hll; omega)
    clear k1 k2 k3 kcap kca kcc ksl ksm hll
    go_wp2_with (go_at_call 9; (with_reducible refine (rows_zero _ _ _ _ H.out).mono ?_); rintro e_ wn ⟨rfl, h⟩; have tx0 := h.rawCell 0; have tx1 := h.rawCell 1; have tx2 := h.rawCell 2; have rx0 := h.p1.rawCell 0; have rx1 := h.p1.rawCell 1; have rx2 := h.p1.rawCell 2; have qx0 := h.p2.rawCell 0; have qx1 := h.p2.rawCell 1; have qx2 := h.p2.rawCell 2; have px0 := h.p3.rawCell 0; have px1 := h.p3.rawCell 1; have px2 := h.p3.rawCell 2; simp at tx0 tx1 tx2 rx0 rx1 rx2 qx0 qx1 qx2 px0 px1 px2; replace H := Lib.hid h; clear h)
    go_ret
    exact ⟨rfl, H.out.below⟩
  · by_cases hcc : capc = la.length
    · have hld : ld = [] := List.eq_nil_of_length_eq_zero (by omega)
      have hz0 : lc.length - la.length = 0 := by omega
      have HZ0 := Lib.hid (show ([] : List BatR).length = lc.length - la.length from hz0.symm)
      have HBE := Lib.hid (show ∀ K : Know, K.has (Know.bats (.slice (some ⟨g, 0, none⟩) (lc.length - la.length) 0) []) from fun K => by rw [hz0]; exact bats_empty K _ _)
      have HNIL := Lib.hid (show ∀ x ∈ ([] : List BatR), LiteR x from fun x hx => by cases hx)
      clear hz0
      have HEZ := Lib.hid (show ([] : List BatR).map BatR.b = ld.map BatR.b by rw [hld])
      subst hcc
      clear k1 k2 k3 kcap kca kcc ksl ksm hll hld
      go_wp2_with (first
    | (go_at_call 9; (with_reducible refine (ref11_rowsN (lc.take la.length) la la.length la.length (by rw [List.length_take]; have := HTL.out; omega) rfl _ qa _ capa HCT.out (fun x hx => HLc.out x (List.mem_of_mem_take hx)) HLa.out HLA.out (bats_take la.length HTL.out (Know.has_left (Know.has_right (Know.has_refl _)))) (Know.has_left (Know.has_left (Know.has_left (Know.has_right (Know.has_refl _))))) H.out).mono ?_); rintro e_ wn ⟨rfl, h⟩; have tx0 := h.rawCell 0; have tx1 := h.rawCell 1; have tx2 := h.rawCell 2; have rx0 := h.p1.rawCell 0; have rx1 := h.p1.rawCell 1; have rx2 := h.p1.rawCell 2; have qx0 := h.p2.rawCell 0; have qx1 := h.p2.rawCell 1; have qx2 := h.p2.rawCell 2; have px0 := h.p3.rawCell 0; have px1 := h.p3.rawCell 1; have px2 := h.p3.rawCell 2; simp at tx0 tx1 tx2 rx0 rx1 rx2 qx0 qx1 qx2 px0 px1 px2; replace H := Lib.hid h; clear h)
    | (go_at_call 9; (with_reducible refine (ref11_rowsN [] ld (lc.length - la.length) ld.length HZ0.out rfl _ qd _ capd HEZ.out HNIL.out HLd.out HLN.out (HBE.out _) (Know.has_right (Know.has_refl _)) H.out).mono ?_); rintro e_ wn ⟨rfl, h⟩; have tx0 := h.rawCell 0; have tx1 := h.rawCell 1; have tx2 := h.rawCell 2; have rx0 := h.p1.rawCell 0; have rx1 := h.p1.rawCell 1; have rx2 := h.p1.rawCell 2; have qx0 := h.p2.rawCell 0; have qx1 := h.p2.rawCell 1; have qx2 := h.p2.rawCell 2; have px0 := h.p3.rawCell 0; have px1 := h.p3.rawCell 1; have px2 := h.p3.rawCell 2; simp at tx0 tx1 tx2 rx0 rx1 rx2 qx0 qx1 qx2 px0 px1 px2; replace H := Lib.hid h; clear h))
      go_ret
      exact ⟨rfl, H.out.below⟩
    · have hcc2 : ¬ capc - la.length = 0 := by omega
      clear k1 k2 k3 kcap kca kcc ksl ksm hll
      go_wp2_with (first
    | (go_at_call 9; (with_reducible refine (ref11_rowsN (lc.take la.length) la la.length la.length (by rw [List.length_take]; have := HTL.out; omega) rfl _ qa _ capa HCT.out (fun x hx => HLc.out x (List.mem_of_mem_take hx)) HLa.out HLA.out (bats_take la.length HTL.out (Know.has_left (Know.has_right (Know.has_refl _)))) (Know.has_left (Know.has_left (Know.has_left (Know.has_right (Know.has_refl _))))) H.out).mono ?_); rintro e_ wn ⟨rfl, h⟩; have tx0 := h.rawCell 0; have tx1 := h.rawCell 1; have tx2 := h.rawCell 2; have rx0 := h.p1.rawCell 0; have rx1 := h.p1.rawCell 1; have rx2 := h.p1.rawCell 2; have qx0 := h.p2.rawCell 0; have qx1 := h.p2.rawCell 1; have qx2 := h.p2.rawCell 2; have px0 := h.p3.rawCell 0; have px1 := h.p3.rawCell 1; have px2 := h.p3.rawCell 2; simp at tx0 tx1 tx2 rx0 rx1 rx2 qx0 qx1 qx2 px0 px1 px2; replace H := Lib.hid h; clear h)
    | (go_at_call 9; (with_reducible refine (ref11_rowsN (lc.drop la.length) ld (lc.length - la.length) ld.length (by rw [List.length_drop]) rfl _ qd _ capd HCD.out (fun x hx => HLc.out x (List.mem_of_mem_drop hx)) HLd.out HLN.out (bats_drop0 la.length rfl (Know.has_left (Know.has_right (Know.has_refl _)))) (Know.has_right (Know.has_refl _)) H.out).mono ?_); rintro e_ wn ⟨rfl, h⟩; have tx0 := h.rawCell 0; have tx1 := h.rawCell 1; have tx2 := h.rawCell 2; have rx0 := h.p1.rawCell 0; have rx1 := h.p1.rawCell 1; have rx2 := h.p1.rawCell 2; have qx0 := h.p2.rawCell 0; have qx1 := h.p2.rawCell 1; have qx2 := h.p2.rawCell 2; have px0 := h.p3.rawCell 0; have px1 := h.p3.rawCell 1; have px2 := h.p3.rawCell 2; simp at tx0 tx1 tx2 rx0 rx1 rx2 qx0 qx1 qx2 px0 px1 px2; replace H := Lib.hid h; clear h))
      go_ret
      exact ⟨rfl, H.out.below⟩

end Go.Proofs.Ytngojlinfdokpaa

/- WholeChunks. -/
namespace Go.Proofs.Ytngojlinfdokpaa
open Go.RowKit

theorem wholeChunks_any (s more : Bs) (ns : List Int) (v : Value) (W : World) (hns : ∀ x ∈ ns, 0 ≤ x ∧ x < 256) (hr : RowsOf (fun _ cs x => RU8 cs x) (· < W.heap.size) W v 1 ns) :
    Calls Try.prog 5 #[.string (bb s), .string (bb more), v] W fun en w' => en = .returned (.bool true) ∧ Below W.heap.size W w' := by
  have h : St W W (Know.flat RU8 v 1 ns) [] := St.start hr
  obtain ⟨q, cap, hv⟩ : ∃ q cap, v = .slice q ns.length cap := by obtain ⟨p, cap, hv, _⟩ := hr; exact ⟨p, cap, hv⟩
  subst hv
  have hk := Know.has_refl (Know.flat RU8 (.slice q ns.length cap) 1 ns)
  by_cases h1 : 1500 < s.length
  · exact wc_l1 s more ns hns q cap h1 hk h
  by_cases h2 : 1500 < more.length
  · exact wc_l2 s more ns hns q cap h1 h2 hk h
  by_cases h3 : 200 < ns.length
  · exact wc_l3 s more ns hns q cap h1 h2 h3 hk h
  obtain ⟨⟨bs, pv, rest, pe⟩, hfe⟩ : ∃ r, finS s = r := ⟨_, rfl⟩
  by_cases he : pe = 0
  · subst he
    obtain ⟨⟨b2, rv, rest2, re⟩, hfr⟩ : ∃ r, finS (s ++ more) = r := ⟨_, rfl⟩
    by_cases hr0 : rest = []
    · subst hr0
      obtain ⟨⟨ds, tv, restT, te⟩, hfd⟩ : ∃ r, finS more = r := ⟨_, rfl⟩
      obtain ⟨e1, e2, e3⟩ := fin_clean s more (by rw [hfe]) (by rw [hfe])
      rw [hfr, hfe, hfd] at e1 e2
      rw [hfr, hfd] at e3
      simp only [Prod.mk.injEq] at e1 e2 e3
      obtain ⟨rfl, rfl⟩ := e3
      subst e1
      have b1 := (fin_rest (s ++ more)).2
      rw [hfr, List.length_append] at b1
      simp only at b1
      exact wc_clean s more ns hns q cap h1 h2 h3 bs pv [] hfe (by unfold stopS; rw [if_neg (by simp), if_neg (by simp)]) ds tv rv rest2 re _ hfd e2.symm (by omega) hfr rfl hk h
    · obtain ⟨m, e1, e2⟩ := fin_more s more (by rw [hfe])
      rw [hfr, hfe] at e1 e2
      simp only at e1 e2
      subst e1
      exact wc_torn s more ns hns q cap h1 h2 h3 bs pv rest hfe (by unfold stopS; rw [if_neg (by simp), if_pos hr0]) m rv rest2 re _ hfr rfl e2 hk h
  · exact wc_bad s more ns hns q cap h1 h2 h3 bs pv rest pe hfe (by unfold stopS; rw [if_pos he]) he hk h

end Go.Proofs.Ytngojlinfdokpaa

/- Two ways to cut any bytes come to the same batches, and the same end, and what comes of bytes with more behind them begins with what came of these: proved of every two texts and every row of sizes. -/
namespace Go.Proofs.Ytngojlinfdokpaa
open Go.ChangeShapes Go.WideShapes Go.ChangeAt Go.ChangeMaps Go.RowKit

set_option maxRecDepth 100000 in
theorem wholeChunks_lifted (os : Os) (started : os.Started) (H : Type) (enc : TypeId × Value → H) :
    ReturnsInHanded {} Try.checked os 5 .any (Rows.wholeChunksSpec.pre6 enc Try.prog Try.f5 Rows.wholeChunksRow.domain false) (Rows.wholeChunksSpec.post enc Try.prog Try.f5 false true false false) := by
  refine returnsInHanded_of_change_sized (C := Try.checked) Try.own started (by as_aux_lemma => kernel_rfl) Try.func5
    (ChangeSpec.witness6 (enc := enc) (C := Try.checked) false ⟨#[], #[.string ⟨#[]⟩, .string ⟨#[]⟩, .slice none 0 0], []⟩ 8 (by as_aux_lemma => kernel_rfl) (by as_aux_lemma => kernel_rfl) (by as_aux_lemma => kernel_rfl) (by as_aux_lemma => kernel_rfl)) ?_
  intro W base args ds gs before hval0 hW hcnd hsz0 _
  have hval : ∀ (j : Nat) t v, Try.f5.params[j]? = some t → args[j]? = some v → Value.okWide Try.prog W .any base t v := hval0
  clear hval0
  refine law_contract (n := 3) (tb := 4) rfl rfl rfl Try.underlying4 (by intro ds h; match ds, h with | [d0, d1, d2], _ => rfl) (by as_aux_lemma => kernel_rfl) hW ?_
  intro p hA0 hlt
  have hA : DataW.TrodAll enc Try.prog W 0 (fun _ => true) true Try.f5.params.toList args.toList ds p := hA0
  clear hA0
  rw [Try.params5] at hA hval
  obtain ⟨v0, v1, v2, d0, d1, d2, p0, p1, p2, rfl, rfl, rfl, h0, h1, h2⟩ := trodAll_three hA
  have hsz : (DataW.weightsEach Try.prog (Try.f5.params.toList ++ Rows.wholeChunksSpec.plain.varTypes Try.prog) ([d0, d1, d2] ++ gs)).all (· ≤ reachBytes) = true := hsz0
  rw [Try.params5] at hsz
  obtain ⟨s0, rfl, rfl, rfl, ws0⟩ := open_string Try.underlying9 (hval 0 9 v0 rfl rfl) h0
  obtain ⟨s1, rfl, rfl, rfl, ws1⟩ := open_string Try.underlying9 (hval 1 9 v1 rfl rfl) h1
  obtain ⟨c2, e2, k2, rfl⟩ := okWide_slice Try.underlying33 (hval 2 33 v2 rfl rfl)
  have lg2 : Light 33 d2 := light_arg hsz (j := 2) rfl rfl
  obtain ⟨fuel2, hf2⟩ := h2
  obtain ⟨w2, l2, hw2, hrq2, hbl2, hl2⟩ := opens_rows (R := fun w cs x => (fun _ cs x => RU8 cs x) w cs x ∧ (fun x : Int => 0 ≤ x ∧ x < 256) x) (N := W.heap.size) Try.underlying33 cells_u8S (by decide) ru8_opens hf2 lg2 (fun y hy => hlt y (by simp [hy])) (Nat.le_refl _)
  obtain ⟨hr2, hq2⟩ := hrq2.part
  obtain rfl : w2 = Value.slice c2 e2 k2 := by simpa [Value.cells] using hw2.symm
  exact wholeChunks_any s0.data.toList s1.data.toList l2 _ W hq2 hr2

theorem wholeChunks_holds : Rows.WholeChunksSaid :=
  OpenClaim.holds_of_wide 5 Try.f5 rfl rfl rfl rfl rfl rfl rfl ⟨rfl, rfl, rfl, rfl, rfl⟩ rfl rfl rfl rfl rfl (by as_aux_lemma => kernel_rfl) Try.func5 (by as_aux_lemma => kernel_rfl)
    (of_decide_eq_true (by as_aux_lemma => kernel_rfl)) (by as_aux_lemma => (unfold Func.isWrapper; rw [if_neg (by as_aux_lemma => decide +kernel)]; exact ⟨rfl, rfl⟩))
    (fun os started H enc _ => wholeChunks_lifted os started H enc)

end Go.Proofs.Ytngojlinfdokpaa
