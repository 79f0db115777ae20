/- Whatever bytes are read as a control batch are of a transaction, have just one record, and a key that says how it ends: proved of every text. -/
import Derived.Test.YtcjgdlfcfcabiaaGBatchControls8
import Derived.Test.YtcjgdlfcfcabiaaArgs
/- Layer 11, walked: BatchControls. -/
namespace Go.Proofs.Ytcjgdlfcfcabiaa
open Go.RowKit

set_option maxHeartbeats 2000000 in
set_option maxRecDepth 100000 in
theorem bc_long (s : Bs) (hs : s.length ≤ 9223372036854775807) (hl : 1500 < s.length) {W0 w : World} {K : Know} (h : St W0 w K []) :
    Calls Try.prog 7 #[.string (bb s)] w fun en w' => en = .returned (.bool true) ∧ Below W0.heap.size W0 w' := by
  have H := Lib.hid h
  have hd : decide ((1500 : Int) < (s.length : Int)) = true := decide_eq_true (by omega)
  have hd2 : decide (1500 < s.length) = true := decide_eq_true hl
  clear h hs
  go_enter Try.func7, Try.ntmps7
  go_wp2_with (go_at_call 29; (with_reducible refine (speaks11 H.out).mono ?_); rintro e_ wn ⟨rfl, K2, hk2, h⟩; replace H := Lib.hid h; clear h)
  go_ret
  exact ⟨rfl, H.out.below⟩

set_option maxHeartbeats 2000000 in
set_option maxRecDepth 100000 in
theorem bc_none (s : Bs) (hs : s.length ≤ 9223372036854775807) (hl : s.length ≤ 1500) (e : Int) (he : batD s = .error e) {W0 w : World} {K : Know} (h : St W0 w K []) :
    Calls Try.prog 7 #[.string (bb s)] w fun en w' => en = .returned (.bool true) ∧ Below W0.heap.size W0 w' := by
  have H := Lib.hid h
  have hl15 : ¬ (1500 < s.length) := by omega
  have hd : decide ((1500 : Int) < (s.length : Int)) = false := decide_eq_false (by omega)
  have hd2 : decide (1500 < s.length) = false := decide_eq_false hl15
  have HSM := Lib.hid (show s.length ≤ 1000000 by omega)
  have HD := Lib.hid he
  have gz : (e == 0) = false := by rw [beq_eq_false_iff_ne]; exact batD_ne he
  have gz2 : (e != 0) = true := by rw [bne_iff_ne]; exact batD_ne he
  clear h hs he hl
  go_enter Try.func7, Try.ntmps7
  go_wp2_with (first
    | (go_at_call 29; (with_reducible refine (speaks11 H.out).mono ?_); rintro e_ wn ⟨rfl, K2, hk2, h⟩; replace H := Lib.hid h; clear h)
    | (go_at_call 30; (with_reducible refine (bat_decode_bad s HSM.out e HD.out H.out).mono ?_); rintro e_ wn ⟨rfl, h⟩; have h := h.allocRaw #[.int .i64 0, .int .i64 0, .bool false, .bool false, .bool false, .int .i64 0, .int .i64 0, .int .i64 0, .int .i64 0, .int .i64 0, .int .i64 0, .slice none 0 0] 32; replace H := Lib.hid h; clear h))
  go_ret
  exact ⟨rfl, H.out.below⟩

set_option maxHeartbeats 2000000 in
set_option maxRecDepth 100000 in
theorem bc_plain (s : Bs) (hs : s.length ≤ 9223372036854775807) (hl : s.length ≤ 1500) (base leader last first maxt prod epoch seq : Int) (app txn : Bool) (rs : List RecS) (he : batD s = .ok ⟨base, leader, app, txn, false, last, first, maxt, prod, epoch, seq, rs⟩) {W0 w : World} {K : Know} (h : St W0 w K []) :
    Calls Try.prog 7 #[.string (bb s)] w fun en w' => en = .returned (.bool true) ∧ Below W0.heap.size W0 w' := by
  have H := Lib.hid h
  have hl15 : ¬ (1500 < s.length) := by omega
  have hd : decide ((1500 : Int) < (s.length : Int)) = false := decide_eq_false (by omega)
  have hd2 : decide (1500 < s.length) = false := decide_eq_false hl15
  have HSM := Lib.hid (show s.length ≤ 1000000 by omega)
  have HD := Lib.hid he
  obtain ⟨c, hc, hc1, hc2, _⟩ := batD_bits he
  have h22 : 22 < s.length := (List.getElem?_eq_some_iff.1 hc).1
  have h22i : (22 : Int) < (s.length : Int) := by omega
  have hcc : s[22] = c := (List.getElem?_eq_some_iff.1 hc).2
  have hbit : (((s[22]).toNat : Int) / 32 % 2 == 1) = false := by
    rw [hcc]
    have := of_decide_eq_false hc2.symm; rw [beq_eq_false_iff_ne]; omega
  clear hcc hc1
  clear h hs he hl hc hc2
  go_enter Try.func7, Try.ntmps7
  go_wp2_with (first
    | (go_at_call 29; (with_reducible refine (speaks11 H.out).mono ?_); rintro e_ wn ⟨rfl, K2, hk2, h⟩; replace H := Lib.hid h; clear h)
    | (go_at_call 30; (with_reducible refine (bat_decode_ok s HSM.out _ HD.out H.out).mono ?_); rintro e_ wn ⟨q, l, cap, rfl, hl, h⟩; have h := h.allocRaw #[.int .i64 base, .int .i64 leader, .bool app, .bool txn, .bool false, .int .i64 last, .int .i64 first, .int .i64 maxt, .int .i64 prod, .int .i64 epoch, .int .i64 seq, .slice q l.length cap] 32; obtain ⟨bB, hbB⟩ : ∃ b, wn.heap.size = b := ⟨_, rfl⟩; rw [hbB] at h; obtain ⟨x0, x1, x2, x3, x4, x5, x6, x7, x8, x9, x10, x11, y0, y1, y2, y3, y4, y5, y6, y7, y8, y9, y10, y11⟩ := raw12 (b := bB) (h); replace H := Lib.hid h; clear h))
  go_ret
  refine ⟨?_, H.out.below⟩
  show Ending.returned (Value.bool (!((((s[22]).toNat : Int) / 32 % 2 == 1)))) = _
  rw [hbit]
  rfl

theorem ctl_first {l : List (RecS × Value)} {x z : RecS} {v : Value} (h : l.map (·.1) = [x]) (h0 : 0 < l.length) (hz : l[0]'h0 = (z, v)) : z = x := by
  match l, h with
  | [y], h =>
    have h1 : y.1 = x := by simpa using h
    have h2 : y = (z, v) := hz
    rw [← h1, h2]
theorem ctl_recs {W0 w : World} {K : Know} {L : List Res} {q : Option Addr} {cap : Nat} {l : List (RecS × Value)} {x : RecS} (hk : K.has (Know.recs (.slice q l.length cap) l)) (hl : l.map (·.1) = [x]) (h : St W0 w K L) : ∃ b off, q = some ⟨b, off, none⟩ ∧ l.length = 1 ∧ w.cell? ⟨b, off + 2, none⟩ = some (.bool x.key.null) ∧ w.cell? ⟨b, off + 2 + 1, none⟩ = some (.string (bb x.key.data)) := by
  have hlen : l.length = 1 := by have := congrArg List.length hl; simpa using this
  have h00 : 0 < l.length := by omega
  obtain ⟨bq, off, hqq⟩ := recs_at hk h h00
  subst hqq
  obtain ⟨⟨z, vx⟩, hz⟩ : ∃ y, l[0]'h00 = y := ⟨_, rfl⟩
  have hzx : z = x := ctl_first hl h00 hz
  have cc := recs_cell hk h 0 h00 _ hz
  simp only [Nat.zero_mul, Nat.zero_add] at cc
  rw [hzx] at cc
  exact ⟨bq, off, rfl, hlen, cc.2.2.1, cc.2.2.2.1⟩

set_option maxHeartbeats 2000000 in
set_option maxRecDepth 100000 in
theorem bc_ctl0 (s : Bs) (hs : s.length ≤ 9223372036854775807) (hl : s.length ≤ 1500) (base leader last first maxt prod epoch seq : Int) (app txn : Bool) (rs : List RecS) (he : batD s = .ok ⟨base, leader, app, txn, true, last, first, maxt, prod, epoch, seq, rs⟩) (x : RecS) (hx : rs = [x]) (hkn : x.key.null = false) (hkd : x.key.data = [0, 0, 0, 0]) {W0 w : World} {K : Know} (h : St W0 w K []) :
    Calls Try.prog 7 #[.string (bb s)] w fun en w' => en = .returned (.bool true) ∧ Below W0.heap.size W0 w' := by
  have H := Lib.hid h
  have hl15 : ¬ (1500 < s.length) := by omega
  have hd : decide ((1500 : Int) < (s.length : Int)) = false := decide_eq_false (by omega)
  have hd2 : decide (1500 < s.length) = false := decide_eq_false hl15
  have HSM := Lib.hid (show s.length ≤ 1000000 by omega)
  have HD := Lib.hid he
  obtain ⟨c, hc, hc1, hc2, _, hct, _⟩ := batD_bits he
  obtain rfl : true = txn := (hct rfl).symm
  have HX := Lib.hid hx
  have HKN := Lib.hid (show some (Value.bool x.key.null) = some (.bool false) by rw [hkn])
  have HKD := Lib.hid (show some (Value.string (bb x.key.data)) = some (.string (bb [0, 0, 0, 0])) by rw [hkd])
  have h22 : 22 < s.length := (List.getElem?_eq_some_iff.1 hc).1
  have h22i : (22 : Int) < (s.length : Int) := by omega
  have hcc : s[22] = c := (List.getElem?_eq_some_iff.1 hc).2
  have hbit : (((s[22]).toNat : Int) / 32 % 2 == 1) = true := by
    rw [hcc]
    have := of_decide_eq_true hc2.symm; rw [beq_iff_eq]; omega
  clear hcc hc1
  clear h hs he hl hc hc2 hx hct hkn hkd
  go_enter Try.func7, Try.ntmps7
  go_upto_region 12 with (first
    | (go_at_call 29; (with_reducible refine (speaks11 H.out).mono ?_); rintro e_ wn ⟨rfl, K2, hk2, h⟩; replace H := Lib.hid h; clear h)
    | (go_at_call 30; (with_reducible refine (bat_decode_ok s HSM.out _ HD.out H.out).mono ?_); rintro e_ wn ⟨q, l, cap, rfl, hl, h⟩; have h := h.allocRaw #[.int .i64 base, .int .i64 leader, .bool app, .bool true, .bool true, .int .i64 last, .int .i64 first, .int .i64 maxt, .int .i64 prod, .int .i64 epoch, .int .i64 seq, .slice q l.length cap] 32; obtain ⟨bB, hbB⟩ : ∃ b, wn.heap.size = b := ⟨_, rfl⟩; rw [hbB] at h; obtain ⟨x0, x1, x2, x3, x4, x5, x6, x7, x8, x9, x10, x11, y0, y1, y2, y3, y4, y5, y6, y7, y8, y9, y10, y11⟩ := raw12 (b := bB) (h); obtain ⟨bq, off, hqq, hlen, c2, c3⟩ := ctl_recs (Know.has_right (Know.has_refl _)) (hl.trans HX.out) h; subst hqq; have h00 : 0 < l.length := (by omega); have hl0 : (0 : Int) < (l.length : Int) := (by omega); have hl1 : ((l.length : Int) == 1) = true := (by simp [hlen]); replace c2 := c2.trans HKN.out; replace c3 := c3.trans HKD.out; clear hlen; replace H := Lib.hid h; clear h))
  replace H := Lib.hid (H.out.allocRaw #[.bool false, .string (bb [0, 0, 0, 0])] 61)
  have hK := H.out
  simp only [World.size_alloc, hbB] at hK
  have k0 := (hK.rawCell 0).trans (show _ = some (Value.bool false) from rfl)
  have k1 := (hK.rawCell 1).trans (show _ = some (Value.string (bb [0, 0, 0, 0])) from rfl)
  have z3 := (hK.p1.rawCell 3).trans (show _ = some (Value.bool true) from rfl)
  have z11 := (hK.p1.rawCell 11).trans (show _ = some (Value.slice (some ⟨bq, off, none⟩) l.length cap) from rfl)
  erw [hbit]
  clear hK x0 x1 x2 x3 x4 x5 x6 x7 x8 x9 x10 x11 y0 y1 y2 y3 y4 y5 y6 y7 y8 y9 y10 y11 c2 c3
  clear hbit
  go_wp2
  go_ret
  exact ⟨rfl, H.out.below⟩

set_option maxHeartbeats 2000000 in
set_option maxRecDepth 100000 in
theorem bc_ctl1 (s : Bs) (hs : s.length ≤ 9223372036854775807) (hl : s.length ≤ 1500) (base leader last first maxt prod epoch seq : Int) (app txn : Bool) (rs : List RecS) (he : batD s = .ok ⟨base, leader, app, txn, true, last, first, maxt, prod, epoch, seq, rs⟩) (x : RecS) (hx : rs = [x]) (hkn : x.key.null = false) (hkd : x.key.data = [0, 0, 0, 1]) {W0 w : World} {K : Know} (h : St W0 w K []) :
    Calls Try.prog 7 #[.string (bb s)] w fun en w' => en = .returned (.bool true) ∧ Below W0.heap.size W0 w' := by
  have H := Lib.hid h
  have hl15 : ¬ (1500 < s.length) := by omega
  have hd : decide ((1500 : Int) < (s.length : Int)) = false := decide_eq_false (by omega)
  have hd2 : decide (1500 < s.length) = false := decide_eq_false hl15
  have HSM := Lib.hid (show s.length ≤ 1000000 by omega)
  have HD := Lib.hid he
  obtain ⟨c, hc, hc1, hc2, _, hct, _⟩ := batD_bits he
  obtain rfl : true = txn := (hct rfl).symm
  have HX := Lib.hid hx
  have HKN := Lib.hid (show some (Value.bool x.key.null) = some (.bool false) by rw [hkn])
  have HKD := Lib.hid (show some (Value.string (bb x.key.data)) = some (.string (bb [0, 0, 0, 1])) by rw [hkd])
  have h22 : 22 < s.length := (List.getElem?_eq_some_iff.1 hc).1
  have h22i : (22 : Int) < (s.length : Int) := by omega
  have hcc : s[22] = c := (List.getElem?_eq_some_iff.1 hc).2
  have hbit : (((s[22]).toNat : Int) / 32 % 2 == 1) = true := by
    rw [hcc]
    have := of_decide_eq_true hc2.symm; rw [beq_iff_eq]; omega
  clear hcc hc1
  clear h hs he hl hc hc2 hx hct hkn hkd
  go_enter Try.func7, Try.ntmps7
  go_upto_region 12 with (first
    | (go_at_call 29; (with_reducible refine (speaks11 H.out).mono ?_); rintro e_ wn ⟨rfl, K2, hk2, h⟩; replace H := Lib.hid h; clear h)
    | (go_at_call 30; (with_reducible refine (bat_decode_ok s HSM.out _ HD.out H.out).mono ?_); rintro e_ wn ⟨q, l, cap, rfl, hl, h⟩; have h := h.allocRaw #[.int .i64 base, .int .i64 leader, .bool app, .bool true, .bool true, .int .i64 last, .int .i64 first, .int .i64 maxt, .int .i64 prod, .int .i64 epoch, .int .i64 seq, .slice q l.length cap] 32; obtain ⟨bB, hbB⟩ : ∃ b, wn.heap.size = b := ⟨_, rfl⟩; rw [hbB] at h; obtain ⟨x0, x1, x2, x3, x4, x5, x6, x7, x8, x9, x10, x11, y0, y1, y2, y3, y4, y5, y6, y7, y8, y9, y10, y11⟩ := raw12 (b := bB) (h); obtain ⟨bq, off, hqq, hlen, c2, c3⟩ := ctl_recs (Know.has_right (Know.has_refl _)) (hl.trans HX.out) h; subst hqq; have h00 : 0 < l.length := (by omega); have hl0 : (0 : Int) < (l.length : Int) := (by omega); have hl1 : ((l.length : Int) == 1) = true := (by simp [hlen]); replace c2 := c2.trans HKN.out; replace c3 := c3.trans HKD.out; clear hlen; replace H := Lib.hid h; clear h))
  replace H := Lib.hid (H.out.allocRaw #[.bool false, .string (bb [0, 0, 0, 1])] 61)
  have hK := H.out
  simp only [World.size_alloc, hbB] at hK
  have k0 := (hK.rawCell 0).trans (show _ = some (Value.bool false) from rfl)
  have k1 := (hK.rawCell 1).trans (show _ = some (Value.string (bb [0, 0, 0, 1])) from rfl)
  have z3 := (hK.p1.rawCell 3).trans (show _ = some (Value.bool true) from rfl)
  have z11 := (hK.p1.rawCell 11).trans (show _ = some (Value.slice (some ⟨bq, off, none⟩) l.length cap) from rfl)
  erw [hbit]
  clear hK x0 x1 x2 x3 x4 x5 x6 x7 x8 x9 x10 x11 y0 y1 y2 y3 y4 y5 y6 y7 y8 y9 y10 y11 c2 c3
  clear hbit
  go_wp2
  go_ret
  exact ⟨rfl, H.out.below⟩

theorem batchControls_any (s : Bs) (w : World) (hl : s.length ≤ 9223372036854775807) :
    Calls Try.prog 7 #[.string (bb s)] w fun en w' => en = .returned (.bool true) ∧ Below w.heap.size w w' := by
  have h : St w w Know.none [] := St.start trivial
  by_cases h1 : 1500 < s.length
  · exact bc_long s hl h1 h
  cases hd : batD s with
  | error e => exact bc_none s hl (by omega) e hd h
  | ok b =>
    obtain ⟨base, leader, app, txn, ctl, last, first, maxt, prod, epoch, seq, rs⟩ := b
    cases ctl with
    | false => exact bc_plain s hl (by omega) base leader last first maxt prod epoch seq app txn rs hd h
    | true =>
      obtain ⟨_, _, _, _, he, _⟩ := batD_bits hd
      obtain ⟨x, hx, hc, _⟩ := batErr_ctl _ he rfl
      obtain ⟨k1, k2 | k2⟩ := ctlOf_key hc
      · exact bc_ctl0 s hl (by omega) base leader last first maxt prod epoch seq app txn rs hd x hx k1 k2 h
      · exact bc_ctl1 s hl (by omega) base leader last first maxt prod epoch seq app txn rs hd x hx k1 k2 h

end Go.Proofs.Ytcjgdlfcfcabiaa

/- Whatever bytes are read as a control batch are of a transaction, have just one record, and a key that says how it ends: proved of every text. -/
namespace Go.Proofs.Ytcjgdlfcfcabiaa
open Go.ChangeShapes Go.WideShapes Go.ChangeAt Go.ChangeMaps Go.RowKit

set_option maxRecDepth 100000 in
theorem batchControls_lifted (os : Os) (started : os.Started) (H : Type) (enc : TypeId × Value → H) :
    ReturnsInHanded {} Try.checked os 7 .any (Rows.batchControlsSpec.pre6 enc Try.prog Try.f7 Rows.batchControlsRow.domain false) (Rows.batchControlsSpec.post enc Try.prog Try.f7 false true false false) := by
  refine returnsInHanded_of_change (C := Try.checked) Try.own started (by as_aux_lemma => kernel_rfl) Try.func7
    (ChangeSpec.witness6 (enc := enc) (C := Try.checked) false ⟨#[], #[.string ⟨#[]⟩], []⟩ 8 (by as_aux_lemma => kernel_rfl) (by as_aux_lemma => kernel_rfl) (by as_aux_lemma => kernel_rfl) (by as_aux_lemma => kernel_rfl)) ?_
  intro W base args ds gs before hval0 hW hcnd _
  have hval : ∀ (j : Nat) t v, Try.f7.params[j]? = some t → args[j]? = some v → Value.okWide Try.prog W .any base t v := hval0
  clear hval0
  refine law_contract (n := 1) (tb := 4) rfl rfl rfl Try.underlying4 (by intro ds h; match ds, h with | [d0], _ => rfl) (by as_aux_lemma => kernel_rfl) hW ?_
  intro p hA0 hlt
  have hA : DataW.TrodAll enc Try.prog W 0 (fun _ => true) true Try.f7.params.toList args.toList ds p := hA0
  clear hA0
  rw [Try.params7] at hA hval
  obtain ⟨v0, d0, rfl, rfl, h0⟩ := trodAll_one hA
  obtain ⟨s0, rfl, rfl, rfl, ws0⟩ := open_string Try.underlying9 (hval 0 9 v0 rfl rfl) h0
  exact batchControls_any s0.data.toList W ws0

theorem batchControls_holds : Rows.BatchControlsSaid :=
  OpenClaim.holds_of_wide 7 Try.f7 rfl rfl rfl rfl rfl rfl rfl ⟨rfl, rfl, rfl, rfl, rfl⟩ rfl rfl rfl rfl rfl (by as_aux_lemma => kernel_rfl) Try.func7 (by as_aux_lemma => kernel_rfl)
    (of_decide_eq_true (by as_aux_lemma => kernel_rfl)) (by as_aux_lemma => (unfold Func.isWrapper; rw [if_neg (by as_aux_lemma => decide +kernel)]; exact ⟨rfl, rfl⟩))
    (fun os started H enc _ => batchControls_lifted os started H enc)

end Go.Proofs.Ytcjgdlfcfcabiaa
