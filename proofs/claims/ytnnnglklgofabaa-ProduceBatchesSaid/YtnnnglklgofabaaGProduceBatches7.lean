/- A text. -/
import Derived.Test.YtnnnglklgofabaaGProduceBatches5
import Derived.Test.YtnnnglklgofabaaGProduceBatches6
import Derived.RegionTactic
import Derived.Deep.RegionHeld3
import Derived.Deep.DeepCutAuto
import Derived.WalkMore
/- A text. -/
namespace Go.Proofs.Ytnnnglklgofabaa
open Go.RowKit

set_option maxHeartbeats 2000000 in
set_option maxRecDepth 100000 in
theorem rqc_r0 (nl : Bool) (dd : Bs) (ac tm v : Int) (l : List PTop) (q : Option Addr) (cap : Nat) (hdd : dd.length ≤ 140737488355328) (hf : ∀ x ∈ l, CkT x) (hll : l.length ≤ 1000000) (hr : (⟨nl, dd⟩ : BlobS).right = false) {W0 w : World} {K : Know} {L : List Res} (hk : K.has (Know.ptops (.slice q l.length cap) l)) (h : St W0 w K L) :
  Calls Try.prog 18 #[.agg #[.bool nl, .string (bb dd), .int .i64 ac, .int .i64 tm, .slice q l.length cap], .int .i64 v] w fun en w' => en = .returned (.int .i64 4) ∧ St W0 w' K L := by
 obtain ⟨rb, hrb⟩ : ∃ b, w.heap.size = b := ⟨_, rfl⟩
 have g1 := h.allocRaw #[.bool nl, .string (bb dd), .int .i64 ac, .int .i64 tm, .slice q l.length cap] 29
 rw [hrb] at g1
 have z0 := g1.rawCell 0; have z1 := g1.rawCell 1; have z2 := g1.rawCell 2; have z3 := g1.rawCell 3; have z4 := g1.rawCell 4; simp at z0 z1 z2 z3 z4
 have H := Lib.hid g1
 have HK := Lib.hid hk
 have HF := Lib.hid hf
 have HTF := Lib.hid (ckT_few hf)
 have HLL := Lib.hid hll
 have HDL := Lib.hid hdd
 have HBR := Lib.hid hr
 clear h g1 hk hf hll hdd hr
 go_enter Try.func18, Try.ntmps18
 go_wp2_with (first
  | (go_at_call 42; clear z0 z1 z2 z3 z4; (with_reducible refine (pblob_rightQ nl dd false HBR.out H.out).mono ?_); rintro e_ wn ⟨rfl, h⟩; have z0 := h.rawCell 0; have z1 := h.rawCell 1; have z2 := h.rawCell 2; have z3 := h.rawCell 3; have z4 := h.rawCell 4; simp at z0 z1 z2 z3 z4; replace H := Lib.hid h; clear h))
 go_ret
 exact ⟨rfl, H.out.drop⟩

set_option maxHeartbeats 2000000 in
set_option maxRecDepth 100000 in
theorem rqc_k0 (dd : Bs) (ac tm v : Int) (l : List PTop) (q : Option Addr) (cap : Nat) (hdd : dd.length ≤ 140737488355328) (hf : ∀ x ∈ l, CkT x) (hll : l.length ≤ 1000000) (hr : (⟨false, dd⟩ : BlobS).right = true) (hkr : keyRight dd = false) {W0 w : World} {K : Know} {L : List Res} (hk : K.has (Know.ptops (.slice q l.length cap) l)) (h : St W0 w K L) :
  Calls Try.prog 18 #[.agg #[.bool false, .string (bb dd), .int .i64 ac, .int .i64 tm, .slice q l.length cap], .int .i64 v] w fun en w' => en = .returned (.int .i64 4) ∧ St W0 w' K L := by
 obtain ⟨rb, hrb⟩ : ∃ b, w.heap.size = b := ⟨_, rfl⟩
 have g1 := h.allocRaw #[.bool false, .string (bb dd), .int .i64 ac, .int .i64 tm, .slice q l.length cap] 29
 rw [hrb] at g1
 have z0 := g1.rawCell 0; have z1 := g1.rawCell 1; have z2 := g1.rawCell 2; have z3 := g1.rawCell 3; have z4 := g1.rawCell 4; simp at z0 z1 z2 z3 z4
 have H := Lib.hid g1
 have HK := Lib.hid hk
 have HF := Lib.hid hf
 have HTF := Lib.hid (ckT_few hf)
 have HLL := Lib.hid hll
 have HDL := Lib.hid hdd
 have HBR := Lib.hid hr
 have HKR := Lib.hid hkr
 clear h g1 hk hf hll hdd hr hkr
 go_enter Try.func18, Try.ntmps18
 go_wp2_with (first
  | (go_at_call 42; clear z0 z1 z2 z3 z4; (with_reducible refine (pblob_rightQ false dd true HBR.out H.out).mono ?_); rintro e_ wn ⟨rfl, h⟩; have z0 := h.rawCell 0; have z1 := h.rawCell 1; have z2 := h.rawCell 2; have z3 := h.rawCell 3; have z4 := h.rawCell 4; simp at z0 z1 z2 z3 z4; replace H := Lib.hid h; clear h)
  | (go_at_call 43; clear z0 z1 z2 z3 z4; (with_reducible refine (key_rightQ dd false HKR.out HDL.out H.out).mono ?_); rintro e_ wn ⟨rfl, h⟩; have z0 := h.rawCell 0; have z1 := h.rawCell 1; have z2 := h.rawCell 2; have z3 := h.rawCell 3; have z4 := h.rawCell 4; simp at z0 z1 z2 z3 z4; replace H := Lib.hid h; clear h))
 go_ret
 exact ⟨rfl, H.out.drop⟩

set_option maxHeartbeats 2000000 in
set_option maxRecDepth 100000 in
theorem rqc_a1_true (dd : Bs) (ac tm v : Int) (l : List PTop) (q : Option Addr) (cap : Nat) (hdd : dd.length ≤ 140737488355328) (hf : ∀ x ∈ l, CkT x) (hll : l.length ≤ 1000000) (hr : (⟨true, dd⟩ : BlobS).right = true) (n1 : ac < -1) {W0 w : World} {K : Know} {L : List Res} (hk : K.has (Know.ptops (.slice q l.length cap) l)) (h : St W0 w K L) :
  Calls Try.prog 18 #[.agg #[.bool true, .string (bb dd), .int .i64 ac, .int .i64 tm, .slice q l.length cap], .int .i64 v] w fun en w' => en = .returned (.int .i64 11) ∧ St W0 w' K L := by
 obtain ⟨rb, hrb⟩ : ∃ b, w.heap.size = b := ⟨_, rfl⟩
 have g1 := h.allocRaw #[.bool true, .string (bb dd), .int .i64 ac, .int .i64 tm, .slice q l.length cap] 29
 rw [hrb] at g1
 have z0 := g1.rawCell 0; have z1 := g1.rawCell 1; have z2 := g1.rawCell 2; have z3 := g1.rawCell 3; have z4 := g1.rawCell 4; simp at z0 z1 z2 z3 z4
 have H := Lib.hid g1
 have HK := Lib.hid hk
 have HF := Lib.hid hf
 have HTF := Lib.hid (ckT_few hf)
 have HLL := Lib.hid hll
 have HDL := Lib.hid hdd
 have HBR := Lib.hid hr
 have d1 : decide (ac < -1) = true := decide_eq_true n1
 clear h g1 hk hf hll hdd hr n1
 go_enter Try.func18, Try.ntmps18
 go_wp2_with (first
  | (go_at_call 42; clear z0 z1 z2 z3 z4; (with_reducible refine (pblob_rightQ true dd true HBR.out H.out).mono ?_); rintro e_ wn ⟨rfl, h⟩; have z0 := h.rawCell 0; have z1 := h.rawCell 1; have z2 := h.rawCell 2; have z3 := h.rawCell 3; have z4 := h.rawCell 4; simp at z0 z1 z2 z3 z4; replace H := Lib.hid h; clear h))
 go_ret
 exact ⟨rfl, H.out.drop⟩

set_option maxHeartbeats 2000000 in
set_option maxRecDepth 100000 in
theorem rqc_a2_true (dd : Bs) (ac tm v : Int) (l : List PTop) (q : Option Addr) (cap : Nat) (hdd : dd.length ≤ 140737488355328) (hf : ∀ x ∈ l, CkT x) (hll : l.length ≤ 1000000) (hr : (⟨true, dd⟩ : BlobS).right = true) (n1 : ¬ ac < -1) (n2 : 1 < ac) {W0 w : World} {K : Know} {L : List Res} (hk : K.has (Know.ptops (.slice q l.length cap) l)) (h : St W0 w K L) :
  Calls Try.prog 18 #[.agg #[.bool true, .string (bb dd), .int .i64 ac, .int .i64 tm, .slice q l.length cap], .int .i64 v] w fun en w' => en = .returned (.int .i64 11) ∧ St W0 w' K L := by
 obtain ⟨rb, hrb⟩ : ∃ b, w.heap.size = b := ⟨_, rfl⟩
 have g1 := h.allocRaw #[.bool true, .string (bb dd), .int .i64 ac, .int .i64 tm, .slice q l.length cap] 29
 rw [hrb] at g1
 have z0 := g1.rawCell 0; have z1 := g1.rawCell 1; have z2 := g1.rawCell 2; have z3 := g1.rawCell 3; have z4 := g1.rawCell 4; simp at z0 z1 z2 z3 z4
 have H := Lib.hid g1
 have HK := Lib.hid hk
 have HF := Lib.hid hf
 have HTF := Lib.hid (ckT_few hf)
 have HLL := Lib.hid hll
 have HDL := Lib.hid hdd
 have HBR := Lib.hid hr
 have d1 : decide (ac < -1) = false := decide_eq_false n1
 have d2 : decide (1 < ac) = true := decide_eq_true n2
 clear h g1 hk hf hll hdd hr n1 n2
 go_enter Try.func18, Try.ntmps18
 go_wp2_with (first
  | (go_at_call 42; clear z0 z1 z2 z3 z4; (with_reducible refine (pblob_rightQ true dd true HBR.out H.out).mono ?_); rintro e_ wn ⟨rfl, h⟩; have z0 := h.rawCell 0; have z1 := h.rawCell 1; have z2 := h.rawCell 2; have z3 := h.rawCell 3; have z4 := h.rawCell 4; simp at z0 z1 z2 z3 z4; replace H := Lib.hid h; clear h))
 go_ret
 exact ⟨rfl, H.out.drop⟩

set_option maxHeartbeats 2000000 in
set_option maxRecDepth 100000 in
theorem rqc_a3_true (dd : Bs) (ac tm v : Int) (l : List PTop) (q : Option Addr) (cap : Nat) (hdd : dd.length ≤ 140737488355328) (hf : ∀ x ∈ l, CkT x) (hll : l.length ≤ 1000000) (hr : (⟨true, dd⟩ : BlobS).right = true) (n1 : ¬ ac < -1) (n2 : ¬ 1 < ac) (n3 : tm < 0) {W0 w : World} {K : Know} {L : List Res} (hk : K.has (Know.ptops (.slice q l.length cap) l)) (h : St W0 w K L) :
  Calls Try.prog 18 #[.agg #[.bool true, .string (bb dd), .int .i64 ac, .int .i64 tm, .slice q l.length cap], .int .i64 v] w fun en w' => en = .returned (.int .i64 11) ∧ St W0 w' K L := by
 obtain ⟨rb, hrb⟩ : ∃ b, w.heap.size = b := ⟨_, rfl⟩
 have g1 := h.allocRaw #[.bool true, .string (bb dd), .int .i64 ac, .int .i64 tm, .slice q l.length cap] 29
 rw [hrb] at g1
 have z0 := g1.rawCell 0; have z1 := g1.rawCell 1; have z2 := g1.rawCell 2; have z3 := g1.rawCell 3; have z4 := g1.rawCell 4; simp at z0 z1 z2 z3 z4
 have H := Lib.hid g1
 have HK := Lib.hid hk
 have HF := Lib.hid hf
 have HTF := Lib.hid (ckT_few hf)
 have HLL := Lib.hid hll
 have HDL := Lib.hid hdd
 have HBR := Lib.hid hr
 have d1 : decide (ac < -1) = false := decide_eq_false n1
 have d2 : decide (1 < ac) = false := decide_eq_false n2
 have d3 : decide (tm < 0) = true := decide_eq_true n3
 clear h g1 hk hf hll hdd hr n1 n2 n3
 go_enter Try.func18, Try.ntmps18
 go_wp2_with (first
  | (go_at_call 42; clear z0 z1 z2 z3 z4; (with_reducible refine (pblob_rightQ true dd true HBR.out H.out).mono ?_); rintro e_ wn ⟨rfl, h⟩; have z0 := h.rawCell 0; have z1 := h.rawCell 1; have z2 := h.rawCell 2; have z3 := h.rawCell 3; have z4 := h.rawCell 4; simp at z0 z1 z2 z3 z4; replace H := Lib.hid h; clear h))
 go_ret
 exact ⟨rfl, H.out.drop⟩

set_option maxHeartbeats 2000000 in
set_option maxRecDepth 100000 in
theorem rqc_a4_true (dd : Bs) (ac tm v : Int) (l : List PTop) (q : Option Addr) (cap : Nat) (hdd : dd.length ≤ 140737488355328) (hf : ∀ x ∈ l, CkT x) (hll : l.length ≤ 1000000) (hr : (⟨true, dd⟩ : BlobS).right = true) (n1 : ¬ ac < -1) (n2 : ¬ 1 < ac) (n3 : ¬ tm < 0) (n4 : 2147483647 < tm) {W0 w : World} {K : Know} {L : List Res} (hk : K.has (Know.ptops (.slice q l.length cap) l)) (h : St W0 w K L) :
  Calls Try.prog 18 #[.agg #[.bool true, .string (bb dd), .int .i64 ac, .int .i64 tm, .slice q l.length cap], .int .i64 v] w fun en w' => en = .returned (.int .i64 11) ∧ St W0 w' K L := by
 obtain ⟨rb, hrb⟩ : ∃ b, w.heap.size = b := ⟨_, rfl⟩
 have g1 := h.allocRaw #[.bool true, .string (bb dd), .int .i64 ac, .int .i64 tm, .slice q l.length cap] 29
 rw [hrb] at g1
 have z0 := g1.rawCell 0; have z1 := g1.rawCell 1; have z2 := g1.rawCell 2; have z3 := g1.rawCell 3; have z4 := g1.rawCell 4; simp at z0 z1 z2 z3 z4
 have H := Lib.hid g1
 have HK := Lib.hid hk
 have HF := Lib.hid hf
 have HTF := Lib.hid (ckT_few hf)
 have HLL := Lib.hid hll
 have HDL := Lib.hid hdd
 have HBR := Lib.hid hr
 have d1 : decide (ac < -1) = false := decide_eq_false n1
 have d2 : decide (1 < ac) = false := decide_eq_false n2
 have d3 : decide (tm < 0) = false := decide_eq_false n3
 have d4 : decide (2147483647 < tm) = true := decide_eq_true n4
 clear h g1 hk hf hll hdd hr n1 n2 n3 n4
 go_enter Try.func18, Try.ntmps18
 go_wp2_with (first
  | (go_at_call 42; clear z0 z1 z2 z3 z4; (with_reducible refine (pblob_rightQ true dd true HBR.out H.out).mono ?_); rintro e_ wn ⟨rfl, h⟩; have z0 := h.rawCell 0; have z1 := h.rawCell 1; have z2 := h.rawCell 2; have z3 := h.rawCell 3; have z4 := h.rawCell 4; simp at z0 z1 z2 z3 z4; replace H := Lib.hid h; clear h))
 go_ret
 exact ⟨rfl, H.out.drop⟩

set_option maxHeartbeats 2000000 in
set_option maxRecDepth 100000 in
theorem rqc_t_true (dd : Bs) (ac tm v : Int) (l : List PTop) (q : Option Addr) (cap : Nat) (hdd : dd.length ≤ 140737488355328) (hf : ∀ x ∈ l, CkT x) (hll : l.length ≤ 1000000) (hr : (⟨true, dd⟩ : BlobS).right = true) (n1 : ¬ ac < -1) (n2 : ¬ 1 < ac) (n3 : ¬ tm < 0) (n4 : ¬ 2147483647 < tm) (e : Int) (het : errTops l = e) (h0 : e ≠ 0) {W0 w : World} {K : Know} {L : List Res} (hk : K.has (Know.ptops (.slice q l.length cap) l)) (h : St W0 w K L) :
  Calls Try.prog 18 #[.agg #[.bool true, .string (bb dd), .int .i64 ac, .int .i64 tm, .slice q l.length cap], .int .i64 v] w fun en w' => en = .returned (.int .i64 e) ∧ St W0 w' K L := by
 obtain ⟨rb, hrb⟩ : ∃ b, w.heap.size = b := ⟨_, rfl⟩
 have g1 := h.allocRaw #[.bool true, .string (bb dd), .int .i64 ac, .int .i64 tm, .slice q l.length cap] 29
 rw [hrb] at g1
 have z0 := g1.rawCell 0; have z1 := g1.rawCell 1; have z2 := g1.rawCell 2; have z3 := g1.rawCell 3; have z4 := g1.rawCell 4; simp at z0 z1 z2 z3 z4
 have H := Lib.hid g1
 have HK := Lib.hid hk
 have HF := Lib.hid hf
 have HTF := Lib.hid (ckT_few hf)
 have HLL := Lib.hid hll
 have HDL := Lib.hid hdd
 have HBR := Lib.hid hr
 have d1 : decide (ac < -1) = false := decide_eq_false n1
 have d2 : decide (1 < ac) = false := decide_eq_false n2
 have d3 : decide (tm < 0) = false := decide_eq_false n3
 have d4 : decide (2147483647 < tm) = false := decide_eq_false n4
 have HET := Lib.hid het
 have e1 : (e == 0) = false := by rw [beq_eq_false_iff_ne]; exact h0
 have e3 : (e != 0) = true := by simp [bne, e1]
 clear h g1 hk hf hll hdd hr n1 n2 n3 n4 het h0
 go_enter Try.func18, Try.ntmps18
 go_wp2_with (first
  | (go_at_call 42; clear z0 z1 z2 z3 z4; (with_reducible refine (pblob_rightQ true dd true HBR.out H.out).mono ?_); rintro e_ wn ⟨rfl, h⟩; have z0 := h.rawCell 0; have z1 := h.rawCell 1; have z2 := h.rawCell 2; have z3 := h.rawCell 3; have z4 := h.rawCell 4; simp at z0 z1 z2 z3 z4; replace H := Lib.hid h; clear h)
  | (go_at_call 44; clear z0 z1 z2 z3 z4; (with_reducible refine (check_topics l q cap e HET.out HTF.out HLL.out HK.out H.out).mono ?_); rintro e_ wn ⟨rfl, h⟩; have z0 := h.rawCell 0; have z1 := h.rawCell 1; have z2 := h.rawCell 2; have z3 := h.rawCell 3; have z4 := h.rawCell 4; simp at z0 z1 z2 z3 z4; replace H := Lib.hid h; clear h))
 go_ret
 exact ⟨rfl, H.out.drop⟩

set_option maxHeartbeats 2000000 in
set_option maxRecDepth 100000 in
theorem rqc_p_true (dd : Bs) (ac tm v : Int) (l : List PTop) (q : Option Addr) (cap : Nat) (hdd : dd.length ≤ 140737488355328) (hf : ∀ x ∈ l, CkT x) (hll : l.length ≤ 1000000) (hr : (⟨true, dd⟩ : BlobS).right = true) (n1 : ¬ ac < -1) (n2 : ¬ 1 < ac) (n3 : ¬ tm < 0) (n4 : ¬ 2147483647 < tm) (het : errTops l = 0) (e : Int) (hep : errPT (!true) v l = e) {W0 w : World} {K : Know} {L : List Res} (hk : K.has (Know.ptops (.slice q l.length cap) l)) (h : St W0 w K L) :
  Calls Try.prog 18 #[.agg #[.bool true, .string (bb dd), .int .i64 ac, .int .i64 tm, .slice q l.length cap], .int .i64 v] w fun en w' => en = .returned (.int .i64 e) ∧ St W0 w' K L := by
 obtain ⟨rb, hrb⟩ : ∃ b, w.heap.size = b := ⟨_, rfl⟩
 have g1 := h.allocRaw #[.bool true, .string (bb dd), .int .i64 ac, .int .i64 tm, .slice q l.length cap] 29
 rw [hrb] at g1
 have z0 := g1.rawCell 0; have z1 := g1.rawCell 1; have z2 := g1.rawCell 2; have z3 := g1.rawCell 3; have z4 := g1.rawCell 4; simp at z0 z1 z2 z3 z4
 have H := Lib.hid g1
 have HK := Lib.hid hk
 have HF := Lib.hid hf
 have HTF := Lib.hid (ckT_few hf)
 have HLL := Lib.hid hll
 have HDL := Lib.hid hdd
 have HBR := Lib.hid hr
 have d1 : decide (ac < -1) = false := decide_eq_false n1
 have d2 : decide (1 < ac) = false := decide_eq_false n2
 have d3 : decide (tm < 0) = false := decide_eq_false n3
 have d4 : decide (2147483647 < tm) = false := decide_eq_false n4
 have HET := Lib.hid het
 have HEP := Lib.hid hep
 clear h g1 hk hf hll hdd hr n1 n2 n3 n4 het hep
 go_enter Try.func18, Try.ntmps18
 go_wp2_with (first
  | (go_at_call 42; clear z0 z1 z2 z3 z4; (with_reducible refine (pblob_rightQ true dd true HBR.out H.out).mono ?_); rintro e_ wn ⟨rfl, h⟩; have z0 := h.rawCell 0; have z1 := h.rawCell 1; have z2 := h.rawCell 2; have z3 := h.rawCell 3; have z4 := h.rawCell 4; simp at z0 z1 z2 z3 z4; replace H := Lib.hid h; clear h)
  | (go_at_call 44; clear z0 z1 z2 z3 z4; (with_reducible refine (check_topics l q cap 0 HET.out HTF.out HLL.out HK.out H.out).mono ?_); rintro e_ wn ⟨rfl, h⟩; have z0 := h.rawCell 0; have z1 := h.rawCell 1; have z2 := h.rawCell 2; have z3 := h.rawCell 3; have z4 := h.rawCell 4; simp at z0 z1 z2 z3 z4; replace H := Lib.hid h; clear h)
  | (go_at_call 45; clear z0 z1 z2 z3 z4; (with_reducible refine (check_parts true dd ac tm v l q cap e HEP.out HF.out HLL.out HK.out H.out).mono ?_); rintro e_ wn ⟨rfl, h⟩; have z0 := h.rawCell 0; have z1 := h.rawCell 1; have z2 := h.rawCell 2; have z3 := h.rawCell 3; have z4 := h.rawCell 4; simp at z0 z1 z2 z3 z4; replace H := Lib.hid h; clear h))
 go_ret
 exact ⟨rfl, H.out.drop⟩

set_option maxHeartbeats 2000000 in
set_option maxRecDepth 100000 in
theorem rqc_a1_false (dd : Bs) (ac tm v : Int) (l : List PTop) (q : Option Addr) (cap : Nat) (hdd : dd.length ≤ 140737488355328) (hf : ∀ x ∈ l, CkT x) (hll : l.length ≤ 1000000) (hr : (⟨false, dd⟩ : BlobS).right = true) (hkr : keyRight dd = true) (n1 : ac < -1) {W0 w : World} {K : Know} {L : List Res} (hk : K.has (Know.ptops (.slice q l.length cap) l)) (h : St W0 w K L) :
  Calls Try.prog 18 #[.agg #[.bool false, .string (bb dd), .int .i64 ac, .int .i64 tm, .slice q l.length cap], .int .i64 v] w fun en w' => en = .returned (.int .i64 11) ∧ St W0 w' K L := by
 obtain ⟨rb, hrb⟩ : ∃ b, w.heap.size = b := ⟨_, rfl⟩
 have g1 := h.allocRaw #[.bool false, .string (bb dd), .int .i64 ac, .int .i64 tm, .slice q l.length cap] 29
 rw [hrb] at g1
 have z0 := g1.rawCell 0; have z1 := g1.rawCell 1; have z2 := g1.rawCell 2; have z3 := g1.rawCell 3; have z4 := g1.rawCell 4; simp at z0 z1 z2 z3 z4
 have H := Lib.hid g1
 have HK := Lib.hid hk
 have HF := Lib.hid hf
 have HTF := Lib.hid (ckT_few hf)
 have HLL := Lib.hid hll
 have HDL := Lib.hid hdd
 have HBR := Lib.hid hr
 have HKR := Lib.hid hkr
 have d1 : decide (ac < -1) = true := decide_eq_true n1
 clear h g1 hk hf hll hdd hr hkr n1
 go_enter Try.func18, Try.ntmps18
 go_wp2_with (first
  | (go_at_call 42; clear z0 z1 z2 z3 z4; (with_reducible refine (pblob_rightQ false dd true HBR.out H.out).mono ?_); rintro e_ wn ⟨rfl, h⟩; have z0 := h.rawCell 0; have z1 := h.rawCell 1; have z2 := h.rawCell 2; have z3 := h.rawCell 3; have z4 := h.rawCell 4; simp at z0 z1 z2 z3 z4; replace H := Lib.hid h; clear h)
  | (go_at_call 43; clear z0 z1 z2 z3 z4; (with_reducible refine (key_rightQ dd true HKR.out HDL.out H.out).mono ?_); rintro e_ wn ⟨rfl, h⟩; have z0 := h.rawCell 0; have z1 := h.rawCell 1; have z2 := h.rawCell 2; have z3 := h.rawCell 3; have z4 := h.rawCell 4; simp at z0 z1 z2 z3 z4; replace H := Lib.hid h; clear h))
 go_ret
 exact ⟨rfl, H.out.drop⟩

set_option maxHeartbeats 2000000 in
set_option maxRecDepth 100000 in
theorem rqc_a2_false (dd : Bs) (ac tm v : Int) (l : List PTop) (q : Option Addr) (cap : Nat) (hdd : dd.length ≤ 140737488355328) (hf : ∀ x ∈ l, CkT x) (hll : l.length ≤ 1000000) (hr : (⟨false, dd⟩ : BlobS).right = true) (hkr : keyRight dd = true) (n1 : ¬ ac < -1) (n2 : 1 < ac) {W0 w : World} {K : Know} {L : List Res} (hk : K.has (Know.ptops (.slice q l.length cap) l)) (h : St W0 w K L) :
  Calls Try.prog 18 #[.agg #[.bool false, .string (bb dd), .int .i64 ac, .int .i64 tm, .slice q l.length cap], .int .i64 v] w fun en w' => en = .returned (.int .i64 11) ∧ St W0 w' K L := by
 obtain ⟨rb, hrb⟩ : ∃ b, w.heap.size = b := ⟨_, rfl⟩
 have g1 := h.allocRaw #[.bool false, .string (bb dd), .int .i64 ac, .int .i64 tm, .slice q l.length cap] 29
 rw [hrb] at g1
 have z0 := g1.rawCell 0; have z1 := g1.rawCell 1; have z2 := g1.rawCell 2; have z3 := g1.rawCell 3; have z4 := g1.rawCell 4; simp at z0 z1 z2 z3 z4
 have H := Lib.hid g1
 have HK := Lib.hid hk
 have HF := Lib.hid hf
 have HTF := Lib.hid (ckT_few hf)
 have HLL := Lib.hid hll
 have HDL := Lib.hid hdd
 have HBR := Lib.hid hr
 have HKR := Lib.hid hkr
 have d1 : decide (ac < -1) = false := decide_eq_false n1
 have d2 : decide (1 < ac) = true := decide_eq_true n2
 clear h g1 hk hf hll hdd hr hkr n1 n2
 go_enter Try.func18, Try.ntmps18
 go_wp2_with (first
  | (go_at_call 42; clear z0 z1 z2 z3 z4; (with_reducible refine (pblob_rightQ false dd true HBR.out H.out).mono ?_); rintro e_ wn ⟨rfl, h⟩; have z0 := h.rawCell 0; have z1 := h.rawCell 1; have z2 := h.rawCell 2; have z3 := h.rawCell 3; have z4 := h.rawCell 4; simp at z0 z1 z2 z3 z4; replace H := Lib.hid h; clear h)
  | (go_at_call 43; clear z0 z1 z2 z3 z4; (with_reducible refine (key_rightQ dd true HKR.out HDL.out H.out).mono ?_); rintro e_ wn ⟨rfl, h⟩; have z0 := h.rawCell 0; have z1 := h.rawCell 1; have z2 := h.rawCell 2; have z3 := h.rawCell 3; have z4 := h.rawCell 4; simp at z0 z1 z2 z3 z4; replace H := Lib.hid h; clear h))
 go_ret
 exact ⟨rfl, H.out.drop⟩

set_option maxHeartbeats 2000000 in
set_option maxRecDepth 100000 in
theorem rqc_a3_false (dd : Bs) (ac tm v : Int) (l : List PTop) (q : Option Addr) (cap : Nat) (hdd : dd.length ≤ 140737488355328) (hf : ∀ x ∈ l, CkT x) (hll : l.length ≤ 1000000) (hr : (⟨false, dd⟩ : BlobS).right = true) (hkr : keyRight dd = true) (n1 : ¬ ac < -1) (n2 : ¬ 1 < ac) (n3 : tm < 0) {W0 w : World} {K : Know} {L : List Res} (hk : K.has (Know.ptops (.slice q l.length cap) l)) (h : St W0 w K L) :
  Calls Try.prog 18 #[.agg #[.bool false, .string (bb dd), .int .i64 ac, .int .i64 tm, .slice q l.length cap], .int .i64 v] w fun en w' => en = .returned (.int .i64 11) ∧ St W0 w' K L := by
 obtain ⟨rb, hrb⟩ : ∃ b, w.heap.size = b := ⟨_, rfl⟩
 have g1 := h.allocRaw #[.bool false, .string (bb dd), .int .i64 ac, .int .i64 tm, .slice q l.length cap] 29
 rw [hrb] at g1
 have z0 := g1.rawCell 0; have z1 := g1.rawCell 1; have z2 := g1.rawCell 2; have z3 := g1.rawCell 3; have z4 := g1.rawCell 4; simp at z0 z1 z2 z3 z4
 have H := Lib.hid g1
 have HK := Lib.hid hk
 have HF := Lib.hid hf
 have HTF := Lib.hid (ckT_few hf)
 have HLL := Lib.hid hll
 have HDL := Lib.hid hdd
 have HBR := Lib.hid hr
 have HKR := Lib.hid hkr
 have d1 : decide (ac < -1) = false := decide_eq_false n1
 have d2 : decide (1 < ac) = false := decide_eq_false n2
 have d3 : decide (tm < 0) = true := decide_eq_true n3
 clear h g1 hk hf hll hdd hr hkr n1 n2 n3
 go_enter Try.func18, Try.ntmps18
 go_wp2_with (first
  | (go_at_call 42; clear z0 z1 z2 z3 z4; (with_reducible refine (pblob_rightQ false dd true HBR.out H.out).mono ?_); rintro e_ wn ⟨rfl, h⟩; have z0 := h.rawCell 0; have z1 := h.rawCell 1; have z2 := h.rawCell 2; have z3 := h.rawCell 3; have z4 := h.rawCell 4; simp at z0 z1 z2 z3 z4; replace H := Lib.hid h; clear h)
  | (go_at_call 43; clear z0 z1 z2 z3 z4; (with_reducible refine (key_rightQ dd true HKR.out HDL.out H.out).mono ?_); rintro e_ wn ⟨rfl, h⟩; have z0 := h.rawCell 0; have z1 := h.rawCell 1; have z2 := h.rawCell 2; have z3 := h.rawCell 3; have z4 := h.rawCell 4; simp at z0 z1 z2 z3 z4; replace H := Lib.hid h; clear h))
 go_ret
 exact ⟨rfl, H.out.drop⟩

set_option maxHeartbeats 2000000 in
set_option maxRecDepth 100000 in
theorem rqc_a4_false (dd : Bs) (ac tm v : Int) (l : List PTop) (q : Option Addr) (cap : Nat) (hdd : dd.length ≤ 140737488355328) (hf : ∀ x ∈ l, CkT x) (hll : l.length ≤ 1000000) (hr : (⟨false, dd⟩ : BlobS).right = true) (hkr : keyRight dd = true) (n1 : ¬ ac < -1) (n2 : ¬ 1 < ac) (n3 : ¬ tm < 0) (n4 : 2147483647 < tm) {W0 w : World} {K : Know} {L : List Res} (hk : K.has (Know.ptops (.slice q l.length cap) l)) (h : St W0 w K L) :
  Calls Try.prog 18 #[.agg #[.bool false, .string (bb dd), .int .i64 ac, .int .i64 tm, .slice q l.length cap], .int .i64 v] w fun en w' => en = .returned (.int .i64 11) ∧ St W0 w' K L := by
 obtain ⟨rb, hrb⟩ : ∃ b, w.heap.size = b := ⟨_, rfl⟩
 have g1 := h.allocRaw #[.bool false, .string (bb dd), .int .i64 ac, .int .i64 tm, .slice q l.length cap] 29
 rw [hrb] at g1
 have z0 := g1.rawCell 0; have z1 := g1.rawCell 1; have z2 := g1.rawCell 2; have z3 := g1.rawCell 3; have z4 := g1.rawCell 4; simp at z0 z1 z2 z3 z4
 have H := Lib.hid g1
 have HK := Lib.hid hk
 have HF := Lib.hid hf
 have HTF := Lib.hid (ckT_few hf)
 have HLL := Lib.hid hll
 have HDL := Lib.hid hdd
 have HBR := Lib.hid hr
 have HKR := Lib.hid hkr
 have d1 : decide (ac < -1) = false := decide_eq_false n1
 have d2 : decide (1 < ac) = false := decide_eq_false n2
 have d3 : decide (tm < 0) = false := decide_eq_false n3
 have d4 : decide (2147483647 < tm) = true := decide_eq_true n4
 clear h g1 hk hf hll hdd hr hkr n1 n2 n3 n4
 go_enter Try.func18, Try.ntmps18
 go_wp2_with (first
  | (go_at_call 42; clear z0 z1 z2 z3 z4; (with_reducible refine (pblob_rightQ false dd true HBR.out H.out).mono ?_); rintro e_ wn ⟨rfl, h⟩; have z0 := h.rawCell 0; have z1 := h.rawCell 1; have z2 := h.rawCell 2; have z3 := h.rawCell 3; have z4 := h.rawCell 4; simp at z0 z1 z2 z3 z4; replace H := Lib.hid h; clear h)
  | (go_at_call 43; clear z0 z1 z2 z3 z4; (with_reducible refine (key_rightQ dd true HKR.out HDL.out H.out).mono ?_); rintro e_ wn ⟨rfl, h⟩; have z0 := h.rawCell 0; have z1 := h.rawCell 1; have z2 := h.rawCell 2; have z3 := h.rawCell 3; have z4 := h.rawCell 4; simp at z0 z1 z2 z3 z4; replace H := Lib.hid h; clear h))
 go_ret
 exact ⟨rfl, H.out.drop⟩

set_option maxHeartbeats 2000000 in
set_option maxRecDepth 100000 in
theorem rqc_t_false (dd : Bs) (ac tm v : Int) (l : List PTop) (q : Option Addr) (cap : Nat) (hdd : dd.length ≤ 140737488355328) (hf : ∀ x ∈ l, CkT x) (hll : l.length ≤ 1000000) (hr : (⟨false, dd⟩ : BlobS).right = true) (hkr : keyRight dd = true) (n1 : ¬ ac < -1) (n2 : ¬ 1 < ac) (n3 : ¬ tm < 0) (n4 : ¬ 2147483647 < tm) (e : Int) (het : errTops l = e) (h0 : e ≠ 0) {W0 w : World} {K : Know} {L : List Res} (hk : K.has (Know.ptops (.slice q l.length cap) l)) (h : St W0 w K L) :
  Calls Try.prog 18 #[.agg #[.bool false, .string (bb dd), .int .i64 ac, .int .i64 tm, .slice q l.length cap], .int .i64 v] w fun en w' => en = .returned (.int .i64 e) ∧ St W0 w' K L := by
 obtain ⟨rb, hrb⟩ : ∃ b, w.heap.size = b := ⟨_, rfl⟩
 have g1 := h.allocRaw #[.bool false, .string (bb dd), .int .i64 ac, .int .i64 tm, .slice q l.length cap] 29
 rw [hrb] at g1
 have z0 := g1.rawCell 0; have z1 := g1.rawCell 1; have z2 := g1.rawCell 2; have z3 := g1.rawCell 3; have z4 := g1.rawCell 4; simp at z0 z1 z2 z3 z4
 have H := Lib.hid g1
 have HK := Lib.hid hk
 have HF := Lib.hid hf
 have HTF := Lib.hid (ckT_few hf)
 have HLL := Lib.hid hll
 have HDL := Lib.hid hdd
 have HBR := Lib.hid hr
 have HKR := Lib.hid hkr
 have d1 : decide (ac < -1) = false := decide_eq_false n1
 have d2 : decide (1 < ac) = false := decide_eq_false n2
 have d3 : decide (tm < 0) = false := decide_eq_false n3
 have d4 : decide (2147483647 < tm) = false := decide_eq_false n4
 have HET := Lib.hid het
 have e1 : (e == 0) = false := by rw [beq_eq_false_iff_ne]; exact h0
 have e3 : (e != 0) = true := by simp [bne, e1]
 clear h g1 hk hf hll hdd hr hkr n1 n2 n3 n4 het h0
 go_enter Try.func18, Try.ntmps18
 go_wp2_with (first
  | (go_at_call 42; clear z0 z1 z2 z3 z4; (with_reducible refine (pblob_rightQ false dd true HBR.out H.out).mono ?_); rintro e_ wn ⟨rfl, h⟩; have z0 := h.rawCell 0; have z1 := h.rawCell 1; have z2 := h.rawCell 2; have z3 := h.rawCell 3; have z4 := h.rawCell 4; simp at z0 z1 z2 z3 z4; replace H := Lib.hid h; clear h)
  | (go_at_call 43; clear z0 z1 z2 z3 z4; (with_reducible refine (key_rightQ dd true HKR.out HDL.out H.out).mono ?_); rintro e_ wn ⟨rfl, h⟩; have z0 := h.rawCell 0; have z1 := h.rawCell 1; have z2 := h.rawCell 2; have z3 := h.rawCell 3; have z4 := h.rawCell 4; simp at z0 z1 z2 z3 z4; replace H := Lib.hid h; clear h)
  | (go_at_call 44; clear z0 z1 z2 z3 z4; (with_reducible refine (check_topics l q cap e HET.out HTF.out HLL.out HK.out H.out).mono ?_); rintro e_ wn ⟨rfl, h⟩; have z0 := h.rawCell 0; have z1 := h.rawCell 1; have z2 := h.rawCell 2; have z3 := h.rawCell 3; have z4 := h.rawCell 4; simp at z0 z1 z2 z3 z4; replace H := Lib.hid h; clear h))
 go_ret
 exact ⟨rfl, H.out.drop⟩

set_option maxHeartbeats 2000000 in
set_option maxRecDepth 100000 in
theorem rqc_p_false (dd : Bs) (ac tm v : Int) (l : List PTop) (q : Option Addr) (cap : Nat) (hdd : dd.length ≤ 140737488355328) (hf : ∀ x ∈ l, CkT x) (hll : l.length ≤ 1000000) (hr : (⟨false, dd⟩ : BlobS).right = true) (hkr : keyRight dd = true) (n1 : ¬ ac < -1) (n2 : ¬ 1 < ac) (n3 : ¬ tm < 0) (n4 : ¬ 2147483647 < tm) (het : errTops l = 0) (e : Int) (hep : errPT (!false) v l = e) {W0 w : World} {K : Know} {L : List Res} (hk : K.has (Know.ptops (.slice q l.length cap) l)) (h : St W0 w K L) :
  Calls Try.prog 18 #[.agg #[.bool false, .string (bb dd), .int .i64 ac, .int .i64 tm, .slice q l.length cap], .int .i64 v] w fun en w' => en = .returned (.int .i64 e) ∧ St W0 w' K L := by
 obtain ⟨rb, hrb⟩ : ∃ b, w.heap.size = b := ⟨_, rfl⟩
 have g1 := h.allocRaw #[.bool false, .string (bb dd), .int .i64 ac, .int .i64 tm, .slice q l.length cap] 29
 rw [hrb] at g1
 have z0 := g1.rawCell 0; have z1 := g1.rawCell 1; have z2 := g1.rawCell 2; have z3 := g1.rawCell 3; have z4 := g1.rawCell 4; simp at z0 z1 z2 z3 z4
 have H := Lib.hid g1
 have HK := Lib.hid hk
 have HF := Lib.hid hf
 have HTF := Lib.hid (ckT_few hf)
 have HLL := Lib.hid hll
 have HDL := Lib.hid hdd
 have HBR := Lib.hid hr
 have HKR := Lib.hid hkr
 have d1 : decide (ac < -1) = false := decide_eq_false n1
 have d2 : decide (1 < ac) = false := decide_eq_false n2
 have d3 : decide (tm < 0) = false := decide_eq_false n3
 have d4 : decide (2147483647 < tm) = false := decide_eq_false n4
 have HET := Lib.hid het
 have HEP := Lib.hid hep
 clear h g1 hk hf hll hdd hr hkr n1 n2 n3 n4 het hep
 go_enter Try.func18, Try.ntmps18
 go_wp2_with (first
  | (go_at_call 42; clear z0 z1 z2 z3 z4; (with_reducible refine (pblob_rightQ false dd true HBR.out H.out).mono ?_); rintro e_ wn ⟨rfl, h⟩; have z0 := h.rawCell 0; have z1 := h.rawCell 1; have z2 := h.rawCell 2; have z3 := h.rawCell 3; have z4 := h.rawCell 4; simp at z0 z1 z2 z3 z4; replace H := Lib.hid h; clear h)
  | (go_at_call 43; clear z0 z1 z2 z3 z4; (with_reducible refine (key_rightQ dd true HKR.out HDL.out H.out).mono ?_); rintro e_ wn ⟨rfl, h⟩; have z0 := h.rawCell 0; have z1 := h.rawCell 1; have z2 := h.rawCell 2; have z3 := h.rawCell 3; have z4 := h.rawCell 4; simp at z0 z1 z2 z3 z4; replace H := Lib.hid h; clear h)
  | (go_at_call 44; clear z0 z1 z2 z3 z4; (with_reducible refine (check_topics l q cap 0 HET.out HTF.out HLL.out HK.out H.out).mono ?_); rintro e_ wn ⟨rfl, h⟩; have z0 := h.rawCell 0; have z1 := h.rawCell 1; have z2 := h.rawCell 2; have z3 := h.rawCell 3; have z4 := h.rawCell 4; simp at z0 z1 z2 z3 z4; replace H := Lib.hid h; clear h)
  | (go_at_call 45; clear z0 z1 z2 z3 z4; (with_reducible refine (check_parts false dd ac tm v l q cap e HEP.out HF.out HLL.out HK.out H.out).mono ?_); rintro e_ wn ⟨rfl, h⟩; have z0 := h.rawCell 0; have z1 := h.rawCell 1; have z2 := h.rawCell 2; have z3 := h.rawCell 3; have z4 := h.rawCell 4; simp at z0 z1 z2 z3 z4; replace H := Lib.hid h; clear h))
 go_ret
 exact ⟨rfl, H.out.drop⟩
theorem preq_check (nl : Bool) (dd : Bs) (ac tm v : Int) (l : List PTop) (q : Option Addr) (cap : Nat) (hdd : dd.length ≤ 140737488355328) (hf : ∀ x ∈ l, CkT x) (hll : l.length ≤ 1000000) (e : Int) (he : errReq ⟨nl, dd⟩ ac tm v l = e) {W0 w : World} {K : Know} {L : List Res} (hk : K.has (Know.ptops (.slice q l.length cap) l)) (h : St W0 w K L) :
  Calls Try.prog 18 #[.agg #[.bool nl, .string (bb dd), .int .i64 ac, .int .i64 tm, .slice q l.length cap], .int .i64 v] w fun en w' => en = .returned (.int .i64 e) ∧ St W0 w' K L := by
 unfold errReq at he
 cases hr : (⟨nl, dd⟩ : BlobS).right with
 | false =>
  rw [if_pos (.inl hr)] at he
  subst he
  exact rqc_r0 nl dd ac tm v l q cap hdd hf hll hr hk h
 | true =>
  cases nl with
  | true =>
   rw [if_neg (by simp [hr])] at he
   by_cases n1 : ac < -1
   · rw [if_pos (.inl n1)] at he; subst he; exact rqc_a1_true dd ac tm v l q cap hdd hf hll hr n1 hk h
   by_cases n2 : 1 < ac
   · rw [if_pos (.inr (.inl n2))] at he; subst he; exact rqc_a2_true dd ac tm v l q cap hdd hf hll hr n1 n2 hk h
   by_cases n3 : tm < 0
   · rw [if_pos (.inr (.inr (.inl n3)))] at he; subst he; exact rqc_a3_true dd ac tm v l q cap hdd hf hll hr n1 n2 n3 hk h
   by_cases n4 : 2147483647 < tm
   · rw [if_pos (.inr (.inr (.inr n4)))] at he; subst he; exact rqc_a4_true dd ac tm v l q cap hdd hf hll hr n1 n2 n3 n4 hk h
   rw [if_neg (by omega)] at he
   by_cases ht : errTops l = 0
   · rw [if_neg (by simp [ht])] at he
     exact rqc_p_true dd ac tm v l q cap hdd hf hll hr n1 n2 n3 n4 ht e he hk h
   · rw [if_pos ht] at he
     exact rqc_t_true dd ac tm v l q cap hdd hf hll hr n1 n2 n3 n4 e he (by rw [← he]; exact ht) hk h
  | false =>
   cases hkr : keyRight dd with
   | false =>
     rw [if_pos (.inr ⟨rfl, hkr⟩)] at he
     subst he
     exact rqc_k0 dd ac tm v l q cap hdd hf hll hr hkr hk h
   | true =>
     rw [if_neg (by simp [hr, hkr])] at he
     by_cases n1 : ac < -1
     · rw [if_pos (.inl n1)] at he; subst he; exact rqc_a1_false dd ac tm v l q cap hdd hf hll hr hkr n1 hk h
     by_cases n2 : 1 < ac
     · rw [if_pos (.inr (.inl n2))] at he; subst he; exact rqc_a2_false dd ac tm v l q cap hdd hf hll hr hkr n1 n2 hk h
     by_cases n3 : tm < 0
     · rw [if_pos (.inr (.inr (.inl n3)))] at he; subst he; exact rqc_a3_false dd ac tm v l q cap hdd hf hll hr hkr n1 n2 n3 hk h
     by_cases n4 : 2147483647 < tm
     · rw [if_pos (.inr (.inr (.inr n4)))] at he; subst he; exact rqc_a4_false dd ac tm v l q cap hdd hf hll hr hkr n1 n2 n3 n4 hk h
     rw [if_neg (by omega)] at he
     by_cases ht : errTops l = 0
     · rw [if_neg (by simp [ht])] at he
       exact rqc_p_false dd ac tm v l q cap hdd hf hll hr hkr n1 n2 n3 n4 ht e he hk h
     · rw [if_pos ht] at he
       exact rqc_t_false dd ac tm v l q cap hdd hf hll hr hkr n1 n2 n3 n4 e he (by rw [← he]; exact ht) hk h

end Go.Proofs.Ytnnnglklgofabaa
