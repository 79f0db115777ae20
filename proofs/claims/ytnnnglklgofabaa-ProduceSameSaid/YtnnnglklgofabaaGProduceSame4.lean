/- A text. -/
import Derived.Test.YtnnnglklgofabaaGProduceSame3
import Derived.RegionTactic
import Derived.Deep.RegionHeld3
import Derived.Deep.DeepCutAuto
import Derived.WalkMore
import Derived.Test.YtnnnglklgofabaaGProduceSame2
import Derived.Test.YtnnnglklgofabaaBlob2
import Derived.Test.YtnnnglklgofabaaS1
import Derived.Test.YtnnnglklgofabaaBlobP
import Derived.Test.YtnnnglklgofabaaHdr1
import Derived.Test.YtnnnglklgofabaaGProduceSame1
import Derived.Test.YtnnnglklgofabaaBlob1
import Derived.Test.YtnnnglklgofabaaRecs
import Derived.Test.YtnnnglklgofabaaGrow
import Derived.Test.YtnnnglklgofabaaOut
import Derived.Test.YtnnnglklgofabaaRec5
/- A text. -/
namespace Go.Proofs.Ytnnnglklgofabaa
open Go.RowKit

set_option maxHeartbeats 2000000 in
set_option maxRecDepth 100000 in
theorem rqc_r0 (nl : Bool) (dd : Bs) (ac tm v : Int) (l : List PTop) (q : Option Addr) (cap : Nat) (hdd : dd.length ≤ 140737488355328) (hf : ∀ x ∈ l, CkT x) (hll : l.length ≤ 1000000) (hr : (⟨nl, dd⟩ : BlobS).right = false) {W0 w : World} {K : Know} {L : List Res} (hk : K.has (Know.ptops (.slice q l.length cap) l)) (h : St W0 w K L) :
  Calls Try.prog 18 #[.agg #[.bool nl, .string (bb dd), .int .i64 ac, .int .i64 tm, .slice q l.length cap], .int .i64 v] w fun en w' => en = .returned (.int .i64 4) ∧ St W0 w' K L := by
 obtain ⟨rb, hrb⟩ : ∃ b, w.heap.size = b := ⟨_, rfl⟩
 have g1 := h.allocRaw #[.bool nl, .string (bb dd), .int .i64 ac, .int .i64 tm, .slice q l.length cap] 29
 rw [hrb] at g1
 have z0 := g1.rawCell 0; have z1 := g1.rawCell 1; have z2 := g1.rawCell 2; have z3 := g1.rawCell 3; have z4 := g1.rawCell 4; simp at z0 z1 z2 z3 z4
 have H := Lib.hid g1
 have HK := Lib.hid hk
 have HF := Lib.hid hf
 have HTF := Lib.hid (ckT_few hf)
 have HLL := Lib.hid hll
 have HDL := Lib.hid hdd
 have HBR := Lib.hid hr
 clear h g1 hk hf hll hdd hr
 go_enter Try.func18, Try.ntmps18
 go_wp2_with (first
  | (go_at_call 42; clear z0 z1 z2 z3 z4; (with_reducible refine (pblob_rightQ nl dd false HBR.out H.out).mono ?_); rintro e_ wn ⟨rfl, h⟩; have z0 := h.rawCell 0; have z1 := h.rawCell 1; have z2 := h.rawCell 2; have z3 := h.rawCell 3; have z4 := h.rawCell 4; simp at z0 z1 z2 z3 z4; replace H := Lib.hid h; clear h))
 go_ret
 exact ⟨rfl, H.out.drop⟩

set_option maxHeartbeats 2000000 in
set_option maxRecDepth 100000 in
theorem rqc_k0 (dd : Bs) (ac tm v : Int) (l : List PTop) (q : Option Addr) (cap : Nat) (hdd : dd.length ≤ 140737488355328) (hf : ∀ x ∈ l, CkT x) (hll : l.length ≤ 1000000) (hr : (⟨false, dd⟩ : BlobS).right = true) (hkr : keyRight dd = false) {W0 w : World} {K : Know} {L : List Res} (hk : K.has (Know.ptops (.slice q l.length cap) l)) (h : St W0 w K L) :
  Calls Try.prog 18 #[.agg #[.bool false, .string (bb dd), .int .i64 ac, .int .i64 tm, .slice q l.length cap], .int .i64 v] w fun en w' => en = .returned (.int .i64 4) ∧ St W0 w' K L := by
 obtain ⟨rb, hrb⟩ : ∃ b, w.heap.size = b := ⟨_, rfl⟩
 have g1 := h.allocRaw #[.bool false, .string (bb dd), .int .i64 ac, .int .i64 tm, .slice q l.length cap] 29
 rw [hrb] at g1
 have z0 := g1.rawCell 0; have z1 := g1.rawCell 1; have z2 := g1.rawCell 2; have z3 := g1.rawCell 3; have z4 := g1.rawCell 4; simp at z0 z1 z2 z3 z4
 have H := Lib.hid g1
 have HK := Lib.hid hk
 have HF := Lib.hid hf
 have HTF := Lib.hid (ckT_few hf)
 have HLL := Lib.hid hll
 have HDL := Lib.hid hdd
 have HBR := Lib.hid hr
 have HKR := Lib.hid hkr
 clear h g1 hk hf hll hdd hr hkr
 go_enter Try.func18, Try.ntmps18
 go_wp2_with (first
  | (go_at_call 42; clear z0 z1 z2 z3 z4; (with_reducible refine (pblob_rightQ false dd true HBR.out H.out).mono ?_); rintro e_ wn ⟨rfl, h⟩; have z0 := h.rawCell 0; have z1 := h.rawCell 1; have z2 := h.rawCell 2; have z3 := h.rawCell 3; have z4 := h.rawCell 4; simp at z0 z1 z2 z3 z4; replace H := Lib.hid h; clear h)
  | (go_at_call 43; clear z0 z1 z2 z3 z4; (with_reducible refine (key_rightQ dd false HKR.out HDL.out H.out).mono ?_); rintro e_ wn ⟨rfl, h⟩; have z0 := h.rawCell 0; have z1 := h.rawCell 1; have z2 := h.rawCell 2; have z3 := h.rawCell 3; have z4 := h.rawCell 4; simp at z0 z1 z2 z3 z4; replace H := Lib.hid h; clear h))
 go_ret
 exact ⟨rfl, H.out.drop⟩

set_option maxHeartbeats 2000000 in
set_option maxRecDepth 100000 in
theorem rqc_a1_true (dd : Bs) (ac tm v : Int) (l : List PTop) (q : Option Addr) (cap : Nat) (hdd : dd.length ≤ 140737488355328) (hf : ∀ x ∈ l, CkT x) (hll : l.length ≤ 1000000) (hr : (⟨true, dd⟩ : BlobS).right = true) (n1 : ac < -1) {W0 w : World} {K : Know} {L : List Res} (hk : K.has (Know.ptops (.slice q l.length cap) l)) (h : St W0 w K L) :
  Calls Try.prog 18 #[.agg #[.bool true, .string (bb dd), .int .i64 ac, .int .i64 tm, .slice q l.length cap], .int .i64 v] w fun en w' => en = .returned (.int .i64 11) ∧ St W0 w' K L := by
 obtain ⟨rb, hrb⟩ : ∃ b, w.heap.size = b := ⟨_, rfl⟩
 have g1 := h.allocRaw #[.bool true, .string (bb dd), .int .i64 ac, .int .i64 tm, .slice q l.length cap] 29
 rw [hrb] at g1
 have z0 := g1.rawCell 0; have z1 := g1.rawCell 1; have z2 := g1.rawCell 2; have z3 := g1.rawCell 3; have z4 := g1.rawCell 4; simp at z0 z1 z2 z3 z4
 have H := Lib.hid g1
 have HK := Lib.hid hk
 have HF := Lib.hid hf
 have HTF := Lib.hid (ckT_few hf)
 have HLL := Lib.hid hll
 have HDL := Lib.hid hdd
 have HBR := Lib.hid hr
 have d1 : decide (ac < -1) = true := decide_eq_true n1
 clear h g1 hk hf hll hdd hr n1
 go_enter Try.func18, Try.ntmps18
 go_wp2_with (first
  | (go_at_call 42; clear z0 z1 z2 z3 z4; (with_reducible refine (pblob_rightQ true dd true HBR.out H.out).mono ?_); rintro e_ wn ⟨rfl, h⟩; have z0 := h.rawCell 0; have z1 := h.rawCell 1; have z2 := h.rawCell 2; have z3 := h.rawCell 3; have z4 := h.rawCell 4; simp at z0 z1 z2 z3 z4; replace H := Lib.hid h; clear h))
 go_ret
 exact ⟨rfl, H.out.drop⟩

set_option maxHeartbeats 2000000 in
set_option maxRecDepth 100000 in
theorem rqc_a2_true (dd : Bs) (ac tm v : Int) (l : List PTop) (q : Option Addr) (cap : Nat) (hdd : dd.length ≤ 140737488355328) (hf : ∀ x ∈ l, CkT x) (hll : l.length ≤ 1000000) (hr : (⟨true, dd⟩ : BlobS).right = true) (n1 : ¬ ac < -1) (n2 : 1 < ac) {W0 w : World} {K : Know} {L : List Res} (hk : K.has (Know.ptops (.slice q l.length cap) l)) (h : St W0 w K L) :
  Calls Try.prog 18 #[.agg #[.bool true, .string (bb dd), .int .i64 ac, .int .i64 tm, .slice q l.length cap], .int .i64 v] w fun en w' => en = .returned (.int .i64 11) ∧ St W0 w' K L := by
 obtain ⟨rb, hrb⟩ : ∃ b, w.heap.size = b := ⟨_, rfl⟩
 have g1 := h.allocRaw #[.bool true, .string (bb dd), .int .i64 ac, .int .i64 tm, .slice q l.length cap] 29
 rw [hrb] at g1
 have z0 := g1.rawCell 0; have z1 := g1.rawCell 1; have z2 := g1.rawCell 2; have z3 := g1.rawCell 3; have z4 := g1.rawCell 4; simp at z0 z1 z2 z3 z4
 have H := Lib.hid g1
 have HK := Lib.hid hk
 have HF := Lib.hid hf
 have HTF := Lib.hid (ckT_few hf)
 have HLL := Lib.hid hll
 have HDL := Lib.hid hdd
 have HBR := Lib.hid hr
 have d1 : decide (ac < -1) = false := decide_eq_false n1
 have d2 : decide (1 < ac) = true := decide_eq_true n2
 clear h g1 hk hf hll hdd hr n1 n2
 go_enter Try.func18, Try.ntmps18
 go_wp2_with (first
  | (go_at_call 42; clear z0 z1 z2 z3 z4; (with_reducible refine (pblob_rightQ true dd true HBR.out H.out).mono ?_); rintro e_ wn ⟨rfl, h⟩; have z0 := h.rawCell 0; have z1 := h.rawCell 1; have z2 := h.rawCell 2; have z3 := h.rawCell 3; have z4 := h.rawCell 4; simp at z0 z1 z2 z3 z4; replace H := Lib.hid h; clear h))
 go_ret
 exact ⟨rfl, H.out.drop⟩

set_option maxHeartbeats 2000000 in
set_option maxRecDepth 100000 in
theorem rqc_a3_true (dd : Bs) (ac tm v : Int) (l : List PTop) (q : Option Addr) (cap : Nat) (hdd : dd.length ≤ 140737488355328) (hf : ∀ x ∈ l, CkT x) (hll : l.length ≤ 1000000) (hr : (⟨true, dd⟩ : BlobS).right = true) (n1 : ¬ ac < -1) (n2 : ¬ 1 < ac) (n3 : tm < 0) {W0 w : World} {K : Know} {L : List Res} (hk : K.has (Know.ptops (.slice q l.length cap) l)) (h : St W0 w K L) :
  Calls Try.prog 18 #[.agg #[.bool true, .string (bb dd), .int .i64 ac, .int .i64 tm, .slice q l.length cap], .int .i64 v] w fun en w' => en = .returned (.int .i64 11) ∧ St W0 w' K L := by
 obtain ⟨rb, hrb⟩ : ∃ b, w.heap.size = b := ⟨_, rfl⟩
 have g1 := h.allocRaw #[.bool true, .string (bb dd), .int .i64 ac, .int .i64 tm, .slice q l.length cap] 29
 rw [hrb] at g1
 have z0 := g1.rawCell 0; have z1 := g1.rawCell 1; have z2 := g1.rawCell 2; have z3 := g1.rawCell 3; have z4 := g1.rawCell 4; simp at z0 z1 z2 z3 z4
 have H := Lib.hid g1
 have HK := Lib.hid hk
 have HF := Lib.hid hf
 have HTF := Lib.hid (ckT_few hf)
 have HLL := Lib.hid hll
 have HDL := Lib.hid hdd
 have HBR := Lib.hid hr
 have d1 : decide (ac < -1) = false := decide_eq_false n1
 have d2 : decide (1 < ac) = false := decide_eq_false n2
 have d3 : decide (tm < 0) = true := decide_eq_true n3
 clear h g1 hk hf hll hdd hr n1 n2 n3
 go_enter Try.func18, Try.ntmps18
 go_wp2_with (first
  | (go_at_call 42; clear z0 z1 z2 z3 z4; (with_reducible refine (pblob_rightQ true dd true HBR.out H.out).mono ?_); rintro e_ wn ⟨rfl, h⟩; have z0 := h.rawCell 0; have z1 := h.rawCell 1; have z2 := h.rawCell 2; have z3 := h.rawCell 3; have z4 := h.rawCell 4; simp at z0 z1 z2 z3 z4; replace H := Lib.hid h; clear h))
 go_ret
 exact ⟨rfl, H.out.drop⟩

set_option maxHeartbeats 2000000 in
set_option maxRecDepth 100000 in
theorem rqc_a4_true (dd : Bs) (ac tm v : Int) (l : List PTop) (q : Option Addr) (cap : Nat) (hdd : dd.length ≤ 140737488355328) (hf : ∀ x ∈ l, CkT x) (hll : l.length ≤ 1000000) (hr : (⟨true, dd⟩ : BlobS).right = true) (n1 : ¬ ac < -1) (n2 : ¬ 1 < ac) (n3 : ¬ tm < 0) (n4 : 2147483647 < tm) {W0 w : World} {K : Know} {L : List Res} (hk : K.has (Know.ptops (.slice q l.length cap) l)) (h : St W0 w K L) :
  Calls Try.prog 18 #[.agg #[.bool true, .string (bb dd), .int .i64 ac, .int .i64 tm, .slice q l.length cap], .int .i64 v] w fun en w' => en = .returned (.int .i64 11) ∧ St W0 w' K L := by
 obtain ⟨rb, hrb⟩ : ∃ b, w.heap.size = b := ⟨_, rfl⟩
 have g1 := h.allocRaw #[.bool true, .string (bb dd), .int .i64 ac, .int .i64 tm, .slice q l.length cap] 29
 rw [hrb] at g1
 have z0 := g1.rawCell 0; have z1 := g1.rawCell 1; have z2 := g1.rawCell 2; have z3 := g1.rawCell 3; have z4 := g1.rawCell 4; simp at z0 z1 z2 z3 z4
 have H := Lib.hid g1
 have HK := Lib.hid hk
 have HF := Lib.hid hf
 have HTF := Lib.hid (ckT_few hf)
 have HLL := Lib.hid hll
 have HDL := Lib.hid hdd
 have HBR := Lib.hid hr
 have d1 : decide (ac < -1) = false := decide_eq_false n1
 have d2 : decide (1 < ac) = false := decide_eq_false n2
 have d3 : decide (tm < 0) = false := decide_eq_false n3
 have d4 : decide (2147483647 < tm) = true := decide_eq_true n4
 clear h g1 hk hf hll hdd hr n1 n2 n3 n4
 go_enter Try.func18, Try.ntmps18
 go_wp2_with (first
  | (go_at_call 42; clear z0 z1 z2 z3 z4; (with_reducible refine (pblob_rightQ true dd true HBR.out H.out).mono ?_); rintro e_ wn ⟨rfl, h⟩; have z0 := h.rawCell 0; have z1 := h.rawCell 1; have z2 := h.rawCell 2; have z3 := h.rawCell 3; have z4 := h.rawCell 4; simp at z0 z1 z2 z3 z4; replace H := Lib.hid h; clear h))
 go_ret
 exact ⟨rfl, H.out.drop⟩

set_option maxHeartbeats 2000000 in
set_option maxRecDepth 100000 in
theorem rqc_t_true (dd : Bs) (ac tm v : Int) (l : List PTop) (q : Option Addr) (cap : Nat) (hdd : dd.length ≤ 140737488355328) (hf : ∀ x ∈ l, CkT x) (hll : l.length ≤ 1000000) (hr : (⟨true, dd⟩ : BlobS).right = true) (n1 : ¬ ac < -1) (n2 : ¬ 1 < ac) (n3 : ¬ tm < 0) (n4 : ¬ 2147483647 < tm) (e : Int) (het : errTops l = e) (h0 : e ≠ 0) {W0 w : World} {K : Know} {L : List Res} (hk : K.has (Know.ptops (.slice q l.length cap) l)) (h : St W0 w K L) :
  Calls Try.prog 18 #[.agg #[.bool true, .string (bb dd), .int .i64 ac, .int .i64 tm, .slice q l.length cap], .int .i64 v] w fun en w' => en = .returned (.int .i64 e) ∧ St W0 w' K L := by
 obtain ⟨rb, hrb⟩ : ∃ b, w.heap.size = b := ⟨_, rfl⟩
 have g1 := h.allocRaw #[.bool true, .string (bb dd), .int .i64 ac, .int .i64 tm, .slice q l.length cap] 29
 rw [hrb] at g1
 have z0 := g1.rawCell 0; have z1 := g1.rawCell 1; have z2 := g1.rawCell 2; have z3 := g1.rawCell 3; have z4 := g1.rawCell 4; simp at z0 z1 z2 z3 z4
 have H := Lib.hid g1
 have HK := Lib.hid hk
 have HF := Lib.hid hf
 have HTF := Lib.hid (ckT_few hf)
 have HLL := Lib.hid hll
 have HDL := Lib.hid hdd
 have HBR := Lib.hid hr
 have d1 : decide (ac < -1) = false := decide_eq_false n1
 have d2 : decide (1 < ac) = false := decide_eq_false n2
 have d3 : decide (tm < 0) = false := decide_eq_false n3
 have d4 : decide (2147483647 < tm) = false := decide_eq_false n4
 have HET := Lib.hid het
 have e1 : (e == 0) = false := by rw [beq_eq_false_iff_ne]; exact h0
 have e3 : (e != 0) = true := by simp [bne, e1]
 clear h g1 hk hf hll hdd hr n1 n2 n3 n4 het h0
 go_enter Try.func18, Try.ntmps18
 go_wp2_with (first
  | (go_at_call 42; clear z0 z1 z2 z3 z4; (with_reducible refine (pblob_rightQ true dd true HBR.out H.out).mono ?_); rintro e_ wn ⟨rfl, h⟩; have z0 := h.rawCell 0; have z1 := h.rawCell 1; have z2 := h.rawCell 2; have z3 := h.rawCell 3; have z4 := h.rawCell 4; simp at z0 z1 z2 z3 z4; replace H := Lib.hid h; clear h)
  | (go_at_call 44; clear z0 z1 z2 z3 z4; (with_reducible refine (check_topics l q cap e HET.out HTF.out HLL.out HK.out H.out).mono ?_); rintro e_ wn ⟨rfl, h⟩; have z0 := h.rawCell 0; have z1 := h.rawCell 1; have z2 := h.rawCell 2; have z3 := h.rawCell 3; have z4 := h.rawCell 4; simp at z0 z1 z2 z3 z4; replace H := Lib.hid h; clear h))
 go_ret
 exact ⟨rfl, H.out.drop⟩

set_option maxHeartbeats 2000000 in
set_option maxRecDepth 100000 in
theorem rqc_p_true (dd : Bs) (ac tm v : Int) (l : List PTop) (q : Option Addr) (cap : Nat) (hdd : dd.length ≤ 140737488355328) (hf : ∀ x ∈ l, CkT x) (hll : l.length ≤ 1000000) (hr : (⟨true, dd⟩ : BlobS).right = true) (n1 : ¬ ac < -1) (n2 : ¬ 1 < ac) (n3 : ¬ tm < 0) (n4 : ¬ 2147483647 < tm) (het : errTops l = 0) (e : Int) (hep : errPT (!true) v l = e) {W0 w : World} {K : Know} {L : List Res} (hk : K.has (Know.ptops (.slice q l.length cap) l)) (h : St W0 w K L) :
  Calls Try.prog 18 #[.agg #[.bool true, .string (bb dd), .int .i64 ac, .int .i64 tm, .slice q l.length cap], .int .i64 v] w fun en w' => en = .returned (.int .i64 e) ∧ St W0 w' K L := by
 obtain ⟨rb, hrb⟩ : ∃ b, w.heap.size = b := ⟨_, rfl⟩
 have g1 := h.allocRaw #[.bool true, .string (bb dd), .int .i64 ac, .int .i64 tm, .slice q l.length cap] 29
 rw [hrb] at g1
 have z0 := g1.rawCell 0; have z1 := g1.rawCell 1; have z2 := g1.rawCell 2; have z3 := g1.rawCell 3; have z4 := g1.rawCell 4; simp at z0 z1 z2 z3 z4
 have H := Lib.hid g1
 have HK := Lib.hid hk
 have HF := Lib.hid hf
 have HTF := Lib.hid (ckT_few hf)
 have HLL := Lib.hid hll
 have HDL := Lib.hid hdd
 have HBR := Lib.hid hr
 have d1 : decide (ac < -1) = false := decide_eq_false n1
 have d2 : decide (1 < ac) = false := decide_eq_false n2
 have d3 : decide (tm < 0) = false := decide_eq_false n3
 have d4 : decide (2147483647 < tm) = false := decide_eq_false n4
 have HET := Lib.hid het
 have HEP := Lib.hid hep
 clear h g1 hk hf hll hdd hr n1 n2 n3 n4 het hep
 go_enter Try.func18, Try.ntmps18
 go_wp2_with (first
  | (go_at_call 42; clear z0 z1 z2 z3 z4; (with_reducible refine (pblob_rightQ true dd true HBR.out H.out).mono ?_); rintro e_ wn ⟨rfl, h⟩; have z0 := h.rawCell 0; have z1 := h.rawCell 1; have z2 := h.rawCell 2; have z3 := h.rawCell 3; have z4 := h.rawCell 4; simp at z0 z1 z2 z3 z4; replace H := Lib.hid h; clear h)
  | (go_at_call 44; clear z0 z1 z2 z3 z4; (with_reducible refine (check_topics l q cap 0 HET.out HTF.out HLL.out HK.out H.out).mono ?_); rintro e_ wn ⟨rfl, h⟩; have z0 := h.rawCell 0; have z1 := h.rawCell 1; have z2 := h.rawCell 2; have z3 := h.rawCell 3; have z4 := h.rawCell 4; simp at z0 z1 z2 z3 z4; replace H := Lib.hid h; clear h)
  | (go_at_call 45; clear z0 z1 z2 z3 z4; (with_reducible refine (check_parts true dd ac tm v l q cap e HEP.out HF.out HLL.out HK.out H.out).mono ?_); rintro e_ wn ⟨rfl, h⟩; have z0 := h.rawCell 0; have z1 := h.rawCell 1; have z2 := h.rawCell 2; have z3 := h.rawCell 3; have z4 := h.rawCell 4; simp at z0 z1 z2 z3 z4; replace H := Lib.hid h; clear h))
 go_ret
 exact ⟨rfl, H.out.drop⟩

set_option maxHeartbeats 2000000 in
set_option maxRecDepth 100000 in
theorem rqc_a1_false (dd : Bs) (ac tm v : Int) (l : List PTop) (q : Option Addr) (cap : Nat) (hdd : dd.length ≤ 140737488355328) (hf : ∀ x ∈ l, CkT x) (hll : l.length ≤ 1000000) (hr : (⟨false, dd⟩ : BlobS).right = true) (hkr : keyRight dd = true) (n1 : ac < -1) {W0 w : World} {K : Know} {L : List Res} (hk : K.has (Know.ptops (.slice q l.length cap) l)) (h : St W0 w K L) :
  Calls Try.prog 18 #[.agg #[.bool false, .string (bb dd), .int .i64 ac, .int .i64 tm, .slice q l.length cap], .int .i64 v] w fun en w' => en = .returned (.int .i64 11) ∧ St W0 w' K L := by
 obtain ⟨rb, hrb⟩ : ∃ b, w.heap.size = b := ⟨_, rfl⟩
 have g1 := h.allocRaw #[.bool false, .string (bb dd), .int .i64 ac, .int .i64 tm, .slice q l.length cap] 29
 rw [hrb] at g1
 have z0 := g1.rawCell 0; have z1 := g1.rawCell 1; have z2 := g1.rawCell 2; have z3 := g1.rawCell 3; have z4 := g1.rawCell 4; simp at z0 z1 z2 z3 z4
 have H := Lib.hid g1
 have HK := Lib.hid hk
 have HF := Lib.hid hf
 have HTF := Lib.hid (ckT_few hf)
 have HLL := Lib.hid hll
 have HDL := Lib.hid hdd
 have HBR := Lib.hid hr
 have HKR := Lib.hid hkr
 have d1 : decide (ac < -1) = true := decide_eq_true n1
 clear h g1 hk hf hll hdd hr hkr n1
 go_enter Try.func18, Try.ntmps18
 go_wp2_with (first
  | (go_at_call 42; clear z0 z1 z2 z3 z4; (with_reducible refine (pblob_rightQ false dd true HBR.out H.out).mono ?_); rintro e_ wn ⟨rfl, h⟩; have z0 := h.rawCell 0; have z1 := h.rawCell 1; have z2 := h.rawCell 2; have z3 := h.rawCell 3; have z4 := h.rawCell 4; simp at z0 z1 z2 z3 z4; replace H := Lib.hid h; clear h)
  | (go_at_call 43; clear z0 z1 z2 z3 z4; (with_reducible refine (key_rightQ dd true HKR.out HDL.out H.out).mono ?_); rintro e_ wn ⟨rfl, h⟩; have z0 := h.rawCell 0; have z1 := h.rawCell 1; have z2 := h.rawCell 2; have z3 := h.rawCell 3; have z4 := h.rawCell 4; simp at z0 z1 z2 z3 z4; replace H := Lib.hid h; clear h))
 go_ret
 exact ⟨rfl, H.out.drop⟩

set_option maxHeartbeats 2000000 in
set_option maxRecDepth 100000 in
theorem rqc_a2_false (dd : Bs) (ac tm v : Int) (l : List PTop) (q : Option Addr) (cap : Nat) (hdd : dd.length ≤ 140737488355328) (hf : ∀ x ∈ l, CkT x) (hll : l.length ≤ 1000000) (hr : (⟨false, dd⟩ : BlobS).right = true) (hkr : keyRight dd = true) (n1 : ¬ ac < -1) (n2 : 1 < ac) {W0 w : World} {K : Know} {L : List Res} (hk : K.has (Know.ptops (.slice q l.length cap) l)) (h : St W0 w K L) :
  Calls Try.prog 18 #[.agg #[.bool false, .string (bb dd), .int .i64 ac, .int .i64 tm, .slice q l.length cap], .int .i64 v] w fun en w' => en = .returned (.int .i64 11) ∧ St W0 w' K L := by
 obtain ⟨rb, hrb⟩ : ∃ b, w.heap.size = b := ⟨_, rfl⟩
 have g1 := h.allocRaw #[.bool false, .string (bb dd), .int .i64 ac, .int .i64 tm, .slice q l.length cap] 29
 rw [hrb] at g1
 have z0 := g1.rawCell 0; have z1 := g1.rawCell 1; have z2 := g1.rawCell 2; have z3 := g1.rawCell 3; have z4 := g1.rawCell 4; simp at z0 z1 z2 z3 z4
 have H := Lib.hid g1
 have HK := Lib.hid hk
 have HF := Lib.hid hf
 have HTF := Lib.hid (ckT_few hf)
 have HLL := Lib.hid hll
 have HDL := Lib.hid hdd
 have HBR := Lib.hid hr
 have HKR := Lib.hid hkr
 have d1 : decide (ac < -1) = false := decide_eq_false n1
 have d2 : decide (1 < ac) = true := decide_eq_true n2
 clear h g1 hk hf hll hdd hr hkr n1 n2
 go_enter Try.func18, Try.ntmps18
 go_wp2_with (first
  | (go_at_call 42; clear z0 z1 z2 z3 z4; (with_reducible refine (pblob_rightQ false dd true HBR.out H.out).mono ?_); rintro e_ wn ⟨rfl, h⟩; have z0 := h.rawCell 0; have z1 := h.rawCell 1; have z2 := h.rawCell 2; have z3 := h.rawCell 3; have z4 := h.rawCell 4; simp at z0 z1 z2 z3 z4; replace H := Lib.hid h; clear h)
  | (go_at_call 43; clear z0 z1 z2 z3 z4; (with_reducible refine (key_rightQ dd true HKR.out HDL.out H.out).mono ?_); rintro e_ wn ⟨rfl, h⟩; have z0 := h.rawCell 0; have z1 := h.rawCell 1; have z2 := h.rawCell 2; have z3 := h.rawCell 3; have z4 := h.rawCell 4; simp at z0 z1 z2 z3 z4; replace H := Lib.hid h; clear h))
 go_ret
 exact ⟨rfl, H.out.drop⟩

set_option maxHeartbeats 2000000 in
set_option maxRecDepth 100000 in
theorem rqc_a3_false (dd : Bs) (ac tm v : Int) (l : List PTop) (q : Option Addr) (cap : Nat) (hdd : dd.length ≤ 140737488355328) (hf : ∀ x ∈ l, CkT x) (hll : l.length ≤ 1000000) (hr : (⟨false, dd⟩ : BlobS).right = true) (hkr : keyRight dd = true) (n1 : ¬ ac < -1) (n2 : ¬ 1 < ac) (n3 : tm < 0) {W0 w : World} {K : Know} {L : List Res} (hk : K.has (Know.ptops (.slice q l.length cap) l)) (h : St W0 w K L) :
  Calls Try.prog 18 #[.agg #[.bool false, .string (bb dd), .int .i64 ac, .int .i64 tm, .slice q l.length cap], .int .i64 v] w fun en w' => en = .returned (.int .i64 11) ∧ St W0 w' K L := by
 obtain ⟨rb, hrb⟩ : ∃ b, w.heap.size = b := ⟨_, rfl⟩
 have g1 := h.allocRaw #[.bool false, .string (bb dd), .int .i64 ac, .int .i64 tm, .slice q l.length cap] 29
 rw [hrb] at g1
 have z0 := g1.rawCell 0; have z1 := g1.rawCell 1; have z2 := g1.rawCell 2; have z3 := g1.rawCell 3; have z4 := g1.rawCell 4; simp at z0 z1 z2 z3 z4
 have H := Lib.hid g1
 have HK := Lib.hid hk
 have HF := Lib.hid hf
 have HTF := Lib.hid (ckT_few hf)
 have HLL := Lib.hid hll
 have HDL := Lib.hid hdd
 have HBR := Lib.hid hr
 have HKR := Lib.hid hkr
 have d1 : decide (ac < -1) = false := decide_eq_false n1
 have d2 : decide (1 < ac) = false := decide_eq_false n2
 have d3 : decide (tm < 0) = true := decide_eq_true n3
 clear h g1 hk hf hll hdd hr hkr n1 n2 n3
 go_enter Try.func18, Try.ntmps18
 go_wp2_with (first
  | (go_at_call 42; clear z0 z1 z2 z3 z4; (with_reducible refine (pblob_rightQ false dd true HBR.out H.out).mono ?_); rintro e_ wn ⟨rfl, h⟩; have z0 := h.rawCell 0; have z1 := h.rawCell 1; have z2 := h.rawCell 2; have z3 := h.rawCell 3; have z4 := h.rawCell 4; simp at z0 z1 z2 z3 z4; replace H := Lib.hid h; clear h)
  | (go_at_call 43; clear z0 z1 z2 z3 z4; (with_reducible refine (key_rightQ dd true HKR.out HDL.out H.out).mono ?_); rintro e_ wn ⟨rfl, h⟩; have z0 := h.rawCell 0; have z1 := h.rawCell 1; have z2 := h.rawCell 2; have z3 := h.rawCell 3; have z4 := h.rawCell 4; simp at z0 z1 z2 z3 z4; replace H := Lib.hid h; clear h))
 go_ret
 exact ⟨rfl, H.out.drop⟩

set_option maxHeartbeats 2000000 in
set_option maxRecDepth 100000 in
theorem rqc_a4_false (dd : Bs) (ac tm v : Int) (l : List PTop) (q : Option Addr) (cap : Nat) (hdd : dd.length ≤ 140737488355328) (hf : ∀ x ∈ l, CkT x) (hll : l.length ≤ 1000000) (hr : (⟨false, dd⟩ : BlobS).right = true) (hkr : keyRight dd = true) (n1 : ¬ ac < -1) (n2 : ¬ 1 < ac) (n3 : ¬ tm < 0) (n4 : 2147483647 < tm) {W0 w : World} {K : Know} {L : List Res} (hk : K.has (Know.ptops (.slice q l.length cap) l)) (h : St W0 w K L) :
  Calls Try.prog 18 #[.agg #[.bool false, .string (bb dd), .int .i64 ac, .int .i64 tm, .slice q l.length cap], .int .i64 v] w fun en w' => en = .returned (.int .i64 11) ∧ St W0 w' K L := by
 obtain ⟨rb, hrb⟩ : ∃ b, w.heap.size = b := ⟨_, rfl⟩
 have g1 := h.allocRaw #[.bool false, .string (bb dd), .int .i64 ac, .int .i64 tm, .slice q l.length cap] 29
 rw [hrb] at g1
 have z0 := g1.rawCell 0; have z1 := g1.rawCell 1; have z2 := g1.rawCell 2; have z3 := g1.rawCell 3; have z4 := g1.rawCell 4; simp at z0 z1 z2 z3 z4
 have H := Lib.hid g1
 have HK := Lib.hid hk
 have HF := Lib.hid hf
 have HTF := Lib.hid (ckT_few hf)
 have HLL := Lib.hid hll
 have HDL := Lib.hid hdd
 have HBR := Lib.hid hr
 have HKR := Lib.hid hkr
 have d1 : decide (ac < -1) = false := decide_eq_false n1
 have d2 : decide (1 < ac) = false := decide_eq_false n2
 have d3 : decide (tm < 0) = false := decide_eq_false n3
 have d4 : decide (2147483647 < tm) = true := decide_eq_true n4
 clear h g1 hk hf hll hdd hr hkr n1 n2 n3 n4
 go_enter Try.func18, Try.ntmps18
 go_wp2_with (first
  | (go_at_call 42; clear z0 z1 z2 z3 z4; (with_reducible refine (pblob_rightQ false dd true HBR.out H.out).mono ?_); rintro e_ wn ⟨rfl, h⟩; have z0 := h.rawCell 0; have z1 := h.rawCell 1; have z2 := h.rawCell 2; have z3 := h.rawCell 3; have z4 := h.rawCell 4; simp at z0 z1 z2 z3 z4; replace H := Lib.hid h; clear h)
  | (go_at_call 43; clear z0 z1 z2 z3 z4; (with_reducible refine (key_rightQ dd true HKR.out HDL.out H.out).mono ?_); rintro e_ wn ⟨rfl, h⟩; have z0 := h.rawCell 0; have z1 := h.rawCell 1; have z2 := h.rawCell 2; have z3 := h.rawCell 3; have z4 := h.rawCell 4; simp at z0 z1 z2 z3 z4; replace H := Lib.hid h; clear h))
 go_ret
 exact ⟨rfl, H.out.drop⟩

set_option maxHeartbeats 2000000 in
set_option maxRecDepth 100000 in
theorem rqc_t_false (dd : Bs) (ac tm v : Int) (l : List PTop) (q : Option Addr) (cap : Nat) (hdd : dd.length ≤ 140737488355328) (hf : ∀ x ∈ l, CkT x) (hll : l.length ≤ 1000000) (hr : (⟨false, dd⟩ : BlobS).right = true) (hkr : keyRight dd = true) (n1 : ¬ ac < -1) (n2 : ¬ 1 < ac) (n3 : ¬ tm < 0) (n4 : ¬ 2147483647 < tm) (e : Int) (het : errTops l = e) (h0 : e ≠ 0) {W0 w : World} {K : Know} {L : List Res} (hk : K.has (Know.ptops (.slice q l.length cap) l)) (h : St W0 w K L) :
  Calls Try.prog 18 #[.agg #[.bool false, .string (bb dd), .int .i64 ac, .int .i64 tm, .slice q l.length cap], .int .i64 v] w fun en w' => en = .returned (.int .i64 e) ∧ St W0 w' K L := by
 obtain ⟨rb, hrb⟩ : ∃ b, w.heap.size = b := ⟨_, rfl⟩
 have g1 := h.allocRaw #[.bool false, .string (bb dd), .int .i64 ac, .int .i64 tm, .slice q l.length cap] 29
 rw [hrb] at g1
 have z0 := g1.rawCell 0; have z1 := g1.rawCell 1; have z2 := g1.rawCell 2; have z3 := g1.rawCell 3; have z4 := g1.rawCell 4; simp at z0 z1 z2 z3 z4
 have H := Lib.hid g1
 have HK := Lib.hid hk
 have HF := Lib.hid hf
 have HTF := Lib.hid (ckT_few hf)
 have HLL := Lib.hid hll
 have HDL := Lib.hid hdd
 have HBR := Lib.hid hr
 have HKR := Lib.hid hkr
 have d1 : decide (ac < -1) = false := decide_eq_false n1
 have d2 : decide (1 < ac) = false := decide_eq_false n2
 have d3 : decide (tm < 0) = false := decide_eq_false n3
 have d4 : decide (2147483647 < tm) = false := decide_eq_false n4
 have HET := Lib.hid het
 have e1 : (e == 0) = false := by rw [beq_eq_false_iff_ne]; exact h0
 have e3 : (e != 0) = true := by simp [bne, e1]
 clear h g1 hk hf hll hdd hr hkr n1 n2 n3 n4 het h0
 go_enter Try.func18, Try.ntmps18
 go_wp2_with (first
  | (go_at_call 42; clear z0 z1 z2 z3 z4; (with_reducible refine (pblob_rightQ false dd true HBR.out H.out).mono ?_); rintro e_ wn ⟨rfl, h⟩; have z0 := h.rawCell 0; have z1 := h.rawCell 1; have z2 := h.rawCell 2; have z3 := h.rawCell 3; have z4 := h.rawCell 4; simp at z0 z1 z2 z3 z4; replace H := Lib.hid h; clear h)
  | (go_at_call 43; clear z0 z1 z2 z3 z4; (with_reducible refine (key_rightQ dd true HKR.out HDL.out H.out).mono ?_); rintro e_ wn ⟨rfl, h⟩; have z0 := h.rawCell 0; have z1 := h.rawCell 1; have z2 := h.rawCell 2; have z3 := h.rawCell 3; have z4 := h.rawCell 4; simp at z0 z1 z2 z3 z4; replace H := Lib.hid h; clear h)
  | (go_at_call 44; clear z0 z1 z2 z3 z4; (with_reducible refine (check_topics l q cap e HET.out HTF.out HLL.out HK.out H.out).mono ?_); rintro e_ wn ⟨rfl, h⟩; have z0 := h.rawCell 0; have z1 := h.rawCell 1; have z2 := h.rawCell 2; have z3 := h.rawCell 3; have z4 := h.rawCell 4; simp at z0 z1 z2 z3 z4; replace H := Lib.hid h; clear h))
 go_ret
 exact ⟨rfl, H.out.drop⟩

set_option maxHeartbeats 2000000 in
set_option maxRecDepth 100000 in
theorem rqc_p_false (dd : Bs) (ac tm v : Int) (l : List PTop) (q : Option Addr) (cap : Nat) (hdd : dd.length ≤ 140737488355328) (hf : ∀ x ∈ l, CkT x) (hll : l.length ≤ 1000000) (hr : (⟨false, dd⟩ : BlobS).right = true) (hkr : keyRight dd = true) (n1 : ¬ ac < -1) (n2 : ¬ 1 < ac) (n3 : ¬ tm < 0) (n4 : ¬ 2147483647 < tm) (het : errTops l = 0) (e : Int) (hep : errPT (!false) v l = e) {W0 w : World} {K : Know} {L : List Res} (hk : K.has (Know.ptops (.slice q l.length cap) l)) (h : St W0 w K L) :
  Calls Try.prog 18 #[.agg #[.bool false, .string (bb dd), .int .i64 ac, .int .i64 tm, .slice q l.length cap], .int .i64 v] w fun en w' => en = .returned (.int .i64 e) ∧ St W0 w' K L := by
 obtain ⟨rb, hrb⟩ : ∃ b, w.heap.size = b := ⟨_, rfl⟩
 have g1 := h.allocRaw #[.bool false, .string (bb dd), .int .i64 ac, .int .i64 tm, .slice q l.length cap] 29
 rw [hrb] at g1
 have z0 := g1.rawCell 0; have z1 := g1.rawCell 1; have z2 := g1.rawCell 2; have z3 := g1.rawCell 3; have z4 := g1.rawCell 4; simp at z0 z1 z2 z3 z4
 have H := Lib.hid g1
 have HK := Lib.hid hk
 have HF := Lib.hid hf
 have HTF := Lib.hid (ckT_few hf)
 have HLL := Lib.hid hll
 have HDL := Lib.hid hdd
 have HBR := Lib.hid hr
 have HKR := Lib.hid hkr
 have d1 : decide (ac < -1) = false := decide_eq_false n1
 have d2 : decide (1 < ac) = false := decide_eq_false n2
 have d3 : decide (tm < 0) = false := decide_eq_false n3
 have d4 : decide (2147483647 < tm) = false := decide_eq_false n4
 have HET := Lib.hid het
 have HEP := Lib.hid hep
 clear h g1 hk hf hll hdd hr hkr n1 n2 n3 n4 het hep
 go_enter Try.func18, Try.ntmps18
 go_wp2_with (first
  | (go_at_call 42; clear z0 z1 z2 z3 z4; (with_reducible refine (pblob_rightQ false dd true HBR.out H.out).mono ?_); rintro e_ wn ⟨rfl, h⟩; have z0 := h.rawCell 0; have z1 := h.rawCell 1; have z2 := h.rawCell 2; have z3 := h.rawCell 3; have z4 := h.rawCell 4; simp at z0 z1 z2 z3 z4; replace H := Lib.hid h; clear h)
  | (go_at_call 43; clear z0 z1 z2 z3 z4; (with_reducible refine (key_rightQ dd true HKR.out HDL.out H.out).mono ?_); rintro e_ wn ⟨rfl, h⟩; have z0 := h.rawCell 0; have z1 := h.rawCell 1; have z2 := h.rawCell 2; have z3 := h.rawCell 3; have z4 := h.rawCell 4; simp at z0 z1 z2 z3 z4; replace H := Lib.hid h; clear h)
  | (go_at_call 44; clear z0 z1 z2 z3 z4; (with_reducible refine (check_topics l q cap 0 HET.out HTF.out HLL.out HK.out H.out).mono ?_); rintro e_ wn ⟨rfl, h⟩; have z0 := h.rawCell 0; have z1 := h.rawCell 1; have z2 := h.rawCell 2; have z3 := h.rawCell 3; have z4 := h.rawCell 4; simp at z0 z1 z2 z3 z4; replace H := Lib.hid h; clear h)
  | (go_at_call 45; clear z0 z1 z2 z3 z4; (with_reducible refine (check_parts false dd ac tm v l q cap e HEP.out HF.out HLL.out HK.out H.out).mono ?_); rintro e_ wn ⟨rfl, h⟩; have z0 := h.rawCell 0; have z1 := h.rawCell 1; have z2 := h.rawCell 2; have z3 := h.rawCell 3; have z4 := h.rawCell 4; simp at z0 z1 z2 z3 z4; replace H := Lib.hid h; clear h))
 go_ret
 exact ⟨rfl, H.out.drop⟩
theorem preq_check (nl : Bool) (dd : Bs) (ac tm v : Int) (l : List PTop) (q : Option Addr) (cap : Nat) (hdd : dd.length ≤ 140737488355328) (hf : ∀ x ∈ l, CkT x) (hll : l.length ≤ 1000000) (e : Int) (he : errReq ⟨nl, dd⟩ ac tm v l = e) {W0 w : World} {K : Know} {L : List Res} (hk : K.has (Know.ptops (.slice q l.length cap) l)) (h : St W0 w K L) :
  Calls Try.prog 18 #[.agg #[.bool nl, .string (bb dd), .int .i64 ac, .int .i64 tm, .slice q l.length cap], .int .i64 v] w fun en w' => en = .returned (.int .i64 e) ∧ St W0 w' K L := by
 unfold errReq at he
 cases hr : (⟨nl, dd⟩ : BlobS).right with
 | false =>
  rw [if_pos (.inl hr)] at he
  subst he
  exact rqc_r0 nl dd ac tm v l q cap hdd hf hll hr hk h
 | true =>
  cases nl with
  | true =>
   rw [if_neg (by simp [hr])] at he
   by_cases n1 : ac < -1
   · rw [if_pos (.inl n1)] at he; subst he; exact rqc_a1_true dd ac tm v l q cap hdd hf hll hr n1 hk h
   by_cases n2 : 1 < ac
   · rw [if_pos (.inr (.inl n2))] at he; subst he; exact rqc_a2_true dd ac tm v l q cap hdd hf hll hr n1 n2 hk h
   by_cases n3 : tm < 0
   · rw [if_pos (.inr (.inr (.inl n3)))] at he; subst he; exact rqc_a3_true dd ac tm v l q cap hdd hf hll hr n1 n2 n3 hk h
   by_cases n4 : 2147483647 < tm
   · rw [if_pos (.inr (.inr (.inr n4)))] at he; subst he; exact rqc_a4_true dd ac tm v l q cap hdd hf hll hr n1 n2 n3 n4 hk h
   rw [if_neg (by omega)] at he
   by_cases ht : errTops l = 0
   · rw [if_neg (by simp [ht])] at he
     exact rqc_p_true dd ac tm v l q cap hdd hf hll hr n1 n2 n3 n4 ht e he hk h
   · rw [if_pos ht] at he
     exact rqc_t_true dd ac tm v l q cap hdd hf hll hr n1 n2 n3 n4 e he (by rw [← he]; exact ht) hk h
  | false =>
   cases hkr : keyRight dd with
   | false =>
     rw [if_pos (.inr ⟨rfl, hkr⟩)] at he
     subst he
     exact rqc_k0 dd ac tm v l q cap hdd hf hll hr hkr hk h
   | true =>
     rw [if_neg (by simp [hr, hkr])] at he
     by_cases n1 : ac < -1
     · rw [if_pos (.inl n1)] at he; subst he; exact rqc_a1_false dd ac tm v l q cap hdd hf hll hr hkr n1 hk h
     by_cases n2 : 1 < ac
     · rw [if_pos (.inr (.inl n2))] at he; subst he; exact rqc_a2_false dd ac tm v l q cap hdd hf hll hr hkr n1 n2 hk h
     by_cases n3 : tm < 0
     · rw [if_pos (.inr (.inr (.inl n3)))] at he; subst he; exact rqc_a3_false dd ac tm v l q cap hdd hf hll hr hkr n1 n2 n3 hk h
     by_cases n4 : 2147483647 < tm
     · rw [if_pos (.inr (.inr (.inr n4)))] at he; subst he; exact rqc_a4_false dd ac tm v l q cap hdd hf hll hr hkr n1 n2 n3 n4 hk h
     rw [if_neg (by omega)] at he
     by_cases ht : errTops l = 0
     · rw [if_neg (by simp [ht])] at he
       exact rqc_p_false dd ac tm v l q cap hdd hf hll hr hkr n1 n2 n3 n4 ht e he hk h
     · rw [if_pos ht] at he
       exact rqc_t_false dd ac tm v l q cap hdd hf hll hr hkr n1 n2 n3 n4 e he (by rw [← he]; exact ht) hk h
set_option maxHeartbeats 6000000 in
set_option maxRecDepth 100000 in
theorem preq_write_ok (po : Nat) (o : Bs) (nl : Bool) (dd : Bs) (ac tm v : Int) (l : List PTop) (q : Option Addr) (cap : Nat) (hdd : dd.length ≤ 140737488355328) (hf : ∀ x ∈ l, CkT x) (hll : l.length ≤ 1000000) (he : errReq ⟨nl, dd⟩ ac tm v l = 0) (o2 : Bs) (hs : o ++ encPReq nl dd ac tm l = o2) (h2 : o2.length ≤ 9000000) (hrt : (⟨nl, dd⟩ : BlobS).right = true) (hd2 : dd.length ≤ 32767) (hac : -32768 ≤ ac ∧ ac < 32768) (htm : 0 ≤ tm ∧ tm < 2147483648) (hpt : ∀ x ∈ l, PutT x) {W0 w : World} {K : Know} {L : List Res} (hk : K.has (Know.ptops (.slice q l.length cap) l)) (h : St W0 w K (.out po ⟨o, 0⟩ :: L)) :
  Calls Try.prog 16 #[.agg #[.bool nl, .string (bb dd), .int .i64 ac, .int .i64 tm, .slice q l.length cap], outPtr po, .int .i64 v] w fun en w' => en = .returned (.tuple #[]) ∧ St W0 w' K (.out po ⟨o2, 0⟩ :: L) := by
 obtain ⟨rb, hrb⟩ : ∃ b, w.heap.size = b := ⟨_, rfl⟩
 have g1 := (h.allocRaw #[.bool nl, .string (bb dd), .int .i64 ac, .int .i64 tm, .slice q l.length cap] 29).p1
 rw [hrb] at g1
 have z0 := g1.p1.rawCell 0; have z1 := g1.p1.rawCell 1; have z2 := g1.p1.rawCell 2; have z3 := g1.p1.rawCell 3; have z4 := g1.p1.rawCell 4; simp at z0 z1 z2 z3 z4
 have H := Lib.hid g1
 have HK := Lib.hid hk
 have HCF := Lib.hid hf
 have HLL := Lib.hid hll
 have HDD := Lib.hid hdd
 have HER := Lib.hid he
 obtain ⟨A1, hA1⟩ : ∃ A, o ++ encF 2 ⟨nl, dd⟩ = A := ⟨_, rfl⟩
 obtain ⟨A2, hA2⟩ : ∃ A, A1 ++ beBytes ac (2 : Int).toNat = A := ⟨_, rfl⟩
 obtain ⟨A3, hA3⟩ : ∃ A, A2 ++ beBytes tm (4 : Int).toNat = A := ⟨_, rfl⟩
 obtain ⟨A4, hA4⟩ : ∃ A, A3 ++ beBytes (l.length : Int) (4 : Int).toNat = A := ⟨_, rfl⟩
 have hR : A4 ++ (l.drop 0).flatMap encPTop = o2 := by
  rw [← hs, ← hA4, ← hA3, ← hA2, ← hA1, List.drop_zero]
  unfold encPReq
  simp only [List.append_assoc]
 have l4 := len_ahead hR h2
 have l3 := len_ahead hA4 l4
 have l2 := len_ahead hA3 l3
 have l1 := len_ahead hA2 l2
 have l0 := len_ahead hA1 l1
 have HA1 := Lib.hid hA1
 have HA2 := Lib.hid hA2
 have HA3 := Lib.hid hA3
 have HA4 := Lib.hid hA4
 have HR := Lib.hid hR
 have HO2 := Lib.hid h2
 have L0 := Lib.hid (show o.length ≤ 100000000000000 by omega)
 have L1 := Lib.hid (show A1.length ≤ 100000000000000 by omega)
 have L2 := Lib.hid (show A2.length ≤ 100000000000000 by omega)
 have L3 := Lib.hid (show A3.length ≤ 100000000000000 by omega)
 have HRT := Lib.hid hrt
 have HD2 := Lib.hid hd2
 have FA := Lib.hid (pfits2 ac hac)
 have FT := Lib.hid (pfits4 tm (by omega))
 have FL := Lib.hid (pfits4 (l.length : Int) (by omega))
 have RA := Lib.hid (show -9223372036854775808 ≤ ac ∧ ac < 9223372036854775808 by omega)
 have RT := Lib.hid (show -9223372036854775808 ≤ tm ∧ tm < 9223372036854775808 by omega)
 have RL := Lib.hid (show -9223372036854775808 ≤ (l.length : Int) ∧ (l.length : Int) < 9223372036854775808 by omega)
 have HPT := Lib.hid hpt
 have hni : (l.length : Int) ≤ 1000000 := by omega
 clear h g1 hk hf hll hdd he hs h2 hrt hd2 hac htm hpt hA1 hA2 hA3 hA4 hR l4 l3 l2 l1 l0
 go_enter Try.func16, Try.ntmps16
 go_wp2_with (first
  | (go_at_call 18; clear z0 z1 z2 z3 z4; (with_reducible refine (preq_check nl dd ac tm v l q cap HDD.out HCF.out HLL.out 0 HER.out HK.out H.out).mono ?_); rintro e_ wn ⟨rfl, h⟩; have z0 := h.p1.rawCell 0; have z1 := h.p1.rawCell 1; have z2 := h.p1.rawCell 2; have z3 := h.p1.rawCell 3; have z4 := h.p1.rawCell 4; simp at z0 z1 z2 z3 z4; replace H := Lib.hid h; clear h)
  | (go_at_call 38; clear z0 z1 z2 z3 z4; (with_reducible refine (pblob_fixed2 po o A1 nl dd HA1.out HRT.out HD2.out L0.out H.out).mono ?_); rintro e_ wn ⟨rfl, h⟩; have z0 := h.p1.rawCell 0; have z1 := h.p1.rawCell 1; have z2 := h.p1.rawCell 2; have z3 := h.p1.rawCell 3; have z4 := h.p1.rawCell 4; simp at z0 z1 z2 z3 z4; replace H := Lib.hid h; clear h)
  | (go_at_call 39; clear z0 z1 z2 z3 z4; (with_reducible refine (pso_int po A1 A2 ac 2 HA2.out FA.out RA.out L1.out H.out).mono ?_); rintro e_ wn ⟨rfl, h⟩; have z0 := h.p1.rawCell 0; have z1 := h.p1.rawCell 1; have z2 := h.p1.rawCell 2; have z3 := h.p1.rawCell 3; have z4 := h.p1.rawCell 4; simp at z0 z1 z2 z3 z4; replace H := Lib.hid h; clear h)
  | (go_at_call 39; clear z0 z1 z2 z3 z4; (with_reducible refine (pso_int po A2 A3 tm 4 HA3.out FT.out RT.out L2.out H.out).mono ?_); rintro e_ wn ⟨rfl, h⟩; have z0 := h.p1.rawCell 0; have z1 := h.p1.rawCell 1; have z2 := h.p1.rawCell 2; have z3 := h.p1.rawCell 3; have z4 := h.p1.rawCell 4; simp at z0 z1 z2 z3 z4; replace H := Lib.hid h; clear h)
  | (go_at_call 39; clear z0 z1 z2 z3 z4; (with_reducible refine (pso_int po A3 A4 l.length 4 HA4.out FL.out RL.out L3.out H.out).mono ?_); rintro e_ wn ⟨rfl, h⟩; have z0 := h.p1.rawCell 0; have z1 := h.p1.rawCell 1; have z2 := h.p1.rawCell 2; have z3 := h.p1.rawCell 3; have z4 := h.p1.rawCell 4; simp at z0 z1 z2 z3 z4; replace H := Lib.hid h; clear h))
 clear z0 z1 z2 z3 z4
 go_loopw [39] (fun iv wr => ∃ (k : Nat) (E : Bs), k ≤ l.length ∧ iv = .int .i64 k ∧ Hid (E ++ (l.drop k).flatMap encPTop = o2) ∧ St W0 wr K (.out po ⟨E, 0⟩ :: .raw rb #[.bool nl, .string (bb dd), .int .i64 ac, .int .i64 tm, .slice q l.length cap] 29 :: L)) (fun iv _ => l.length - (intOf iv).toNat)
 case atStart => exact ⟨0, A4, Nat.zero_le _, rfl, HR, H.out⟩
 case round =>
  obtain ⟨k, E, hkl, rfl, HE, hst⟩ := hrel
  clear H HR
  have H := Lib.hid hst
  clear hst
  by_cases hlt : k < l.length
  · obtain ⟨bk, off, hqq⟩ := ptops_at HK.out H.out (by omega)
    obtain ⟨x, hx⟩ : ∃ x, l[k] = x := ⟨_, rfl⟩
    have hmem : x ∈ l := hx ▸ List.getElem_mem hlt
    have hpx := HPT.out x hmem
    have HK' := HK.out
    rw [hqq] at HK'
    obtain ⟨c0, c1⟩ := ptops_cell HK' H.out k hlt x hx
    have HXK0 := ptops_parts HK.out hmem
    have he := HE.out
    rw [flat_cut encPTop l k hlt x hx] at he
    have hkn : (k : Int) < (l.length : Int) := by omega
    obtain ⟨nm, xl, xq, xcap⟩ := x
    simp only at c0 c1 HXK0
    obtain ⟨B1, hB1⟩ : ∃ B, E ++ encF 2 ⟨false, nm⟩ = B := ⟨_, rfl⟩
    obtain ⟨B2, hB2⟩ : ∃ B, B1 ++ beBytes (xl.length : Int) (4 : Int).toNat = B := ⟨_, rfl⟩
    have hI : B2 ++ ((xl.drop 0).flatMap encPart ++ (l.drop (k + 1)).flatMap encPTop) = o2 := by
     rw [← he, ← hB2, ← hB1, List.drop_zero]
     unfold encPTop
     simp only [List.append_assoc]
    have hxl : xl.length ≤ 100000 := hpx.few
    have hxi : (xl.length : Int) ≤ 100000 := by omega
    have l2 := len_ahead hI HO2.out
    have l1 := len_ahead hB2 l2
    have l0 := len_ahead hB1 l1
    have HB1 := Lib.hid hB1
    have HB2 := Lib.hid hB2
    have HI := Lib.hid hI
    have HNM := Lib.hid (show nm.length ≤ 32767 from hpx.name)
    have M0 := Lib.hid (show E.length ≤ 100000000000000 by omega)
    have M1 := Lib.hid (show B1.length ≤ 100000000000000 by omega)
    have FX := Lib.hid (pfits4 (xl.length : Int) (by omega))
    have RX := Lib.hid (show -9223372036854775808 ≤ (xl.length : Int) ∧ (xl.length : Int) < 9223372036854775808 by omega)
    have HXK := Lib.hid HXK0
    have HPP := Lib.hid (show ∀ y ∈ xl, PutP y from hpx.parts)
    subst hqq
    clear hx hmem hpx HK' HXK0 he hxl hB1 hB2 hI l2 l1 l0
    go_wp2_with (first
  | (go_at_call 40; (with_reducible refine (pblob_text po E B1 nm HB1.out HNM.out M0.out ((H.out.allocRaw #[.string (bb nm), .slice xq xl.length xcap] 33).p1)).mono ?_); rintro e_ wn ⟨rfl, h⟩; have y0 := h.p1.rawCell 0; have y1 := h.p1.rawCell 1; simp at y0 y1; replace H := Lib.hid h; clear h)
  | (go_at_call 39; clear y0 y1; (with_reducible refine (pso_int po B1 B2 xl.length 4 HB2.out FX.out RX.out M1.out H.out).mono ?_); rintro e_ wn ⟨rfl, h⟩; have y1 := h.p1.rawCell 1; simp at y1; replace H := Lib.hid h; clear h))
    clear y1
    go_loopw [55] (fun jv wr => ∃ (j : Nat) (G : Bs), j ≤ xl.length ∧ jv = .int .i64 j ∧ Hid (G ++ ((xl.drop j).flatMap encPart ++ (l.drop (k + 1)).flatMap encPTop) = o2) ∧ St W0 wr K (.out po ⟨G, 0⟩ :: .raw rb #[.bool nl, .string (bb dd), .int .i64 ac, .int .i64 tm, .slice (some ⟨bk, off, none⟩) l.length cap] 29 :: L)) (fun jv _ => xl.length - (intOf jv).toNat)
    case atStart => exact ⟨0, B2, Nat.zero_le _, rfl, HI, H.out.p1.drop⟩
    case round =>
     obtain ⟨j, G, hjl, rfl, HG, hst⟩ := hrel
     clear H HI c0 c1
     have H := Lib.hid hst
     clear hst
     by_cases hjt : j < xl.length
     · obtain ⟨pk, poff, hpq⟩ := pparts_at HXK.out H.out (by omega)
       subst hpq
       obtain ⟨y, hy⟩ : ∃ y, xl[j] = y := ⟨_, rfl⟩
       have hmem : y ∈ xl := hy ▸ List.getElem_mem hjt
       have hpy := HPP.out y hmem
       obtain ⟨d0, d1⟩ := pparts_cell HXK.out H.out j hjt y hy
       have HYK0 := pparts_bats HXK.out hmem
       have hg := HG.out
       rw [flat_cut encPart xl j hjt y hy] at hg
       have hjn : (j : Int) < (xl.length : Int) := by omega
       obtain ⟨yi, yl, yq, ycap⟩ := y
       simp only at d0 d1 HYK0
       obtain ⟨G2, hG2⟩ : ∃ B, G ++ encPart ⟨yi, yl, yq, ycap⟩ = B := ⟨_, rfl⟩
       have hI : G2 ++ ((xl.drop (j + 1)).flatMap encPart ++ (l.drop (k + 1)).flatMap encPTop) = o2 := by
        rw [← hg, ← hG2]
        simp only [List.append_assoc]
       have l1 := len_ahead hI HO2.out
       have l0 := len_ahead hG2 l1
       have HYK := Lib.hid HYK0
       have HPY := Lib.hid hpy
       have HG2 := Lib.hid hG2
       have HI2 := Lib.hid hI
       have M2 := Lib.hid (show G.length ≤ 10000000 by omega)
       clear hy hmem hpy HYK0 hg hG2 hI l1 l0
       go_wp2_with (go_at_call 41; (with_reducible refine (put_part po G G2 yi yl yq ycap HPY.out HG2.out M2.out HYK.out ((H.out.allocRaw #[.int .i64 yi, .slice yq yl.length ycap] 36).p1)).mono ?_); rintro e_ wn ⟨rfl, h⟩; have h := h.p1.drop; replace H := Lib.hid h; clear h)
       go_roundw
       case rel =>
        refine ⟨j + 1, G2, hjt, by go_num, HI2, ?_⟩
        exact H.out
       case measure => first | (simp [intOf]; done) | (simp [intOf]; omega)
     · obtain rfl : j = xl.length := by omega
       have HE2 := Lib.hid (show G ++ (l.drop (k + 1)).flatMap encPTop = o2 by have hg := HG.out; rw [List.drop_length] at hg; exact hg)
       go_wp2_with fail
       go_roundw
       case rel =>
        refine ⟨k + 1, G, hlt, by go_num, HE2, ?_⟩
        exact H.out
       case measure => first | (simp [intOf]; done) | (simp [intOf]; omega)
  · obtain rfl : k = l.length := by omega
    have he := HE.out
    rw [List.drop_length, List.flatMap_nil, List.append_nil] at he
    subst he
    go_wp2_with fail
    go_end0
    exact ⟨rfl, H.out.p1.drop⟩
theorem nob_call {W0 w : World} {K : Know} {L : List Res} (h : St W0 w K L) :
  Calls Try.prog 15 #[] w fun en w' => en = .returned (.agg #[.int .i64 0, .int .i64 0, .bool false, .bool false, .bool false, .int .i64 0, .int .i64 0, .int .i64 0, .int .i64 (-1), .int .i64 (-1), .int .i64 (-1), .slice none 0 0]) ∧ St W0 w' K L := by
 obtain ⟨rb, hrb⟩ : ∃ b, w.heap.size = b := ⟨_, rfl⟩
 have g2 := h.allocRaw #[.int .i64 0, .int .i64 0, .bool false, .bool false, .bool false, .int .i64 0, .int .i64 0, .int .i64 0, .int .i64 (-1), .int .i64 (-1), .int .i64 (-1), .slice none 0 0] 39
 rw [hrb] at g2
 have H := Lib.hid g2
 clear h g2
 go_enter Try.func15, Try.ntmps15
 go_wp2
 have hz := H.out
 refine bodyPost_ret (rc_cell_onlyP rfl _ _ rb [.int .i64 0, .int .i64 0, .bool false, .bool false, .bool false, .int .i64 0, .int .i64 0, .int .i64 0, .int .i64 (-1), .int .i64 (-1), .int .i64 (-1), .slice none 0 0] _ rfl (rc_rangeP hz) Try.underlying39 rfl (by kernel_rfl)) rfl ?_
 exact ⟨rfl, hz.drop⟩

theorem nob_write (po b p t : Nat) {W0 w : World} {K : Know} {L : List Res} (hk : K.has (Know.ptops (.slice (some ⟨t, 0, none⟩) 1 1) [nobTop 1 b p])) (h : St W0 w K (.out po ⟨[], 0⟩ :: L)) :
  Calls Try.prog 16 #[.agg #[.bool true, .string ⟨#[]⟩, .int .i64 0, .int .i64 0, .slice (some ⟨t, 0, none⟩) 1 1], outPtr po, .int .i64 3] w fun en w' => en = .returned (.tuple #[]) ∧ ∃ s : Bs, s.length = 88 ∧ St W0 w' K (.out po ⟨s, 0⟩ :: L) := by
 have hl := nob_bytes b p
 refine (preq_write_ok po [] true [] 0 0 3 [nobTop 1 b p] (some ⟨t, 0, none⟩) 1 (by decide) (fun x hx => by rw [List.mem_singleton.1 hx]; exact nob_ckT 1 b p (by decide)) (by show (1 : Nat) ≤ 1000000; decide) (nob_E1 b p 3) (encPReq true [] 0 0 [nobTop 1 b p]) rfl (by omega) rfl (by decide) (by decide) (by decide) (fun x hx => by rw [List.mem_singleton.1 hx]; exact nob_putT b p) hk h).mono ?_
 rintro en w' ⟨h1, h2⟩
 exact ⟨h1, _, hl, h2⟩
theorem nob_check3 (b p t : Nat) {W0 w : World} {K : Know} {L : List Res} (hk : K.has (Know.ptops (.slice (some ⟨t, 0, none⟩) 1 1) [nobTop 2 b p])) (h : St W0 w K L) :
  Calls Try.prog 18 #[.agg #[.bool true, .string ⟨#[]⟩, .int .i64 0, .int .i64 0, .slice (some ⟨t, 0, none⟩) 1 1], .int .i64 3] w fun en w' => en = .returned (.int .i64 10) ∧ St W0 w' K L :=
 preq_check true [] 0 0 3 [nobTop 2 b p] (some ⟨t, 0, none⟩) 1 (by decide) (fun x hx => by rw [List.mem_singleton.1 hx]; exact nob_ckT 2 b p (by decide)) (by show (1 : Nat) ≤ 1000000; decide) 10 (nob_E2 b p) hk h
theorem nob_check4 (b p t : Nat) {W0 w : World} {K : Know} {L : List Res} (hk : K.has (Know.ptops (.slice (some ⟨t, 0, none⟩) 1 1) [nobTop 2 b p])) (h : St W0 w K L) :
  Calls Try.prog 18 #[.agg #[.bool true, .string ⟨#[]⟩, .int .i64 0, .int .i64 0, .slice (some ⟨t, 0, none⟩) 1 1], .int .i64 4] w fun en w' => en = .returned (.int .i64 0) ∧ St W0 w' K L :=
 preq_check true [] 0 0 4 [nobTop 2 b p] (some ⟨t, 0, none⟩) 1 (by decide) (fun x hx => by rw [List.mem_singleton.1 hx]; exact nob_ckT 2 b p (by decide)) (by show (1 : Nat) ≤ 1000000; decide) 0 (nob_E3 b p) hk h

set_option maxHeartbeats 4000000 in
set_option maxRecDepth 100000 in
theorem speaks20 {W0 w : World} {K : Know} {L : List Res} (h : St W0 w K L) :
   Calls Try.prog 5 #[] w fun en w' => en = .returned (.bool true) ∧ St W0 w' K L := by
 have H := Lib.hid h
 have t1 : True := trivial
 clear h
 go_enter Try.func5, Try.ntmps5
 go_upto_region 3 with (go_at_call 15; have _t := t1; clear _t; (with_reducible refine (nob_call H.out).mono ?_); rintro e_ wn ⟨rfl, h⟩; obtain ⟨bb_, hbb⟩ : ∃ b, wn.heap.size = b := ⟨_, rfl⟩; obtain ⟨pb, hpb⟩ : ∃ b, bb_ + 1 = b := ⟨_, rfl⟩; obtain ⟨tb, htb⟩ : ∃ b, pb + 1 = b := ⟨_, rfl⟩; obtain ⟨rb, hrb⟩ : ∃ b, tb + 1 = b := ⟨_, rfl⟩; obtain ⟨po, hpo⟩ : ∃ b, rb + 1 = b := ⟨_, rfl⟩; replace H := Lib.hid h; clear h t1)
 have h0 := ((((H.out.allocRaw #[.int .i64 0, .int .i64 0, .bool false, .bool false, .bool false, .int .i64 0, .int .i64 0, .int .i64 0, .int .i64 (-1), .int .i64 (-1), .int .i64 (-1), .slice none 0 0] 39).allocRaw #[.int .i64 0, .slice (some ⟨bb_, 0, none⟩) 1 1] 36).allocRaw #[.string ⟨#[97]⟩, .slice (some ⟨pb, 0, none⟩) 1 1] 33).allocRaw #[.bool true, .string ⟨#[]⟩, .int .i64 0, .int .i64 0, .slice (some ⟨tb, 0, none⟩) 1 1] 29).allocOut
 simp only [World.size_alloc, hbb, hpb, htb, hrb, hpo] at h0
 obtain ⟨Kp, l1, l2, l3, l4⟩ := nob_lend 1 bb_ pb tb (T1 := 39) (T2 := 36) (T3 := 33) (L := .out po ⟨[], 0⟩ :: .raw rb #[.bool true, .string ⟨#[]⟩, .int .i64 0, .int .i64 0, .slice (some ⟨tb, 0, none⟩) 1 1] 29 :: L) h0.p2.p3.p4
 have z0 := l3.p1.rawCell 0; have z1 := l3.p1.rawCell 1; have z2 := l3.p1.rawCell 2; have z3 := l3.p1.rawCell 3; have z4 := l3.p1.rawCell 4; simp at z0 z1 z2 z3 z4
 have HM2 := Lib.hid l2
 have HM4 := Lib.hid l4
 clear H h0 l1 l2 l4
 have H := Lib.hid l3
 have t3 : True := trivial
 have t4 : True := trivial
 have t5 : True := trivial
 clear l3
 go_upto_region 5 with (first
   | (go_at_call 16; clear z0 z1 z2 z3 z4; (with_reducible refine (nob_write po bb_ pb tb HM2.out H.out).mono ?_); rintro e_ wn ⟨rfl, s, hs88, h⟩; have h := HM4.out _ _ h; have h := h.p3; have g88 : ((s.length : Int) == 88) = true := (by rw [hs88]; rfl); replace H := Lib.hid h; clear h hs88)
   | (go_at_call 17; (with_reducible refine (pso_text po s H.out).mono ?_); rintro e_ wn ⟨rfl, h⟩; have h := h.p3.p3.p3; have z0 := h.p4.rawCell 0; have z1 := h.p4.rawCell 1; have z2 := h.p4.rawCell 2; have z3 := h.p4.rawCell 3; have z4 := h.p4.rawCell 4; simp at z0 z1 z2 z3 z4; replace H := Lib.hid h; clear h))
 have hs := H.out.drew
 refine wp_region_held_drew (S := fun w' => w'.cell? ⟨rb, 4, none⟩ = some (.slice (some ⟨tb, 0, none⟩) 1 1) ∧ w'.cell? ⟨tb, 1, none⟩ = some (.slice (some ⟨pb, 0, none⟩) 1 1)) (by kernel_rfl) (⟨by have := (hs).p4.rawCell 4; simpa using this, by have := (hs).p2.rawCell 1; simpa using this⟩) (fun hHeld => ?_)
 refine tQ 0 ⟨some 19, .fieldAddr 29 (.tmp 1) 3, 0, "law.go:24", #[], none⟩ ?_; simp only [Act.put, sA, sB, sC]
 refine tQ 1 ⟨some 20, .load 27 (.tmp 19), 27, "law.go:24", #[.mk 0 .data], none⟩ ?_; simp only [Act.put, sA, sB, sC]
 refine tQ 2 ⟨some 21, .indexAddr 27 (.tmp 20) (.const (Value.int IntKind.i64 0)), 0, "law.go:24", #[.mk 1 .data], none⟩ ?_; simp only [Act.put, sA, sB, sC]
 refine tQ 3 ⟨some 22, .fieldAddr 33 (.tmp 21) 1, 0, "law.go:24", #[.mk 2 .data], none⟩ ?_; simp only [Act.put, sA, sB, sC]
 refine tQ 4 ⟨some 23, .load 31 (.tmp 22), 31, "law.go:24", #[.mk 3 .data], none⟩ ?_; simp only [Act.put, sA, sB, sC]
 refine wpAnyH_ready (rs := [5]) (by kernel_rfl) (by simp) (AllReadyH.cons (o := ⟨some 24, .call { callee := .value (.func 15), args := #[], argTypes := #[] }, 39, "law.go:24", #[], none⟩) rfl (fun KK hK => ?_) AllReadyH.nil)
 · go_simp
   go_at_call 15
   with_reducible refine (nob_call hs).mono ?_
   rintro e wq ⟨rfl, hs⟩
   refine hK.out _ _ (⟨by have := (hs).p4.rawCell 4; simpa using this, by have := (hs).p2.rawCell 1; simpa using this⟩) (fun hHeld => ?_)
   clear hK KK
   try simp only [Act.put, sA, sB, sC]
   refine wpAnyH_ready (rs := [6]) (by kernel_rfl) (by simp) (AllReadyH.cons (o := ⟨some 25, .call { callee := .value (.func 15), args := #[], argTypes := #[] }, 39, "law.go:24", #[.mk 5 .chain], none⟩) rfl (fun KK hK => ?_) AllReadyH.nil)
   · go_simp
     go_at_call 15
     with_reducible refine (nob_call hs).mono ?_
     rintro e wq ⟨rfl, hs⟩
     refine hK.out _ _ (⟨by have := (hs).p4.rawCell 4; simpa using this, by have := (hs).p2.rawCell 1; simpa using this⟩) (fun hHeld => ?_)
     clear hK KK
     try simp only [Act.put, sA, sB, sC]
     refine wpAnyH_ready (rs := [7]) (by kernel_rfl) (by simp) (AllReadyH.cons (o := ⟨some 26, .buildSlice 34 2 #[(0, .tmp 24), (1, .tmp 25)], 34, "law.go:24", #[.mk 5 .data, .mk 6 .data], none⟩) rfl (fun KK hK => ?_) AllReadyH.nil)
     · rw [if_pos (by rfl)]
       refine op_value (exec_buildP _ _ _ _ (by kernel_rfl) (buildNob2 _)) ?_
       obtain ⟨wy, b2, ey, eb, hs⟩ := hs.allocEx #[.int .i64 0, .int .i64 0, .bool false, .bool false, .bool false, .int .i64 0, .int .i64 0, .int .i64 0, .int .i64 (-1), .int .i64 (-1), .int .i64 (-1), .slice none 0 0, .int .i64 0, .int .i64 0, .bool false, .bool false, .bool false, .int .i64 0, .int .i64 0, .int .i64 0, .int .i64 (-1), .int .i64 (-1), .int .i64 (-1), .slice none 0 0] 39
       rw [ey, eb]
       clear ey eb
       refine hK.out _ _ (⟨by have := (hs).p5.rawCell 4; simpa using this, by have := (hs).p3.rawCell 1; simpa using this⟩) (fun hHeld => ?_)
       clear hK KK
       try simp only [Act.put, sA, sB, sC]
       refine tQ 8 ⟨some 27, .indexAddr 31 (.tmp 23) (.const (Value.int IntKind.i64 0)), 0, "law.go:24", #[.mk 4 .data, .mk 0 .phase, .mk 1 .phase, .mk 2 .phase, .mk 3 .phase, .mk 4 .phase, .mk 5 .phase, .mk 6 .phase, .mk 7 .phase], none⟩ ?_; simp only [Act.put, sA, sB, sC]
       refine tQ 9 ⟨some 28, .fieldAddr 36 (.tmp 27) 1, 0, "law.go:24", #[.mk 8 .data, .mk 0 .phase, .mk 1 .phase, .mk 2 .phase, .mk 3 .phase, .mk 4 .phase, .mk 5 .phase, .mk 6 .phase, .mk 7 .phase], none⟩ ?_; simp only [Act.put, sA, sB, sC]
       refine wpAnyH_ready (rs := [10]) (by kernel_rfl) (by simp) (AllReadyH.cons (o := ⟨none, .store 34 (.tmp 28) (.tmp 26), 0, "law.go:24", #[.mk 9 .data, .mk 7 .data, .mk 6 .chain, .mk 0 .phase, .mk 1 .phase, .mk 2 .phase, .mk 3 .phase, .mk 4 .phase, .mk 5 .phase, .mk 6 .phase, .mk 7 .phase], none⟩) rfl (fun KK hK => ?_) AllReadyH.nil)
       · have hs := hs.p2
         have q1 := hs.rawFree 1
         have z1 := hs.rawCell 1
         simp at z1
         rw [if_pos (by rfl)]
         refine op_skip (w' := wy.setCell ⟨pb, 1, none⟩ (.slice (some ⟨b2, 0, none⟩) 2 2)) (by go_simp) ?_
         obtain ⟨wz, ez, hs⟩ := hs.setExP 1 (.slice (some ⟨b2, 0, none⟩) 2 2)
         rw [ez]
         clear ez q1 z1
         have hs := hs.p2
         refine hK.out _ _ (⟨by have := (hs).p5.rawCell 4; simpa using this, by have := (hs).p3.rawCell 1; simpa using this⟩) (fun hHeld => ?_)
         clear hK KK
         try simp only [Act.put, sA, sB, sC]
         refine wpAnyH_done (by kernel_rfl) ?_ _
         clear hHeld z0 z1 z2 z3 z4
         obtain ⟨Kq, m1, m2, m3, m4⟩ := nob_lend 2 b2 pb tb (T1 := 39) (T2 := 36) (T3 := 33) (L := .out po ⟨s, 0⟩ :: .raw rb #[.bool true, .string ⟨#[]⟩, .int .i64 0, .int .i64 0, .slice (some ⟨tb, 0, none⟩) 1 1] 29 :: L) hs.drop.p1
         have z0 := m3.p1.rawCell 0; have z1 := m3.p1.rawCell 1; have z2 := m3.p1.rawCell 2; have z3 := m3.p1.rawCell 3; have z4 := m3.p1.rawCell 4; simp at z0 z1 z2 z3 z4
         have HM2 := Lib.hid m2
         have HM4 := Lib.hid m4
         have H := Lib.hid m3
         clear m1 m2 m3 m4 hs
         go_wp2_with (first
          | (go_at_call 18; have _t := t3; clear _t; clear z0 z1 z2 z3 z4; (with_reducible refine (nob_check3 b2 pb tb HM2.out H.out).mono ?_); rintro e_ wn ⟨rfl, h⟩; have z0 := h.p1.rawCell 0; have z1 := h.p1.rawCell 1; have z2 := h.p1.rawCell 2; have z3 := h.p1.rawCell 3; have z4 := h.p1.rawCell 4; simp at z0 z1 z2 z3 z4; replace H := Lib.hid h; clear h t3)
          | (go_at_call 18; have _t := t4; clear _t; clear z0 z1 z2 z3 z4; (with_reducible refine (nob_check4 b2 pb tb HM2.out H.out).mono ?_); rintro e_ wn ⟨rfl, h⟩; replace H := Lib.hid h; clear h t4))
         go_ret
         exact ⟨rfl, (HM4.out _ _ H.out).drop.drop.drop.drop.drop⟩
structure Ext {α : Type} (p : Bs → Except Int (α × Nat)) : Prop where
  ok : ∀ (t r : Bs) (x : α × Nat), p t = .ok x → p (t ++ r) = .ok x
  err : ∀ (t r : Bs) (e : Int), p t = .error e → e ≠ 1 → p (t ++ r) = .error e
  le : ∀ (t : Bs) (x : α) (k : Nat), p t = .ok (x, k) → k ≤ t.length
theorem Ext.short {α : Type} {p : Bs → Except Int (α × Nat)} (h : Ext p) {e : Bs} {x : α} (hb : p e = .ok (x, e.length)) (j : Nat) (hj : j < e.length) : p (e.take j) = .error 1 := by
 have hs : e.take j ++ e.drop j = e := List.take_append_drop _ _
 cases hp : p (e.take j) with
 | ok y =>
  obtain ⟨y, k⟩ := y
  have h1 := h.ok _ (e.drop j) _ hp
  rw [hs, hb] at h1
  cases h1
  have h2 := h.le _ _ _ hp
  rw [List.length_take] at h2
  omega
 | error f =>
  by_cases hf : f = 1
  · rw [hf]
  · have h1 := h.err _ (e.drop j) _ hp hf
    rw [hs, hb] at h1
    cases h1
theorem ext_vgetF (top : Nat) : ∀ (t : Bs) (f r n : Nat) (rest : Bs), (∀ x, vgetF top f r n t = .ok x → vgetF top f r n (t ++ rest) = .ok x) ∧ (∀ e, vgetF top f r n t = .error e → e ≠ 1 → vgetF top f r n (t ++ rest) = .error e)
  | [], f, r, n, rest => ⟨fun x h => (by rw [vg_none] at h; cases h), fun e h h1 => (by rw [vg_none] at h; cases h; exact absurd rfl h1)⟩
  | c :: t, 0, r, n, rest => ⟨fun x h => (by cases h), fun e h h1 => (by cases h; rfl)⟩
  | c :: t, f + 1, r, n, rest => by
    have ih := ext_vgetF top t f (r + 1) (n + c.toNat % 128 * 128 ^ r) rest
    constructor
    · intro x h
      simp only [vgetF, List.cons_append] at h ⊢
      split at h
      · cases h
      · rename_i h1
        rw [if_neg h1]
        split at h
        · rename_i h2
          rw [if_pos h2]
          exact ih.1 x h
        · rename_i h2
          rw [if_neg h2]
          exact h
    · intro e h he
      simp only [vgetF, List.cons_append] at h ⊢
      split at h
      · rename_i h1
        rw [if_pos h1]
        exact h
      · rename_i h1
        rw [if_neg h1]
        split at h
        · rename_i h2
          rw [if_pos h2]
          exact ih.2 e h he
        · cases h
theorem ext_vgetL : Ext vgetL := by
 refine ⟨fun t r x h => ?_, fun t r e h he => ?_, fun t x k h => (vgetL_one h).2.2.1⟩
 · unfold vgetL at h ⊢
   cases hv : vgetF 1 10 0 0 t with
   | error e => rw [hv] at h; cases h
   | ok y => rw [hv] at h; rw [(ext_vgetF 1 t 10 0 0 r).1 _ hv]; exact h
 · unfold vgetL at h ⊢
   cases hv : vgetF 1 10 0 0 t with
   | error e2 => rw [hv] at h; cases h; rw [(ext_vgetF 1 t 10 0 0 r).2 _ hv he]
   | ok y => rw [hv] at h; cases h
theorem ext_vgetI : Ext vgetI := by
 refine ⟨fun t r x h => ?_, fun t r e h he => ?_, fun t x k h => (vgetI_one h).2.2.1⟩
 · unfold vgetI at h ⊢
   cases hv : vgetF 15 5 0 0 t with
   | error e => rw [hv] at h; cases h
   | ok y => rw [hv] at h; rw [(ext_vgetF 15 t 5 0 0 r).1 _ hv]; exact h
 · unfold vgetI at h ⊢
   cases hv : vgetF 15 5 0 0 t with
   | error e2 => rw [hv] at h; cases h; rw [(ext_vgetF 15 t 5 0 0 r).2 _ hv he]
   | ok y => rw [hv] at h; cases h
theorem gotS_ok {t : Bs} {k : Nat} {n : Int} {x : BlobS × Nat} (hk : k ≤ t.length) (h : gotS t k n = .ok x) (r : Bs) : gotS (t ++ r) k n = .ok x ∧ x.2 ≤ t.length := by
 unfold gotS at h ⊢
 by_cases h1 : n = -1
 · rw [if_pos h1] at h ⊢; cases h; exact ⟨rfl, hk⟩
 rw [if_neg h1] at h ⊢
 by_cases h2 : n < 0
 · rw [if_pos h2] at h; cases h
 rw [if_neg h2] at h ⊢
 by_cases h3 : (t.length : Int) - k < n
 · rw [if_pos h3] at h; cases h
 rw [if_neg h3] at h
 cases h
 rw [if_neg (by rw [List.length_append]; omega)]
 refine ⟨?_, by simp only; omega⟩
 rw [List.drop_append_of_le_length hk, List.take_append_of_le_length (by rw [List.length_drop]; omega)]
theorem gotS_er {t : Bs} {k : Nat} {n : Int} {e : Int} (h : gotS t k n = .error e) (he : e ≠ 1) (r : Bs) : gotS (t ++ r) k n = .error e := by
 unfold gotS at h ⊢
 by_cases h1 : n = -1
 · rw [if_pos h1] at h; cases h
 rw [if_neg h1] at h ⊢
 by_cases h2 : n < 0
 · rw [if_pos h2] at h ⊢; exact h
 rw [if_neg h2] at h
 by_cases h3 : (t.length : Int) - k < n
 · rw [if_pos h3] at h; cases h; exact absurd rfl he
 · rw [if_neg h3] at h; cases h
theorem ext_varied : Ext revaried := by
 refine ⟨fun t r x h => ?_, fun t r e h he => ?_, fun t x k h => ?_⟩
 · unfold revaried at h ⊢
   cases hv : vgetI t with
   | error e => rw [hv] at h; cases h
   | ok y => rw [hv] at h; rw [ext_vgetI.ok _ r _ hv]; exact (gotS_ok (ext_vgetI.le _ _ _ hv) h r).1
 · unfold revaried at h ⊢
   cases hv : vgetI t with
   | error e2 => rw [hv] at h; cases h; rw [ext_vgetI.err _ r _ hv he]
   | ok y => rw [hv] at h; rw [ext_vgetI.ok _ r _ hv]; exact gotS_er h he r
 · unfold revaried at h
   cases hv : vgetI t with
   | error e => rw [hv] at h; cases h
   | ok y => rw [hv] at h; exact (gotS_ok (ext_vgetI.le _ _ _ hv) h []).2
theorem ext_fixed (size : Nat) : Ext (refixed size) := by
 refine ⟨fun t r x h => ?_, fun t r e h he => ?_, fun t x k h => ?_⟩
 · unfold refixed at h ⊢
   by_cases h1 : t.length < size
   · rw [if_pos h1] at h; cases h
   · rw [if_neg h1] at h
     rw [if_neg (by rw [List.length_append]; omega), List.take_append_of_le_length (by omega)]
     exact (gotS_ok (by omega) h r).1
 · unfold refixed at h ⊢
   by_cases h1 : t.length < size
   · rw [if_pos h1] at h; cases h; exact absurd rfl he
   · rw [if_neg h1] at h
     rw [if_neg (by rw [List.length_append]; omega), List.take_append_of_le_length (by omega)]
     exact gotS_er h he r
 · unfold refixed at h
   by_cases h1 : t.length < size
   · rw [if_pos h1] at h; cases h
   · rw [if_neg h1] at h
     exact (gotS_ok (by omega) h []).2

def rdL (z : Bool × InS) (n : Int) : Bool × InS := (decide (z.2.vlong.1 = n) && z.1, z.2.vlong.2)
def rdV (z : Bool × InS) (b : BlobS) : Bool × InS := (decide (z.2.varied.1 = b) && z.1, z.2.varied.2)
def rdF (z : Bool × InS) (b : BlobS) : Bool × InS := (decide ((z.2.fixed 2).1 = b) && z.1, (z.2.fixed 2).2)
def rdB (z : Bool × InS) (b : BlobS) : Bool × InS := rdF (rdV z b) b
def encN (n : Int) : Bs := putU (foldN n)
def encBl (b : BlobS) : Bs := encV b ++ encF 2 b
def At (s : Bs) (c : Nat) (z : Bool × InS) (a : Nat) : Prop := (a ≤ c ∧ z.2 = ⟨s.take c, a, 0⟩ ∧ (z.1 = true)) ∨ (c < a ∧ z.2.err = 1)
theorem At.read {α : Type} [DecidableEq α] {f : InS → α × InS} {p : Bs → Except Int (α × Nat)} {d : α} (hr : Rds f p d) (he : Ext p) {s r : Bs} {c a : Nat} {z : Bool × InS} (hc : c ≤ s.length) (h : At s c z a) {e : Bs} {x : α} (hp : p e = .ok (x, e.length)) (hs : s.drop a = e ++ r) :
   At s c (decide ((f z.2).1 = x) && z.1, (f z.2).2) (a + e.length) := by
 have hl : (s.take c).length = c := by rw [List.length_take]; omega
 rcases h with ⟨h1, h2, h3⟩ | ⟨h1, h2⟩
 · rw [h2, h3]
   have hd : (s.take c).drop a = (e ++ r).take (c - a) := by rw [← hs, List.drop_take]
   by_cases hlt : a + e.length ≤ c
   · have h4 : p ((s.take c).drop a) = .ok (x, e.length) := by
      rw [hd, List.take_append, List.take_of_length_le (by omega)]
      exact he.ok _ _ _ hp
     have h5 := (hr.ok (s.take c) a x e.length (by omega) h4).2
     rw [h5]
     exact .inl ⟨hlt, rfl, by simp⟩
   · have h4 : p ((s.take c).drop a) = .error 1 := by
      rw [hd, List.take_append_of_le_length (by omega)]
      exact he.short hp _ (by omega)
     obtain ⟨_, q, _, h5⟩ := hr.err (s.take c) a 1 (by omega) h4
     rw [h5]
     exact .inr ⟨by omega, rfl⟩
 · have h4 := hr.stuck z.2 (by rw [h2]; decide)
   rw [h4]
   exact .inr ⟨by omega, h2⟩
theorem At.long {s r : Bs} {c a : Nat} {z : Bool × InS} (hc : c ≤ s.length) (h : At s c z a) (n : Int) (h0 : -9223372036854775808 ≤ n) (h1 : n < 9223372036854775808) (hs : s.drop a = encN n ++ r) : At s c (rdL z n) (a + (encN n).length) := by
 have hp : vgetL (encN n) = .ok (n, (encN n).length) := by
  have := vgetL_put n h0 h1 []
  rwa [List.append_nil] at this
 exact At.read rds_long ext_vgetL hc h hp hs
theorem At.varied {s r : Bs} {c a : Nat} {z : Bool × InS} (hc : c ≤ s.length) (h : At s c z a) (b : BlobS) (hb : b.right = true) (hl : b.data.length ≤ 2147483647) (hs : s.drop a = encV b ++ r) : At s c (rdV z b) (a + (encV b).length) := by
 have hp : revaried (encV b) = .ok (b, (encV b).length) := by
  have := revaried_back b hb hl []
  rwa [List.append_nil] at this
 exact At.read rds_varied ext_varied hc h hp hs
theorem At.fixed {s r : Bs} {c a : Nat} {z : Bool × InS} (hc : c ≤ s.length) (h : At s c z a) (b : BlobS) (hb : b.right = true) (hf : fits b.len 2) (hs : s.drop a = encF 2 b ++ r) : At s c (rdF z b) (a + (encF 2 b).length) := by
 have hp : refixed 2 (encF 2 b) = .ok (b, (encF 2 b).length) := by
  have := refixed_back 2 b hb hf []
  rwa [List.append_nil] at this
 exact At.read (rds_fixed 2 (by decide) (by decide)) (ext_fixed 2) hc h hp hs
def BOk (b : BlobS) : Prop := b.right = true ∧ b.data.length ≤ 200
theorem BOk.fits {b : BlobS} (h : BOk b) : fits b.len 2 := by
 have h128 : half 2 = 32768 := by decide
 have hl := h.2
 refine ⟨by decide, by decide, ?_, ?_⟩ <;> unfold BlobS.len <;> split <;> simp [h128] <;> omega
theorem At.blob {s r : Bs} {c a : Nat} {z : Bool × InS} (hc : c ≤ s.length) (h : At s c z a) (b : BlobS) (hb : BOk b) (hs : s.drop a = encBl b ++ r) : At s c (rdB z b) (a + (encBl b).length) := by
 unfold encBl at hs ⊢
 rw [List.append_assoc] at hs
 have h1 := h.varied hc b hb.1 (by have := hb.2; omega) hs
 have h2 : s.drop (a + (encV b).length) = encF 2 b ++ r := by rw [← List.drop_drop, hs, List.drop_left]
 have h3 := h1.fixed hc b hb.1 hb.fits h2
 rw [List.length_append, ← Nat.add_assoc]
 exact h3
def RI (cs : List Value) (x : Int) : Prop := cs = [.int .i64 x]
structure TopS where
  name : Bs
  parts : List Int
deriving DecidableEq
def RTop (cs : List Value) (x : TopS × Value) : Prop := cs = [.string (bb x.1.name), x.2]
def Know.tops (v : Value) (l : List (TopS × Value)) : Know := (Know.flat RTop v 2 l).and (Know.all l fun x => Know.flat RI x.2 1 x.1.parts)
def allN (n : Nat) (p : Nat → Bool) : Bool := (List.range n).all p
def upI (l : List Int) (k : Nat) : Bool := k == 0 || decide (l.getD (k - 1) 0 < l.getD k 0)
def upS (l : List Bs) (k : Nat) : Bool := k == 0 || Op.bytesLess (l.getD (k - 1) []) (l.getD k [])
def riseS (l : List Bs) : Bool := allN l.length (upS l)
def pRise (l : List Int) : Bool := !l.isEmpty && allN l.length (fun k => decide (0 ≤ l.getD k 0 ∧ l.getD k 0 ≤ 2147483647) && upI l k)
def tOk (t : TopS) : Bool := !t.name.isEmpty && decide (t.name.length ≤ 32767) && pRise t.parts
def tRise (l : List TopS) : Bool := l.all tOk && riseS (l.map (·.name))
structure ValS where
  prod : Int
  epoch : Int
  timeout : Int
  state : Int
  tops : List TopS
  upd : Int
  started : Int
deriving DecidableEq
def ValS.ranged (v : ValS) : Bool := decide (0 ≤ v.prod) && (decide (0 ≤ v.epoch) && (decide (v.epoch ≤ 32767) && (decide (0 ≤ v.timeout) && (decide (v.timeout ≤ 2147483647) && (decide (0 ≤ v.upd) && decide (-1 ≤ v.started))))))
def idle (s : Int) : Bool := !(s == 1) && (!(s == 2) && !(s == 3))
def ValS.err (v : ValS) : Int :=
  if v.ranged = false then 11
  else if v.state < 0 ∨ 7 ≤ v.state then 12
  else if (idle v.state != v.tops.isEmpty) = true ∨ ((v.state == 0) != (v.started == -1)) = true then 10
  else if tRise v.tops = false then 13 else 0
def pk (l : List Int) (k : Nat) : Bool := decide (0 ≤ l.getD k 0 ∧ l.getD k 0 ≤ 2147483647) && upI l k
def be4s (l : List Int) : Bs := l.flatMap fun n => beBytes n 4
def encT (t : TopS) : Bs := encF 2 ⟨false, t.name⟩ ++ (beBytes t.parts.length 4 ++ be4s t.parts)
def encTs (l : List TopS) : Bs := beBytes l.length 4 ++ l.flatMap encT
def ValS.enc (v : ValS) : Bs := beBytes 0 2 ++ beBytes v.prod 8 ++ beBytes v.epoch 2 ++ beBytes v.timeout 4 ++ beBytes v.state 1 ++ encTs v.tops ++ beBytes v.upd 8 ++ beBytes v.started 8
def TopS.Fit (t : TopS) : Prop := t.name.length ≤ 32767 ∧ t.parts.length ≤ 1000000 ∧ ∀ n ∈ t.parts, -2147483648 ≤ n ∧ n < 2147483648
def InS.cnt (i : InS) (each : Nat) : Nat × InS := ((i.count 4 each).1.toNat, (i.count 4 each).2)
def InS.partsN : Nat → List Int → InS → List Int × InS
  | 0, acc, i => (acc, i)
  | n + 1, acc, i => InS.partsN n (acc ++ [(i.int 4).1]) (i.int 4).2
def InS.parts (i : InS) : List Int × InS := InS.partsN (i.cnt 4).1 [] (i.cnt 4).2
def InS.topsN : Nat → List TopS → InS → List TopS × InS
  | 0, acc, i => (acc, i)
  | n + 1, acc, i => if i.text.2.parts.2.err = 0 then InS.topsN n (acc ++ [⟨i.text.1, i.text.2.parts.1⟩]) i.text.2.parts.2 else ([], i.text.2.parts.2)
def InS.tops (i : InS) : List TopS × InS := InS.topsN (i.cnt 6).1 [] (i.cnt 6).2
def PartR.pb (x : PartR) : Int × List BatS := (x.idx, x.l.map BatR.b)
theorem St.freezeParts {W0 w : World} {K : Know} {L : List Res} {v : Value} {T : TypeId} {l : List PartR} (h : St W0 w K (.row v T 2 l.length (l.flatMap pcells) :: L)) (ht : ∀ x ∈ l, K.has (Know.bats (.slice x.q x.l.length x.cap) x.l)) : St W0 w (K.and (Know.pparts v l)) L := by
 have hf := h.freezeRow (R := RPart) (fun x _ => ⟨rfl, rfl⟩)
 exact hf.know (K' := K.and (Know.pparts v l)) (fun w F hh => ⟨hh.1, hh.2, fun x hx => ht x hx _ _ hh.1⟩)
def PTop.pt (x : PTop) : Bs × List (Int × List BatS) := (x.name, x.l.map PartR.pb)
theorem St.freezeTopsP {W0 w : World} {K : Know} {L : List Res} {v : Value} {T : TypeId} {l : List PTop} (h : St W0 w K (.row v T 2 l.length (l.flatMap ptcells) :: L)) (ht : ∀ x ∈ l, K.has (Know.pparts (.slice x.q x.l.length x.cap) x.l)) : St W0 w (K.and (Know.ptops v l)) L := by
 have hf := h.freezeRow (R := RPTop) (fun x _ => ⟨rfl, rfl⟩)
 exact hf.know (K' := K.and (Know.ptops v l)) (fun w F hh => ⟨hh.1, hh.2, fun x hx => ht x hx _ _ hh.1⟩)
theorem gmap_take_succ {α β : Type} (f : α → β) (l : List α) (k : Nat) (h : k < l.length) (x : β) (hx : f l[k] = x) : (l.map f).take (k + 1) = (l.map f).take k ++ [x] := by
 have h2 : k < (l.map f).length := by simpa using h
 rw [List.take_succ_eq_append_getElem h2, List.getElem_map, hx]
theorem gmap_ne_of_get {α β : Type} (f : α → β) (l m : List α) (k : Nat) (h1 : k < l.length) (h2 : k < m.length) (x y : β) (hx : f l[k] = x) (hy : f m[k] = y) (h : x ≠ y) : l.map f ≠ m.map f := by
 intro he
 apply h
 have e1 : (l.map f)[k]? = some x := by rw [List.getElem?_map, List.getElem?_eq_getElem h1]; simp [hx]
 have e2 : (m.map f)[k]? = some y := by rw [List.getElem?_map, List.getElem?_eq_getElem h2]; simp [hy]
 rw [he, e2] at e1
 simpa using e1.symm
theorem gmap_len_ne {α β : Type} (f : α → β) (l m : List α) (h : l.length ≠ m.length) : l.map f ≠ m.map f := fun hh => h (by have := congrArg List.length hh; simpa using this)
structure EqR (x : BatR) : Prop where
  len : x.l.length ≤ 1000000
  recs : x.l.map (·.1) = x.b.recs
  hdrs : ∀ y ∈ x.l, y.1.hdrs.length ≤ 9223372036854775807
theorem batS_ne {a b : BatS} (h : ¬ a = b) {r : Bool} (hr : decide (a = b) = r) : r = false := by rw [← hr]; exact decide_eq_false h
theorem batS_recs (base1 : Int) (leader1 : Int) (app1 : Bool) (txn1 : Bool) (ctl1 : Bool) (last1 : Int) (first1 : Int) (maxt1 : Int) (prod1 : Int) (epoch1 : Int) (seq1 : Int) (base2 : Int) (leader2 : Int) (app2 : Bool) (txn2 : Bool) (ctl2 : Bool) (last2 : Int) (first2 : Int) (maxt2 : Int) (prod2 : Int) (epoch2 : Int) (seq2 : Int) (l1 l2 : List RecS) (h : l1 ≠ l2) : ((⟨base1, leader1, app1, txn1, ctl1, last1, first1, maxt1, prod1, epoch1, seq1, l1⟩ : BatS)) ≠ (⟨base2, leader2, app2, txn2, ctl2, last2, first2, maxt2, prod2, epoch2, seq2, l2⟩ : BatS) := by intro hh; injection hh; contradiction
theorem map_take_succ (l : List (RecS × Value)) (k : Nat) (h : k < l.length) (x : RecS) (hx : l[k].1 = x) : (l.map (·.1)).take (k + 1) = (l.map (·.1)).take k ++ [x] := by
 subst hx
 rw [List.take_succ_eq_append_getElem (by simpa using h)]
 simp
theorem map_ne_of_get (l m : List (RecS × Value)) (k : Nat) (h1 : k < l.length) (h2 : k < m.length) (x y : RecS) (hx : l[k].1 = x) (hy : m[k].1 = y) (h : x ≠ y) : l.map (·.1) ≠ m.map (·.1) := by
 intro hh
 have e1 : (l.map (·.1))[k]? = (m.map (·.1))[k]? := by rw [hh]
 rw [List.getElem?_map, List.getElem?_map, List.getElem?_eq_getElem h1, List.getElem?_eq_getElem h2] at e1
 simp at e1
 exact h (hx ▸ hy ▸ e1)
theorem map_len_ne (l m : List (RecS × Value)) (h : l.length ≠ m.length) : l.map (·.1) ≠ m.map (·.1) := fun hh => h (by have := congrArg List.length hh; simpa using this)
theorem wpl_take {P : Program} {ops : Array Oper} {Q : Exit → Act → World → Prop} {a : Act} {w : World} {rest : List Oper} {o : Oper} (v : Value) (hw : Region.wanted o (yielded ops a.tmps) = true) (hr : (execOp a.eval o).run P w = .ok (.value v) w) (h : wpList P ops Q rest (a.put o.dst v) w) : wpList P ops Q (o :: rest) a w := by
 unfold wpList
 rw [if_pos hw]
 refine .inl ?_
 unfold Oper.wp
 rw [hr]
 exact h
theorem bat_head0 (base leader : Int) (app txn ctl : Bool) (last first maxt prod epoch sq : Int)  {W0 w : World} {K : Know} {L : List Res} (h : St W0 w K L) :
  Calls Try.prog 27 #[.agg #[.int .i64 base, .int .i64 leader, .bool app, .bool txn, .bool ctl, .int .i64 last, .int .i64 first, .int .i64 maxt, .int .i64 prod, .int .i64 epoch, .int .i64 sq, .slice none 0 0], .int .i64 0] w fun en w' => en = .returned (.agg #[.int .i64 base, .int .i64 49, .int .i64 leader, .int .i64 0, .int .i64 (attrN app txn ctl 3), .int .i64 last, .int .i64 first, .int .i64 maxt, .int .i64 prod, .int .i64 epoch, .int .i64 sq, .int .i64 0]) ∧ St W0 w' K L :=
 bat_head base leader app txn ctl last first maxt prod epoch sq [] none 0 0 (by decide) h
set_option maxHeartbeats 2000000 in
set_option maxRecDepth 100000 in
theorem bat_bare (base leader : Int) (app txn ctl : Bool) (last first maxt prod epoch sq : Int)  (rv : Value) {W0 w : World} {K : Know} {L : List Res} (h : St W0 w K L) :
  Calls Try.prog 101 #[.agg #[.int .i64 base, .int .i64 leader, .bool app, .bool txn, .bool ctl, .int .i64 last, .int .i64 first, .int .i64 maxt, .int .i64 prod, .int .i64 epoch, .int .i64 sq, rv]] w fun en w' => en = .returned (.agg #[.int .i64 base, .int .i64 49, .int .i64 leader, .int .i64 0, .int .i64 (attrN app txn ctl 3), .int .i64 last, .int .i64 first, .int .i64 maxt, .int .i64 prod, .int .i64 epoch, .int .i64 sq, .int .i64 0]) ∧ St W0 w' K L := by
 have g1 := h.allocRaw #[.int .i64 base, .int .i64 leader, .bool app, .bool txn, .bool ctl, .int .i64 last, .int .i64 first, .int .i64 maxt, .int .i64 prod, .int .i64 epoch, .int .i64 sq, rv] 39
 have g2 := g1.allocRaw #[.int .i64 0, .int .i64 0, .int .i64 0, .int .i64 0, .int .i64 0, .int .i64 0, .int .i64 0, .int .i64 0, .int .i64 0, .int .i64 0, .int .i64 0, .int .i64 0] 73
 obtain ⟨hb, hhb⟩ : ∃ b, w.heap.size = b := ⟨_, rfl⟩
 obtain ⟨rb, hrb⟩ : ∃ b, hb + 1 = b := ⟨_, rfl⟩
 simp only [World.size_alloc, hhb, hrb] at g2
 have g3 := (g2.p1.rawSet 11 (.slice none 0 0)).p1
 have f1 := g2.p1.rawFree 11
 have c1 := (g2.p1.rawCell 11).trans (show _ = some rv from rfl)
 have H := Lib.hid g3
 clear g1 g2 g3 h
 go_enter Try.func101, Try.ntmps101
 go_upto_region 2 with (fail)
 have h3 : St W0 _ K (.raw hb #[.int .i64 base, .int .i64 leader, .bool app, .bool txn, .bool ctl, .int .i64 last, .int .i64 first, .int .i64 maxt, .int .i64 prod, .int .i64 epoch, .int .i64 sq, .slice none 0 0] 39 :: .raw rb #[.int .i64 0, .int .i64 0, .int .i64 0, .int .i64 0, .int .i64 0, .int .i64 0, .int .i64 0, .int .i64 0, .int .i64 0, .int .i64 0, .int .i64 0, .int .i64 0] 73 :: L) := H.out.p1
 clear H f1 c1
 generalize World.setCell _ _ _ = wx at h3 ⊢
 obtain ⟨x0, x1, x2, x3, x4, x5, x6, x7, x8, x9, x10, x11, y0, y1, y2, y3, y4, y5, y6, y7, y8, y9, y10, y11⟩ := raw12 (b := hb) (h3)
 refine wp_region_list ?_
 refine wpl_take (.agg #[.int .i64 base, .int .i64 leader, .bool app, .bool txn, .bool ctl, .int .i64 last, .int .i64 first, .int .i64 maxt, .int .i64 prod, .int .i64 epoch, .int .i64 sq, .slice none 0 0]) (by kernel_rfl) (by go_simp) ?_
 simp only [Act.put, sA, sB, sC]
 refine wpList_plain rfl (fun KK hK => ?_)
 go_simp
 go_at_call 27
 clear x0 y0 x1 y1 x2 y2 x3 y3 x4 y4 x5 y5 x6 y6 x7 y7 x8 y8 x9 y9 x10 y10 x11 y11
 with_reducible refine (bat_head0 _ _ _ _ _ _ _ _ _ _ _ h3).mono ?_
 rintro e wq ⟨rfl, hs⟩
 refine hK _ _ ?_
 clear hK KK
 try simp only [Act.put, sA, sB, sC]
 have hs := hs.p1
 refine wpList_plain rfl (fun KK hK => ?_)
 refine wp_store_mid 73 (.tmp 2) (.tmp 5) rfl rb 0 #[.int .i64 base, .int .i64 49, .int .i64 leader, .int .i64 0, .int .i64 (attrN app txn ctl 3), .int .i64 last, .int .i64 first, .int .i64 maxt, .int .i64 prod, .int .i64 epoch, .int .i64 sq, .int .i64 0] (by rfl) (by rfl) hs.there (by kernel_rfl) (by simp [Value.oneCell']) ?_
 obtain ⟨wz, ez, hs⟩ := hs.storeEx #[.int .i64 base, .int .i64 49, .int .i64 leader, .int .i64 0, .int .i64 (attrN app txn ctl 3), .int .i64 last, .int .i64 first, .int .i64 maxt, .int .i64 prod, .int .i64 epoch, .int .i64 sq, .int .i64 0]
 rw [ez]
 clear ez
 refine hK _ _ ?_
 clear hK KK
 rw [setAll_all] at hs
 rotate_left
 · rfl
 refine wpList_nil ?_
 have hz : St W0 _ K (.raw rb #[.int .i64 base, .int .i64 49, .int .i64 leader, .int .i64 0, .int .i64 (attrN app txn ctl 3), .int .i64 last, .int .i64 first, .int .i64 maxt, .int .i64 prod, .int .i64 epoch, .int .i64 sq, .int .i64 0] 73 :: _) := hs
 go_wp2_with fail
 refine bodyPost_ret (rc_cell_only rfl _ _ rb [.int .i64 base, .int .i64 49, .int .i64 leader, .int .i64 0, .int .i64 (attrN app txn ctl 3), .int .i64 last, .int .i64 first, .int .i64 maxt, .int .i64 prod, .int .i64 epoch, .int .i64 sq, .int .i64 0] _ rfl (rc_range hz) Try.underlying73 rfl (by kernel_rfl)) rfl ?_
 exact ⟨rfl, hz.drop.drop⟩
set_option maxHeartbeats 2000000 in
set_option maxRecDepth 100000 in
theorem sl_eqf (l1 l2 : List (RecS × Value)) (q1 q2 : Option Addr) (cap1 cap2 : Nat) (hn : l1.length ≤ 1000000) (r : Bool) (hr : decide (l1.map (·.1) = l2.map (·.1)) = r) (hf1 : ∀ x ∈ l1, x.1.hdrs.length ≤ 9223372036854775807) (hf2 : ∀ x ∈ l2, x.1.hdrs.length ≤ 9223372036854775807) {W0 w : World} {K : Know} {L : List Res} (hk1 : K.has (Know.recs (.slice q1 l1.length cap1) l1)) (hk2 : K.has (Know.recs (.slice q2 l2.length cap2) l2)) (h : St W0 w K L) :
   Calls Try.prog 102 #[.slice q1 l1.length cap1, .slice q2 l2.length cap2, .func (.func 103) #[] #[]] w fun en w' => en = .returned (.bool r) ∧ St W0 w' K L := by
 have H := Lib.hid h
 have HK1 := Lib.hid hk1
 have HK2 := Lib.hid hk2
 have hni : (l1.length : Int) ≤ 1000000 := by omega
 have HF1 := Lib.hid hf1
 have HF2 := Lib.hid hf2
 clear h hk1 hk2 hf1 hf2
 by_cases hlen : l1.length = l2.length
 rotate_left
 · as_aux_lemma =>
   have hr2 : r = false := by rw [← hr]; exact decide_eq_false (map_len_ne _ _ hlen)
   have g1 : ((l1.length : Int) == (l2.length : Int)) = false := by rw [beq_eq_false_iff_ne]; omega
   have g2 : ((l1.length : Int) != (l2.length : Int)) = true := by simp [bne, g1]
   have g3 : ¬ ((l1.length : Int) = (l2.length : Int)) := by omega
   subst hr2
   clear hlen hr
   go_enter Try.func102, Try.ntmps102
   go_wp2
   go_ret
   exact ⟨rfl, H.out⟩
 have HLEN := Lib.hid hlen
 have HR := Lib.hid hr
 have g1 : ((l1.length : Int) == (l2.length : Int)) = true := by rw [hlen]; exact beq_self_eq_true _
 have g2 : ((l1.length : Int) != (l2.length : Int)) = false := by simp [bne, g1]
 have g3 : (l2.length : Int) = (l1.length : Int) := by omega
 clear hr hlen
 go_enter Try.func102, Try.ntmps102
 go_wp2
 clear g1 g2 g3
 go_loopw [7, 8, 9, 17] (fun _ _ _ iv wr => ∃ k : Nat, k ≤ l1.length ∧ iv = .int .i64 k ∧ Hid ((l1.map (·.1)).take k = (l2.map (·.1)).take k) ∧ St W0 wr K L) (fun _ _ _ iv _ => l1.length - (intOf iv).toNat)
 case atStart => exact ⟨0, Nat.zero_le _, rfl, Lib.hid (by simp), H.out⟩
 case round =>
   obtain ⟨k, hkl, rfl, heq, hst⟩ := hrel
   clear H
   have H := Lib.hid hst
   clear hst
   by_cases hlt : k < l1.length
   · have hlt2 : k < l2.length := by have := HLEN.out; omega
     obtain ⟨b1', off1, hqq1⟩ := recs_at HK1.out H.out (by omega)
     subst hqq1
     obtain ⟨⟨x1, v1⟩, hx1⟩ : ∃ x, l1[k] = x := ⟨_, rfl⟩
     have cc1 := recs_cell HK1.out H.out k (by omega) (x1, v1) hx1
     have hmem1 : (x1, v1) ∈ l1 := hx1 ▸ List.getElem_mem _
     have XF1 := Lib.hid (show x1.hdrs.length ≤ 9223372036854775807 from HF1.out (x1, v1) hmem1)
     have XK1 := Lib.hid (show K.has (Know.flat RHdr v1 3 x1.hdrs) from recs_hdrs HK1.out hmem1)
     simp only at cc1
     obtain ⟨c10, c11, c12, c13, c14, c15, c16⟩ := cc1
     rw [← Nat.add_assoc] at c11 c12 c13 c14 c15 c16
     have HX1 := Lib.hid (show l1[k].1 = x1 by rw [hx1])
     have HXX1 := Lib.hid hx1
     clear hmem1 hx1
     obtain ⟨qx1, capx1, hv1⟩ := flat_form XK1.out H.out
     subst hv1
     obtain ⟨b2', off2, hqq2⟩ := recs_at HK2.out H.out (by omega)
     subst hqq2
     obtain ⟨⟨x2, v2⟩, hx2⟩ : ∃ x, l2[k] = x := ⟨_, rfl⟩
     have cc2 := recs_cell HK2.out (H.out.allocRaw #[.int .i64 x1.time, .int .i64 x1.off, .bool x1.key.null, .string (bb x1.key.data), .bool x1.val.null, .string (bb x1.val.data), .slice qx1 x1.hdrs.length capx1] 81) k (by omega) (x2, v2) hx2
     have hmem2 : (x2, v2) ∈ l2 := hx2 ▸ List.getElem_mem _
     have XF2 := Lib.hid (show x2.hdrs.length ≤ 9223372036854775807 from HF2.out (x2, v2) hmem2)
     have XK2 := Lib.hid (show K.has (Know.flat RHdr v2 3 x2.hdrs) from recs_hdrs HK2.out hmem2)
     simp only at cc2
     obtain ⟨c20, c21, c22, c23, c24, c25, c26⟩ := cc2
     rw [← Nat.add_assoc] at c21 c22 c23 c24 c25 c26
     have HX2 := Lib.hid (show l2[k].1 = x2 by rw [hx2])
     have HXX2 := Lib.hid hx2
     clear hmem2 hx2
     obtain ⟨qx2, capx2, hv2⟩ := flat_form XK2.out H.out
     subst hv2
     have hki : (k : Int) < (l1.length : Int) := by omega
     have hki2 : (k : Int) < (l2.length : Int) := by omega
     have NX := Lib.hid (show x1 ≠ x2 → l1.map (·.1) ≠ l2.map (·.1) from map_ne_of_get l1 l2 k hlt hlt2 x1 x2 HX1.out HX2.out)
     have NT := Lib.hid (show x1 = x2 → (l1.map (·.1)).take (k + 1) = (l2.map (·.1)).take (k + 1) from fun e => by rw [map_take_succ l1 k hlt x1 HX1.out, map_take_succ l2 k hlt2 x2 HX2.out, heq.out, e])
     obtain ⟨wE, hwE⟩ : ∃ b, wr.heap.size = b := ⟨_, rfl⟩
     obtain ⟨wG, hwG⟩ : ∃ b, wE + 1 = b := ⟨_, rfl⟩
     have h := (H.out.allocRaw #[.int .i64 x1.time, .int .i64 x1.off, .bool x1.key.null, .string (bb x1.key.data), .bool x1.val.null, .string (bb x1.val.data), .slice qx1 x1.hdrs.length capx1] 81).allocRaw #[.int .i64 x2.time, .int .i64 x2.off, .bool x2.key.null, .string (bb x2.key.data), .bool x2.val.null, .string (bb x2.val.data), .slice qx2 x2.hdrs.length capx2] 81
     rw [World.size_alloc, hwE, hwG] at h
     clear H
     have H := Lib.hid h
     clear h HX1 HX2 HXX1 HXX2
     clear hlt2
     obtain ⟨eb0, eb1, eb2, eb3, eb4, eb5, eb6, fb0, fb1, fb2, fb3, fb4, fb5, fb6⟩ := raw7 (b := wG) (H.out)
     obtain ⟨ea0, ea1, ea2, ea3, ea4, ea5, ea6, fa0, fa1, fa2, fa3, fa4, fa5, fa6⟩ := raw7 (b := wE) (H.out.p1)
     by_cases hxy : x1 = x2
     · have E1 := Lib.hid (decide_eq_true hxy)
       have NT2 := Lib.hid (NT.out hxy)
       clear hxy NX NT
       go_wp2_with (go_at_call 103; (with_reducible refine (rec_sameV x1 x2 (.slice qx1 x1.hdrs.length capx1) (.slice qx2 x2.hdrs.length capx2) true E1.out XF1.out XF2.out XK1.out XK2.out H.out).mono ?_); rintro e_ wn ⟨rfl, h⟩; replace H := Lib.hid h; clear h)
       go_roundw
       case rel => exact ⟨k + 1, hlt, by go_num, NT2, H.out.drop.drop⟩
       case measure => first | (simp [intOf]; done) | (simp [intOf]; omega)
     · have E1 := Lib.hid (decide_eq_false hxy)
       have HRF := Lib.hid (show r = false by rw [← HR.out]; exact decide_eq_false (NX.out hxy))
       clear hxy NX NT
       go_wp2_with (go_at_call 103; (with_reducible refine (rec_sameV x1 x2 (.slice qx1 x1.hdrs.length capx1) (.slice qx2 x2.hdrs.length capx2) false E1.out XF1.out XF2.out XK1.out XK2.out H.out).mono ?_); rintro e_ wn ⟨rfl, h⟩; replace H := Lib.hid h; clear h)
       go_ret
       exact ⟨ret_bool HRF.out.symm, H.out.drop.drop⟩
   · obtain rfl : k = l1.length := by omega
     have hall : l1.map (·.1) = l2.map (·.1) := by
       have h := heq.out
       rwa [List.take_of_length_le (by simp), List.take_of_length_le (by have := HLEN.out; simp; omega)] at h
     have HRT := Lib.hid (show r = true by rw [← HR.out, hall]; exact decide_eq_true rfl)
     clear hall
     go_wp2
     go_ret
     exact ⟨ret_bool HRT.out.symm, H.out⟩

end Go.Proofs.Ytnnnglklgofabaa
