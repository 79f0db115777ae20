/- A text. -/
import Derived.Test.YtnnnglklgofabaaGreatGWholeWrites4
import Derived.Test.YtnnnglklgofabaaGreatGWholeWrites6
import Derived.RegionTactic
import Derived.Deep.RegionHeld3
import Derived.Deep.DeepCutAuto
import Derived.WalkMore
import Derived.Test.YtnnnglklgofabaaGreatGrow
import Derived.Test.YtnnnglklgofabaaGreatGWholeWrites2
import Derived.Test.YtnnnglklgofabaaGreatGWholeWrites3
import Derived.Test.YtnnnglklgofabaaGreatGWholeWrites1
import Derived.Test.YtnnnglklgofabaaGreatBlob2
import Derived.Test.YtnnnglklgofabaaGreatS1
import Derived.Test.YtnnnglklgofabaaGreatGWholeWrites5
/- A text. -/
namespace Go.Proofs.YtnnnglklgofabaaGreat
open Go.RowKit

set_option maxHeartbeats 2000000 in
set_option maxRecDepth 100000 in
theorem rqc_r0 (nl : Bool) (dd : Bs) (ac tm v : Int) (l : List PTop) (q : Option Addr) (cap : Nat) (hdd : dd.length ≤ 140737488355328) (hf : ∀ x ∈ l, CkT x) (hll : l.length ≤ 4398046511104) (hr : (⟨nl, dd⟩ : BlobS).right = false) {W0 w : World} {K : Know} {L : List Res} (hk : K.has (Know.ptops (.slice q l.length cap) l)) (h : St W0 w K L) :
  Calls Tryz.prog 12 #[.agg #[.bool nl, .string (bb dd), .int .i64 ac, .int .i64 tm, .slice q l.length cap], .int .i64 v] w fun en w' => en = .returned (.int .i64 4) ∧ St W0 w' K L := by
 obtain ⟨rb, hrb⟩ : ∃ b, w.heap.size = b := ⟨_, rfl⟩; have g1 := h.allocRaw #[.bool nl, .string (bb dd), .int .i64 ac, .int .i64 tm, .slice q l.length cap] 26; rw [hrb] at g1; have z0 := g1.rawCell 0; have z1 := g1.rawCell 1; have z2 := g1.rawCell 2; have z3 := g1.rawCell 3; have z4 := g1.rawCell 4; simp at z0 z1 z2 z3 z4; have H := Lib.hid g1; have HK := Lib.hid hk; have HF := Lib.hid hf; have HTF := Lib.hid (ckT_few hf); have HLL := Lib.hid hll; have HDL := Lib.hid hdd; have HBR := Lib.hid hr; clear h g1 hk hf hll hdd hr; go_enter Tryz.func12, Tryz.ntmps12
 go_wp2_with (first
  | (go_at_call 37; clear z0 z1 z2 z3 z4; (with_reducible refine (pblob_rightQ nl dd false HBR.out H.out).mono ?_); rintro e_ wn ⟨rfl, h⟩; have z0 := h.rawCell 0; have z1 := h.rawCell 1; have z2 := h.rawCell 2; have z3 := h.rawCell 3; have z4 := h.rawCell 4; simp at z0 z1 z2 z3 z4; replace H := Lib.hid h; clear h))
 go_ret; exact ⟨rfl, H.out.drop⟩

set_option maxHeartbeats 2000000 in
set_option maxRecDepth 100000 in
theorem rqc_k0 (dd : Bs) (ac tm v : Int) (l : List PTop) (q : Option Addr) (cap : Nat) (hdd : dd.length ≤ 140737488355328) (hf : ∀ x ∈ l, CkT x) (hll : l.length ≤ 4398046511104) (hr : (⟨false, dd⟩ : BlobS).right = true) (hkr : keyRight dd = false) {W0 w : World} {K : Know} {L : List Res} (hk : K.has (Know.ptops (.slice q l.length cap) l)) (h : St W0 w K L) :
  Calls Tryz.prog 12 #[.agg #[.bool false, .string (bb dd), .int .i64 ac, .int .i64 tm, .slice q l.length cap], .int .i64 v] w fun en w' => en = .returned (.int .i64 4) ∧ St W0 w' K L := by
 obtain ⟨rb, hrb⟩ : ∃ b, w.heap.size = b := ⟨_, rfl⟩; have g1 := h.allocRaw #[.bool false, .string (bb dd), .int .i64 ac, .int .i64 tm, .slice q l.length cap] 26; rw [hrb] at g1; have z0 := g1.rawCell 0; have z1 := g1.rawCell 1; have z2 := g1.rawCell 2; have z3 := g1.rawCell 3; have z4 := g1.rawCell 4; simp at z0 z1 z2 z3 z4; have H := Lib.hid g1; have HK := Lib.hid hk; have HF := Lib.hid hf; have HTF := Lib.hid (ckT_few hf); have HLL := Lib.hid hll; have HDL := Lib.hid hdd; have HBR := Lib.hid hr; have HKR := Lib.hid hkr; clear h g1 hk hf hll hdd hr hkr; go_enter Tryz.func12, Tryz.ntmps12
 go_wp2_with (first
  | (go_at_call 37; clear z0 z1 z2 z3 z4; (with_reducible refine (pblob_rightQ false dd true HBR.out H.out).mono ?_); rintro e_ wn ⟨rfl, h⟩; have z0 := h.rawCell 0; have z1 := h.rawCell 1; have z2 := h.rawCell 2; have z3 := h.rawCell 3; have z4 := h.rawCell 4; simp at z0 z1 z2 z3 z4; replace H := Lib.hid h; clear h)
  | (go_at_call 38; clear z0 z1 z2 z3 z4; (with_reducible refine (key_rightQ dd false HKR.out HDL.out H.out).mono ?_); rintro e_ wn ⟨rfl, h⟩; have z0 := h.rawCell 0; have z1 := h.rawCell 1; have z2 := h.rawCell 2; have z3 := h.rawCell 3; have z4 := h.rawCell 4; simp at z0 z1 z2 z3 z4; replace H := Lib.hid h; clear h))
 go_ret; exact ⟨rfl, H.out.drop⟩

set_option maxHeartbeats 2000000 in
set_option maxRecDepth 100000 in
theorem rqc_a1_true (dd : Bs) (ac tm v : Int) (l : List PTop) (q : Option Addr) (cap : Nat) (hdd : dd.length ≤ 140737488355328) (hf : ∀ x ∈ l, CkT x) (hll : l.length ≤ 4398046511104) (hr : (⟨true, dd⟩ : BlobS).right = true) (n1 : ac < -1) {W0 w : World} {K : Know} {L : List Res} (hk : K.has (Know.ptops (.slice q l.length cap) l)) (h : St W0 w K L) :
  Calls Tryz.prog 12 #[.agg #[.bool true, .string (bb dd), .int .i64 ac, .int .i64 tm, .slice q l.length cap], .int .i64 v] w fun en w' => en = .returned (.int .i64 11) ∧ St W0 w' K L := by
 obtain ⟨rb, hrb⟩ : ∃ b, w.heap.size = b := ⟨_, rfl⟩; have g1 := h.allocRaw #[.bool true, .string (bb dd), .int .i64 ac, .int .i64 tm, .slice q l.length cap] 26; rw [hrb] at g1; have z0 := g1.rawCell 0; have z1 := g1.rawCell 1; have z2 := g1.rawCell 2; have z3 := g1.rawCell 3; have z4 := g1.rawCell 4; simp at z0 z1 z2 z3 z4; have H := Lib.hid g1; have HK := Lib.hid hk; have HF := Lib.hid hf; have HTF := Lib.hid (ckT_few hf); have HLL := Lib.hid hll; have HDL := Lib.hid hdd; have HBR := Lib.hid hr; have d1 : decide (ac < -1) = true := decide_eq_true n1; clear h g1 hk hf hll hdd hr n1; go_enter Tryz.func12, Tryz.ntmps12
 go_wp2_with (first
  | (go_at_call 37; clear z0 z1 z2 z3 z4; (with_reducible refine (pblob_rightQ true dd true HBR.out H.out).mono ?_); rintro e_ wn ⟨rfl, h⟩; have z0 := h.rawCell 0; have z1 := h.rawCell 1; have z2 := h.rawCell 2; have z3 := h.rawCell 3; have z4 := h.rawCell 4; simp at z0 z1 z2 z3 z4; replace H := Lib.hid h; clear h))
 go_ret; exact ⟨rfl, H.out.drop⟩

set_option maxHeartbeats 2000000 in
set_option maxRecDepth 100000 in
theorem rqc_a2_true (dd : Bs) (ac tm v : Int) (l : List PTop) (q : Option Addr) (cap : Nat) (hdd : dd.length ≤ 140737488355328) (hf : ∀ x ∈ l, CkT x) (hll : l.length ≤ 4398046511104) (hr : (⟨true, dd⟩ : BlobS).right = true) (n1 : ¬ ac < -1) (n2 : 1 < ac) {W0 w : World} {K : Know} {L : List Res} (hk : K.has (Know.ptops (.slice q l.length cap) l)) (h : St W0 w K L) :
  Calls Tryz.prog 12 #[.agg #[.bool true, .string (bb dd), .int .i64 ac, .int .i64 tm, .slice q l.length cap], .int .i64 v] w fun en w' => en = .returned (.int .i64 11) ∧ St W0 w' K L := by
 obtain ⟨rb, hrb⟩ : ∃ b, w.heap.size = b := ⟨_, rfl⟩; have g1 := h.allocRaw #[.bool true, .string (bb dd), .int .i64 ac, .int .i64 tm, .slice q l.length cap] 26; rw [hrb] at g1; have z0 := g1.rawCell 0; have z1 := g1.rawCell 1; have z2 := g1.rawCell 2; have z3 := g1.rawCell 3; have z4 := g1.rawCell 4; simp at z0 z1 z2 z3 z4; have H := Lib.hid g1; have HK := Lib.hid hk; have HF := Lib.hid hf; have HTF := Lib.hid (ckT_few hf); have HLL := Lib.hid hll; have HDL := Lib.hid hdd; have HBR := Lib.hid hr; have d1 : decide (ac < -1) = false := decide_eq_false n1; have d2 : decide (1 < ac) = true := decide_eq_true n2; clear h g1 hk hf hll hdd hr n1 n2; go_enter Tryz.func12, Tryz.ntmps12
 go_wp2_with (first
  | (go_at_call 37; clear z0 z1 z2 z3 z4; (with_reducible refine (pblob_rightQ true dd true HBR.out H.out).mono ?_); rintro e_ wn ⟨rfl, h⟩; have z0 := h.rawCell 0; have z1 := h.rawCell 1; have z2 := h.rawCell 2; have z3 := h.rawCell 3; have z4 := h.rawCell 4; simp at z0 z1 z2 z3 z4; replace H := Lib.hid h; clear h))
 go_ret; exact ⟨rfl, H.out.drop⟩

set_option maxHeartbeats 2000000 in
set_option maxRecDepth 100000 in
theorem rqc_a3_true (dd : Bs) (ac tm v : Int) (l : List PTop) (q : Option Addr) (cap : Nat) (hdd : dd.length ≤ 140737488355328) (hf : ∀ x ∈ l, CkT x) (hll : l.length ≤ 4398046511104) (hr : (⟨true, dd⟩ : BlobS).right = true) (n1 : ¬ ac < -1) (n2 : ¬ 1 < ac) (n3 : tm < 0) {W0 w : World} {K : Know} {L : List Res} (hk : K.has (Know.ptops (.slice q l.length cap) l)) (h : St W0 w K L) :
  Calls Tryz.prog 12 #[.agg #[.bool true, .string (bb dd), .int .i64 ac, .int .i64 tm, .slice q l.length cap], .int .i64 v] w fun en w' => en = .returned (.int .i64 11) ∧ St W0 w' K L := by
 obtain ⟨rb, hrb⟩ : ∃ b, w.heap.size = b := ⟨_, rfl⟩; have g1 := h.allocRaw #[.bool true, .string (bb dd), .int .i64 ac, .int .i64 tm, .slice q l.length cap] 26; rw [hrb] at g1; have z0 := g1.rawCell 0; have z1 := g1.rawCell 1; have z2 := g1.rawCell 2; have z3 := g1.rawCell 3; have z4 := g1.rawCell 4; simp at z0 z1 z2 z3 z4; have H := Lib.hid g1; have HK := Lib.hid hk; have HF := Lib.hid hf; have HTF := Lib.hid (ckT_few hf); have HLL := Lib.hid hll; have HDL := Lib.hid hdd; have HBR := Lib.hid hr; have d1 : decide (ac < -1) = false := decide_eq_false n1; have d2 : decide (1 < ac) = false := decide_eq_false n2; have d3 : decide (tm < 0) = true := decide_eq_true n3; clear h g1 hk hf hll hdd hr n1 n2 n3; go_enter Tryz.func12, Tryz.ntmps12
 go_wp2_with (first
  | (go_at_call 37; clear z0 z1 z2 z3 z4; (with_reducible refine (pblob_rightQ true dd true HBR.out H.out).mono ?_); rintro e_ wn ⟨rfl, h⟩; have z0 := h.rawCell 0; have z1 := h.rawCell 1; have z2 := h.rawCell 2; have z3 := h.rawCell 3; have z4 := h.rawCell 4; simp at z0 z1 z2 z3 z4; replace H := Lib.hid h; clear h))
 go_ret; exact ⟨rfl, H.out.drop⟩

set_option maxHeartbeats 2000000 in
set_option maxRecDepth 100000 in
theorem rqc_a4_true (dd : Bs) (ac tm v : Int) (l : List PTop) (q : Option Addr) (cap : Nat) (hdd : dd.length ≤ 140737488355328) (hf : ∀ x ∈ l, CkT x) (hll : l.length ≤ 4398046511104) (hr : (⟨true, dd⟩ : BlobS).right = true) (n1 : ¬ ac < -1) (n2 : ¬ 1 < ac) (n3 : ¬ tm < 0) (n4 : 2147483647 < tm) {W0 w : World} {K : Know} {L : List Res} (hk : K.has (Know.ptops (.slice q l.length cap) l)) (h : St W0 w K L) :
  Calls Tryz.prog 12 #[.agg #[.bool true, .string (bb dd), .int .i64 ac, .int .i64 tm, .slice q l.length cap], .int .i64 v] w fun en w' => en = .returned (.int .i64 11) ∧ St W0 w' K L := by
 obtain ⟨rb, hrb⟩ : ∃ b, w.heap.size = b := ⟨_, rfl⟩; have g1 := h.allocRaw #[.bool true, .string (bb dd), .int .i64 ac, .int .i64 tm, .slice q l.length cap] 26; rw [hrb] at g1; have z0 := g1.rawCell 0; have z1 := g1.rawCell 1; have z2 := g1.rawCell 2; have z3 := g1.rawCell 3; have z4 := g1.rawCell 4; simp at z0 z1 z2 z3 z4; have H := Lib.hid g1; have HK := Lib.hid hk; have HF := Lib.hid hf; have HTF := Lib.hid (ckT_few hf); have HLL := Lib.hid hll; have HDL := Lib.hid hdd; have HBR := Lib.hid hr; have d1 : decide (ac < -1) = false := decide_eq_false n1; have d2 : decide (1 < ac) = false := decide_eq_false n2; have d3 : decide (tm < 0) = false := decide_eq_false n3; have d4 : decide (2147483647 < tm) = true := decide_eq_true n4; clear h g1 hk hf hll hdd hr n1 n2 n3 n4; go_enter Tryz.func12, Tryz.ntmps12
 go_wp2_with (first
  | (go_at_call 37; clear z0 z1 z2 z3 z4; (with_reducible refine (pblob_rightQ true dd true HBR.out H.out).mono ?_); rintro e_ wn ⟨rfl, h⟩; have z0 := h.rawCell 0; have z1 := h.rawCell 1; have z2 := h.rawCell 2; have z3 := h.rawCell 3; have z4 := h.rawCell 4; simp at z0 z1 z2 z3 z4; replace H := Lib.hid h; clear h))
 go_ret; exact ⟨rfl, H.out.drop⟩

set_option maxHeartbeats 2000000 in
set_option maxRecDepth 100000 in
theorem rqc_t_true (dd : Bs) (ac tm v : Int) (l : List PTop) (q : Option Addr) (cap : Nat) (hdd : dd.length ≤ 140737488355328) (hf : ∀ x ∈ l, CkT x) (hll : l.length ≤ 4398046511104) (hr : (⟨true, dd⟩ : BlobS).right = true) (n1 : ¬ ac < -1) (n2 : ¬ 1 < ac) (n3 : ¬ tm < 0) (n4 : ¬ 2147483647 < tm) (e : Int) (het : errTops l = e) (h0 : e ≠ 0) {W0 w : World} {K : Know} {L : List Res} (hk : K.has (Know.ptops (.slice q l.length cap) l)) (h : St W0 w K L) :
  Calls Tryz.prog 12 #[.agg #[.bool true, .string (bb dd), .int .i64 ac, .int .i64 tm, .slice q l.length cap], .int .i64 v] w fun en w' => en = .returned (.int .i64 e) ∧ St W0 w' K L := by
 obtain ⟨rb, hrb⟩ : ∃ b, w.heap.size = b := ⟨_, rfl⟩; have g1 := h.allocRaw #[.bool true, .string (bb dd), .int .i64 ac, .int .i64 tm, .slice q l.length cap] 26; rw [hrb] at g1; have z0 := g1.rawCell 0; have z1 := g1.rawCell 1; have z2 := g1.rawCell 2; have z3 := g1.rawCell 3; have z4 := g1.rawCell 4; simp at z0 z1 z2 z3 z4; have H := Lib.hid g1; have HK := Lib.hid hk; have HF := Lib.hid hf; have HTF := Lib.hid (ckT_few hf); have HLL := Lib.hid hll; have HDL := Lib.hid hdd; have HBR := Lib.hid hr; have d1 : decide (ac < -1) = false := decide_eq_false n1; have d2 : decide (1 < ac) = false := decide_eq_false n2; have d3 : decide (tm < 0) = false := decide_eq_false n3; have d4 : decide (2147483647 < tm) = false := decide_eq_false n4; have HET := Lib.hid het; have e1 : (e == 0) = false := by rw [beq_eq_false_iff_ne]; exact h0
 have e3 : (e != 0) = true := by simp [bne, e1]
 clear h g1 hk hf hll hdd hr n1 n2 n3 n4 het h0; go_enter Tryz.func12, Tryz.ntmps12
 go_wp2_with (first
  | (go_at_call 37; clear z0 z1 z2 z3 z4; (with_reducible refine (pblob_rightQ true dd true HBR.out H.out).mono ?_); rintro e_ wn ⟨rfl, h⟩; have z0 := h.rawCell 0; have z1 := h.rawCell 1; have z2 := h.rawCell 2; have z3 := h.rawCell 3; have z4 := h.rawCell 4; simp at z0 z1 z2 z3 z4; replace H := Lib.hid h; clear h)
  | (go_at_call 39; clear z0 z1 z2 z3 z4; (with_reducible refine (check_topics l q cap e HET.out HTF.out HLL.out HK.out H.out).mono ?_); rintro e_ wn ⟨rfl, h⟩; have z0 := h.rawCell 0; have z1 := h.rawCell 1; have z2 := h.rawCell 2; have z3 := h.rawCell 3; have z4 := h.rawCell 4; simp at z0 z1 z2 z3 z4; replace H := Lib.hid h; clear h))
 go_ret; exact ⟨rfl, H.out.drop⟩

set_option maxHeartbeats 2000000 in
set_option maxRecDepth 100000 in
theorem rqc_p_true (dd : Bs) (ac tm v : Int) (l : List PTop) (q : Option Addr) (cap : Nat) (hdd : dd.length ≤ 140737488355328) (hf : ∀ x ∈ l, CkT x) (hll : l.length ≤ 4398046511104) (hr : (⟨true, dd⟩ : BlobS).right = true) (n1 : ¬ ac < -1) (n2 : ¬ 1 < ac) (n3 : ¬ tm < 0) (n4 : ¬ 2147483647 < tm) (het : errTops l = 0) (e : Int) (hep : errPT (!true) v l = e) {W0 w : World} {K : Know} {L : List Res} (hk : K.has (Know.ptops (.slice q l.length cap) l)) (h : St W0 w K L) :
  Calls Tryz.prog 12 #[.agg #[.bool true, .string (bb dd), .int .i64 ac, .int .i64 tm, .slice q l.length cap], .int .i64 v] w fun en w' => en = .returned (.int .i64 e) ∧ St W0 w' K L := by
 obtain ⟨rb, hrb⟩ : ∃ b, w.heap.size = b := ⟨_, rfl⟩; have g1 := h.allocRaw #[.bool true, .string (bb dd), .int .i64 ac, .int .i64 tm, .slice q l.length cap] 26; rw [hrb] at g1; have z0 := g1.rawCell 0; have z1 := g1.rawCell 1; have z2 := g1.rawCell 2; have z3 := g1.rawCell 3; have z4 := g1.rawCell 4; simp at z0 z1 z2 z3 z4; have H := Lib.hid g1; have HK := Lib.hid hk; have HF := Lib.hid hf; have HTF := Lib.hid (ckT_few hf); have HLL := Lib.hid hll; have HDL := Lib.hid hdd; have HBR := Lib.hid hr; have d1 : decide (ac < -1) = false := decide_eq_false n1; have d2 : decide (1 < ac) = false := decide_eq_false n2; have d3 : decide (tm < 0) = false := decide_eq_false n3; have d4 : decide (2147483647 < tm) = false := decide_eq_false n4; have HET := Lib.hid het; have HEP := Lib.hid hep; clear h g1 hk hf hll hdd hr n1 n2 n3 n4 het hep; go_enter Tryz.func12, Tryz.ntmps12
 go_wp2_with (first
  | (go_at_call 37; clear z0 z1 z2 z3 z4; (with_reducible refine (pblob_rightQ true dd true HBR.out H.out).mono ?_); rintro e_ wn ⟨rfl, h⟩; have z0 := h.rawCell 0; have z1 := h.rawCell 1; have z2 := h.rawCell 2; have z3 := h.rawCell 3; have z4 := h.rawCell 4; simp at z0 z1 z2 z3 z4; replace H := Lib.hid h; clear h)
  | (go_at_call 39; clear z0 z1 z2 z3 z4; (with_reducible refine (check_topics l q cap 0 HET.out HTF.out HLL.out HK.out H.out).mono ?_); rintro e_ wn ⟨rfl, h⟩; have z0 := h.rawCell 0; have z1 := h.rawCell 1; have z2 := h.rawCell 2; have z3 := h.rawCell 3; have z4 := h.rawCell 4; simp at z0 z1 z2 z3 z4; replace H := Lib.hid h; clear h)
  | (go_at_call 40; clear z0 z1 z2 z3 z4; (with_reducible refine (check_parts true dd ac tm v l q cap e HEP.out HF.out HLL.out HK.out H.out).mono ?_); rintro e_ wn ⟨rfl, h⟩; have z0 := h.rawCell 0; have z1 := h.rawCell 1; have z2 := h.rawCell 2; have z3 := h.rawCell 3; have z4 := h.rawCell 4; simp at z0 z1 z2 z3 z4; replace H := Lib.hid h; clear h))
 go_ret; exact ⟨rfl, H.out.drop⟩

set_option maxHeartbeats 2000000 in
set_option maxRecDepth 100000 in
theorem rqc_a1_false (dd : Bs) (ac tm v : Int) (l : List PTop) (q : Option Addr) (cap : Nat) (hdd : dd.length ≤ 140737488355328) (hf : ∀ x ∈ l, CkT x) (hll : l.length ≤ 4398046511104) (hr : (⟨false, dd⟩ : BlobS).right = true) (hkr : keyRight dd = true) (n1 : ac < -1) {W0 w : World} {K : Know} {L : List Res} (hk : K.has (Know.ptops (.slice q l.length cap) l)) (h : St W0 w K L) :
  Calls Tryz.prog 12 #[.agg #[.bool false, .string (bb dd), .int .i64 ac, .int .i64 tm, .slice q l.length cap], .int .i64 v] w fun en w' => en = .returned (.int .i64 11) ∧ St W0 w' K L := by
 obtain ⟨rb, hrb⟩ : ∃ b, w.heap.size = b := ⟨_, rfl⟩; have g1 := h.allocRaw #[.bool false, .string (bb dd), .int .i64 ac, .int .i64 tm, .slice q l.length cap] 26; rw [hrb] at g1; have z0 := g1.rawCell 0; have z1 := g1.rawCell 1; have z2 := g1.rawCell 2; have z3 := g1.rawCell 3; have z4 := g1.rawCell 4; simp at z0 z1 z2 z3 z4; have H := Lib.hid g1; have HK := Lib.hid hk; have HF := Lib.hid hf; have HTF := Lib.hid (ckT_few hf); have HLL := Lib.hid hll; have HDL := Lib.hid hdd; have HBR := Lib.hid hr; have HKR := Lib.hid hkr; have d1 : decide (ac < -1) = true := decide_eq_true n1; clear h g1 hk hf hll hdd hr hkr n1; go_enter Tryz.func12, Tryz.ntmps12
 go_wp2_with (first
  | (go_at_call 37; clear z0 z1 z2 z3 z4; (with_reducible refine (pblob_rightQ false dd true HBR.out H.out).mono ?_); rintro e_ wn ⟨rfl, h⟩; have z0 := h.rawCell 0; have z1 := h.rawCell 1; have z2 := h.rawCell 2; have z3 := h.rawCell 3; have z4 := h.rawCell 4; simp at z0 z1 z2 z3 z4; replace H := Lib.hid h; clear h)
  | (go_at_call 38; clear z0 z1 z2 z3 z4; (with_reducible refine (key_rightQ dd true HKR.out HDL.out H.out).mono ?_); rintro e_ wn ⟨rfl, h⟩; have z0 := h.rawCell 0; have z1 := h.rawCell 1; have z2 := h.rawCell 2; have z3 := h.rawCell 3; have z4 := h.rawCell 4; simp at z0 z1 z2 z3 z4; replace H := Lib.hid h; clear h))
 go_ret; exact ⟨rfl, H.out.drop⟩

set_option maxHeartbeats 2000000 in
set_option maxRecDepth 100000 in
theorem rqc_a2_false (dd : Bs) (ac tm v : Int) (l : List PTop) (q : Option Addr) (cap : Nat) (hdd : dd.length ≤ 140737488355328) (hf : ∀ x ∈ l, CkT x) (hll : l.length ≤ 4398046511104) (hr : (⟨false, dd⟩ : BlobS).right = true) (hkr : keyRight dd = true) (n1 : ¬ ac < -1) (n2 : 1 < ac) {W0 w : World} {K : Know} {L : List Res} (hk : K.has (Know.ptops (.slice q l.length cap) l)) (h : St W0 w K L) :
  Calls Tryz.prog 12 #[.agg #[.bool false, .string (bb dd), .int .i64 ac, .int .i64 tm, .slice q l.length cap], .int .i64 v] w fun en w' => en = .returned (.int .i64 11) ∧ St W0 w' K L := by
 obtain ⟨rb, hrb⟩ : ∃ b, w.heap.size = b := ⟨_, rfl⟩; have g1 := h.allocRaw #[.bool false, .string (bb dd), .int .i64 ac, .int .i64 tm, .slice q l.length cap] 26; rw [hrb] at g1; have z0 := g1.rawCell 0; have z1 := g1.rawCell 1; have z2 := g1.rawCell 2; have z3 := g1.rawCell 3; have z4 := g1.rawCell 4; simp at z0 z1 z2 z3 z4; have H := Lib.hid g1; have HK := Lib.hid hk; have HF := Lib.hid hf; have HTF := Lib.hid (ckT_few hf); have HLL := Lib.hid hll; have HDL := Lib.hid hdd; have HBR := Lib.hid hr; have HKR := Lib.hid hkr; have d1 : decide (ac < -1) = false := decide_eq_false n1; have d2 : decide (1 < ac) = true := decide_eq_true n2; clear h g1 hk hf hll hdd hr hkr n1 n2; go_enter Tryz.func12, Tryz.ntmps12
 go_wp2_with (first
  | (go_at_call 37; clear z0 z1 z2 z3 z4; (with_reducible refine (pblob_rightQ false dd true HBR.out H.out).mono ?_); rintro e_ wn ⟨rfl, h⟩; have z0 := h.rawCell 0; have z1 := h.rawCell 1; have z2 := h.rawCell 2; have z3 := h.rawCell 3; have z4 := h.rawCell 4; simp at z0 z1 z2 z3 z4; replace H := Lib.hid h; clear h)
  | (go_at_call 38; clear z0 z1 z2 z3 z4; (with_reducible refine (key_rightQ dd true HKR.out HDL.out H.out).mono ?_); rintro e_ wn ⟨rfl, h⟩; have z0 := h.rawCell 0; have z1 := h.rawCell 1; have z2 := h.rawCell 2; have z3 := h.rawCell 3; have z4 := h.rawCell 4; simp at z0 z1 z2 z3 z4; replace H := Lib.hid h; clear h))
 go_ret; exact ⟨rfl, H.out.drop⟩

set_option maxHeartbeats 2000000 in
set_option maxRecDepth 100000 in
theorem rqc_a3_false (dd : Bs) (ac tm v : Int) (l : List PTop) (q : Option Addr) (cap : Nat) (hdd : dd.length ≤ 140737488355328) (hf : ∀ x ∈ l, CkT x) (hll : l.length ≤ 4398046511104) (hr : (⟨false, dd⟩ : BlobS).right = true) (hkr : keyRight dd = true) (n1 : ¬ ac < -1) (n2 : ¬ 1 < ac) (n3 : tm < 0) {W0 w : World} {K : Know} {L : List Res} (hk : K.has (Know.ptops (.slice q l.length cap) l)) (h : St W0 w K L) :
  Calls Tryz.prog 12 #[.agg #[.bool false, .string (bb dd), .int .i64 ac, .int .i64 tm, .slice q l.length cap], .int .i64 v] w fun en w' => en = .returned (.int .i64 11) ∧ St W0 w' K L := by
 obtain ⟨rb, hrb⟩ : ∃ b, w.heap.size = b := ⟨_, rfl⟩; have g1 := h.allocRaw #[.bool false, .string (bb dd), .int .i64 ac, .int .i64 tm, .slice q l.length cap] 26; rw [hrb] at g1; have z0 := g1.rawCell 0; have z1 := g1.rawCell 1; have z2 := g1.rawCell 2; have z3 := g1.rawCell 3; have z4 := g1.rawCell 4; simp at z0 z1 z2 z3 z4; have H := Lib.hid g1; have HK := Lib.hid hk; have HF := Lib.hid hf; have HTF := Lib.hid (ckT_few hf); have HLL := Lib.hid hll; have HDL := Lib.hid hdd; have HBR := Lib.hid hr; have HKR := Lib.hid hkr; have d1 : decide (ac < -1) = false := decide_eq_false n1; have d2 : decide (1 < ac) = false := decide_eq_false n2; have d3 : decide (tm < 0) = true := decide_eq_true n3; clear h g1 hk hf hll hdd hr hkr n1 n2 n3; go_enter Tryz.func12, Tryz.ntmps12
 go_wp2_with (first
  | (go_at_call 37; clear z0 z1 z2 z3 z4; (with_reducible refine (pblob_rightQ false dd true HBR.out H.out).mono ?_); rintro e_ wn ⟨rfl, h⟩; have z0 := h.rawCell 0; have z1 := h.rawCell 1; have z2 := h.rawCell 2; have z3 := h.rawCell 3; have z4 := h.rawCell 4; simp at z0 z1 z2 z3 z4; replace H := Lib.hid h; clear h)
  | (go_at_call 38; clear z0 z1 z2 z3 z4; (with_reducible refine (key_rightQ dd true HKR.out HDL.out H.out).mono ?_); rintro e_ wn ⟨rfl, h⟩; have z0 := h.rawCell 0; have z1 := h.rawCell 1; have z2 := h.rawCell 2; have z3 := h.rawCell 3; have z4 := h.rawCell 4; simp at z0 z1 z2 z3 z4; replace H := Lib.hid h; clear h))
 go_ret; exact ⟨rfl, H.out.drop⟩

set_option maxHeartbeats 2000000 in
set_option maxRecDepth 100000 in
theorem rqc_a4_false (dd : Bs) (ac tm v : Int) (l : List PTop) (q : Option Addr) (cap : Nat) (hdd : dd.length ≤ 140737488355328) (hf : ∀ x ∈ l, CkT x) (hll : l.length ≤ 4398046511104) (hr : (⟨false, dd⟩ : BlobS).right = true) (hkr : keyRight dd = true) (n1 : ¬ ac < -1) (n2 : ¬ 1 < ac) (n3 : ¬ tm < 0) (n4 : 2147483647 < tm) {W0 w : World} {K : Know} {L : List Res} (hk : K.has (Know.ptops (.slice q l.length cap) l)) (h : St W0 w K L) :
  Calls Tryz.prog 12 #[.agg #[.bool false, .string (bb dd), .int .i64 ac, .int .i64 tm, .slice q l.length cap], .int .i64 v] w fun en w' => en = .returned (.int .i64 11) ∧ St W0 w' K L := by
 obtain ⟨rb, hrb⟩ : ∃ b, w.heap.size = b := ⟨_, rfl⟩; have g1 := h.allocRaw #[.bool false, .string (bb dd), .int .i64 ac, .int .i64 tm, .slice q l.length cap] 26; rw [hrb] at g1; have z0 := g1.rawCell 0; have z1 := g1.rawCell 1; have z2 := g1.rawCell 2; have z3 := g1.rawCell 3; have z4 := g1.rawCell 4; simp at z0 z1 z2 z3 z4; have H := Lib.hid g1; have HK := Lib.hid hk; have HF := Lib.hid hf; have HTF := Lib.hid (ckT_few hf); have HLL := Lib.hid hll; have HDL := Lib.hid hdd; have HBR := Lib.hid hr; have HKR := Lib.hid hkr; have d1 : decide (ac < -1) = false := decide_eq_false n1; have d2 : decide (1 < ac) = false := decide_eq_false n2; have d3 : decide (tm < 0) = false := decide_eq_false n3; have d4 : decide (2147483647 < tm) = true := decide_eq_true n4; clear h g1 hk hf hll hdd hr hkr n1 n2 n3 n4; go_enter Tryz.func12, Tryz.ntmps12
 go_wp2_with (first
  | (go_at_call 37; clear z0 z1 z2 z3 z4; (with_reducible refine (pblob_rightQ false dd true HBR.out H.out).mono ?_); rintro e_ wn ⟨rfl, h⟩; have z0 := h.rawCell 0; have z1 := h.rawCell 1; have z2 := h.rawCell 2; have z3 := h.rawCell 3; have z4 := h.rawCell 4; simp at z0 z1 z2 z3 z4; replace H := Lib.hid h; clear h)
  | (go_at_call 38; clear z0 z1 z2 z3 z4; (with_reducible refine (key_rightQ dd true HKR.out HDL.out H.out).mono ?_); rintro e_ wn ⟨rfl, h⟩; have z0 := h.rawCell 0; have z1 := h.rawCell 1; have z2 := h.rawCell 2; have z3 := h.rawCell 3; have z4 := h.rawCell 4; simp at z0 z1 z2 z3 z4; replace H := Lib.hid h; clear h))
 go_ret; exact ⟨rfl, H.out.drop⟩

set_option maxHeartbeats 2000000 in
set_option maxRecDepth 100000 in
theorem rqc_t_false (dd : Bs) (ac tm v : Int) (l : List PTop) (q : Option Addr) (cap : Nat) (hdd : dd.length ≤ 140737488355328) (hf : ∀ x ∈ l, CkT x) (hll : l.length ≤ 4398046511104) (hr : (⟨false, dd⟩ : BlobS).right = true) (hkr : keyRight dd = true) (n1 : ¬ ac < -1) (n2 : ¬ 1 < ac) (n3 : ¬ tm < 0) (n4 : ¬ 2147483647 < tm) (e : Int) (het : errTops l = e) (h0 : e ≠ 0) {W0 w : World} {K : Know} {L : List Res} (hk : K.has (Know.ptops (.slice q l.length cap) l)) (h : St W0 w K L) :
  Calls Tryz.prog 12 #[.agg #[.bool false, .string (bb dd), .int .i64 ac, .int .i64 tm, .slice q l.length cap], .int .i64 v] w fun en w' => en = .returned (.int .i64 e) ∧ St W0 w' K L := by
 obtain ⟨rb, hrb⟩ : ∃ b, w.heap.size = b := ⟨_, rfl⟩; have g1 := h.allocRaw #[.bool false, .string (bb dd), .int .i64 ac, .int .i64 tm, .slice q l.length cap] 26; rw [hrb] at g1; have z0 := g1.rawCell 0; have z1 := g1.rawCell 1; have z2 := g1.rawCell 2; have z3 := g1.rawCell 3; have z4 := g1.rawCell 4; simp at z0 z1 z2 z3 z4; have H := Lib.hid g1; have HK := Lib.hid hk; have HF := Lib.hid hf; have HTF := Lib.hid (ckT_few hf); have HLL := Lib.hid hll; have HDL := Lib.hid hdd; have HBR := Lib.hid hr; have HKR := Lib.hid hkr; have d1 : decide (ac < -1) = false := decide_eq_false n1; have d2 : decide (1 < ac) = false := decide_eq_false n2; have d3 : decide (tm < 0) = false := decide_eq_false n3; have d4 : decide (2147483647 < tm) = false := decide_eq_false n4; have HET := Lib.hid het; have e1 : (e == 0) = false := by rw [beq_eq_false_iff_ne]; exact h0
 have e3 : (e != 0) = true := by simp [bne, e1]
 clear h g1 hk hf hll hdd hr hkr n1 n2 n3 n4 het h0; go_enter Tryz.func12, Tryz.ntmps12
 go_wp2_with (first
  | (go_at_call 37; clear z0 z1 z2 z3 z4; (with_reducible refine (pblob_rightQ false dd true HBR.out H.out).mono ?_); rintro e_ wn ⟨rfl, h⟩; have z0 := h.rawCell 0; have z1 := h.rawCell 1; have z2 := h.rawCell 2; have z3 := h.rawCell 3; have z4 := h.rawCell 4; simp at z0 z1 z2 z3 z4; replace H := Lib.hid h; clear h)
  | (go_at_call 38; clear z0 z1 z2 z3 z4; (with_reducible refine (key_rightQ dd true HKR.out HDL.out H.out).mono ?_); rintro e_ wn ⟨rfl, h⟩; have z0 := h.rawCell 0; have z1 := h.rawCell 1; have z2 := h.rawCell 2; have z3 := h.rawCell 3; have z4 := h.rawCell 4; simp at z0 z1 z2 z3 z4; replace H := Lib.hid h; clear h)
  | (go_at_call 39; clear z0 z1 z2 z3 z4; (with_reducible refine (check_topics l q cap e HET.out HTF.out HLL.out HK.out H.out).mono ?_); rintro e_ wn ⟨rfl, h⟩; have z0 := h.rawCell 0; have z1 := h.rawCell 1; have z2 := h.rawCell 2; have z3 := h.rawCell 3; have z4 := h.rawCell 4; simp at z0 z1 z2 z3 z4; replace H := Lib.hid h; clear h))
 go_ret; exact ⟨rfl, H.out.drop⟩

set_option maxHeartbeats 2000000 in
set_option maxRecDepth 100000 in
theorem rqc_p_false (dd : Bs) (ac tm v : Int) (l : List PTop) (q : Option Addr) (cap : Nat) (hdd : dd.length ≤ 140737488355328) (hf : ∀ x ∈ l, CkT x) (hll : l.length ≤ 4398046511104) (hr : (⟨false, dd⟩ : BlobS).right = true) (hkr : keyRight dd = true) (n1 : ¬ ac < -1) (n2 : ¬ 1 < ac) (n3 : ¬ tm < 0) (n4 : ¬ 2147483647 < tm) (het : errTops l = 0) (e : Int) (hep : errPT (!false) v l = e) {W0 w : World} {K : Know} {L : List Res} (hk : K.has (Know.ptops (.slice q l.length cap) l)) (h : St W0 w K L) :
  Calls Tryz.prog 12 #[.agg #[.bool false, .string (bb dd), .int .i64 ac, .int .i64 tm, .slice q l.length cap], .int .i64 v] w fun en w' => en = .returned (.int .i64 e) ∧ St W0 w' K L := by
 obtain ⟨rb, hrb⟩ : ∃ b, w.heap.size = b := ⟨_, rfl⟩; have g1 := h.allocRaw #[.bool false, .string (bb dd), .int .i64 ac, .int .i64 tm, .slice q l.length cap] 26; rw [hrb] at g1; have z0 := g1.rawCell 0; have z1 := g1.rawCell 1; have z2 := g1.rawCell 2; have z3 := g1.rawCell 3; have z4 := g1.rawCell 4; simp at z0 z1 z2 z3 z4; have H := Lib.hid g1; have HK := Lib.hid hk; have HF := Lib.hid hf; have HTF := Lib.hid (ckT_few hf); have HLL := Lib.hid hll; have HDL := Lib.hid hdd; have HBR := Lib.hid hr; have HKR := Lib.hid hkr; have d1 : decide (ac < -1) = false := decide_eq_false n1; have d2 : decide (1 < ac) = false := decide_eq_false n2; have d3 : decide (tm < 0) = false := decide_eq_false n3; have d4 : decide (2147483647 < tm) = false := decide_eq_false n4; have HET := Lib.hid het; have HEP := Lib.hid hep; clear h g1 hk hf hll hdd hr hkr n1 n2 n3 n4 het hep; go_enter Tryz.func12, Tryz.ntmps12
 go_wp2_with (first
  | (go_at_call 37; clear z0 z1 z2 z3 z4; (with_reducible refine (pblob_rightQ false dd true HBR.out H.out).mono ?_); rintro e_ wn ⟨rfl, h⟩; have z0 := h.rawCell 0; have z1 := h.rawCell 1; have z2 := h.rawCell 2; have z3 := h.rawCell 3; have z4 := h.rawCell 4; simp at z0 z1 z2 z3 z4; replace H := Lib.hid h; clear h)
  | (go_at_call 38; clear z0 z1 z2 z3 z4; (with_reducible refine (key_rightQ dd true HKR.out HDL.out H.out).mono ?_); rintro e_ wn ⟨rfl, h⟩; have z0 := h.rawCell 0; have z1 := h.rawCell 1; have z2 := h.rawCell 2; have z3 := h.rawCell 3; have z4 := h.rawCell 4; simp at z0 z1 z2 z3 z4; replace H := Lib.hid h; clear h)
  | (go_at_call 39; clear z0 z1 z2 z3 z4; (with_reducible refine (check_topics l q cap 0 HET.out HTF.out HLL.out HK.out H.out).mono ?_); rintro e_ wn ⟨rfl, h⟩; have z0 := h.rawCell 0; have z1 := h.rawCell 1; have z2 := h.rawCell 2; have z3 := h.rawCell 3; have z4 := h.rawCell 4; simp at z0 z1 z2 z3 z4; replace H := Lib.hid h; clear h)
  | (go_at_call 40; clear z0 z1 z2 z3 z4; (with_reducible refine (check_parts false dd ac tm v l q cap e HEP.out HF.out HLL.out HK.out H.out).mono ?_); rintro e_ wn ⟨rfl, h⟩; have z0 := h.rawCell 0; have z1 := h.rawCell 1; have z2 := h.rawCell 2; have z3 := h.rawCell 3; have z4 := h.rawCell 4; simp at z0 z1 z2 z3 z4; replace H := Lib.hid h; clear h))
 go_ret; exact ⟨rfl, H.out.drop⟩
theorem preq_check (nl : Bool) (dd : Bs) (ac tm v : Int) (l : List PTop) (q : Option Addr) (cap : Nat) (hdd : dd.length ≤ 140737488355328) (hf : ∀ x ∈ l, CkT x) (hll : l.length ≤ 4398046511104) (e : Int) (he : errReq ⟨nl, dd⟩ ac tm v l = e) {W0 w : World} {K : Know} {L : List Res} (hk : K.has (Know.ptops (.slice q l.length cap) l)) (h : St W0 w K L) :
  Calls Tryz.prog 12 #[.agg #[.bool nl, .string (bb dd), .int .i64 ac, .int .i64 tm, .slice q l.length cap], .int .i64 v] w fun en w' => en = .returned (.int .i64 e) ∧ St W0 w' K L := by
 unfold errReq at he
 cases hr : (⟨nl, dd⟩ : BlobS).right with
 | false =>
  rw [if_pos (.inl hr)] at he; subst he; exact rqc_r0 nl dd ac tm v l q cap hdd hf hll hr hk h
 | true =>
  cases nl with
  | true =>
   rw [if_neg (by simp [hr])] at he
   by_cases n1 : ac < -1
   · rw [if_pos (.inl n1)] at he; subst he; exact rqc_a1_true dd ac tm v l q cap hdd hf hll hr n1 hk h
   by_cases n2 : 1 < ac
   · rw [if_pos (.inr (.inl n2))] at he; subst he; exact rqc_a2_true dd ac tm v l q cap hdd hf hll hr n1 n2 hk h
   by_cases n3 : tm < 0
   · rw [if_pos (.inr (.inr (.inl n3)))] at he; subst he; exact rqc_a3_true dd ac tm v l q cap hdd hf hll hr n1 n2 n3 hk h
   by_cases n4 : 2147483647 < tm
   · rw [if_pos (.inr (.inr (.inr n4)))] at he; subst he; exact rqc_a4_true dd ac tm v l q cap hdd hf hll hr n1 n2 n3 n4 hk h
   rw [if_neg (by omega)] at he
   by_cases ht : errTops l = 0
   · rw [if_neg (by simp [ht])] at he; exact rqc_p_true dd ac tm v l q cap hdd hf hll hr n1 n2 n3 n4 ht e he hk h
   · rw [if_pos ht] at he; exact rqc_t_true dd ac tm v l q cap hdd hf hll hr n1 n2 n3 n4 e he (by rw [← he]; exact ht) hk h
  | false =>
   cases hkr : keyRight dd with
   | false =>
     rw [if_pos (.inr ⟨rfl, hkr⟩)] at he; subst he; exact rqc_k0 dd ac tm v l q cap hdd hf hll hr hkr hk h
   | true =>
     rw [if_neg (by simp [hr, hkr])] at he
     by_cases n1 : ac < -1
     · rw [if_pos (.inl n1)] at he; subst he; exact rqc_a1_false dd ac tm v l q cap hdd hf hll hr hkr n1 hk h
     by_cases n2 : 1 < ac
     · rw [if_pos (.inr (.inl n2))] at he; subst he; exact rqc_a2_false dd ac tm v l q cap hdd hf hll hr hkr n1 n2 hk h
     by_cases n3 : tm < 0
     · rw [if_pos (.inr (.inr (.inl n3)))] at he; subst he; exact rqc_a3_false dd ac tm v l q cap hdd hf hll hr hkr n1 n2 n3 hk h
     by_cases n4 : 2147483647 < tm
     · rw [if_pos (.inr (.inr (.inr n4)))] at he; subst he; exact rqc_a4_false dd ac tm v l q cap hdd hf hll hr hkr n1 n2 n3 n4 hk h
     rw [if_neg (by omega)] at he
     by_cases ht : errTops l = 0
     · rw [if_neg (by simp [ht])] at he; exact rqc_p_false dd ac tm v l q cap hdd hf hll hr hkr n1 n2 n3 n4 ht e he hk h
     · rw [if_pos ht] at he; exact rqc_t_false dd ac tm v l q cap hdd hf hll hr hkr n1 n2 n3 n4 e he (by rw [← he]; exact ht) hk h
set_option maxHeartbeats 6000000 in
set_option maxRecDepth 100000 in
theorem preq_write_ok (po : Nat) (o : Bs) (nl : Bool) (dd : Bs) (ac tm v : Int) (l : List PTop) (q : Option Addr) (cap : Nat) (hdd : dd.length ≤ 140737488355328) (hf : ∀ x ∈ l, CkT x) (hll : l.length ≤ 1000000) (he : errReq ⟨nl, dd⟩ ac tm v l = 0) (o2 : Bs) (hs : o ++ encPReq nl dd ac tm l = o2) (h2 : o2.length ≤ 9000000) (hrt : (⟨nl, dd⟩ : BlobS).right = true) (hd2 : dd.length ≤ 32767) (hac : -32768 ≤ ac ∧ ac < 32768) (htm : 0 ≤ tm ∧ tm < 2147483648) (hpt : ∀ x ∈ l, PutT x) {W0 w : World} {K : Know} {L : List Res} (hk : K.has (Know.ptops (.slice q l.length cap) l)) (h : St W0 w K (.out po ⟨o, 0⟩ :: L)) :
  Calls Tryz.prog 8 #[.agg #[.bool nl, .string (bb dd), .int .i64 ac, .int .i64 tm, .slice q l.length cap], outPtr po, .int .i64 v] w fun en w' => en = .returned (.tuple #[]) ∧ St W0 w' K (.out po ⟨o2, 0⟩ :: L) := by
 obtain ⟨rb, hrb⟩ : ∃ b, w.heap.size = b := ⟨_, rfl⟩; have g1 := (h.allocRaw #[.bool nl, .string (bb dd), .int .i64 ac, .int .i64 tm, .slice q l.length cap] 26).p1; rw [hrb] at g1; have z0 := g1.p1.rawCell 0; have z1 := g1.p1.rawCell 1; have z2 := g1.p1.rawCell 2; have z3 := g1.p1.rawCell 3; have z4 := g1.p1.rawCell 4; simp at z0 z1 z2 z3 z4; have H := Lib.hid g1; have HK := Lib.hid hk; have HCF := Lib.hid hf; have HLL := Lib.hid hll; have HDD := Lib.hid hdd; have HER := Lib.hid he; obtain ⟨A1, hA1⟩ : ∃ A, o ++ encF 2 ⟨nl, dd⟩ = A := ⟨_, rfl⟩; obtain ⟨A2, hA2⟩ : ∃ A, A1 ++ beBytes ac (2 : Int).toNat = A := ⟨_, rfl⟩; obtain ⟨A3, hA3⟩ : ∃ A, A2 ++ beBytes tm (4 : Int).toNat = A := ⟨_, rfl⟩; obtain ⟨A4, hA4⟩ : ∃ A, A3 ++ beBytes (l.length : Int) (4 : Int).toNat = A := ⟨_, rfl⟩
 have hR : A4 ++ (l.drop 0).flatMap encPTop = o2 := by
  rw [← hs, ← hA4, ← hA3, ← hA2, ← hA1, List.drop_zero]; unfold encPReq; simp only [List.append_assoc]
 have l4 := len_ahead hR h2; have l3 := len_ahead hA4 l4; have l2 := len_ahead hA3 l3; have l1 := len_ahead hA2 l2; have l0 := len_ahead hA1 l1; have HA1 := Lib.hid hA1; have HA2 := Lib.hid hA2; have HA3 := Lib.hid hA3; have HA4 := Lib.hid hA4; have HR := Lib.hid hR; have HO2 := Lib.hid h2; have L0 := Lib.hid (show o.length ≤ 100000000000000 by omega); have L1 := Lib.hid (show A1.length ≤ 100000000000000 by omega); have L2 := Lib.hid (show A2.length ≤ 100000000000000 by omega); have L3 := Lib.hid (show A3.length ≤ 100000000000000 by omega); have HRT := Lib.hid hrt; have HD2 := Lib.hid hd2; have FA := Lib.hid (pfits2 ac hac); have FT := Lib.hid (pfits4 tm (by omega)); have FL := Lib.hid (pfits4 (l.length : Int) (by omega)); have RA := Lib.hid (show -9223372036854775808 ≤ ac ∧ ac < 9223372036854775808 by omega); have RT := Lib.hid (show -9223372036854775808 ≤ tm ∧ tm < 9223372036854775808 by omega); have RL := Lib.hid (show -9223372036854775808 ≤ (l.length : Int) ∧ (l.length : Int) < 9223372036854775808 by omega); have HPT := Lib.hid hpt; have hni : (l.length : Int) ≤ 4398046511104 := by omega
 clear h g1 hk hf hll hdd he hs h2 hrt hd2 hac htm hpt hA1 hA2 hA3 hA4 hR l4 l3 l2 l1 l0; go_enter Tryz.func8, Tryz.ntmps8
 go_wp2_with (first
  | (go_at_call 12; clear z0 z1 z2 z3 z4; (with_reducible refine (preq_check nl dd ac tm v l q cap HDD.out HCF.out (Nat.le_trans HLL.out (by decide)) 0 HER.out HK.out H.out).mono ?_); rintro e_ wn ⟨rfl, h⟩; have z0 := h.p1.rawCell 0; have z1 := h.p1.rawCell 1; have z2 := h.p1.rawCell 2; have z3 := h.p1.rawCell 3; have z4 := h.p1.rawCell 4; simp at z0 z1 z2 z3 z4; replace H := Lib.hid h; clear h)
  | (go_at_call 31; clear z0 z1 z2 z3 z4; (with_reducible refine (pblob_fixed2 po o A1 nl dd HA1.out HRT.out HD2.out L0.out H.out).mono ?_); rintro e_ wn ⟨rfl, h⟩; have z0 := h.p1.rawCell 0; have z1 := h.p1.rawCell 1; have z2 := h.p1.rawCell 2; have z3 := h.p1.rawCell 3; have z4 := h.p1.rawCell 4; simp at z0 z1 z2 z3 z4; replace H := Lib.hid h; clear h)
  | (go_at_call 32; clear z0 z1 z2 z3 z4; (with_reducible refine (pso_int po A1 A2 ac 2 HA2.out FA.out RA.out L1.out H.out).mono ?_); rintro e_ wn ⟨rfl, h⟩; have z0 := h.p1.rawCell 0; have z1 := h.p1.rawCell 1; have z2 := h.p1.rawCell 2; have z3 := h.p1.rawCell 3; have z4 := h.p1.rawCell 4; simp at z0 z1 z2 z3 z4; replace H := Lib.hid h; clear h)
  | (go_at_call 32; clear z0 z1 z2 z3 z4; (with_reducible refine (pso_int po A2 A3 tm 4 HA3.out FT.out RT.out L2.out H.out).mono ?_); rintro e_ wn ⟨rfl, h⟩; have z0 := h.p1.rawCell 0; have z1 := h.p1.rawCell 1; have z2 := h.p1.rawCell 2; have z3 := h.p1.rawCell 3; have z4 := h.p1.rawCell 4; simp at z0 z1 z2 z3 z4; replace H := Lib.hid h; clear h)
  | (go_at_call 32; clear z0 z1 z2 z3 z4; (with_reducible refine (pso_int po A3 A4 l.length 4 HA4.out FL.out RL.out L3.out H.out).mono ?_); rintro e_ wn ⟨rfl, h⟩; have z0 := h.p1.rawCell 0; have z1 := h.p1.rawCell 1; have z2 := h.p1.rawCell 2; have z3 := h.p1.rawCell 3; have z4 := h.p1.rawCell 4; simp at z0 z1 z2 z3 z4; replace H := Lib.hid h; clear h))
 clear z0 z1 z2 z3 z4; go_loopw [39] (fun iv wr => ∃ (k : Nat) (E : Bs), k ≤ l.length ∧ iv = .int .i64 k ∧ Hid (E ++ (l.drop k).flatMap encPTop = o2) ∧ St W0 wr K (.out po ⟨E, 0⟩ :: .raw rb #[.bool nl, .string (bb dd), .int .i64 ac, .int .i64 tm, .slice q l.length cap] 26 :: L)) (fun iv _ => l.length - (intOf iv).toNat)
 case atStart => exact ⟨0, A4, Nat.zero_le _, rfl, HR, H.out⟩
 case round =>
  obtain ⟨k, E, hkl, rfl, HE, hst⟩ := hrel; clear H HR; have H := Lib.hid hst; clear hst
  by_cases hlt : k < l.length
  · obtain ⟨bk, off, hqq⟩ := ptops_at HK.out H.out (by omega); obtain ⟨x, hx⟩ : ∃ x, l[k] = x := ⟨_, rfl⟩; have hmem : x ∈ l := hx ▸ List.getElem_mem hlt; have hpx := HPT.out x hmem; have HK' := HK.out; rw [hqq] at HK'; obtain ⟨c0, c1⟩ := ptops_cell HK' H.out k hlt x hx; have HXK0 := ptops_parts HK.out hmem; have he := HE.out; rw [flat_cut encPTop l k hlt x hx] at he; have hkn : (k : Int) < (l.length : Int) := by omega
    obtain ⟨nm, xl, xq, xcap⟩ := x; simp only at c0 c1 HXK0; obtain ⟨B1, hB1⟩ : ∃ B, E ++ encF 2 ⟨false, nm⟩ = B := ⟨_, rfl⟩; obtain ⟨B2, hB2⟩ : ∃ B, B1 ++ beBytes (xl.length : Int) (4 : Int).toNat = B := ⟨_, rfl⟩
    have hI : B2 ++ ((xl.drop 0).flatMap encPart ++ (l.drop (k + 1)).flatMap encPTop) = o2 := by
     rw [← he, ← hB2, ← hB1, List.drop_zero]; unfold encPTop; simp only [List.append_assoc]
    have hxl : xl.length ≤ 100000 := hpx.few; have hxi : (xl.length : Int) ≤ 100000 := by omega
    have l2 := len_ahead hI HO2.out; have l1 := len_ahead hB2 l2; have l0 := len_ahead hB1 l1; have HB1 := Lib.hid hB1; have HB2 := Lib.hid hB2; have HI := Lib.hid hI; have HNM := Lib.hid (show nm.length ≤ 32767 from hpx.name); have M0 := Lib.hid (show E.length ≤ 100000000000000 by omega); have M1 := Lib.hid (show B1.length ≤ 100000000000000 by omega); have FX := Lib.hid (pfits4 (xl.length : Int) (by omega)); have RX := Lib.hid (show -9223372036854775808 ≤ (xl.length : Int) ∧ (xl.length : Int) < 9223372036854775808 by omega); have HXK := Lib.hid HXK0; have HPP := Lib.hid (show ∀ y ∈ xl, PutP y from hpx.parts); subst hqq; clear hx hmem hpx HK' HXK0 he hxl hB1 hB2 hI l2 l1 l0
    go_wp2_with (first
  | (go_at_call 33; (with_reducible refine (pblob_text po E B1 nm HB1.out HNM.out M0.out ((H.out.allocRaw #[.string (bb nm), .slice xq xl.length xcap] 65).p1)).mono ?_); rintro e_ wn ⟨rfl, h⟩; have y0 := h.p1.rawCell 0; have y1 := h.p1.rawCell 1; simp at y0 y1; replace H := Lib.hid h; clear h)
  | (go_at_call 32; clear y0 y1; (with_reducible refine (pso_int po B1 B2 xl.length 4 HB2.out FX.out RX.out M1.out H.out).mono ?_); rintro e_ wn ⟨rfl, h⟩; have y1 := h.p1.rawCell 1; simp at y1; replace H := Lib.hid h; clear h))
    clear y1; go_loopw [55] (fun jv wr => ∃ (j : Nat) (G : Bs), j ≤ xl.length ∧ jv = .int .i64 j ∧ Hid (G ++ ((xl.drop j).flatMap encPart ++ (l.drop (k + 1)).flatMap encPTop) = o2) ∧ St W0 wr K (.out po ⟨G, 0⟩ :: .raw rb #[.bool nl, .string (bb dd), .int .i64 ac, .int .i64 tm, .slice (some ⟨bk, off, none⟩) l.length cap] 26 :: L)) (fun jv _ => xl.length - (intOf jv).toNat)
    case atStart => exact ⟨0, B2, Nat.zero_le _, rfl, HI, H.out.p1.drop⟩
    case round =>
     obtain ⟨j, G, hjl, rfl, HG, hst⟩ := hrel; clear H HI c0 c1; have H := Lib.hid hst; clear hst
     by_cases hjt : j < xl.length
     · obtain ⟨pk, poff, hpq⟩ := pparts_at HXK.out H.out (by omega); subst hpq; obtain ⟨y, hy⟩ : ∃ y, xl[j] = y := ⟨_, rfl⟩; have hmem : y ∈ xl := hy ▸ List.getElem_mem hjt; have hpy := HPP.out y hmem; obtain ⟨d0, d1⟩ := pparts_cell HXK.out H.out j hjt y hy; have HYK0 := pparts_bats HXK.out hmem; have hg := HG.out; rw [flat_cut encPart xl j hjt y hy] at hg; have hjn : (j : Int) < (xl.length : Int) := by omega
       obtain ⟨yi, yl, yq, ycap⟩ := y; simp only at d0 d1 HYK0; obtain ⟨G2, hG2⟩ : ∃ B, G ++ encPart ⟨yi, yl, yq, ycap⟩ = B := ⟨_, rfl⟩
       have hI : G2 ++ ((xl.drop (j + 1)).flatMap encPart ++ (l.drop (k + 1)).flatMap encPTop) = o2 := by
        rw [← hg, ← hG2]; simp only [List.append_assoc]
       have l1 := len_ahead hI HO2.out; have l0 := len_ahead hG2 l1; have HYK := Lib.hid HYK0; have HPY := Lib.hid hpy; have HG2 := Lib.hid hG2; have HI2 := Lib.hid hI; have M2 := Lib.hid (show G.length ≤ 10000000 by omega); clear hy hmem hpy HYK0 hg hG2 hI l1 l0; go_wp2_with (go_at_call 34; (with_reducible refine (put_part po G G2 yi yl yq ycap HPY.out HG2.out M2.out HYK.out ((H.out.allocRaw #[.int .i64 yi, .slice yq yl.length ycap] 68).p1)).mono ?_); rintro e_ wn ⟨rfl, h⟩; have h := h.p1.drop; replace H := Lib.hid h; clear h); go_roundw
       case rel =>
        refine ⟨j + 1, G2, hjt, by go_num, HI2, ?_⟩; exact H.out
       case measure => first | (simp [intOf]; done) | (simp [intOf]; omega)
     · obtain rfl : j = xl.length := by omega
       have HE2 := Lib.hid (show G ++ (l.drop (k + 1)).flatMap encPTop = o2 by have hg := HG.out; rw [List.drop_length] at hg; exact hg); go_wp2_with fail; go_roundw
       case rel =>
        refine ⟨k + 1, G, hlt, by go_num, HE2, ?_⟩; exact H.out
       case measure => first | (simp [intOf]; done) | (simp [intOf]; omega)
  · obtain rfl : k = l.length := by omega
    have he := HE.out; rw [List.drop_length, List.flatMap_nil, List.append_nil] at he; subst he; go_wp2_with fail; go_end0; exact ⟨rfl, H.out.p1.drop⟩
theorem St.lend {W0 w : World} {K Kr : Know} {L : List Res} {r : Res} (h : St W0 w K (r :: L)) (hr : ∀ S1 : Nat → Prop, r.holds w S1 → (∀ k, S1 k → k < w.heap.size) → Kr.p w S1) :
   ∃ Kp : Know, Kp.has K ∧ Kp.has Kr ∧ St W0 w Kp L ∧ ∀ (w' : World) (L' : List Res) (Kq : Know), Kq.has Kp → St W0 w' Kq L' → St W0 w' K (r :: L') := by
 obtain ⟨hb, S, F, ⟨S1, S2, h1, h2, h3, h4⟩, hc, hk, he⟩ := h; have hF : ∀ k, F k → k < w.heap.size := fun k hk => (he k hk).1
 have hS : ∀ k, S1 k → k < w.heap.size := fun k hk => (hc k ((h4 k).2 (.inl hk))).2
 refine ⟨⟨fun w' F' => (∀ k, F k ∨ S1 k → F' k) ∧ w.heap.size ≤ w'.heap.size ∧ ∀ k, F k ∨ S1 k → w'.heap[k]? = w.heap[k]?, ?_, ?_⟩, ?_, ?_, ?_, ?_⟩
 · intro w1 w2 F' ⟨a, b, c⟩ hs hh; refine ⟨a, Nat.le_trans b hs, fun k hk => ?_⟩; have hl : k < w.heap.size := by rcases hk with hk | hk; exact hF k hk; exact hS k hk
   rw [hh k (Nat.lt_of_lt_of_le hl b) (a k hk), c k hk]
 · intro w1 F1 F2 ⟨a, b, c⟩ hs; exact ⟨fun k hk => hs k (a k hk), b, c⟩
 · intro w' F' ⟨a, b, c⟩; exact K.mono w' F F' (K.keep w w' F hk b (fun k _ hk => c k (.inl hk))) (fun k hk => a k (.inl hk))
 · intro w' F' ⟨a, b, c⟩; exact Kr.mono w' S1 F' (Kr.keep w w' S1 (hr S1 h1 hS) b (fun k _ hk => c k (.inr hk))) (fun k hk => a k (.inr hk))
 · refine ⟨hb, S2, fun k => F k ∨ S1 k, h2, fun k hk => hc k ((h4 k).2 (.inr hk)), ⟨fun _ h => h, Nat.le_refl _, fun _ _ => rfl⟩, ?_⟩; rintro k (hk | hk)
   · exact ⟨hF k hk, fun hh => (he k hk).2 ((h4 k).2 (.inr hh))⟩
   · exact ⟨hS k hk, h3 k hk⟩
 · intro w' L' Kq hq ⟨hb', S', F', g1, g2, g3, g4⟩; obtain ⟨a, b, c⟩ := hq w' F' g3; refine ⟨hb', fun k => S1 k ∨ S' k, F, ⟨S1, S', Res.keep h1 b (fun k _ hk => c k (.inr hk)), g1, fun k hk hk' => (g4 k (a k (.inr hk))).2 hk', fun k => Iff.rfl⟩, ?_, K.keep w w' F hk b (fun k _ hk => c k (.inl hk)), ?_⟩
   · rintro k (hk | hk)
     · exact ⟨(hc k ((h4 k).2 (.inl hk))).1, Nat.lt_of_lt_of_le (hS k hk) b⟩
     · exact g2 k hk
   · intro k hk; refine ⟨Nat.lt_of_lt_of_le (hF k hk) b, ?_⟩; rintro (hh | hh)
     · exact (he k hk).2 ((h4 k).2 (.inl hh))
     · exact (g4 k (a k (.inl hk))).2 hh
theorem op_value {P : Program} {o : Oper} {a : Act} {w w' : World} {v : Value} {KK : Act → World → Prop} {Q : Exit → Act → World → Prop} (hr : (execOp a.eval o).run P w = .ok (.value v) w') (h : KK (a.put o.dst v) w') : o.wp P a w KK Q := by
 unfold Oper.wp; rw [hr]; exact h
theorem op_app1 {W0 w : World} {K : Know} {L : List Res} {o : Oper} {a : Act} {KK : Act → World → Prop} {Q : Exit → Act → World → Prop} (sl x : Operand) (t : TypeId)
    (ho : o.op = .call { callee := .builtin .append, args := #[sl, x], argTypes := #[t, t] })
    (e : TypeId) {z : Value} {size bytes : Nat} (ht : Tryz.prog.underlying t = some (.slice e)) (he : ElemT Tryz.prog e z size bytes)
    (v : Value) (n : Nat) (xs : List Value) (hs : a.eval sl = v) (bS : Nat) (cs : Array Value) (T : TypeId) (hst : St W0 w K (.raw bS cs T :: .row v e size n xs :: L))
    (hx : a.eval x = .slice (some ⟨bS, 0, none⟩) 1 1) (hl : cs.toList.length = size) (h1 : ∀ u ∈ cs.toList, u.oneCell' = true)
    (h63 : n + 1 ≤ maxLen) (hbytes : (n + 1) * bytes ≤ 140737488355328)
    (h : ∀ v' w', St W0 w' K (.row v' e size (n + 1) (xs ++ cs.toList) :: L) → KK (a.put o.dst v') w') : o.wp Tryz.prog a w KK Q := by
  have hc := hst.rawCell; have hst2 := hst.p1; obtain ⟨⟨i, g1, g2, g3, g4⟩, g5, g6⟩ := he
  obtain ⟨v', w', hr, h2, h3, h4⟩ := app_val (P := Tryz.prog) w t o.type e i z size bytes ht g1 g2 g3 g4 g5 g6 v n xs hst2.rowGet ⟨bS, 0, none⟩ 1 1 cs.toList (by omega) (fun j u hj => by
    have ha : (⟨bS, 0, none⟩ : Addr).add j = ⟨bS, j, none⟩ := by unfold Addr.add; split <;> simp_all
    rw [ha, hc j]
    simpa using hj) h1 h63 hbytes
  unfold Oper.wp execOp; simp only [ho, resolve, invoke, builtin, Sem.run_bind, Sem.run_pure, Result.andThen_ok, List.map_toArray, List.map_cons, List.map_nil, hs, hx, hr]; exact h v' w' (hst2.rowGrown h2 h3 h4).p1.drop
theorem op_skip {P : Program} {o : Oper} {a : Act} {w w' : World} {KK : Act → World → Prop} {Q : Exit → Act → World → Prop} (hr : (execOp a.eval o).run P w = .ok .skip w') (h : KK (a.put o.dst undef) w') : o.wp P a w KK Q := by
 unfold Oper.wp; rw [hr]; exact h
theorem rc_cell_onlyP {P : Program} {fn : Func} {p : Tmp} {ty : TypeId} (h : fn.results = #[.cell p ty]) (tmps : Array Value) (w : World) (b : Nat) (cs : List Value) (d : TypeDesc)
    (hp : tmps.getD p undef = .pointer (some ⟨b, 0, none⟩)) (hc : w.rangeAt b 0 cs) (hu : P.underlying ty = some d) (hd : d.isRow = true) (hi : (P.info? ty).map (·.size) = some cs.length) :
    (results fn tmps).run P w = .ok (.agg cs.toArray) w := by
  have hp' : tmps[p]?.getD undef = .pointer (some ⟨b, 0, none⟩) := by simpa using hp
  simp [results, h, hp', asAddr, run_loadVar_mid w b 0 ty cs d hc hu hd hi]
theorem rc_rangeP {W0 w : World} {K : Know} {L : List Res} {b : Nat} {c : List Value} {T : TypeId} (h : St W0 w K (.raw b c.toArray T :: L)) : w.rangeAt b 0 c := by
 intro j v hv; rw [Nat.zero_add, h.rawCell j]
 simpa using hv
theorem St.setExP {W0 w : World} {K : Know} {L : List Res} {b : Nat} {c : Array Value} {T : TypeId} (h : St W0 w K (.raw b c T :: L)) (j : Nat) (v : Value) : ∃ wz, w.setCell ⟨b, j, none⟩ v = wz ∧ St W0 wz K (.raw b (c.setIfInBounds j v) T :: L) := ⟨_, rfl, h.rawSet j v⟩
theorem pso_text (p : Nat) (e : Bs) {W0 w : World} {K : Know} {L : List Res} (h : St W0 w K (.out p ⟨e, 0⟩ :: L)) :
 Calls Tryz.prog 9 #[outPtr p] w fun en w' => en = .returned (.tuple #[.string (bb e), .int .i64 0]) ∧ St W0 w' K (.out p ⟨e, 0⟩ :: L) := so_text p ⟨e, 0⟩ h
structure EqR (x : BatR) : Prop where
  len : x.l.length ≤ 1000000
  recs : x.l.map (·.1) = x.b.recs
  hdrs : ∀ y ∈ x.l, y.1.hdrs.length ≤ 9223372036854775807
def SmP (y : PartR) : Prop := ∀ z ∈ y.l, smallB (z.l.map (·.1)) = true
def SmT (x : PTop) : Prop := ∀ y ∈ x.l, SmP y
def sizeP : List PartR → Nat
  | [] => 0
  | y :: t => 10 + 100 * y.l.length + sizeP t
def sizeT : List PTop → Nat
  | [] => 0
  | x :: t => x.name.length + 10 + sizeP x.l + sizeT t
theorem sizeP_append (l m : List PartR) : sizeP (l ++ m) = sizeP l + sizeP m := by
 induction l with
 | nil => simp [sizeP]
 | cons x t ih => simp only [List.cons_append, sizeP, ih]; omega
theorem sizeT_append (l m : List PTop) : sizeT (l ++ m) = sizeT l + sizeT m := by
 induction l with
 | nil => simp [sizeT]
 | cons x t ih => simp only [List.cons_append, sizeT, ih]; omega
def AllP (l : List PTop) : Prop := ∀ x ∈ l, x.l.length ≠ 0
def FewI20 (dl : Nat) (l : List PTop) (k : Nat) (z : Int) : Prop :=
  (∀ x ∈ l.take k, SmT x) ∧ (∀ j, j ≤ k → AllP (l.take j) → j = 0 ∨ dl + sizeT (l.take j) ≤ 2000) ∧ (AllP (l.take k) → z = dl + sizeT (l.take k))
def FewJ (dl : Nat) (l : List PTop) (k : Nat) (x : PTop) (j : Nat) (z : Int) : Prop :=
  (∀ y ∈ x.l.take j, SmP y) ∧ (AllP (l.take k) → z = dl + sizeT (l.take k) + x.name.length + 10 + sizeP (x.l.take j) ∧ (j = 0 ∨ z ≤ 2000))
def FewR (dl : Nat) (l : List PTop) (r : Int) : Prop :=
  r = 0 ∨ (r = 1 ∧ (∀ x ∈ l, SmT x) ∧ (∀ j, j ≤ l.length → AllP (l.take j) → j = 0 ∨ dl + sizeT (l.take j) ≤ 2000) ∧ (l = [] → dl ≤ 2000))
theorem FewI20.zero (dl : Nat) (l : List PTop) : FewI20 dl l 0 dl := by
 refine ⟨fun x hx => by simp at hx, fun j hj _ => .inl (by omega), fun _ => by simp [sizeT]⟩
theorem FewI20.bound {dl : Nat} {l : List PTop} {k : Nat} {z : Int} (h : FewI20 dl l k z) (hd : dl ≤ 140737488351232) (ha : AllP (l.take k)) : 0 ≤ z ∧ z ≤ 140737488351232 := by
 have e := h.2.2 ha
 rcases h.2.1 k (Nat.le_refl _) ha with h0 | h0
 · subst h0; simp [sizeT] at e
   omega
 · omega
theorem FewJ.zero {dl : Nat} {l : List PTop} {k : Nat} {z z2 : Int} (x : PTop) (h : FewI20 dl l k z) (hd : dl ≤ 140737488351232) (hn : x.name.length ≤ 140737488351232) (hw : -9223372036854775808 ≤ z + ((x.name.length : Int) + 10) → z + ((x.name.length : Int) + 10) < 9223372036854775808 → z2 = z + ((x.name.length : Int) + 10)) : FewJ dl l k x 0 z2 := by
 refine ⟨fun y hy => by simp at hy, fun ha => ?_⟩; obtain ⟨b1, b2⟩ := h.bound hd ha; have e := h.2.2 ha; have e2 := hw (by omega) (by omega); refine ⟨?_, .inl rfl⟩; simp [sizeP]
 omega
theorem FewJ.step {dl : Nat} {l : List PTop} {k : Nat} {z0 z z2 : Int} {x : PTop} {j : Nat} (y : PartR) (hI : FewI20 dl l k z0) (h : FewJ dl l k x j z) (hj : j < x.l.length) (hy : x.l[j] = y) (hd : dl ≤ 140737488351232) (hn : x.name.length ≤ 140737488351232) (hb : y.l.length ≤ 1466015503701) (hs : SmP y) (hw : -9223372036854775808 ≤ z + (10 + 100 * (y.l.length : Int)) → z + (10 + 100 * (y.l.length : Int)) < 9223372036854775808 → z2 = z + (10 + 100 * (y.l.length : Int))) (h2 : z2 ≤ 2000) : FewJ dl l k x (j + 1) z2 := by
 have et : x.l.take (j + 1) = x.l.take j ++ [y] := by rw [List.take_succ_eq_append_getElem hj, hy]
 refine ⟨fun v hv => ?_, fun ha => ?_⟩
 · rw [et] at hv
   rcases List.mem_append.1 hv with hv | hv
   · exact h.1 v hv
   · rw [List.mem_singleton.1 hv]; exact hs
 · obtain ⟨e1, e2⟩ := h.2 ha; obtain ⟨b1, b2⟩ := hI.bound hd ha; have e3 := hI.2.2 ha
   have hz : 0 ≤ z ∧ z ≤ 300000000000000 := by
    rcases e2 with h0 | h0
    · subst h0; simp [sizeP] at e1
      omega
    · omega
   have e4 := hw (by omega) (by omega); refine ⟨?_, .inr h2⟩; rw [et, sizeP_append]; simp only [sizeP]
   omega
theorem FewI20.step {dl : Nat} {l : List PTop} {k : Nat} {z0 z : Int} (x : PTop) (hI : FewI20 dl l k z0) (h : FewJ dl l k x x.l.length z) (hk : k < l.length) (hx : l[k] = x) : FewI20 dl l (k + 1) z := by
 have et : l.take (k + 1) = l.take k ++ [x] := by rw [List.take_succ_eq_append_getElem hk, hx]
 have hs := h.1; rw [List.take_length] at hs
 have hall : AllP (l.take (k + 1)) → z = dl + sizeT (l.take (k + 1)) ∧ z ≤ 2000 := by
   intro ha; rw [et] at ha; have ha1 : AllP (l.take k) := fun v hv => ha v (List.mem_append_left _ hv)
   have ha2 : x.l.length ≠ 0 := ha x (List.mem_append_right _ (List.mem_singleton.2 rfl)); obtain ⟨e1, e2⟩ := h.2 ha1; rw [List.take_length] at e1; refine ⟨?_, by rcases e2 with h0 | h0; exact absurd h0 ha2; exact h0⟩; rw [et, sizeT_append]; simp only [sizeT]
   omega
 refine ⟨fun v hv => ?_, fun j hj ha => ?_, fun ha => (hall ha).1⟩
 · rw [et] at hv
   rcases List.mem_append.1 hv with hv | hv
   · exact hI.1 v hv
   · rw [List.mem_singleton.1 hv]; exact hs
 · by_cases hjk : j ≤ k
   · exact hI.2.1 j hjk ha
   · obtain rfl : j = k + 1 := by omega
     obtain ⟨e1, e2⟩ := hall ha
     right; omega
theorem FewI20.done {dl : Nat} {l : List PTop} {z : Int} (h : FewI20 dl l l.length z) (hz : ¬ 2000 < z) : FewR dl l 1 := by
 refine .inr ⟨rfl, by have := h.1; rwa [List.take_length] at this, h.2.1, fun h0 => ?_⟩; subst h0; have e := h.2.2 (by intro x hx; simp at hx); simp [sizeT] at e
 omega
structure FewPt (y : PartR) : Prop where
  len : y.l.length ≤ 1466015503701
  fit : ∀ z ∈ y.l, z.Fit
structure FewT20 (x : PTop) : Prop where
  name : x.name.length ≤ 140737488351232
  len : x.l.length ≤ 4398046511104
  parts : ∀ y ∈ x.l, FewPt y
theorem EqR.of {z : BatR} (hf : z.Fit) (hs : smallB (z.l.map (·.1)) = true) (hh : ∀ y ∈ z.l, y.1.hdrs.length ≤ 9223372036854775807) : EqR z := ⟨by have := smallB_len hs; omega, hf.2.2, hh⟩
set_option maxHeartbeats 8000000 in
set_option maxRecDepth 100000 in
theorem few20 (nl : Bool) (dd : Bs) (ac tm : Int) (l : List PTop) (q : Option Addr) (cap : Nat) (hdd : dd.length ≤ 140737488351232) (hll : l.length ≤ 3518437208780) (hf : ∀ x ∈ l, FewT20 x) {W0 w : World} {K : Know} {L : List Res} (hk : K.has (Know.ptops (.slice q l.length cap) l)) (h : St W0 w K L) :
  Calls Tryz.prog 7 #[.agg #[.bool nl, .string (bb dd), .int .i64 ac, .int .i64 tm, .slice q l.length cap]] w fun en w' => ∃ r : Int, en = .returned (.int .i64 r) ∧ FewR dd.length l r ∧ St W0 w' K L := by
 obtain ⟨rq, hrq⟩ : ∃ b, w.heap.size = b := ⟨_, rfl⟩; have h0 := h.allocRaw #[.bool nl, .string (bb dd), .int .i64 ac, .int .i64 tm, .slice q l.length cap] 26; rw [hrq] at h0; have z1 := h0.rawCell 1; have z4 := h0.rawCell 4; simp at z1 z4; have H := Lib.hid h0; have HKT := Lib.hid hk; have HF := Lib.hid hf; have HDD := Lib.hid hdd; have hni : (l.length : Int) ≤ 3518437208780 := by omega
 clear h h0 hk hf hdd hll; go_enter Tryz.func7, Tryz.ntmps7; go_wp2; clear z1 z4; go_loopw [3, 17] (fun nv iv wr => ∃ (k : Nat) (z : Int), k ≤ l.length ∧ iv = .int .i64 k ∧ nv = .int .i64 z ∧ Hid (FewI20 dd.length l k z) ∧ St W0 wr K (.raw rq #[.bool nl, .string (bb dd), .int .i64 ac, .int .i64 tm, .slice q l.length cap] 26 :: L)) (fun _ iv _ => l.length - (intOf iv).toNat)
 case atStart => exact ⟨0, dd.length, Nat.zero_le _, rfl, rfl, Lib.hid (FewI20.zero _ _), H.out⟩
 case round =>
  obtain ⟨k, z, hkl, rfl, rfl, HI, hst⟩ := hrel; clear H; have H := Lib.hid hst; clear hst
  by_cases hlt : k < l.length
  · obtain ⟨bk, off, hqq⟩ := ptops_at HKT.out H.out (by omega); obtain ⟨x, hx⟩ : ∃ x, l[k] = x := ⟨_, rfl⟩; have hmem : x ∈ l := hx ▸ List.getElem_mem hlt; have hfx := HF.out x hmem; have HK' := HKT.out; rw [hqq] at HK'; obtain ⟨c0, c1⟩ := ptops_cell HK' H.out k hlt x hx; have HXK0 := ptops_parts HKT.out hmem; have hkn : (k : Int) < (l.length : Int) := by omega
    have HX := Lib.hid hx; obtain ⟨nm, xl, xq, xcap⟩ := x; simp only at c0 c1 HXK0; have HXK := Lib.hid HXK0; have HPF := Lib.hid (show ∀ y ∈ xl, FewPt y from hfx.parts); have HNM := Lib.hid (show nm.length ≤ 140737488351232 from hfx.name); have hnmi : (nm.length : Int) ≤ 140737488351232 := by have := HNM.out; omega
    have hxl : xl.length ≤ 4398046511104 := hfx.len; have hxi : (xl.length : Int) ≤ 4398046511104 := by omega
    have HS := Lib.hid (H.out.alloc (.cells #[.string (bb nm), .slice xq xl.length xcap] 65 (0, 0))); subst hqq; clear hx hmem hfx HK' HXK0 hxl; go_wp2_with fail; go_loopw [3, 30] (fun nv jv wr => ∃ (j : Nat) (z2 : Int), j ≤ xl.length ∧ jv = .int .i64 j ∧ nv = .int .i64 z2 ∧ Hid (FewJ dd.length l k ⟨nm, xl, xq, xcap⟩ j z2) ∧ St W0 wr K (.raw rq #[.bool nl, .string (bb dd), .int .i64 ac, .int .i64 tm, .slice (some ⟨bk, off, none⟩) l.length cap] 26 :: L)) (fun _ jv _ => xl.length - (intOf jv).toNat)
    case atStart => exact ⟨0, _, Nat.zero_le _, rfl, rfl, Lib.hid (FewJ.zero _ HI.out HDD.out HNM.out (fun g1 g2 => wrap64_in _ g1 g2)), HS.out⟩
    case round =>
      obtain ⟨j, z2, hjl, rfl, rfl, HJ, hst⟩ := hrel; clear H HS c0 c1; have H := Lib.hid hst; clear hst
      by_cases hjt : j < xl.length
      · obtain ⟨pk, poff, hpq⟩ := pparts_at HXK.out H.out (by omega); subst hpq; obtain ⟨y, hy⟩ : ∃ y, xl[j] = y := ⟨_, rfl⟩; have hmem : y ∈ xl := hy ▸ List.getElem_mem hjt; have hfy := HPF.out y hmem; obtain ⟨d0, d1⟩ := pparts_cell HXK.out H.out j hjt y hy; have HYK0 := pparts_bats HXK.out hmem; have hjn : (j : Int) < (xl.length : Int) := by omega
        have HY := Lib.hid hy; obtain ⟨yi, yl, yq, ycap⟩ := y; simp only at d0 d1 HYK0; have HYK := Lib.hid HYK0; have HYF := Lib.hid (show ∀ z ∈ yl, z.Fit from hfy.fit); have HYN := Lib.hid (show yl.length ≤ 1466015503701 from hfy.len); have hyi : (yl.length : Int) ≤ 1466015503701 := by have := HYN.out; omega
        have HS := Lib.hid (H.out.alloc (.cells #[.int .i64 yi, .slice yq yl.length ycap] 68 (0, 0))); clear hy hmem hfy HYK0
        by_cases hbig : 2000 < wrap64 (z2 + (10 + 100 * (yl.length : Int)))
        · go_wp2; go_ret; exact ⟨0, rfl, .inl rfl, HS.out.drop⟩
        go_wp2_with fail; go_loopw [46] (fun mv wr => ∃ (m : Nat), m ≤ yl.length ∧ mv = .int .i64 m ∧ Hid (∀ z ∈ yl.take m, smallB (z.l.map (·.1)) = true) ∧ St W0 wr K (.raw rq #[.bool nl, .string (bb dd), .int .i64 ac, .int .i64 tm, .slice (some ⟨bk, off, none⟩) l.length cap] 26 :: L)) (fun mv _ => yl.length - (intOf mv).toNat)
        case atStart => exact ⟨0, Nat.zero_le _, rfl, Lib.hid (fun z hz => by simp at hz), HS.out⟩
        case round =>
          obtain ⟨m, hml, rfl, HM, hst⟩ := hrel; clear H HS d0 d1; have H := Lib.hid hst; clear hst
          by_cases hmt : m < yl.length
          · obtain ⟨tk, toff, htq⟩ := bats_at HYK.out H.out (by omega); subst htq; obtain ⟨u, hu⟩ : ∃ u, yl[m] = u := ⟨_, rfl⟩; have hmem : u ∈ yl := hu ▸ List.getElem_mem hmt; have hfu := HYF.out u hmem; have hcell0 := bats_cell HYK.out H.out m hmt u hu; have HZK0 := bats_recs HYK.out hmem; have hmn : (m : Int) < (yl.length : Int) := by omega
            have HU := Lib.hid hu; obtain ⟨⟨base, leader, app, txn, ctl, last, first, maxt, prod, epoch, sq, rcs⟩, zl, zq, zcap⟩ := u; have HFW := Lib.hid (show FitW zl from hfu.2.1); have HZK := Lib.hid (show K.has (Know.recs (.slice zq zl.length zcap) zl) from HZK0); obtain ⟨c0, c1, c2, c3, c4, c5, c6, c7, c8, c9, c10, c11⟩ := hcell0; simp only at c0 c1 c2 c3 c4 c5 c6 c7 c8 c9 c10 c11; have HS := Lib.hid (H.out.alloc (.cells #[.int .i64 base, .int .i64 leader, .bool app, .bool txn, .bool ctl, .int .i64 last, .int .i64 first, .int .i64 maxt, .int .i64 prod, .int .i64 epoch, .int .i64 sq, .slice zq zl.length zcap] 58 (0, 0)))
            cases hs : smallB (zl.map (·.1)) with
            | false =>
             have HSM := Lib.hid hs; clear hs hu hmem hfu HZK0; go_wp2_with (go_at_call 29; (try clear u0 u1 u2 u3 u4 u5 u6 u7 u8 u9 u10 u11); (with_reducible refine (l11_small _ _ _ _ _ _ _ _ _ _ _ zl _ _ false HSM.out HFW.out HZK.out HS.out).mono ?_); rintro e_ wn ⟨rfl, h⟩; clear HS; replace H := Lib.hid h; clear h); go_ret; exact ⟨0, rfl, .inl rfl, H.out.drop⟩
            | true =>
             have HSM := Lib.hid hs; clear hs hu hmem hfu HZK0; go_wp2_with (go_at_call 29; (try clear u0 u1 u2 u3 u4 u5 u6 u7 u8 u9 u10 u11); (with_reducible refine (l11_small _ _ _ _ _ _ _ _ _ _ _ zl _ _ true HSM.out HFW.out HZK.out HS.out).mono ?_); rintro e_ wn ⟨rfl, h⟩; clear HS; replace H := Lib.hid h; clear h); go_roundw
             case rel => exact ⟨m + 1, hmt, by go_num, Lib.hid (fun v hv => by
              rw [List.take_succ_eq_append_getElem hmt, HU.out] at hv
              rcases List.mem_append.1 hv with hv | hv
              · exact HM.out v hv
              · rw [List.mem_singleton.1 hv]; exact HSM.out), H.out⟩
             case measure => first | (simp [intOf]; done) | (simp [intOf]; omega)
          · obtain rfl : m = yl.length := by omega
            have HM2 := HM.out; rw [List.take_length] at HM2; have HM3 := Lib.hid HM2; clear HM2; go_wp2; go_roundw
            case rel => exact ⟨j + 1, _, hjt, by go_num, rfl, Lib.hid (FewJ.step ⟨yi, yl, yq, ycap⟩ HI.out HJ.out hjt HY.out HDD.out HNM.out HYN.out HM3.out (fun g1 g2 => wrap64_in _ g1 g2) (by omega)), H.out⟩
            case measure => first | (simp [intOf]; done) | (simp [intOf]; omega)
      · obtain rfl : j = xl.length := by omega
        go_wp2; go_roundw
        case rel => exact ⟨k + 1, z2, hlt, by go_num, rfl, Lib.hid (FewI20.step _ HI.out HJ.out hlt HX.out), H.out⟩
        case measure => first | (simp [intOf]; done) | (simp [intOf]; omega)
  · obtain rfl : k = l.length := by omega
    by_cases hz : 2000 < z
    · go_wp2; go_ret; exact ⟨0, rfl, .inl rfl, H.out.drop⟩
    · go_wp2; go_ret; exact ⟨1, rfl, FewI20.done HI.out (by omega), H.out.drop⟩
def PartR.pb (x : PartR) : Int × List BatS := (x.idx, x.l.map BatR.b)
theorem St.freezeParts {W0 w : World} {K : Know} {L : List Res} {v : Value} {T : TypeId} {l : List PartR} (h : St W0 w K (.row v T 2 l.length (l.flatMap pcells) :: L)) (ht : ∀ x ∈ l, K.has (Know.bats (.slice x.q x.l.length x.cap) x.l)) : St W0 w (K.and (Know.pparts v l)) L := by
 have hf := h.freezeRow (R := RPart) (fun x _ => ⟨rfl, rfl⟩); exact hf.know (K' := K.and (Know.pparts v l)) (fun w F hh => ⟨hh.1, hh.2, fun x hx => ht x hx _ _ hh.1⟩)
def PTop.pt (x : PTop) : Bs × List (Int × List BatS) := (x.name, x.l.map PartR.pb)
theorem St.freezeTopsP {W0 w : World} {K : Know} {L : List Res} {v : Value} {T : TypeId} {l : List PTop} (h : St W0 w K (.row v T 2 l.length (l.flatMap ptcells) :: L)) (ht : ∀ x ∈ l, K.has (Know.pparts (.slice x.q x.l.length x.cap) x.l)) : St W0 w (K.and (Know.ptops v l)) L := by
 have hf := h.freezeRow (R := RPTop) (fun x _ => ⟨rfl, rfl⟩); exact hf.know (K' := K.and (Know.ptops v l)) (fun w F hh => ⟨hh.1, hh.2, fun x hx => ht x hx _ _ hh.1⟩)
theorem St.sets5P {W0 w : World} {K : Know} {L : List Res} {b : Nat} {T : TypeId} {a0 a1 a2 a3 a4 : Value} (v0 v1 v2 v3 v4 : Value) (h : St W0 w K (.raw b #[a0, a1, a2, a3, a4] T :: L)) : St W0 (((((w.setCell ⟨b, 0, none⟩ v0).setCell ⟨b, 1, none⟩ v1).setCell ⟨b, 2, none⟩ v2).setCell ⟨b, 3, none⟩ v3).setCell ⟨b, 4, none⟩ v4) K (.raw b #[v0, v1, v2, v3, v4] T :: L) := by
 have h : St W0 _ K (.raw b #[v0, a1, a2, a3, a4] T :: L) := h.rawSet 0 v0; have h : St W0 _ K (.raw b #[v0, v1, a2, a3, a4] T :: L) := h.rawSet 1 v1; have h : St W0 _ K (.raw b #[v0, v1, v2, a3, a4] T :: L) := h.rawSet 2 v2; have h : St W0 _ K (.raw b #[v0, v1, v2, v3, a4] T :: L) := h.rawSet 3 v3; have h : St W0 _ K (.raw b #[v0, v1, v2, v3, v4] T :: L) := h.rawSet 4 v4; exact h
theorem St.freezeTopsK {W0 w : World} {K : Know} {L : List Res} {v : Value} {T : TypeId} {l : List PTop} {k : Nat} {xs : List Value} (h : St W0 w K (.row v T 2 k xs :: L)) (hk : k = l.length) (hx : xs = l.flatMap ptcells) (ht : ∀ x ∈ l, K.has (Know.pparts (.slice x.q x.l.length x.cap) x.l)) : St W0 w (K.and (Know.ptops v l)) L := by
 subst hk; subst hx; exact h.freezeTopsP ht
def PTop.nl (x : PTop) : Bs × List PartR := (x.name, x.l)
theorem nl_pt {l m : List PTop} (h : l.map PTop.nl = m.map PTop.nl) : l.map PTop.pt = m.map PTop.pt := by
 have e : PTop.pt = (fun p : Bs × List PartR => (p.1, p.2.map PartR.pb)) ∘ PTop.nl := rfl; rw [e, ← List.map_map, h, List.map_map]
theorem nl_len {l m : List PTop} (h : l.map PTop.nl = m.map PTop.nl) : l.length = m.length := by have := congrArg List.length h; simpa using this
theorem nl_mem {l m : List PTop} (h : l.map PTop.nl = m.map PTop.nl) {x : PTop} (hx : x ∈ l) : ∃ y ∈ m, y.name = x.name ∧ y.l = x.l := by
 have h1 : x.nl ∈ m.map PTop.nl := h ▸ List.mem_map_of_mem hx; obtain ⟨y, hy, e⟩ := List.mem_map.1 h1; exact ⟨y, hy, congrArg Prod.fst e, congrArg Prod.snd e⟩
theorem elem_r20p : ElemT Tryz.prog 85 (.agg #[.int .i64 0, .slice none 0 0]) 2 32 := elemT_of (by kernel_rfl) rfl (by decide)
theorem elem_r20t : ElemT Tryz.prog 83 (.agg #[.string ⟨#[]⟩, .slice none 0 0]) 2 40 := elemT_of (by kernel_rfl) rfl (by decide)
theorem take_flat {α : Type} (f : α → List Value) (l : List α) (k : Nat) (h : k < l.length) (x : α) (hx : l[k] = x) : (l.take (k + 1)).flatMap f = (l.take k).flatMap f ++ f x := by
 rw [List.take_succ_eq_append_getElem h, hx, List.flatMap_append]
 simp
set_option maxHeartbeats 8000000 in
set_option maxRecDepth 100000 in
theorem of20 (nl : Bool) (dd : Bs) (ac tm : Int) (l : List PTop) (q : Option Addr) (cap : Nat) (hll : l.length ≤ 3518437208780) (hf : ∀ x ∈ l, x.l.length ≤ 4398046511104) {W0 w : World} {K : Know} {L : List Res} (hk : K.has (Know.ptops (.slice q l.length cap) l)) (h : St W0 w K L) :
  Calls Tryz.prog 11 #[.agg #[.bool nl, .string (bb dd), .int .i64 ac, .int .i64 tm, .slice q l.length cap]] w fun en w' => ∃ (q2 : Option Addr) (cap2 : Nat) (l2 : List PTop) (K2 : Know), en = .returned (.agg #[.bool nl, .string (bb dd), .int .i64 ac, .int .i64 tm, .slice q2 l2.length cap2]) ∧ l2.map PTop.nl = l.map PTop.nl ∧ K2.has K ∧ K2.has (Know.ptops (.slice q2 l2.length cap2) l2) ∧ St W0 w' K2 L := by
 obtain ⟨rq, hrq⟩ : ∃ b, w.heap.size = b := ⟨_, rfl⟩; obtain ⟨rb, hrb⟩ : ∃ b, rq + 1 = b := ⟨_, rfl⟩; obtain ⟨xb, hxb⟩ : ∃ b, rb + 1 = b := ⟨_, rfl⟩; have h0 := ((h.allocRaw #[.bool nl, .string (bb dd), .int .i64 ac, .int .i64 tm, .slice q l.length cap] 26).allocRaw #[.bool false, .string ⟨#[]⟩, .int .i64 0, .int .i64 0, .slice none 0 0] 40).allocRaw #[.bool nl, .string (bb dd), .int .i64 ac, .int .i64 tm, .slice none 0 0] 40; simp only [World.size_alloc, hrq, hrb, hxb] at h0; have a0 := h0.p2.rawCell 0; have a1 := h0.p2.rawCell 1; have a2 := h0.p2.rawCell 2; have a3 := h0.p2.rawCell 3; have a4 := h0.p2.rawCell 4; simp at a0 a1 a2 a3 a4; have g0 := ((h.allocRaw #[.bool nl, .string (bb dd), .int .i64 ac, .int .i64 tm, .slice q l.length cap] 26).allocRaw #[.bool false, .string ⟨#[]⟩, .int .i64 0, .int .i64 0, .slice none 0 0] 40); simp only [World.size_alloc, hrq, hrb] at g0; have b0 := g0.p1.rawCell 0; have b1 := g0.p1.rawCell 1; have b2 := g0.p1.rawCell 2; have b3 := g0.p1.rawCell 3; simp at b0 b1 b2 b3; have H := Lib.hid h0; have HKT := Lib.hid hk; have HF := Lib.hid hf; have HLN := Lib.hid hll; have hni : (l.length : Int) ≤ 3518437208780 := by omega
 clear h h0 g0 hk hf hll; go_enter Tryz.func11, Tryz.ntmps11; go_wp2; clear a0 a1 a2 a3 a4 b0 b1 b2 b3; go_loopw [19] (fun iv wr => ∃ (k : Nat) (v : Value) (acc : List PTop) (K2 : Know), k ≤ l.length ∧ iv = .int .i64 k ∧ Hid (k = acc.length) ∧ Hid (acc.map PTop.nl = (l.take k).map PTop.nl) ∧ Hid (K2.has K) ∧ Hid (∀ x ∈ acc, K2.has (Know.pparts (.slice x.q x.l.length x.cap) x.l)) ∧ St W0 wr K2 (.row v 83 2 k (acc.flatMap ptcells) :: .raw xb #[.bool nl, .string (bb dd), .int .i64 ac, .int .i64 tm, v] 40 :: .raw rb #[.bool false, .string ⟨#[]⟩, .int .i64 0, .int .i64 0, .slice none 0 0] 40 :: .raw rq #[.bool nl, .string (bb dd), .int .i64 ac, .int .i64 tm, .slice q l.length cap] 26 :: L)) (fun iv _ => l.length - (intOf iv).toNat)
 case atStart =>
  refine ⟨0, .slice none 0 0, [], K, Nat.zero_le _, rfl, Lib.hid rfl, Lib.hid (by simp), Lib.hid (Know.has_refl _), Lib.hid (fun x hx => by cases hx), ?_⟩; exact (H.out.nilRow 83 2)
 case round =>
  obtain ⟨k, v, acc, K2, hkl, rfl, HAL, HNL, HKK, HALL, hst⟩ := hrel; clear H; have H := Lib.hid hst; clear hst
  by_cases hlt : k < l.length
  · obtain ⟨bk, off, hqq⟩ := ptops_at (Know.has_trans HKK.out HKT.out) H.out (by omega); obtain ⟨x, hx⟩ : ∃ x, l[k] = x := ⟨_, rfl⟩; have hmem : x ∈ l := hx ▸ List.getElem_mem hlt; have hfx := HF.out x hmem; have HK' := (Know.has_trans HKK.out HKT.out); rw [hqq] at HK'; obtain ⟨c0, c1⟩ := ptops_cell HK' H.out k hlt x hx; have HXK0 := ptops_parts (Know.has_trans HKK.out HKT.out) hmem; have hkn : (k : Int) < (l.length : Int) := by omega
    have HX := Lib.hid hx; have HKN := Lib.hid (show k ≤ 3518437208780 by have := HLN.out; omega); obtain ⟨nm, xl, xq, xcap⟩ := x; simp only at c0 c1 HXK0; have HXK := Lib.hid HXK0; have hxl : xl.length ≤ 4398046511104 := hfx; have HXN := Lib.hid hxl; have hxi : (xl.length : Int) ≤ 4398046511104 := by omega
    subst hqq; obtain ⟨nb, hnb⟩ : ∃ b, wr.heap.size = b := ⟨_, rfl⟩; obtain ⟨tb, htb⟩ : ∃ b, nb + 1 = b := ⟨_, rfl⟩; have h := (H.out.allocRaw #[.string (bb nm), .slice xq xl.length xcap] 65).allocRaw #[.string (bb nm), .slice none 0 0] 83; simp only [World.size_alloc, hnb, htb] at h; have h1 := H.out.allocRaw #[.string (bb nm), .slice xq xl.length xcap] 65; simp only [World.size_alloc, hnb, htb] at h1; have e0 := h1.rawCell 0; have e1 := h.p1.rawCell 1; simp at e0 e1; clear H; have H := Lib.hid h; clear h h1; clear hx hmem hfx HK' HXK0 hxl; go_wp2_with fail; clear e0 e1 c0 c1; go_loopw [29] (fun jv wr => ∃ (j : Nat) (v2 : Value), j ≤ xl.length ∧ jv = .int .i64 j ∧ St W0 wr K2 (.row v2 85 2 j ((xl.take j).flatMap pcells) :: .raw tb #[.string (bb nm), v2] 83 :: .row v 83 2 k (acc.flatMap ptcells) :: .raw xb #[.bool nl, .string (bb dd), .int .i64 ac, .int .i64 tm, v] 40 :: .raw rb #[.bool false, .string ⟨#[]⟩, .int .i64 0, .int .i64 0, .slice none 0 0] 40 :: .raw rq #[.bool nl, .string (bb dd), .int .i64 ac, .int .i64 tm, .slice (some ⟨bk, off, none⟩) l.length cap] 26 :: L)) (fun jv _ => xl.length - (intOf jv).toNat)
    case atStart => exact ⟨0, .slice none 0 0, Nat.zero_le _, rfl, (H.out.p1.drop.nilRow 85 2)⟩
    case round =>
     obtain ⟨j, v2, hjl, rfl, hst⟩ := hrel; clear H; have H := Lib.hid hst; clear hst; obtain ⟨qj, cj, hvj⟩ := H.out.rowAny; subst hvj
     by_cases hjt : j < xl.length
     · obtain ⟨pk, poff, hpq⟩ := pparts_at HXK.out H.out (by omega); subst hpq; obtain ⟨y, hy⟩ : ∃ y, xl[j] = y := ⟨_, rfl⟩; obtain ⟨d0, d1⟩ := pparts_cell HXK.out H.out j hjt y hy; have hjn : (j : Int) < (xl.length : Int) := by omega
       have HY := Lib.hid hy; have HJN := Lib.hid (show j ≤ 4398046511104 by have := HXN.out; omega); obtain ⟨yi, yl, yq, ycap⟩ := y; simp only at d0 d1; have h := H.out.allocRaw #[.int .i64 yi, .slice yq yl.length ycap] 68; obtain ⟨ub, hub⟩ : ∃ b, wr.heap.size = b := ⟨_, rfl⟩; rw [hub] at h; have f0 := h.rawCell 0; have f1 := h.rawCell 1; have f2 := h.p2.rawCell 1; simp at f0 f1 f2; clear H; have H := Lib.hid h; clear h hy; go_wp2_with (at_builtin; refine wpl_app1_st rfl _ _ 81 rfl 85 Tryz.underlying81 elem_r20p _ _ _ rfl H.out.p1 [.int .i64 yi, .slice yq yl.length ycap] 85 (by first | rfl | (rw [World.size_alloc]; rfl) | (rw [World.size_alloc, hub]; rfl)) rfl (by simp [Value.oneCell']) (by have := HJN.out; unfold maxLen; omega) (by have := HJN.out; omega) ?_; intro v' w' h; obtain ⟨qv, cv, hv⟩ := h.rowAny; subst hv; have q1 := h.p2.rawFree 1; have q2 := h.p2.rawCell 1; simp at q2; replace H := Lib.hid h; clear h); go_roundw
       case rel =>
        refine ⟨j + 1, .slice qv (j + 1) cv, hjt, by go_num, ?_⟩; rw [take_flat pcells xl j hjt _ HY.out]; exact ((H.out.p2.rawSet 1 (.slice qv (j + 1) cv)).p1.p2.drop)
       case measure => first | (simp [intOf]; done) | (simp [intOf]; omega)
     · obtain rfl : j = xl.length := by omega
       have hr := H.out; rw [List.take_length] at hr; have hf2 := hr.freezeParts (fun x hx => pparts_bats HXK.out hx); obtain ⟨qa, ca, hva⟩ := hf2.p1.rowAny; subst hva; have HK3 := Lib.hid (show (K2.and (Know.pparts (.slice qj xl.length cj) xl)).has (Know.pparts (.slice qj xl.length cj) xl) from Know.has_right (Know.has_refl _)); have e0 := hf2.rawCell 0; have e1 := hf2.rawCell 1; have e4 := hf2.p2.rawCell 4; simp at e0 e1 e4; have hz := hf2.p1; clear H; have H := Lib.hid hz; clear hr hf2 hz; go_wp2_with (at_builtin; refine wpl_app1_st rfl _ _ 38 rfl 83 Tryz.underlying38 elem_r20t _ _ _ rfl H.out [.string (bb nm), .slice qj xl.length cj] 83 (by first | rfl | (rw [World.size_alloc]; rfl) | (rw [World.size_alloc, hub]; rfl)) rfl (by simp [Value.oneCell']) (by have := HKN.out; unfold maxLen; omega) (by have := HKN.out; omega) ?_; intro v' w' h; obtain ⟨qv, cv, hv⟩ := h.rowAny; subst hv; have q1 := h.p2.rawFree 4; have q2 := h.p2.rawCell 4; simp at q2; replace H := Lib.hid h; clear h); go_roundw
       case rel =>
        refine ⟨k + 1, .slice qv (k + 1) cv, acc ++ [⟨nm, xl, qj, cj⟩], K2.and (Know.pparts (.slice qj xl.length cj) xl), hlt, by go_num, Lib.hid (by rw [List.length_append, ← HAL.out]; rfl), Lib.hid (by rw [List.take_succ_eq_append_getElem hlt, List.map_append, List.map_append, HNL.out, HX.out]; rfl), Lib.hid (Know.has_trans (Know.has_left (Know.has_refl _)) HKK.out), Lib.hid (fun x hx => by
         rcases List.mem_append.1 hx with hx | hx
         · exact Know.has_left (HALL.out x hx)
         · rw [List.mem_singleton.1 hx]; exact HK3.out), ?_⟩
        rw [List.flatMap_append]; exact ((H.out.p2.rawSet 4 (.slice qv (k + 1) cv)).p2.drop).p1
       case measure => first | (simp [intOf]; done) | (simp [intOf]; omega)
  · obtain rfl : k = l.length := by omega
    obtain ⟨qv0, cv0, hv0⟩ := H.out.rowAny; subst hv0; have y0 := H.out.p1.rawCell 0; have y1 := H.out.p1.rawCell 1; have y2 := H.out.p1.rawCell 2; have y3 := H.out.p1.rawCell 3; have y4 := H.out.p1.rawCell 4; have w0 := H.out.p2.rawFree 0; have w1 := H.out.p2.rawFree 1; have w2 := H.out.p2.rawFree 2; have w3 := H.out.p2.rawFree 3; have w4 := H.out.p2.rawFree 4; have v0 := H.out.p2.rawCell 0; have v1 := H.out.p2.rawCell 1; have v2 := H.out.p2.rawCell 2; have v3 := H.out.p2.rawCell 3; have v4 := H.out.p2.rawCell 4; simp at y0 y1 y2 y3 y4 v0 v1 v2 v3 v4; go_wp2; have hz : St W0 _ _ (.raw rb #[.bool nl, .string (bb dd), .int .i64 ac, .int .i64 tm, .slice qv0 l.length cv0] 40 :: _) := St.sets5P _ _ _ _ _ H.out.p2; refine bodyPost_ret (rc_cell_onlyP rfl _ _ rb [.bool nl, .string (bb dd), .int .i64 ac, .int .i64 tm, .slice qv0 l.length cv0] _ rfl (rc_rangeP hz) Tryz.underlying40 rfl (by kernel_rfl)) rfl ?_; have hr := hz.drop; have hn := HAL.out; have hf := hr.freezeTopsK hn rfl (fun x hx => HALL.out x hx); rw [hn] at hf ⊢; exact ⟨qv0, cv0, acc, _, rfl, by rw [HNL.out, List.take_length], Know.has_trans (Know.has_left (Know.has_refl _)) HKK.out, Know.has_right (Know.has_refl _), hf.drop.drop⟩

end Go.Proofs.YtnnnglklgofabaaGreat
