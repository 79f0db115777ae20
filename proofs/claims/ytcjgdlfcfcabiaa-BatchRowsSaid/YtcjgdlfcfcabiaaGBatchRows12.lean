/- Are two batches one: those that are: the document. -/
import Derived.Test.YtcjgdlfcfcabiaaGBatchRows11
import Derived.Test.YtcjgdlfcfcabiaaGBatchRows3
import Derived.Test.YtcjgdlfcfcabiaaGBatchRows5
import Derived.Deep.RegionHeld3
import Derived.Deep.DeepCutAuto
import Derived.Test.YtcjgdlfcfcabiaaRec5
/- Batches that differ. -/
namespace Go.Proofs.Ytcjgdlfcfcabiaa
open Go.RowKit

set_option maxHeartbeats 4000000 in
set_option maxRecDepth 100000 in
theorem ref11_ne8 (base1 : Int) (leader1 : Int) (app1 : Bool) (txn1 : Bool) (ctl1 : Bool) (last1 : Int) (first1 : Int) (maxt1 : Int) (prod1 prod2 : Int) (epoch1 epoch2 : Int) (seq1 seq2 : Int) (l1 l2 : List (RecS × Value)) (q1 q2 : Option Addr) (cap1 cap2 : Nat) (hne : prod1 ≠ prod2) {W0 w : World} {K : Know} {L : List Res} (h : St W0 w K L) :
    Calls Try.prog 36 #[.agg #[.int .i64 base1, .int .i64 leader1, .bool app1, .bool txn1, .bool ctl1, .int .i64 last1, .int .i64 first1, .int .i64 maxt1, .int .i64 prod1, .int .i64 epoch1, .int .i64 seq1, .slice q1 l1.length cap1], .agg #[.int .i64 base1, .int .i64 leader1, .bool app1, .bool txn1, .bool ctl1, .int .i64 last1, .int .i64 first1, .int .i64 maxt1, .int .i64 prod2, .int .i64 epoch2, .int .i64 seq2, .slice q2 l2.length cap2]] w fun en w' => en = .returned (.bool false) ∧ St W0 w' K L := by
  obtain ⟨hb, hhb⟩ : ∃ b, w.heap.size = b := ⟨_, rfl⟩
  have h1 := (h.allocRaw #[.int .i64 base1, .int .i64 leader1, .bool app1, .bool txn1, .bool ctl1, .int .i64 last1, .int .i64 first1, .int .i64 maxt1, .int .i64 prod1, .int .i64 epoch1, .int .i64 seq1, .slice q1 l1.length cap1] 32).allocRaw #[.int .i64 base1, .int .i64 leader1, .bool app1, .bool txn1, .bool ctl1, .int .i64 last1, .int .i64 first1, .int .i64 maxt1, .int .i64 prod2, .int .i64 epoch2, .int .i64 seq2, .slice q2 l2.length cap2] 32
  rw [World.size_alloc, hhb] at h1
  obtain ⟨hc, hhc⟩ : ∃ b, hb + 1 = b := ⟨_, rfl⟩
  rw [hhc] at h1
  obtain ⟨b0, b1, b2, b3, b4, b5, b6, b7, b8, b9, b10, b11, fb0, fb1, fb2, fb3, fb4, fb5, fb6, fb7, fb8, fb9, fb10, fb11⟩ := raw12 (b := hc) h1
  obtain ⟨a0, a1, a2, a3, a4, a5, a6, a7, a8, a9, a10, a11, fa0, fa1, fa2, fa3, fa4, fa5, fa6, fa7, fa8, fa9, fa10, fa11⟩ := raw12 (b := hb) h1.p1
  have H := Lib.hid h1
  have g1 : (prod1 == prod2) = false := by simpa using hne
  have g2 : (prod1 != prod2) = true := by simp [bne, g1]
  clear h h1 hne fa0 fb0 fa1 fb1 fa2 fb2 fa3 fb3 fa4 fb4 fa5 fb5 fa6 fb6 fa7 fb7 fa8 fb8 fa9 fb9 fa10 fb10 fa11 fb11
  go_enter Try.func36, Try.ntmps36
  go_wp2
  go_ret
  exact ⟨rfl, H.out.drop.drop⟩

end Go.Proofs.Ytcjgdlfcfcabiaa

/- Batches that differ. -/
namespace Go.Proofs.Ytcjgdlfcfcabiaa
open Go.RowKit

set_option maxHeartbeats 4000000 in
set_option maxRecDepth 100000 in
theorem ref11_ne9 (base1 : Int) (leader1 : Int) (app1 : Bool) (txn1 : Bool) (ctl1 : Bool) (last1 : Int) (first1 : Int) (maxt1 : Int) (prod1 : Int) (epoch1 epoch2 : Int) (seq1 seq2 : Int) (l1 l2 : List (RecS × Value)) (q1 q2 : Option Addr) (cap1 cap2 : Nat) (hne : epoch1 ≠ epoch2) {W0 w : World} {K : Know} {L : List Res} (h : St W0 w K L) :
    Calls Try.prog 36 #[.agg #[.int .i64 base1, .int .i64 leader1, .bool app1, .bool txn1, .bool ctl1, .int .i64 last1, .int .i64 first1, .int .i64 maxt1, .int .i64 prod1, .int .i64 epoch1, .int .i64 seq1, .slice q1 l1.length cap1], .agg #[.int .i64 base1, .int .i64 leader1, .bool app1, .bool txn1, .bool ctl1, .int .i64 last1, .int .i64 first1, .int .i64 maxt1, .int .i64 prod1, .int .i64 epoch2, .int .i64 seq2, .slice q2 l2.length cap2]] w fun en w' => en = .returned (.bool false) ∧ St W0 w' K L := by
  obtain ⟨hb, hhb⟩ : ∃ b, w.heap.size = b := ⟨_, rfl⟩
  have h1 := (h.allocRaw #[.int .i64 base1, .int .i64 leader1, .bool app1, .bool txn1, .bool ctl1, .int .i64 last1, .int .i64 first1, .int .i64 maxt1, .int .i64 prod1, .int .i64 epoch1, .int .i64 seq1, .slice q1 l1.length cap1] 32).allocRaw #[.int .i64 base1, .int .i64 leader1, .bool app1, .bool txn1, .bool ctl1, .int .i64 last1, .int .i64 first1, .int .i64 maxt1, .int .i64 prod1, .int .i64 epoch2, .int .i64 seq2, .slice q2 l2.length cap2] 32
  rw [World.size_alloc, hhb] at h1
  obtain ⟨hc, hhc⟩ : ∃ b, hb + 1 = b := ⟨_, rfl⟩
  rw [hhc] at h1
  obtain ⟨b0, b1, b2, b3, b4, b5, b6, b7, b8, b9, b10, b11, fb0, fb1, fb2, fb3, fb4, fb5, fb6, fb7, fb8, fb9, fb10, fb11⟩ := raw12 (b := hc) h1
  obtain ⟨a0, a1, a2, a3, a4, a5, a6, a7, a8, a9, a10, a11, fa0, fa1, fa2, fa3, fa4, fa5, fa6, fa7, fa8, fa9, fa10, fa11⟩ := raw12 (b := hb) h1.p1
  have H := Lib.hid h1
  have g1 : (epoch1 == epoch2) = false := by simpa using hne
  have g2 : (epoch1 != epoch2) = true := by simp [bne, g1]
  clear h h1 hne fa0 fb0 fa1 fb1 fa2 fb2 fa3 fb3 fa4 fb4 fa5 fb5 fa6 fb6 fa7 fb7 fa8 fb8 fa9 fb9 fa10 fb10 fa11 fb11
  go_enter Try.func36, Try.ntmps36
  go_wp2
  go_ret
  exact ⟨rfl, H.out.drop.drop⟩

end Go.Proofs.Ytcjgdlfcfcabiaa

/- Batches that differ. -/
namespace Go.Proofs.Ytcjgdlfcfcabiaa
open Go.RowKit

set_option maxHeartbeats 4000000 in
set_option maxRecDepth 100000 in
theorem ref11_ne10 (base1 : Int) (leader1 : Int) (app1 : Bool) (txn1 : Bool) (ctl1 : Bool) (last1 : Int) (first1 : Int) (maxt1 : Int) (prod1 : Int) (epoch1 : Int) (seq1 seq2 : Int) (l1 l2 : List (RecS × Value)) (q1 q2 : Option Addr) (cap1 cap2 : Nat) (hne : seq1 ≠ seq2) {W0 w : World} {K : Know} {L : List Res} (h : St W0 w K L) :
    Calls Try.prog 36 #[.agg #[.int .i64 base1, .int .i64 leader1, .bool app1, .bool txn1, .bool ctl1, .int .i64 last1, .int .i64 first1, .int .i64 maxt1, .int .i64 prod1, .int .i64 epoch1, .int .i64 seq1, .slice q1 l1.length cap1], .agg #[.int .i64 base1, .int .i64 leader1, .bool app1, .bool txn1, .bool ctl1, .int .i64 last1, .int .i64 first1, .int .i64 maxt1, .int .i64 prod1, .int .i64 epoch1, .int .i64 seq2, .slice q2 l2.length cap2]] w fun en w' => en = .returned (.bool false) ∧ St W0 w' K L := by
  obtain ⟨hb, hhb⟩ : ∃ b, w.heap.size = b := ⟨_, rfl⟩
  have h1 := (h.allocRaw #[.int .i64 base1, .int .i64 leader1, .bool app1, .bool txn1, .bool ctl1, .int .i64 last1, .int .i64 first1, .int .i64 maxt1, .int .i64 prod1, .int .i64 epoch1, .int .i64 seq1, .slice q1 l1.length cap1] 32).allocRaw #[.int .i64 base1, .int .i64 leader1, .bool app1, .bool txn1, .bool ctl1, .int .i64 last1, .int .i64 first1, .int .i64 maxt1, .int .i64 prod1, .int .i64 epoch1, .int .i64 seq2, .slice q2 l2.length cap2] 32
  rw [World.size_alloc, hhb] at h1
  obtain ⟨hc, hhc⟩ : ∃ b, hb + 1 = b := ⟨_, rfl⟩
  rw [hhc] at h1
  obtain ⟨b0, b1, b2, b3, b4, b5, b6, b7, b8, b9, b10, b11, fb0, fb1, fb2, fb3, fb4, fb5, fb6, fb7, fb8, fb9, fb10, fb11⟩ := raw12 (b := hc) h1
  obtain ⟨a0, a1, a2, a3, a4, a5, a6, a7, a8, a9, a10, a11, fa0, fa1, fa2, fa3, fa4, fa5, fa6, fa7, fa8, fa9, fa10, fa11⟩ := raw12 (b := hb) h1.p1
  have H := Lib.hid h1
  have g1 : (seq1 == seq2) = false := by simpa using hne
  have g2 : (seq1 != seq2) = true := by simp [bne, g1]
  clear h h1 hne fa0 fb0 fa1 fb1 fa2 fb2 fa3 fb3 fa4 fb4 fa5 fb5 fa6 fb6 fa7 fb7 fa8 fb8 fa9 fb9 fa10 fb10 fa11 fb11
  go_enter Try.func36, Try.ntmps36
  go_wp2
  go_ret
  exact ⟨rfl, H.out.drop.drop⟩

end Go.Proofs.Ytcjgdlfcfcabiaa

/- Batches that differ. -/
namespace Go.Proofs.Ytcjgdlfcfcabiaa
open Go.RowKit

set_option maxHeartbeats 4000000 in
set_option maxRecDepth 100000 in
theorem ref11_ne11 (base1 : Int) (leader1 : Int) (app1 : Bool) (txn1 : Bool) (ctl1 : Bool) (last1 : Int) (first1 : Int) (maxt1 : Int) (prod1 : Int) (epoch1 : Int) (seq1 : Int) (l1 l2 : List (RecS × Value)) (q1 q2 : Option Addr) (cap1 cap2 : Nat) (hne : l1.length ≠ l2.length) {W0 w : World} {K : Know} {L : List Res} (h : St W0 w K L) :
    Calls Try.prog 36 #[.agg #[.int .i64 base1, .int .i64 leader1, .bool app1, .bool txn1, .bool ctl1, .int .i64 last1, .int .i64 first1, .int .i64 maxt1, .int .i64 prod1, .int .i64 epoch1, .int .i64 seq1, .slice q1 l1.length cap1], .agg #[.int .i64 base1, .int .i64 leader1, .bool app1, .bool txn1, .bool ctl1, .int .i64 last1, .int .i64 first1, .int .i64 maxt1, .int .i64 prod1, .int .i64 epoch1, .int .i64 seq1, .slice q2 l2.length cap2]] w fun en w' => en = .returned (.bool false) ∧ St W0 w' K L := by
  obtain ⟨hb, hhb⟩ : ∃ b, w.heap.size = b := ⟨_, rfl⟩
  have h1 := (h.allocRaw #[.int .i64 base1, .int .i64 leader1, .bool app1, .bool txn1, .bool ctl1, .int .i64 last1, .int .i64 first1, .int .i64 maxt1, .int .i64 prod1, .int .i64 epoch1, .int .i64 seq1, .slice q1 l1.length cap1] 32).allocRaw #[.int .i64 base1, .int .i64 leader1, .bool app1, .bool txn1, .bool ctl1, .int .i64 last1, .int .i64 first1, .int .i64 maxt1, .int .i64 prod1, .int .i64 epoch1, .int .i64 seq1, .slice q2 l2.length cap2] 32
  rw [World.size_alloc, hhb] at h1
  obtain ⟨hc, hhc⟩ : ∃ b, hb + 1 = b := ⟨_, rfl⟩
  rw [hhc] at h1
  obtain ⟨b0, b1, b2, b3, b4, b5, b6, b7, b8, b9, b10, b11, fb0, fb1, fb2, fb3, fb4, fb5, fb6, fb7, fb8, fb9, fb10, fb11⟩ := raw12 (b := hc) h1
  obtain ⟨a0, a1, a2, a3, a4, a5, a6, a7, a8, a9, a10, a11, fa0, fa1, fa2, fa3, fa4, fa5, fa6, fa7, fa8, fa9, fa10, fa11⟩ := raw12 (b := hb) h1.p1
  have H := Lib.hid h1
  have g1 : ((l1.length : Int) == (l2.length : Int)) = false := by rw [beq_eq_false_iff_ne]; omega
  have g2 : ((l1.length : Int) != (l2.length : Int)) = true := by simp [bne, g1]
  have g3 : ¬ ((l1.length : Int) = (l2.length : Int)) := by omega
  clear h h1 hne fa0 fb0 fa1 fb1 fa2 fb2 fa3 fb3 fa4 fb4 fa5 fb5 fa6 fb6 fa7 fb7 fa8 fb8 fa9 fb9 fa10 fb10 fa11 fb11
  go_enter Try.func36, Try.ntmps36
  go_wp2
  go_ret
  exact ⟨rfl, H.out.drop.drop⟩

end Go.Proofs.Ytcjgdlfcfcabiaa

/- Are two batches one, any: the document. -/
namespace Go.Proofs.Ytcjgdlfcfcabiaa
open Go.RowKit

theorem ref11_sameG (base1 : Int) (leader1 : Int) (app1 : Bool) (txn1 : Bool) (ctl1 : Bool) (last1 : Int) (first1 : Int) (maxt1 : Int) (prod1 : Int) (epoch1 : Int) (seq1 : Int) (base2 : Int) (leader2 : Int) (app2 : Bool) (txn2 : Bool) (ctl2 : Bool) (last2 : Int) (first2 : Int) (maxt2 : Int) (prod2 : Int) (epoch2 : Int) (seq2 : Int) (l1 l2 : List (RecS × Value)) (q1 q2 : Option Addr) (cap1 cap2 : Nat) (hn : l1.length ≤ 1000000) (r : Bool) (hr : decide ((⟨base1, leader1, app1, txn1, ctl1, last1, first1, maxt1, prod1, epoch1, seq1, l1.map (·.1)⟩ : BatS) = (⟨base2, leader2, app2, txn2, ctl2, last2, first2, maxt2, prod2, epoch2, seq2, l2.map (·.1)⟩ : BatS)) = r) (hf1 : ∀ x ∈ l1, x.1.hdrs.length ≤ 9223372036854775807) (hf2 : ∀ x ∈ l2, x.1.hdrs.length ≤ 9223372036854775807) {W0 w : World} {K : Know} {L : List Res} (hk1 : K.has (Know.recs (.slice q1 l1.length cap1) l1)) (hk2 : K.has (Know.recs (.slice q2 l2.length cap2) l2)) (h : St W0 w K L) :
    Calls Try.prog 36 #[.agg #[.int .i64 base1, .int .i64 leader1, .bool app1, .bool txn1, .bool ctl1, .int .i64 last1, .int .i64 first1, .int .i64 maxt1, .int .i64 prod1, .int .i64 epoch1, .int .i64 seq1, .slice q1 l1.length cap1], .agg #[.int .i64 base2, .int .i64 leader2, .bool app2, .bool txn2, .bool ctl2, .int .i64 last2, .int .i64 first2, .int .i64 maxt2, .int .i64 prod2, .int .i64 epoch2, .int .i64 seq2, .slice q2 l2.length cap2]] w fun en w' => en = .returned (.bool r) ∧ St W0 w' K L := by
  by_cases h0 : base1 = base2
  rotate_left
  · obtain rfl : r = false := batS_ne (by intro hh; injection hh; contradiction) hr
    exact ref11_ne0 base1 base2 leader1 leader2 app1 app2 txn1 txn2 ctl1 ctl2 last1 last2 first1 first2 maxt1 maxt2 prod1 prod2 epoch1 epoch2 seq1 seq2 l1 l2 q1 q2 cap1 cap2 h0 h
  subst h0
  by_cases h1 : leader1 = leader2
  rotate_left
  · obtain rfl : r = false := batS_ne (by intro hh; injection hh; contradiction) hr
    exact ref11_ne1 base1 leader1 leader2 app1 app2 txn1 txn2 ctl1 ctl2 last1 last2 first1 first2 maxt1 maxt2 prod1 prod2 epoch1 epoch2 seq1 seq2 l1 l2 q1 q2 cap1 cap2 h1 h
  subst h1
  by_cases h2 : app1 = app2
  rotate_left
  · obtain rfl : r = false := batS_ne (by intro hh; injection hh; contradiction) hr
    exact ref11_ne2 base1 leader1 app1 app2 txn1 txn2 ctl1 ctl2 last1 last2 first1 first2 maxt1 maxt2 prod1 prod2 epoch1 epoch2 seq1 seq2 l1 l2 q1 q2 cap1 cap2 h2 h
  subst h2
  by_cases h3 : txn1 = txn2
  rotate_left
  · obtain rfl : r = false := batS_ne (by intro hh; injection hh; contradiction) hr
    exact ref11_ne3 base1 leader1 app1 txn1 txn2 ctl1 ctl2 last1 last2 first1 first2 maxt1 maxt2 prod1 prod2 epoch1 epoch2 seq1 seq2 l1 l2 q1 q2 cap1 cap2 h3 h
  subst h3
  by_cases h4 : ctl1 = ctl2
  rotate_left
  · obtain rfl : r = false := batS_ne (by intro hh; injection hh; contradiction) hr
    exact ref11_ne4 base1 leader1 app1 txn1 ctl1 ctl2 last1 last2 first1 first2 maxt1 maxt2 prod1 prod2 epoch1 epoch2 seq1 seq2 l1 l2 q1 q2 cap1 cap2 h4 h
  subst h4
  by_cases h5 : last1 = last2
  rotate_left
  · obtain rfl : r = false := batS_ne (by intro hh; injection hh; contradiction) hr
    exact ref11_ne5 base1 leader1 app1 txn1 ctl1 last1 last2 first1 first2 maxt1 maxt2 prod1 prod2 epoch1 epoch2 seq1 seq2 l1 l2 q1 q2 cap1 cap2 h5 h
  subst h5
  by_cases h6 : first1 = first2
  rotate_left
  · obtain rfl : r = false := batS_ne (by intro hh; injection hh; contradiction) hr
    exact ref11_ne6 base1 leader1 app1 txn1 ctl1 last1 first1 first2 maxt1 maxt2 prod1 prod2 epoch1 epoch2 seq1 seq2 l1 l2 q1 q2 cap1 cap2 h6 h
  subst h6
  by_cases h7 : maxt1 = maxt2
  rotate_left
  · obtain rfl : r = false := batS_ne (by intro hh; injection hh; contradiction) hr
    exact ref11_ne7 base1 leader1 app1 txn1 ctl1 last1 first1 maxt1 maxt2 prod1 prod2 epoch1 epoch2 seq1 seq2 l1 l2 q1 q2 cap1 cap2 h7 h
  subst h7
  by_cases h8 : prod1 = prod2
  rotate_left
  · obtain rfl : r = false := batS_ne (by intro hh; injection hh; contradiction) hr
    exact ref11_ne8 base1 leader1 app1 txn1 ctl1 last1 first1 maxt1 prod1 prod2 epoch1 epoch2 seq1 seq2 l1 l2 q1 q2 cap1 cap2 h8 h
  subst h8
  by_cases h9 : epoch1 = epoch2
  rotate_left
  · obtain rfl : r = false := batS_ne (by intro hh; injection hh; contradiction) hr
    exact ref11_ne9 base1 leader1 app1 txn1 ctl1 last1 first1 maxt1 prod1 epoch1 epoch2 seq1 seq2 l1 l2 q1 q2 cap1 cap2 h9 h
  subst h9
  by_cases h10 : seq1 = seq2
  rotate_left
  · obtain rfl : r = false := batS_ne (by intro hh; injection hh; contradiction) hr
    exact ref11_ne10 base1 leader1 app1 txn1 ctl1 last1 first1 maxt1 prod1 epoch1 seq1 seq2 l1 l2 q1 q2 cap1 cap2 h10 h
  subst h10
  by_cases h11 : l1.length = l2.length
  rotate_left
  · obtain rfl : r = false := batS_ne (batS_recs _ _ _ _ _ _ _ _ _ _ _ _ _ _ _ _ _ _ _ _ _ _ _ _ (map_len_ne _ _ h11)) hr
    exact ref11_ne11 base1 leader1 app1 txn1 ctl1 last1 first1 maxt1 prod1 epoch1 seq1 l1 l2 q1 q2 cap1 cap2 h11 h
  exact ref11_sameL base1 leader1 app1 txn1 ctl1 last1 first1 maxt1 prod1 epoch1 seq1 l1 l2 q1 q2 cap1 cap2 hn h11 r hr hf1 hf2 hk1 hk2 h
theorem ref11_sameB (x y : BatS) (l1 l2 : List (RecS × Value)) (q1 q2 : Option Addr) (cap1 cap2 : Nat) (hn : l1.length ≤ 1000000) (hx : l1.map (·.1) = x.recs) (hy : l2.map (·.1) = y.recs) (r : Bool) (hr : decide (x = y) = r) (hf1 : ∀ x ∈ l1, x.1.hdrs.length ≤ 9223372036854775807) (hf2 : ∀ x ∈ l2, x.1.hdrs.length ≤ 9223372036854775807) {W0 w : World} {K : Know} {L : List Res} (hk1 : K.has (Know.recs (.slice q1 l1.length cap1) l1)) (hk2 : K.has (Know.recs (.slice q2 l2.length cap2) l2)) (h : St W0 w K L) :
    Calls Try.prog 36 #[.agg #[.int .i64 x.base, .int .i64 x.leader, .bool x.app, .bool x.txn, .bool x.ctl, .int .i64 x.last, .int .i64 x.first, .int .i64 x.maxt, .int .i64 x.prod, .int .i64 x.epoch, .int .i64 x.seq, .slice q1 l1.length cap1], .agg #[.int .i64 y.base, .int .i64 y.leader, .bool y.app, .bool y.txn, .bool y.ctl, .int .i64 y.last, .int .i64 y.first, .int .i64 y.maxt, .int .i64 y.prod, .int .i64 y.epoch, .int .i64 y.seq, .slice q2 l2.length cap2]] w fun en w' => en = .returned (.bool r) ∧ St W0 w' K L :=
  ref11_sameG x.base x.leader x.app x.txn x.ctl x.last x.first x.maxt x.prod x.epoch x.seq y.base y.leader y.app y.txn y.ctl y.last y.first y.maxt y.prod y.epoch y.seq l1 l2 q1 q2 cap1 cap2 hn r (by rw [hx, hy]; exact hr) hf1 hf2 hk1 hk2 h

end Go.Proofs.Ytcjgdlfcfcabiaa

/- Are two batches one: without their records. -/
namespace Go.Proofs.Ytcjgdlfcfcabiaa
open Go.RowKit

theorem wpl_take {P : Program} {ops : Array Oper} {Q : Exit → Act → World → Prop} {a : Act} {w : World} {rest : List Oper} {o : Oper} (v : Value) (hw : Region.wanted o (yielded ops a.tmps) = true) (hr : (execOp a.eval o).run P w = .ok (.value v) w) (h : wpList P ops Q rest (a.put o.dst v) w) : wpList P ops Q (o :: rest) a w := by
  unfold wpList
  rw [if_pos hw]
  refine .inl ?_
  unfold Oper.wp
  rw [hr]
  exact h
theorem wpl_skip {P : Program} {ops : Array Oper} {Q : Exit → Act → World → Prop} {a : Act} {w : World} {rest : List Oper} {o : Oper} (hw : Region.wanted o (yielded ops a.tmps) = false) (h : wpList P ops Q rest (a.put o.dst undef) w) : wpList P ops Q (o :: rest) a w := by
  unfold wpList
  rw [if_neg (by rw [hw]; decide)]
  exact h
theorem xload_int (b j : Nat) (n : Int) (w : World) (h : w.cell? ⟨b, j, none⟩ = some (.int .i64 n)) : (execOp (fun _ => Value.pointer (some ⟨b, j, none⟩)) ⟨none, .load 3 (.tmp 0), 3, "", #[], none⟩).run Try.prog w = .ok (.value (.int .i64 n)) w := by go_simp
theorem xload_bool (b j : Nat) (n : Bool) (w : World) (h : w.cell? ⟨b, j, none⟩ = some (.bool n)) : (execOp (fun _ => Value.pointer (some ⟨b, j, none⟩)) ⟨none, .load 4 (.tmp 0), 4, "", #[], none⟩).run Try.prog w = .ok (.value (.bool n)) w := by go_simp
theorem xload_recs (b j : Nat) (q : Option Addr) (n cap : Nat) (w : World) (h : w.cell? ⟨b, j, none⟩ = some (.slice q n cap)) : (execOp (fun _ => Value.pointer (some ⟨b, j, none⟩)) ⟨none, .load 30 (.tmp 0), 30, "", #[], none⟩).run Try.prog w = .ok (.value (.slice q n cap)) w := by go_simp
theorem res_bool {x y : Bool} (w : World) (h : x = y) : (Result.ok (Next.value (Value.bool x)) w : Result Next) = .ok (.value (.bool y)) w := by rw [h]

theorem bat_head0 (base leader : Int) (app txn ctl : Bool) (last first maxt prod epoch sq : Int)  {W0 w : World} {K : Know} {L : List Res} (h : St W0 w K L) :
    Calls Try.prog 55 #[.agg #[.int .i64 base, .int .i64 leader, .bool app, .bool txn, .bool ctl, .int .i64 last, .int .i64 first, .int .i64 maxt, .int .i64 prod, .int .i64 epoch, .int .i64 sq, .slice none 0 0], .int .i64 0] w fun en w' => en = .returned (.agg #[.int .i64 base, .int .i64 49, .int .i64 leader, .int .i64 0, .int .i64 (attrN app txn ctl 3), .int .i64 last, .int .i64 first, .int .i64 maxt, .int .i64 prod, .int .i64 epoch, .int .i64 sq, .int .i64 0]) ∧ St W0 w' K L :=
  bat_head base leader app txn ctl last first maxt prod epoch sq [] none 0 0 (by decide) h
set_option maxHeartbeats 2000000 in
set_option maxRecDepth 100000 in
theorem bat_bare (base leader : Int) (app txn ctl : Bool) (last first maxt prod epoch sq : Int)  (rv : Value) {W0 w : World} {K : Know} {L : List Res} (h : St W0 w K L) :
    Calls Try.prog 62 #[.agg #[.int .i64 base, .int .i64 leader, .bool app, .bool txn, .bool ctl, .int .i64 last, .int .i64 first, .int .i64 maxt, .int .i64 prod, .int .i64 epoch, .int .i64 sq, rv]] w fun en w' => en = .returned (.agg #[.int .i64 base, .int .i64 49, .int .i64 leader, .int .i64 0, .int .i64 (attrN app txn ctl 3), .int .i64 last, .int .i64 first, .int .i64 maxt, .int .i64 prod, .int .i64 epoch, .int .i64 sq, .int .i64 0]) ∧ St W0 w' K L := by
  have g1 := h.allocRaw #[.int .i64 base, .int .i64 leader, .bool app, .bool txn, .bool ctl, .int .i64 last, .int .i64 first, .int .i64 maxt, .int .i64 prod, .int .i64 epoch, .int .i64 sq, rv] 32
  have g2 := g1.allocRaw #[.int .i64 0, .int .i64 0, .int .i64 0, .int .i64 0, .int .i64 0, .int .i64 0, .int .i64 0, .int .i64 0, .int .i64 0, .int .i64 0, .int .i64 0, .int .i64 0] 35
  obtain ⟨hb, hhb⟩ : ∃ b, w.heap.size = b := ⟨_, rfl⟩
  obtain ⟨rb, hrb⟩ : ∃ b, hb + 1 = b := ⟨_, rfl⟩
  simp only [World.size_alloc, hhb, hrb] at g2
  have g3 := (g2.p1.rawSet 11 (.slice none 0 0)).p1
  have f1 := g2.p1.rawFree 11
  have c1 := (g2.p1.rawCell 11).trans (show _ = some rv from rfl)
  have H := Lib.hid g3
  clear g1 g2 g3 h
  go_enter Try.func62, Try.ntmps62
  go_upto_region 2 with (fail)
  have h3 : St W0 _ K (.raw hb #[.int .i64 base, .int .i64 leader, .bool app, .bool txn, .bool ctl, .int .i64 last, .int .i64 first, .int .i64 maxt, .int .i64 prod, .int .i64 epoch, .int .i64 sq, .slice none 0 0] 32 :: .raw rb #[.int .i64 0, .int .i64 0, .int .i64 0, .int .i64 0, .int .i64 0, .int .i64 0, .int .i64 0, .int .i64 0, .int .i64 0, .int .i64 0, .int .i64 0, .int .i64 0] 35 :: L) := H.out.p1
  clear H f1 c1
  generalize World.setCell _ _ _ = wx at h3 ⊢
  obtain ⟨x0, x1, x2, x3, x4, x5, x6, x7, x8, x9, x10, x11, y0, y1, y2, y3, y4, y5, y6, y7, y8, y9, y10, y11⟩ := raw12 (b := hb) (h3)
  refine wp_region_list ?_
  refine wpl_take (.agg #[.int .i64 base, .int .i64 leader, .bool app, .bool txn, .bool ctl, .int .i64 last, .int .i64 first, .int .i64 maxt, .int .i64 prod, .int .i64 epoch, .int .i64 sq, .slice none 0 0]) (by kernel_rfl) (by go_simp) ?_
  simp only [Act.put, List.setIfInBounds_toArray, List.set_cons_zero, List.set_cons_succ]
  refine wpList_plain rfl (fun KK hK => ?_)
  go_simp
  go_at_call 55
  clear x0 y0 x1 y1 x2 y2 x3 y3 x4 y4 x5 y5 x6 y6 x7 y7 x8 y8 x9 y9 x10 y10 x11 y11
  with_reducible refine (bat_head0 _ _ _ _ _ _ _ _ _ _ _ h3).mono ?_
  rintro e wq ⟨rfl, hs⟩
  refine hK _ _ ?_
  clear hK KK
  try simp only [Act.put, List.setIfInBounds_toArray, List.set_cons_zero, List.set_cons_succ]
  have hs := hs.p1
  refine wpList_plain rfl (fun KK hK => ?_)
  refine wp_store_mid 35 (.tmp 2) (.tmp 5) rfl rb 0 #[.int .i64 base, .int .i64 49, .int .i64 leader, .int .i64 0, .int .i64 (attrN app txn ctl 3), .int .i64 last, .int .i64 first, .int .i64 maxt, .int .i64 prod, .int .i64 epoch, .int .i64 sq, .int .i64 0] (by rfl) (by rfl) hs.there (by kernel_rfl) (by simp [Value.oneCell']) ?_
  obtain ⟨wz, ez, hs⟩ := hs.storeEx #[.int .i64 base, .int .i64 49, .int .i64 leader, .int .i64 0, .int .i64 (attrN app txn ctl 3), .int .i64 last, .int .i64 first, .int .i64 maxt, .int .i64 prod, .int .i64 epoch, .int .i64 sq, .int .i64 0]
  rw [ez]
  clear ez
  refine hK _ _ ?_
  clear hK KK
  rw [setAll_all] at hs
  rotate_left
  · rfl
  refine wpList_nil ?_
  have hz : St W0 _ K (.raw rb #[.int .i64 base, .int .i64 49, .int .i64 leader, .int .i64 0, .int .i64 (attrN app txn ctl 3), .int .i64 last, .int .i64 first, .int .i64 maxt, .int .i64 prod, .int .i64 epoch, .int .i64 sq, .int .i64 0] 35 :: _) := hs
  go_wp2_with fail
  refine bodyPost_ret (rc_cell_only rfl _ _ rb [.int .i64 base, .int .i64 49, .int .i64 leader, .int .i64 0, .int .i64 (attrN app txn ctl 3), .int .i64 last, .int .i64 first, .int .i64 maxt, .int .i64 prod, .int .i64 epoch, .int .i64 sq, .int .i64 0] _ rfl (rc_range hz) Try.underlying35 rfl (by kernel_rfl)) rfl ?_
  exact ⟨rfl, hz.drop.drop⟩

end Go.Proofs.Ytcjgdlfcfcabiaa

/- Are two batches one: their records. -/
namespace Go.Proofs.Ytcjgdlfcfcabiaa
open Go.RowKit

set_option maxHeartbeats 2000000 in
set_option maxRecDepth 100000 in
theorem sl_eqf (l1 l2 : List (RecS × Value)) (q1 q2 : Option Addr) (cap1 cap2 : Nat) (hn : l1.length ≤ 1000000) (r : Bool) (hr : decide (l1.map (·.1) = l2.map (·.1)) = r) (hf1 : ∀ x ∈ l1, x.1.hdrs.length ≤ 9223372036854775807) (hf2 : ∀ x ∈ l2, x.1.hdrs.length ≤ 9223372036854775807) {W0 w : World} {K : Know} {L : List Res} (hk1 : K.has (Know.recs (.slice q1 l1.length cap1) l1)) (hk2 : K.has (Know.recs (.slice q2 l2.length cap2) l2)) (h : St W0 w K L) :
    Calls Try.prog 63 #[.slice q1 l1.length cap1, .slice q2 l2.length cap2, .func (.func 64) #[] #[]] w fun en w' => en = .returned (.bool r) ∧ St W0 w' K L := by
  have H := Lib.hid h
  have HK1 := Lib.hid hk1
  have HK2 := Lib.hid hk2
  have hni : (l1.length : Int) ≤ 1000000 := by omega
  have HF1 := Lib.hid hf1
  have HF2 := Lib.hid hf2
  clear h hk1 hk2 hf1 hf2
  by_cases hlen : l1.length = l2.length
  rotate_left
  · as_aux_lemma =>
    have hr2 : r = false := by rw [← hr]; exact decide_eq_false (map_len_ne _ _ hlen)
    have g1 : ((l1.length : Int) == (l2.length : Int)) = false := by rw [beq_eq_false_iff_ne]; omega
    have g2 : ((l1.length : Int) != (l2.length : Int)) = true := by simp [bne, g1]
    have g3 : ¬ ((l1.length : Int) = (l2.length : Int)) := by omega
    subst hr2
    clear hlen hr
    go_enter Try.func63, Try.ntmps63
    go_wp2
    go_ret
    exact ⟨rfl, H.out⟩
  have HLEN := Lib.hid hlen
  have HR := Lib.hid hr
  have g1 : ((l1.length : Int) == (l2.length : Int)) = true := by rw [hlen]; exact beq_self_eq_true _
  have g2 : ((l1.length : Int) != (l2.length : Int)) = false := by simp [bne, g1]
  have g3 : (l2.length : Int) = (l1.length : Int) := by omega
  clear hr hlen
  go_enter Try.func63, Try.ntmps63
  go_wp2
  clear g1 g2 g3
  go_loopw [7, 8, 9, 17] (fun _ _ _ iv wr => ∃ k : Nat, k ≤ l1.length ∧ iv = .int .i64 k ∧ Hid ((l1.map (·.1)).take k = (l2.map (·.1)).take k) ∧ St W0 wr K L) (fun _ _ _ iv _ => l1.length - (intOf iv).toNat)
  case atStart => exact ⟨0, Nat.zero_le _, rfl, Lib.hid (by simp), H.out⟩
  case round =>
    obtain ⟨k, hkl, rfl, heq, hst⟩ := hrel
    clear H
    have H := Lib.hid hst
    clear hst
    by_cases hlt : k < l1.length
    · have hlt2 : k < l2.length := by have := HLEN.out; omega
      obtain ⟨b1', off1, hqq1⟩ := recs_at HK1.out H.out (by omega)
      subst hqq1
      obtain ⟨⟨x1, v1⟩, hx1⟩ : ∃ x, l1[k] = x := ⟨_, rfl⟩
      have cc1 := recs_cell HK1.out H.out k (by omega) (x1, v1) hx1
      have hmem1 : (x1, v1) ∈ l1 := hx1 ▸ List.getElem_mem _
      have XF1 := Lib.hid (show x1.hdrs.length ≤ 9223372036854775807 from HF1.out (x1, v1) hmem1)
      have XK1 := Lib.hid (show K.has (Know.flat RHdr v1 3 x1.hdrs) from recs_hdrs HK1.out hmem1)
      simp only at cc1
      obtain ⟨c10, c11, c12, c13, c14, c15, c16⟩ := cc1
      rw [← Nat.add_assoc] at c11 c12 c13 c14 c15 c16
      have HX1 := Lib.hid (show l1[k].1 = x1 by rw [hx1])
      have HXX1 := Lib.hid hx1
      clear hmem1 hx1
      obtain ⟨qx1, capx1, hv1⟩ := flat_form XK1.out H.out
      subst hv1
      obtain ⟨b2', off2, hqq2⟩ := recs_at HK2.out H.out (by omega)
      subst hqq2
      obtain ⟨⟨x2, v2⟩, hx2⟩ : ∃ x, l2[k] = x := ⟨_, rfl⟩
      have cc2 := recs_cell HK2.out (H.out.allocRaw #[.int .i64 x1.time, .int .i64 x1.off, .bool x1.key.null, .string (bb x1.key.data), .bool x1.val.null, .string (bb x1.val.data), .slice qx1 x1.hdrs.length capx1] 64) k (by omega) (x2, v2) hx2
      have hmem2 : (x2, v2) ∈ l2 := hx2 ▸ List.getElem_mem _
      have XF2 := Lib.hid (show x2.hdrs.length ≤ 9223372036854775807 from HF2.out (x2, v2) hmem2)
      have XK2 := Lib.hid (show K.has (Know.flat RHdr v2 3 x2.hdrs) from recs_hdrs HK2.out hmem2)
      simp only at cc2
      obtain ⟨c20, c21, c22, c23, c24, c25, c26⟩ := cc2
      rw [← Nat.add_assoc] at c21 c22 c23 c24 c25 c26
      have HX2 := Lib.hid (show l2[k].1 = x2 by rw [hx2])
      have HXX2 := Lib.hid hx2
      clear hmem2 hx2
      obtain ⟨qx2, capx2, hv2⟩ := flat_form XK2.out H.out
      subst hv2
      have hki : (k : Int) < (l1.length : Int) := by omega
      have hki2 : (k : Int) < (l2.length : Int) := by omega
      have NX := Lib.hid (show x1 ≠ x2 → l1.map (·.1) ≠ l2.map (·.1) from map_ne_of_get l1 l2 k hlt hlt2 x1 x2 HX1.out HX2.out)
      have NT := Lib.hid (show x1 = x2 → (l1.map (·.1)).take (k + 1) = (l2.map (·.1)).take (k + 1) from fun e => by rw [map_take_succ l1 k hlt x1 HX1.out, map_take_succ l2 k hlt2 x2 HX2.out, heq.out, e])
      obtain ⟨wE, hwE⟩ : ∃ b, wr.heap.size = b := ⟨_, rfl⟩
      obtain ⟨wG, hwG⟩ : ∃ b, wE + 1 = b := ⟨_, rfl⟩
      have h := (H.out.allocRaw #[.int .i64 x1.time, .int .i64 x1.off, .bool x1.key.null, .string (bb x1.key.data), .bool x1.val.null, .string (bb x1.val.data), .slice qx1 x1.hdrs.length capx1] 64).allocRaw #[.int .i64 x2.time, .int .i64 x2.off, .bool x2.key.null, .string (bb x2.key.data), .bool x2.val.null, .string (bb x2.val.data), .slice qx2 x2.hdrs.length capx2] 64
      rw [World.size_alloc, hwE, hwG] at h
      clear H
      have H := Lib.hid h
      clear h HX1 HX2 HXX1 HXX2
      clear hlt2
      obtain ⟨eb0, eb1, eb2, eb3, eb4, eb5, eb6, fb0, fb1, fb2, fb3, fb4, fb5, fb6⟩ := raw7 (b := wG) (H.out)
      obtain ⟨ea0, ea1, ea2, ea3, ea4, ea5, ea6, fa0, fa1, fa2, fa3, fa4, fa5, fa6⟩ := raw7 (b := wE) (H.out.p1)
      by_cases hxy : x1 = x2
      · have E1 := Lib.hid (decide_eq_true hxy)
        have NT2 := Lib.hid (NT.out hxy)
        clear hxy NX NT
        go_wp2_with (go_at_call 64; (with_reducible refine (rec_sameV x1 x2 (.slice qx1 x1.hdrs.length capx1) (.slice qx2 x2.hdrs.length capx2) true E1.out XF1.out XF2.out XK1.out XK2.out H.out).mono ?_); rintro e_ wn ⟨rfl, h⟩; replace H := Lib.hid h; clear h)
        go_roundw
        case rel => exact ⟨k + 1, hlt, by go_num, NT2, H.out.drop.drop⟩
        case measure => first | (simp [intOf]; done) | (simp [intOf]; omega)
      · have E1 := Lib.hid (decide_eq_false hxy)
        have HRF := Lib.hid (show r = false by rw [← HR.out]; exact decide_eq_false (NX.out hxy))
        clear hxy NX NT
        go_wp2_with (go_at_call 64; (with_reducible refine (rec_sameV x1 x2 (.slice qx1 x1.hdrs.length capx1) (.slice qx2 x2.hdrs.length capx2) false E1.out XF1.out XF2.out XK1.out XK2.out H.out).mono ?_); rintro e_ wn ⟨rfl, h⟩; replace H := Lib.hid h; clear h)
        go_ret
        exact ⟨ret_bool HRF.out.symm, H.out.drop.drop⟩
    · obtain rfl : k = l1.length := by omega
      have hall : l1.map (·.1) = l2.map (·.1) := by
        have h := heq.out
        rwa [List.take_of_length_le (by simp), List.take_of_length_le (by have := HLEN.out; simp; omega)] at h
      have HRT := Lib.hid (show r = true by rw [← HR.out, hall]; exact decide_eq_true rfl)
      clear hall
      go_wp2
      go_ret
      exact ⟨ret_bool HRT.out.symm, H.out⟩

end Go.Proofs.Ytcjgdlfcfcabiaa

/- Are two batches one, any: the program. -/
namespace Go.Proofs.Ytcjgdlfcfcabiaa
open Go.RowKit

theorem attrN_inj (a t c a' t' c' : Bool) (h : attrN a t c 3 = attrN a' t' c' 3) : a = a' ∧ t = t' ∧ c = c' := by
  revert h
  cases a <;> cases t <;> cases c <;> cases a' <;> cases t' <;> cases c' <;> decide

set_option maxHeartbeats 4000000 in
set_option maxRecDepth 100000 in
theorem bat_sameF (base1 : Int) (leader1 : Int) (app1 : Bool) (txn1 : Bool) (ctl1 : Bool) (last1 : Int) (first1 : Int) (maxt1 : Int) (prod1 : Int) (epoch1 : Int) (seq1 : Int) (base2 : Int) (leader2 : Int) (app2 : Bool) (txn2 : Bool) (ctl2 : Bool) (last2 : Int) (first2 : Int) (maxt2 : Int) (prod2 : Int) (epoch2 : Int) (seq2 : Int) (l1 l2 : List (RecS × Value)) (q1 q2 : Option Addr) (cap1 cap2 : Nat) (hne : ¬ (base1 = base2 ∧ leader1 = leader2 ∧ attrN app1 txn1 ctl1 3 = attrN app2 txn2 ctl2 3 ∧ last1 = last2 ∧ first1 = first2 ∧ maxt1 = maxt2 ∧ prod1 = prod2 ∧ epoch1 = epoch2 ∧ seq1 = seq2)) {W0 w : World} {K : Know} {L : List Res} (h : St W0 w K L) :
    Calls Try.prog 37 #[.agg #[.int .i64 base1, .int .i64 leader1, .bool app1, .bool txn1, .bool ctl1, .int .i64 last1, .int .i64 first1, .int .i64 maxt1, .int .i64 prod1, .int .i64 epoch1, .int .i64 seq1, .slice q1 l1.length cap1], .agg #[.int .i64 base2, .int .i64 leader2, .bool app2, .bool txn2, .bool ctl2, .int .i64 last2, .int .i64 first2, .int .i64 maxt2, .int .i64 prod2, .int .i64 epoch2, .int .i64 seq2, .slice q2 l2.length cap2]] w fun en w' => en = .returned (.bool false) ∧ St W0 w' K L := by
  obtain ⟨hb, hhb⟩ : ∃ b, w.heap.size = b := ⟨_, rfl⟩
  have h1 := (h.allocRaw #[.int .i64 base1, .int .i64 leader1, .bool app1, .bool txn1, .bool ctl1, .int .i64 last1, .int .i64 first1, .int .i64 maxt1, .int .i64 prod1, .int .i64 epoch1, .int .i64 seq1, .slice q1 l1.length cap1] 32).allocRaw #[.int .i64 base2, .int .i64 leader2, .bool app2, .bool txn2, .bool ctl2, .int .i64 last2, .int .i64 first2, .int .i64 maxt2, .int .i64 prod2, .int .i64 epoch2, .int .i64 seq2, .slice q2 l2.length cap2] 32
  rw [World.size_alloc, hhb] at h1
  obtain ⟨hc, hhc⟩ : ∃ b, hb + 1 = b := ⟨_, rfl⟩
  rw [hhc] at h1
  have H := Lib.hid h1
  have HC := Lib.hid (show ∀ w : World, (if base1 = base2 then (if leader1 = leader2 then (if attrN app1 txn1 ctl1 3 = attrN app2 txn2 ctl2 3 then (if last1 = last2 then (if first1 = first2 then (if maxt1 = maxt2 then (if prod1 = prod2 then (if epoch1 = epoch2 then (if seq1 = seq2 then (Result.ok (Next.value (Value.bool true)) w : Result Next) else Result.ok (Next.value (Value.bool false)) w) else Result.ok (Next.value (Value.bool false)) w) else Result.ok (Next.value (Value.bool false)) w) else Result.ok (Next.value (Value.bool false)) w) else Result.ok (Next.value (Value.bool false)) w) else Result.ok (Next.value (Value.bool false)) w) else Result.ok (Next.value (Value.bool false)) w) else Result.ok (Next.value (Value.bool false)) w) else Result.ok (Next.value (Value.bool false)) w) = Result.ok (Next.value (Value.bool false)) w from fun w => by
    split
    case isFalse => rfl
    split
    case isFalse => rfl
    split
    case isFalse => rfl
    split
    case isFalse => rfl
    split
    case isFalse => rfl
    split
    case isFalse => rfl
    split
    case isFalse => rfl
    split
    case isFalse => rfl
    split
    case isFalse => rfl
    exact absurd ⟨by assumption, by assumption, by assumption, by assumption, by assumption, by assumption, by assumption, by assumption, by assumption⟩ hne)
  clear hne
  have hkeep : ∀ w', St W0 w' K (.raw hc #[.int .i64 base2, .int .i64 leader2, .bool app2, .bool txn2, .bool ctl2, .int .i64 last2, .int .i64 first2, .int .i64 maxt2, .int .i64 prod2, .int .i64 epoch2, .int .i64 seq2, .slice q2 l2.length cap2] 32 :: .raw hb #[.int .i64 base1, .int .i64 leader1, .bool app1, .bool txn1, .bool ctl1, .int .i64 last1, .int .i64 first1, .int .i64 maxt1, .int .i64 prod1, .int .i64 epoch1, .int .i64 seq1, .slice q1 l1.length cap1] 32 :: L) → ((w'.cell? ⟨hb, 0, none⟩ = some (.int .i64 base1) ∧ w'.cell? ⟨hb, 1, none⟩ = some (.int .i64 leader1) ∧ w'.cell? ⟨hb, 2, none⟩ = some (.bool app1) ∧ w'.cell? ⟨hb, 3, none⟩ = some (.bool txn1) ∧ w'.cell? ⟨hb, 4, none⟩ = some (.bool ctl1) ∧ w'.cell? ⟨hb, 5, none⟩ = some (.int .i64 last1) ∧ w'.cell? ⟨hb, 6, none⟩ = some (.int .i64 first1) ∧ w'.cell? ⟨hb, 7, none⟩ = some (.int .i64 maxt1) ∧ w'.cell? ⟨hb, 8, none⟩ = some (.int .i64 prod1) ∧ w'.cell? ⟨hb, 9, none⟩ = some (.int .i64 epoch1) ∧ w'.cell? ⟨hb, 10, none⟩ = some (.int .i64 seq1) ∧ w'.cell? ⟨hb, 11, none⟩ = some (.slice q1 l1.length cap1)) ∧ (w'.cell? ⟨hc, 0, none⟩ = some (.int .i64 base2) ∧ w'.cell? ⟨hc, 1, none⟩ = some (.int .i64 leader2) ∧ w'.cell? ⟨hc, 2, none⟩ = some (.bool app2) ∧ w'.cell? ⟨hc, 3, none⟩ = some (.bool txn2) ∧ w'.cell? ⟨hc, 4, none⟩ = some (.bool ctl2) ∧ w'.cell? ⟨hc, 5, none⟩ = some (.int .i64 last2) ∧ w'.cell? ⟨hc, 6, none⟩ = some (.int .i64 first2) ∧ w'.cell? ⟨hc, 7, none⟩ = some (.int .i64 maxt2) ∧ w'.cell? ⟨hc, 8, none⟩ = some (.int .i64 prod2) ∧ w'.cell? ⟨hc, 9, none⟩ = some (.int .i64 epoch2) ∧ w'.cell? ⟨hc, 10, none⟩ = some (.int .i64 seq2) ∧ w'.cell? ⟨hc, 11, none⟩ = some (.slice q2 l2.length cap2))) := fun w' hs => ⟨⟨hs.p1.rawCell 0, hs.p1.rawCell 1, hs.p1.rawCell 2, hs.p1.rawCell 3, hs.p1.rawCell 4, hs.p1.rawCell 5, hs.p1.rawCell 6, hs.p1.rawCell 7, hs.p1.rawCell 8, hs.p1.rawCell 9, hs.p1.rawCell 10, hs.p1.rawCell 11⟩, ⟨hs.rawCell 0, hs.rawCell 1, hs.rawCell 2, hs.rawCell 3, hs.rawCell 4, hs.rawCell 5, hs.rawCell 6, hs.rawCell 7, hs.rawCell 8, hs.rawCell 9, hs.rawCell 10, hs.rawCell 11⟩⟩
  have HKP := Lib.hid hkeep
  clear h h1 hkeep
  go_enter Try.func37, Try.ntmps37
  go_upto_region 2 with (fail)
  have hs := H.out.drew
  refine wp_region_held_drew (S := fun w' => (w'.cell? ⟨hb, 0, none⟩ = some (.int .i64 base1) ∧ w'.cell? ⟨hb, 1, none⟩ = some (.int .i64 leader1) ∧ w'.cell? ⟨hb, 2, none⟩ = some (.bool app1) ∧ w'.cell? ⟨hb, 3, none⟩ = some (.bool txn1) ∧ w'.cell? ⟨hb, 4, none⟩ = some (.bool ctl1) ∧ w'.cell? ⟨hb, 5, none⟩ = some (.int .i64 last1) ∧ w'.cell? ⟨hb, 6, none⟩ = some (.int .i64 first1) ∧ w'.cell? ⟨hb, 7, none⟩ = some (.int .i64 maxt1) ∧ w'.cell? ⟨hb, 8, none⟩ = some (.int .i64 prod1) ∧ w'.cell? ⟨hb, 9, none⟩ = some (.int .i64 epoch1) ∧ w'.cell? ⟨hb, 10, none⟩ = some (.int .i64 seq1) ∧ w'.cell? ⟨hb, 11, none⟩ = some (.slice q1 l1.length cap1)) ∧ (w'.cell? ⟨hc, 0, none⟩ = some (.int .i64 base2) ∧ w'.cell? ⟨hc, 1, none⟩ = some (.int .i64 leader2) ∧ w'.cell? ⟨hc, 2, none⟩ = some (.bool app2) ∧ w'.cell? ⟨hc, 3, none⟩ = some (.bool txn2) ∧ w'.cell? ⟨hc, 4, none⟩ = some (.bool ctl2) ∧ w'.cell? ⟨hc, 5, none⟩ = some (.int .i64 last2) ∧ w'.cell? ⟨hc, 6, none⟩ = some (.int .i64 first2) ∧ w'.cell? ⟨hc, 7, none⟩ = some (.int .i64 maxt2) ∧ w'.cell? ⟨hc, 8, none⟩ = some (.int .i64 prod2) ∧ w'.cell? ⟨hc, 9, none⟩ = some (.int .i64 epoch2) ∧ w'.cell? ⟨hc, 10, none⟩ = some (.int .i64 seq2) ∧ w'.cell? ⟨hc, 11, none⟩ = some (.slice q2 l2.length cap2))) (by kernel_rfl) (HKP.out _ hs) (fun hHeld => ?_)
  refine wpAnyH_take (i := 0) (oi := { dst := some 6, op := Op.move (Operand.tmp 5), type := 107, pos := "batch.go:144", after := #[], guard := none }) (v := ?_) rfl (by kernel_rfl) (by kernel_rfl) (by kernel_rfl) (fun _ _ _ h => h) (Or.inl ⟨by rfl, ?_⟩) (by assumption) ?_
  rotate_left
  · intro w hSw; (try dsimp only at hSw); go_simp; try with_reducible rfl
  simp only [Act.put, List.setIfInBounds_toArray, List.set_cons_zero, List.set_cons_succ]
  refine wpAnyH_take (i := 1) (oi := { dst := some 7, op := Op.load 32 (Operand.tmp 2), type := 32, pos := "batch.go:144", after := #[], guard := none }) (v := ?_) rfl (by kernel_rfl) (by kernel_rfl) (by kernel_rfl) (fun _ _ _ h => h) (Or.inl ⟨by rfl, ?_⟩) (by assumption) ?_
  rotate_left
  · intro w hSw; (try dsimp only at hSw); go_simp; try with_reducible rfl
  simp only [Act.put, List.setIfInBounds_toArray, List.set_cons_zero, List.set_cons_succ]
  refine wpAnyH_take (i := 3) (oi := { dst := some 9, op := Op.move (Operand.tmp 5), type := 107, pos := "batch.go:144", after := #[], guard := none }) (v := ?_) rfl (by kernel_rfl) (by kernel_rfl) (by kernel_rfl) (fun _ _ _ h => h) (Or.inl ⟨by rfl, ?_⟩) (by assumption) ?_
  rotate_left
  · intro w hSw; (try dsimp only at hSw); go_simp; try with_reducible rfl
  simp only [Act.put, List.setIfInBounds_toArray, List.set_cons_zero, List.set_cons_succ]
  refine wpAnyH_take (i := 4) (oi := { dst := some 10, op := Op.load 32 (Operand.tmp 3), type := 32, pos := "batch.go:144", after := #[], guard := none }) (v := ?_) rfl (by kernel_rfl) (by kernel_rfl) (by kernel_rfl) (fun _ _ _ h => h) (Or.inl ⟨by rfl, ?_⟩) (by assumption) ?_
  rotate_left
  · intro w hSw; (try dsimp only at hSw); go_simp; try with_reducible rfl
  simp only [Act.put, List.setIfInBounds_toArray, List.set_cons_zero, List.set_cons_succ]
  refine wpAnyH_ready (rs := [2]) (by kernel_rfl) (by simp) (AllReadyH.cons (o := { dst := some 8, op := Op.call { callee := Callee.value (Operand.tmp 6), args := #[Operand.tmp 7], argTypes := #[32] }, type := 35, pos := "batch.go:144", after := #[{ on := 0, ground := Ground.data }, { on := 1, ground := Ground.data }], guard := none }) rfl (fun KK hK => ?_) AllReadyH.nil)
  · go_simp
    go_at_call 62
    with_reducible refine (bat_bare base1 leader1 app1 txn1 ctl1 last1 first1 maxt1 prod1 epoch1 seq1 (.slice q1 l1.length cap1) hs).mono ?_
    rintro e wq ⟨rfl, hs⟩
    refine hK.out _ _ (HKP.out _ hs) (fun hHeld => ?_)
    clear hK KK
    try simp only [Act.put, List.setIfInBounds_toArray, List.set_cons_zero, List.set_cons_succ]
    refine wpAnyH_ready (rs := [5]) (by kernel_rfl) (by simp) (AllReadyH.cons (o := { dst := some 11, op := Op.call { callee := Callee.value (Operand.tmp 9), args := #[Operand.tmp 10], argTypes := #[32] }, type := 35, pos := "batch.go:144", after := #[{ on := 3, ground := Ground.data }, { on := 4, ground := Ground.data }, { on := 2, ground := Ground.chain }], guard := none }) rfl (fun KK hK => ?_) AllReadyH.nil)
    · go_simp
      go_at_call 62
      with_reducible refine (bat_bare base2 leader2 app2 txn2 ctl2 last2 first2 maxt2 prod2 epoch2 seq2 (.slice q2 l2.length cap2) hs).mono ?_
      rintro e wq ⟨rfl, hs⟩
      refine hK.out _ _ (HKP.out _ hs) (fun hHeld => ?_)
      clear hK KK
      try simp only [Act.put, List.setIfInBounds_toArray, List.set_cons_zero, List.set_cons_succ]
      refine wpAnyH_ready (rs := [6]) (by kernel_rfl) (by simp) (AllReadyH.cons (o := { dst := some 12, op := Op.binOp BinOp.eql 35 (Operand.tmp 8) (Operand.tmp 11) 35, type := 4, pos := "batch.go:144", after := #[{ on := 2, ground := Ground.data }, { on := 5, ground := Ground.data }], guard := none }) rfl (fun KK hK => ?_) AllReadyH.nil)
      · go_simp
        rw [HC.out]
        go_simp
        refine hK.out _ _ (HKP.out _ hs) (fun hHeld => ?_)
        clear hK KK
        try simp only [Act.put, List.setIfInBounds_toArray, List.set_cons_zero, List.set_cons_succ]
        refine wpAnyH_take (i := 7) (oi := { dst := some 13, op := Op.move (Operand.tmp 12), type := 4, pos := "batch.go:144", after := #[{ on := 6, ground := Ground.data }, { on := 5, ground := Ground.chain }], guard := none }) (v := ?_) rfl (by kernel_rfl) (by kernel_rfl) (by kernel_rfl) (fun _ _ _ h => h) (Or.inl ⟨by rfl, ?_⟩) (by assumption) ?_
        rotate_left
        · intro w hSw; (try dsimp only at hSw); go_simp; try with_reducible rfl
        simp only [Act.put, List.setIfInBounds_toArray, List.set_cons_zero, List.set_cons_succ]
        refine wpAnyH_take (i := 8) (oi := { dst := some 14, op := Op.fieldAddr 32 (Operand.tmp 2) 11, type := 0, pos := "batch.go:144", after := #[{ on := 7, ground := Ground.guard }], guard := some (7, true) }) (v := undef) rfl (by kernel_rfl) (by kernel_rfl) (by kernel_rfl) (fun _ _ _ h => h) (Or.inr ⟨by rfl, rfl⟩) (by assumption) ?_
        simp only [Act.put, List.setIfInBounds_toArray, List.set_cons_zero, List.set_cons_succ]
        refine wpAnyH_take (i := 9) (oi := { dst := some 15, op := Op.load 30 (Operand.tmp 14), type := 30, pos := "batch.go:144", after := #[{ on := 8, ground := Ground.data }, { on := 7, ground := Ground.guard }], guard := some (7, true) }) (v := undef) rfl (by kernel_rfl) (by kernel_rfl) (by kernel_rfl) (fun _ _ _ h => h) (Or.inr ⟨by rfl, rfl⟩) (by assumption) ?_
        simp only [Act.put, List.setIfInBounds_toArray, List.set_cons_zero, List.set_cons_succ]
        refine wpAnyH_take (i := 10) (oi := { dst := some 16, op := Op.fieldAddr 32 (Operand.tmp 3) 11, type := 0, pos := "batch.go:144", after := #[{ on := 7, ground := Ground.guard }], guard := some (7, true) }) (v := undef) rfl (by kernel_rfl) (by kernel_rfl) (by kernel_rfl) (fun _ _ _ h => h) (Or.inr ⟨by rfl, rfl⟩) (by assumption) ?_
        simp only [Act.put, List.setIfInBounds_toArray, List.set_cons_zero, List.set_cons_succ]
        refine wpAnyH_take (i := 11) (oi := { dst := some 17, op := Op.load 30 (Operand.tmp 16), type := 30, pos := "batch.go:144", after := #[{ on := 10, ground := Ground.data }, { on := 7, ground := Ground.guard }], guard := some (7, true) }) (v := undef) rfl (by kernel_rfl) (by kernel_rfl) (by kernel_rfl) (fun _ _ _ h => h) (Or.inr ⟨by rfl, rfl⟩) (by assumption) ?_
        simp only [Act.put, List.setIfInBounds_toArray, List.set_cons_zero, List.set_cons_succ]
        refine wpAnyH_take (i := 12) (oi := { dst := some 18, op := Op.call { callee := Callee.value (Operand.func 63), args := #[Operand.tmp 15, Operand.tmp 17, Operand.func 64], argTypes := #[30, 30, 106] }, type := 4, pos := "batch.go:144", after := #[{ on := 9, ground := Ground.data }, { on := 11, ground := Ground.data }, { on := 7, ground := Ground.chain }, { on := 7, ground := Ground.guard }], guard := some (7, true) }) (v := undef) rfl (by kernel_rfl) (by kernel_rfl) (by kernel_rfl) (fun _ _ _ h => h) (Or.inr ⟨by rfl, rfl⟩) (by assumption) ?_
        simp only [Act.put, List.setIfInBounds_toArray, List.set_cons_zero, List.set_cons_succ]
        refine wpAnyH_take (i := 13) (oi := { dst := some 19, op := Op.pick (Operand.tmp 13) (Operand.tmp 18) (Operand.const (Value.bool false)), type := 4, pos := "batch.go:144", after := #[{ on := 7, ground := Ground.data }, { on := 12, ground := Ground.data }], guard := none }) (v := ?_) rfl (by kernel_rfl) (by kernel_rfl) (by kernel_rfl) (fun _ _ _ h => h) (Or.inl ⟨by rfl, ?_⟩) (by assumption) ?_
        rotate_left
        · intro w hSw; (try dsimp only at hSw); go_simp; try with_reducible rfl
        simp only [Act.put, List.setIfInBounds_toArray, List.set_cons_zero, List.set_cons_succ]
        refine wpAnyH_take (i := 14) (oi := { dst := some 4, op := Op.assign (Operand.tmp 19), type := 4, pos := "batch.go:144", after := #[{ on := 13, ground := Ground.data }, { on := 12, ground := Ground.chain }, { on := 0, ground := Ground.phase }, { on := 1, ground := Ground.phase }, { on := 2, ground := Ground.phase }, { on := 3, ground := Ground.phase }, { on := 4, ground := Ground.phase }, { on := 5, ground := Ground.phase }, { on := 6, ground := Ground.phase }, { on := 7, ground := Ground.phase }, { on := 8, ground := Ground.phase }, { on := 9, ground := Ground.phase }, { on := 10, ground := Ground.phase }, { on := 11, ground := Ground.phase }, { on := 12, ground := Ground.phase }, { on := 13, ground := Ground.phase }], guard := none }) (v := ?_) rfl (by kernel_rfl) (by kernel_rfl) (by kernel_rfl) (fun _ _ _ h => h) (Or.inl ⟨by rfl, ?_⟩) (by assumption) ?_
        rotate_left
        · intro w hSw; (try dsimp only at hSw); go_simp; try with_reducible rfl
        simp only [Act.put, List.setIfInBounds_toArray, List.set_cons_zero, List.set_cons_succ]
        refine wpAnyH_done (by kernel_rfl) ?_ _
        go_wp2_with fail
        go_ret
        exact ⟨rfl, hs.drop.drop⟩

set_option maxHeartbeats 4000000 in
set_option maxRecDepth 100000 in
theorem bat_sameE (base : Int) (leader : Int) (app : Bool) (txn : Bool) (ctl : Bool) (last : Int) (first : Int) (maxt : Int) (prod : Int) (epoch : Int) (seq : Int) (l1 l2 : List (RecS × Value)) (q1 q2 : Option Addr) (cap1 cap2 : Nat) (hn : l1.length ≤ 1000000) (r : Bool) (hr : decide (l1.map (·.1) = l2.map (·.1)) = r) (hf1 : ∀ x ∈ l1, x.1.hdrs.length ≤ 9223372036854775807) (hf2 : ∀ x ∈ l2, x.1.hdrs.length ≤ 9223372036854775807) {W0 w : World} {K : Know} {L : List Res} (hk1 : K.has (Know.recs (.slice q1 l1.length cap1) l1)) (hk2 : K.has (Know.recs (.slice q2 l2.length cap2) l2)) (h : St W0 w K L) :
    Calls Try.prog 37 #[.agg #[.int .i64 base, .int .i64 leader, .bool app, .bool txn, .bool ctl, .int .i64 last, .int .i64 first, .int .i64 maxt, .int .i64 prod, .int .i64 epoch, .int .i64 seq, .slice q1 l1.length cap1], .agg #[.int .i64 base, .int .i64 leader, .bool app, .bool txn, .bool ctl, .int .i64 last, .int .i64 first, .int .i64 maxt, .int .i64 prod, .int .i64 epoch, .int .i64 seq, .slice q2 l2.length cap2]] w fun en w' => en = .returned (.bool r) ∧ St W0 w' K L := by
  obtain ⟨hb, hhb⟩ : ∃ b, w.heap.size = b := ⟨_, rfl⟩
  have h1 := (h.allocRaw #[.int .i64 base, .int .i64 leader, .bool app, .bool txn, .bool ctl, .int .i64 last, .int .i64 first, .int .i64 maxt, .int .i64 prod, .int .i64 epoch, .int .i64 seq, .slice q1 l1.length cap1] 32).allocRaw #[.int .i64 base, .int .i64 leader, .bool app, .bool txn, .bool ctl, .int .i64 last, .int .i64 first, .int .i64 maxt, .int .i64 prod, .int .i64 epoch, .int .i64 seq, .slice q2 l2.length cap2] 32
  rw [World.size_alloc, hhb] at h1
  obtain ⟨hc, hhc⟩ : ∃ b, hb + 1 = b := ⟨_, rfl⟩
  rw [hhc] at h1
  have H := Lib.hid h1
  have HK1 := Lib.hid hk1
  have HK2 := Lib.hid hk2
  have HN := Lib.hid hn
  have HF1 := Lib.hid hf1
  have HF2 := Lib.hid hf2
  have HE := Lib.hid hr
  have hkeep : ∀ w', St W0 w' K (.raw hc #[.int .i64 base, .int .i64 leader, .bool app, .bool txn, .bool ctl, .int .i64 last, .int .i64 first, .int .i64 maxt, .int .i64 prod, .int .i64 epoch, .int .i64 seq, .slice q2 l2.length cap2] 32 :: .raw hb #[.int .i64 base, .int .i64 leader, .bool app, .bool txn, .bool ctl, .int .i64 last, .int .i64 first, .int .i64 maxt, .int .i64 prod, .int .i64 epoch, .int .i64 seq, .slice q1 l1.length cap1] 32 :: L) → ((w'.cell? ⟨hb, 0, none⟩ = some (.int .i64 base) ∧ w'.cell? ⟨hb, 1, none⟩ = some (.int .i64 leader) ∧ w'.cell? ⟨hb, 2, none⟩ = some (.bool app) ∧ w'.cell? ⟨hb, 3, none⟩ = some (.bool txn) ∧ w'.cell? ⟨hb, 4, none⟩ = some (.bool ctl) ∧ w'.cell? ⟨hb, 5, none⟩ = some (.int .i64 last) ∧ w'.cell? ⟨hb, 6, none⟩ = some (.int .i64 first) ∧ w'.cell? ⟨hb, 7, none⟩ = some (.int .i64 maxt) ∧ w'.cell? ⟨hb, 8, none⟩ = some (.int .i64 prod) ∧ w'.cell? ⟨hb, 9, none⟩ = some (.int .i64 epoch) ∧ w'.cell? ⟨hb, 10, none⟩ = some (.int .i64 seq) ∧ w'.cell? ⟨hb, 11, none⟩ = some (.slice q1 l1.length cap1)) ∧ (w'.cell? ⟨hc, 0, none⟩ = some (.int .i64 base) ∧ w'.cell? ⟨hc, 1, none⟩ = some (.int .i64 leader) ∧ w'.cell? ⟨hc, 2, none⟩ = some (.bool app) ∧ w'.cell? ⟨hc, 3, none⟩ = some (.bool txn) ∧ w'.cell? ⟨hc, 4, none⟩ = some (.bool ctl) ∧ w'.cell? ⟨hc, 5, none⟩ = some (.int .i64 last) ∧ w'.cell? ⟨hc, 6, none⟩ = some (.int .i64 first) ∧ w'.cell? ⟨hc, 7, none⟩ = some (.int .i64 maxt) ∧ w'.cell? ⟨hc, 8, none⟩ = some (.int .i64 prod) ∧ w'.cell? ⟨hc, 9, none⟩ = some (.int .i64 epoch) ∧ w'.cell? ⟨hc, 10, none⟩ = some (.int .i64 seq) ∧ w'.cell? ⟨hc, 11, none⟩ = some (.slice q2 l2.length cap2))) := fun w' hs => ⟨⟨hs.p1.rawCell 0, hs.p1.rawCell 1, hs.p1.rawCell 2, hs.p1.rawCell 3, hs.p1.rawCell 4, hs.p1.rawCell 5, hs.p1.rawCell 6, hs.p1.rawCell 7, hs.p1.rawCell 8, hs.p1.rawCell 9, hs.p1.rawCell 10, hs.p1.rawCell 11⟩, ⟨hs.rawCell 0, hs.rawCell 1, hs.rawCell 2, hs.rawCell 3, hs.rawCell 4, hs.rawCell 5, hs.rawCell 6, hs.rawCell 7, hs.rawCell 8, hs.rawCell 9, hs.rawCell 10, hs.rawCell 11⟩⟩
  have HKP := Lib.hid hkeep
  clear h h1 hk1 hk2 hf1 hf2 hr hn hkeep
  go_enter Try.func37, Try.ntmps37
  go_upto_region 2 with (fail)
  have hs := H.out.drew
  refine wp_region_held_drew (S := fun w' => (w'.cell? ⟨hb, 0, none⟩ = some (.int .i64 base) ∧ w'.cell? ⟨hb, 1, none⟩ = some (.int .i64 leader) ∧ w'.cell? ⟨hb, 2, none⟩ = some (.bool app) ∧ w'.cell? ⟨hb, 3, none⟩ = some (.bool txn) ∧ w'.cell? ⟨hb, 4, none⟩ = some (.bool ctl) ∧ w'.cell? ⟨hb, 5, none⟩ = some (.int .i64 last) ∧ w'.cell? ⟨hb, 6, none⟩ = some (.int .i64 first) ∧ w'.cell? ⟨hb, 7, none⟩ = some (.int .i64 maxt) ∧ w'.cell? ⟨hb, 8, none⟩ = some (.int .i64 prod) ∧ w'.cell? ⟨hb, 9, none⟩ = some (.int .i64 epoch) ∧ w'.cell? ⟨hb, 10, none⟩ = some (.int .i64 seq) ∧ w'.cell? ⟨hb, 11, none⟩ = some (.slice q1 l1.length cap1)) ∧ (w'.cell? ⟨hc, 0, none⟩ = some (.int .i64 base) ∧ w'.cell? ⟨hc, 1, none⟩ = some (.int .i64 leader) ∧ w'.cell? ⟨hc, 2, none⟩ = some (.bool app) ∧ w'.cell? ⟨hc, 3, none⟩ = some (.bool txn) ∧ w'.cell? ⟨hc, 4, none⟩ = some (.bool ctl) ∧ w'.cell? ⟨hc, 5, none⟩ = some (.int .i64 last) ∧ w'.cell? ⟨hc, 6, none⟩ = some (.int .i64 first) ∧ w'.cell? ⟨hc, 7, none⟩ = some (.int .i64 maxt) ∧ w'.cell? ⟨hc, 8, none⟩ = some (.int .i64 prod) ∧ w'.cell? ⟨hc, 9, none⟩ = some (.int .i64 epoch) ∧ w'.cell? ⟨hc, 10, none⟩ = some (.int .i64 seq) ∧ w'.cell? ⟨hc, 11, none⟩ = some (.slice q2 l2.length cap2))) (by kernel_rfl) (HKP.out _ hs) (fun hHeld => ?_)
  refine wpAnyH_take (i := 0) (oi := { dst := some 6, op := Op.move (Operand.tmp 5), type := 107, pos := "batch.go:144", after := #[], guard := none }) (v := ?_) rfl (by kernel_rfl) (by kernel_rfl) (by kernel_rfl) (fun _ _ _ h => h) (Or.inl ⟨by rfl, ?_⟩) (by assumption) ?_
  rotate_left
  · intro w hSw; (try dsimp only at hSw); go_simp; try with_reducible rfl
  simp only [Act.put, List.setIfInBounds_toArray, List.set_cons_zero, List.set_cons_succ]
  refine wpAnyH_take (i := 1) (oi := { dst := some 7, op := Op.load 32 (Operand.tmp 2), type := 32, pos := "batch.go:144", after := #[], guard := none }) (v := ?_) rfl (by kernel_rfl) (by kernel_rfl) (by kernel_rfl) (fun _ _ _ h => h) (Or.inl ⟨by rfl, ?_⟩) (by assumption) ?_
  rotate_left
  · intro w hSw; (try dsimp only at hSw); go_simp; try with_reducible rfl
  simp only [Act.put, List.setIfInBounds_toArray, List.set_cons_zero, List.set_cons_succ]
  refine wpAnyH_take (i := 3) (oi := { dst := some 9, op := Op.move (Operand.tmp 5), type := 107, pos := "batch.go:144", after := #[], guard := none }) (v := ?_) rfl (by kernel_rfl) (by kernel_rfl) (by kernel_rfl) (fun _ _ _ h => h) (Or.inl ⟨by rfl, ?_⟩) (by assumption) ?_
  rotate_left
  · intro w hSw; (try dsimp only at hSw); go_simp; try with_reducible rfl
  simp only [Act.put, List.setIfInBounds_toArray, List.set_cons_zero, List.set_cons_succ]
  refine wpAnyH_take (i := 4) (oi := { dst := some 10, op := Op.load 32 (Operand.tmp 3), type := 32, pos := "batch.go:144", after := #[], guard := none }) (v := ?_) rfl (by kernel_rfl) (by kernel_rfl) (by kernel_rfl) (fun _ _ _ h => h) (Or.inl ⟨by rfl, ?_⟩) (by assumption) ?_
  rotate_left
  · intro w hSw; (try dsimp only at hSw); go_simp; try with_reducible rfl
  simp only [Act.put, List.setIfInBounds_toArray, List.set_cons_zero, List.set_cons_succ]
  refine wpAnyH_ready (rs := [2]) (by kernel_rfl) (by simp) (AllReadyH.cons (o := { dst := some 8, op := Op.call { callee := Callee.value (Operand.tmp 6), args := #[Operand.tmp 7], argTypes := #[32] }, type := 35, pos := "batch.go:144", after := #[{ on := 0, ground := Ground.data }, { on := 1, ground := Ground.data }], guard := none }) rfl (fun KK hK => ?_) AllReadyH.nil)
  · go_simp
    go_at_call 62
    with_reducible refine (bat_bare base leader app txn ctl last first maxt prod epoch seq (.slice q1 l1.length cap1) hs).mono ?_
    rintro e wq ⟨rfl, hs⟩
    refine hK.out _ _ (HKP.out _ hs) (fun hHeld => ?_)
    clear hK KK
    try simp only [Act.put, List.setIfInBounds_toArray, List.set_cons_zero, List.set_cons_succ]
    refine wpAnyH_ready (rs := [5]) (by kernel_rfl) (by simp) (AllReadyH.cons (o := { dst := some 11, op := Op.call { callee := Callee.value (Operand.tmp 9), args := #[Operand.tmp 10], argTypes := #[32] }, type := 35, pos := "batch.go:144", after := #[{ on := 3, ground := Ground.data }, { on := 4, ground := Ground.data }, { on := 2, ground := Ground.chain }], guard := none }) rfl (fun KK hK => ?_) AllReadyH.nil)
    · go_simp
      go_at_call 62
      with_reducible refine (bat_bare base leader app txn ctl last first maxt prod epoch seq (.slice q2 l2.length cap2) hs).mono ?_
      rintro e wq ⟨rfl, hs⟩
      refine hK.out _ _ (HKP.out _ hs) (fun hHeld => ?_)
      clear hK KK
      try simp only [Act.put, List.setIfInBounds_toArray, List.set_cons_zero, List.set_cons_succ]
      refine wpAnyH_take (i := 6) (oi := { dst := some 12, op := Op.binOp BinOp.eql 35 (Operand.tmp 8) (Operand.tmp 11) 35, type := 4, pos := "batch.go:144", after := #[{ on := 2, ground := Ground.data }, { on := 5, ground := Ground.data }], guard := none }) (v := ?_) rfl (by kernel_rfl) (by kernel_rfl) (by kernel_rfl) (fun _ _ _ h => h) (Or.inl ⟨by rfl, ?_⟩) (by assumption) ?_
      rotate_left
      · intro w hSw; (try dsimp only at hSw); go_simp; try with_reducible rfl
      simp only [Act.put, List.setIfInBounds_toArray, List.set_cons_zero, List.set_cons_succ]
      refine wpAnyH_take (i := 7) (oi := { dst := some 13, op := Op.move (Operand.tmp 12), type := 4, pos := "batch.go:144", after := #[{ on := 6, ground := Ground.data }, { on := 5, ground := Ground.chain }], guard := none }) (v := ?_) rfl (by kernel_rfl) (by kernel_rfl) (by kernel_rfl) (fun _ _ _ h => h) (Or.inl ⟨by rfl, ?_⟩) (by assumption) ?_
      rotate_left
      · intro w hSw; (try dsimp only at hSw); go_simp; try with_reducible rfl
      simp only [Act.put, List.setIfInBounds_toArray, List.set_cons_zero, List.set_cons_succ]
      refine wpAnyH_take (i := 8) (oi := { dst := some 14, op := Op.fieldAddr 32 (Operand.tmp 2) 11, type := 0, pos := "batch.go:144", after := #[{ on := 7, ground := Ground.guard }], guard := some (7, true) }) (v := ?_) rfl (by kernel_rfl) (by kernel_rfl) (by kernel_rfl) (fun _ _ _ h => h) (Or.inl ⟨by rfl, ?_⟩) (by assumption) ?_
      rotate_left
      · intro w hSw; (try dsimp only at hSw); go_simp; try with_reducible rfl
      simp only [Act.put, List.setIfInBounds_toArray, List.set_cons_zero, List.set_cons_succ]
      refine wpAnyH_take (i := 9) (oi := { dst := some 15, op := Op.load 30 (Operand.tmp 14), type := 30, pos := "batch.go:144", after := #[{ on := 8, ground := Ground.data }, { on := 7, ground := Ground.guard }], guard := some (7, true) }) (v := ?_) rfl (by kernel_rfl) (by kernel_rfl) (by kernel_rfl) (fun _ _ _ h => h) (Or.inl ⟨by rfl, ?_⟩) (by assumption) ?_
      rotate_left
      · intro w hSw; (try dsimp only at hSw); go_simp; try with_reducible rfl
      simp only [Act.put, List.setIfInBounds_toArray, List.set_cons_zero, List.set_cons_succ]
      refine wpAnyH_take (i := 10) (oi := { dst := some 16, op := Op.fieldAddr 32 (Operand.tmp 3) 11, type := 0, pos := "batch.go:144", after := #[{ on := 7, ground := Ground.guard }], guard := some (7, true) }) (v := ?_) rfl (by kernel_rfl) (by kernel_rfl) (by kernel_rfl) (fun _ _ _ h => h) (Or.inl ⟨by rfl, ?_⟩) (by assumption) ?_
      rotate_left
      · intro w hSw; (try dsimp only at hSw); go_simp; try with_reducible rfl
      simp only [Act.put, List.setIfInBounds_toArray, List.set_cons_zero, List.set_cons_succ]
      refine wpAnyH_take (i := 11) (oi := { dst := some 17, op := Op.load 30 (Operand.tmp 16), type := 30, pos := "batch.go:144", after := #[{ on := 10, ground := Ground.data }, { on := 7, ground := Ground.guard }], guard := some (7, true) }) (v := ?_) rfl (by kernel_rfl) (by kernel_rfl) (by kernel_rfl) (fun _ _ _ h => h) (Or.inl ⟨by rfl, ?_⟩) (by assumption) ?_
      rotate_left
      · intro w hSw; (try dsimp only at hSw); go_simp; try with_reducible rfl
      simp only [Act.put, List.setIfInBounds_toArray, List.set_cons_zero, List.set_cons_succ]
      refine wpAnyH_ready (rs := [12]) (by kernel_rfl) (by simp) (AllReadyH.cons (o := { dst := some 18, op := Op.call { callee := Callee.value (Operand.func 63), args := #[Operand.tmp 15, Operand.tmp 17, Operand.func 64], argTypes := #[30, 30, 106] }, type := 4, pos := "batch.go:144", after := #[{ on := 9, ground := Ground.data }, { on := 11, ground := Ground.data }, { on := 7, ground := Ground.chain }, { on := 7, ground := Ground.guard }], guard := some (7, true) }) rfl (fun KK hK => ?_) AllReadyH.nil)
      · go_simp
        go_at_call 63
        with_reducible refine (sl_eqf l1 l2 q1 q2 cap1 cap2 HN.out r HE.out HF1.out HF2.out HK1.out HK2.out hs).mono ?_
        rintro e wq ⟨rfl, hs⟩
        refine hK.out _ _ (HKP.out _ hs) (fun hHeld => ?_)
        clear hK KK
        try simp only [Act.put, List.setIfInBounds_toArray, List.set_cons_zero, List.set_cons_succ]
        refine wpAnyH_take (i := 13) (oi := { dst := some 19, op := Op.pick (Operand.tmp 13) (Operand.tmp 18) (Operand.const (Value.bool false)), type := 4, pos := "batch.go:144", after := #[{ on := 7, ground := Ground.data }, { on := 12, ground := Ground.data }], guard := none }) (v := ?_) rfl (by kernel_rfl) (by kernel_rfl) (by kernel_rfl) (fun _ _ _ h => h) (Or.inl ⟨by rfl, ?_⟩) (by assumption) ?_
        rotate_left
        · intro w hSw; (try dsimp only at hSw); go_simp; try with_reducible rfl
        simp only [Act.put, List.setIfInBounds_toArray, List.set_cons_zero, List.set_cons_succ]
        refine wpAnyH_take (i := 14) (oi := { dst := some 4, op := Op.assign (Operand.tmp 19), type := 4, pos := "batch.go:144", after := #[{ on := 13, ground := Ground.data }, { on := 12, ground := Ground.chain }, { on := 0, ground := Ground.phase }, { on := 1, ground := Ground.phase }, { on := 2, ground := Ground.phase }, { on := 3, ground := Ground.phase }, { on := 4, ground := Ground.phase }, { on := 5, ground := Ground.phase }, { on := 6, ground := Ground.phase }, { on := 7, ground := Ground.phase }, { on := 8, ground := Ground.phase }, { on := 9, ground := Ground.phase }, { on := 10, ground := Ground.phase }, { on := 11, ground := Ground.phase }, { on := 12, ground := Ground.phase }, { on := 13, ground := Ground.phase }], guard := none }) (v := ?_) rfl (by kernel_rfl) (by kernel_rfl) (by kernel_rfl) (fun _ _ _ h => h) (Or.inl ⟨by rfl, ?_⟩) (by assumption) ?_
        rotate_left
        · intro w hSw; (try dsimp only at hSw); go_simp; try with_reducible rfl
        simp only [Act.put, List.setIfInBounds_toArray, List.set_cons_zero, List.set_cons_succ]
        refine wpAnyH_done (by kernel_rfl) ?_ _
        go_wp2_with fail
        go_ret
        exact ⟨rfl, hs.drop.drop⟩

theorem bat_sameG (base1 : Int) (leader1 : Int) (app1 : Bool) (txn1 : Bool) (ctl1 : Bool) (last1 : Int) (first1 : Int) (maxt1 : Int) (prod1 : Int) (epoch1 : Int) (seq1 : Int) (base2 : Int) (leader2 : Int) (app2 : Bool) (txn2 : Bool) (ctl2 : Bool) (last2 : Int) (first2 : Int) (maxt2 : Int) (prod2 : Int) (epoch2 : Int) (seq2 : Int) (l1 l2 : List (RecS × Value)) (q1 q2 : Option Addr) (cap1 cap2 : Nat) (hn : l1.length ≤ 1000000) (r : Bool) (hr : decide ((⟨base1, leader1, app1, txn1, ctl1, last1, first1, maxt1, prod1, epoch1, seq1, l1.map (·.1)⟩ : BatS) = (⟨base2, leader2, app2, txn2, ctl2, last2, first2, maxt2, prod2, epoch2, seq2, l2.map (·.1)⟩ : BatS)) = r) (hf1 : ∀ x ∈ l1, x.1.hdrs.length ≤ 9223372036854775807) (hf2 : ∀ x ∈ l2, x.1.hdrs.length ≤ 9223372036854775807) {W0 w : World} {K : Know} {L : List Res} (hk1 : K.has (Know.recs (.slice q1 l1.length cap1) l1)) (hk2 : K.has (Know.recs (.slice q2 l2.length cap2) l2)) (h : St W0 w K L) :
    Calls Try.prog 37 #[.agg #[.int .i64 base1, .int .i64 leader1, .bool app1, .bool txn1, .bool ctl1, .int .i64 last1, .int .i64 first1, .int .i64 maxt1, .int .i64 prod1, .int .i64 epoch1, .int .i64 seq1, .slice q1 l1.length cap1], .agg #[.int .i64 base2, .int .i64 leader2, .bool app2, .bool txn2, .bool ctl2, .int .i64 last2, .int .i64 first2, .int .i64 maxt2, .int .i64 prod2, .int .i64 epoch2, .int .i64 seq2, .slice q2 l2.length cap2]] w fun en w' => en = .returned (.bool r) ∧ St W0 w' K L := by
  by_cases hp : base1 = base2 ∧ leader1 = leader2 ∧ attrN app1 txn1 ctl1 3 = attrN app2 txn2 ctl2 3 ∧ last1 = last2 ∧ first1 = first2 ∧ maxt1 = maxt2 ∧ prod1 = prod2 ∧ epoch1 = epoch2 ∧ seq1 = seq2
  · obtain ⟨rfl, rfl, ha, rfl, rfl, rfl, rfl, rfl, rfl⟩ := hp
    obtain ⟨rfl, rfl, rfl⟩ := attrN_inj _ _ _ _ _ _ ha
    exact bat_sameE base1 leader1 app1 txn1 ctl1 last1 first1 maxt1 prod1 epoch1 seq1 l1 l2 q1 q2 cap1 cap2 hn r (by rw [← hr]; exact decide_eq_decide.mpr ⟨fun e => by rw [e], fun e => by injection e⟩) hf1 hf2 hk1 hk2 h
  · have hr2 : r = false := batS_ne (by intro hh; injection hh; subst_vars; exact hp ⟨rfl, rfl, rfl, rfl, rfl, rfl, rfl, rfl, rfl⟩) hr
    subst hr2
    exact bat_sameF base1 leader1 app1 txn1 ctl1 last1 first1 maxt1 prod1 epoch1 seq1 base2 leader2 app2 txn2 ctl2 last2 first2 maxt2 prod2 epoch2 seq2 l1 l2 q1 q2 cap1 cap2 hp h
theorem bat_sameB (x y : BatS) (l1 l2 : List (RecS × Value)) (q1 q2 : Option Addr) (cap1 cap2 : Nat) (hn : l1.length ≤ 1000000) (hx : l1.map (·.1) = x.recs) (hy : l2.map (·.1) = y.recs) (r : Bool) (hr : decide (x = y) = r) (hf1 : ∀ x ∈ l1, x.1.hdrs.length ≤ 9223372036854775807) (hf2 : ∀ x ∈ l2, x.1.hdrs.length ≤ 9223372036854775807) {W0 w : World} {K : Know} {L : List Res} (hk1 : K.has (Know.recs (.slice q1 l1.length cap1) l1)) (hk2 : K.has (Know.recs (.slice q2 l2.length cap2) l2)) (h : St W0 w K L) :
    Calls Try.prog 37 #[.agg #[.int .i64 x.base, .int .i64 x.leader, .bool x.app, .bool x.txn, .bool x.ctl, .int .i64 x.last, .int .i64 x.first, .int .i64 x.maxt, .int .i64 x.prod, .int .i64 x.epoch, .int .i64 x.seq, .slice q1 l1.length cap1], .agg #[.int .i64 y.base, .int .i64 y.leader, .bool y.app, .bool y.txn, .bool y.ctl, .int .i64 y.last, .int .i64 y.first, .int .i64 y.maxt, .int .i64 y.prod, .int .i64 y.epoch, .int .i64 y.seq, .slice q2 l2.length cap2]] w fun en w' => en = .returned (.bool r) ∧ St W0 w' K L :=
  bat_sameG x.base x.leader x.app x.txn x.ctl x.last x.first x.maxt x.prod x.epoch x.seq y.base y.leader y.app y.txn y.ctl y.last y.first y.maxt y.prod y.epoch y.seq l1 l2 q1 q2 cap1 cap2 hn r (by rw [hx, hy]; exact hr) hf1 hf2 hk1 hk2 h

end Go.Proofs.Ytcjgdlfcfcabiaa

/- Are two batches one: those that are: the document. -/
namespace Go.Proofs.Ytcjgdlfcfcabiaa
open Go.RowKit

set_option maxHeartbeats 4000000 in
set_option maxRecDepth 100000 in
theorem ref11_sameT0 (base : Int) (leader : Int) (app : Bool) (txn : Bool) (ctl : Bool) (last : Int) (first : Int) (maxt : Int) (prod : Int) (epoch : Int) (seq : Int) (l1 l2 : List (RecS × Value)) (q1 q2 : Option Addr) (cap1 cap2 : Nat) (hn : l1.length ≤ 1000000) (hr : l1.map (·.1) = l2.map (·.1)) (hf1 : ∀ x ∈ l1, x.1.hdrs.length ≤ 9223372036854775807) (hf2 : ∀ x ∈ l2, x.1.hdrs.length ≤ 9223372036854775807) {W0 w : World} {K : Know} {L : List Res} (hk1 : K.has (Know.recs (.slice q1 l1.length cap1) l1)) (hk2 : K.has (Know.recs (.slice q2 l2.length cap2) l2)) (h : St W0 w K L) :
    Calls Try.prog 36 #[.agg #[.int .i64 base, .int .i64 leader, .bool app, .bool txn, .bool ctl, .int .i64 last, .int .i64 first, .int .i64 maxt, .int .i64 prod, .int .i64 epoch, .int .i64 seq, .slice q1 l1.length cap1], .agg #[.int .i64 base, .int .i64 leader, .bool app, .bool txn, .bool ctl, .int .i64 last, .int .i64 first, .int .i64 maxt, .int .i64 prod, .int .i64 epoch, .int .i64 seq, .slice q2 l2.length cap2]] w fun en w' => en = .returned (.bool true) ∧ St W0 w' K L := by
  obtain ⟨hb, hhb⟩ : ∃ b, w.heap.size = b := ⟨_, rfl⟩
  have h1 := (h.allocRaw #[.int .i64 base, .int .i64 leader, .bool app, .bool txn, .bool ctl, .int .i64 last, .int .i64 first, .int .i64 maxt, .int .i64 prod, .int .i64 epoch, .int .i64 seq, .slice q1 l1.length cap1] 32).allocRaw #[.int .i64 base, .int .i64 leader, .bool app, .bool txn, .bool ctl, .int .i64 last, .int .i64 first, .int .i64 maxt, .int .i64 prod, .int .i64 epoch, .int .i64 seq, .slice q2 l2.length cap2] 32
  rw [World.size_alloc, hhb] at h1
  obtain ⟨hc, hhc⟩ : ∃ b, hb + 1 = b := ⟨_, rfl⟩
  rw [hhc] at h1
  obtain ⟨b0, b1, b2, b3, b4, b5, b6, b7, b8, b9, b10, b11, fb0, fb1, fb2, fb3, fb4, fb5, fb6, fb7, fb8, fb9, fb10, fb11⟩ := raw12 (b := hc) h1
  obtain ⟨a0, a1, a2, a3, a4, a5, a6, a7, a8, a9, a10, a11, fa0, fa1, fa2, fa3, fa4, fa5, fa6, fa7, fa8, fa9, fa10, fa11⟩ := raw12 (b := hb) h1.p1
  have H := Lib.hid h1
  have HK1 := Lib.hid hk1
  have HK2 := Lib.hid hk2
  have hni : (l1.length : Int) ≤ 1000000 := by omega
  have HF1 := Lib.hid hf1
  have HF2 := Lib.hid hf2
  have hlen : l1.length = l2.length := by have := congrArg List.length hr; simpa using this
  have HLEN := Lib.hid hlen
  have HR := Lib.hid hr
  have g1 : ((l1.length : Int) == (l2.length : Int)) = true := by rw [hlen]; exact beq_self_eq_true _
  have g2 : ((l1.length : Int) != (l2.length : Int)) = false := by simp [bne, g1]
  have g3 : (l2.length : Int) = (l1.length : Int) := by omega
  clear h h1 hk1 hk2 hf1 hf2 hr hlen fa0 fb0 fa1 fb1 fa2 fb2 fa3 fb3 fa4 fb4 fa5 fb5 fa6 fb6 fa7 fb7 fa8 fb8 fa9 fb9 fa10 fb10 fa11 fb11
  go_enter Try.func36, Try.ntmps36
  go_wp2
  clear g1 g2 g3
  clear a0 b0 a1 b1 a2 b2 a3 b3 a4 b4 a5 b5 a6 b6 a7 b7 a8 b8 a9 b9 a10 b10 a11 b11
  go_loopw [5] (fun iv wr => ∃ k : Nat, k ≤ l1.length ∧ iv = .int .i64 k ∧ St W0 wr K (.raw hc #[.int .i64 base, .int .i64 leader, .bool app, .bool txn, .bool ctl, .int .i64 last, .int .i64 first, .int .i64 maxt, .int .i64 prod, .int .i64 epoch, .int .i64 seq, .slice q2 l2.length cap2] 32 :: .raw hb #[.int .i64 base, .int .i64 leader, .bool app, .bool txn, .bool ctl, .int .i64 last, .int .i64 first, .int .i64 maxt, .int .i64 prod, .int .i64 epoch, .int .i64 seq, .slice q1 l1.length cap1] 32 :: L)) (fun iv _ => l1.length - (intOf iv).toNat)
  case atStart => exact ⟨0, Nat.zero_le _, rfl, H.out⟩
  case round =>
    obtain ⟨k, hkl, rfl, hst⟩ := hrel
    clear H
    have H := Lib.hid hst
    clear hst
    have b11 : wr.cell? ⟨hc, 11, none⟩ = some (.slice q2 l2.length cap2) := H.out.rawCell 11
    have a11 : wr.cell? ⟨hb, 11, none⟩ = some (.slice q1 l1.length cap1) := H.out.p1.rawCell 11
    by_cases hlt : k < l1.length
    · have hlt2 : k < l2.length := by have := HLEN.out; omega
      obtain ⟨b1', off1, hqq1⟩ := recs_at HK1.out H.out (by omega)
      subst hqq1
      obtain ⟨⟨x1, v1⟩, hx1⟩ : ∃ x, l1[k] = x := ⟨_, rfl⟩
      have cc1 := recs_cell HK1.out H.out k (by omega) (x1, v1) hx1
      have hmem1 : (x1, v1) ∈ l1 := hx1 ▸ List.getElem_mem _
      have XF1 := Lib.hid (show x1.hdrs.length ≤ 9223372036854775807 from HF1.out (x1, v1) hmem1)
      have XK1 := Lib.hid (show K.has (Know.flat RHdr v1 3 x1.hdrs) from recs_hdrs HK1.out hmem1)
      simp only at cc1
      obtain ⟨c10, c11, c12, c13, c14, c15, c16⟩ := cc1
      rw [← Nat.add_assoc] at c11 c12 c13 c14 c15 c16
      have HX1 := Lib.hid (show l1[k].1 = x1 by rw [hx1])
      have HXX1 := Lib.hid hx1
      clear hmem1 hx1
      obtain ⟨b2', off2, hqq2⟩ := recs_at HK2.out H.out (by omega)
      subst hqq2
      obtain ⟨⟨x2, v2⟩, hx2⟩ : ∃ x, l2[k] = x := ⟨_, rfl⟩
      have cc2 := recs_cell HK2.out H.out k (by omega) (x2, v2) hx2
      have hmem2 : (x2, v2) ∈ l2 := hx2 ▸ List.getElem_mem _
      have XF2 := Lib.hid (show x2.hdrs.length ≤ 9223372036854775807 from HF2.out (x2, v2) hmem2)
      have XK2 := Lib.hid (show K.has (Know.flat RHdr v2 3 x2.hdrs) from recs_hdrs HK2.out hmem2)
      simp only at cc2
      obtain ⟨c20, c21, c22, c23, c24, c25, c26⟩ := cc2
      rw [← Nat.add_assoc] at c21 c22 c23 c24 c25 c26
      have HX2 := Lib.hid (show l2[k].1 = x2 by rw [hx2])
      have HXX2 := Lib.hid hx2
      clear hmem2 hx2
      have hki : (k : Int) < (l1.length : Int) := by omega
      have hki2 : (k : Int) < (l2.length : Int) := by omega
      have hk0 : (0 : Int) ≤ (k : Int) := Int.natCast_nonneg _
      have E1 := Lib.hid (show decide (x1 = x2) = true from decide_eq_true (Decidable.byContradiction fun hne => map_ne_of_get l1 l2 k hlt hlt2 x1 x2 HX1.out HX2.out hne HR.out))
      have hkeep : ∀ w', St W0 w' K (.raw hc #[.int .i64 base, .int .i64 leader, .bool app, .bool txn, .bool ctl, .int .i64 last, .int .i64 first, .int .i64 maxt, .int .i64 prod, .int .i64 epoch, .int .i64 seq, .slice (some ⟨b2', off2, none⟩) l2.length cap2] 32 :: .raw hb #[.int .i64 base, .int .i64 leader, .bool app, .bool txn, .bool ctl, .int .i64 last, .int .i64 first, .int .i64 maxt, .int .i64 prod, .int .i64 epoch, .int .i64 seq, .slice (some ⟨b1', off1, none⟩) l1.length cap1] 32 :: L) → ((w'.cell? ⟨hb, 11, none⟩ = some (.slice (some ⟨b1', off1, none⟩) l1.length cap1)) ∧ (w'.cell? ⟨hc, 11, none⟩ = some (.slice (some ⟨b2', off2, none⟩) l2.length cap2)) ∧ (w'.cell? ⟨b1', off1 + k * 7, none⟩ = some (.int .i64 x1.time) ∧ w'.cell? ⟨b1', off1 + k * 7 + 1, none⟩ = some (.int .i64 x1.off) ∧ w'.cell? ⟨b1', off1 + k * 7 + 2, none⟩ = some (.bool x1.key.null) ∧ w'.cell? ⟨b1', off1 + k * 7 + 3, none⟩ = some (.string (bb x1.key.data)) ∧ w'.cell? ⟨b1', off1 + k * 7 + 4, none⟩ = some (.bool x1.val.null) ∧ w'.cell? ⟨b1', off1 + k * 7 + 5, none⟩ = some (.string (bb x1.val.data)) ∧ w'.cell? ⟨b1', off1 + k * 7 + 6, none⟩ = some (v1)) ∧ (w'.cell? ⟨b2', off2 + k * 7, none⟩ = some (.int .i64 x2.time) ∧ w'.cell? ⟨b2', off2 + k * 7 + 1, none⟩ = some (.int .i64 x2.off) ∧ w'.cell? ⟨b2', off2 + k * 7 + 2, none⟩ = some (.bool x2.key.null) ∧ w'.cell? ⟨b2', off2 + k * 7 + 3, none⟩ = some (.string (bb x2.key.data)) ∧ w'.cell? ⟨b2', off2 + k * 7 + 4, none⟩ = some (.bool x2.val.null) ∧ w'.cell? ⟨b2', off2 + k * 7 + 5, none⟩ = some (.string (bb x2.val.data)) ∧ w'.cell? ⟨b2', off2 + k * 7 + 6, none⟩ = some (v2))) := fun w' hs => by
        have r1 := recs_cell HK1.out hs k hlt (x1, v1) HXX1.out
        have r2 := recs_cell HK2.out hs k hlt2 (x2, v2) HXX2.out
        simp only [← Nat.add_assoc] at r1 r2
        exact ⟨hs.p1.rawCell 11, hs.rawCell 11, r1, r2⟩
      have HKP := Lib.hid hkeep
      clear hkeep HX1 HX2 HXX1 HXX2
      clear hlt2
      go_upto_region 6 with (fail)
      have hs := H.out.drew
      refine wp_region_held_drew (S := fun w' => (w'.cell? ⟨hb, 11, none⟩ = some (.slice (some ⟨b1', off1, none⟩) l1.length cap1)) ∧ (w'.cell? ⟨hc, 11, none⟩ = some (.slice (some ⟨b2', off2, none⟩) l2.length cap2)) ∧ (w'.cell? ⟨b1', off1 + k * 7, none⟩ = some (.int .i64 x1.time) ∧ w'.cell? ⟨b1', off1 + k * 7 + 1, none⟩ = some (.int .i64 x1.off) ∧ w'.cell? ⟨b1', off1 + k * 7 + 2, none⟩ = some (.bool x1.key.null) ∧ w'.cell? ⟨b1', off1 + k * 7 + 3, none⟩ = some (.string (bb x1.key.data)) ∧ w'.cell? ⟨b1', off1 + k * 7 + 4, none⟩ = some (.bool x1.val.null) ∧ w'.cell? ⟨b1', off1 + k * 7 + 5, none⟩ = some (.string (bb x1.val.data)) ∧ w'.cell? ⟨b1', off1 + k * 7 + 6, none⟩ = some (v1)) ∧ (w'.cell? ⟨b2', off2 + k * 7, none⟩ = some (.int .i64 x2.time) ∧ w'.cell? ⟨b2', off2 + k * 7 + 1, none⟩ = some (.int .i64 x2.off) ∧ w'.cell? ⟨b2', off2 + k * 7 + 2, none⟩ = some (.bool x2.key.null) ∧ w'.cell? ⟨b2', off2 + k * 7 + 3, none⟩ = some (.string (bb x2.key.data)) ∧ w'.cell? ⟨b2', off2 + k * 7 + 4, none⟩ = some (.bool x2.val.null) ∧ w'.cell? ⟨b2', off2 + k * 7 + 5, none⟩ = some (.string (bb x2.val.data)) ∧ w'.cell? ⟨b2', off2 + k * 7 + 6, none⟩ = some (v2))) (by kernel_rfl) (HKP.out _ hs) (fun hHeld => ?_)
      refine wpAnyH_take (i := 0) (oi := { dst := some 97, op := Op.fieldAddr 32 (Operand.tmp 2) 11, type := 0, pos := "ref.go:180", after := #[], guard := none }) (v := ?_) rfl (by kernel_rfl) (by kernel_rfl) (by kernel_rfl) (fun _ _ _ h => h) (Or.inl ⟨by rfl, ?_⟩) (by assumption) ?_
      rotate_left
      · intro w hSw; (try dsimp only at hSw); go_simp; try with_reducible rfl
      simp only [Act.put, List.setIfInBounds_toArray, List.set_cons_zero, List.set_cons_succ]
      refine wpAnyH_take (i := 1) (oi := { dst := some 98, op := Op.load 30 (Operand.tmp 97), type := 30, pos := "ref.go:180", after := #[{ on := 0, ground := Ground.data }], guard := none }) (v := ?_) rfl (by kernel_rfl) (by kernel_rfl) (by kernel_rfl) (fun _ _ _ h => h) (Or.inl ⟨by rfl, ?_⟩) (by assumption) ?_
      rotate_left
      · intro w hSw; (try dsimp only at hSw); go_simp; try with_reducible rfl
      simp only [Act.put, List.setIfInBounds_toArray, List.set_cons_zero, List.set_cons_succ]
      refine wpAnyH_take (i := 2) (oi := { dst := some 99, op := Op.move (Operand.tmp 5), type := 3, pos := "ref.go:180", after := #[], guard := none }) (v := ?_) rfl (by kernel_rfl) (by kernel_rfl) (by kernel_rfl) (fun _ _ _ h => h) (Or.inl ⟨by rfl, ?_⟩) (by assumption) ?_
      rotate_left
      · intro w hSw; (try dsimp only at hSw); go_simp; try with_reducible rfl
      simp only [Act.put, List.setIfInBounds_toArray, List.set_cons_zero, List.set_cons_succ]
      refine wpAnyH_take (i := 3) (oi := { dst := some 100, op := Op.indexAddr 30 (Operand.tmp 98) (Operand.tmp 99), type := 0, pos := "ref.go:180", after := #[{ on := 1, ground := Ground.data }, { on := 2, ground := Ground.data }], guard := none }) (v := ?_) rfl (by kernel_rfl) (by kernel_rfl) (by kernel_rfl) (fun _ _ _ h => h) (Or.inl ⟨by rfl, ?_⟩) (by assumption) ?_
      rotate_left
      · intro w hSw; (try dsimp only at hSw); go_simp; try with_reducible rfl
      simp only [Act.put, List.setIfInBounds_toArray, List.set_cons_zero, List.set_cons_succ]
      refine wpAnyH_take (i := 4) (oi := { dst := some 101, op := Op.load 64 (Operand.tmp 100), type := 64, pos := "ref.go:180", after := #[{ on := 3, ground := Ground.data }], guard := none }) (v := ?_) rfl (by kernel_rfl) (by kernel_rfl) (by kernel_rfl) (fun _ _ _ h => h) (Or.inl ⟨by rfl, ?_⟩) (by assumption) ?_
      rotate_left
      · intro w hSw; (try dsimp only at hSw); go_simp; try with_reducible rfl
      simp only [Act.put, List.setIfInBounds_toArray, List.set_cons_zero, List.set_cons_succ]
      refine wpAnyH_take (i := 5) (oi := { dst := some 102, op := Op.fieldAddr 32 (Operand.tmp 3) 11, type := 0, pos := "ref.go:180", after := #[], guard := none }) (v := ?_) rfl (by kernel_rfl) (by kernel_rfl) (by kernel_rfl) (fun _ _ _ h => h) (Or.inl ⟨by rfl, ?_⟩) (by assumption) ?_
      rotate_left
      · intro w hSw; (try dsimp only at hSw); go_simp; try with_reducible rfl
      simp only [Act.put, List.setIfInBounds_toArray, List.set_cons_zero, List.set_cons_succ]
      refine wpAnyH_take (i := 6) (oi := { dst := some 103, op := Op.load 30 (Operand.tmp 102), type := 30, pos := "ref.go:180", after := #[{ on := 5, ground := Ground.data }], guard := none }) (v := ?_) rfl (by kernel_rfl) (by kernel_rfl) (by kernel_rfl) (fun _ _ _ h => h) (Or.inl ⟨by rfl, ?_⟩) (by assumption) ?_
      rotate_left
      · intro w hSw; (try dsimp only at hSw); go_simp; try with_reducible rfl
      simp only [Act.put, List.setIfInBounds_toArray, List.set_cons_zero, List.set_cons_succ]
      refine wpAnyH_take (i := 7) (oi := { dst := some 104, op := Op.move (Operand.tmp 5), type := 3, pos := "ref.go:180", after := #[], guard := none }) (v := ?_) rfl (by kernel_rfl) (by kernel_rfl) (by kernel_rfl) (fun _ _ _ h => h) (Or.inl ⟨by rfl, ?_⟩) (by assumption) ?_
      rotate_left
      · intro w hSw; (try dsimp only at hSw); go_simp; try with_reducible rfl
      simp only [Act.put, List.setIfInBounds_toArray, List.set_cons_zero, List.set_cons_succ]
      refine wpAnyH_take (i := 8) (oi := { dst := some 105, op := Op.indexAddr 30 (Operand.tmp 103) (Operand.tmp 104), type := 0, pos := "ref.go:180", after := #[{ on := 6, ground := Ground.data }, { on := 7, ground := Ground.data }], guard := none }) (v := ?_) rfl (by kernel_rfl) (by kernel_rfl) (by kernel_rfl) (fun _ _ _ h => h) (Or.inl ⟨by rfl, ?_⟩) (by assumption) ?_
      rotate_left
      · intro w hSw; (try dsimp only at hSw); go_simp; try with_reducible rfl
      simp only [Act.put, List.setIfInBounds_toArray, List.set_cons_zero, List.set_cons_succ]
      refine wpAnyH_take (i := 9) (oi := { dst := some 106, op := Op.load 64 (Operand.tmp 105), type := 64, pos := "ref.go:180", after := #[{ on := 8, ground := Ground.data }], guard := none }) (v := ?_) rfl (by kernel_rfl) (by kernel_rfl) (by kernel_rfl) (fun _ _ _ h => h) (Or.inl ⟨by rfl, ?_⟩) (by assumption) ?_
      rotate_left
      · intro w hSw; (try dsimp only at hSw); go_simp; try with_reducible rfl
      simp only [Act.put, List.setIfInBounds_toArray, List.set_cons_zero, List.set_cons_succ]
      refine wpAnyH_ready (rs := [10]) (by kernel_rfl) (by simp) (AllReadyH.cons (o := { dst := some 107, op := Op.call { callee := Callee.value (Operand.func 61), args := #[Operand.tmp 101, Operand.tmp 106], argTypes := #[64, 64] }, type := 4, pos := "ref.go:180", after := #[{ on := 4, ground := Ground.data }, { on := 9, ground := Ground.data }], guard := none }) rfl (fun KK hK => ?_) AllReadyH.nil)
      · go_simp
        go_at_call 61
        with_reducible refine (ref07_sameV x1 x2 v1 v2 true E1.out XF1.out XF2.out XK1.out XK2.out hs).mono ?_
        rintro e wq ⟨rfl, hs⟩
        refine hK.out _ _ (HKP.out _ hs) (fun hHeld => ?_)
        clear hK KK
        try simp only [Act.put, List.setIfInBounds_toArray, List.set_cons_zero, List.set_cons_succ]
        refine wpAnyH_take (i := 11) (oi := { dst := some 108, op := Op.unOp UnOp.not 4 (Operand.tmp 107), type := 4, pos := "ref.go:180", after := #[{ on := 10, ground := Ground.data }], guard := none }) (v := ?_) rfl (by kernel_rfl) (by kernel_rfl) (by kernel_rfl) (fun _ _ _ h => h) (Or.inl ⟨by rfl, ?_⟩) (by assumption) ?_
        rotate_left
        · intro w hSw; (try dsimp only at hSw); go_simp; try with_reducible rfl
        simp only [Act.put, List.setIfInBounds_toArray, List.set_cons_zero, List.set_cons_succ]
        refine wpAnyH_done (by kernel_rfl) ?_ _
        go_wp2_with fail
        go_roundw
        case rel => exact ⟨k + 1, hlt, by go_num, hs⟩
        case measure => first | (simp [intOf]; done) | (simp [intOf]; omega)
    · obtain rfl : k = l1.length := by omega
      go_wp2
      go_ret
      exact ⟨rfl, H.out.drop.drop⟩
theorem ref11_sameT (x : BatS) (l1 l2 : List (RecS × Value)) (q1 q2 : Option Addr) (cap1 cap2 : Nat) (hn : l1.length ≤ 1000000) (hx : l1.map (·.1) = x.recs) (hy : l2.map (·.1) = x.recs) (hf1 : ∀ x ∈ l1, x.1.hdrs.length ≤ 9223372036854775807) (hf2 : ∀ x ∈ l2, x.1.hdrs.length ≤ 9223372036854775807) {W0 w : World} {K : Know} {L : List Res} (hk1 : K.has (Know.recs (.slice q1 l1.length cap1) l1)) (hk2 : K.has (Know.recs (.slice q2 l2.length cap2) l2)) (h : St W0 w K L) :
    Calls Try.prog 36 #[.agg #[.int .i64 x.base, .int .i64 x.leader, .bool x.app, .bool x.txn, .bool x.ctl, .int .i64 x.last, .int .i64 x.first, .int .i64 x.maxt, .int .i64 x.prod, .int .i64 x.epoch, .int .i64 x.seq, .slice q1 l1.length cap1], .agg #[.int .i64 x.base, .int .i64 x.leader, .bool x.app, .bool x.txn, .bool x.ctl, .int .i64 x.last, .int .i64 x.first, .int .i64 x.maxt, .int .i64 x.prod, .int .i64 x.epoch, .int .i64 x.seq, .slice q2 l2.length cap2]] w fun en w' => en = .returned (.bool true) ∧ St W0 w' K L :=
  ref11_sameT0 x.base x.leader x.app x.txn x.ctl x.last x.first x.maxt x.prod x.epoch x.seq l1 l2 q1 q2 cap1 cap2 hn (hx.trans hy.symm) hf1 hf2 hk1 hk2 h

end Go.Proofs.Ytcjgdlfcfcabiaa
