/- Layer 7, walked: RecordEncodes. -/
import Derived.Test.YtenojajfacacoaaDoorGScriptBackCard5
import Derived.Test.YtenojajfacacoaaDoorRegOp
import Derived.RegionTactic
import Derived.WalkMore
import Derived.Deep.RegionHeld3
import Derived.Deep.DeepCutAuto
import Derived.Test.YtenojajfacacoaaDoorArgs
import Derived.SizedLaws
import Derived.Deep.Slices
import Derived.Test.YtenojajfacacoaaDoorGScriptBackCard1
/- A script, told by definition. -/
namespace Go.Proofs.YtenojajfacacoaaDoor
open Go.RowKit

set_option maxHeartbeats 16000000 in
set_option maxRecDepth 100000 in
theorem rs_print (vB : Value) (c : Int) (q : Option Addr) (cap : Nat) (ch : List Int) (l : List BtR) (S : Bs) (hS : l.flatMap btT ++ (cutT c ++ chT ch) = S) (hl : S.length ≤ 1000000) (hcr : Rn c) (hchr : ∀ v ∈ ch, Rn v) (hfine : ∀ x ∈ l, btFine x) {W0 w : World} {K : Know} {L : List Res} (hkb : K.has (Know.btrs vB l)) (hkc : K.has (Know.flat RInt (.slice q ch.length cap) 1 ch)) (h : St W0 w K L) :
    Calls Tryd.prog 11 #[.agg #[vB, .int .i64 c, .slice q ch.length cap]] w fun en w' => en = .returned (.string (bb S)) ∧ St W0 w' K L := by
  obtain ⟨qb, bcap, hvB⟩ := fl_form (btrs_flat hkb) h
  subst hvB
  obtain ⟨rb, hrb⟩ : ∃ b, w.heap.size = b := ⟨_, rfl⟩
  have g1 := h.allocRaw #[.slice qb l.length bcap, .int .i64 c, .slice q ch.length cap] 29
  rw [hrb] at g1
  have H := Lib.hid g1
  have HKB := Lib.hid hkb
  have HKC := Lib.hid hkc
  have HBF := Lib.hid hfine
  have HSL := Lib.hid hl
  have HCR := Lib.hid hcr
  have HCHR := Lib.hid hchr
  obtain ⟨T, hT⟩ : ∃ T, cutT c ++ chT ch = T := ⟨_, rfl⟩
  have HT := Lib.hid hT
  rw [hT] at hS
  have HS0 := Lib.hid (show [] ++ ((l.drop 0).flatMap btT ++ T) = S from hS)
  have HLB := Lib.hid (show (l.length : Int) ≤ 1000000 by
    have h9 := flat_le btT l (fun h _ => by unfold btT batL; simp)
    have h8 := congrArg List.length hS
    rw [List.length_append] at h8
    omega)
  clear h g1 hkb hkc hfine hl hcr hchr hT hS
  go_enter Tryd.func11, Tryd.ntmps11
  go_wp2_with fail
  go_loopw [3, 4] (fun sv iv wr => ∃ (k : Nat) (E : Bs), k ≤ l.length ∧ iv = .int .i64 k ∧ sv = .string (bb E) ∧ Hid (E ++ ((l.drop k).flatMap btT ++ T) = S) ∧ St W0 wr K (.raw rb #[.slice qb l.length bcap, .int .i64 c, .slice q ch.length cap] 29 :: L)) (fun _ iv _ => l.length - (intOf iv).toNat)
  case atStart => exact ⟨0, [], Nat.zero_le _, rfl, rfl, HS0.out, H.out⟩
  case round =>
    obtain ⟨k, E, hk', rfl, rfl, HE, hst⟩ := hrel
    clear H
    have H := Lib.hid hst
    clear hst
    have z0 := (H.out).rawCell 0; have z1 := (H.out).rawCell 1; have z2 := (H.out).rawCell 2; simp at z0 z1 z2
    by_cases hk : k < l.length
    · obtain ⟨bk, off, hqq⟩ := fl_at (btrs_flat HKB.out) H.out (by omega)
      rw [hqq] at z0
      have HKB' := HKB.out
      rw [hqq] at HKB'
      obtain ⟨x, hx⟩ : ∃ x, l[k] = x := ⟨_, rfl⟩
      have hmem : x ∈ l := hx ▸ List.getElem_mem hk
      have hXK0 := btrs_recs HKB.out hmem
      obtain ⟨xq, xcap, hxv⟩ := recs_form hXK0 H.out
      have cc := btrs_cell HKB' H.out k hk _ hx
      rw [hxv] at cc hXK0
      obtain ⟨c0, c1, c2, c3, c4, c5, c6, c7, c8, c9, c10, c11⟩ := cc
      obtain ⟨ns, hns⟩ : ∃ ns, batN x.b = ns := ⟨_, rfl⟩
      obtain ⟨R, hR⟩ : ∃ R, (l.drop (k + 1)).flatMap btT ++ T = R := ⟨_, rfl⟩
      obtain ⟨A2, hA2⟩ : ∃ A2, 32 :: (letW x.b.app x.b.txn x.b.ctl ++ [10]) ++ (x.l.flatMap (fun y : RecS × Value => recT y.1) ++ R) = A2 := ⟨_, rfl⟩
      have he := HE.out
      rw [flat_cutS btT l k hk x hx] at he
      obtain ⟨Q1, hQ1⟩ : ∃ B, E ++ [98, 97, 116, 99, 104] = B := ⟨_, rfl⟩
      have hQS : Q1 ++ ((ns.drop 0).flatMap (fun n => 32 :: numW n) ++ A2) = S := by
        rw [← he, ← hQ1]; simp [btT, batL, numsT, ← hA2, ← hns, ← hR]
      have lQ := ahead_le hQS HSL.out
      have eQ1 := congrArg List.length hQ1
      rw [List.length_append] at eQ1
      simp only [List.length_cons, List.length_nil] at eQ1
      have gQ1 : ¬ (9223372036854775807 < E.length + 5) := by omega
      have kQ1 : bb E ++ ⟨#[98, 97, 116, 99, 104]⟩ = bb Q1 := by rw [← hQ1]; exact bb_append _ _
      clear hQ1 eQ1
      have hbf := HBF.out x hmem
      have HNR := Lib.hid hbf.1
      have HXF := Lib.hid hbf.2
      have HNS := Lib.hid hns
      have HR := Lib.hid hR
      have HA2 := Lib.hid hA2
      have HQS := Lib.hid hQS
      have HXK := Lib.hid hXK0
      have HXB := Lib.hid (show (x.l.length : Int) ≤ 1000000 by
        have h9 := flat_le (fun y : RecS × Value => recT y.1) x.l (fun h _ => by unfold recT recH; simp)
        have h8 := congrArg List.length hQS
        have h7 := HSL.out
        rw [← hA2] at h8
        simp only [List.length_append, List.length_cons] at h8
        omega)
      obtain ⟨tb, htb⟩ : ∃ b, wr.heap.size = b := ⟨_, rfl⟩
      obtain ⟨lb, hlb⟩ : ∃ b, tb + 1 = b := ⟨_, rfl⟩
      have g1 := H.out.allocRaw #[.int .i64 x.b.base, .int .i64 x.b.leader, .bool x.b.app, .bool x.b.txn, .bool x.b.ctl, .int .i64 x.b.last, .int .i64 x.b.first, .int .i64 x.b.maxt, .int .i64 x.b.prod, .int .i64 x.b.epoch, .int .i64 x.b.seq, .slice xq x.l.length xcap] 45
      rw [htb] at g1
      have y0 := g1.rawCell 0; have y1 := g1.rawCell 1; have y2 := g1.rawCell 2; have y3 := g1.rawCell 3; have y4 := g1.rawCell 4; have y5 := g1.rawCell 5; have y6 := g1.rawCell 6; have y7 := g1.rawCell 7; have y8 := g1.rawCell 8; have y9 := g1.rawCell 9; have y10 := g1.rawCell 10; have y11 := g1.rawCell 11; simp at y0 y1 y2 y3 y4 y5 y6 y7 y8 y9 y10 y11
      have g2 := g1.allocRaw #[.int .i64 x.b.base, .int .i64 x.b.leader, .int .i64 x.b.last, .int .i64 x.b.first, .int .i64 x.b.maxt, .int .i64 x.b.prod, .int .i64 x.b.epoch, .int .i64 x.b.seq] 3
      simp only [World.size_alloc, htb, hlb] at g2
      have hki : (k : Int) < (l.length : Int) := by omega
      have hkbi : (l.length : Int) ≤ 1000000 := HLB.out
      clear H hQS he hx hqq HKB' hmem hbf hXK0 hxv hns hR hA2 g1 lQ
      have H := Lib.hid g2
      clear g2
      go_wp2_with fail
      clear y0 c0 y1 c1 y2 c2 y3 c3 y4 c4 y5 c5 y6 c6 y7 c7 y8 c8 y9 c9 y10 c10 y11 c11 gQ1 kQ1 z0 z1 z2
      go_loopw [3, 7] (fun sv iv wr => ∃ (k2 : Nat) (E2 : Bs), k2 ≤ 8 ∧ iv = .int .i64 k2 ∧ sv = .string (bb E2) ∧ Hid (E2 ++ ((ns.drop k2).flatMap (fun n => 32 :: numW n) ++ A2) = S) ∧ St W0 wr K (.raw lb #[.int .i64 x.b.base, .int .i64 x.b.leader, .int .i64 x.b.last, .int .i64 x.b.first, .int .i64 x.b.maxt, .int .i64 x.b.prod, .int .i64 x.b.epoch, .int .i64 x.b.seq] 3 :: .raw tb #[.int .i64 x.b.base, .int .i64 x.b.leader, .bool x.b.app, .bool x.b.txn, .bool x.b.ctl, .int .i64 x.b.last, .int .i64 x.b.first, .int .i64 x.b.maxt, .int .i64 x.b.prod, .int .i64 x.b.epoch, .int .i64 x.b.seq, .slice xq x.l.length xcap] 45 :: .raw rb #[.slice qb l.length bcap, .int .i64 c, .slice q ch.length cap] 29 :: L)) (fun _ iv _ => 8 - (intOf iv).toNat)
      case atStart => exact ⟨0, Q1, Nat.zero_le _, rfl, rfl, HQS.out, H.out⟩
      case round =>
        obtain ⟨k2, E2, hk2', rfl, rfl, HE2, hst2⟩ := hrel
        clear H
        have H := Lib.hid hst2
        clear hst2
        by_cases hk2 : k2 < 8
        · have hk2n : k2 < ns.length := by rw [← HNS.out]; exact hk2
          obtain ⟨n, hn⟩ : ∃ n, ns[k2] = n := ⟨_, rfl⟩
          have HRN := Lib.hid (show Rn n from HNR.out n (by rw [HNS.out]; exact hn ▸ List.getElem_mem hk2n))
          obtain ⟨d2, hd2⟩ : ∃ t, numW n = t := ⟨_, rfl⟩
          have he2 := HE2.out
          rw [flat_cutS (fun n => 32 :: numW n) ns k2 hk2n n hn] at he2
          obtain ⟨P1, hP1⟩ : ∃ B, E2 ++ [32] = B := ⟨_, rfl⟩
          obtain ⟨P2, hP2⟩ : ∃ B, P1 ++ d2 = B := ⟨_, rfl⟩
          have hPS : P2 ++ ((ns.drop (k2 + 1)).flatMap (fun n => 32 :: numW n) ++ A2) = S := by
            rw [← he2, ← hP2, ← hP1]; simp [hd2]
          have lP := ahead_le hPS HSL.out
          have eP1 := congrArg List.length hP1
          have eP2 := congrArg List.length hP2
          rw [List.length_append] at eP1 eP2
          simp only [List.length_cons, List.length_nil] at eP1
          have gP1 : ¬ (9223372036854775807 < E2.length + 1) := by omega
          have kP1 : bb E2 ++ ⟨#[32]⟩ = bb P1 := by rw [← hP1]; exact bb_append _ _
          have gP2 : ¬ (9223372036854775807 < P1.length + d2.length) := by omega
          have kP2 : bb P1 ++ bb d2 = bb P2 := by rw [← hP2]; exact bb_append _ _
          have m_d2 : d2.length ≤ 1000000 := by omega
          clear hP1 eP1 hP2 eP2
          have c0 : wr.cell? ⟨lb, k2, none⟩ = some (.int .i64 n) := by
            have h9 := (show St W0 wr K (.raw lb ((batN x.b).map fun v => Value.int .i64 v).toArray 3 :: .raw tb #[.int .i64 x.b.base, .int .i64 x.b.leader, .bool x.b.app, .bool x.b.txn, .bool x.b.ctl, .int .i64 x.b.last, .int .i64 x.b.first, .int .i64 x.b.maxt, .int .i64 x.b.prod, .int .i64 x.b.epoch, .int .i64 x.b.seq, .slice xq x.l.length xcap] 45 :: .raw rb #[.slice qb l.length bcap, .int .i64 c, .slice q ch.length cap] 29 :: L) from H.out).rawCell k2
            rw [HNS.out] at h9
            rw [h9]
            simp [hk2n, hn]
          have HPS := Lib.hid hPS
          have HD2 := Lib.hid hd2
          have hk2i : (k2 : Int) < 8 := by omega
          clear hPS hd2 he2 hn lP m_d2
          go_wp2_with (go_at_call 27; (with_reducible refine (rs_num n HRN.out d2 HD2.out H.out).mono ?_); rintro e_ wn ⟨rfl, h⟩; replace H := Lib.hid h; clear h)
          go_roundw
          case rel => exact ⟨k2 + 1, _, hk2, by go_num, rfl, HPS.out, H.out⟩
          case measure => first | (simp [intOf]; done) | (simp [intOf]; omega)
        · have hq2 : k2 = 8 := by omega
          subst hq2
          have HE2' := Lib.hid (show E2 ++ A2 = S by have h9 := HE2.out; rw [show ns.drop 8 = [] from by rw [← HNS.out]; rfl] at h9; exact h9)
          obtain ⟨d2, hd2⟩ : ∃ t, letW x.b.app x.b.txn x.b.ctl = t := ⟨_, rfl⟩
          have hA2 := HA2.out
          obtain ⟨W1, hW1⟩ : ∃ B, E2 ++ [32] = B := ⟨_, rfl⟩
          obtain ⟨W2, hW2⟩ : ∃ B, W1 ++ d2 = B := ⟨_, rfl⟩
          obtain ⟨W3, hW3⟩ : ∃ B, W2 ++ [10] = B := ⟨_, rfl⟩
          have hWS : W3 ++ ((x.l.drop 0).flatMap (fun y : RecS × Value => recT y.1) ++ R) = S := by
            rw [← HE2'.out, ← hW3, ← hW2, ← hW1]; simp [hd2, ← hA2]
          have lW := ahead_le hWS HSL.out
          have eW1 := congrArg List.length hW1
          have eW2 := congrArg List.length hW2
          have eW3 := congrArg List.length hW3
          rw [List.length_append] at eW1 eW2 eW3
          simp only [List.length_cons, List.length_nil] at eW1
          simp only [List.length_cons, List.length_nil] at eW3
          have gW1 : ¬ (9223372036854775807 < E2.length + 1) := by omega
          have kW1 : bb E2 ++ ⟨#[32]⟩ = bb W1 := by rw [← hW1]; exact bb_append _ _
          have gW2 : ¬ (9223372036854775807 < W1.length + d2.length) := by omega
          have kW2 : bb W1 ++ bb d2 = bb W2 := by rw [← hW2]; exact bb_append _ _
          have gW3 : ¬ (9223372036854775807 < W2.length + 1) := by omega
          have kW3 : bb W2 ++ ⟨#[10]⟩ = bb W3 := by rw [← hW3]; exact bb_append _ _
          have m_d2 : d2.length ≤ 1000000 := by omega
          clear hW1 eW1 hW2 eW2 hW3 eW3
          have HWS := Lib.hid hWS
          have HD2 := Lib.hid (show Value.string (bb d2) = .string (bb (letW x.b.app x.b.txn x.b.ctl)) by rw [hd2])
          have hs2 := H.out.drop
          clear H
          have H := Lib.hid hs2
          have y0 := hs2.rawCell 0; have y1 := hs2.rawCell 1; have y2 := hs2.rawCell 2; have y3 := hs2.rawCell 3; have y4 := hs2.rawCell 4; have y5 := hs2.rawCell 5; have y6 := hs2.rawCell 6; have y7 := hs2.rawCell 7; have y8 := hs2.rawCell 8; have y9 := hs2.rawCell 9; have y10 := hs2.rawCell 10; have y11 := hs2.rawCell 11; simp at y0 y1 y2 y3 y4 y5 y6 y7 y8 y9 y10 y11
          clear hs2 hWS hd2 hA2 lW m_d2
          go_upto_region 13 with (go_at_call 28; (with_reducible refine (rs_letters _ _ _ _ _ _ _ _ x.b.app x.b.txn x.b.ctl _ _ HD2.out H.out).mono ?_); rintro e_ wn ⟨rfl, h⟩; have z11 := h.rawCell 11; simp at z11; replace H := Lib.hid h; clear h)
          clear y0 y1 y2 y3 y4 y5 y6 y7 y8 y9 y10 y11 gW1 kW1 gW2 kW2 gW3 kW3 HD2
          go_wp2_with fail
          go_loopw [3, 8] (fun sv iv wr => ∃ (k3 : Nat) (E3 : Bs), k3 ≤ x.l.length ∧ iv = .int .i64 k3 ∧ sv = .string (bb E3) ∧ Hid (E3 ++ ((x.l.drop k3).flatMap (fun y : RecS × Value => recT y.1) ++ R) = S) ∧ St W0 wr K (.raw tb #[.int .i64 x.b.base, .int .i64 x.b.leader, .bool x.b.app, .bool x.b.txn, .bool x.b.ctl, .int .i64 x.b.last, .int .i64 x.b.first, .int .i64 x.b.maxt, .int .i64 x.b.prod, .int .i64 x.b.epoch, .int .i64 x.b.seq, .slice xq x.l.length xcap] 45 :: .raw rb #[.slice qb l.length bcap, .int .i64 c, .slice q ch.length cap] 29 :: L)) (fun _ iv _ => x.l.length - (intOf iv).toNat)
          case atStart => exact ⟨0, W3, Nat.zero_le _, rfl, rfl, HWS.out, H.out⟩
          case round =>
            obtain ⟨k3, E3, hk3', rfl, rfl, HE3, hst3⟩ := hrel
            clear H
            have H := Lib.hid hst3
            clear hst3
            have z11 := H.out.rawCell 11
            simp at z11
            have hkb3 : (x.l.length : Int) ≤ 1000000 := HXB.out
            by_cases hk3 : k3 < x.l.length
            · obtain ⟨eb, eo, hxq⟩ := recs_at HXK.out H.out (by omega)
              rw [hxq] at z11
              have HXK' := HXK.out
              rw [hxq] at HXK'
              obtain ⟨⟨r, vh⟩, hy⟩ : ∃ y, x.l[k3] = y := ⟨_, rfl⟩
              have hmem : (r, vh) ∈ x.l := hy ▸ List.getElem_mem hk3
              have hHK0 := recs_hdrs HXK.out hmem
              obtain ⟨hq, hcap, hvh⟩ := fl_form hHK0 H.out
              simp only at hvh
              subst hvh
              have cc := recs_cell HXK' H.out k3 hk3 _ hy
              simp only [← Nat.add_assoc] at cc
              obtain ⟨c0, c1, c2, c3, c4, c5, c6⟩ := cc
              try simp only at c0 c1 c2 c3 c4 c5 c6
              obtain ⟨d2, hd2⟩ : ∃ t, numW r.time = t := ⟨_, rfl⟩
              obtain ⟨d4, hd4⟩ : ∃ t, numW r.off = t := ⟨_, rfl⟩
              obtain ⟨d6, hd6⟩ : ∃ t, blobT r.key = t := ⟨_, rfl⟩
              obtain ⟨d8, hd8⟩ : ∃ t, blobT r.val = t := ⟨_, rfl⟩
              obtain ⟨R3, hR3⟩ : ∃ R3, (x.l.drop (k3 + 1)).flatMap (fun y : RecS × Value => recT y.1) ++ R = R3 := ⟨_, rfl⟩
              have he3 := HE3.out
              rw [flat_cutS (fun y : RecS × Value => recT y.1) x.l k3 hk3 _ hy] at he3
              simp only at he3
              obtain ⟨U1, hU1⟩ : ∃ B, E3 ++ [114, 101, 99, 111, 114, 100, 32] = B := ⟨_, rfl⟩
              obtain ⟨U2, hU2⟩ : ∃ B, U1 ++ d2 = B := ⟨_, rfl⟩
              obtain ⟨U3, hU3⟩ : ∃ B, U2 ++ [32] = B := ⟨_, rfl⟩
              obtain ⟨U4, hU4⟩ : ∃ B, U3 ++ d4 = B := ⟨_, rfl⟩
              obtain ⟨U5, hU5⟩ : ∃ B, U4 ++ [32] = B := ⟨_, rfl⟩
              obtain ⟨U6, hU6⟩ : ∃ B, U5 ++ d6 = B := ⟨_, rfl⟩
              obtain ⟨U7, hU7⟩ : ∃ B, U6 ++ [32] = B := ⟨_, rfl⟩
              obtain ⟨U8, hU8⟩ : ∃ B, U7 ++ d8 = B := ⟨_, rfl⟩
              obtain ⟨U9, hU9⟩ : ∃ B, U8 ++ [10] = B := ⟨_, rfl⟩
              have hUS : U9 ++ ((r.hdrs.drop 0).flatMap hdrT ++ R3) = S := by
                rw [← he3, ← hU9, ← hU8, ← hU7, ← hU6, ← hU5, ← hU4, ← hU3, ← hU2, ← hU1]; simp [recT, recH, hd2, hd4, hd6, hd8, ← hR3]
              have lU := ahead_le hUS HSL.out
              have eU1 := congrArg List.length hU1
              have eU2 := congrArg List.length hU2
              have eU3 := congrArg List.length hU3
              have eU4 := congrArg List.length hU4
              have eU5 := congrArg List.length hU5
              have eU6 := congrArg List.length hU6
              have eU7 := congrArg List.length hU7
              have eU8 := congrArg List.length hU8
              have eU9 := congrArg List.length hU9
              rw [List.length_append] at eU1 eU2 eU3 eU4 eU5 eU6 eU7 eU8 eU9
              simp only [List.length_cons, List.length_nil] at eU1
              simp only [List.length_cons, List.length_nil] at eU3
              simp only [List.length_cons, List.length_nil] at eU5
              simp only [List.length_cons, List.length_nil] at eU7
              simp only [List.length_cons, List.length_nil] at eU9
              have gU1 : ¬ (9223372036854775807 < E3.length + 7) := by omega
              have kU1 : bb E3 ++ ⟨#[114, 101, 99, 111, 114, 100, 32]⟩ = bb U1 := by rw [← hU1]; exact bb_append _ _
              have gU2 : ¬ (9223372036854775807 < U1.length + d2.length) := by omega
              have kU2 : bb U1 ++ bb d2 = bb U2 := by rw [← hU2]; exact bb_append _ _
              have gU3 : ¬ (9223372036854775807 < U2.length + 1) := by omega
              have kU3 : bb U2 ++ ⟨#[32]⟩ = bb U3 := by rw [← hU3]; exact bb_append _ _
              have gU4 : ¬ (9223372036854775807 < U3.length + d4.length) := by omega
              have kU4 : bb U3 ++ bb d4 = bb U4 := by rw [← hU4]; exact bb_append _ _
              have gU5 : ¬ (9223372036854775807 < U4.length + 1) := by omega
              have kU5 : bb U4 ++ ⟨#[32]⟩ = bb U5 := by rw [← hU5]; exact bb_append _ _
              have gU6 : ¬ (9223372036854775807 < U5.length + d6.length) := by omega
              have kU6 : bb U5 ++ bb d6 = bb U6 := by rw [← hU6]; exact bb_append _ _
              have gU7 : ¬ (9223372036854775807 < U6.length + 1) := by omega
              have kU7 : bb U6 ++ ⟨#[32]⟩ = bb U7 := by rw [← hU7]; exact bb_append _ _
              have gU8 : ¬ (9223372036854775807 < U7.length + d8.length) := by omega
              have kU8 : bb U7 ++ bb d8 = bb U8 := by rw [← hU8]; exact bb_append _ _
              have gU9 : ¬ (9223372036854775807 < U8.length + 1) := by omega
              have kU9 : bb U8 ++ ⟨#[10]⟩ = bb U9 := by rw [← hU9]; exact bb_append _ _
              have m_d2 : d2.length ≤ 1000000 := by omega
              have m_d4 : d4.length ≤ 1000000 := by omega
              have m_d6 : d6.length ≤ 1000000 := by omega
              have m_d8 : d8.length ≤ 1000000 := by omega
              clear hU1 eU1 hU2 eU2 hU3 eU3 hU4 eU4 hU5 eU5 hU6 eU6 hU7 eU7 hU8 eU8 hU9 eU9
              have HRF := Lib.hid (HXF.out _ hmem : recFine r)
              have HHK := Lib.hid (show K.has (Know.flat RHdr (.slice hq r.hdrs.length hcap) 3 r.hdrs) from hHK0)
              have HHB := Lib.hid (show (r.hdrs.length : Int) ≤ 1000000 by
                have h9 := flat_le hdrT r.hdrs (fun h _ => by unfold hdrT; simp)
                have h8 := congrArg List.length hUS
                have h7 := HSL.out
                rw [List.drop_zero, List.length_append, List.length_append] at h8
                omega)
              have HUS := Lib.hid hUS
              have HR3 := Lib.hid hR3
              have HRT := Lib.hid HRF.out.2.2.2.1
              have HRO := Lib.hid HRF.out.2.2.2.2
              have HD2 := Lib.hid hd2
              have HD4 := Lib.hid hd4
              have HD6 := Lib.hid (show blobT ⟨r.key.null, r.key.data⟩ = d6 from hd6)
              have HD8 := Lib.hid (show blobT ⟨r.val.null, r.val.data⟩ = d8 from hd8)
              have HKL := Lib.hid (show r.key.data.length ≤ 1000000 by have := blobT_len r.key HRF.out.1; rw [hd6] at this; omega)
              have HVL := Lib.hid (show r.val.data.length ≤ 1000000 by have := blobT_len r.val HRF.out.2.1; rw [hd8] at this; omega)
              obtain ⟨t9, ht9⟩ : ∃ b, wr.heap.size = b := ⟨_, rfl⟩
              have g9 := H.out.allocRaw #[.int .i64 r.time, .int .i64 r.off, .bool r.key.null, .string (bb r.key.data), .bool r.val.null, .string (bb r.val.data), .slice hq r.hdrs.length hcap] 51
              rw [ht9] at g9
              have KP17 := Lib.hid (show ∀ (w' : World), St W0 w' K (.raw t9 #[.int .i64 r.time, .int .i64 r.off, .bool r.key.null, .string (bb r.key.data), .bool r.val.null, .string (bb r.val.data), .slice hq r.hdrs.length hcap] 51 :: .raw tb #[.int .i64 x.b.base, .int .i64 x.b.leader, .bool x.b.app, .bool x.b.txn, .bool x.b.ctl, .int .i64 x.b.last, .int .i64 x.b.first, .int .i64 x.b.maxt, .int .i64 x.b.prod, .int .i64 x.b.epoch, .int .i64 x.b.seq, .slice xq x.l.length xcap] 45 :: .raw rb #[.slice qb l.length bcap, .int .i64 c, .slice q ch.length cap] 29 :: L) → (w'.cell? ⟨t9, 0, none⟩ = some (.int .i64 r.time) ∧ w'.cell? ⟨t9, 1, none⟩ = some (.int .i64 r.off) ∧ w'.cell? ⟨t9, 2, none⟩ = some (.bool r.key.null) ∧ w'.cell? ⟨t9, 3, none⟩ = some (.string (bb r.key.data)) ∧ w'.cell? ⟨t9, 4, none⟩ = some (.bool r.val.null) ∧ w'.cell? ⟨t9, 5, none⟩ = some (.string (bb r.val.data))) from fun w' h' => ⟨h'.rawCell 0, h'.rawCell 1, h'.rawCell 2, h'.rawCell 3, h'.rawCell 4, h'.rawCell 5⟩)
              have hk3i : (k3 : Int) < (x.l.length : Int) := by omega
              clear H hxq HXK' m_d2 m_d4 m_d6 m_d8 hUS hd2 hd4 hd6 hd8 he3 hy hmem hHK0 hR3 lU
              have H := Lib.hid g9
              clear g9
              go_upto_region 17 with fail
              have hs := H.out.drew
              clear H c0 c1 c2 c3 c4 c5 c6 z11
              refine wp_region_held_drew (S := fun w' => w'.cell? ⟨t9, 0, none⟩ = some (.int .i64 r.time) ∧ w'.cell? ⟨t9, 1, none⟩ = some (.int .i64 r.off) ∧ w'.cell? ⟨t9, 2, none⟩ = some (.bool r.key.null) ∧ w'.cell? ⟨t9, 3, none⟩ = some (.string (bb r.key.data)) ∧ w'.cell? ⟨t9, 4, none⟩ = some (.bool r.val.null) ∧ w'.cell? ⟨t9, 5, none⟩ = some (.string (bb r.val.data))) (by kernel_rfl) (KP17.out _ hs) (fun hHeld => ?_)
              refine wpAnyH_take (i := 0) (oi := { dst := some 75, op := Op.move (Operand.tmp 3), type := 9, pos := "ref.go:88", after := #[], guard := none }) (v := ?_) rfl (by kernel_rfl) (by kernel_rfl) (by kernel_rfl) (fun _ _ _ h => h) (Or.inl ⟨by rfl, ?_⟩) (by assumption) ?_
              rotate_left
              · intro w hSw; (try dsimp only at hSw); go_simp; try with_reducible rfl
              simp only [Act.put, List.setIfInBounds_toArray, List.set_cons_zero, List.set_cons_succ]
              refine wpAnyH_take (i := 1) (oi := { dst := some 76, op := Op.binOp BinOp.add 9 (Operand.tmp 75) (Operand.const (Value.string { data := #[114, 101, 99, 111, 114, 100, 32] })) 9, type := 9, pos := "ref.go:88", after := #[{ on := 0, ground := Ground.data }], guard := none }) (v := ?_) rfl (by kernel_rfl) (by kernel_rfl) (by kernel_rfl) (fun _ _ _ h => h) (Or.inl ⟨by rfl, ?_⟩) (by assumption) ?_
              rotate_left
              · intro w hSw; (try dsimp only at hSw); go_simp; try with_reducible rfl
              simp only [Act.put, List.setIfInBounds_toArray, List.set_cons_zero, List.set_cons_succ]
              refine wpAnyH_take (i := 2) (oi := { dst := some 77, op := Op.fieldAddr 51 (Operand.tmp 9) 0, type := 0, pos := "ref.go:88", after := #[], guard := none }) (v := ?_) rfl (by kernel_rfl) (by kernel_rfl) (by kernel_rfl) (fun _ _ _ h => h) (Or.inl ⟨by rfl, ?_⟩) (by assumption) ?_
              rotate_left
              · intro w hSw; (try dsimp only at hSw); go_simp; try with_reducible rfl
              simp only [Act.put, List.setIfInBounds_toArray, List.set_cons_zero, List.set_cons_succ]
              refine wpAnyH_take (i := 3) (oi := { dst := some 78, op := Op.load 3 (Operand.tmp 77), type := 3, pos := "ref.go:88", after := #[{ on := 2, ground := Ground.data }], guard := none }) (v := ?_) rfl (by kernel_rfl) (by kernel_rfl) (by kernel_rfl) (fun _ _ _ h => h) (Or.inl ⟨by rfl, ?_⟩) (by assumption) ?_
              rotate_left
              · intro w hSw; (try dsimp only at hSw); go_simp; try with_reducible rfl
              simp only [Act.put, List.setIfInBounds_toArray, List.set_cons_zero, List.set_cons_succ]
              refine wpAnyH_take (i := 7) (oi := { dst := some 82, op := Op.fieldAddr 51 (Operand.tmp 9) 1, type := 0, pos := "ref.go:88", after := #[], guard := none }) (v := ?_) rfl (by kernel_rfl) (by kernel_rfl) (by kernel_rfl) (fun _ _ _ h => h) (Or.inl ⟨by rfl, ?_⟩) (by assumption) ?_
              rotate_left
              · intro w hSw; (try dsimp only at hSw); go_simp; try with_reducible rfl
              simp only [Act.put, List.setIfInBounds_toArray, List.set_cons_zero, List.set_cons_succ]
              refine wpAnyH_take (i := 8) (oi := { dst := some 83, op := Op.load 3 (Operand.tmp 82), type := 3, pos := "ref.go:88", after := #[{ on := 7, ground := Ground.data }], guard := none }) (v := ?_) rfl (by kernel_rfl) (by kernel_rfl) (by kernel_rfl) (fun _ _ _ h => h) (Or.inl ⟨by rfl, ?_⟩) (by assumption) ?_
              rotate_left
              · intro w hSw; (try dsimp only at hSw); go_simp; try with_reducible rfl
              simp only [Act.put, List.setIfInBounds_toArray, List.set_cons_zero, List.set_cons_succ]
              refine wpAnyH_take (i := 12) (oi := { dst := some 87, op := Op.fieldAddr 51 (Operand.tmp 9) 2, type := 0, pos := "ref.go:88", after := #[], guard := none }) (v := ?_) rfl (by kernel_rfl) (by kernel_rfl) (by kernel_rfl) (fun _ _ _ h => h) (Or.inl ⟨by rfl, ?_⟩) (by assumption) ?_
              rotate_left
              · intro w hSw; (try dsimp only at hSw); go_simp; try with_reducible rfl
              simp only [Act.put, List.setIfInBounds_toArray, List.set_cons_zero, List.set_cons_succ]
              refine wpAnyH_take (i := 13) (oi := { dst := some 88, op := Op.load 48 (Operand.tmp 87), type := 48, pos := "ref.go:88", after := #[{ on := 12, ground := Ground.data }], guard := none }) (v := ?_) rfl (by kernel_rfl) (by kernel_rfl) (by kernel_rfl) (fun _ _ _ h => h) (Or.inl ⟨by rfl, ?_⟩) (by assumption) ?_
              rotate_left
              · intro w hSw; (try dsimp only at hSw); go_simp; try with_reducible rfl
              simp only [Act.put, List.setIfInBounds_toArray, List.set_cons_zero, List.set_cons_succ]
              refine wpAnyH_take (i := 17) (oi := { dst := some 92, op := Op.fieldAddr 51 (Operand.tmp 9) 3, type := 0, pos := "ref.go:88", after := #[], guard := none }) (v := ?_) rfl (by kernel_rfl) (by kernel_rfl) (by kernel_rfl) (fun _ _ _ h => h) (Or.inl ⟨by rfl, ?_⟩) (by assumption) ?_
              rotate_left
              · intro w hSw; (try dsimp only at hSw); go_simp; try with_reducible rfl
              simp only [Act.put, List.setIfInBounds_toArray, List.set_cons_zero, List.set_cons_succ]
              refine wpAnyH_take (i := 18) (oi := { dst := some 93, op := Op.load 48 (Operand.tmp 92), type := 48, pos := "ref.go:88", after := #[{ on := 17, ground := Ground.data }], guard := none }) (v := ?_) rfl (by kernel_rfl) (by kernel_rfl) (by kernel_rfl) (fun _ _ _ h => h) (Or.inl ⟨by rfl, ?_⟩) (by assumption) ?_
              rotate_left
              · intro w hSw; (try dsimp only at hSw); go_simp; try with_reducible rfl
              simp only [Act.put, List.setIfInBounds_toArray, List.set_cons_zero, List.set_cons_succ]
              refine wpAnyH_ready (rs := [4]) (by kernel_rfl) (by simp) (AllReadyH.cons (o := { dst := some 79, op := Op.call { callee := Callee.value (Operand.func 27), args := #[Operand.tmp 78], argTypes := #[3] }, type := 9, pos := "ref.go:88", after := #[{ on := 3, ground := Ground.data }], guard := none }) rfl (fun KK hK => ?_) AllReadyH.nil)
              · go_simp
                go_at_call 27
                with_reducible refine (rs_num r.time HRT.out d2 HD2.out hs).mono ?_
                rintro e wq ⟨rfl, hs⟩
                refine hK.out _ _ (KP17.out _ hs) (fun hHeld => ?_)
                clear hK KK
                try simp only [Act.put, List.setIfInBounds_toArray, List.set_cons_zero, List.set_cons_succ]
                refine wpAnyH_take (i := 5) (oi := { dst := some 80, op := Op.binOp BinOp.add 9 (Operand.tmp 76) (Operand.tmp 79) 9, type := 9, pos := "ref.go:88", after := #[{ on := 1, ground := Ground.data }, { on := 4, ground := Ground.data }], guard := none }) (v := ?_) rfl (by kernel_rfl) (by kernel_rfl) (by kernel_rfl) (fun _ _ _ h => h) (Or.inl ⟨by rfl, ?_⟩) (by assumption) ?_
                rotate_left
                · intro w hSw; (try dsimp only at hSw); go_simp; try with_reducible rfl
                simp only [Act.put, List.setIfInBounds_toArray, List.set_cons_zero, List.set_cons_succ]
                refine wpAnyH_take (i := 6) (oi := { dst := some 81, op := Op.binOp BinOp.add 9 (Operand.tmp 80) (Operand.const (Value.string { data := #[32] })) 9, type := 9, pos := "ref.go:88", after := #[{ on := 5, ground := Ground.data }], guard := none }) (v := ?_) rfl (by kernel_rfl) (by kernel_rfl) (by kernel_rfl) (fun _ _ _ h => h) (Or.inl ⟨by rfl, ?_⟩) (by assumption) ?_
                rotate_left
                · intro w hSw; (try dsimp only at hSw); go_simp; try with_reducible rfl
                simp only [Act.put, List.setIfInBounds_toArray, List.set_cons_zero, List.set_cons_succ]
                refine wpAnyH_ready (rs := [9]) (by kernel_rfl) (by simp) (AllReadyH.cons (o := { dst := some 84, op := Op.call { callee := Callee.value (Operand.func 27), args := #[Operand.tmp 83], argTypes := #[3] }, type := 9, pos := "ref.go:88", after := #[{ on := 8, ground := Ground.data }, { on := 4, ground := Ground.chain }], guard := none }) rfl (fun KK hK => ?_) AllReadyH.nil)
                · go_simp
                  go_at_call 27
                  with_reducible refine (rs_num r.off HRO.out d4 HD4.out hs).mono ?_
                  rintro e wq ⟨rfl, hs⟩
                  refine hK.out _ _ (KP17.out _ hs) (fun hHeld => ?_)
                  clear hK KK
                  try simp only [Act.put, List.setIfInBounds_toArray, List.set_cons_zero, List.set_cons_succ]
                  refine wpAnyH_take (i := 10) (oi := { dst := some 85, op := Op.binOp BinOp.add 9 (Operand.tmp 81) (Operand.tmp 84) 9, type := 9, pos := "ref.go:88", after := #[{ on := 6, ground := Ground.data }, { on := 9, ground := Ground.data }], guard := none }) (v := ?_) rfl (by kernel_rfl) (by kernel_rfl) (by kernel_rfl) (fun _ _ _ h => h) (Or.inl ⟨by rfl, ?_⟩) (by assumption) ?_
                  rotate_left
                  · intro w hSw; (try dsimp only at hSw); go_simp; try with_reducible rfl
                  simp only [Act.put, List.setIfInBounds_toArray, List.set_cons_zero, List.set_cons_succ]
                  refine wpAnyH_take (i := 11) (oi := { dst := some 86, op := Op.binOp BinOp.add 9 (Operand.tmp 85) (Operand.const (Value.string { data := #[32] })) 9, type := 9, pos := "ref.go:88", after := #[{ on := 10, ground := Ground.data }], guard := none }) (v := ?_) rfl (by kernel_rfl) (by kernel_rfl) (by kernel_rfl) (fun _ _ _ h => h) (Or.inl ⟨by rfl, ?_⟩) (by assumption) ?_
                  rotate_left
                  · intro w hSw; (try dsimp only at hSw); go_simp; try with_reducible rfl
                  simp only [Act.put, List.setIfInBounds_toArray, List.set_cons_zero, List.set_cons_succ]
                  refine wpAnyH_ready (rs := [14]) (by kernel_rfl) (by simp) (AllReadyH.cons (o := { dst := some 89, op := Op.call { callee := Callee.value (Operand.func 29), args := #[Operand.tmp 88], argTypes := #[48] }, type := 9, pos := "ref.go:88", after := #[{ on := 13, ground := Ground.data }, { on := 9, ground := Ground.chain }], guard := none }) rfl (fun KK hK => ?_) AllReadyH.nil)
                  · go_simp
                    go_at_call 29
                    with_reducible refine (rs_blob r.key.null r.key.data d6 HD6.out HKL.out hs).mono ?_
                    rintro e wq ⟨rfl, hs⟩
                    refine hK.out _ _ (KP17.out _ hs) (fun hHeld => ?_)
                    clear hK KK
                    try simp only [Act.put, List.setIfInBounds_toArray, List.set_cons_zero, List.set_cons_succ]
                    refine wpAnyH_take (i := 15) (oi := { dst := some 90, op := Op.binOp BinOp.add 9 (Operand.tmp 86) (Operand.tmp 89) 9, type := 9, pos := "ref.go:88", after := #[{ on := 11, ground := Ground.data }, { on := 14, ground := Ground.data }], guard := none }) (v := ?_) rfl (by kernel_rfl) (by kernel_rfl) (by kernel_rfl) (fun _ _ _ h => h) (Or.inl ⟨by rfl, ?_⟩) (by assumption) ?_
                    rotate_left
                    · intro w hSw; (try dsimp only at hSw); go_simp; try with_reducible rfl
                    simp only [Act.put, List.setIfInBounds_toArray, List.set_cons_zero, List.set_cons_succ]
                    refine wpAnyH_take (i := 16) (oi := { dst := some 91, op := Op.binOp BinOp.add 9 (Operand.tmp 90) (Operand.const (Value.string { data := #[32] })) 9, type := 9, pos := "ref.go:88", after := #[{ on := 15, ground := Ground.data }], guard := none }) (v := ?_) rfl (by kernel_rfl) (by kernel_rfl) (by kernel_rfl) (fun _ _ _ h => h) (Or.inl ⟨by rfl, ?_⟩) (by assumption) ?_
                    rotate_left
                    · intro w hSw; (try dsimp only at hSw); go_simp; try with_reducible rfl
                    simp only [Act.put, List.setIfInBounds_toArray, List.set_cons_zero, List.set_cons_succ]
                    refine wpAnyH_ready (rs := [19]) (by kernel_rfl) (by simp) (AllReadyH.cons (o := { dst := some 94, op := Op.call { callee := Callee.value (Operand.func 29), args := #[Operand.tmp 93], argTypes := #[48] }, type := 9, pos := "ref.go:88", after := #[{ on := 18, ground := Ground.data }, { on := 14, ground := Ground.chain }], guard := none }) rfl (fun KK hK => ?_) AllReadyH.nil)
                    · go_simp
                      go_at_call 29
                      with_reducible refine (rs_blob r.val.null r.val.data d8 HD8.out HVL.out hs).mono ?_
                      rintro e wq ⟨rfl, hs⟩
                      refine hK.out _ _ (KP17.out _ hs) (fun hHeld => ?_)
                      clear hK KK
                      try simp only [Act.put, List.setIfInBounds_toArray, List.set_cons_zero, List.set_cons_succ]
                      refine wpAnyH_take (i := 20) (oi := { dst := some 95, op := Op.binOp BinOp.add 9 (Operand.tmp 91) (Operand.tmp 94) 9, type := 9, pos := "ref.go:88", after := #[{ on := 16, ground := Ground.data }, { on := 19, ground := Ground.data }], guard := none }) (v := ?_) rfl (by kernel_rfl) (by kernel_rfl) (by kernel_rfl) (fun _ _ _ h => h) (Or.inl ⟨by rfl, ?_⟩) (by assumption) ?_
                      rotate_left
                      · intro w hSw; (try dsimp only at hSw); go_simp; try with_reducible rfl
                      simp only [Act.put, List.setIfInBounds_toArray, List.set_cons_zero, List.set_cons_succ]
                      refine wpAnyH_take (i := 21) (oi := { dst := some 96, op := Op.binOp BinOp.add 9 (Operand.tmp 95) (Operand.const (Value.string { data := #[10] })) 9, type := 9, pos := "ref.go:88", after := #[{ on := 20, ground := Ground.data }], guard := none }) (v := ?_) rfl (by kernel_rfl) (by kernel_rfl) (by kernel_rfl) (fun _ _ _ h => h) (Or.inl ⟨by rfl, ?_⟩) (by assumption) ?_
                      rotate_left
                      · intro w hSw; (try dsimp only at hSw); go_simp; try with_reducible rfl
                      simp only [Act.put, List.setIfInBounds_toArray, List.set_cons_zero, List.set_cons_succ]
                      refine wpAnyH_take (i := 22) (oi := { dst := some 3, op := Op.assign (Operand.tmp 96), type := 9, pos := "ref.go:88", after := #[{ on := 21, ground := Ground.data }, { on := 19, ground := Ground.chain }, { on := 0, ground := Ground.phase }, { on := 1, ground := Ground.phase }, { on := 2, ground := Ground.phase }, { on := 3, ground := Ground.phase }, { on := 4, ground := Ground.phase }, { on := 5, ground := Ground.phase }, { on := 6, ground := Ground.phase }, { on := 7, ground := Ground.phase }, { on := 8, ground := Ground.phase }, { on := 9, ground := Ground.phase }, { on := 10, ground := Ground.phase }, { on := 11, ground := Ground.phase }, { on := 12, ground := Ground.phase }, { on := 13, ground := Ground.phase }, { on := 14, ground := Ground.phase }, { on := 15, ground := Ground.phase }, { on := 16, ground := Ground.phase }, { on := 17, ground := Ground.phase }, { on := 18, ground := Ground.phase }, { on := 19, ground := Ground.phase }, { on := 20, ground := Ground.phase }, { on := 21, ground := Ground.phase }], guard := none }) (v := ?_) rfl (by kernel_rfl) (by kernel_rfl) (by kernel_rfl) (fun _ _ _ h => h) (Or.inl ⟨by rfl, ?_⟩) (by assumption) ?_
                      rotate_left
                      · intro w hSw; (try dsimp only at hSw); go_simp; try with_reducible rfl
                      simp only [Act.put, List.setIfInBounds_toArray, List.set_cons_zero, List.set_cons_succ]
                      refine wpAnyH_done (by kernel_rfl) ?_ _
                      clear hHeld
                      have H := Lib.hid hs
                      clear hs
                      clear gU1 kU1 gU2 kU2 gU3 kU3 gU4 kU4 gU5 kU5 gU6 kU6 gU7 kU7 gU8 kU8 gU9 kU9 KP17 HD2 HD4 HD6 HD8
                      go_wp2_with fail
                      go_loopw [3, 10] (fun sv iv wr => ∃ (k4 : Nat) (E4 : Bs), k4 ≤ r.hdrs.length ∧ iv = .int .i64 k4 ∧ sv = .string (bb E4) ∧ Hid (E4 ++ ((r.hdrs.drop k4).flatMap hdrT ++ R3) = S) ∧ St W0 wr K (.raw t9 #[.int .i64 r.time, .int .i64 r.off, .bool r.key.null, .string (bb r.key.data), .bool r.val.null, .string (bb r.val.data), .slice hq r.hdrs.length hcap] 51 :: .raw tb #[.int .i64 x.b.base, .int .i64 x.b.leader, .bool x.b.app, .bool x.b.txn, .bool x.b.ctl, .int .i64 x.b.last, .int .i64 x.b.first, .int .i64 x.b.maxt, .int .i64 x.b.prod, .int .i64 x.b.epoch, .int .i64 x.b.seq, .slice xq x.l.length xcap] 45 :: .raw rb #[.slice qb l.length bcap, .int .i64 c, .slice q ch.length cap] 29 :: L)) (fun _ iv _ => r.hdrs.length - (intOf iv).toNat)
                      case atStart => exact ⟨0, U9, Nat.zero_le _, rfl, rfl, HUS.out, H.out⟩
                      case round =>
                        obtain ⟨k4, E4, hk4', rfl, rfl, HE4, hst4⟩ := hrel
                        clear H
                        have H := Lib.hid hst4
                        clear hst4
                        have z6 := H.out.rawCell 6
                        simp at z6
                        have hkb4 : (r.hdrs.length : Int) ≤ 1000000 := HHB.out
                        by_cases hk4 : k4 < r.hdrs.length
                        · obtain ⟨hb, ho, hhq⟩ := fl_at HHK.out H.out (by omega)
                          rw [hhq] at z6
                          have HHK' := HHK.out
                          rw [hhq] at HHK'
                          have HHQ := Lib.hid hhq
                          obtain ⟨z, hz⟩ : ∃ z, r.hdrs[k4] = z := ⟨_, rfl⟩
                          obtain ⟨d2, hd2⟩ : ∃ t, hexW z.key = t := ⟨_, rfl⟩
                          obtain ⟨d4, hd4⟩ : ∃ t, blobT z.val = t := ⟨_, rfl⟩
                          have he4 := HE4.out
                          rw [flat_cutS hdrT r.hdrs k4 hk4 z hz] at he4
                          obtain ⟨V1, hV1⟩ : ∃ B, E4 ++ [104, 101, 97, 100, 101, 114, 32] = B := ⟨_, rfl⟩
                          obtain ⟨V2, hV2⟩ : ∃ B, V1 ++ d2 = B := ⟨_, rfl⟩
                          obtain ⟨V3, hV3⟩ : ∃ B, V2 ++ [32] = B := ⟨_, rfl⟩
                          obtain ⟨V4, hV4⟩ : ∃ B, V3 ++ d4 = B := ⟨_, rfl⟩
                          obtain ⟨V5, hV5⟩ : ∃ B, V4 ++ [10] = B := ⟨_, rfl⟩
                          have hVS : V5 ++ ((r.hdrs.drop (k4 + 1)).flatMap hdrT ++ R3) = S := by
                            rw [← he4, ← hV5, ← hV4, ← hV3, ← hV2, ← hV1]; simp [hdrT, hd2, hd4]
                          have lV := ahead_le hVS HSL.out
                          have eV1 := congrArg List.length hV1
                          have eV2 := congrArg List.length hV2
                          have eV3 := congrArg List.length hV3
                          have eV4 := congrArg List.length hV4
                          have eV5 := congrArg List.length hV5
                          rw [List.length_append] at eV1 eV2 eV3 eV4 eV5
                          simp only [List.length_cons, List.length_nil] at eV1
                          simp only [List.length_cons, List.length_nil] at eV3
                          simp only [List.length_cons, List.length_nil] at eV5
                          have gV1 : ¬ (9223372036854775807 < E4.length + 7) := by omega
                          have kV1 : bb E4 ++ ⟨#[104, 101, 97, 100, 101, 114, 32]⟩ = bb V1 := by rw [← hV1]; exact bb_append _ _
                          have gV2 : ¬ (9223372036854775807 < V1.length + d2.length) := by omega
                          have kV2 : bb V1 ++ bb d2 = bb V2 := by rw [← hV2]; exact bb_append _ _
                          have gV3 : ¬ (9223372036854775807 < V2.length + 1) := by omega
                          have kV3 : bb V2 ++ ⟨#[32]⟩ = bb V3 := by rw [← hV3]; exact bb_append _ _
                          have gV4 : ¬ (9223372036854775807 < V3.length + d4.length) := by omega
                          have kV4 : bb V3 ++ bb d4 = bb V4 := by rw [← hV4]; exact bb_append _ _
                          have gV5 : ¬ (9223372036854775807 < V4.length + 1) := by omega
                          have kV5 : bb V4 ++ ⟨#[10]⟩ = bb V5 := by rw [← hV5]; exact bb_append _ _
                          have m_d2 : d2.length ≤ 1000000 := by omega
                          have m_d4 : d4.length ≤ 1000000 := by omega
                          clear hV1 eV1 hV2 eV2 hV3 eV3 hV4 eV4 hV5 eV5
                          have hm := HRF.out.2.2.1 z (hz ▸ List.getElem_mem hk4)
                          have HVS := Lib.hid hVS
                          have HD2 := Lib.hid hd2
                          have HD4 := Lib.hid (show blobT ⟨z.val.null, z.val.data⟩ = d4 from hd4)
                          have HKL := Lib.hid (show z.key.length ≤ 1000000 by have := hexW_len z.key; rw [hd2] at this; omega)
                          have HVL := Lib.hid (show z.val.data.length ≤ 1000000 by have := blobT_len z.val hm; rw [hd4] at this; omega)
                          have KP21 := Lib.hid (show ∀ (w' : World), St W0 w' K (.raw t9 #[.int .i64 r.time, .int .i64 r.off, .bool r.key.null, .string (bb r.key.data), .bool r.val.null, .string (bb r.val.data), .slice hq r.hdrs.length hcap] 51 :: .raw tb #[.int .i64 x.b.base, .int .i64 x.b.leader, .bool x.b.app, .bool x.b.txn, .bool x.b.ctl, .int .i64 x.b.last, .int .i64 x.b.first, .int .i64 x.b.maxt, .int .i64 x.b.prod, .int .i64 x.b.epoch, .int .i64 x.b.seq, .slice xq x.l.length xcap] 45 :: .raw rb #[.slice qb l.length bcap, .int .i64 c, .slice q ch.length cap] 29 :: L) → (w'.cell? ⟨t9, 6, none⟩ = some (.slice (some ⟨hb, ho, none⟩) r.hdrs.length hcap) ∧ w'.cell? ⟨hb, ho + k4 * 3, none⟩ = some (.string (bb z.key)) ∧ w'.cell? ⟨hb, ho + k4 * 3 + 1, none⟩ = some (.bool z.val.null) ∧ w'.cell? ⟨hb, ho + k4 * 3 + 2, none⟩ = some (.string (bb z.val.data))) from fun w' h' => by
                            obtain ⟨a1, a2, a3⟩ := rhdr_cell HHK' h' k4 hk4 z hz
                            have a0 := h'.rawCell 6
                            simp only [HHQ.out] at a0
                            exact ⟨a0, a1, a2, a3⟩)
                          have hk4i : (k4 : Int) < (r.hdrs.length : Int) := by omega
                          clear hVS hd2 hd4 he4 hz hm lV hhq HHK' m_d2 m_d4
                          go_upto_region 21 with fail
                          have hs := H.out.drew
                          clear H z6
                          refine wp_region_held_drew (S := fun w' => w'.cell? ⟨t9, 6, none⟩ = some (.slice (some ⟨hb, ho, none⟩) r.hdrs.length hcap) ∧ w'.cell? ⟨hb, ho + k4 * 3, none⟩ = some (.string (bb z.key)) ∧ w'.cell? ⟨hb, ho + k4 * 3 + 1, none⟩ = some (.bool z.val.null) ∧ w'.cell? ⟨hb, ho + k4 * 3 + 2, none⟩ = some (.string (bb z.val.data))) (by kernel_rfl) (KP21.out _ hs) (fun hHeld => ?_)
                          refine wpAnyH_take (i := 0) (oi := { dst := some 104, op := Op.move (Operand.tmp 3), type := 9, pos := "ref.go:90", after := #[], guard := none }) (v := ?_) rfl (by kernel_rfl) (by kernel_rfl) (by kernel_rfl) (fun _ _ _ h => h) (Or.inl ⟨by rfl, ?_⟩) (by assumption) ?_
                          rotate_left
                          · intro w hSw; (try dsimp only at hSw); go_simp; try with_reducible rfl
                          simp only [Act.put, List.setIfInBounds_toArray, List.set_cons_zero, List.set_cons_succ]
                          refine wpAnyH_take (i := 1) (oi := { dst := some 105, op := Op.binOp BinOp.add 9 (Operand.tmp 104) (Operand.const (Value.string { data := #[104, 101, 97, 100, 101, 114, 32] })) 9, type := 9, pos := "ref.go:90", after := #[{ on := 0, ground := Ground.data }], guard := none }) (v := ?_) rfl (by kernel_rfl) (by kernel_rfl) (by kernel_rfl) (fun _ _ _ h => h) (Or.inl ⟨by rfl, ?_⟩) (by assumption) ?_
                          rotate_left
                          · intro w hSw; (try dsimp only at hSw); go_simp; try with_reducible rfl
                          simp only [Act.put, List.setIfInBounds_toArray, List.set_cons_zero, List.set_cons_succ]
                          refine wpAnyH_take (i := 2) (oi := { dst := some 106, op := Op.fieldAddr 51 (Operand.tmp 9) 4, type := 0, pos := "ref.go:90", after := #[], guard := none }) (v := ?_) rfl (by kernel_rfl) (by kernel_rfl) (by kernel_rfl) (fun _ _ _ h => h) (Or.inl ⟨by rfl, ?_⟩) (by assumption) ?_
                          rotate_left
                          · intro w hSw; (try dsimp only at hSw); go_simp; try with_reducible rfl
                          simp only [Act.put, List.setIfInBounds_toArray, List.set_cons_zero, List.set_cons_succ]
                          refine wpAnyH_take (i := 3) (oi := { dst := some 107, op := Op.load 49 (Operand.tmp 106), type := 49, pos := "ref.go:90", after := #[{ on := 2, ground := Ground.data }], guard := none }) (v := ?_) rfl (by kernel_rfl) (by kernel_rfl) (by kernel_rfl) (fun _ _ _ h => h) (Or.inl ⟨by rfl, ?_⟩) (by assumption) ?_
                          rotate_left
                          · intro w hSw; (try dsimp only at hSw); go_simp; try with_reducible rfl
                          simp only [Act.put, List.setIfInBounds_toArray, List.set_cons_zero, List.set_cons_succ]
                          refine wpAnyH_take (i := 4) (oi := { dst := some 108, op := Op.move (Operand.tmp 10), type := 3, pos := "ref.go:90", after := #[], guard := none }) (v := ?_) rfl (by kernel_rfl) (by kernel_rfl) (by kernel_rfl) (fun _ _ _ h => h) (Or.inl ⟨by rfl, ?_⟩) (by assumption) ?_
                          rotate_left
                          · intro w hSw; (try dsimp only at hSw); go_simp; try with_reducible rfl
                          simp only [Act.put, List.setIfInBounds_toArray, List.set_cons_zero, List.set_cons_succ]
                          refine wpAnyH_take (i := 5) (oi := { dst := some 109, op := Op.indexAddr 49 (Operand.tmp 107) (Operand.tmp 108), type := 0, pos := "ref.go:90", after := #[{ on := 3, ground := Ground.data }, { on := 4, ground := Ground.data }], guard := none }) (v := ?_) rfl (by kernel_rfl) (by kernel_rfl) (by kernel_rfl) (fun _ _ _ h => h) (Or.inl ⟨by rfl, ?_⟩) (by assumption) ?_
                          rotate_left
                          · intro w hSw; (try dsimp only at hSw); go_simp; try with_reducible rfl
                          simp only [Act.put, List.setIfInBounds_toArray, List.set_cons_zero, List.set_cons_succ]
                          refine wpAnyH_take (i := 6) (oi := { dst := some 110, op := Op.fieldAddr 54 (Operand.tmp 109) 0, type := 0, pos := "ref.go:90", after := #[{ on := 5, ground := Ground.data }], guard := none }) (v := ?_) rfl (by kernel_rfl) (by kernel_rfl) (by kernel_rfl) (fun _ _ _ h => h) (Or.inl ⟨by rfl, ?_⟩) (by assumption) ?_
                          rotate_left
                          · intro w hSw; (try dsimp only at hSw); go_simp; try with_reducible rfl
                          simp only [Act.put, List.setIfInBounds_toArray, List.set_cons_zero, List.set_cons_succ]
                          refine wpAnyH_take (i := 7) (oi := { dst := some 111, op := Op.load 9 (Operand.tmp 110), type := 9, pos := "ref.go:90", after := #[{ on := 6, ground := Ground.data }], guard := none }) (v := ?_) rfl (by kernel_rfl) (by kernel_rfl) (by kernel_rfl) (fun _ _ _ h => h) (Or.inl ⟨by rfl, ?_⟩) (by assumption) ?_
                          rotate_left
                          · intro w hSw; (try dsimp only at hSw); go_simp; try with_reducible rfl
                          simp only [Act.put, List.setIfInBounds_toArray, List.set_cons_zero, List.set_cons_succ]
                          refine wpAnyH_take (i := 11) (oi := { dst := some 115, op := Op.fieldAddr 51 (Operand.tmp 9) 4, type := 0, pos := "ref.go:90", after := #[], guard := none }) (v := ?_) rfl (by kernel_rfl) (by kernel_rfl) (by kernel_rfl) (fun _ _ _ h => h) (Or.inl ⟨by rfl, ?_⟩) (by assumption) ?_
                          rotate_left
                          · intro w hSw; (try dsimp only at hSw); go_simp; try with_reducible rfl
                          simp only [Act.put, List.setIfInBounds_toArray, List.set_cons_zero, List.set_cons_succ]
                          refine wpAnyH_take (i := 12) (oi := { dst := some 116, op := Op.load 49 (Operand.tmp 115), type := 49, pos := "ref.go:90", after := #[{ on := 11, ground := Ground.data }], guard := none }) (v := ?_) rfl (by kernel_rfl) (by kernel_rfl) (by kernel_rfl) (fun _ _ _ h => h) (Or.inl ⟨by rfl, ?_⟩) (by assumption) ?_
                          rotate_left
                          · intro w hSw; (try dsimp only at hSw); go_simp; try with_reducible rfl
                          simp only [Act.put, List.setIfInBounds_toArray, List.set_cons_zero, List.set_cons_succ]
                          refine wpAnyH_take (i := 13) (oi := { dst := some 117, op := Op.move (Operand.tmp 10), type := 3, pos := "ref.go:90", after := #[], guard := none }) (v := ?_) rfl (by kernel_rfl) (by kernel_rfl) (by kernel_rfl) (fun _ _ _ h => h) (Or.inl ⟨by rfl, ?_⟩) (by assumption) ?_
                          rotate_left
                          · intro w hSw; (try dsimp only at hSw); go_simp; try with_reducible rfl
                          simp only [Act.put, List.setIfInBounds_toArray, List.set_cons_zero, List.set_cons_succ]
                          refine wpAnyH_take (i := 14) (oi := { dst := some 118, op := Op.indexAddr 49 (Operand.tmp 116) (Operand.tmp 117), type := 0, pos := "ref.go:90", after := #[{ on := 12, ground := Ground.data }, { on := 13, ground := Ground.data }], guard := none }) (v := ?_) rfl (by kernel_rfl) (by kernel_rfl) (by kernel_rfl) (fun _ _ _ h => h) (Or.inl ⟨by rfl, ?_⟩) (by assumption) ?_
                          rotate_left
                          · intro w hSw; (try dsimp only at hSw); go_simp; try with_reducible rfl
                          simp only [Act.put, List.setIfInBounds_toArray, List.set_cons_zero, List.set_cons_succ]
                          refine wpAnyH_take (i := 15) (oi := { dst := some 119, op := Op.fieldAddr 54 (Operand.tmp 118) 1, type := 0, pos := "ref.go:90", after := #[{ on := 14, ground := Ground.data }], guard := none }) (v := ?_) rfl (by kernel_rfl) (by kernel_rfl) (by kernel_rfl) (fun _ _ _ h => h) (Or.inl ⟨by rfl, ?_⟩) (by assumption) ?_
                          rotate_left
                          · intro w hSw; (try dsimp only at hSw); go_simp; try with_reducible rfl
                          simp only [Act.put, List.setIfInBounds_toArray, List.set_cons_zero, List.set_cons_succ]
                          refine wpAnyH_take (i := 16) (oi := { dst := some 120, op := Op.load 48 (Operand.tmp 119), type := 48, pos := "ref.go:90", after := #[{ on := 15, ground := Ground.data }], guard := none }) (v := ?_) rfl (by kernel_rfl) (by kernel_rfl) (by kernel_rfl) (fun _ _ _ h => h) (Or.inl ⟨by rfl, ?_⟩) (by assumption) ?_
                          rotate_left
                          · intro w hSw; (try dsimp only at hSw); go_simp; try with_reducible rfl
                          simp only [Act.put, List.setIfInBounds_toArray, List.set_cons_zero, List.set_cons_succ]
                          refine wpAnyH_ready (rs := [8]) (by kernel_rfl) (by simp) (AllReadyH.cons (o := { dst := some 112, op := Op.call { callee := Callee.value (Operand.func 17), args := #[Operand.tmp 111], argTypes := #[9] }, type := 9, pos := "ref.go:90", after := #[{ on := 7, ground := Ground.data }], guard := none }) rfl (fun KK hK => ?_) AllReadyH.nil)
                          · go_simp
                            go_at_call 17
                            with_reducible refine (rs_hexT z.key d2 HD2.out HKL.out hs).mono ?_
                            rintro e wq ⟨rfl, hs⟩
                            refine hK.out _ _ (KP21.out _ hs) (fun hHeld => ?_)
                            clear hK KK
                            try simp only [Act.put, List.setIfInBounds_toArray, List.set_cons_zero, List.set_cons_succ]
                            refine wpAnyH_take (i := 9) (oi := { dst := some 113, op := Op.binOp BinOp.add 9 (Operand.tmp 105) (Operand.tmp 112) 9, type := 9, pos := "ref.go:90", after := #[{ on := 1, ground := Ground.data }, { on := 8, ground := Ground.data }], guard := none }) (v := ?_) rfl (by kernel_rfl) (by kernel_rfl) (by kernel_rfl) (fun _ _ _ h => h) (Or.inl ⟨by rfl, ?_⟩) (by assumption) ?_
                            rotate_left
                            · intro w hSw; (try dsimp only at hSw); go_simp; try with_reducible rfl
                            simp only [Act.put, List.setIfInBounds_toArray, List.set_cons_zero, List.set_cons_succ]
                            refine wpAnyH_take (i := 10) (oi := { dst := some 114, op := Op.binOp BinOp.add 9 (Operand.tmp 113) (Operand.const (Value.string { data := #[32] })) 9, type := 9, pos := "ref.go:90", after := #[{ on := 9, ground := Ground.data }], guard := none }) (v := ?_) rfl (by kernel_rfl) (by kernel_rfl) (by kernel_rfl) (fun _ _ _ h => h) (Or.inl ⟨by rfl, ?_⟩) (by assumption) ?_
                            rotate_left
                            · intro w hSw; (try dsimp only at hSw); go_simp; try with_reducible rfl
                            simp only [Act.put, List.setIfInBounds_toArray, List.set_cons_zero, List.set_cons_succ]
                            refine wpAnyH_ready (rs := [17]) (by kernel_rfl) (by simp) (AllReadyH.cons (o := { dst := some 121, op := Op.call { callee := Callee.value (Operand.func 29), args := #[Operand.tmp 120], argTypes := #[48] }, type := 9, pos := "ref.go:90", after := #[{ on := 16, ground := Ground.data }, { on := 8, ground := Ground.chain }], guard := none }) rfl (fun KK hK => ?_) AllReadyH.nil)
                            · go_simp
                              go_at_call 29
                              with_reducible refine (rs_blob z.val.null z.val.data d4 HD4.out HVL.out hs).mono ?_
                              rintro e wq ⟨rfl, hs⟩
                              refine hK.out _ _ (KP21.out _ hs) (fun hHeld => ?_)
                              clear hK KK
                              try simp only [Act.put, List.setIfInBounds_toArray, List.set_cons_zero, List.set_cons_succ]
                              refine wpAnyH_take (i := 18) (oi := { dst := some 122, op := Op.binOp BinOp.add 9 (Operand.tmp 114) (Operand.tmp 121) 9, type := 9, pos := "ref.go:90", after := #[{ on := 10, ground := Ground.data }, { on := 17, ground := Ground.data }], guard := none }) (v := ?_) rfl (by kernel_rfl) (by kernel_rfl) (by kernel_rfl) (fun _ _ _ h => h) (Or.inl ⟨by rfl, ?_⟩) (by assumption) ?_
                              rotate_left
                              · intro w hSw; (try dsimp only at hSw); go_simp; try with_reducible rfl
                              simp only [Act.put, List.setIfInBounds_toArray, List.set_cons_zero, List.set_cons_succ]
                              refine wpAnyH_take (i := 19) (oi := { dst := some 123, op := Op.binOp BinOp.add 9 (Operand.tmp 122) (Operand.const (Value.string { data := #[10] })) 9, type := 9, pos := "ref.go:90", after := #[{ on := 18, ground := Ground.data }], guard := none }) (v := ?_) rfl (by kernel_rfl) (by kernel_rfl) (by kernel_rfl) (fun _ _ _ h => h) (Or.inl ⟨by rfl, ?_⟩) (by assumption) ?_
                              rotate_left
                              · intro w hSw; (try dsimp only at hSw); go_simp; try with_reducible rfl
                              simp only [Act.put, List.setIfInBounds_toArray, List.set_cons_zero, List.set_cons_succ]
                              refine wpAnyH_take (i := 20) (oi := { dst := some 3, op := Op.assign (Operand.tmp 123), type := 9, pos := "ref.go:90", after := #[{ on := 19, ground := Ground.data }, { on := 17, ground := Ground.chain }, { on := 0, ground := Ground.phase }, { on := 1, ground := Ground.phase }, { on := 2, ground := Ground.phase }, { on := 3, ground := Ground.phase }, { on := 4, ground := Ground.phase }, { on := 5, ground := Ground.phase }, { on := 6, ground := Ground.phase }, { on := 7, ground := Ground.phase }, { on := 8, ground := Ground.phase }, { on := 9, ground := Ground.phase }, { on := 10, ground := Ground.phase }, { on := 11, ground := Ground.phase }, { on := 12, ground := Ground.phase }, { on := 13, ground := Ground.phase }, { on := 14, ground := Ground.phase }, { on := 15, ground := Ground.phase }, { on := 16, ground := Ground.phase }, { on := 17, ground := Ground.phase }, { on := 18, ground := Ground.phase }, { on := 19, ground := Ground.phase }], guard := none }) (v := ?_) rfl (by kernel_rfl) (by kernel_rfl) (by kernel_rfl) (fun _ _ _ h => h) (Or.inl ⟨by rfl, ?_⟩) (by assumption) ?_
                              rotate_left
                              · intro w hSw; (try dsimp only at hSw); go_simp; try with_reducible rfl
                              simp only [Act.put, List.setIfInBounds_toArray, List.set_cons_zero, List.set_cons_succ]
                              refine wpAnyH_done (by kernel_rfl) ?_ _
                              clear hHeld
                              have H := Lib.hid hs
                              clear hs
                              go_wp2_with fail
                              go_roundw
                              case rel => exact ⟨k4 + 1, _, hk4, by go_num, rfl, HVS.out, H.out⟩
                              case measure => first | (simp [intOf]; done) | (simp [intOf]; omega)
                        · have hq4 : k4 = r.hdrs.length := by omega
                          have HE4' := Lib.hid (show E4 ++ R3 = S by have h9 := HE4.out; rw [hq4, List.drop_length] at h9; exact h9)
                          have hk4i : ¬ ((k4 : Int) < (r.hdrs.length : Int)) := by omega
                          go_wp2_with fail
                          go_roundw
                          case rel => exact ⟨k3 + 1, E4, hk3, by go_num, rfl, Lib.hid (by rw [HR3.out]; exact HE4'.out), H.out.drop⟩
                          case measure => first | (simp [intOf]; done) | (simp [intOf]; omega)
            · have hq3 : k3 = x.l.length := by omega
              have HE3' := Lib.hid (show E3 ++ R = S by have h9 := HE3.out; rw [hq3, List.drop_length] at h9; exact h9)
              have hk3i : ¬ ((k3 : Int) < (x.l.length : Int)) := by omega
              go_wp2_with fail
              go_roundw
              case rel => exact ⟨k + 1, E3, hk, by go_num, rfl, Lib.hid (by rw [HR.out]; exact HE3'.out), H.out.drop⟩
              case measure => first | (simp [intOf]; done) | (simp [intOf]; omega)
    · have hq1 : k = l.length := by omega
      have HE' := Lib.hid (show E ++ T = S by have h9 := HE.out; rw [hq1, List.drop_length] at h9; exact h9)
      have hki : ¬ ((k : Int) < (l.length : Int)) := by omega
      have hkbi : (l.length : Int) ≤ 1000000 := HLB.out
      by_cases hc0 : c < 0
      · have hc9 : ¬ (0 ≤ c) := by omega
        have hc8 : decide (0 ≤ c) = false := decide_eq_false hc9
        have HE2 := Lib.hid (show E ++ chT ch = S by have h9 := HE'.out; rw [← HT.out] at h9; simpa [cutT, hc0] using h9)
        clear hc0
        by_cases hch : ch = []
        · have hcl : ch.length = 0 := by rw [hch]; rfl
          have hcl2 : (ch.length : Int) = 0 := by omega
          have HES := Lib.hid (show E = S by have h9 := HE2.out; rw [hch] at h9; simpa [chT] using h9)
          clear hch
          go_wp2_with fail
          go_ret
          exact ⟨by rw [HES.out]; rfl, H.out.drop⟩
        · have hcl : 0 < ch.length := List.length_pos_iff.2 hch
          have hcl2 : (0 : Int) < (ch.length : Int) := by omega
          have hcl3 : decide ((0 : Int) < (ch.length : Int)) = true := decide_eq_true hcl2
          obtain ⟨X1, hX1⟩ : ∃ B, E ++ [99, 104, 117, 110, 107, 115] = B := ⟨_, rfl⟩
          have hXS : X1 ++ ((ch.drop 0).flatMap (fun n => 32 :: numW n) ++ [10]) = S := by
            rw [← HE2.out, ← hX1]; simp [chT, numsT, hch]
          have lX := ahead_le hXS HSL.out
          have eX1 := congrArg List.length hX1
          rw [List.length_append] at eX1
          simp only [List.length_cons, List.length_nil] at eX1
          have gX1 : ¬ (9223372036854775807 < E.length + 6) := by omega
          have kX1 : bb E ++ ⟨#[99, 104, 117, 110, 107, 115]⟩ = bb X1 := by rw [← hX1]; exact bb_append _ _
          clear hX1 eX1
          have HXS := Lib.hid hXS
          have HCB := Lib.hid (show (ch.length : Int) ≤ 1000000 by
            have h9 := flat_le (fun n => 32 :: numW n) ch (fun h _ => by simp)
            have h8 := congrArg List.length hXS
            have h7 := HSL.out
            rw [List.drop_zero, List.length_append, List.length_append] at h8
            omega)
          obtain ⟨cb, co, hcq⟩ := fl_at HKC.out H.out hcl
          have HCQ := Lib.hid hcq
          have HKC' := HKC.out
          rw [hcq] at HKC'
          have HKC2 := Lib.hid HKC'
          clear hXS hch lX HKC' hcq
          go_wp2_with fail
          clear gX1 kX1
          go_loopw [3, 11] (fun sv iv wr => ∃ (k5 : Nat) (E5 : Bs), k5 ≤ ch.length ∧ iv = .int .i64 k5 ∧ sv = .string (bb E5) ∧ Hid (E5 ++ ((ch.drop k5).flatMap (fun n => 32 :: numW n) ++ [10]) = S) ∧ St W0 wr K (.raw rb #[.slice qb l.length bcap, .int .i64 c, .slice q ch.length cap] 29 :: L)) (fun _ iv _ => ch.length - (intOf iv).toNat)
          case atStart => exact ⟨0, X1, Nat.zero_le _, rfl, rfl, HXS, H.out⟩
          case round =>
            obtain ⟨k5, E5, hk5', rfl, rfl, HE5, hst5⟩ := hrel
            clear H
            have H := Lib.hid hst5
            clear hst5
            have z2 := H.out.rawCell 2
            simp at z2
            rw [HCQ.out] at z2
            have hcb5 : (ch.length : Int) ≤ 1000000 := HCB.out
            by_cases hk5 : k5 < ch.length
            · obtain ⟨n, hn⟩ : ∃ n, ch[k5] = n := ⟨_, rfl⟩
              have HRN := Lib.hid (show Rn n from HCHR.out n (hn ▸ List.getElem_mem hk5))
              have c0 := rints_cell HKC2.out H.out k5 hk5 n hn
              obtain ⟨d2, hd2⟩ : ∃ t, numW n = t := ⟨_, rfl⟩
              have he5 := HE5.out
              rw [flat_cutS (fun n => 32 :: numW n) ch k5 hk5 n hn] at he5
              obtain ⟨Y1, hY1⟩ : ∃ B, E5 ++ [32] = B := ⟨_, rfl⟩
              obtain ⟨Y2, hY2⟩ : ∃ B, Y1 ++ d2 = B := ⟨_, rfl⟩
              have hYS : Y2 ++ ((ch.drop (k5 + 1)).flatMap (fun n => 32 :: numW n) ++ [10]) = S := by
                rw [← he5, ← hY2, ← hY1]; simp [hd2]
              have lY := ahead_le hYS HSL.out
              have eY1 := congrArg List.length hY1
              have eY2 := congrArg List.length hY2
              rw [List.length_append] at eY1 eY2
              simp only [List.length_cons, List.length_nil] at eY1
              have gY1 : ¬ (9223372036854775807 < E5.length + 1) := by omega
              have kY1 : bb E5 ++ ⟨#[32]⟩ = bb Y1 := by rw [← hY1]; exact bb_append _ _
              have gY2 : ¬ (9223372036854775807 < Y1.length + d2.length) := by omega
              have kY2 : bb Y1 ++ bb d2 = bb Y2 := by rw [← hY2]; exact bb_append _ _
              have m_d2 : d2.length ≤ 1000000 := by omega
              clear hY1 eY1 hY2 eY2
              have HYS := Lib.hid hYS
              have HD2 := Lib.hid hd2
              have hk5i : (k5 : Int) < (ch.length : Int) := by omega
              clear hYS hd2 he5 hn lY m_d2
              go_wp2_with (go_at_call 27; (with_reducible refine (rs_num n HRN.out d2 HD2.out H.out).mono ?_); rintro e_ wn ⟨rfl, h⟩; replace H := Lib.hid h; clear h)
              go_roundw
              case rel => exact ⟨k5 + 1, _, hk5, by go_num, rfl, HYS, H.out⟩
              case measure => first | (simp [intOf]; done) | (simp [intOf]; omega)
            · have hq5 : k5 = ch.length := by omega
              have HE5' := Lib.hid (show E5 ++ [10] = S by have h9 := HE5.out; rw [hq5, List.drop_length] at h9; exact h9)
              have hk5i : ¬ ((k5 : Int) < (ch.length : Int)) := by omega
              obtain ⟨J1, hJ1⟩ : ∃ B, E5 ++ [10] = B := ⟨_, rfl⟩
              have hJS : J1 ++ (([] : Bs)) = S := by
                rw [← HE5'.out, ← hJ1]; simp
              have lJ := ahead_le hJS HSL.out
              have eJ1 := congrArg List.length hJ1
              rw [List.length_append] at eJ1
              simp only [List.length_cons, List.length_nil] at eJ1
              have gJ1 : ¬ (9223372036854775807 < E5.length + 1) := by omega
              have kJ1 : bb E5 ++ ⟨#[10]⟩ = bb J1 := by rw [← hJ1]; exact bb_append _ _
              clear hJ1 eJ1
              have HJS := Lib.hid (show J1 = S by rw [List.append_nil] at hJS; exact hJS)
              clear hJS lJ
              go_wp2_with fail
              go_ret
              exact ⟨by rw [HJS.out]; rfl, H.out.drop⟩
      · have hc9 : 0 ≤ c := by omega
        have hc8 : decide (0 ≤ c) = true := decide_eq_true hc9
        obtain ⟨d2, hd2⟩ : ∃ t, numW c = t := ⟨_, rfl⟩
        obtain ⟨I1, hI1⟩ : ∃ B, E ++ [99, 117, 116, 32] = B := ⟨_, rfl⟩
        obtain ⟨I2, hI2⟩ : ∃ B, I1 ++ d2 = B := ⟨_, rfl⟩
        obtain ⟨I3, hI3⟩ : ∃ B, I2 ++ [10] = B := ⟨_, rfl⟩
        have hIS : I3 ++ (chT ch) = S := by
          rw [← HE'.out, ← HT.out, ← hI3, ← hI2, ← hI1]; simp [cutT, hc0, hd2]
        have lI := ahead_le hIS HSL.out
        have eI1 := congrArg List.length hI1
        have eI2 := congrArg List.length hI2
        have eI3 := congrArg List.length hI3
        rw [List.length_append] at eI1 eI2 eI3
        simp only [List.length_cons, List.length_nil] at eI1
        simp only [List.length_cons, List.length_nil] at eI3
        have gI1 : ¬ (9223372036854775807 < E.length + 4) := by omega
        have kI1 : bb E ++ ⟨#[99, 117, 116, 32]⟩ = bb I1 := by rw [← hI1]; exact bb_append _ _
        have gI2 : ¬ (9223372036854775807 < I1.length + d2.length) := by omega
        have kI2 : bb I1 ++ bb d2 = bb I2 := by rw [← hI2]; exact bb_append _ _
        have gI3 : ¬ (9223372036854775807 < I2.length + 1) := by omega
        have kI3 : bb I2 ++ ⟨#[10]⟩ = bb I3 := by rw [← hI3]; exact bb_append _ _
        have m_d2 : d2.length ≤ 1000000 := by omega
        clear hI1 eI1 hI2 eI2 hI3 eI3
        have HE2 := Lib.hid hIS
        have HD2 := Lib.hid hd2
        clear hIS hd2 hc0 lI m_d2
        by_cases hch : ch = []
        · have hcl : ch.length = 0 := by rw [hch]; rfl
          have hcl2 : (ch.length : Int) = 0 := by omega
          have HES := Lib.hid (show I3 = S by have h9 := HE2.out; rw [hch] at h9; simpa [chT] using h9)
          clear hch
          go_wp2_with (go_at_call 27; (with_reducible refine (rs_num c HCR.out d2 HD2.out H.out).mono ?_); rintro e_ wn ⟨rfl, h⟩; have z2 := h.rawCell 2; simp at z2; replace H := Lib.hid h; clear h)
          go_ret
          exact ⟨by rw [HES.out]; rfl, H.out.drop⟩
        · have hcl : 0 < ch.length := List.length_pos_iff.2 hch
          have hcl2 : (0 : Int) < (ch.length : Int) := by omega
          have hcl3 : decide ((0 : Int) < (ch.length : Int)) = true := decide_eq_true hcl2
          obtain ⟨X1, hX1⟩ : ∃ B, I3 ++ [99, 104, 117, 110, 107, 115] = B := ⟨_, rfl⟩
          have hXS : X1 ++ ((ch.drop 0).flatMap (fun n => 32 :: numW n) ++ [10]) = S := by
            rw [← HE2.out, ← hX1]; simp [chT, numsT, hch]
          have lX := ahead_le hXS HSL.out
          have eX1 := congrArg List.length hX1
          rw [List.length_append] at eX1
          simp only [List.length_cons, List.length_nil] at eX1
          have gX1 : ¬ (9223372036854775807 < I3.length + 6) := by omega
          have kX1 : bb I3 ++ ⟨#[99, 104, 117, 110, 107, 115]⟩ = bb X1 := by rw [← hX1]; exact bb_append _ _
          clear hX1 eX1
          have HXS := Lib.hid hXS
          have HCB := Lib.hid (show (ch.length : Int) ≤ 1000000 by
            have h9 := flat_le (fun n => 32 :: numW n) ch (fun h _ => by simp)
            have h8 := congrArg List.length hXS
            have h7 := HSL.out
            rw [List.drop_zero, List.length_append, List.length_append] at h8
            omega)
          obtain ⟨cb, co, hcq⟩ := fl_at HKC.out H.out hcl
          have HCQ := Lib.hid hcq
          have HKC' := HKC.out
          rw [hcq] at HKC'
          have HKC2 := Lib.hid HKC'
          clear hXS hch lX HKC' hcq
          go_wp2_with (go_at_call 27; (with_reducible refine (rs_num c HCR.out d2 HD2.out H.out).mono ?_); rintro e_ wn ⟨rfl, h⟩; have z2 := h.rawCell 2; simp at z2; replace H := Lib.hid h; clear h)
          clear gX1 kX1 gI1 kI1 gI2 kI2 gI3 kI3
          go_loopw [3, 11] (fun sv iv wr => ∃ (k5 : Nat) (E5 : Bs), k5 ≤ ch.length ∧ iv = .int .i64 k5 ∧ sv = .string (bb E5) ∧ Hid (E5 ++ ((ch.drop k5).flatMap (fun n => 32 :: numW n) ++ [10]) = S) ∧ St W0 wr K (.raw rb #[.slice qb l.length bcap, .int .i64 c, .slice q ch.length cap] 29 :: L)) (fun _ iv _ => ch.length - (intOf iv).toNat)
          case atStart => exact ⟨0, X1, Nat.zero_le _, rfl, rfl, HXS, H.out⟩
          case round =>
            obtain ⟨k5, E5, hk5', rfl, rfl, HE5, hst5⟩ := hrel
            clear H
            have H := Lib.hid hst5
            clear hst5
            have z2 := H.out.rawCell 2
            simp at z2
            rw [HCQ.out] at z2
            have hcb5 : (ch.length : Int) ≤ 1000000 := HCB.out
            by_cases hk5 : k5 < ch.length
            · obtain ⟨n, hn⟩ : ∃ n, ch[k5] = n := ⟨_, rfl⟩
              have HRN := Lib.hid (show Rn n from HCHR.out n (hn ▸ List.getElem_mem hk5))
              have c0 := rints_cell HKC2.out H.out k5 hk5 n hn
              obtain ⟨d2, hd2⟩ : ∃ t, numW n = t := ⟨_, rfl⟩
              have he5 := HE5.out
              rw [flat_cutS (fun n => 32 :: numW n) ch k5 hk5 n hn] at he5
              obtain ⟨Y1, hY1⟩ : ∃ B, E5 ++ [32] = B := ⟨_, rfl⟩
              obtain ⟨Y2, hY2⟩ : ∃ B, Y1 ++ d2 = B := ⟨_, rfl⟩
              have hYS : Y2 ++ ((ch.drop (k5 + 1)).flatMap (fun n => 32 :: numW n) ++ [10]) = S := by
                rw [← he5, ← hY2, ← hY1]; simp [hd2]
              have lY := ahead_le hYS HSL.out
              have eY1 := congrArg List.length hY1
              have eY2 := congrArg List.length hY2
              rw [List.length_append] at eY1 eY2
              simp only [List.length_cons, List.length_nil] at eY1
              have gY1 : ¬ (9223372036854775807 < E5.length + 1) := by omega
              have kY1 : bb E5 ++ ⟨#[32]⟩ = bb Y1 := by rw [← hY1]; exact bb_append _ _
              have gY2 : ¬ (9223372036854775807 < Y1.length + d2.length) := by omega
              have kY2 : bb Y1 ++ bb d2 = bb Y2 := by rw [← hY2]; exact bb_append _ _
              have m_d2 : d2.length ≤ 1000000 := by omega
              clear hY1 eY1 hY2 eY2
              have HYS := Lib.hid hYS
              have HD2 := Lib.hid hd2
              have hk5i : (k5 : Int) < (ch.length : Int) := by omega
              clear hYS hd2 he5 hn lY m_d2
              go_wp2_with (go_at_call 27; (with_reducible refine (rs_num n HRN.out d2 HD2.out H.out).mono ?_); rintro e_ wn ⟨rfl, h⟩; replace H := Lib.hid h; clear h)
              go_roundw
              case rel => exact ⟨k5 + 1, _, hk5, by go_num, rfl, HYS, H.out⟩
              case measure => first | (simp [intOf]; done) | (simp [intOf]; omega)
            · have hq5 : k5 = ch.length := by omega
              have HE5' := Lib.hid (show E5 ++ [10] = S by have h9 := HE5.out; rw [hq5, List.drop_length] at h9; exact h9)
              have hk5i : ¬ ((k5 : Int) < (ch.length : Int)) := by omega
              obtain ⟨J1, hJ1⟩ : ∃ B, E5 ++ [10] = B := ⟨_, rfl⟩
              have hJS : J1 ++ (([] : Bs)) = S := by
                rw [← HE5'.out, ← hJ1]; simp
              have lJ := ahead_le hJS HSL.out
              have eJ1 := congrArg List.length hJ1
              rw [List.length_append] at eJ1
              simp only [List.length_cons, List.length_nil] at eJ1
              have gJ1 : ¬ (9223372036854775807 < E5.length + 1) := by omega
              have kJ1 : bb E5 ++ ⟨#[10]⟩ = bb J1 := by rw [← hJ1]; exact bb_append _ _
              clear hJ1 eJ1
              have HJS := Lib.hid (show J1 = S by rw [List.append_nil] at hJS; exact hJS)
              clear hJS lJ
              go_wp2_with fail
              go_ret
              exact ⟨by rw [HJS.out]; rfl, H.out.drop⟩

end Go.Proofs.YtenojajfacacoaaDoor
/- Lists of cells. -/
namespace Go.Proofs.YtenojajfacacoaaDoor
open Go.RowKit

theorem cells_u8 : Tryd.prog.cellsOf 5 = 1 := by kernel_rfl
theorem cells_int : Tryd.prog.cellsOf 3 = 1 := by kernel_rfl
theorem cells_str : Tryd.prog.cellsOf 9 = 1 := by kernel_rfl
theorem len2 {α : Type} {l : List α} (h : l.length = 2) : ∃ a b, l = [a, b] := by
  match l, h with
  | [a, b], _ => exact ⟨a, b, rfl⟩
theorem len3 {α : Type} {l : List α} (h : l.length = 3) : ∃ a b c, l = [a, b, c] := by
  match l, h with
  | [a, b, c], _ => exact ⟨a, b, c, rfl⟩
theorem len4 {α : Type} {l : List α} (h : l.length = 4) : ∃ a b c d, l = [a, b, c, d] := by
  match l, h with
  | [a, b, c, d], _ => exact ⟨a, b, c, d, rfl⟩

end Go.Proofs.YtenojajfacacoaaDoor
/- What arguments are made of, with the reach of each part. -/
namespace Go.Proofs.YtenojajfacacoaaDoor
open Go.RowKit
open Go.ChangeShapes Go.WideShapes Go.ChangeAt Go.Deep

/-- No part is beyond all reach. -/
def Light {H : Type} (t : TypeId) (d : DataW H) : Prop := ∀ k ∈ d.weights Tryd.prog t, k ≤ reachBytes
theorem reach_eq : reachBytes = 140737488351232 := rfl

section
variable {H : Type} {enc : TypeId × Value → H} {w : World} {spare : Nat → Bool} {held : Bool}

theorem light_arg {ts : List TypeId} {ds : List (DataW H)} (h : (DataW.weightsEach Tryd.prog ts ds).all (· ≤ reachBytes) = true) {j : Nat} {t : TypeId} {d : DataW H} (ht : ts[j]? = some t) (hd : ds[j]? = some d) : Light t d := by
  intro k hk
  have := List.all_eq_true.1 h k (DataW.weights_mem_each ht hd k hk)
  simpa using this

theorem opens_field {t : TypeId} {fs : Array Field} {n N : Nat} {cs : List Value} {y : DataW H × List MemPlace} (ht : Tryd.prog.underlying t = some (.struct fs)) (h : DataW.trod enc Tryd.prog w 0 spare held n t cs = some y) (hl : Light t y.1) (hN : ∀ x ∈ y.2, x.block < N) :
    cs.length = Tryd.prog.cellsOf t ∧ ∃ m, ∀ (i : Nat) (f : Field), fs[i]? = some f → ∃ z, DataW.trod enc Tryd.prog w 0 spare held m f.type ((cs.drop f.offset).take (Tryd.prog.cellsOf f.type)) = some z ∧ Light f.type z.1 ∧ ∀ x ∈ z.2, x.block < N := by
  obtain ⟨xs, m, _, rfl, hc, hxl, hg⟩ := DataW.trod_struct ht h
  refine ⟨hc, m, fun i f hf => ?_⟩
  have hi : i < fs.size := (Array.getElem?_eq_some_iff.1 hf).1
  have hx : xs[i]? = some (xs[i]'(by omega)) := List.getElem?_eq_getElem (by omega)
  refine ⟨_, (hg i f hf).trans hx, ?_, fun x hxx => hN x (List.mem_flatMap.2 ⟨_, List.getElem_mem _, hxx⟩)⟩
  intro k hk
  refine hl k ?_
  simp only [DataW.weights, ht]
  exact DataW.weights_mem_each (j := i) (by rw [List.getElem?_map, Array.getElem?_toList, hf]; rfl) (by rw [List.getElem?_map, hx]; rfl) k hk

theorem opens_str {t : TypeId} {n : Nat} {cs : List Value} {y : DataW H × List MemPlace} (ht : Tryd.prog.underlying t = some .string) (h : DataW.trod enc Tryd.prog w 0 spare held n t cs = some y) (hl : Light t y.1) : ∃ s : Bs, cs = [.string (bb s)] ∧ s.length ≤ 140737488351232 := by
  obtain ⟨s, e, e2, q⟩ := DataW.trod_string ht h
  refine ⟨s.data.toList, e, ?_⟩
  subst e2
  have := hl s.data.toList.length (by simp [DataW.weights])
  rw [reach_eq] at this
  exact this
theorem opens_i64 {t : TypeId} {n : Nat} {cs : List Value} {y : DataW H × List MemPlace} (ht : Tryd.prog.underlying t = some (.int .i64)) (h : DataW.trod enc Tryd.prog w 0 spare held n t cs = some y) : ∃ x : Int, cs = [.int .i64 x] ∧ -9223372036854775808 ≤ x ∧ x < 9223372036854775808 := by
  obtain ⟨x, e, _, q⟩ := DataW.trod_int ht h
  exact ⟨x, e, wf_i64 q⟩
theorem opens_bool {t : TypeId} {n : Nat} {cs : List Value} {y : DataW H × List MemPlace} (ht : Tryd.prog.underlying t = some .bool) (h : DataW.trod enc Tryd.prog w 0 spare held n t cs = some y) : ∃ x : Bool, cs = [.bool x] := by
  obtain ⟨x, e, _⟩ := DataW.trod_bool ht h
  exact ⟨x, e⟩

theorem weightsAll_mem' {P : Program} {e : TypeId} : ∀ {l : List (DataW H)} {d : DataW H}, d ∈ l → ∀ k ∈ d.weights P e, k ∈ DataW.weightsAll P e l
  | a :: l, d, hd, k, hk => by
    simp only [DataW.weightsAll, List.mem_append]
    rcases List.mem_cons.1 hd with rfl | hd
    · exact .inl hk
    · exact .inr (weightsAll_mem' hd k hk)

theorem opens_rows {α : Type} {R : World → List Value → α → Prop} {t e : TypeId} {sz N : Nat} (ht : Tryd.prog.underlying t = some (.slice e)) (hC : Tryd.prog.cellsOf e = sz) (hsz : 0 < sz)
    (hR : ∀ n cs y, DataW.trod enc Tryd.prog w 0 spare held n e cs = some y → Light e y.1 → (∀ x ∈ y.2, x.block < N) → ∃ x, R w cs x)
    {fuel : Nat} {cs : List Value} {x : DataW H × List MemPlace} (h : DataW.trod enc Tryd.prog w 0 spare held fuel t cs = some x) (hl : Light t x.1) (hlt : ∀ y ∈ x.2, y.block < N) (hN : N ≤ w.heap.size) :
    ∃ v l, cs = [v] ∧ RowsOf R (· < N) w v sz l ∧ l.length * Tryd.prog.bytesOf e ≤ 140737488351232 ∧ l.length ≤ maxLen := by
  rcases open_slice ht h with ⟨rfl, rfl⟩ | ⟨a, len, cap, m, n, D, Pl, rfl, hb, hlc, hm, hmm, hx, hi⟩
  · exact ⟨_, [], rfl, ⟨none, 0, rfl, fun h => absurd h (by simp)⟩, by simp, by simp⟩
  · have hlm : len ≤ m := by rw [hmm]; split <;> omega
    have hp2 : x.2 = MemPlace.row a (m * Tryd.prog.cellsOf e) ++ (List.range m).flatMap Pl := by rw [hx]
    have hx1 : x.1 = .slice ((List.range len).map D) ((List.range (m - len)).map fun j => D (len + j)) := by rw [hx]
    have hsum : len * Tryd.prog.bytesOf e ≤ 140737488351232 := by
      have := hl (((List.range len).map D).length * Tryd.prog.bytesOf e + ((List.range (m - len)).map fun j => D (len + j)).length * Tryd.prog.bytesOf e) (by rw [hx1]; simp [DataW.weights, ht, Nat.add_mul])
      rw [reach_eq] at this
      simp only [List.length_map, List.length_range] at this
      omega
    have hle : ∀ i, i < len → Light e (D i) := by
      intro i hil k hk
      refine hl k ?_
      rw [hx1]
      simp only [DataW.weights, ht, List.mem_cons, List.mem_append]
      exact .inr (.inl (weightsAll_mem' (List.mem_map.2 ⟨i, List.mem_range.2 hil, rfl⟩) k hk))
    have key : ∀ i, i < len → ∃ y : α, ∃ cs', cs'.length = sz ∧ R w cs' y ∧ (∀ f u, cs'[f]? = some u → w.cell? ((a.add (i * sz)).add f) = some u) := by
      intro i hil
      obtain ⟨cs', hc, htr⟩ := hi i (by omega)
      obtain ⟨_, hcl, hat⟩ := World.cells?_some hc
      obtain ⟨y, hy⟩ := hR n cs' _ htr (hle i hil) (fun z hz => hlt z (by rw [hp2, List.mem_append]; exact .inr (List.mem_flatMap.2 ⟨i, by simp; omega, hz⟩)))
      rw [hC] at hcl hat
      refine ⟨y, cs', hcl, hy, fun f u hu => ?_⟩
      have hf : f < sz := by rw [← hcl]; exact (List.getElem?_eq_some_iff.1 hu).1
      rw [hat f hf, hu]
    obtain ⟨l, hll, hq⟩ := list_of len _ key
    refine ⟨_, l, rfl, ⟨some a, cap, by rw [hll], fun h0 => ?_⟩, by rw [hll]; exact hsum, by omega⟩
    obtain ⟨cs0, h1, h2, h3⟩ := hq 0 h0
    have hc0 : w.cell? a = some (cs0[0]'(by omega)) := by
      have := h3 0 _ (List.getElem?_eq_getElem (by omega))
      simpa [Addr.add] using this
    have hsp : a.spot = none := by
      cases hs : a.spot with
      | none => rfl
      | some s =>
        unfold World.cell? at hc0
        split at hc0 <;> simp_all
    obtain ⟨ab, ao, asp⟩ := a
    simp only at hsp
    subst hsp
    have hlt0 : ab < N := hlt (.cell ab ao) (by
      rw [hp2, List.mem_append]
      left
      simp only [MemPlace.row, List.mem_map, List.mem_range]
      exact ⟨0, by rw [hC]; exact Nat.mul_pos (by omega) hsz, by simp⟩)
    refine ⟨ab, ao, rfl, hlt0, Nat.lt_of_lt_of_le hlt0 hN, fun i hi => ?_⟩
    obtain ⟨cs', g1, g2, g3⟩ := hq i hi
    refine ⟨cs', g1, g2, fun f u hu => ?_⟩
    have := g3 f u hu
    have e1 : ∀ (o q : Nat), (⟨ab, o, none⟩ : Addr).add q = ⟨ab, o + q, none⟩ := by intro o q; unfold Addr.add; split <;> simp_all
    rw [e1, e1, Nat.add_assoc] at this
    exact this
end

/-- Of a row's things, what is said of each, apart. -/
theorem RowsOf.part {α : Type} {R : World → List Value → α → Prop} {Q : α → Prop} {D : Nat → Prop} {w : World} {v : Value} {sz : Nat} {l : List α} (h : RowsOf (fun w cs x => R w cs x ∧ Q x) D w v sz l) : RowsOf R D w v sz l ∧ ∀ x ∈ l, Q x := by
  refine ⟨h.mono (fun _ _ h => h) (fun _ _ h => h.1), fun x hx => ?_⟩
  obtain ⟨i, hi, rfl⟩ := List.mem_iff_getElem.1 hx
  obtain ⟨p, cap, rfl, h⟩ := h
  obtain ⟨b, off, rfl, _, _, hc⟩ := h (by omega)
  obtain ⟨cs, _, h2, _⟩ := hc i hi
  exact h2.2

end Go.Proofs.YtenojajfacacoaaDoor
/- The elements of arguments, opened: headers. -/
namespace Go.Proofs.YtenojajfacacoaaDoor
open Go.RowKit

open Go.ChangeShapes Go.WideShapes Go.ChangeAt Go.Deep

theorem cells_hdr : Tryd.prog.cellsOf 54 = 3 := by kernel_rfl
theorem cells_blob : Tryd.prog.cellsOf 48 = 2 := by kernel_rfl
theorem cells_bool : Tryd.prog.cellsOf 4 = 1 := by kernel_rfl
section
variable {H : Type} {enc : TypeId × Value → H} {w : World} {spare : Nat → Bool} {held : Bool}
set_option maxRecDepth 100000 in
theorem blob_open : ∀ n a b y, DataW.trod enc Tryd.prog w 0 spare held n 48 [a, b] = some y → ∃ (nl : Bool) (d : ByteArray), a = .bool nl ∧ b = .string d ∧ d.size ≤ maxLen := by
  intro n a b y h
  obtain ⟨xs, n', _, hx, hl, hxl, hg⟩ := DataW.trod_struct Tryd.underlying48 h
  have g0 : DataW.trod enc Tryd.prog w 0 spare held n' 4 (List.take (Tryd.prog.cellsOf 4) (List.drop 0 [a, b])) = xs[0]? := hg 0 _ rfl
  have g1 : DataW.trod enc Tryd.prog w 0 spare held n' 9 (List.take (Tryd.prog.cellsOf 9) (List.drop 1 [a, b])) = xs[1]? := hg 1 _ rfl
  rw [cells_bool] at g0
  rw [cells_str] at g1
  obtain ⟨y0, y1, rfl⟩ := len2 hxl
  obtain ⟨x0, e0, _⟩ := DataW.trod_bool Tryd.underlying4 g0
  obtain ⟨x1, e1, _, q1⟩ := DataW.trod_string Tryd.underlying9 g1
  simp at e0 e1
  exact ⟨x0, x1, e0, e1, q1⟩
set_option maxRecDepth 100000 in
theorem rhdr_open {N : Nat} : ∀ n cs y, DataW.trod enc Tryd.prog w 0 spare held n 54 cs = some y → (∀ x ∈ y.2, x.block < N) → ∃ x : HdrS, RHdr cs x := by
  intro n cs y h _
  obtain ⟨xs, n', _, hx, hl, hxl, hg⟩ := DataW.trod_struct Tryd.underlying54 h
  rw [cells_hdr] at hl
  obtain ⟨a, b, c, rfl⟩ := len3 hl
  have g0 : DataW.trod enc Tryd.prog w 0 spare held n' 9 (List.take (Tryd.prog.cellsOf 9) (List.drop 0 [a, b, c])) = xs[0]? := hg 0 _ rfl
  have g1 : DataW.trod enc Tryd.prog w 0 spare held n' 48 (List.take (Tryd.prog.cellsOf 48) (List.drop 1 [a, b, c])) = xs[1]? := hg 1 _ rfl
  rw [cells_str] at g0
  rw [cells_blob] at g1
  obtain ⟨y0, y1, rfl⟩ := len2 hxl
  obtain ⟨x0, e0, _, q0⟩ := DataW.trod_string Tryd.underlying9 g0
  obtain ⟨nl, d, e1, e2, _⟩ := blob_open _ _ _ _ g1
  simp at e0
  subst e0 e1 e2
  exact ⟨⟨x0.data.toList, ⟨nl, d.data.toList⟩⟩, rfl⟩
end

end Go.Proofs.YtenojajfacacoaaDoor
/- The elements of arguments, opened, with their reach: headers. -/
namespace Go.Proofs.YtenojajfacacoaaDoor
open Go.RowKit
open Go.ChangeShapes Go.WideShapes Go.ChangeAt Go.Deep

section
variable {H : Type} {enc : TypeId × Value → H} {w : World} {spare : Nat → Bool} {held : Bool}
set_option maxRecDepth 100000 in
theorem blob_opens {N : Nat} : ∀ n cs y, DataW.trod enc Tryd.prog w 0 spare held n 48 cs = some y → Light 48 y.1 → (∀ x ∈ y.2, x.block < N) → ∃ x : BlobS, cs = [.bool x.null, .string (bb x.data)] ∧ x.data.length ≤ 140737488351232 := by
  intro n cs y h hl hN
  obtain ⟨hc, m, hf⟩ := opens_field Tryd.underlying48 h hl hN
  rw [cells_blob] at hc
  obtain ⟨a, b, rfl⟩ := len2 hc
  obtain ⟨z0, g0, l0, _⟩ := hf 0 _ rfl
  obtain ⟨z1, g1, l1, _⟩ := hf 1 _ rfl
  have g0 : DataW.trod enc Tryd.prog w 0 spare held m 4 (List.take (Tryd.prog.cellsOf 4) (List.drop 0 [a, b])) = some z0 := g0
  have g1 : DataW.trod enc Tryd.prog w 0 spare held m 9 (List.take (Tryd.prog.cellsOf 9) (List.drop 1 [a, b])) = some z1 := g1
  rw [cells_bool] at g0
  rw [cells_str] at g1
  obtain ⟨x, e0⟩ := opens_bool Tryd.underlying4 g0
  obtain ⟨s, e1, hs⟩ := opens_str Tryd.underlying9 g1 l1
  simp at e0 e1
  subst e0 e1
  exact ⟨⟨x, s⟩, rfl, hs⟩
set_option maxRecDepth 100000 in
theorem rhdr_opens {N : Nat} : ∀ n cs y, DataW.trod enc Tryd.prog w 0 spare held n 54 cs = some y → Light 54 y.1 → (∀ x ∈ y.2, x.block < N) → ∃ x : HdrS, RHdr cs x ∧ (x.key.length ≤ 140737488351232 ∧ x.val.data.length ≤ 140737488351232) := by
  intro n cs y h hl hN
  obtain ⟨hc, m, hf⟩ := opens_field Tryd.underlying54 h hl hN
  rw [cells_hdr] at hc
  obtain ⟨a, b, c, rfl⟩ := len3 hc
  obtain ⟨z0, g0, l0, n0⟩ := hf 0 _ rfl
  obtain ⟨z1, g1, l1, n1⟩ := hf 1 _ rfl
  have g0 : DataW.trod enc Tryd.prog w 0 spare held m 9 (List.take (Tryd.prog.cellsOf 9) (List.drop 0 [a, b, c])) = some z0 := g0
  have g1 : DataW.trod enc Tryd.prog w 0 spare held m 48 (List.take (Tryd.prog.cellsOf 48) (List.drop 1 [a, b, c])) = some z1 := g1
  rw [cells_str] at g0
  rw [cells_blob] at g1
  obtain ⟨s, e0, hs⟩ := opens_str Tryd.underlying9 g0 l0
  obtain ⟨x, e1, hx⟩ := blob_opens _ _ _ g1 l1 n1
  simp at e0 e1
  obtain ⟨e1, e2⟩ := e1
  subst e0 e1 e2
  exact ⟨⟨s, x⟩, rfl, hs, hx⟩
end

end Go.Proofs.YtenojajfacacoaaDoor
/- Contracts: writing a record, by the document. -/
namespace Go.Proofs.YtenojajfacacoaaDoor
open Go.RowKit

theorem raw7S {W0 w : World} {K : Know} {L : List Res} {b : Nat} {T : TypeId} {v0 v1 v2 v3 v4 v5 v6 : Value} (h : St W0 w K (.raw b #[v0, v1, v2, v3, v4, v5, v6] T :: L)) :
    (w.cell? ⟨b, 0, none⟩ = some v0 ∧ w.cell? ⟨b, 1, none⟩ = some v1 ∧ w.cell? ⟨b, 2, none⟩ = some v2 ∧ w.cell? ⟨b, 3, none⟩ = some v3 ∧ w.cell? ⟨b, 4, none⟩ = some v4 ∧ w.cell? ⟨b, 5, none⟩ = some v5 ∧ w.cell? ⟨b, 6, none⟩ = some v6) ∧ St W0 w K (.raw b #[v0, v1, v2, v3, v4, v5, v6] T :: L) :=
  ⟨⟨h.rawCell 0, h.rawCell 1, h.rawCell 2, h.rawCell 3, h.rawCell 4, h.rawCell 5, h.rawCell 6⟩, h⟩
theorem conv_zero {W0 w : World} {K : Know} {L : List Res} {b : Nat} {T : TypeId} (h : St W0 w K (.raw b #[.int .u8 0] T :: L)) :
    (convert 56 9 (.slice (some ⟨b, 0, none⟩) 1 1)).run Tryd.prog w = .ok (.string ⟨#[0]⟩) w := by
  refine run_convert_bytes_back (P := Tryd.prog) w 56 9 5 ⟨b, 0, none⟩ 1 [0] Tryd.underlying56 Tryd.underlying5 Tryd.underlying9 (fun j hj => ?_)
  have hj : j = 0 := by simp at hj; exact hj
  subst hj
  exact h.rawCell 0
end Go.Proofs.YtenojajfacacoaaDoor
/- Layer 7, walked: RecordEncodes. -/
namespace Go.Proofs.YtenojajfacacoaaDoor
open Go.RowKit

end Go.Proofs.YtenojajfacacoaaDoor
