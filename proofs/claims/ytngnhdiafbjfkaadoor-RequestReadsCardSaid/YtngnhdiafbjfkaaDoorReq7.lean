/- Heads of requests: contracts at large. -/
import Derived.Test.YtngnhdiafbjfkaaDoorReq6
namespace Go.Proofs.YtngnhdiafbjfkaaDoor
open Go.RowKit

theorem ref17_read (s : Bs) (hsl : s.length ≤ 140737488355328) (y : HeadS) (m : Nat) (e : Int) (hy : reHeadV (reHead s) = y) (hm : reHeadN (reHead s) = m) (he : reHeadE (reHead s) = e) {W0 w : World} {K : Know} {L : List Res} (h : St W0 w K L) :
    Calls Tryd.prog 22 #[.string (bb s)] w fun en w' => en = .returned (.tuple #[.agg #[.int .i64 y.kind, .int .i64 y.ver, .int .i64 y.num, .bool y.cli.null, .string (bb y.cli.data)], .int .i64 m, .int .i64 e]) ∧ St W0 w' K L := by
  subst hy hm he
  by_cases h1 : s.length < 4
  · have e1 : reHead s = .error 1 := if_pos h1
    rw [e1]
    exact ref17_read_short s h1 h
  by_cases h2 : verErr (sInt (s.take 2)) (sInt ((s.drop 2).take 2)) = 0
  · by_cases h3 : s.length < 8
    · have e1 : reHead s = .error 1 := by unfold reHead; rw [if_neg h1, if_neg (fun x => x h2), if_pos h3]
      rw [e1]
      exact ref17_read_mid s h1 h3 _ _ rfl rfl h2 h
    · cases hx : refixed 2 (s.drop 8) with
      | error e =>
        have e1 : reHead s = .error e := by unfold reHead; rw [if_neg h1, if_neg (fun x => x h2), if_neg h3, hx]
        have e0 : e ≠ 0 := ((rds_fixed 2 (by decide) (by decide)).err (s.drop 8) 0 e (Nat.zero_le _) (by rw [List.drop_zero]; exact hx)).1
        rw [e1]
        exact ref17_read_bad s h3 hsl _ _ _ rfl rfl rfl h2 false [] 0 e (by rw [hx]; rfl) (by decide) e0 h
      | ok x =>
        obtain ⟨⟨u, d⟩, k⟩ := x
        have e1 : reHead s = .ok (⟨sInt (s.take 2), sInt ((s.drop 2).take 2), sInt ((s.drop 4).take 4), ⟨u, d⟩⟩, 8 + k) := by unfold reHead; rw [if_neg h1, if_neg (fun x => x h2), if_neg h3, hx]
        have hk := (refixed_one _ _ _ hx).2.1
        rw [List.length_drop] at hk
        rw [e1]
        have e8 : ((8 + k : Nat) : Int) = 8 + (k : Int) := by omega
        simp only [reHeadV, reHeadN, reHeadE]
        rw [e8]
        exact ref17_read_good s h3 hsl _ _ _ rfl rfl rfl h2 u d k 0 (by rw [hx]; rfl) (by omega) rfl h
  · have e1 : reHead s = .error (verErr (sInt (s.take 2)) (sInt ((s.drop 2).take 2))) := by unfold reHead; rw [if_neg h1, if_pos h2]
    rw [e1]
    exact ref17_read_vers s h1 hsl _ _ _ rfl rfl rfl h2 h
theorem req_readH (p : Nat) (i j : InS) (y : HeadS) (hx : i.head = (y, j)) {W0 w : World} {K : Know} {L : List Res} (hk : K.has Know.reqs) (h : St W0 w K (.inp p i :: L)) :
    Calls Tryd.prog 20 #[inPtr p] w fun en w' => en = .returned (.agg #[.int .i64 y.kind, .int .i64 y.ver, .int .i64 y.num, .bool y.cli.null, .string (bb y.cli.data)]) ∧ St W0 w' K (.inp p j :: L) := by
  have e2 : (headF i).2 = j := congrArg Prod.snd hx
  have e1 : (if j.err = 0 then (⟨(headA i).1, (headB i).1, (headD i).1, ⟨(headF i).1.null, (headF i).1.data⟩⟩ : HeadS) else HeadS.z) = y := by rw [← e2]; exact congrArg Prod.fst hx
  exact req_read p i (headA i).2 (headB i).2 (headC i) (headD i).2 j (headA i).1 (headB i).1 (headD i).1 (headF i).1.null (headF i).1.data (headE i) j.err rfl rfl rfl rfl rfl (by rw [← e2]; rfl) rfl y e1 hk h
theorem req_writeV (p : Nat) (h0 : HeadS) (o2 : OutS) (vd : ByteArray) (hv : vd = bb h0.cli.data) (hx : (⟨[], 0⟩ : OutS).head h0 = o2) (hR : h0.R) {W0 w : World} {K : Know} {L : List Res} (hk : K.has Know.reqs) (h : St W0 w K (.out p ⟨[], 0⟩ :: L)) :
    Calls Tryd.prog 14 #[outPtr p, .agg #[.int .i64 h0.kind, .int .i64 h0.ver, .int .i64 h0.num, .bool h0.cli.null, .string vd]] w fun en w' => en = .returned (.tuple #[]) ∧ St W0 w' K (.out p o2 :: L) := by
  subst hv
  obtain ⟨a, v, n, ⟨u, d⟩⟩ := h0
  obtain ⟨ra, rv, rn⟩ := hR
  by_cases he : headErr ⟨a, v, n, ⟨u, d⟩⟩ = 0
  · obtain ⟨g0, g1, g2, g3, g4⟩ := head_put _ he
    simp only at g1 g2 g3 g4 ra rv rn
    rw [g0] at hx
    subst hx
    obtain ⟨s1, s2⟩ := verErr_small _ _ g1
    have hb : fits (⟨u, d⟩ : BlobS).len 2 := by
      have h2 : half 2 = 32768 := by decide
      unfold BlobS.len
      refine ⟨by decide, by decide, ?_, ?_⟩ <;> simp [h2] <;> split <;> omega
    have e1 : (⟨[], 0⟩ : OutS).int a 2 = ⟨beBytes a 2, 0⟩ := by unfold OutS.int; rw [if_pos (fits2_small _ s1)]; rfl
    have e2 : (⟨beBytes a 2, 0⟩ : OutS).int v 2 = ⟨beBytes a 2 ++ beBytes v 2, 0⟩ := by unfold OutS.int; rw [if_pos (fits2_small _ ⟨s2.1, by omega⟩)]; rfl
    have e3 : (⟨beBytes a 2 ++ beBytes v 2, 0⟩ : OutS).int n 4 = ⟨beBytes a 2 ++ beBytes v 2 ++ beBytes n 4, 0⟩ := by unfold OutS.int; rw [if_pos g2]; rfl
    have e4 : (⟨beBytes a 2 ++ beBytes v 2 ++ beBytes n 4, 0⟩ : OutS).putFixed ⟨u, d⟩ 2 = ⟨encHead ⟨a, v, n, ⟨u, d⟩⟩, 0⟩ := by
      unfold OutS.putFixed OutS.int OutS.putData
      rw [if_pos hb, g3]
      simp [OutS.put, encHead, encF, List.append_assoc]
    exact req_write_ok p _ _ _ _ _ a v n u d he e1 e2 e3 e4 ra rv rn (by simp [OutS.ok]) (by simp [OutS.ok]) (by simp [OutS.ok]) (by simp [OutS.ok]; omega) hk h
  · have hx2 : (⟨[], 0⟩ : OutS).fail (headErr ⟨a, v, n, ⟨u, d⟩⟩) = o2 := by rw [← hx, head_bad _ he]; rfl
    exact req_write_bad p _ o2 a v n u d _ rfl he hx2 rn hk h
theorem req_checkV (h0 : HeadS) (q : Int) (vd : ByteArray) (hv : vd = bb h0.cli.data) (hq : headErr h0 = q) (hR : h0.R) {W0 w : World} {K : Know} {L : List Res} (hk : K.has Know.reqs) (h : St W0 w K L) :
    Calls Tryd.prog 17 #[.agg #[.int .i64 h0.kind, .int .i64 h0.ver, .int .i64 h0.num, .bool h0.cli.null, .string vd]] w fun en w' => en = .returned (.int .i64 q) ∧ St W0 w' K L := by
  subst hv
  exact req_check _ _ _ _ _ q hq hR.2.2 hk h
theorem ref17_checkV (h0 : HeadS) (q : Int) (hq : headErr h0 = q) {W0 w : World} {K : Know} {L : List Res} (h : St W0 w K L) :
    Calls Tryd.prog 16 #[.agg #[.int .i64 h0.kind, .int .i64 h0.ver, .int .i64 h0.num, .bool h0.cli.null, .string (bb h0.cli.data)]] w fun en w' => en = .returned (.int .i64 q) ∧ St W0 w' K L := ref17_check _ _ _ _ _ q hq h
theorem ref17_writeV (h0 : HeadS) (B : Bs) (hB : encHead h0 = B) (hR : h0.R) (hd : h0.cli.data.length ≤ 100000) {W0 w : World} {K : Know} {L : List Res} (h : St W0 w K L) :
    Calls Tryd.prog 19 #[.agg #[.int .i64 h0.kind, .int .i64 h0.ver, .int .i64 h0.num, .bool h0.cli.null, .string (bb h0.cli.data)]] w fun en w' => en = .returned (.string (bb B)) ∧ St W0 w' K L := by
  subst hB
  exact ref17_write _ _ _ _ _ hR.1 hR.2.1 hR.2.2 hd h

theorem so_textQ (p : Nat) (o : OutS) (s : Bs) (e : Int) (hx : o.text = (s, e)) {W0 w : World} {K : Know} {L : List Res} (h : St W0 w K (.out p o :: L)) :
    Calls Tryd.prog 15 #[outPtr p] w fun en w' => en = .returned (.tuple #[.string (bb s), .int .i64 e]) ∧ St W0 w' K (.out p o :: L) := by
  have := so_text p o h; rw [hx] at this; exact this
set_option maxHeartbeats 1000000 in
set_option maxRecDepth 100000 in
theorem speaks17 {W0 w : World} {K : Know} {L : List Res} (hk : K.has Know.reqs) (h : St W0 w K L) :
    Calls Tryd.prog 13 #[] w fun en w' => en = .returned (.bool true) ∧ St W0 w' K L := by
  have h1 := h.allocOut
  obtain ⟨po, hpo⟩ : ∃ b, w.heap.size = b := ⟨_, rfl⟩
  rw [hpo] at h1
  have H := Lib.hid h1
  have HK := Lib.hid hk
  have HX := Lib.hid (show (⟨[], 0⟩ : OutS).head ⟨22, 1, 5, ⟨true, []⟩⟩ = ⟨[0, 22, 0, 1, 0, 0, 0, 5, 255, 255], 0⟩ from (head_put ⟨22, 1, 5, ⟨true, []⟩⟩ (by decide)).1.trans (by decide +kernel))
  have HR1 := Lib.hid (show HeadS.R ⟨22, 1, 5, ⟨true, []⟩⟩ by unfold HeadS.R; decide)
  have HR2 := Lib.hid (show HeadS.R ⟨1, 0, 0, ⟨false, []⟩⟩ by unfold HeadS.R; decide)
  have HZ := Lib.hid (show (⟨#[]⟩ : ByteArray) = bb [] from rfl)
  have HE := Lib.hid (show headErr ⟨1, 0, 0, ⟨false, []⟩⟩ = 12 by decide)
  have HT := Lib.hid (show (⟨[0, 22, 0, 1, 0, 0, 0, 5, 255, 255], 0⟩ : OutS).text = ([0, 22, 0, 1, 0, 0, 0, 5, 255, 255], 0) from rfl)
  clear h h1 hk
  go_enter Tryd.func13, Tryd.ntmps13
  go_wp2_with (first
    | (go_at_call 14; (with_reducible refine (req_writeV po ⟨22, 1, 5, ⟨true, []⟩⟩ _ _ HZ.out HX.out HR1.out HK.out H.out).mono ?_); rintro e wn ⟨rfl, h⟩; replace H := Lib.hid h; clear h)
    | (go_at_call 15; (with_reducible refine (so_textQ po _ _ _ HT.out H.out).mono ?_); rintro e wn ⟨rfl, h⟩; replace H := Lib.hid h; clear h)
    | (go_at_call 17; (with_reducible refine (req_checkV ⟨1, 0, 0, ⟨false, []⟩⟩ 12 _ HZ.out HE.out HR2.out HK.out H.out).mono ?_); rintro e wn ⟨rfl, h⟩; replace H := Lib.hid h; clear h))
  go_ret
  exact ⟨rfl, H.out.drop⟩

end Go.Proofs.YtngnhdiafbjfkaaDoor
