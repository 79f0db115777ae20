/- A text. -/
import Derived.Test.YtngojlinfdokpaaGreatRef06
namespace Go.Proofs.YtngojlinfdokpaaGreat
open Go.RowKit

theorem ref04_readVariedT (t s : Bs) (v : Value) (ht : t = s) (hs : s.length ≤ 140737488355328) (hv : gotV (revaried s) = v) {W0 w : World} {K : Know} {L : List Res} (h : St W0 w K L) :
  Calls Tryz.prog 67 #[.string (bb t)] w fun en w' => en = .returned v ∧ St W0 w' K L := by
 subst ht; subst hv; exact ref04_readVaried t hs h
def hdrsL (r : Except Int (List HdrS × Nat)) : List HdrS := match r with | .ok x => x.1 | .error _ => []
def hdrsM (r : Except Int (List HdrS × Nat)) : Nat := match r with | .ok x => x.2 | .error _ => 0
def hdrsE (r : Except Int (List HdrS × Nat)) : Int := match r with | .ok _ => 0 | .error e => e
def finish (acc : List HdrS) (at' : Nat) (r : Except Int (List HdrS × Nat)) : Except Int (List HdrS × Nat) := match r with | .ok x => .ok (acc ++ x.1, at' + x.2) | .error e => .error e
theorem finish_step {n : Nat} {acc : List HdrS} {a : Nat} {s : Bs} {x : HdrS} {m : Nat} (h : reHdr (s.drop a) = .ok (x, m)) : finish acc a (reHdrN (n + 1) (s.drop a)) = finish (acc ++ [x]) (a + m) (reHdrN n (s.drop (a + m))) := by
 rw [← List.drop_drop]
 show finish acc a (match reHdr (s.drop a) with | .error e => .error e | .ok x => match reHdrN n ((s.drop a).drop x.2) with | .error e => .error e | .ok y => .ok (x.1 :: y.1, x.2 + y.2)) = _
 rw [h]
 simp only
 cases reHdrN n ((s.drop a).drop m) with
 | error e => rfl
 | ok y => simp [finish, Nat.add_assoc]
theorem finish_err {n : Nat} {acc : List HdrS} {a : Nat} {s : Bs} {e : Int} (h : reHdr (s.drop a) = .error e) : finish acc a (reHdrN (n + 1) (s.drop a)) = .error e := by
 show finish acc a (match reHdr (s.drop a) with | .error e => .error e | .ok x => match reHdrN n ((s.drop a).drop x.2) with | .error e => .error e | .ok y => .ok (x.1 :: y.1, x.2 + y.2)) = _
 rw [h]
 rfl
theorem reHdr_v {l : Bs} {b c : BlobS} {m k : Nat} (h : revaried l = .ok (b, m)) (hn : b.null = false) (h2 : revaried (l.drop m) = .ok (c, k)) : reHdr l = .ok (⟨b.data, c⟩, m + k) := by unfold reHdr; rw [h]; simp only [hn]; rw [h2]; rfl
theorem reHdr_e1 {l : Bs} {e : Int} (h : revaried l = .error e) : reHdr l = .error e := by unfold reHdr; rw [h]
theorem reHdr_n {l : Bs} {b : BlobS} {m : Nat} (h : revaried l = .ok (b, m)) (hn : b.null = true) : reHdr l = .error 4 := by unfold reHdr; rw [h]; simp only [hn]; rfl
theorem reHdr_e2 {l : Bs} {b : BlobS} {m : Nat} {e : Int} (h : revaried l = .ok (b, m)) (hn : b.null = false) (h2 : revaried (l.drop m) = .error e) : reHdr l = .error e := by unfold reHdr; rw [h]; simp only [hn]; rw [h2]; rfl
theorem revaried_nz {l : Bs} {e : Int} (h : revaried l = .error e) : e ≠ 0 := (rds_varied.err l 0 e (Nat.zero_le _) (by rw [List.drop_zero]; exact h)).1
theorem St.emptyRow {W0 w : World} {K : Know} {L : List Res} (h : St W0 w K L) (T : TypeId) (sz : Nat) : St W0 (w.alloc (.cells #[] T)) K (.row (.slice (some ⟨w.heap.size, 0, none⟩) 0 0) T sz 0 [] :: L) := h.rowLit [] T sz 0 (by simp) (Nat.zero_le _)

theorem ref_getE (s : Bs) (e : Int) (hv : vgetF 15 5 0 0 s = .error e) (hs : s.length ≤ 140737488355328) {W0 w : World} {K : Know} {L : List Res} (h : St W0 w K L) :
  Calls Tryz.prog 90 #[.string (bb s), .int .i64 32] w fun en w' => en = .returned (.tuple #[.int .u64 0, .int .i64 0, .int .i64 e]) ∧ St W0 w' K L := by
 have := ref_get s 32 5 15 4 hs (by decide) (by decide) (by decide) (by decide) (by decide) h
 rw [hv] at this; exact this
theorem ref_getO (s : Bs) (u k : Nat) (hv : vgetF 15 5 0 0 s = .ok (u, k)) (hs : s.length ≤ 140737488355328) {W0 w : World} {K : Know} {L : List Res} (h : St W0 w K L) :
  Calls Tryz.prog 90 #[.string (bb s), .int .i64 32] w fun en w' => en = .returned (.tuple #[.int .u64 u, .int .i64 k, .int .i64 0]) ∧ St W0 w' K L := by
 have := ref_get s 32 5 15 4 hs (by decide) (by decide) (by decide) (by decide) (by decide) h
 rw [hv] at this; exact this
theorem ref_backQ (u : Nat) (n : Int) (hn : backN u = n) (hu : u < 18446744073709551616) {W0 w : World} {K : Know} {L : List Res} (h : St W0 w K L) :
  Calls Tryz.prog 92 #[.int .u64 u] w fun en w' => en = .returned (.int .i64 n) ∧ St W0 w' K L := by
 subst hn; exact ref_back u hu h
def HRead (s : Bs) (K : Know) (W0 : World) (L : List Res) (en : Ending) (w' : World) : Prop := ∃ v, en = .returned (.tuple #[v, .int .i64 (hdrsM (reHdrs s)), .int .i64 (hdrsE (reHdrs s))]) ∧ St W0 w' (K.and (Know.flat RHdr v 3 (hdrsL (reHdrs s)))) L
theorem hread_err {s : Bs} {e : Int} (he : reHdrs s = .error e) {W0 w : World} {K : Know} {L : List Res} (h : St W0 w K L) : HRead s K W0 L (.returned (.tuple #[.slice none 0 0, .int .i64 0, .int .i64 e])) w := by
 unfold HRead
 rw [he]
 exact ⟨_, rfl, h.know (know_nil _ _ _)⟩
theorem hread_ok {s : Bs} {l : List HdrS} {m : Nat} {v : Value} (he : reHdrs s = .ok (l, m)) {W0 w : World} {K : Know} {L : List Res} (h : St W0 w K (.row v 67 3 l.length (l.flatMap hcells) :: L)) : HRead s K W0 L (.returned (.tuple #[v, .int .i64 m, .int .i64 0])) w := by
 unfold HRead
 rw [he]
 exact ⟨_, rfl, h.freezeRow (fun x _ => ⟨rfl, rfl⟩)⟩

set_option maxHeartbeats 1000000 in
set_option maxRecDepth 100000 in
theorem ref06_readH (s : Bs) (hs : s.length ≤ 140737488355328) {W0 w : World} {K : Know} {L : List Res} (h : St W0 w K L) :
  Calls Tryz.prog 93 #[.string (bb s)] w (HRead s K W0 L) := by
 have H := Lib.hid h
 have HS := Lib.hid hs
 clear h
 cases hv : vgetF 15 5 0 0 s with
 | error e =>
  have he : reHdrs s = .error e := by unfold reHdrs vgetI; rw [hv]
  have hnz : e ≠ 0 := (digs_err 15 5 0 0 s 0 e (Nat.zero_le _) (by rw [List.drop_zero]; exact hv)).1
  have hb : (e != 0) = true := by rw [bne_iff_ne]; exact hnz
  have HV := Lib.hid hv
  have HE := Lib.hid he
  clear hv he hnz
  go_enter Tryz.func93, Tryz.ntmps93
  go_wp2_with (go_at_call 90; refine (ref_getE s e HV.out HS.out H.out).mono ?_; rintro e wn ⟨rfl, h⟩; replace H := Lib.hid h; clear h)
  go_ret3
  exact hread_err HE.out H.out
 | ok x =>
  obtain ⟨u, k⟩ := x
  obtain ⟨n, hn⟩ : ∃ n, backN u = n := ⟨_, rfl⟩
  have hgi : vgetI s = .ok (n, k) := by unfold vgetI; rw [hv]; simp only; rw [hn]
  obtain ⟨g1, g2, g3, g4, g5⟩ := vgetI_one hgi
  have hu : u < 18446744073709551616 := by have h1 := g4; have h2 := g5; rw [← hn] at h1 h2; unfold backN at h1 h2; omega
  have HV := Lib.hid hv
  have HN := Lib.hid hn
  have HU := Lib.hid hu
  have hrd : reHdrs s = if n < 0 then .error 4 else if ((s.length : Int) - k) / 2 < n then .error 1 else finish [] k (reHdrN n.toNat (s.drop k)) := by
    unfold reHdrs
    rw [hgi]
    simp only
    split
    · rfl
    · split
      · rfl
      · cases reHdrN n.toNat (s.drop k) <;> rfl
  clear hv hn hgi g1 hu
  have ARMS := True.intro
  by_cases h1 : n < 0
  · rw [if_pos h1] at hrd
    have HE := Lib.hid hrd
    clear hrd
    go_enter Tryz.func93, Tryz.ntmps93
    go_wp2_with (first
      | (go_at_call 90; refine (ref_getO s u k HV.out HS.out H.out).mono ?_; rintro e wn ⟨rfl, h⟩; replace H := Lib.hid h; clear h)
      | (go_at_call 92; refine (ref_backQ u n HN.out HU.out H.out).mono ?_; rintro e wn ⟨rfl, h⟩; replace H := Lib.hid h; clear h))
    go_ret3
    exact hread_err HE.out H.out
  rw [if_neg h1] at hrd
  by_cases h2 : ((s.length : Int) - k) / 2 < n
  · rw [if_pos h2] at hrd
    have HE := Lib.hid hrd
    clear hrd
    go_enter Tryz.func93, Tryz.ntmps93
    go_wp2_with (first
      | (go_at_call 90; refine (ref_getO s u k HV.out HS.out H.out).mono ?_; rintro e wn ⟨rfl, h⟩; replace H := Lib.hid h; clear h)
      | (go_at_call 92; refine (ref_backQ u n HN.out HU.out H.out).mono ?_; rintro e wn ⟨rfl, h⟩; replace H := Lib.hid h; clear h))
    go_ret3
    exact hread_err HE.out H.out
  rw [if_neg h2] at hrd
  have HRD := Lib.hid hrd
  clear hrd
  go_enter Tryz.func93, Tryz.ntmps93
  go_wp2_with (first
    | (go_at_call 90; refine (ref_getO s u k HV.out HS.out H.out).mono ?_; rintro e wn ⟨rfl, h⟩; replace H := Lib.hid h; clear h)
    | (go_at_call 92; refine (ref_backQ u n HN.out HU.out H.out).mono ?_; rintro e wn ⟨rfl, h⟩; replace H := Lib.hid h; clear h))
  have HRW := Lib.hid (H.out.emptyRow 67 3)
  go_loopw [6, 9, 10] (fun av lv iv wr => ∃ (i a : Nat) (acc : List HdrS), i ≤ n.toNat ∧ iv = .int .i64 i ∧ av = .int .i64 a ∧ a ≤ s.length ∧ acc.length = i ∧ reHdrs s = finish acc a (reHdrN (n.toNat - i) (s.drop a)) ∧ St W0 wr K (.row lv 67 3 acc.length (acc.flatMap hcells) :: L)) (fun _ _ iv _ => n.toNat - (intOf iv).toNat)
  case atStart => exact ⟨0, k, [], Nat.zero_le _, rfl, rfl, g3, rfl, HRD.out, HRW.out⟩
  case round =>
    obtain ⟨i, a, acc, hi, rfl, rfl, ha, hacc, hrel, hst⟩ := hrel
    have HACC := Lib.hid hacc
    have HREL := Lib.hid hrel
    have HST := Lib.hid hst
    clear hacc hrel hst
    by_cases hlt : (i : Int) < n
    · obtain ⟨q, hq⟩ : ∃ q, n.toNat - i = q + 1 := ⟨n.toNat - (i + 1), by omega⟩
      have hq2 : n.toNat - (i + 1) = q := by omega
      rw [hq] at HREL
      have HQ2 := Lib.hid hq2
      clear hq hq2
      have tok1 : True := trivial
      have H := HST
      clear HST
      cases hv1 : revaried (s.drop a) with
      | error e1 =>
       have hnz := revaried_nz hv1
       have hb : (e1 != 0) = true := by rw [bne_iff_ne]; exact hnz
       have HE := Lib.hid (show reHdrs s = .error e1 by rw [HREL.out, finish_err (reHdr_e1 hv1)])
       have HG := Lib.hid (show gotV (revaried (s.drop a)) = .agg #[.bool false, .string (bb []), .int .i64 0, .int .i64 e1] by rw [hv1]; rfl)
       have HSD := Lib.hid (show (s.drop a).length ≤ 140737488355328 by rw [List.length_drop]; omega)
       clear hv1 hnz
       go_wp2_with (go_at_call 67; have _t := tok1; clear _t; (with_reducible refine (ref04_readVariedT _ (s.drop a) _ (by rw [List.take_of_length_le (by rw [List.length_drop]; exact Nat.le_refl _)]) HSD.out HG.out H.out).mono ?_); rintro e wn ⟨rfl, h⟩; replace H := Lib.hid h; clear h tok1)
       go_quiet (fail)
       go_wp2
       go_ret3
       exact hread_err HE.out ((H.out.drop.alloc _).drewN _)
      | ok x1 =>
       obtain ⟨b, m1⟩ := x1
       obtain ⟨_, o2, o3, _⟩ := revaried_one hv1
       rw [List.length_drop] at o3
       have hm1 : a + m1 ≤ s.length := by omega
       have HG1 := Lib.hid (show gotV (revaried (s.drop a)) = .agg #[.bool b.null, .string (bb b.data), .int .i64 m1, .int .i64 0] by rw [hv1]; rfl)
       have HSD := Lib.hid (show (s.drop a).length ≤ 140737488355328 by rw [List.length_drop]; omega)
       cases hbn : b.null
       · have HB := Lib.hid hbn
         cases hv2 : revaried (s.drop (a + m1)) with
         | error e2 =>
          have hnz := revaried_nz hv2
          have hb : (e2 != 0) = true := by rw [bne_iff_ne]; exact hnz
          have HE := Lib.hid (show reHdrs s = .error e2 by rw [HREL.out, finish_err (reHdr_e2 hv1 hbn (by rw [List.drop_drop]; exact hv2))])
          have HG2 := Lib.hid (show gotV (revaried (s.drop (a + m1))) = .agg #[.bool false, .string (bb []), .int .i64 0, .int .i64 e2] by rw [hv2]; rfl)
          have HSD2 := Lib.hid (show (s.drop (a + m1)).length ≤ 140737488355328 by rw [List.length_drop]; omega)
          rw [hbn] at HG1
          clear hv1 hv2 hnz hbn o2 o3
          go_wp2_with (first
           | (go_at_call 67; have _t := tok1; clear _t; (with_reducible refine (ref04_readVariedT _ (s.drop a) _ (by rw [List.take_of_length_le (by rw [List.length_drop]; exact Nat.le_refl _)]) HSD.out HG1.out H.out).mono ?_); rintro e wn ⟨rfl, h⟩; replace H := Lib.hid h; clear h tok1; have tok2 : True := trivial)
           | (go_at_call 67; have _t := tok2; clear _t; (with_reducible refine (ref04_readVariedT _ (s.drop (a + m1)) _ (by rw [List.take_of_length_le (by rw [List.length_drop]; exact Nat.le_refl _)]) HSD2.out HG2.out (H.out.allocRaw #[.bool false, .string (bb b.data), .int .i64 m1, .int .i64 0] 121)).mono ?_); rintro e wn ⟨rfl, h⟩; replace H := Lib.hid h; clear h tok2))
          go_quiet (fail)
          go_wp2
          go_ret3
          exact hread_err HE.out ((H.out.drop.drop.alloc _).drewN _)
         | ok x2 =>
          obtain ⟨c, m2⟩ := x2
          obtain ⟨_, p2, p3, _⟩ := revaried_one hv2
          rw [List.length_drop] at p3
          have hm2 : a + m1 + m2 ≤ s.length := by omega
          have hh : reHdr (s.drop a) = .ok (⟨b.data, c⟩, m1 + m2) := reHdr_v hv1 hbn (by rw [List.drop_drop]; exact hv2)
          have HNX := Lib.hid (show reHdrs s = finish (acc ++ [⟨b.data, c⟩]) (a + m1 + m2) (reHdrN (n.toNat - (i + 1)) (s.drop (a + m1 + m2))) by rw [HREL.out, finish_step hh, HQ2.out, Nat.add_assoc])
          have HG2 := Lib.hid (show gotV (revaried (s.drop (a + m1))) = .agg #[.bool c.null, .string (bb c.data), .int .i64 m2, .int .i64 0] by rw [hv2]; rfl)
          have HSD2 := Lib.hid (show (s.drop (a + m1)).length ≤ 140737488355328 by rw [List.length_drop]; omega)
          have HI := Lib.hid (show i ≤ 2147483648 by omega)
          rw [hbn] at HG1
          clear hv1 hv2 hbn o2 o3 p2 p3 hh
          go_wp2_with (first
           | (go_at_call 67; have _t := tok1; clear _t; (with_reducible refine (ref04_readVariedT _ (s.drop a) _ (by rw [List.take_of_length_le (by rw [List.length_drop]; exact Nat.le_refl _)]) HSD.out HG1.out H.out).mono ?_); rintro e wn ⟨rfl, h⟩; replace H := Lib.hid h; clear h tok1; have tok2 : True := trivial)
           | (go_at_call 67; have _t := tok2; clear _t; (with_reducible refine (ref04_readVariedT _ (s.drop (a + m1)) _ (by rw [List.take_of_length_le (by rw [List.length_drop]; exact Nat.le_refl _)]) HSD2.out HG2.out (H.out.allocRaw #[.bool false, .string (bb b.data), .int .i64 m1, .int .i64 0] 121)).mono ?_); rintro e wn ⟨rfl, h⟩; replace H := Lib.hid h; clear h tok2; have H2 := Lib.hid (H.out.allocRaw #[.bool c.null, .string (bb c.data), .int .i64 m2, .int .i64 0] 121); have y0 := H2.out.p1.rawCell 0; have y1 := H2.out.p1.rawCell 1; have y2 := H2.out.p1.rawCell 2; have y3 := H2.out.p1.rawCell 3; simp at y0 y1 y2 y3; have x0 := H.out.rawCell 0; have x1 := H.out.rawCell 1; have x2 := H.out.rawCell 2; have x3 := H.out.rawCell 3; simp at x0 x1 x2 x3)
           | (at_builtin; refine wpl_app1_st rfl _ _ 63 rfl 67 Tryz.underlying63 elem_hdr _ _ _ rfl H2.out.p2 [.string (bb b.data), .bool c.null, .string (bb c.data)] 67 (by rw [World.size_alloc]; rfl) rfl (by simp [Value.oneCell']) (by have := HACC.out; have := HI.out; unfold maxLen; omega) (by have := HACC.out; have := HI.out; omega) ?_; intro v' w' h; replace H := Lib.hid h; clear h; have u0 := H.out.p1.rawCell 0; have u1 := H.out.p1.rawCell 1; have u2 := H.out.p1.rawCell 2; have u3 := H.out.p1.rawCell 3; simp at u0 u1 u2 u3; have v0 := H.out.p2.rawCell 0; have v1 := H.out.p2.rawCell 1; have v2 := H.out.p2.rawCell 2; have v3 := H.out.p2.rawCell 3; simp at v0 v1 v2 v3))
          go_roundw
          case rel =>
           refine ⟨i + 1, a + m1 + m2, acc ++ [⟨b.data, c⟩], by omega, by go_num, by go_num, hm2, by simp [HACC.out], HNX.out, ?_⟩
           refine H.out.p1.drop.p1.drop.cast ?_
           simp [hcells]
          case measure => first | (simp [intOf]; done) | (simp [intOf]; omega)
       · have HE := Lib.hid (show reHdrs s = .error 4 by rw [HREL.out, finish_err (reHdr_n hv1 hbn)])
         rw [hbn] at HG1
         clear hv1 hbn o2 o3
         go_wp2_with (go_at_call 67; have _t := tok1; clear _t; (with_reducible refine (ref04_readVariedT _ (s.drop a) _ (by rw [List.take_of_length_le (by rw [List.length_drop]; exact Nat.le_refl _)]) HSD.out HG1.out H.out).mono ?_); rintro e wn ⟨rfl, h⟩; replace H := Lib.hid h; clear h tok1)
         go_ret3
         exact hread_err HE.out (H.out.drop.alloc _)
    · have hin : i = n.toNat := by omega
      have h0 : n.toNat - i = 0 := by omega
      have hfin : reHdrs s = .ok (acc, a) := by rw [HREL.out, h0]; simp [reHdrN, finish]
      have HFIN := Lib.hid hfin
      clear hfin h0 hin
      go_wp2
      go_ret3
      exact hread_ok HFIN.out HST.out

end Go.Proofs.YtngojlinfdokpaaGreat
