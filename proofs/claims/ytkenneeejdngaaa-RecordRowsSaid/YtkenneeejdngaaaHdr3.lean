/- Contracts of package header: finding. -/
import Derived.Test.YtkenneeejdngaaaHdr2
namespace Go.Proofs.Ytkenneeejdngaaa
open Go.RowKit

def findStep (key : Bs) (a : BlobS × Bool) (h : HdrS) : BlobS × Bool := if h.key = key then (h.val, true) else a
def findS (l : List HdrS) (key : Bs) : BlobS × Bool := l.foldl (findStep key) (⟨false, []⟩, false)
theorem find_skip (key : Bs) : ∀ (l : List HdrS) (a : BlobS × Bool), (∀ h ∈ l, h.key ≠ key) → l.foldl (findStep key) a = a
  | [], _, _ => rfl
  | h :: t, a, hh => by
    have e : findStep key a h = a := if_neg (hh h (by simp))
    show t.foldl (findStep key) (findStep key a h) = a
    rw [e]
    exact find_skip key t a (fun x hx => hh x (by simp [hx]))
theorem find_at (l : List HdrS) (key : Bs) (i : Nat) (hi : i < l.length) (he : l[i].key = key) (hn : ∀ h ∈ l.drop (i + 1), h.key ≠ key) : findS l key = (l[i].val, true) := by
  have e : l = l.take i ++ l[i] :: l.drop (i + 1) := by simp
  have e2 : findS l key = (l.take i ++ l[i] :: l.drop (i + 1)).foldl (findStep key) (⟨false, []⟩, false) := by unfold findS; rw [← e]
  rw [e2, List.foldl_append, List.foldl_cons, find_skip key _ _ hn]
  exact if_pos he

/-- The cells of a header that came in. -/
theorem hdr_cells {W0 w : World} {K : Know} {L : List Res} {l : List HdrS} {q : Option Addr} {cap : Nat} (hk : K.has (Know.flat RHdr (.slice q l.length cap) 3 l)) (h : St W0 w K L) (i : Nat) (hi : i < l.length) :
    ∃ b off, q = some ⟨b, off, none⟩ ∧ w.cell? ⟨b, off + i * 3, none⟩ = some (.string (bb (l[i]'hi).key)) ∧ w.cell? ⟨b, off + i * 3 + 1, none⟩ = some (.bool (l[i]'hi).val.null) ∧ w.cell? ⟨b, off + i * 3 + 2, none⟩ = some (.string (bb (l[i]'hi).val.data)) := by
  obtain ⟨F, hF, _⟩ := h.get
  obtain ⟨q2, cap2, hv2, hrow⟩ := (hk _ _ hF).at
  obtain ⟨b, off, hq, hcells⟩ := hrow (by omega)
  obtain ⟨cs, _, hR, hc⟩ := hcells i hi
  unfold RHdr at hR
  subst hR
  refine ⟨b, off, by simp at hv2; rw [hv2.1, hq], ?_, ?_, ?_⟩
  · have := hc 0 _ rfl; rwa [Nat.add_zero] at this
  · have := hc 1 _ rfl; rwa [← Nat.add_assoc] at this
  · have := hc 2 _ rfl; rwa [← Nat.add_assoc] at this
theorem flat_form {W0 w : World} {K : Know} {L : List Res} {α : Type} {R : List Value → α → Prop} {sz : Nat} {v : Value} {l : List α} (hk : K.has (Know.flat R v sz l)) (h : St W0 w K L) : ∃ q cap, v = .slice q l.length cap := by
  obtain ⟨F, hF, _⟩ := h.get
  obtain ⟨q, cap, hv, _⟩ := (hk _ _ hF).at
  exact ⟨q, cap, hv⟩

set_option maxHeartbeats 1000000 in
set_option maxRecDepth 100000 in
theorem header_find (v : Value) (l : List HdrS) (key : Bs) (hl : l.length ≤ 9223372036854775807) {W0 w : World} {K : Know} {L : List Res} (hk : K.has (Know.flat RHdr v 3 l)) (h : St W0 w K L) :
    Calls Try.prog 33 #[v, .string (bb key)] w fun en w' => en = .returned (.tuple #[bv (findS l key).1, .bool (findS l key).2]) ∧ St W0 w' K L := by
  obtain ⟨q, cap, rfl⟩ := flat_form hk h
  have H := Lib.hid h
  have HK := Lib.hid hk
  have HLL := Lib.hid hl
  have hw : wrap64 ((l.length : Int) - 1) = (l.length : Int) - 1 := wrap64_in _ (by omega) (by omega)
  clear h hk hl
  go_enter Try.func33, Try.ntmps33
  go_wp2
  go_loopw [6] (fun iv wr => ∃ k : Nat, k ≤ l.length ∧ iv = .int .i64 ((k : Int) - 1) ∧ (∀ h ∈ l.drop k, h.key ≠ key) ∧ wr = w.alloc (.cells #[.bool false, .string ⟨#[]⟩] 55)) (fun iv _ => (intOf iv + 1).toNat)
  case atStart => exact ⟨l.length, Nat.le_refl _, (by first | rfl | exact congrArg _ hw), by simp, rfl⟩
  case round =>
    obtain ⟨k, hk, rfl, hn, rfl⟩ := hrel
    have HN := Lib.hid hn
    clear hn
    cases k with
    | zero =>
      go_wp2
      have e : findS l key = (⟨false, []⟩, false) := find_skip key l _ (by have := HN.out; simpa using this)
      rw [e]
      refine bodyPost_ret (v := .tuple #[bv ⟨false, []⟩, .bool false]) (by simp [results, Try.results33, go_sem, bv]; try rfl) rfl ⟨rfl, H.out.alloc _⟩
    | succ k =>
      obtain ⟨b, off, hq, c0, c1, c2⟩ := hdr_cells HK.out (H.out.alloc (.cells #[.bool false, .string ⟨#[]⟩] 55)) k (by omega)
      subst hq
      have hd := List.drop_eq_getElem_cons (show k < l.length by omega)
      obtain ⟨x, hx⟩ : ∃ x, l[k]'(by omega) = x := ⟨_, rfl⟩
      rw [hx] at c0 c1 c2 hd
      have HX := Lib.hid hx
      have HD := Lib.hid hd
      have hk0 : (k : Int) < l.length := by omega
      have hwk : wrap64 ((k : Int) - 1) = (k : Int) - 1 := wrap64_in _ (by omega) (by have := HLL.out; omega)
      clear hx hd
      by_cases he : x.key = key
      · have hb : (x.key == key) = true := by simp [he]
        have HE := Lib.hid he
        clear he
        go_wp2
        have e : findS l key = (x.val, true) := by rw [← HX.out]; exact find_at l key k _ (by rw [HX.out]; exact HE.out) HN.out
        rw [e]
        refine bodyPost_ret (v := .tuple #[bv x.val, .bool true]) (by simp [results, Try.results33, go_sem, bv]; try rfl) rfl ⟨rfl, ?_⟩
        exact H.out.alloc _
      · have hb : (x.key == key) = false := by simp [he]
        have HE := Lib.hid he
        clear he
        go_wp2
        go_roundw
        case rel =>
          refine ⟨k, by omega, ?_, ?_, ?_⟩
          · first | rfl | exact congrArg _ (by omega)
          · rw [HD.out]
            intro y hy
            rcases List.mem_cons.1 hy with rfl | hy
            · exact HE.out
            · exact HN.out y hy
          · first | rfl | trivial
        case measure => first | (simp [intOf]; done) | (simp [intOf]; omega)

theorem wrap64_range (x : Int) : -9223372036854775808 ≤ wrap64 x ∧ wrap64 x < 9223372036854775808 := by simp only [wrap64]; omega
set_option maxHeartbeats 1000000 in
set_option maxRecDepth 100000 in
theorem l06_small (v : Value) (l : List HdrS) (hl : l.length ≤ 9223372036854775807) {W0 w : World} {K : Know} {L : List Res} (hk : K.has (Know.flat RHdr v 3 l)) (h : St W0 w K L) :
    Calls Try.prog 21 #[v] w fun en w' => ∃ r : Bool, en = .returned (.int .i64 (if r then 1 else 0)) ∧ St W0 w' K L := by
  obtain ⟨q, cap, rfl⟩ := flat_form hk h
  have H := Lib.hid h
  have HK := Lib.hid hk
  clear h hk
  go_enter Try.func21, Try.ntmps21
  go_wp2
  go_loopw [3, 8] (fun nv iv wr => ∃ (k : Nat) (m : Int), k ≤ l.length ∧ iv = .int .i64 k ∧ nv = .int .i64 m ∧ St W0 wr K L) (fun _ iv _ => l.length - (intOf iv).toNat)
  case atStart => exact ⟨0, 0, Nat.zero_le _, rfl, rfl, H.out⟩
  case round =>
    obtain ⟨k, m, hk, rfl, rfl, hst⟩ := hrel
    have HST := Lib.hid hst
    by_cases hlt : k < l.length
    · obtain ⟨b, off, hq, c0, c1, c2⟩ := hdr_cells HK.out hst k hlt
      subst hq
      obtain ⟨x, hx⟩ : ∃ x, l[k]'hlt = x := ⟨_, rfl⟩
      rw [hx] at c0 c1 c2
      clear hst hx
      go_wp2
      · go_ret
        exact ⟨false, rfl, HST.out.alloc _⟩
      · go_roundw
        case rel => exact ⟨k + 1, _, hlt, by go_num, rfl, HST.out.alloc _⟩
        case measure => first | (simp [intOf]; done) | (simp [intOf]; omega)
    · clear hst
      go_wp2
      go_ret
      exact ⟨true, rfl, HST.out⟩

theorem putU_1' : putU (foldN 1) = [2] := by
  have e : foldN 1 = 2 := by decide
  rw [e, putU_small (by decide)]
  decide
theorem hdrs_one : (⟨[], 0⟩ : OutS).putHdrs [⟨[97], ⟨true, []⟩⟩] = ⟨[2, 2, 97, 1], 0⟩ := by
  have e1 : putU (foldN (-1)) = [1] := by
    have e : foldN (-1) = 1 := by decide
    rw [e, putU_small (by decide)]
    decide
  have h : (⟨[], 0⟩ : OutS).putHdrs [⟨[97], ⟨true, []⟩⟩] = ((((((⟨[], 0⟩ : OutS).put (putU (foldN 1))).put (putU (foldN 1))).put [97]).put (putU (foldN (-1)))).put []) := rfl
  rw [h, e1, putU_1']
  rfl
set_option maxHeartbeats 1000000 in
set_option maxRecDepth 100000 in
theorem speaks06 {W0 w : World} {K : Know} {L : List Res} (h : St W0 w K L) :
    Calls Try.prog 20 #[] w fun en w' => en = .returned (.bool true) ∧ St W0 w' K L := by
  have h2 := ((h.allocOut.rowLit [.string (bb [97]), .bool true, .string (bb [])] 57 3 1 rfl (by decide)).freezeRow (R := RHdr) (l := [⟨[97], ⟨true, []⟩⟩]) (f := hcells) (fun x hx => by simp at hx; subst hx; exact ⟨rfl, rfl⟩))
  rw [World.size_alloc] at h2
  have h3 : St W0 ((w.alloc (.cells #[.slice none 0 0, .int .i64 0] 38)).alloc (.cells #[.string ⟨#[97]⟩, .bool true, .string ⟨#[]⟩] 57)) (K.and (Know.flat RHdr (.slice (some ⟨w.heap.size + 1, 0, none⟩) 1 1) 3 [⟨[97], ⟨true, []⟩⟩])) (.out w.heap.size ⟨[], 0⟩ :: L) := h2
  have H := Lib.hid h3
  have tok1 : True := trivial
  have E1 := Lib.hid (show (⟨[], 0⟩ : OutS).putHdrs [⟨[97], ⟨true, []⟩⟩] = ⟨[2, 2, 97, 1], 0⟩ from hdrs_one)
  have E2 := Lib.hid (show (⟨[2, 2, 97, 1], 0⟩ : OutS).text = ([2, 2, 97, 1], 0) from rfl)
  have E3 := Lib.hid (show (⟨[2, 2, 97, 1], 0, 0⟩ : InS).hdrs = ([⟨[97], ⟨true, []⟩⟩], ⟨[2, 2, 97, 1], 4, 0⟩) from by decide +kernel)
  have E4 := Lib.hid (show (⟨[2, 2, 97, 1], 4, 0⟩ : InS).close = ⟨[2, 2, 97, 1], 4, 0⟩ from rfl)
  clear h h2 h3
  go_enter Try.func20, Try.ntmps20
  go_wp2_with (first
    | (go_at_call 22; refine (header_write _ _ _ [⟨[97], ⟨true, []⟩⟩] (by decide) (Know.has_right (Know.has_refl _)) (by first | (first | with_reducible exact H.out | with_reducible exact H.out.p1 | with_reducible exact H.out.p2 | with_reducible exact H.out.p3 | with_reducible exact H.out.p4 | with_reducible exact H.out.p5) | ((repeat first | with_reducible refine St.drewN ?_ _ | with_reducible refine St.drew ?_ | with_reducible refine St.alloc ?_ _); first | with_reducible exact H.out | with_reducible exact H.out.p1 | with_reducible exact H.out.p2 | with_reducible exact H.out.p3 | with_reducible exact H.out.p4 | with_reducible exact H.out.p5)) (by simp [OutS.ok, hsize, HdrS.size])).mono ?_; (repeat first | rw [E1.out]); rintro e wn ⟨rfl, h⟩; replace H := Lib.hid h; clear h)
    | (go_at_call 23; refine (so_text _ _ (by first | (first | with_reducible exact H.out | with_reducible exact H.out.p1 | with_reducible exact H.out.p2 | with_reducible exact H.out.p3 | with_reducible exact H.out.p4 | with_reducible exact H.out.p5) | ((repeat first | with_reducible refine St.drewN ?_ _ | with_reducible refine St.drew ?_ | with_reducible refine St.alloc ?_ _); first | with_reducible exact H.out | with_reducible exact H.out.p1 | with_reducible exact H.out.p2 | with_reducible exact H.out.p3 | with_reducible exact H.out.p4 | with_reducible exact H.out.p5))).mono ?_; (repeat first | rw [E2.out]); rintro e wn ⟨rfl, h⟩; replace H := Lib.hid h; clear h)
    | (go_at_call 25; refine (s_new [2, 2, 97, 1] (by decide) (by first | (first | with_reducible exact H.out | with_reducible exact H.out.p1 | with_reducible exact H.out.p2 | with_reducible exact H.out.p3 | with_reducible exact H.out.p4 | with_reducible exact H.out.p5) | ((repeat first | with_reducible refine St.drewN ?_ _ | with_reducible refine St.drew ?_ | with_reducible refine St.alloc ?_ _); first | with_reducible exact H.out | with_reducible exact H.out.p1 | with_reducible exact H.out.p2 | with_reducible exact H.out.p3 | with_reducible exact H.out.p4 | with_reducible exact H.out.p5))).mono ?_; rintro e wn ⟨b1, rfl, h⟩; replace H := Lib.hid h; clear h)
    | (go_at_call 28; refine (header_read _ _ (by first | (first | with_reducible exact H.out | with_reducible exact H.out.p1 | with_reducible exact H.out.p2 | with_reducible exact H.out.p3 | with_reducible exact H.out.p4 | with_reducible exact H.out.p5) | ((repeat first | with_reducible refine St.drewN ?_ _ | with_reducible refine St.drew ?_ | with_reducible refine St.alloc ?_ _); first | with_reducible exact H.out | with_reducible exact H.out.p1 | with_reducible exact H.out.p2 | with_reducible exact H.out.p3 | with_reducible exact H.out.p4 | with_reducible exact H.out.p5))).mono ?_; (repeat first | rw [E3.out]); rintro e wn ⟨v, rfl, h⟩; replace H := Lib.hid h; clear h; obtain ⟨q, cap, hv⟩ := flat_form (Know.has_right (Know.has_refl _)) H.out; subst hv; obtain ⟨b9, off9, hq9, c0, c1, c2⟩ := hdr_cells (Know.has_right (Know.has_refl _)) H.out 0 (by decide); subst hq9)
    | (go_at_call 29; refine (s_close _ _ (by first | (first | with_reducible exact H.out | with_reducible exact H.out.p1 | with_reducible exact H.out.p2 | with_reducible exact H.out.p3 | with_reducible exact H.out.p4 | with_reducible exact H.out.p5) | ((repeat first | with_reducible refine St.drewN ?_ _ | with_reducible refine St.drew ?_ | with_reducible refine St.alloc ?_ _); first | with_reducible exact H.out | with_reducible exact H.out.p1 | with_reducible exact H.out.p2 | with_reducible exact H.out.p3 | with_reducible exact H.out.p4 | with_reducible exact H.out.p5))).mono ?_; (repeat first | rw [E4.out]); rintro e wn ⟨rfl, h⟩; replace H := Lib.hid h; clear h))
  go_ret
  exact ⟨rfl, (H.out.drop.drop).know (Know.has_left (Know.has_left (Know.has_refl _)))⟩

end Go.Proofs.Ytkenneeejdngaaa
