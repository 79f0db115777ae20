/- Contracts of input, output and cursitorref01 over things that are apart. -/
import Derived.Test.YtmpehoebgifmnaaDoorSep
namespace Go.Proofs.YtmpehoebgifmnaaDoor
open Go.RowKit

theorem s_fail (b : Nat) (i : InS) (e : Int) {W0 w : World} {K : Know} {L : List Res} (h : St W0 w K (.inp b i :: L)) :
    Calls Tryd.prog 34 #[inPtr b, .int .i64 e] w fun en w' => en = .returned (.tuple #[]) ∧ St W0 w' K (.inp b (i.fail e) :: L) :=
  (in_fail b i e w h.inpGet).mono fun _ _ ⟨h1, h2, h3⟩ => ⟨h1, h.inp h2 h3⟩
theorem s_left (b : Nat) (i : InS) {W0 w : World} {K : Know} {L : List Res} (h : St W0 w K (.inp b i :: L)) :
    Calls Tryd.prog 53 #[inPtr b] w fun en w' => en = .returned (.int .i64 i.left) ∧ St W0 w' K (.inp b i :: L) :=
  (in_left b i w h.inpGet).mono fun _ _ ⟨h1, n, h2⟩ => ⟨h1, h2 ▸ h.drewN n⟩
theorem s_err (b : Nat) (i : InS) {W0 w : World} {K : Know} {L : List Res} (h : St W0 w K (.inp b i :: L)) :
    Calls Tryd.prog 65 #[inPtr b] w fun en w' => en = .returned (.int .i64 i.err) ∧ St W0 w' K (.inp b i :: L) :=
  (in_err b i w h.inpGet).mono fun _ _ ⟨h1, h2⟩ => ⟨h1, h2 ▸ h⟩
theorem s_take (b : Nat) (i : InS) (n : Int) {W0 w : World} {K : Know} {L : List Res} (h : St W0 w K (.inp b i :: L)) :
    Calls Tryd.prog 50 #[inPtr b, .int .i64 n] w fun en w' => en = .returned (.string (bb (i.take n).1)) ∧ St W0 w' K (.inp b (i.take n).2 :: L) :=
  (in_take b i n w h.inpGet).mono fun _ _ ⟨h1, h2, h3⟩ => ⟨h1, h.inp h2 h3⟩
theorem s_int (b : Nat) (i : InS) (n : Int) {W0 w : World} {K : Know} {L : List Res} (h : St W0 w K (.inp b i :: L)) :
    Calls Tryd.prog 33 #[inPtr b, .int .i64 n] w fun en w' => en = .returned (.int .i64 (i.int n).1) ∧ St W0 w' K (.inp b (i.int n).2 :: L) :=
  (in_int b i n w h.inpGet).mono fun _ _ ⟨h1, h2, h3⟩ => ⟨h1, h.inp h2 h3⟩
theorem s_count (b : Nat) (i : InS) (n m : Int) {W0 w : World} {K : Know} {L : List Res} (h : St W0 w K (.inp b i :: L)) :
    Calls Tryd.prog 63 #[inPtr b, .int .i64 n, .int .i64 m] w fun en w' => en = .returned (.int .i64 (i.count n m).1) ∧ St W0 w' K (.inp b (i.count n m).2 :: L) :=
  (in_count b i n m w h.inpGet).mono fun _ _ ⟨h1, h2, h3⟩ => ⟨h1, h.inp h2 h3⟩
theorem s_close (b : Nat) (i : InS) {W0 w : World} {K : Know} {L : List Res} (h : St W0 w K (.inp b i :: L)) :
    Calls Tryd.prog 36 #[inPtr b] w fun en w' => en = .returned (.int .i64 i.close.err) ∧ St W0 w' K (.inp b i.close :: L) :=
  (in_close b i w h.inpGet).mono fun _ _ ⟨h1, h2, h3⟩ => ⟨h1, h.inp h2 h3⟩
theorem s_new (s : Bs) (hs : s.length ≤ 140737488355328) {W0 w : World} {K : Know} {L : List Res} (h : St W0 w K L) :
    Calls Tryd.prog 32 #[.string (bb s)] w fun en w' => ∃ b, en = .returned (inPtr b) ∧ St W0 w' K (.inp b ⟨s, 0, 0⟩ :: L) :=
  (in_new s w hs).mono fun _ _ ⟨h1, h2, h3⟩ => ⟨_, h1, h.newInp h2 h3 (Nat.le_refl _)⟩

theorem so_fail (b : Nat) (o : OutS) (e : Int) {W0 w : World} {K : Know} {L : List Res} (h : St W0 w K (.out b o :: L)) :
    Calls Tryd.prog 44 #[outPtr b, .int .i64 e] w fun en w' => en = .returned (.tuple #[]) ∧ St W0 w' K (.out b (o.fail e) :: L) := by
  obtain ⟨g, hg⟩ := h.outGet
  exact (out_fail b g o e w hg).mono fun _ _ ⟨h1, h2, h3⟩ => ⟨h1, h.out hg h2 h3 (Newer.refl _ _)⟩
theorem so_put (b : Nat) (o : OutS) (s : Bs) {W0 w : World} {K : Know} {L : List Res} (h : St W0 w K (.out b o :: L)) (hr : o.ok s.length) :
    Calls Tryd.prog 77 #[outPtr b, .string (bb s)] w fun en w' => en = .returned (.tuple #[]) ∧ St W0 w' K (.out b (o.put s) :: L) := by
  obtain ⟨g, hg⟩ := h.outGet
  exact (out_put b g o s w hg hr).mono fun _ _ ⟨h1, g', h2, h3, h4⟩ => ⟨h1, h.out hg h2 h3 h4⟩
theorem so_byte (b : Nat) (o : OutS) (c : UInt8) {W0 w : World} {K : Know} {L : List Res} (h : St W0 w K (.out b o :: L)) (hr : o.ok 1) :
    Calls Tryd.prog 45 #[outPtr b, .int .u8 c.toNat] w fun en w' => en = .returned (.tuple #[]) ∧ St W0 w' K (.out b (o.put [c]) :: L) := by
  obtain ⟨g, hg⟩ := h.outGet
  exact (out_byte b g o c w hg hr).mono fun _ _ ⟨h1, g', h2, h3, h4⟩ => ⟨h1, h.out hg h2 h3 h4⟩
theorem so_int (b : Nat) (o : OutS) (n size : Int)  (hn : -9223372036854775808 ≤ n ∧ n < 9223372036854775808) {W0 w : World} {K : Know} {L : List Res} (h : St W0 w K (.out b o :: L)) (hr : o.ok 8) :
    Calls Tryd.prog 27 #[outPtr b, .int .i64 n, .int .i64 size] w fun en w' => en = .returned (.tuple #[]) ∧ St W0 w' K (.out b (o.int n size) :: L) := by
  obtain ⟨g, hg⟩ := h.outGet
  exact (out_int b g o n size w hg hr hn.1 hn.2).mono fun _ _ ⟨h1, g', h2, h3, h4⟩ => ⟨h1, h.out hg h2 h3 h4⟩
theorem so_text (b : Nat) (o : OutS) {W0 w : World} {K : Know} {L : List Res} (h : St W0 w K (.out b o :: L)) :
    Calls Tryd.prog 29 #[outPtr b] w fun en w' => en = .returned (.tuple #[.string (bb o.text.1), .int .i64 o.text.2]) ∧ St W0 w' K (.out b o :: L) := by
  obtain ⟨g, hg⟩ := h.outGet
  exact (out_text b g o w hg).mono fun _ _ ⟨h1, n, h2⟩ => ⟨h1, h2 ▸ h.drewN n⟩
theorem so_fits (n size : Int) (hn : -9223372036854775808 ≤ n ∧ n < 9223372036854775808) {W0 w : World} {K : Know} {L : List Res} (h : St W0 w K L) :
    Calls Tryd.prog 43 #[.int .i64 n, .int .i64 size] w fun en w' => en = .returned (.bool (decide (fits n size))) ∧ St W0 w' K L :=
  (out_fits n size w hn.1 hn.2).mono fun _ _ ⟨h1, h2⟩ => ⟨h1, h2 ▸ h⟩

end Go.Proofs.YtmpehoebgifmnaaDoor
