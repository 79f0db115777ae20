/- A text. -/
import Derived.Test.YtmpehoebgifmnaaRef06b
namespace Go.Proofs.Ytmpehoebgifmnaa
open Go.RowKit

structure RecS where
  time : Int
  off : Int
  key : BlobS
  val : BlobS
  hdrs : List HdrS
deriving DecidableEq
def RecS.zero : RecS := ⟨0, 0, ⟨false, []⟩, ⟨false, []⟩, []⟩
def RecS.R (x : RecS) : Prop := (-9223372036854775808 ≤ x.time ∧ x.time < 9223372036854775808) ∧ (-9223372036854775808 ≤ x.off ∧ x.off < 9223372036854775808)
def RecS.sum (x : RecS) : Nat := x.key.data.length + x.val.data.length + hsum x.hdrs
def InS.recTail (i : InS) (t o : Int) : RecS × InS := (⟨t, o, i.varied.1, i.varied.2.varied.1, i.varied.2.varied.2.hdrs.1⟩, i.varied.2.varied.2.hdrs.2)
def InS.recOff (i : InS) (t : Int) : RecS × InS := (if i.vint.1 < 0 then i.vint.2.fail 11 else i.vint.2).recTail t i.vint.1
def InS.recTime (i : InS) : RecS × InS := i.vlong.2.recOff i.vlong.1
def InS.recFields (i : InS) : RecS × InS := (if (i.int 1).1 = 0 then (i.int 1).2 else (i.int 1).2.fail 8).recTime
theorem InS.fail_stuck {i : InS} (h : i.err ≠ 0) (e : Int) : i.fail e = i := if_neg h
def recD (s : Bs) : RecS × InS := (⟨s, 0, 0⟩ : InS).recFields
def InS.recJ (i : InS) : InS := if (recD i.name.1).2.close.err = 0 then i.name.2 else i.name.2.fail (recD i.name.1).2.close.err
def InS.record (i : InS) : RecS × InS := if i.recJ.err = 0 then ((recD i.name.1).1, i.recJ) else (RecS.zero, i.recJ)
end Go.Proofs.Ytmpehoebgifmnaa
