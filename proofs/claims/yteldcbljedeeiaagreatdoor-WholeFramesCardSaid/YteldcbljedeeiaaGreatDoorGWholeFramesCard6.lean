/- A text. -/
import Derived.Test.YteldcbljedeeiaaGreatDoorGWholeFramesCard5
import Derived.Test.YteldcbljedeeiaaGreatDoorGWholeFramesCard2
import Derived.Test.YteldcbljedeeiaaGreatDoorGWholeFramesCard3
import Derived.Deep.MidRow
import Derived.Test.YteldcbljedeeiaaGreatDoorGWholeFramesCard4
/- A text. -/
namespace Go.Proofs.YteldcbljedeeiaaGreatDoor
open Go.RowKit
set_option maxRecDepth 100000
set_option maxHeartbeats 8000000
open Go.Value renaming bool→U, string→Z, slice→V, int→I, pointer→Ja
open Go.Ending renaming returned→Y
open Go.IntKind renaming i64→O
open _root_.Go.Proofs.Tryz renaming prog→Jb
open _root_.Nat renaming zero_le→Jd, add_assoc→Jm
open _root_.List renaming take_succ_eq_append_getElem→Jf, length_cons→Jn, length_append→Jc, append_nil→Jp, length_drop→Jh, drop_drop→Jk, append_assoc→Je, flatMap_cons→Jg, getElem_mem→Ji, length_map→Jj, take→Jl, drop→Jo
set_option maxHeartbeats 8000000
set_option maxRecDepth 100000
variable {W0 w:World}{K:Know}{L:List Res}
theorem zQW(n:Int)(h:St W0 w K L):
 Calls Jb 236 #[I O n] w fun en w'=>en=Y (U (way n))∧St W0 w' K L:=by
 have H:=hQd h;clear h
 by_cases h0:n=0
 ·subst h0;go_enter Tryz.func236,Tryz.ntmps236;go_wp2;go_ret;exact⟨rfl,H.out⟩
 have e0:(n==0)=false:=by simpa using h0
 go_enter Tryz.func236,Tryz.ntmps236;go_wp2;go_ret;exact⟨zAo (by unfold way;rw[e0];rfl),H.out⟩
theorem zQV(n:Int)(h:St W0 w K L):
 Calls Jb 237 #[I O n] w fun en w'=>en=Y (U (zDV n))∧St W0 w' K L:=by
 have H:=hQd h;clear h;go_enter Tryz.func237,Tryz.ntmps237;go_wp2;go_ret;exact⟨zAo (by unfold zDV;rfl),H.out⟩
theorem zLe(s:Bs)(r:Int×Int)(hr:zEb 2 way 12 s=r)(hs:s.length≤140737488355328)(h:St W0 w K L):
 Calls Jb 235 #[Z (bb s),I O 2,.func (.func 236) #[] #[],I O 12] w fun en w'=>en=Y (.tuple #[I O r.1,I O r.2])∧St W0 w' K L:=by
 have hrd:verD 2 way 12 s=r:=(zPe 2 way 12 dD dD dD s).trans hr;have H:=hQd h;have HS:=hQd hs;clear h hs hr;obtain⟨a,ha⟩:=eX (verA s);have hI:verI s=if a.1=0 then a.2 else a.2.fail 7:=by unfold verI;rw[ha]
 obtain⟨i,hi⟩:=eX (verI s);rw[hi]at hI;obtain⟨t,ht⟩:=eX (i.int 2);have hJ:verJ 2 way 12 s=if way t.1=true then t.2 else t.2.fail 12:=by unfold verJ;rw[hi];show(if way (i.int 2).1=true then(i.int 2).2 else(i.int 2).2.fail 12)=_;rw[ht]
 obtain⟨j,hj⟩:=eX (verJ 2 way 12 s)
 have hD:(if j.close.err=0 then(t.1,0)else(0,j.close.err))=r:=by
  rw[←hrd,←hj,←ht,←hi];rfl
 rw[hj]at hJ;obtain⟨c,hc⟩:=eX j.close;rw[hc]at hD;have EA:=hQd (show(⟨s,0,0⟩:InS).int 2=a from ha);have ET:=hQd ht;have EC:=hQd hc;obtain⟨o,ho⟩:=eX (way t.1);rw[ho]at hJ;have EO:=hQd ho;clear ha hi ht hj hc ho hrd
 by_cases h1:a.1=0<;>cases o<;>by_cases h3:c.err=0
 all_goals
  first|rw[if_pos h1]at hI|rw[if_neg h1]at hI
  first|rw[if_pos rfl]at hJ|rw[if_neg dD]at hJ
  first|rw[if_pos h3]at hD|rw[if_neg h3]at hD
  subst hD;have b1:(a.1 !=0)=decide (a.1≠0):=by by_cases h:a.1=0<;>simp[h]
  have b3:(c.err !=0)=decide (c.err≠0):=by by_cases h:c.err=0<;>simp[h]
  first|rw[decide_eq_true h1]at b1|rw[decide_eq_false (not_not_intro h1)]at b1
  first|rw[decide_eq_true h3]at b3|rw[decide_eq_false (not_not_intro h3)]at b3
  have EI:=hQd hI.symm;have EJ:=hQd hJ.symm;clear h1 h3 hI hJ;go_enter Tryz.func235,Tryz.ntmps235
  go_wp2_with (first
   |(go_at_call 19;refine(zEh s HS.out stQ).mono ?_;rintro e wn ⟨bi,rfl,h⟩;replace H:=hQd h;clear h)
   |(go_at_call 66;refine(zCa _ _ _ stQ).mono ?_;(repeat first|rw[EA.out]|rw[ET.out]);rintro e wn ⟨rfl,h⟩;replace H:=hQd h;clear h;(try rw[EI.out]at H);(try rw[EJ.out]at H))
   |(go_at_call 70;refine(zBV _ _ _ stQ).mono ?_;(repeat first|rw[EI.out]|rw[EJ.out]);rintro e wn ⟨rfl,h⟩;replace H:=hQd h;clear h)
   |(go_at_call 236;refine(zQW _ H.out).mono ?_;rw[EO.out];rintro e wn ⟨rfl,h⟩;replace H:=hQd h;clear h)
   |(go_at_call 25;refine(zE0 _ _ stQ).mono ?_;(repeat first|rw[EC.out]);rintro e wn ⟨rfl,h⟩;replace H:=hQd h;clear h))
  go_ret2;exact⟨rfl,H.out.drop⟩
theorem zLd(s:Bs)(r:Int×Int)(hr:zEb 4 zDV 11 s=r)(hs:s.length≤140737488355328)(h:St W0 w K L):
 Calls Jb 235 #[Z (bb s),I O 4,.func (.func 237) #[] #[],I O 11] w fun en w'=>en=Y (.tuple #[I O r.1,I O r.2])∧St W0 w' K L:=by
 have hrd:verD 4 zDV 11 s=r:=(zPe 4 zDV 11 dD dD dD s).trans hr;have H:=hQd h;have HS:=hQd hs;clear h hs hr;obtain⟨a,ha⟩:=eX (verA s);have hI:verI s=if a.1=0 then a.2 else a.2.fail 7:=by unfold verI;rw[ha]
 obtain⟨i,hi⟩:=eX (verI s);rw[hi]at hI;obtain⟨t,ht⟩:=eX (i.int 4);have hJ:verJ 4 zDV 11 s=if zDV t.1=true then t.2 else t.2.fail 11:=by unfold verJ;rw[hi];show(if zDV (i.int 4).1=true then(i.int 4).2 else(i.int 4).2.fail 11)=_;rw[ht]
 obtain⟨j,hj⟩:=eX (verJ 4 zDV 11 s)
 have hD:(if j.close.err=0 then(t.1,0)else(0,j.close.err))=r:=by
  rw[←hrd,←hj,←ht,←hi];rfl
 rw[hj]at hJ;obtain⟨c,hc⟩:=eX j.close;rw[hc]at hD;have EA:=hQd (show(⟨s,0,0⟩:InS).int 2=a from ha);have ET:=hQd ht;have EC:=hQd hc;obtain⟨o,ho⟩:=eX (zDV t.1);rw[ho]at hJ;have EO:=hQd ho;clear ha hi ht hj hc ho hrd
 by_cases h1:a.1=0<;>cases o<;>by_cases h3:c.err=0
 all_goals
  first|rw[if_pos h1]at hI|rw[if_neg h1]at hI
  first|rw[if_pos rfl]at hJ|rw[if_neg dD]at hJ
  first|rw[if_pos h3]at hD|rw[if_neg h3]at hD
  subst hD;have b1:(a.1 !=0)=decide (a.1≠0):=by by_cases h:a.1=0<;>simp[h]
  have b3:(c.err !=0)=decide (c.err≠0):=by by_cases h:c.err=0<;>simp[h]
  first|rw[decide_eq_true h1]at b1|rw[decide_eq_false (not_not_intro h1)]at b1
  first|rw[decide_eq_true h3]at b3|rw[decide_eq_false (not_not_intro h3)]at b3
  have EI:=hQd hI.symm;have EJ:=hQd hJ.symm;clear h1 h3 hI hJ;go_enter Tryz.func235,Tryz.ntmps235
  go_wp2_with (first
   |(go_at_call 19;refine(zEh s HS.out stQ).mono ?_;rintro e wn ⟨bi,rfl,h⟩;replace H:=hQd h;clear h)
   |(go_at_call 66;refine(zCa _ _ _ stQ).mono ?_;(repeat first|rw[EA.out]|rw[ET.out]);rintro e wn ⟨rfl,h⟩;replace H:=hQd h;clear h;(try rw[EI.out]at H);(try rw[EJ.out]at H))
   |(go_at_call 70;refine(zBV _ _ _ stQ).mono ?_;(repeat first|rw[EI.out]|rw[EJ.out]);rintro e wn ⟨rfl,h⟩;replace H:=hQd h;clear h)
   |(go_at_call 237;refine(zQV _ H.out).mono ?_;rw[EO.out];rintro e wn ⟨rfl,h⟩;replace H:=hQd h;clear h)
   |(go_at_call 25;refine(zE0 _ _ stQ).mono ?_;(repeat first|rw[EC.out]);rintro e wn ⟨rfl,h⟩;replace H:=hQd h;clear h))
  go_ret2;exact⟨rfl,H.out.drop⟩
theorem zD6(s:Bs)(r:Int×Int)(hr:zEb 2 way 12 s=r)(hs:s.length≤140737488355328)(h:St W0 w K L):
 Calls Jb 198 #[Z (bb s)] w fun en w'=>en=Y (.tuple #[I O r.1,I O r.2])∧St W0 w' K L:=by
 have H:=hQd h;have HS:=hQd hs;have HR:=hQd hr;clear h hs hr;go_enter Tryz.func198,Tryz.ntmps198;go_wp2_with ((go_at_call 235;refine(zLe s r HR.out HS.out stQ).zM ?_;clear H;intro wn H));go_ret2;exact⟨rfl,H.out⟩
theorem zED(s:Bs)(r:Int×Int)(hr:zEb 4 zDV 11 s=r)(hs:s.length≤140737488355328)(h:St W0 w K L):
 Calls Jb 199 #[Z (bb s)] w fun en w'=>en=Y (.tuple #[I O r.1,I O r.2])∧St W0 w' K L:=by
 have H:=hQd h;have HS:=hQd hs;have HR:=hQd hr;clear h hs hr;go_enter Tryz.func199,Tryz.ntmps199;go_wp2_with ((go_at_call 235;refine(zLd s r HR.out HS.out stQ).zM ?_;clear H;intro wn H));go_ret2;exact⟨rfl,H.out⟩
theorem zQn{α:Type}(R:List Value→α→Prop)(sz:Nat)(K:Know):K.has (Know.flat R (V none 0 0) sz []):=fun _ _ _=>⟨none,0,rfl,fun h=>absurd h sM⟩
def zJx (n1 n2:Bool) (d1 d2:Bs) (many o:Int):Int×Int×Int:=
 if n1=true∨n2=true∨many≠0∨o≠0 then(0,0,12)
 else if (zEb 2 way 12 d1).2≠0 then(0,0,(zEb 2 way 12 d1).2)
 else if (zEb 4 zDV 11 d2).2≠0 then(0,0,(zEb 4 zDV 11 d2).2)
 else((zEb 2 way 12 d1).1,(zEb 4 zDV 11 d2).1,0)
theorem zNN(t o:Int)(n1 n2:Bool)(d1 d2:Bs)(q:Option Addr)(ln cap:Nat)(r:Int×Int×Int)(hr:zJx n1 n2 d1 d2 ln o=r)(hd1:d1.length≤140737488355328)(hd2:d2.length≤140737488355328){W0 w:World}{K:Know}{L:List Res}(h:St W0 w K L):
 Calls Jb 137 #[.agg #[I O t,I O o,U n1,Z (bb d1),U n2,Z (bb d2),(V q ln cap)]] w fun en w'=>en=Y (.tuple #[I O r.1,I O r.2.1,I O r.2.2])∧St W0 w' K L:=by
 have h0:=h.allocRaw #[I O t,I O o,U n1,Z (bb d1),U n2,Z (bb d2),(V q ln cap)] 95;obtain⟨wA,hwA⟩:=eX w.heap.size;rw[hwA]at h0;have H:=hQd h0;have HD1:=hQd hd1;have HD2:=hQd hd2;obtain⟨ac0,ac1,ac2,ac3,ac4,ac5,ac6,af0,af1,af2,af3,af4,af5,af6⟩:=raw7 (b:=wA) (H.out);clear h h0 hd1 hd2;unfold zJx at hr
 by_cases g1:n1=true
 ·rw[if_pos (.inl g1)]at hr;subst hr g1;go_enter Tryz.func137,Tryz.ntmps137;go_wp2;go_ret3;exact⟨rfl,H.out.drop⟩
 by_cases g2:n2=true
 ·rw[if_pos (.inr (.inl g2))]at hr;subst hr g2;obtain rfl:n1=false:=by simpa using g1
  clear g1;go_enter Tryz.func137,Tryz.ntmps137;go_wp2;go_ret3;exact⟨rfl,H.out.drop⟩
 obtain rfl:n1=false:=by simpa using g1
 obtain rfl:n2=false:=by simpa using g2
 clear g1 g2
 by_cases g3:(ln:Int)≠0
 ·rw[if_pos (.inr (.inr (.inl g3)))]at hr;subst hr;have b1:((ln:Int) !=0)=true:=by simpa using g3
  have b2:decide (0<ln)=true:=decide_eq_true oM;have b3:decide ((0:Int)<ln)=true:=decide_eq_true oM;have b4:0<ln:=by omega
  clear g3;go_enter Tryz.func137,Tryz.ntmps137;go_wp2;go_ret3;exact⟨rfl,H.out.drop⟩
 obtain rfl:ln=0:=by omega
 clear g3
 by_cases g4:o≠0
 ·rw[if_pos (.inr (.inr (.inr g4)))]at hr;subst hr;have b1:(o !=0)=true:=by simpa using g4
  clear g4;go_enter Tryz.func137,Tryz.ntmps137;go_wp2;go_ret3;exact⟨rfl,H.out.drop⟩
 obtain rfl:o=0:=by simpa using g4
 clear g4;rw[if_neg sM]at hr;obtain⟨a,ha⟩:=eX (zEb 2 way 12 d1);obtain⟨b,hb⟩:=eX (zEb 4 zDV 11 d2);rw[ha,hb]at hr;have EA:=hQd ha;have EB:=hQd hb;clear ha hb
 by_cases g5:a.2≠0
 ·rw[if_pos g5]at hr;subst hr;have b1:(a.2 !=0)=true:=by simpa using g5
  clear g5;go_enter Tryz.func137,Tryz.ntmps137
  go_wp2_with (first
   |(go_at_call 198;refine(zD6 d1 a EA.out HD1.out H.out).zM ?_;clear H;intro wn H;obtain⟨ac0,ac1,ac2,ac3,ac4,ac5,ac6,af0,af1,af2,af3,af4,af5,af6⟩:=raw7 (b:=wA) (H.out)))
  go_ret3;exact⟨rfl,H.out.drop⟩
 rw[if_neg g5]at hr;have b1:(a.2 !=0)=false:=by simpa using g5
 clear g5
 by_cases g6:b.2≠0
 ·rw[if_pos g6]at hr;subst hr;have b2:(b.2 !=0)=true:=by simpa using g6
  clear g6;go_enter Tryz.func137,Tryz.ntmps137
  go_wp2_with (first
   |(go_at_call 198;refine(zD6 d1 a EA.out HD1.out H.out).zM ?_;clear H;intro wn H;obtain⟨ac0,ac1,ac2,ac3,ac4,ac5,ac6,af0,af1,af2,af3,af4,af5,af6⟩:=raw7 (b:=wA) (H.out))
   |(go_at_call 199;refine(zED d2 b EB.out HD2.out H.out).zM ?_;clear H;intro wn H;obtain⟨ac0,ac1,ac2,ac3,ac4,ac5,ac6,af0,af1,af2,af3,af4,af5,af6⟩:=raw7 (b:=wA) (H.out)))
  go_ret3;exact⟨rfl,H.out.drop⟩
 rw[if_neg g6]at hr;subst hr;have b2:(b.2 !=0)=false:=by simpa using g6
 clear g6;go_enter Tryz.func137,Tryz.ntmps137
 go_wp2_with (first
  |(go_at_call 198;refine(zD6 d1 a EA.out HD1.out H.out).zM ?_;clear H;intro wn H;obtain⟨ac0,ac1,ac2,ac3,ac4,ac5,ac6,af0,af1,af2,af3,af4,af5,af6⟩:=raw7 (b:=wA) (H.out))
  |(go_at_call 199;refine(zED d2 b EB.out HD2.out H.out).zM ?_;clear H;intro wn H;obtain⟨ac0,ac1,ac2,ac3,ac4,ac5,ac6,af0,af1,af2,af3,af4,af5,af6⟩:=raw7 (b:=wA) (H.out)))
 go_ret3;exact⟨rfl,H.out.drop⟩
structure BatS where
 base:Int
 leader:Int
 app:Bool
 txn:Bool
 ctl:Bool
 last:Int
 first:Int
 maxt:Int
 prod:Int
 epoch:Int
 seq:Int
 recs:List RecS
deriving DecidableEq
def BatS.zero:BatS:=⟨0,0,false,false,false,0,0,0,0,0,0,[]⟩
def Rn (n:Int):Prop:= -9223372036854775808≤n∧n<9223372036854775808
def BatS.R (b:BatS):Prop:=Rn b.base∧Rn b.leader∧Rn b.last∧Rn b.first∧Rn b.maxt∧Rn b.prod∧Rn b.epoch∧Rn b.seq
def BatS.placed (b:BatS):Bool:=decide (0≤b.base∧(-1≤b.leader∧b.leader≤2147483647)∧(0≤b.last∧b.last≤2147483647)∧b.base≤9223372036854775807 - b.last∧0≤b.first∧0≤b.maxt)
def BatS.signed (b:BatS):Bool:=
 if b.prod= -1 then decide (b.epoch= -1∧b.seq= -1∧b.txn=false)
 else if b.prod<0∨¬(0≤b.epoch∧b.epoch≤32767)then false
 else if b.ctl then decide (b.seq= -1)
 else decide (0≤b.seq∧b.seq≤2147483647)
def zOd (first last:Int):List RecS→Int→Int→Except Int Int
 |[],_,g=> .ok g
 |r::t,ah,g=>if r.off≤ah∨last<r.off then .error 13 else if r.time< -first∨9223372036854775807 - first<r.time then .error 11 else zOd first last t r.off (max g (first+r.time))
def zSX (app:Bool) (maxt:Int) (r:Except Int Int):Int:=match r with
 | .error e=>e
 | .ok g=>if app=false∧maxt≠g then 11 else 0
def BatS.rows (b:BatS):Int:=zSX b.app b.maxt (zOd b.first b.last b.recs (-1) b.first)
def zD0:List RecS→Int
 |[]=>0
 |r::t=>if zA5 r=0 then zD0 t else zA5 r
def zLf (r:RecS):Int×Int×Int:=zJx r.key.null r.val.null r.key.data r.val.data r.hdrs.length r.off
def BatS.ends (b:BatS):Int:=match b.recs with|[]=>0|r::_=>(zLf r).2.2
def zAj (b:BatS):Int:=
 if b.placed=false then 11
 else if b.ctl=true∧b.txn=false then 8
 else if b.signed=false then 11
 else if b.ctl=true∧b.recs.length≠1 then 10
 else if zD0 b.recs≠0 then zD0 b.recs
 else if b.ctl=true∧b.ends≠0 then b.ends
 else b.rows
def FitB (l:List (RecS×Value)):Prop:=∀x∈l,x.1.R∧HFit x.1.hdrs∧x.1.sum≤1000000
theorem zNf{x:RecS}(h:x.sum≤1000000):x.hdrs.length≤1000000:=by have:=zDi x.hdrs;unfold RecS.sum at h;omega
theorem zRq{x:RecS}(h:x.sum≤1000000):x.key.data.length≤140737488355328∧x.val.data.length≤140737488355328:=by unfold RecS.sum at h;omega
theorem zEA(l:List (RecS×Value))(k:Nat)(h:k<l.length)(x:RecS)(hx:l[k].1=x):(l.map (·.1)).drop k=x::(l.map (·.1)).drop (k+1):=by
 subst hx;rw[List.drop_eq_getElem_cons (by simpa using h),List.getElem_map]
theorem zOc(first last:Int)(r:RecS)(t:List RecS)(ah g:Int):zOd first last (r::t) ah g=if r.off≤ah∨last<r.off then .error 13 else if r.time< -first∨9223372036854775807 - first<r.time then .error 11 else zOd first last t r.off (max g (first+r.time)):=rfl
theorem zMq{P:Program}{fn:Func}{p t:Tmp}{ty:TypeId}(h:fn.results= #[.cell p ty,.tmp t])(tmps:Array Value)(w:World)(b:Nat)(cs:List Value)(d:TypeDesc)
 (hp:tmps.getD p undef=Ja (some ⟨b,0,none⟩))(hc:w.rangeAt b 0 cs)(hu:P.underlying ty=some d)(hd:d.isRow=true)(hi:(P.info? ty).map (·.size)=some cs.length):
 (results fn tmps).run P w=.ok (.tuple #[.agg cs.toArray,tmps.getD t undef]) w:=by
 have hp':tmps[p]?.getD undef=Ja (some ⟨b,0,none⟩):=by simpa using hp
 simp[results,h,hp',asAddr,run_loadVar_mid w b 0 ty cs d hc hu hd hi]
theorem zAO{P:Program}{fn:Func}{p:Tmp}{ty:TypeId}(h:fn.results= #[.cell p ty])(tmps:Array Value)(w:World)(b:Nat)(cs:List Value)(d:TypeDesc)
 (hp:tmps.getD p undef=Ja (some ⟨b,0,none⟩))(hc:w.rangeAt b 0 cs)(hu:P.underlying ty=some d)(hd:d.isRow=true)(hi:(P.info? ty).map (·.size)=some cs.length):
 (results fn tmps).run P w=.ok (.agg cs.toArray) w:=by
 have hp':tmps[p]?.getD undef=Ja (some ⟨b,0,none⟩):=by simpa using hp
 simp[results,h,hp',asAddr,run_loadVar_mid w b 0 ty cs d hc hu hd hi]
theorem zBR{b:Nat}{c:List Value}{T:TypeId}(h:St W0 w K (.raw b c.toArray T::L)):w.rangeAt b 0 c:=by
 intro j v hv;rw[Nat.zero_add,h.rawCell j]
 simpa using hv
theorem St.sets12{b:Nat}{T:TypeId}{a0 a1 a2 a3 a4 a5 a6 a7 a8 a9 a10 a11:Value}(v0 v1 v2 v3 v4 v5 v6 v7 v8 v9 v10 v11:Value)(h:St W0 w K (.raw b #[a0,a1,a2,a3,a4,a5,a6,a7,a8,a9,a10,a11] T::L)):St W0 ((((((((((((w.setCell ⟨b,0,none⟩ v0).setCell ⟨b,1,none⟩ v1).setCell ⟨b,2,none⟩ v2).setCell ⟨b,3,none⟩ v3).setCell ⟨b,4,none⟩ v4).setCell ⟨b,5,none⟩ v5).setCell ⟨b,6,none⟩ v6).setCell ⟨b,7,none⟩ v7).setCell ⟨b,8,none⟩ v8).setCell ⟨b,9,none⟩ v9).setCell ⟨b,10,none⟩ v10).setCell ⟨b,11,none⟩ v11) K (.raw b #[v0,v1,v2,v3,v4,v5,v6,v7,v8,v9,v10,v11] T::L):=by
 have h:St W0 _ K (.raw b #[v0,a1,a2,a3,a4,a5,a6,a7,a8,a9,a10,a11] T::L):=h.rawSet 0 v0;have h:St W0 _ K (.raw b #[v0,v1,a2,a3,a4,a5,a6,a7,a8,a9,a10,a11] T::L):=h.rawSet 1 v1;have h:St W0 _ K (.raw b #[v0,v1,v2,a3,a4,a5,a6,a7,a8,a9,a10,a11] T::L):=h.rawSet 2 v2;have h:St W0 _ K (.raw b #[v0,v1,v2,v3,a4,a5,a6,a7,a8,a9,a10,a11] T::L):=h.rawSet 3 v3;have h:St W0 _ K (.raw b #[v0,v1,v2,v3,v4,a5,a6,a7,a8,a9,a10,a11] T::L):=h.rawSet 4 v4;have h:St W0 _ K (.raw b #[v0,v1,v2,v3,v4,v5,a6,a7,a8,a9,a10,a11] T::L):=h.rawSet 5 v5;have h:St W0 _ K (.raw b #[v0,v1,v2,v3,v4,v5,v6,a7,a8,a9,a10,a11] T::L):=h.rawSet 6 v6;have h:St W0 _ K (.raw b #[v0,v1,v2,v3,v4,v5,v6,v7,a8,a9,a10,a11] T::L):=h.rawSet 7 v7;have h:St W0 _ K (.raw b #[v0,v1,v2,v3,v4,v5,v6,v7,v8,a9,a10,a11] T::L):=h.rawSet 8 v8;have h:St W0 _ K (.raw b #[v0,v1,v2,v3,v4,v5,v6,v7,v8,v9,a10,a11] T::L):=h.rawSet 9 v9;have h:St W0 _ K (.raw b #[v0,v1,v2,v3,v4,v5,v6,v7,v8,v9,v10,a11] T::L):=h.rawSet 10 v10;have h:St W0 _ K (.raw b #[v0,v1,v2,v3,v4,v5,v6,v7,v8,v9,v10,v11] T::L):=h.rawSet 11 v11;exact h
def endOf (b:BatS):Int×Int×Int×Int×Int×Bool:=
 if b.ctl=true∧zAj b=0 then match b.recs with
  |x::_=>(b.prod,b.epoch,(zLf x).1,b.first+x.time,(zLf x).2.1,true)
  |[]=>(0,0,0,0,0,false)
 else(0,0,0,0,0,false)
theorem zPy(p:Nat)(i j:InS)(e:Int)(hx:i.fail e=j){W0 w:World}{K:Know}{L:List Res}(h:St W0 w K (.inp p i::L)):
 Calls Jb 70 #[zAe p,I O e] w fun en w'=>en=Y (.tuple #[])∧St W0 w' K (.inp p j::L):=by
 subst hx;exact zBV p i e h
variable {W0 w:World}{K:Know}{L:List Res}
theorem zBg(p e:Int)(r:Bool)(hr:who p e=r)(h:St W0 w K L):
 Calls Jb 241 #[I O p,I O e] w fun en w'=>en=Y (U r)∧St W0 w' K L:=by
 have H:=hQd h;clear h
 cases r with
 |true=>
  obtain⟨h1,h2,h3⟩:=zDR hr;clear hr
  go_enter Tryz.func241,Tryz.ntmps241;go_wp2;go_ret;exact⟨rfl,H.out⟩
 |false=>
  by_cases h1:p<0
  ·have g1:¬(0≤p):=by omega
   clear hr
   go_enter Tryz.func241,Tryz.ntmps241;go_wp2;go_ret;exact⟨rfl,H.out⟩
  ·have g1:0≤p:=by omega
   by_cases h2:e<0
   ·have g2:¬(0≤e):=by omega
    clear hr
    go_enter Tryz.func241,Tryz.ntmps241;go_wp2;go_ret;exact⟨rfl,H.out⟩
   ·have g2:0≤e:=by omega
    have g3:¬(e≤32767):=by rcases who_f hr with h|h|h<;>omega
    clear hr
    go_enter Tryz.func241,Tryz.ntmps241;go_wp2;go_ret;exact⟨rfl,H.out⟩
theorem zIB(l:List (TopS×Value))(q:Option Addr)(cap:Nat)(E:Int)(hE:zHu (l.map (·.1))=E)(hf:FewT l)(hk:K.has (Know.tops (V q l.length cap) l))(h:St W0 w K L):
 Calls Jb 211 #[V q l.length cap] w fun en w'=>en=Y (I O E)∧St W0 w' K L:=by
 have H:=hQd h;have HE:=hQd ((zRy _).trans hE);have HF:=hQd hf;have HK:=hQd hk;clear h hE hf hk;go_enter Tryz.func211,Tryz.ntmps211;go_wp2_with (go_at_call 91;(with_reducible refine(zN0 0 0 0 1 0 0 l _ _ _ HE.out HF.out HK.out H.out).zM ?_);clear H;intro wn H);go_ret;exact⟨rfl,H.out⟩
theorem zPC(b:Nat)(i j:InS)(c:Bool)(hx:i.boolP=(c,j))(h:St W0 w K (.inp b i::L)):
   Calls Jb 178 #[zAe b] w fun en w'=>en=Y (U c)∧St W0 w' K (.inp b j::L):=by
 have H:=hQd h;clear h;obtain⟨⟨n,k⟩,hn⟩:∃r,i.int 1=r:=⟨_,rfl⟩;have HN:=hQd hn;unfold InS.boolP at hx;rw[hn]at hx;simp only[Prod.mk.injEq]at hx;obtain⟨hc,hj⟩:=hx;clear hn
 by_cases h0:n=0
 · rw[if_neg oM]at hj;subst h0 hj hc;go_enter Tryz.func178,Tryz.ntmps178;go_wp2_with (go_at_call 66;(with_reducible refine(zCw b _ _ _ 1 HN.out H.out).zM ?_);clear H;intro wn H);go_ret;exact⟨rfl,H.out⟩
 · by_cases h1:n=1
   · rw[if_neg oM]at hj;subst h1 hj hc;go_enter Tryz.func178,Tryz.ntmps178;go_wp2_with (go_at_call 66;(with_reducible refine(zCw b _ _ _ 1 HN.out H.out).zM ?_);clear H;intro wn H);go_ret;exact⟨rfl,H.out⟩
   · rw[if_pos ⟨h0,h1⟩]at hj;have g0:(n==0)=false:=by rw[beq_eq_false_iff_ne];exact h0
     have g00:(n !=0)=true:=by simp[bne,g0]
     have g1:(n==1)=false:=by rw[beq_eq_false_iff_ne];exact h1
     have g11:(n !=1)=true:=by simp[bne,g1]
     rw[g1]at hc;subst hc;have HJ:=hQd hj;clear hj h0 h1;go_enter Tryz.func178,Tryz.ntmps178
     go_wp2_with (first
   |(go_at_call 66;(with_reducible refine(zCw b _ _ _ 1 HN.out H.out).zM ?_);clear H;intro wn H)
   |(go_at_call 70;(with_reducible refine(zPy b _ _ 11 HJ.out H.out).zM ?_);clear H;intro wn H))
     go_ret;exact⟨rfl,H.out⟩
theorem zNi(b:Nat)(e e2:Bs)(c:UInt8)(n:Int)(hn:n=c.toNat)(he:e++[c]=e2)(hl:e.length≤100000000000000)(h:St W0 w K (.out b ⟨e,0⟩::L)):
 Calls Jb 103 #[zAc b,.int .u8 n] w fun en w'=>en=Y (.tuple #[])∧St W0 w' K (.out b ⟨e2,0⟩::L):=by
 subst he hn;exact zII b ⟨e,0⟩ c h zq36
theorem zDU(b:Nat)(e e2:Bs)(c:Bool)(he:e++encO c=e2)(hl:e.length≤100000000000000)(h:St W0 w K (.out b ⟨e,0⟩::L)):
 Calls Jb 160 #[zAc b,U c] w fun en w'=>en=Y (.tuple #[])∧St W0 w' K (.out b ⟨e2,0⟩::L):=by
 have H:=hQd h;have HE:=hQd he;have HL:=hQd hl;clear h he hl
 cases c with
 |true=>
  have HE2:Hid (e++[1]=e2):=hQd HE.out;have HN2:=hQd (show(1:Int)=((1:UInt8).toNat:Int) by decide);go_enter Tryz.func160,Tryz.ntmps160;go_wp2_with (go_at_call 103;(with_reducible refine(zNi b e e2 1 1 HN2.out HE2.out HL.out H.out).zM ?_);clear H;intro wn H);go_end0;exact⟨rfl,H.out⟩
 |false=>
  have HE2:Hid (e++[0]=e2):=hQd HE.out;have HN2:=hQd (show(0:Int)=((0:UInt8).toNat:Int) by decide);go_enter Tryz.func160,Tryz.ntmps160;go_wp2_with (go_at_call 103;(with_reducible refine(zNi b e e2 0 0 HN2.out HE2.out HL.out H.out).zM ?_);clear H;intro wn H);go_end0;exact⟨rfl,H.out⟩
theorem zB8(id:Bs)(p e:Int)(r:Int)(hr:chkW id p e=r)(hl:id.length≤140737488355328)(h:St W0 w K L):
 Calls Jb 210 #[Z (bb id),I O p,I O e] w fun en w'=>en=Y (I O r)∧St W0 w' K L:=by
 have H:=hQd h;have HL:=hQd hl;unfold chkW at hr;obtain⟨a,ha⟩:=eX (zAu id);obtain⟨c,hc⟩:=eX (who p e);have HA:=hQd ha;have HC:=hQd hc;rw[ha,hc]at hr;clear h hl ha hc
 cases a with
 |false=>
  obtain rfl:(4:Int)=r:=hr;go_enter Tryz.func210,Tryz.ntmps210;go_wp2_with (go_at_call 88;(with_reducible refine(zBn id _ HL.out HA.out H.out).zM ?_);clear H;intro wn H);go_ret;exact⟨rfl,H.out⟩
 |true=>
  cases c with
  |false=>
   obtain rfl:(11:Int)=r:=hr;go_enter Tryz.func210,Tryz.ntmps210
   go_wp2_with (first
  |(go_at_call 88;(with_reducible refine(zBn id _ HL.out HA.out H.out).zM ?_);clear H;intro wn H)
  |(go_at_call 241;(with_reducible refine(zBg p e _ HC.out H.out).zM ?_);clear H;intro wn H))
   go_ret;exact⟨rfl,H.out⟩
  |true=>
   obtain rfl:(0:Int)=r:=hr;go_enter Tryz.func210,Tryz.ntmps210
   go_wp2_with (first
  |(go_at_call 88;(with_reducible refine(zBn id _ HL.out HA.out H.out).zM ?_);clear H;intro wn H)
  |(go_at_call 241;(with_reducible refine(zBg p e _ HC.out H.out).zM ?_);clear H;intro wn H))
   go_ret;exact⟨rfl,H.out⟩
theorem zGU(id:Bs)(p e:Int)(c:Bool)(r:Int)(hr:chkW id p e=r)(hl:id.length≤140737488355328)(h:St W0 w K L):
 Calls Jb 159 #[.agg #[Z (bb id),I O p,I O e,U c]] w fun en w'=>en=Y (I O r)∧St W0 w' K L:=by
 have h0:=h.allocRaw #[Z (bb id),I O p,I O e,U c] 32;have H:=hQd h0;have HR:=hQd hr;have HL:=hQd hl;clear h h0 hr hl;go_enter Tryz.func159,Tryz.ntmps159;go_wp2_with (go_at_call 210;(with_reducible refine(zB8 id p e _ HR.out HL.out H.out).zM ?_);clear H;intro wn H);go_ret;exact⟨rfl,H.out.drop⟩
theorem zGI(v p e:Int)(c:Bool)(l:List (TopS×Value))(q:Option Addr)(cap:Nat)(co:Int)(r:Int)(hr:mErr v p e (l.map (·.1)) co=r)(hf:FewT l){W0 w:World}{K:Know}{L:List Res}(hk:K.has (Know.tops (V q l.length cap) l))(h:St W0 w K L):
  Calls Jb 212 #[.agg #[I O p,I O e,U c,V q l.length cap,I O co],I O v] w fun en w'=>en=Y (I O r)∧St W0 w' K L:=by
 have H:=hQd (h.allocRaw #[I O p,I O e,U c,V q l.length cap,I O co] 175);have HF:=hQd hf;have HK:=hQd hk;unfold mErr at hr;obtain⟨a,ha⟩:=eX (who p e);have HW:=hQd ha;rw[ha]at hr;clear h hf hk
 cases a with
 |false=>
  obtain rfl:(11:Int)=r:=hr;clear ha;go_enter Tryz.func212,Tryz.ntmps212
  go_wp2_with (first
  |(go_at_call 241;(with_reducible refine(zBg p e _ HW.out H.out).mono ?_);rintro e_ wn ⟨rfl,h⟩;obtain⟨c0,c1,c2,c3,c4⟩:=uR5 h;simp at c0 c1 c2 c3 c4;replace H:=hQd h;clear h))
  go_ret;exact⟨rfl,H.out.drop⟩
 |true=>
  rw[if_neg dD]at hr;clear ha
  by_cases h4:co<0
  · rw[if_pos (.inl h4)]at hr;subst hr;go_enter Tryz.func212,Tryz.ntmps212
    go_wp2_with (first
  |(go_at_call 241;(with_reducible refine(zBg p e _ HW.out H.out).mono ?_);rintro e_ wn ⟨rfl,h⟩;obtain⟨c0,c1,c2,c3,c4⟩:=uR5 h;simp at c0 c1 c2 c3 c4;replace H:=hQd h;clear h))
    go_ret;exact⟨rfl,H.out.drop⟩
  by_cases h5:2147483647<co
  · rw[if_pos (.inr h5)]at hr;subst hr;go_enter Tryz.func212,Tryz.ntmps212
    go_wp2_with (first
  |(go_at_call 241;(with_reducible refine(zBg p e _ HW.out H.out).mono ?_);rintro e_ wn ⟨rfl,h⟩;obtain⟨c0,c1,c2,c3,c4⟩:=uR5 h;simp at c0 c1 c2 c3 c4;replace H:=hQd h;clear h))
    go_ret;exact⟨rfl,H.out.drop⟩
  rw[if_neg oM]at hr
  by_cases h6:v=0
  · subst h6
    cases hc:(co==0)with
    |true=>
     have hc2:(co !=0)=false:=by simp[bne,hc]
     rw[if_neg (by simp at hc;omega)]at hr;have HE:=hQd hr;clear hr;go_enter Tryz.func212,Tryz.ntmps212
     go_wp2_with (first
  |(go_at_call 241;(with_reducible refine(zBg p e _ HW.out H.out).mono ?_);rintro e_ wn ⟨rfl,h⟩;obtain⟨c0,c1,c2,c3,c4⟩:=uR5 h;simp at c0 c1 c2 c3 c4;replace H:=hQd h;clear h)
  | (go_at_call 211; (with_reducible refine (zIB l q cap r HE.out HF.out HK.out H.out).mono ?_); rintro e_ wn ⟨rfl, h⟩; replace H := hQd h; clear h))
     go_ret;exact⟨rfl,H.out.drop⟩
    |false=>
     have hc2:(co !=0)=true:=by simp[bne,hc]
     rw[if_pos ⟨rfl,by simpa using hc⟩]at hr;subst hr;go_enter Tryz.func212,Tryz.ntmps212
     go_wp2_with (first
  | (go_at_call 241; (with_reducible refine (zBg p e _ HW.out H.out).mono ?_); rintro e_ wn ⟨rfl, h⟩; have c0 := h.rawCell 0; have c1 := h.rawCell 1; have c2 := h.rawCell 2; have c3 := h.rawCell 3; have c4 := h.rawCell 4; simp at c0 c1 c2 c3 c4; replace H := hQd h; clear h))
     go_ret;exact⟨rfl,H.out.drop⟩
  · have hv:(v==0)=false:=by rw[beq_eq_false_iff_ne];exact h6
    rw[if_neg oM]at hr;clear h6;have HE:=hQd hr;clear hr;go_enter Tryz.func212,Tryz.ntmps212
    go_wp2_with (first
  |(go_at_call 241;(with_reducible refine(zBg p e _ HW.out H.out).mono ?_);rintro e_ wn ⟨rfl,h⟩;obtain⟨c0,c1,c2,c3,c4⟩:=uR5 h;simp at c0 c1 c2 c3 c4;replace H:=hQd h;clear h)
  |(go_at_call 211;(with_reducible refine(zIB l q cap r HE.out HF.out HK.out H.out).zM ?_);clear H;intro wn H))
    go_ret;exact⟨rfl,H.out.drop⟩
theorem zBJ(v:Int)(l:List MarkR)(q:Option Addr)(cap:Nat)(r:Int)(hr:zAE v (l.map MarkR.m)=r)(hf:∀x∈l,x.Fit)(hn:l.length≤1000000){W0 w:World}{K:Know}{L:List Res}(hk:K.has (Know.marks (V q l.length cap) l))(h:St W0 w K L):
 Calls Jb 161 #[V q l.length cap,I O v] w fun en w'=>en=Y (I O r)∧St W0 w' K L:=by
 have H:=hQd h;have HK:=hQd hk;have HF:=hQd hf;have hni:(l.length:Int)≤1000000:=by omega
 unfold zAE at hr;clear h hk hf
 by_cases h0:l=[]
 ·subst h0;obtain rfl:(10:Int)=r:=hr;go_enter Tryz.func161,Tryz.ntmps161;go_wp2;go_ret;exact⟨rfl,H.out⟩
 rw[if_neg (by rw[List.map_eq_nil_iff];exact h0)]at hr
 have g0:((l.length:Int)==0)=false:=by
  rw[beq_eq_false_iff_ne];have:=List.length_pos_iff.2 h0
  omega
 have HR:=hQd hr;clear hr h0;go_enter Tryz.func161,Tryz.ntmps161;go_wp2;go_loopw [6,7,13] (fun _ _ iv wr=>∃k:Nat,k≤l.length∧iv=I O k∧Hid (msE v ((l.map MarkR.m).drop k)=r)∧St W0 wr K L) (fun _ _ iv _=>l.length - (intOf iv).toNat)
 case atStart=>exact⟨0,Jd _,rfl,hQd (by rw[List.drop_zero];exact HR.out),H.out⟩
 case round=>
  obtain⟨k,hkl,rfl,HM,hst⟩:=hrel;clear H;have H:=hQd hst;clear hst
  by_cases hlt:k<l.length
  ·as_aux_lemma=>
   obtain⟨b0,off,hqq⟩:=zCR HK.out H.out oM;subst hqq;obtain⟨x,hx⟩:=eX (l[k]);have hmem:x∈l:=hx ▸ Ji hlt;have hxk:=zBm HK.out hmem;have hcell:=zBK HK.out H.out k hlt x hx;have hmk:k<(l.map MarkR.m).length:=by rw[Jj];exact hlt
   have hmg:(l.map MarkR.m)[k]=x.m:=by rw[List.getElem_map,hx]
   obtain⟨hxl,hxf,hxr⟩:=HF.out x hmem;obtain⟨⟨p,e,c,tl,co⟩,xl,xq,xcap⟩:=x;obtain⟨c0,c1,c2,c3,c4⟩:wr.cell? ⟨b0,off+k*5,none⟩=some (I O p)∧wr.cell? ⟨b0,off+k*5+1,none⟩=some (I O e)∧wr.cell? ⟨b0,off+k*5+2,none⟩=some (U c)∧wr.cell? ⟨b0,off+k*5+3,none⟩=some (V xq xl.length xcap)∧wr.cell? ⟨b0,off+k*5+4,none⟩=some (I O co):=hcell;have HXK:=hQd (show K.has (Know.tops (V xq xl.length xcap) xl)from hxk);have HXL:=hQd (show xl.map (·.1)=tl from hxl);have HXF:=hQd (show FewT xl from hxf);have hkn:(k:Int)<(l.length:Int):=by omega
   obtain⟨tb,htb⟩:=eX wr.heap.size;have h:=H.out.allocRaw #[I O p,I O e,U c,V xq xl.length xcap,I O co] 175;rw[htb]at h;obtain⟨r1,hr1⟩:=eX (mErr v p e tl co);have HR1:=hQd (show mErr v p e (xl.map fun y=>y.1) co=r1 by rw[show(xl.map fun y=>y.1)=tl from hxl];exact hr1);have hme:((l.map MarkR.m)[k]).err v=r1:=by rw[hmg];exact hr1
   obtain⟨d0,d1,d2,d3,d4⟩:=uR5 h;simp at d0 d1 d2 d3 d4;clear H;have H:=hQd h;clear h
   by_cases h1:r1=0
   ·have HN:=hQd ((zR0 v _ k hmk (by rw[hme];exact h1)).symm.trans HM.out);subst h1;clear hx hmem hxk hmk hmg hxl hxf hxr hr1 hme;go_wp2_with (go_at_call 212;(with_reducible refine(zGI v p e c xl xq xcap co _ HR1.out HXF.out HXK.out H.out).zM ?_);clear H;intro wn H);go_roundw
    case rel=>exact⟨k+1,hlt,by go_num,HN,H.out.drop⟩
    case measure=>first|(simp[intOf];done)|(simp[intOf];omega)
   ·have hb:=(zS8 v _ k hmk (by rw[hme];exact h1)).symm.trans HM.out;rw[hme]at hb;have g1:(r1==0)=false:=by rw[beq_eq_false_iff_ne];exact h1
    have g2:(r1 !=0)=true:=by simp[bne,g1]
    have HB:=hQd hb;clear hx hmem hxk hmk hmg hxl hxf hxr hr1 hme hb h1;go_wp2_with (go_at_call 212;(with_reducible refine(zGI v p e c xl xq xcap co _ HR1.out HXF.out HXK.out H.out).zM ?_);clear H;intro wn H);go_ret;exact⟨by rw[HB.out];rfl,H.out.drop⟩
  ·obtain rfl:k=l.length:=by omega
   have hz:=HM.out;rw[List.drop_of_length_le (by rw[Jj];exact Nat.le_refl _)]at hz;obtain rfl:(0:Int)=r:=hz;go_wp2;go_ret;exact⟨rfl,H.out⟩
variable {W0 w:World}{K:Know}{L:List Res}
theorem zQQ:zCJ Jb 198 (.agg #[I O 0,I O 0,U false,V none 0 0,I O 0]) 5 56:=zAT kR rfl dD
theorem zQR:zCJ Jb 175 (.agg #[I O 0,I O 0,U false,V none 0 0,I O 0]) 5 56:=zAT kR rfl dD
def zQi (x:MarkR):List Value:=[I O x.m.prod,I O x.m.epoch,U x.m.commit,V x.q x.l.length x.cap,I O x.m.coord]
theorem zOy{K:Know}{v:Value}{l:List MarkR}(h1:K.has (Know.flat zJQ v 5 l))(h2:∀x∈l,K.has (Know.tops (V x.q x.l.length x.cap) x.l)):K.has (Know.marks v l):=fun w F h=>⟨h1 w F h,fun x hx=>h2 x hx w F h⟩
theorem zAZ(K:Know):K.has (Know.marks (V none 0 0) []):=zOy (zQn zJQ 5 K) (fun x hx=>by cases hx)
theorem St.freezeMarks{v:Value}{T:TypeId}{l:List MarkR}(h:St W0 w K (.row v T 5 l.length (l.flatMap zQi)::L))(ht:∀x∈l,K.has (Know.tops (V x.q x.l.length x.cap) x.l)):St W0 w (K.and (Know.marks v l)) L:=by
 have hf:=h.freezeRow (R:=zJQ) (fun x _=>⟨rfl,rfl⟩);exact hf.know (K':=K.and (Know.marks v l)) (fun w F hh=>⟨hh.1,hh.2,fun x hx=>ht x hx _ _ hh.1⟩)
theorem zR3(l:List MarkR)(q:Option Addr)(cap:Nat)(hn:l.length≤1000000)(hf:∀x∈l,x.Fit)(hk:K.has (Know.marks (V q l.length cap) l))(h:St W0 w K L):
 Calls Jb 57 #[V q l.length cap] w fun en w'=>∃v,en=Y v∧St W0 w' (K.and (Know.marks v l)) L:=by
 have H:=hQd h;have HK:=hQd hk;have HF:=hQd hf;have hni:(l.length:Int)≤1000000:=by omega
 clear h hk hf;go_enter Tryz.func57,Tryz.ntmps57;go_wp2;go_loopw [3,8] (fun lv iv wr=>∃(k:Nat) (xs:List Value),k≤l.length∧iv=I O k∧Hid (xs=(l.take k).flatMap zQi)∧St W0 wr K (.row lv 198 5 k xs::L)) (fun _ iv _=>l.length - (intOf iv).toNat)
 case atStart=>exact⟨0,[],Jd _,rfl,hQd rfl,H.out.nilRow 198 5⟩
 case round=>
  obtain⟨k,xs,hkl,rfl,HXS,hst⟩:=hrel;clear H;have H:=hQd hst;clear hst
  by_cases hlt:k<l.length
  ·obtain⟨b0,off,hqq⟩:=zCR HK.out H.out oM;subst hqq;obtain⟨x,hx⟩:=eX (l[k]);have hmem:x∈l:=hx ▸ Ji hlt;have hxk:=zBm HK.out hmem;have hcell:=zBK HK.out H.out k hlt x hx;have hmk:k<(l.map MarkR.m).length:=by rw[Jj];exact hlt
   have hmg:(l.map MarkR.m)[k]=x.m:=by rw[List.getElem_map,hx]
   obtain⟨hxl,hxf,hxr⟩:=HF.out x hmem;obtain⟨⟨p,e,c,tl,co⟩,xl,xq,xcap⟩:=x;obtain⟨c0,c1,c2,c3,c4⟩:wr.cell? ⟨b0,off+k*5,none⟩=some (I O p)∧wr.cell? ⟨b0,off+k*5+1,none⟩=some (I O e)∧wr.cell? ⟨b0,off+k*5+2,none⟩=some (U c)∧wr.cell? ⟨b0,off+k*5+3,none⟩=some (V xq xl.length xcap)∧wr.cell? ⟨b0,off+k*5+4,none⟩=some (I O co):=hcell;have HXK:=hQd (show K.has (Know.tops (V xq xl.length xcap) xl)from hxk);have HXL:=hQd (show xl.map (·.1)=tl from hxl);have HXF:=hQd (show FewT xl from hxf);have hkn:(k:Int)<(l.length:Int):=by omega
   obtain⟨tb,htb⟩:=eX wr.heap.size;have h:=H.out.allocRaw #[I O p,I O e,U c,V xq xl.length xcap,I O co] 175;rw[htb]at h;have HXE:=hQd (show l[k]=⟨⟨p,e,c,tl,co⟩,xl,xq,xcap⟩from hx);obtain⟨d0,d1,d2,d3,d4⟩:=uR5 h;simp at d0 d1 d2 d3 d4;clear H;have H:=hQd h;clear h;clear hx hmem hxk hmk hmg hxl hxf hxr;go_wp2_with (at_builtin;refine zAz rfl _ _ 48 rfl 198 Tryz.underlying48 zQQ _ _ _ rfl H.out.p1 [I O p,I O e,U c,V xq xl.length xcap,I O co] 198 (by rw[World.size_alloc,htb];rfl) rfl (by simp[Value.oneCell']) (by unfold maxLen;omega) oM ?_;intro v' w' h;replace H:=hQd h;clear h);go_roundw
   case rel=>
    refine⟨k+1,xs++[I O p,I O e,U c,V xq xl.length xcap,I O co],hlt,by go_num,hQd ?_,H.out.p1.drop⟩;rw[Jf hlt,List.flatMap_append,HXE.out,Jg,List.flatMap_nil,Jp,←HXS.out]
    rfl
   case measure=>first|(simp[intOf];done)|(simp[intOf];omega)
  ·obtain rfl:k=l.length:=by omega
   have h:=H.out;rw[HXS.out,List.take_length]at h;clear H;have H:=hQd h;clear h;go_wp2;go_ret;exact⟨_,rfl,H.out.freezeMarks (fun x hx=>zBm HK.out hx)⟩
theorem zSk:zCJ Jb 95 (.agg #[I O 0,I O 0,U false,Z ⟨#[]⟩,U false,Z ⟨#[]⟩,V none 0 0]) 7 88:=zAT kR rfl dD
def zLg (x:RecS) (r:Except Int (List RecS)):Except Int (List RecS):=match r with| .ok t=> .ok (x::t)| .error e=> .error e
def unp:Nat→InS→Except Int (List RecS)
 |0,i=>if i.left=0 then .ok []else .error 10
 |n+1,i=>if i.left=0 then .error 10 else if i.record.2.err=0 then zLg i.record.1 (unp n i.record.2)else .error i.record.2.err
def preU (acc:List RecS) (r:Except Int (List RecS)):Except Int (List RecS):=match r with| .ok t=> .ok (acc++t)| .error e=> .error e
theorem zRL(r:Except Int (List RecS)):preU [] r=r:=by cases r<;>rfl
theorem zP5(acc:List RecS)(x:RecS)(r:Except Int (List RecS)):preU (acc++[x]) r=preU acc (zLg x r):=by
 cases r with
 |error e=>rfl
 |ok t=>simp[preU,zLg]
theorem zPw(p:Nat)(i:InS)(n:Nat)(hx:i.left=n)(h:St W0 w K (.inp p i::L)):
 Calls Jb 75 #[zAe p] w fun en w'=>en=Y (I O n)∧St W0 w' K (.inp p i::L):=by
 subst hx;exact zNk p i h
theorem zHR(p:Nat)(i:InS)(e:Int)(hx:i.err=e)(h:St W0 w K (.inp p i::L)):
 Calls Jb 22 #[zAe p] w fun en w'=>en=Y (I O e)∧St W0 w' K (.inp p i::L):=by
 subst hx;exact zHs p i h
variable {W0 w:World}{K:Know}{L:List Res}
structure PreS where
 base:Int
 len:Int
 leader:Int
 sum:Int
 attr:Int
 last:Int
 first:Int
 maxt:Int
 prod:Int
 epoch:Int
 seq:Int
 count:Int
deriving DecidableEq
def pv (x:PreS):Value:=.agg #[I O x.base,I O x.len,I O x.leader,I O x.sum,I O x.attr,I O x.last,I O x.first,I O x.maxt,I O x.prod,I O x.epoch,I O x.seq,I O x.count]
def PreS.list (x:PreS):List Int:=[x.base,x.len,x.leader,x.sum,x.attr,x.last,x.first,x.maxt,x.prod,x.epoch,x.seq,x.count]
def PreS.R (x:PreS):Prop:=∀n∈x.list,-9223372036854775808≤n∧n<9223372036854775808
def PreS.zero:PreS:=⟨0,0,0,0,0,0,0,0,0,0,0,0⟩
def zAL (n:Int):Int:=if n<0∨4294967295<n then 4294967296 else if 2147483647<n then n - 4294967296 else n
def PreS.items (x:PreS):List (Int×Nat):=[(x.base,8),(x.len,4),(x.leader,4),(2,1),(zAL x.sum,4),(x.attr,2),(x.last,4),(x.first,8),(x.maxt,8),(x.prod,8),(x.epoch,2),(x.seq,4),(x.count,4)]
def zAQ:List Nat:=[8,4,4,1,4,2,4,8,8,8,2,4,4]
theorem zEf(n:Int): -9223372036854775808≤zAL n∧zAL n<9223372036854775808:=by
 unfold zAL;split
 ·omega
 ·split<;>omega
theorem zNU(n:Int)(h0:¬n<0)(h1:¬4294967295<n):wrap32 n=zAL n:=by
 have e:wrap32 n=(n+2147483648) % 4294967296 - 2147483648:=by unfold wrap32;rfl
 rw[e];unfold zAL;rw[if_neg oM]
 split<;>omega
theorem OutS.okI{o:OutS}{a b:Int}{m:Nat}(h:o.ok (m+8)):(o.int a b).ok m:=OutS.ok_int h oM
theorem OutS.int_bad(o:OutS)(n:Int)(h:n<0∨4294967295<n):o.int (zAL n) 4=o.fail 11:=by
 have e:zAL n=4294967296:=if_pos h;rw[e];unfold OutS.int;rw[if_neg dD]
theorem zI2(p:Nat)(o:OutS)(n:Int)(_: -9223372036854775808≤n∧n<9223372036854775808)(h:St W0 w K (.out p o::L))(hr:o.ok 8):
 Calls Jb 200 #[zAc p,I O n] w fun en w'=>en=Y (.tuple #[])∧St W0 w' K (.out p (o.int (zAL n) 4)::L):=by
 have H:=hQd h;have HR:=hQd hr;clear h hr
 by_cases h0:n<0
 ·have E:=hQd (OutS.int_bad o n (.inl h0)).symm;go_enter Tryz.func200,Tryz.ntmps200;go_wp2_with (go_at_call 95;refine(zDW _ _ _ stQ).mono ?_;(repeat first|rw[E.out]);rintro e wn ⟨rfl,h⟩;replace H:=hQd h;clear h);refine bodyPost_ret (results_none rfl _ _ _) rfl ⟨rfl,H.out⟩
 by_cases h1:4294967295<n
 ·have E:=hQd (OutS.int_bad o n (.inr h1)).symm;go_enter Tryz.func200,Tryz.ntmps200;go_wp2_with (go_at_call 95;refine(zDW _ _ _ stQ).mono ?_;(repeat first|rw[E.out]);rintro e wn ⟨rfl,h⟩;replace H:=hQd h;clear h);refine bodyPost_ret (results_none rfl _ _ _) rfl ⟨rfl,H.out⟩
 ·have HW2:=hQd (zNU n h0 h1);have HS:=hQd (zEf n);have HS2:=hQd (wrap64_in _ HS.out.1 HS.out.2);go_enter Tryz.func200,Tryz.ntmps200;go_wp2_with (go_at_call 50;rw[show wrap64 (wrap32 n)=zAL n from by rw[HW2.out];exact HS2.out];refine(zGb _ _ _ _ HS.out H.out HR.out).zM ?_;clear H;intro wn H);go_end0;exact⟨rfl,H.out⟩
theorem zKH(p:Nat)(o:OutS)(x:PreS)(hx:x.R)(h:St W0 w K (.out p o::L))(hr:o.ok 200):
 Calls Jb 140 #[zAc p,pv x] w fun en w'=>en=Y (.tuple #[])∧St W0 w' K (.out p (o.ints x.items)::L):=by
 have H:=hQd (h.allocRaw #[I O x.base,I O x.len,I O x.leader,I O x.sum,I O x.attr,I O x.last,I O x.first,I O x.maxt,I O x.prod,I O x.epoch,I O x.seq,I O x.count] 163).p1;have HR:=hQd hr;have N0:=hQd (hx x.base (by simp[PreS.list]));have N1:=hQd (hx x.len (by simp[PreS.list]));have N2:=hQd (hx x.leader (by simp[PreS.list]));have N3:=hQd (hx x.sum (by simp[PreS.list]));have N4:=hQd (hx x.attr (by simp[PreS.list]));have N5:=hQd (hx x.last (by simp[PreS.list]));have N6:=hQd (hx x.first (by simp[PreS.list]));have N7:=hQd (hx x.maxt (by simp[PreS.list]));have N8:=hQd (hx x.prod (by simp[PreS.list]));have N9:=hQd (hx x.epoch (by simp[PreS.list]));have N10:=hQd (hx x.seq (by simp[PreS.list]));have N11:=hQd (hx x.count (by simp[PreS.list]));have HS:=hQd (zEf x.sum);clear h hr hx;go_enter Tryz.func140,Tryz.ntmps140;unfold pv
 go_wp2_with (first
  |(go_at_call 50;refine(zGb _ _ _ _ (by first|exact N0.out|exact N1.out|exact N2.out|exact N3.out|exact N4.out|exact N5.out|exact N6.out|exact N7.out|exact N8.out|exact N9.out|exact N10.out|exact N11.out|decide) stQ (by repeat (first|exact OutS.ok_mono HR.out dD|with_reducible refine OutS.okI ?_))).zM ?_;clear H;intro wn H;have c0:=H.out.cellOf (b:=w.heap.size) (c:= #[I O x.base,I O x.len,I O x.leader,I O x.sum,I O x.attr,I O x.last,I O x.first,I O x.maxt,I O x.prod,I O x.epoch,I O x.seq,I O x.count]) (T:=163) sM 0;have c1:=H.out.cellOf (b:=w.heap.size) (c:= #[I O x.base,I O x.len,I O x.leader,I O x.sum,I O x.attr,I O x.last,I O x.first,I O x.maxt,I O x.prod,I O x.epoch,I O x.seq,I O x.count]) (T:=163) sM 1;have c2:=H.out.cellOf (b:=w.heap.size) (c:= #[I O x.base,I O x.len,I O x.leader,I O x.sum,I O x.attr,I O x.last,I O x.first,I O x.maxt,I O x.prod,I O x.epoch,I O x.seq,I O x.count]) (T:=163) sM 2;have c3:=H.out.cellOf (b:=w.heap.size) (c:= #[I O x.base,I O x.len,I O x.leader,I O x.sum,I O x.attr,I O x.last,I O x.first,I O x.maxt,I O x.prod,I O x.epoch,I O x.seq,I O x.count]) (T:=163) sM 3;have c4:=H.out.cellOf (b:=w.heap.size) (c:= #[I O x.base,I O x.len,I O x.leader,I O x.sum,I O x.attr,I O x.last,I O x.first,I O x.maxt,I O x.prod,I O x.epoch,I O x.seq,I O x.count]) (T:=163) sM 4;have c5:=H.out.cellOf (b:=w.heap.size) (c:= #[I O x.base,I O x.len,I O x.leader,I O x.sum,I O x.attr,I O x.last,I O x.first,I O x.maxt,I O x.prod,I O x.epoch,I O x.seq,I O x.count]) (T:=163) sM 5;have c6:=H.out.cellOf (b:=w.heap.size) (c:= #[I O x.base,I O x.len,I O x.leader,I O x.sum,I O x.attr,I O x.last,I O x.first,I O x.maxt,I O x.prod,I O x.epoch,I O x.seq,I O x.count]) (T:=163) sM 6;have c7:=H.out.cellOf (b:=w.heap.size) (c:= #[I O x.base,I O x.len,I O x.leader,I O x.sum,I O x.attr,I O x.last,I O x.first,I O x.maxt,I O x.prod,I O x.epoch,I O x.seq,I O x.count]) (T:=163) sM 7;have c8:=H.out.cellOf (b:=w.heap.size) (c:= #[I O x.base,I O x.len,I O x.leader,I O x.sum,I O x.attr,I O x.last,I O x.first,I O x.maxt,I O x.prod,I O x.epoch,I O x.seq,I O x.count]) (T:=163) sM 8;have c9:=H.out.cellOf (b:=w.heap.size) (c:= #[I O x.base,I O x.len,I O x.leader,I O x.sum,I O x.attr,I O x.last,I O x.first,I O x.maxt,I O x.prod,I O x.epoch,I O x.seq,I O x.count]) (T:=163) sM 9;have c10:=H.out.cellOf (b:=w.heap.size) (c:= #[I O x.base,I O x.len,I O x.leader,I O x.sum,I O x.attr,I O x.last,I O x.first,I O x.maxt,I O x.prod,I O x.epoch,I O x.seq,I O x.count]) (T:=163) sM 10;have c11:=H.out.cellOf (b:=w.heap.size) (c:= #[I O x.base,I O x.len,I O x.leader,I O x.sum,I O x.attr,I O x.last,I O x.first,I O x.maxt,I O x.prod,I O x.epoch,I O x.seq,I O x.count]) (T:=163) sM 11;simp at c0 c1 c2 c3 c4 c5 c6 c7 c8 c9 c10 c11)
  |(go_at_call 200;refine(zI2 _ _ _ (by first|exact N0.out|exact N1.out|exact N2.out|exact N3.out|exact N4.out|exact N5.out|exact N6.out|exact N7.out|exact N8.out|exact N9.out|exact N10.out|exact N11.out|decide) stQ (by repeat (first|exact OutS.ok_mono HR.out dD|with_reducible refine OutS.okI ?_))).zM ?_;clear H;intro wn H;have c0:=H.out.cellOf (b:=w.heap.size) (c:= #[I O x.base,I O x.len,I O x.leader,I O x.sum,I O x.attr,I O x.last,I O x.first,I O x.maxt,I O x.prod,I O x.epoch,I O x.seq,I O x.count]) (T:=163) sM 0;have c1:=H.out.cellOf (b:=w.heap.size) (c:= #[I O x.base,I O x.len,I O x.leader,I O x.sum,I O x.attr,I O x.last,I O x.first,I O x.maxt,I O x.prod,I O x.epoch,I O x.seq,I O x.count]) (T:=163) sM 1;have c2:=H.out.cellOf (b:=w.heap.size) (c:= #[I O x.base,I O x.len,I O x.leader,I O x.sum,I O x.attr,I O x.last,I O x.first,I O x.maxt,I O x.prod,I O x.epoch,I O x.seq,I O x.count]) (T:=163) sM 2;have c3:=H.out.cellOf (b:=w.heap.size) (c:= #[I O x.base,I O x.len,I O x.leader,I O x.sum,I O x.attr,I O x.last,I O x.first,I O x.maxt,I O x.prod,I O x.epoch,I O x.seq,I O x.count]) (T:=163) sM 3;have c4:=H.out.cellOf (b:=w.heap.size) (c:= #[I O x.base,I O x.len,I O x.leader,I O x.sum,I O x.attr,I O x.last,I O x.first,I O x.maxt,I O x.prod,I O x.epoch,I O x.seq,I O x.count]) (T:=163) sM 4;have c5:=H.out.cellOf (b:=w.heap.size) (c:= #[I O x.base,I O x.len,I O x.leader,I O x.sum,I O x.attr,I O x.last,I O x.first,I O x.maxt,I O x.prod,I O x.epoch,I O x.seq,I O x.count]) (T:=163) sM 5;have c6:=H.out.cellOf (b:=w.heap.size) (c:= #[I O x.base,I O x.len,I O x.leader,I O x.sum,I O x.attr,I O x.last,I O x.first,I O x.maxt,I O x.prod,I O x.epoch,I O x.seq,I O x.count]) (T:=163) sM 6;have c7:=H.out.cellOf (b:=w.heap.size) (c:= #[I O x.base,I O x.len,I O x.leader,I O x.sum,I O x.attr,I O x.last,I O x.first,I O x.maxt,I O x.prod,I O x.epoch,I O x.seq,I O x.count]) (T:=163) sM 7;have c8:=H.out.cellOf (b:=w.heap.size) (c:= #[I O x.base,I O x.len,I O x.leader,I O x.sum,I O x.attr,I O x.last,I O x.first,I O x.maxt,I O x.prod,I O x.epoch,I O x.seq,I O x.count]) (T:=163) sM 8;have c9:=H.out.cellOf (b:=w.heap.size) (c:= #[I O x.base,I O x.len,I O x.leader,I O x.sum,I O x.attr,I O x.last,I O x.first,I O x.maxt,I O x.prod,I O x.epoch,I O x.seq,I O x.count]) (T:=163) sM 9;have c10:=H.out.cellOf (b:=w.heap.size) (c:= #[I O x.base,I O x.len,I O x.leader,I O x.sum,I O x.attr,I O x.last,I O x.first,I O x.maxt,I O x.prod,I O x.epoch,I O x.seq,I O x.count]) (T:=163) sM 10;have c11:=H.out.cellOf (b:=w.heap.size) (c:= #[I O x.base,I O x.len,I O x.leader,I O x.sum,I O x.attr,I O x.last,I O x.first,I O x.maxt,I O x.prod,I O x.epoch,I O x.seq,I O x.count]) (T:=163) sM 11;simp at c0 c1 c2 c3 c4 c5 c6 c7 c8 c9 c10 c11))
 go_end0;exact⟨rfl,H.out.p1.drop⟩
variable {W0 w:World}{K:Know}{L:List Res}
theorem St.set1_Pre2{r:Res}{b j:Nat}{c:Array Value}{T:TypeId}{v:Value}(h:St W0 w K (r::.raw b c T::L)):St W0 (w.setCell ⟨b,j,none⟩ v) K (r::.raw b (c.setIfInBounds j v) T::L):=(h.p1.rawSet j v).p1
theorem zDw(n:Int):bits .and .i64 n 4294967295=n % 4294967296:=by
 rw[zLw];have e1:((4294967295:Int) % 18446744073709551616).toNat=2 ^ 32 - 1:=by decide
 rw[e1,Nat.and_two_pow_sub_one_eq_mod];have h:(0:Int)≤n % 18446744073709551616:=Int.emod_nonneg _ dD;rw[IntKind.wrap_i64]
 omega
theorem zAP(p:Nat)(i i1 i2 i3 i4 i5 i6 i7 i8 i9 i10 i11 i12 i13:InS)(a0 a1 a2 a3 a4 a5 a6 a7 a8 a9 a10 a11 a12 sm:Int)(e0:i.int 8=(a0,i1))(e1:i1.int 4=(a1,i2))(e2:i2.int 4=(a2,i3))(e3:i3.int 1=(a3,i4))(e4:i4.int 4=(a4,i5))(e5:i5.int 2=(a5,i6))(e6:i6.int 4=(a6,i7))(e7:i7.int 8=(a7,i8))(e8:i8.int 8=(a8,i9))(e9:i9.int 8=(a9,i10))(e10:i10.int 2=(a10,i11))(e11:i11.int 4=(a11,i12))(e12:i12.int 4=(a12,i13))(hsm:bits .and .i64 a4 4294967295=sm)(h:St W0 w K (.inp p i::L)):
 Calls Jb 193 #[zAe p] w fun en w'=>en=Y (.tuple #[.agg #[I O a0,I O a1,I O a2,I O sm,I O a5,I O a6,I O a7,I O a8,I O a9,I O a10,I O a11,I O a12],I O a3])∧St W0 w' K (.inp p i13::L):=by
 have H:=hQd (h.allocRaw #[I O 0,I O 0,I O 0,I O 0,I O 0,I O 0,I O 0,I O 0,I O 0,I O 0,I O 0,I O 0] 163).p1;have E0:=hQd e0;have tok0:True:=trivial;have E1:=hQd e1;have tok1:True:=trivial;have E2:=hQd e2;have tok2:True:=trivial;have E3:=hQd e3;have tok3:True:=trivial;have E4:=hQd e4;have tok4:True:=trivial;have E5:=hQd e5;have tok5:True:=trivial;have E6:=hQd e6;have tok6:True:=trivial;have E7:=hQd e7;have tok7:True:=trivial;have E8:=hQd e8;have tok8:True:=trivial;have E9:=hQd e9;have tok9:True:=trivial;have E10:=hQd e10;have tok10:True:=trivial;have E11:=hQd e11;have tok11:True:=trivial;have E12:=hQd e12;have tok12:True:=trivial;clear h e0 e1 e2 e3 e4 e5 e6 e7 e8 e9 e10 e11 e12;go_enter Tryz.func193,Tryz.ntmps193
 go_wp2_with (first
  |(go_at_call 66;have _t:=tok0;clear _t;(with_reducible refine(zCa _ i 8 H.out).mono ?_);rw[E0.out];rintro e wn ⟨rfl,h⟩;replace H:=hQd (show St W0 wn K (.inp p i1::.raw w.heap.size #[I O 0,I O 0,I O 0,I O 0,I O 0,I O 0,I O 0,I O 0,I O 0,I O 0,I O 0,I O 0] 163::L)from h);clear h tok0;have z0:=H.out.p1.rawCell 0;have z1:=H.out.p1.rawFree 0;simp at z0)
  |(go_at_call 66;have _t:=tok1;clear _t;(with_reducible refine(zCa _ i1 4 (St.set1_Pre2 H.out)).mono ?_);rw[E1.out];rintro e wn ⟨rfl,h⟩;replace H:=hQd (show St W0 wn K (.inp p i2::.raw w.heap.size #[I O a0,I O 0,I O 0,I O 0,I O 0,I O 0,I O 0,I O 0,I O 0,I O 0,I O 0,I O 0] 163::L)from h);clear h tok1;have z0:=H.out.p1.rawCell 1;have z1:=H.out.p1.rawFree 1;simp at z0)
  |(go_at_call 66;have _t:=tok2;clear _t;(with_reducible refine(zCa _ i2 4 (St.set1_Pre2 H.out)).mono ?_);rw[E2.out];rintro e wn ⟨rfl,h⟩;replace H:=hQd (show St W0 wn K (.inp p i3::.raw w.heap.size #[I O a0,I O a1,I O 0,I O 0,I O 0,I O 0,I O 0,I O 0,I O 0,I O 0,I O 0,I O 0] 163::L)from h);clear h tok2;have z0:=H.out.p1.rawCell 2;have z1:=H.out.p1.rawFree 2;simp at z0)
  |(go_at_call 66;have _t:=tok3;clear _t;(with_reducible refine(zCa _ i3 1 (St.set1_Pre2 H.out)).mono ?_);rw[E3.out];rintro e wn ⟨rfl,h⟩;replace H:=hQd (show St W0 wn K (.inp p i4::.raw w.heap.size #[I O a0,I O a1,I O a2,I O 0,I O 0,I O 0,I O 0,I O 0,I O 0,I O 0,I O 0,I O 0] 163::L)from h);clear h tok3;have z0:=H.out.p1.rawCell 0;have z1:=H.out.p1.rawFree 0;simp at z0)
  |(go_at_call 66;have _t:=tok4;clear _t;(with_reducible refine(zCa _ i4 4 H.out).mono ?_);rw[E4.out];rintro e wn ⟨rfl,h⟩;replace H:=hQd (show St W0 wn K (.inp p i5::.raw w.heap.size #[I O a0,I O a1,I O a2,I O 0,I O 0,I O 0,I O 0,I O 0,I O 0,I O 0,I O 0,I O 0] 163::L)from h);clear h tok4;have z0:=H.out.p1.rawCell 3;have z1:=H.out.p1.rawFree 3;simp at z0)
  |(go_at_call 66;have _t:=tok5;clear _t;(with_reducible refine(zCa _ i5 2 (St.set1_Pre2 H.out)).mono ?_);rw[E5.out];rintro e wn ⟨rfl,h⟩;replace H:=hQd (show St W0 wn K (.inp p i6::.raw w.heap.size #[I O a0,I O a1,I O a2,I O sm,I O 0,I O 0,I O 0,I O 0,I O 0,I O 0,I O 0,I O 0] 163::L)from h);clear h tok5;have z0:=H.out.p1.rawCell 4;have z1:=H.out.p1.rawFree 4;simp at z0)
  |(go_at_call 66;have _t:=tok6;clear _t;(with_reducible refine(zCa _ i6 4 (St.set1_Pre2 H.out)).mono ?_);rw[E6.out];rintro e wn ⟨rfl,h⟩;replace H:=hQd (show St W0 wn K (.inp p i7::.raw w.heap.size #[I O a0,I O a1,I O a2,I O sm,I O a5,I O 0,I O 0,I O 0,I O 0,I O 0,I O 0,I O 0] 163::L)from h);clear h tok6;have z0:=H.out.p1.rawCell 5;have z1:=H.out.p1.rawFree 5;simp at z0)
  |(go_at_call 66;have _t:=tok7;clear _t;(with_reducible refine(zCa _ i7 8 (St.set1_Pre2 H.out)).mono ?_);rw[E7.out];rintro e wn ⟨rfl,h⟩;replace H:=hQd (show St W0 wn K (.inp p i8::.raw w.heap.size #[I O a0,I O a1,I O a2,I O sm,I O a5,I O a6,I O 0,I O 0,I O 0,I O 0,I O 0,I O 0] 163::L)from h);clear h tok7;have z0:=H.out.p1.rawCell 6;have z1:=H.out.p1.rawFree 6;simp at z0)
  |(go_at_call 66;have _t:=tok8;clear _t;(with_reducible refine(zCa _ i8 8 (St.set1_Pre2 H.out)).mono ?_);rw[E8.out];rintro e wn ⟨rfl,h⟩;replace H:=hQd (show St W0 wn K (.inp p i9::.raw w.heap.size #[I O a0,I O a1,I O a2,I O sm,I O a5,I O a6,I O a7,I O 0,I O 0,I O 0,I O 0,I O 0] 163::L)from h);clear h tok8;have z0:=H.out.p1.rawCell 7;have z1:=H.out.p1.rawFree 7;simp at z0)
  |(go_at_call 66;have _t:=tok9;clear _t;(with_reducible refine(zCa _ i9 8 (St.set1_Pre2 H.out)).mono ?_);rw[E9.out];rintro e wn ⟨rfl,h⟩;replace H:=hQd (show St W0 wn K (.inp p i10::.raw w.heap.size #[I O a0,I O a1,I O a2,I O sm,I O a5,I O a6,I O a7,I O a8,I O 0,I O 0,I O 0,I O 0] 163::L)from h);clear h tok9;have z0:=H.out.p1.rawCell 8;have z1:=H.out.p1.rawFree 8;simp at z0)
  |(go_at_call 66;have _t:=tok10;clear _t;(with_reducible refine(zCa _ i10 2 (St.set1_Pre2 H.out)).mono ?_);rw[E10.out];rintro e wn ⟨rfl,h⟩;replace H:=hQd (show St W0 wn K (.inp p i11::.raw w.heap.size #[I O a0,I O a1,I O a2,I O sm,I O a5,I O a6,I O a7,I O a8,I O a9,I O 0,I O 0,I O 0] 163::L)from h);clear h tok10;have z0:=H.out.p1.rawCell 9;have z1:=H.out.p1.rawFree 9;simp at z0)
  |(go_at_call 66;have _t:=tok11;clear _t;(with_reducible refine(zCa _ i11 4 (St.set1_Pre2 H.out)).mono ?_);rw[E11.out];rintro e wn ⟨rfl,h⟩;replace H:=hQd (show St W0 wn K (.inp p i12::.raw w.heap.size #[I O a0,I O a1,I O a2,I O sm,I O a5,I O a6,I O a7,I O a8,I O a9,I O a10,I O 0,I O 0] 163::L)from h);clear h tok11;have z0:=H.out.p1.rawCell 10;have z1:=H.out.p1.rawFree 10;simp at z0)
  |(go_at_call 66;have _t:=tok12;clear _t;(with_reducible refine(zCa _ i12 4 (St.set1_Pre2 H.out)).mono ?_);rw[E12.out];rintro e wn ⟨rfl,h⟩;replace H:=hQd (show St W0 wn K (.inp p i13::.raw w.heap.size #[I O a0,I O a1,I O a2,I O sm,I O a5,I O a6,I O a7,I O a8,I O a9,I O a10,I O a11,I O 0] 163::L)from h);clear h tok12;have z0:=H.out.p1.rawCell 11;have z1:=H.out.p1.rawFree 11;simp at z0;have HH:=hQd H.out.p1;have qf0:=HH.out.freeOf (b:=w.heap.size) (c:= #[I O a0,I O a1,I O a2,I O sm,I O a5,I O a6,I O a7,I O a8,I O a9,I O a10,I O a11,I O 0]) (T:=163) sM 0;have qc0:=HH.out.cellOf (b:=w.heap.size) (c:= #[I O a0,I O a1,I O a2,I O sm,I O a5,I O a6,I O a7,I O a8,I O a9,I O a10,I O a11,I O 0]) (T:=163) sM 0;have qf1:=HH.out.freeOf (b:=w.heap.size) (c:= #[I O a0,I O a1,I O a2,I O sm,I O a5,I O a6,I O a7,I O a8,I O a9,I O a10,I O a11,I O 0]) (T:=163) sM 1;have qc1:=HH.out.cellOf (b:=w.heap.size) (c:= #[I O a0,I O a1,I O a2,I O sm,I O a5,I O a6,I O a7,I O a8,I O a9,I O a10,I O a11,I O 0]) (T:=163) sM 1;have qf2:=HH.out.freeOf (b:=w.heap.size) (c:= #[I O a0,I O a1,I O a2,I O sm,I O a5,I O a6,I O a7,I O a8,I O a9,I O a10,I O a11,I O 0]) (T:=163) sM 2;have qc2:=HH.out.cellOf (b:=w.heap.size) (c:= #[I O a0,I O a1,I O a2,I O sm,I O a5,I O a6,I O a7,I O a8,I O a9,I O a10,I O a11,I O 0]) (T:=163) sM 2;have qf3:=HH.out.freeOf (b:=w.heap.size) (c:= #[I O a0,I O a1,I O a2,I O sm,I O a5,I O a6,I O a7,I O a8,I O a9,I O a10,I O a11,I O 0]) (T:=163) sM 3;have qc3:=HH.out.cellOf (b:=w.heap.size) (c:= #[I O a0,I O a1,I O a2,I O sm,I O a5,I O a6,I O a7,I O a8,I O a9,I O a10,I O a11,I O 0]) (T:=163) sM 3;have qf4:=HH.out.freeOf (b:=w.heap.size) (c:= #[I O a0,I O a1,I O a2,I O sm,I O a5,I O a6,I O a7,I O a8,I O a9,I O a10,I O a11,I O 0]) (T:=163) sM 4;have qc4:=HH.out.cellOf (b:=w.heap.size) (c:= #[I O a0,I O a1,I O a2,I O sm,I O a5,I O a6,I O a7,I O a8,I O a9,I O a10,I O a11,I O 0]) (T:=163) sM 4;have qf5:=HH.out.freeOf (b:=w.heap.size) (c:= #[I O a0,I O a1,I O a2,I O sm,I O a5,I O a6,I O a7,I O a8,I O a9,I O a10,I O a11,I O 0]) (T:=163) sM 5;have qc5:=HH.out.cellOf (b:=w.heap.size) (c:= #[I O a0,I O a1,I O a2,I O sm,I O a5,I O a6,I O a7,I O a8,I O a9,I O a10,I O a11,I O 0]) (T:=163) sM 5;have qf6:=HH.out.freeOf (b:=w.heap.size) (c:= #[I O a0,I O a1,I O a2,I O sm,I O a5,I O a6,I O a7,I O a8,I O a9,I O a10,I O a11,I O 0]) (T:=163) sM 6;have qc6:=HH.out.cellOf (b:=w.heap.size) (c:= #[I O a0,I O a1,I O a2,I O sm,I O a5,I O a6,I O a7,I O a8,I O a9,I O a10,I O a11,I O 0]) (T:=163) sM 6;have qf7:=HH.out.freeOf (b:=w.heap.size) (c:= #[I O a0,I O a1,I O a2,I O sm,I O a5,I O a6,I O a7,I O a8,I O a9,I O a10,I O a11,I O 0]) (T:=163) sM 7;have qc7:=HH.out.cellOf (b:=w.heap.size) (c:= #[I O a0,I O a1,I O a2,I O sm,I O a5,I O a6,I O a7,I O a8,I O a9,I O a10,I O a11,I O 0]) (T:=163) sM 7;have qf8:=HH.out.freeOf (b:=w.heap.size) (c:= #[I O a0,I O a1,I O a2,I O sm,I O a5,I O a6,I O a7,I O a8,I O a9,I O a10,I O a11,I O 0]) (T:=163) sM 8;have qc8:=HH.out.cellOf (b:=w.heap.size) (c:= #[I O a0,I O a1,I O a2,I O sm,I O a5,I O a6,I O a7,I O a8,I O a9,I O a10,I O a11,I O 0]) (T:=163) sM 8;have qf9:=HH.out.freeOf (b:=w.heap.size) (c:= #[I O a0,I O a1,I O a2,I O sm,I O a5,I O a6,I O a7,I O a8,I O a9,I O a10,I O a11,I O 0]) (T:=163) sM 9;have qc9:=HH.out.cellOf (b:=w.heap.size) (c:= #[I O a0,I O a1,I O a2,I O sm,I O a5,I O a6,I O a7,I O a8,I O a9,I O a10,I O a11,I O 0]) (T:=163) sM 9;have qf10:=HH.out.freeOf (b:=w.heap.size) (c:= #[I O a0,I O a1,I O a2,I O sm,I O a5,I O a6,I O a7,I O a8,I O a9,I O a10,I O a11,I O 0]) (T:=163) sM 10;have qc10:=HH.out.cellOf (b:=w.heap.size) (c:= #[I O a0,I O a1,I O a2,I O sm,I O a5,I O a6,I O a7,I O a8,I O a9,I O a10,I O a11,I O 0]) (T:=163) sM 10;have qf11:=HH.out.freeOf (b:=w.heap.size) (c:= #[I O a0,I O a1,I O a2,I O sm,I O a5,I O a6,I O a7,I O a8,I O a9,I O a10,I O a11,I O 0]) (T:=163) sM 11;have qc11:=HH.out.cellOf (b:=w.heap.size) (c:= #[I O a0,I O a1,I O a2,I O sm,I O a5,I O a6,I O a7,I O a8,I O a9,I O a10,I O a11,I O 0]) (T:=163) sM 11;simp at qc0 qc1 qc2 qc3 qc4 qc5 qc6 qc7 qc8 qc9 qc10 qc11))
 refine bodyPost_ret (v:=.tuple #[.agg #[I O a0,I O a1,I O a2,I O sm,I O a5,I O a6,I O a7,I O a8,I O a9,I O a10,I O a11,I O a12],I O a3]) (by simp[results,Tryz.results193,go_sem,qc0,qc1,qc2,qc3,qc4,qc5,qc6,qc7,qc8,qc9,qc10,qc11]) rfl ⟨rfl,?_⟩;exact(((((((((((((H.out.p1.rawSet 11 _).rawSet 0 _).rawSet 1 _).rawSet 2 _).rawSet 3 _).rawSet 4 _).rawSet 5 _).rawSet 6 _).rawSet 7 _).rawSet 8 _).rawSet 9 _).rawSet 10 _).rawSet 11 _).drop
variable {W0 w:World}{K:Know}{L:List Res}
theorem zAf{b:Nat}{T:TypeId}{v0 v1 v2 v3 v4 v5 v6 v7 v8 v9 v10 v11:Value}(h:St W0 w K (.raw b #[v0,v1,v2,v3,v4,v5,v6,v7,v8,v9,v10,v11] T::L)):
 w.cell? ⟨b,0,none⟩=some v0∧w.cell? ⟨b,1,none⟩=some v1∧w.cell? ⟨b,2,none⟩=some v2∧w.cell? ⟨b,3,none⟩=some v3∧w.cell? ⟨b,4,none⟩=some v4∧w.cell? ⟨b,5,none⟩=some v5∧w.cell? ⟨b,6,none⟩=some v6∧w.cell? ⟨b,7,none⟩=some v7∧w.cell? ⟨b,8,none⟩=some v8∧w.cell? ⟨b,9,none⟩=some v9∧w.cell? ⟨b,10,none⟩=some v10∧w.cell? ⟨b,11,none⟩=some v11∧
 w.frozen? ⟨b,0,none⟩=false∧w.frozen? ⟨b,1,none⟩=false∧w.frozen? ⟨b,2,none⟩=false∧w.frozen? ⟨b,3,none⟩=false∧w.frozen? ⟨b,4,none⟩=false∧w.frozen? ⟨b,5,none⟩=false∧w.frozen? ⟨b,6,none⟩=false∧w.frozen? ⟨b,7,none⟩=false∧w.frozen? ⟨b,8,none⟩=false∧w.frozen? ⟨b,9,none⟩=false∧w.frozen? ⟨b,10,none⟩=false∧w.frozen? ⟨b,11,none⟩=false:=
 ⟨h.rawCell 0,h.rawCell 1,h.rawCell 2,h.rawCell 3,h.rawCell 4,h.rawCell 5,h.rawCell 6,h.rawCell 7,h.rawCell 8,h.rawCell 9,h.rawCell 10,h.rawCell 11,h.rawFree 0,h.rawFree 1,h.rawFree 2,h.rawFree 3,h.rawFree 4,h.rawFree 5,h.rawFree 6,h.rawFree 7,h.rawFree 8,h.rawFree 9,h.rawFree 10,h.rawFree 11⟩
theorem zq32{p:Prop}(h:p:=by first|exact HH.out|exact HH.out.p1|exact HH.out.p2):p:=h
theorem zq43{p:Prop}(h:p:=by first|exact H.out|exact H.out.p1|exact H.out.p2):p:=h
theorem zq0{p:Prop}(h:p:=by
  rw[if_neg hz];have hzb:(j3.err !=0)=true:=by rw[bne_iff_ne];exact hz
  clear hz;go_enter Tryz.func133,Tryz.ntmps133
  go_wp2_with (first
    |(go_at_call 193;(with_reducible refine(EF.out _ _ _ _ H.out).mono ?_);rintro e wn ⟨rfl,h⟩;obtain⟨bb2,hbb2⟩:=eX wn.heap.size;have h:=h.allocRaw #[I O a0,I O a1,I O a2,I O sm,I O a5,I O a6,I O a7,I O a8,I O a9,I O a10,I O a11,I O a12] 163;rw[hbb2]at h;replace H:=hQd h;clear h;have HH:=hQd H.out;obtain⟨yc0,yc1,yc2,yc3,yc4,yc5,yc6,yc7,yc8,yc9,yc10,yc11,yf0,yf1,yf2,yf3,yf4,yf5,yf6,yf7,yf8,yf9,yf10,yf11⟩:=zAf (b:=w.heap.size) zq32;obtain⟨xc0,xc1,xc2,xc3,xc4,xc5,xc6,xc7,xc8,xc9,xc10,xc11,xf0,xf1,xf2,xf3,xf4,xf5,xf6,xf7,xf8,xf9,xf10,xf11⟩:=zAf (b:=bb2) zq32)
    |(go_at_call 70;(with_reducible refine(zBV _ _ _ zq43).mono ?_);(repeat first|rw[EJ1.out]|rw[EJ2.out]|rw[EJ3.out]);rintro e wn ⟨rfl,h⟩;replace H:=hQd h;clear h;have HH:=hQd H.out;obtain⟨yc0,yc1,yc2,yc3,yc4,yc5,yc6,yc7,yc8,yc9,yc10,yc11,yf0,yf1,yf2,yf3,yf4,yf5,yf6,yf7,yf8,yf9,yf10,yf11⟩:=zAf (b:=w.heap.size) zq32;obtain⟨xc0,xc1,xc2,xc3,xc4,xc5,xc6,xc7,xc8,xc9,xc10,xc11,xf0,xf1,xf2,xf3,xf4,xf5,xf6,xf7,xf8,xf9,xf10,xf11⟩:=zAf (b:=bb2) zq32)
    |(go_at_call 22;(with_reducible refine(zHs _ _ zq43).zM ?_);clear H;intro wn H;have HH:=hQd H.out;obtain⟨yc0,yc1,yc2,yc3,yc4,yc5,yc6,yc7,yc8,yc9,yc10,yc11,yf0,yf1,yf2,yf3,yf4,yf5,yf6,yf7,yf8,yf9,yf10,yf11⟩:=zAf (b:=w.heap.size) zq32;obtain⟨xc0,xc1,xc2,xc3,xc4,xc5,xc6,xc7,xc8,xc9,xc10,xc11,xf0,xf1,xf2,xf3,xf4,xf5,xf6,xf7,xf8,xf9,xf10,xf11⟩:=zAf (b:=bb2) zq32))
  refine bodyPost_ret (v:=.agg #[I O 0,I O 0,I O 0,I O 0,I O 0,I O 0,I O 0,I O 0,I O 0,I O 0,I O 0,I O 0]) (by simp[results,Tryz.results133,go_sem,yc0,yc1,yc2,yc3,yc4,yc5,yc6,yc7,yc8,yc9,yc10,yc11]) rfl ⟨rfl,?_⟩;exact((((((((((((H.out.p2.rawSet 0 _).rawSet 1 _).rawSet 2 _).rawSet 3 _).rawSet 4 _).rawSet 5 _).rawSet 6 _).rawSet 7 _).rawSet 8 _).rawSet 9 _).rawSet 10 _).rawSet 11 _).drop.p1.drop):p:=h
theorem zq1{p:Prop}(h:p:=by
  rw[if_pos hz];have HZ:=hQd hz;clear hz;go_enter Tryz.func133,Tryz.ntmps133
  go_wp2_with (first
    |(go_at_call 193;(with_reducible refine(EF.out _ _ _ _ H.out).mono ?_);rintro e wn ⟨rfl,h⟩;obtain⟨bb2,hbb2⟩:=eX wn.heap.size;have h:=h.allocRaw #[I O a0,I O a1,I O a2,I O sm,I O a5,I O a6,I O a7,I O a8,I O a9,I O a10,I O a11,I O a12] 163;rw[hbb2]at h;replace H:=hQd h;clear h;have HH:=hQd H.out;obtain⟨yc0,yc1,yc2,yc3,yc4,yc5,yc6,yc7,yc8,yc9,yc10,yc11,yf0,yf1,yf2,yf3,yf4,yf5,yf6,yf7,yf8,yf9,yf10,yf11⟩:=zAf (b:=w.heap.size) zq32;obtain⟨xc0,xc1,xc2,xc3,xc4,xc5,xc6,xc7,xc8,xc9,xc10,xc11,xf0,xf1,xf2,xf3,xf4,xf5,xf6,xf7,xf8,xf9,xf10,xf11⟩:=zAf (b:=bb2) zq32)
    |(go_at_call 70;(with_reducible refine(zBV _ _ _ zq43).mono ?_);(repeat first|rw[EJ1.out]|rw[EJ2.out]|rw[EJ3.out]);rintro e wn ⟨rfl,h⟩;replace H:=hQd h;clear h;have HH:=hQd H.out;obtain⟨yc0,yc1,yc2,yc3,yc4,yc5,yc6,yc7,yc8,yc9,yc10,yc11,yf0,yf1,yf2,yf3,yf4,yf5,yf6,yf7,yf8,yf9,yf10,yf11⟩:=zAf (b:=w.heap.size) zq32;obtain⟨xc0,xc1,xc2,xc3,xc4,xc5,xc6,xc7,xc8,xc9,xc10,xc11,xf0,xf1,xf2,xf3,xf4,xf5,xf6,xf7,xf8,xf9,xf10,xf11⟩:=zAf (b:=bb2) zq32)
    |(go_at_call 22;(with_reducible refine(zHs _ _ zq43).mono ?_);rw[HZ.out];rintro e wn ⟨rfl,h⟩;replace H:=hQd h;clear h;have HH:=hQd H.out;obtain⟨yc0,yc1,yc2,yc3,yc4,yc5,yc6,yc7,yc8,yc9,yc10,yc11,yf0,yf1,yf2,yf3,yf4,yf5,yf6,yf7,yf8,yf9,yf10,yf11⟩:=zAf (b:=w.heap.size) zq32;obtain⟨xc0,xc1,xc2,xc3,xc4,xc5,xc6,xc7,xc8,xc9,xc10,xc11,xf0,xf1,xf2,xf3,xf4,xf5,xf6,xf7,xf8,xf9,xf10,xf11⟩:=zAf (b:=bb2) zq32))
  refine bodyPost_ret (v:=.agg #[I O a0,I O a1,I O a2,I O sm,I O a5,I O a6,I O a7,I O a8,I O a9,I O a10,I O a11,I O a12]) (by simp[results,Tryz.results133,go_sem,yc0,yc1,yc2,yc3,yc4,yc5,yc6,yc7,yc8,yc9,yc10,yc11]) rfl ⟨rfl,?_⟩;exact((((((((((((H.out.p2.rawSet 0 _).rawSet 1 _).rawSet 2 _).rawSet 3 _).rawSet 4 _).rawSet 5 _).rawSet 6 _).rawSet 7 _).rawSet 8 _).rawSet 9 _).rawSet 10 _).rawSet 11 _).drop.p1.drop):p:=h
theorem zGA(p:Nat)(i i1 i2 i3 i4 i5 i6 i7 i8 i9 i10 i11 i12 i13 j1 j2 j3:InS)(a0 a1 a2 a3 a4 a5 a6 a7 a8 a9 a10 a11 a12 sm:Int)(e0:i.int 8=(a0,i1))(e1:i1.int 4=(a1,i2))(e2:i2.int 4=(a2,i3))(e3:i3.int 1=(a3,i4))(e4:i4.int 4=(a4,i5))(e5:i5.int 2=(a5,i6))(e6:i6.int 4=(a6,i7))(e7:i7.int 8=(a7,i8))(e8:i8.int 8=(a8,i9))(e9:i9.int 8=(a9,i10))(e10:i10.int 2=(a10,i11))(e11:i11.int 4=(a11,i12))(e12:i12.int 4=(a12,i13))(hsm:bits .and .i64 a4 4294967295=sm)
 (hm:(a3 !=2)=true)(hl:¬a1<49)(hn:¬a12<0)(hJ1:j1=i13.fail 6)(hJ2:j2=j1)(hJ3:j3=j2)(h:St W0 w K (.inp p i::L)):
 Calls Jb 133 #[zAe p] w fun en w'=>en=Y (if j3.err=0 then .agg #[I O a0,I O a1,I O a2,I O sm,I O a5,I O a6,I O a7,I O a8,I O a9,I O a10,I O a11,I O a12]else .agg #[I O 0,I O 0,I O 0,I O 0,I O 0,I O 0,I O 0,I O 0,I O 0,I O 0,I O 0,I O 0])∧St W0 w' K (.inp p j3::L):=by
 have H:=hQd (h.allocRaw #[I O 0,I O 0,I O 0,I O 0,I O 0,I O 0,I O 0,I O 0,I O 0,I O 0,I O 0,I O 0] 163).p1;have EF:=hQd (fun(W0' w':World) (K':Know) (L':List Res) (h':St W0' w' K' (.inp p i::L'))=>zAP p i i1 i2 i3 i4 i5 i6 i7 i8 i9 i10 i11 i12 i13 a0 a1 a2 a3 a4 a5 a6 a7 a8 a9 a10 a11 a12 sm e0 e1 e2 e3 e4 e5 e6 e7 e8 e9 e10 e11 e12 hsm h');clear h e0 e1 e2 e3 e4 e5 e6 e7 e8 e9 e10 e11 e12 hsm;have EJ1:=hQd hJ1.symm;clear hJ1;subst hJ2;subst hJ3
 by_cases hz:j3.err=0
 ·exact zq1
 ·exact zq0
theorem zGz(p:Nat)(i i1 i2 i3 i4 i5 i6 i7 i8 i9 i10 i11 i12 i13 j1 j2 j3:InS)(a0 a1 a2 a3 a4 a5 a6 a7 a8 a9 a10 a11 a12 sm:Int)(e0:i.int 8=(a0,i1))(e1:i1.int 4=(a1,i2))(e2:i2.int 4=(a2,i3))(e3:i3.int 1=(a3,i4))(e4:i4.int 4=(a4,i5))(e5:i5.int 2=(a5,i6))(e6:i6.int 4=(a6,i7))(e7:i7.int 8=(a7,i8))(e8:i8.int 8=(a8,i9))(e9:i9.int 8=(a9,i10))(e10:i10.int 2=(a10,i11))(e11:i11.int 4=(a11,i12))(e12:i12.int 4=(a12,i13))(hsm:bits .and .i64 a4 4294967295=sm)
 (hm:(a3 !=2)=true)(hl:¬a1<49)(hn:a12<0)(hJ1:j1=i13.fail 6)(hJ2:j2=j1)(hJ3:j3=j2.fail 10)(h:St W0 w K (.inp p i::L)):
 Calls Jb 133 #[zAe p] w fun en w'=>en=Y (if j3.err=0 then .agg #[I O a0,I O a1,I O a2,I O sm,I O a5,I O a6,I O a7,I O a8,I O a9,I O a10,I O a11,I O a12]else .agg #[I O 0,I O 0,I O 0,I O 0,I O 0,I O 0,I O 0,I O 0,I O 0,I O 0,I O 0,I O 0])∧St W0 w' K (.inp p j3::L):=by
 have H:=hQd (h.allocRaw #[I O 0,I O 0,I O 0,I O 0,I O 0,I O 0,I O 0,I O 0,I O 0,I O 0,I O 0,I O 0] 163).p1;have EF:=hQd (fun(W0' w':World) (K':Know) (L':List Res) (h':St W0' w' K' (.inp p i::L'))=>zAP p i i1 i2 i3 i4 i5 i6 i7 i8 i9 i10 i11 i12 i13 a0 a1 a2 a3 a4 a5 a6 a7 a8 a9 a10 a11 a12 sm e0 e1 e2 e3 e4 e5 e6 e7 e8 e9 e10 e11 e12 hsm h');clear h e0 e1 e2 e3 e4 e5 e6 e7 e8 e9 e10 e11 e12 hsm;have EJ1:=hQd hJ1.symm;clear hJ1;subst hJ2;have EJ3:=hQd hJ3.symm;clear hJ3
 by_cases hz:j3.err=0
 ·exact zq1
 ·exact zq0
theorem zGy(p:Nat)(i i1 i2 i3 i4 i5 i6 i7 i8 i9 i10 i11 i12 i13 j1 j2 j3:InS)(a0 a1 a2 a3 a4 a5 a6 a7 a8 a9 a10 a11 a12 sm:Int)(e0:i.int 8=(a0,i1))(e1:i1.int 4=(a1,i2))(e2:i2.int 4=(a2,i3))(e3:i3.int 1=(a3,i4))(e4:i4.int 4=(a4,i5))(e5:i5.int 2=(a5,i6))(e6:i6.int 4=(a6,i7))(e7:i7.int 8=(a7,i8))(e8:i8.int 8=(a8,i9))(e9:i9.int 8=(a9,i10))(e10:i10.int 2=(a10,i11))(e11:i11.int 4=(a11,i12))(e12:i12.int 4=(a12,i13))(hsm:bits .and .i64 a4 4294967295=sm)
 (hm:(a3 !=2)=true)(hl:a1<49)(hn:¬a12<0)(hJ1:j1=i13.fail 6)(hJ2:j2=j1.fail 4)(hJ3:j3=j2)(h:St W0 w K (.inp p i::L)):
 Calls Jb 133 #[zAe p] w fun en w'=>en=Y (if j3.err=0 then .agg #[I O a0,I O a1,I O a2,I O sm,I O a5,I O a6,I O a7,I O a8,I O a9,I O a10,I O a11,I O a12]else .agg #[I O 0,I O 0,I O 0,I O 0,I O 0,I O 0,I O 0,I O 0,I O 0,I O 0,I O 0,I O 0])∧St W0 w' K (.inp p j3::L):=by
 have H:=hQd (h.allocRaw #[I O 0,I O 0,I O 0,I O 0,I O 0,I O 0,I O 0,I O 0,I O 0,I O 0,I O 0,I O 0] 163).p1;have EF:=hQd (fun(W0' w':World) (K':Know) (L':List Res) (h':St W0' w' K' (.inp p i::L'))=>zAP p i i1 i2 i3 i4 i5 i6 i7 i8 i9 i10 i11 i12 i13 a0 a1 a2 a3 a4 a5 a6 a7 a8 a9 a10 a11 a12 sm e0 e1 e2 e3 e4 e5 e6 e7 e8 e9 e10 e11 e12 hsm h');clear h e0 e1 e2 e3 e4 e5 e6 e7 e8 e9 e10 e11 e12 hsm;have EJ1:=hQd hJ1.symm;clear hJ1;have EJ2:=hQd hJ2.symm;clear hJ2;subst hJ3
 by_cases hz:j3.err=0
 ·exact zq1
 ·exact zq0
theorem zGx(p:Nat)(i i1 i2 i3 i4 i5 i6 i7 i8 i9 i10 i11 i12 i13 j1 j2 j3:InS)(a0 a1 a2 a3 a4 a5 a6 a7 a8 a9 a10 a11 a12 sm:Int)(e0:i.int 8=(a0,i1))(e1:i1.int 4=(a1,i2))(e2:i2.int 4=(a2,i3))(e3:i3.int 1=(a3,i4))(e4:i4.int 4=(a4,i5))(e5:i5.int 2=(a5,i6))(e6:i6.int 4=(a6,i7))(e7:i7.int 8=(a7,i8))(e8:i8.int 8=(a8,i9))(e9:i9.int 8=(a9,i10))(e10:i10.int 2=(a10,i11))(e11:i11.int 4=(a11,i12))(e12:i12.int 4=(a12,i13))(hsm:bits .and .i64 a4 4294967295=sm)
 (hm:(a3 !=2)=true)(hl:a1<49)(hn:a12<0)(hJ1:j1=i13.fail 6)(hJ2:j2=j1.fail 4)(hJ3:j3=j2.fail 10)(h:St W0 w K (.inp p i::L)):
 Calls Jb 133 #[zAe p] w fun en w'=>en=Y (if j3.err=0 then .agg #[I O a0,I O a1,I O a2,I O sm,I O a5,I O a6,I O a7,I O a8,I O a9,I O a10,I O a11,I O a12]else .agg #[I O 0,I O 0,I O 0,I O 0,I O 0,I O 0,I O 0,I O 0,I O 0,I O 0,I O 0,I O 0])∧St W0 w' K (.inp p j3::L):=by
 have H:=hQd (h.allocRaw #[I O 0,I O 0,I O 0,I O 0,I O 0,I O 0,I O 0,I O 0,I O 0,I O 0,I O 0,I O 0] 163).p1;have EF:=hQd (fun(W0' w':World) (K':Know) (L':List Res) (h':St W0' w' K' (.inp p i::L'))=>zAP p i i1 i2 i3 i4 i5 i6 i7 i8 i9 i10 i11 i12 i13 a0 a1 a2 a3 a4 a5 a6 a7 a8 a9 a10 a11 a12 sm e0 e1 e2 e3 e4 e5 e6 e7 e8 e9 e10 e11 e12 hsm h');clear h e0 e1 e2 e3 e4 e5 e6 e7 e8 e9 e10 e11 e12 hsm;have EJ1:=hQd hJ1.symm;clear hJ1;have EJ2:=hQd hJ2.symm;clear hJ2;have EJ3:=hQd hJ3.symm;clear hJ3
 by_cases hz:j3.err=0
 ·exact zq1
 ·exact zq0
theorem zGw(p:Nat)(i i1 i2 i3 i4 i5 i6 i7 i8 i9 i10 i11 i12 i13 j1 j2 j3:InS)(a0 a1 a2 a3 a4 a5 a6 a7 a8 a9 a10 a11 a12 sm:Int)(e0:i.int 8=(a0,i1))(e1:i1.int 4=(a1,i2))(e2:i2.int 4=(a2,i3))(e3:i3.int 1=(a3,i4))(e4:i4.int 4=(a4,i5))(e5:i5.int 2=(a5,i6))(e6:i6.int 4=(a6,i7))(e7:i7.int 8=(a7,i8))(e8:i8.int 8=(a8,i9))(e9:i9.int 8=(a9,i10))(e10:i10.int 2=(a10,i11))(e11:i11.int 4=(a11,i12))(e12:i12.int 4=(a12,i13))(hsm:bits .and .i64 a4 4294967295=sm)
 (hm:(a3 !=2)=false)(hl:¬a1<49)(hn:¬a12<0)(hJ1:j1=i13)(hJ2:j2=j1)(hJ3:j3=j2)(h:St W0 w K (.inp p i::L)):
 Calls Jb 133 #[zAe p] w fun en w'=>en=Y (if j3.err=0 then .agg #[I O a0,I O a1,I O a2,I O sm,I O a5,I O a6,I O a7,I O a8,I O a9,I O a10,I O a11,I O a12]else .agg #[I O 0,I O 0,I O 0,I O 0,I O 0,I O 0,I O 0,I O 0,I O 0,I O 0,I O 0,I O 0])∧St W0 w' K (.inp p j3::L):=by
 have H:=hQd (h.allocRaw #[I O 0,I O 0,I O 0,I O 0,I O 0,I O 0,I O 0,I O 0,I O 0,I O 0,I O 0,I O 0] 163).p1;have EF:=hQd (fun(W0' w':World) (K':Know) (L':List Res) (h':St W0' w' K' (.inp p i::L'))=>zAP p i i1 i2 i3 i4 i5 i6 i7 i8 i9 i10 i11 i12 i13 a0 a1 a2 a3 a4 a5 a6 a7 a8 a9 a10 a11 a12 sm e0 e1 e2 e3 e4 e5 e6 e7 e8 e9 e10 e11 e12 hsm h');clear h e0 e1 e2 e3 e4 e5 e6 e7 e8 e9 e10 e11 e12 hsm;subst hJ1;subst hJ2;subst hJ3
 by_cases hz:j3.err=0
 ·exact zq1
 ·exact zq0
theorem zGv(p:Nat)(i i1 i2 i3 i4 i5 i6 i7 i8 i9 i10 i11 i12 i13 j1 j2 j3:InS)(a0 a1 a2 a3 a4 a5 a6 a7 a8 a9 a10 a11 a12 sm:Int)(e0:i.int 8=(a0,i1))(e1:i1.int 4=(a1,i2))(e2:i2.int 4=(a2,i3))(e3:i3.int 1=(a3,i4))(e4:i4.int 4=(a4,i5))(e5:i5.int 2=(a5,i6))(e6:i6.int 4=(a6,i7))(e7:i7.int 8=(a7,i8))(e8:i8.int 8=(a8,i9))(e9:i9.int 8=(a9,i10))(e10:i10.int 2=(a10,i11))(e11:i11.int 4=(a11,i12))(e12:i12.int 4=(a12,i13))(hsm:bits .and .i64 a4 4294967295=sm)
 (hm:(a3 !=2)=false)(hl:¬a1<49)(hn:a12<0)(hJ1:j1=i13)(hJ2:j2=j1)(hJ3:j3=j2.fail 10)(h:St W0 w K (.inp p i::L)):
 Calls Jb 133 #[zAe p] w fun en w'=>en=Y (if j3.err=0 then .agg #[I O a0,I O a1,I O a2,I O sm,I O a5,I O a6,I O a7,I O a8,I O a9,I O a10,I O a11,I O a12]else .agg #[I O 0,I O 0,I O 0,I O 0,I O 0,I O 0,I O 0,I O 0,I O 0,I O 0,I O 0,I O 0])∧St W0 w' K (.inp p j3::L):=by
 have H:=hQd (h.allocRaw #[I O 0,I O 0,I O 0,I O 0,I O 0,I O 0,I O 0,I O 0,I O 0,I O 0,I O 0,I O 0] 163).p1;have EF:=hQd (fun(W0' w':World) (K':Know) (L':List Res) (h':St W0' w' K' (.inp p i::L'))=>zAP p i i1 i2 i3 i4 i5 i6 i7 i8 i9 i10 i11 i12 i13 a0 a1 a2 a3 a4 a5 a6 a7 a8 a9 a10 a11 a12 sm e0 e1 e2 e3 e4 e5 e6 e7 e8 e9 e10 e11 e12 hsm h');clear h e0 e1 e2 e3 e4 e5 e6 e7 e8 e9 e10 e11 e12 hsm;subst hJ1;subst hJ2;have EJ3:=hQd hJ3.symm;clear hJ3
 by_cases hz:j3.err=0
 ·exact zq1
 ·exact zq0
theorem zGu(p:Nat)(i i1 i2 i3 i4 i5 i6 i7 i8 i9 i10 i11 i12 i13 j1 j2 j3:InS)(a0 a1 a2 a3 a4 a5 a6 a7 a8 a9 a10 a11 a12 sm:Int)(e0:i.int 8=(a0,i1))(e1:i1.int 4=(a1,i2))(e2:i2.int 4=(a2,i3))(e3:i3.int 1=(a3,i4))(e4:i4.int 4=(a4,i5))(e5:i5.int 2=(a5,i6))(e6:i6.int 4=(a6,i7))(e7:i7.int 8=(a7,i8))(e8:i8.int 8=(a8,i9))(e9:i9.int 8=(a9,i10))(e10:i10.int 2=(a10,i11))(e11:i11.int 4=(a11,i12))(e12:i12.int 4=(a12,i13))(hsm:bits .and .i64 a4 4294967295=sm)
 (hm:(a3 !=2)=false)(hl:a1<49)(hn:¬a12<0)(hJ1:j1=i13)(hJ2:j2=j1.fail 4)(hJ3:j3=j2)(h:St W0 w K (.inp p i::L)):
 Calls Jb 133 #[zAe p] w fun en w'=>en=Y (if j3.err=0 then .agg #[I O a0,I O a1,I O a2,I O sm,I O a5,I O a6,I O a7,I O a8,I O a9,I O a10,I O a11,I O a12]else .agg #[I O 0,I O 0,I O 0,I O 0,I O 0,I O 0,I O 0,I O 0,I O 0,I O 0,I O 0,I O 0])∧St W0 w' K (.inp p j3::L):=by
 have H:=hQd (h.allocRaw #[I O 0,I O 0,I O 0,I O 0,I O 0,I O 0,I O 0,I O 0,I O 0,I O 0,I O 0,I O 0] 163).p1;have EF:=hQd (fun(W0' w':World) (K':Know) (L':List Res) (h':St W0' w' K' (.inp p i::L'))=>zAP p i i1 i2 i3 i4 i5 i6 i7 i8 i9 i10 i11 i12 i13 a0 a1 a2 a3 a4 a5 a6 a7 a8 a9 a10 a11 a12 sm e0 e1 e2 e3 e4 e5 e6 e7 e8 e9 e10 e11 e12 hsm h');clear h e0 e1 e2 e3 e4 e5 e6 e7 e8 e9 e10 e11 e12 hsm;subst hJ1;have EJ2:=hQd hJ2.symm;clear hJ2;subst hJ3
 by_cases hz:j3.err=0
 ·exact zq1
 ·exact zq0
theorem zGt(p:Nat)(i i1 i2 i3 i4 i5 i6 i7 i8 i9 i10 i11 i12 i13 j1 j2 j3:InS)(a0 a1 a2 a3 a4 a5 a6 a7 a8 a9 a10 a11 a12 sm:Int)(e0:i.int 8=(a0,i1))(e1:i1.int 4=(a1,i2))(e2:i2.int 4=(a2,i3))(e3:i3.int 1=(a3,i4))(e4:i4.int 4=(a4,i5))(e5:i5.int 2=(a5,i6))(e6:i6.int 4=(a6,i7))(e7:i7.int 8=(a7,i8))(e8:i8.int 8=(a8,i9))(e9:i9.int 8=(a9,i10))(e10:i10.int 2=(a10,i11))(e11:i11.int 4=(a11,i12))(e12:i12.int 4=(a12,i13))(hsm:bits .and .i64 a4 4294967295=sm)
 (hm:(a3 !=2)=false)(hl:a1<49)(hn:a12<0)(hJ1:j1=i13)(hJ2:j2=j1.fail 4)(hJ3:j3=j2.fail 10)(h:St W0 w K (.inp p i::L)):
 Calls Jb 133 #[zAe p] w fun en w'=>en=Y (if j3.err=0 then .agg #[I O a0,I O a1,I O a2,I O sm,I O a5,I O a6,I O a7,I O a8,I O a9,I O a10,I O a11,I O a12]else .agg #[I O 0,I O 0,I O 0,I O 0,I O 0,I O 0,I O 0,I O 0,I O 0,I O 0,I O 0,I O 0])∧St W0 w' K (.inp p j3::L):=by
 have H:=hQd (h.allocRaw #[I O 0,I O 0,I O 0,I O 0,I O 0,I O 0,I O 0,I O 0,I O 0,I O 0,I O 0,I O 0] 163).p1;have EF:=hQd (fun(W0' w':World) (K':Know) (L':List Res) (h':St W0' w' K' (.inp p i::L'))=>zAP p i i1 i2 i3 i4 i5 i6 i7 i8 i9 i10 i11 i12 i13 a0 a1 a2 a3 a4 a5 a6 a7 a8 a9 a10 a11 a12 sm e0 e1 e2 e3 e4 e5 e6 e7 e8 e9 e10 e11 e12 hsm h');clear h e0 e1 e2 e3 e4 e5 e6 e7 e8 e9 e10 e11 e12 hsm;subst hJ1;have EJ2:=hQd hJ2.symm;clear hJ2;have EJ3:=hQd hJ3.symm;clear hJ3
 by_cases hz:j3.err=0
 ·exact zq1
 ·exact zq0
def zGB:List Int→PreS×Int
 |[a0,a1,a2,a3,a4,a5,a6,a7,a8,a9,a10,a11,a12]=>(⟨a0,a1,a2,a4 % 4294967296,a5,a6,a7,a8,a9,a10,a11,a12⟩,a3)
 | _=>(PreS.zero,0)
def zQa (x:PreS) (m:Int) (i:InS):InS:=
 (fun j2:InS=>if x.count<0 then j2.fail 10 else j2) ((fun j1:InS=>if x.len<49 then j1.fail 4 else j1) (if m=2 then i else i.fail 6))
def InS.pre (i:InS):PreS×InS:=
 (fun j:InS=>(if j.err=0 then(zGB (InS.ints zAQ i).1).1 else PreS.zero,j)) (zQa (zGB (InS.ints zAQ i).1).1 (zGB (InS.ints zAQ i).1).2 (InS.ints zAQ i).2)
theorem zMt(p:Nat)(i:InS)(h:St W0 w K (.inp p i::L)):
 Calls Jb 133 #[zAe p] w fun en w'=>en=Y (pv i.pre.1)∧St W0 w' K (.inp p i.pre.2::L):=by
 obtain⟨⟨a0,i1⟩,e0⟩:∃a,i.int 8=a:=⟨_,rfl⟩;obtain⟨⟨a1,i2⟩,e1⟩:∃a,i1.int 4=a:=⟨_,rfl⟩;obtain⟨⟨a2,i3⟩,e2⟩:∃a,i2.int 4=a:=⟨_,rfl⟩;obtain⟨⟨a3,i4⟩,e3⟩:∃a,i3.int 1=a:=⟨_,rfl⟩;obtain⟨⟨a4,i5⟩,e4⟩:∃a,i4.int 4=a:=⟨_,rfl⟩;obtain⟨⟨a5,i6⟩,e5⟩:∃a,i5.int 2=a:=⟨_,rfl⟩;obtain⟨⟨a6,i7⟩,e6⟩:∃a,i6.int 4=a:=⟨_,rfl⟩;obtain⟨⟨a7,i8⟩,e7⟩:∃a,i7.int 8=a:=⟨_,rfl⟩;obtain⟨⟨a8,i9⟩,e8⟩:∃a,i8.int 8=a:=⟨_,rfl⟩;obtain⟨⟨a9,i10⟩,e9⟩:∃a,i9.int 8=a:=⟨_,rfl⟩;obtain⟨⟨a10,i11⟩,e10⟩:∃a,i10.int 2=a:=⟨_,rfl⟩;obtain⟨⟨a11,i12⟩,e11⟩:∃a,i11.int 4=a:=⟨_,rfl⟩;obtain⟨⟨a12,i13⟩,e12⟩:∃a,i12.int 4=a:=⟨_,rfl⟩
 have hi:InS.ints zAQ i=([a0,a1,a2,a3,a4,a5,a6,a7,a8,a9,a10,a11,a12],i13):=by
  have c8:((8:Nat):Int)=8:=rfl;have c4:((4:Nat):Int)=4:=rfl;have c2:((2:Nat):Int)=2:=rfl;have c1:((1:Nat):Int)=1:=rfl;simp only[InS.ints,zAQ,c8,c4,c2,c1,e0,e1,e2,e3,e4,e5,e6,e7,e8,e9,e10,e11,e12]
 have hv:∀b:Prop,[Decidable b]→pv (if b then(⟨a0,a1,a2,a4 % 4294967296,a5,a6,a7,a8,a9,a10,a11,a12⟩:PreS)else PreS.zero)=if b then(.agg #[I O a0,I O a1,I O a2,I O (a4 % 4294967296),I O a5,I O a6,I O a7,I O a8,I O a9,I O a10,I O a11,I O a12]:Value)else .agg #[I O 0,I O 0,I O 0,I O 0,I O 0,I O 0,I O 0,I O 0,I O 0,I O 0,I O 0,I O 0]:=by
  intro b _;split<;>rfl
 unfold InS.pre;rw[hi];have hp:zGB [a0,a1,a2,a3,a4,a5,a6,a7,a8,a9,a10,a11,a12]=(⟨a0,a1,a2,a4 % 4294967296,a5,a6,a7,a8,a9,a10,a11,a12⟩,a3):=rfl;simp only[hp,zQa];rw[hv]
 by_cases hm:a3=2<;>by_cases hl:a1<49<;>by_cases hn:a12<0
 ·rw[if_pos hm,if_pos hl,if_pos hn];exact zGt p i i1 i2 i3 i4 i5 i6 i7 i8 i9 i10 i11 i12 i13 _ _ _ a0 a1 a2 a3 a4 a5 a6 a7 a8 a9 a10 a11 a12 _ e0 e1 e2 e3 e4 e5 e6 e7 e8 e9 e10 e11 e12 (zDw a4) (by simpa using hm) hl hn rfl rfl rfl h
 ·rw[if_pos hm,if_pos hl,if_neg hn];exact zGu p i i1 i2 i3 i4 i5 i6 i7 i8 i9 i10 i11 i12 i13 _ _ _ a0 a1 a2 a3 a4 a5 a6 a7 a8 a9 a10 a11 a12 _ e0 e1 e2 e3 e4 e5 e6 e7 e8 e9 e10 e11 e12 (zDw a4) (by simpa using hm) hl hn rfl rfl rfl h
 ·rw[if_pos hm,if_neg hl,if_pos hn];exact zGv p i i1 i2 i3 i4 i5 i6 i7 i8 i9 i10 i11 i12 i13 _ _ _ a0 a1 a2 a3 a4 a5 a6 a7 a8 a9 a10 a11 a12 _ e0 e1 e2 e3 e4 e5 e6 e7 e8 e9 e10 e11 e12 (zDw a4) (by simpa using hm) hl hn rfl rfl rfl h
 ·rw[if_pos hm,if_neg hl,if_neg hn];exact zGw p i i1 i2 i3 i4 i5 i6 i7 i8 i9 i10 i11 i12 i13 _ _ _ a0 a1 a2 a3 a4 a5 a6 a7 a8 a9 a10 a11 a12 _ e0 e1 e2 e3 e4 e5 e6 e7 e8 e9 e10 e11 e12 (zDw a4) (by simpa using hm) hl hn rfl rfl rfl h
 ·rw[if_neg hm,if_pos hl,if_pos hn];exact zGx p i i1 i2 i3 i4 i5 i6 i7 i8 i9 i10 i11 i12 i13 _ _ _ a0 a1 a2 a3 a4 a5 a6 a7 a8 a9 a10 a11 a12 _ e0 e1 e2 e3 e4 e5 e6 e7 e8 e9 e10 e11 e12 (zDw a4) (by simpa using hm) hl hn rfl rfl rfl h
 ·rw[if_neg hm,if_pos hl,if_neg hn];exact zGy p i i1 i2 i3 i4 i5 i6 i7 i8 i9 i10 i11 i12 i13 _ _ _ a0 a1 a2 a3 a4 a5 a6 a7 a8 a9 a10 a11 a12 _ e0 e1 e2 e3 e4 e5 e6 e7 e8 e9 e10 e11 e12 (zDw a4) (by simpa using hm) hl hn rfl rfl rfl h
 ·rw[if_neg hm,if_neg hl,if_pos hn];exact zGz p i i1 i2 i3 i4 i5 i6 i7 i8 i9 i10 i11 i12 i13 _ _ _ a0 a1 a2 a3 a4 a5 a6 a7 a8 a9 a10 a11 a12 _ e0 e1 e2 e3 e4 e5 e6 e7 e8 e9 e10 e11 e12 (zDw a4) (by simpa using hm) hl hn rfl rfl rfl h
 ·rw[if_neg hm,if_neg hl,if_neg hn];exact zGA p i i1 i2 i3 i4 i5 i6 i7 i8 i9 i10 i11 i12 i13 _ _ _ a0 a1 a2 a3 a4 a5 a6 a7 a8 a9 a10 a11 a12 _ e0 e1 e2 e3 e4 e5 e6 e7 e8 e9 e10 e11 e12 (zDw a4) (by simpa using hm) hl hn rfl rfl rfl h
end Go.Proofs.YteldcbljedeeiaaGreatDoor
