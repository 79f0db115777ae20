/- A text. -/
import Derived.Test.YtenojajfacacoaaGreatDoorGReportPlaysCard3
import Derived.Deep.RegionHeld3
import Derived.Test.YtenojajfacacoaaGreatDoorGReportPlaysCard2
import Derived.Deep.MidRow
/- A text. -/
namespace Go.Proofs.YtenojajfacacoaaGreatDoor
open Go.RowKit
open Go.Value renaming bool→U, string→Z, slice→Ja, int→I, pointer→Jc
open Go.Ending renaming returned→Jb
open _root_.Nat renaming le_refl→Jo, zero_le→Ji, add_assoc→Jm
open Go.IntKind renaming i64→O
open _root_.Go.Proofs.Tryz renaming prog→Jd
open _root_.List renaming length_cons→Jg, take_of_length_le→Jj, length_take→Jk, length_append→Je, length→Jh, take→Jq, getElem_mem→Jp, length_drop→Jf, length_nil→Jl, length_map→Jn
set_option maxHeartbeats 8000000
set_option maxRecDepth 100000
variable {W0 w:World}{K:Know}{L:List Res}
def zB2 (n1 n2:Bool) (d1 d2:Bs) (many o:Int):Int×Int×Int:=
 if n1=true∨n2=true∨many≠0∨o≠0 then(0,0,12)
 else if (zCn 2 way 12 d1).2≠0 then(0,0,(zCn 2 way 12 d1).2)
 else if (zCn 4 zCI 11 d2).2≠0 then(0,0,(zCn 4 zCI 11 d2).2)
 else((zCn 2 way 12 d1).1,(zCn 4 zCI 11 d2).1,0)
theorem zJY(t o:Int)(n1 n2:Bool)(d1 d2:Bs)(q:Option Addr)(ln cap:Nat)(r:Int×Int×Int)(hr:zB2 n1 n2 d1 d2 ln o=r)(hd1:d1.length≤140737488355328)(hd2:d2.length≤140737488355328)(h:St W0 w K L):
 Calls Jd 71 #[.agg #[I O t,I O o,U n1,Z (bb d1),U n2,Z (bb d2),(Ja q ln cap)]] w fun en w'=>en=Jb (.tuple #[I O r.1,I O r.2.1,I O r.2.2])∧St W0 w' K L:=by
 have h0:=h.allocRaw #[I O t,I O o,U n1,Z (bb d1),U n2,Z (bb d2),(Ja q ln cap)] 54;obtain⟨wA,hwA⟩:=eX w.heap.size;rw[hwA]at h0;have H:=hQd h0;have HD1:=hQd hd1;have HD2:=hQd hd2;obtain⟨ac0,ac1,ac2,ac3,ac4,ac5,ac6,af0,af1,af2,af3,af4,af5,af6⟩:=raw7 (b:=wA) (H.out);clear h h0 hd1 hd2;unfold zB2 at hr
 by_cases g1:n1=true
 ·rw[if_pos (.inl g1)]at hr;subst hr g1;go_enter Tryz.func71,Tryz.ntmps71;go_wp2;go_ret3;exact⟨rfl,H.out.drop⟩
 by_cases g2:n2=true
 ·rw[if_pos (.inr (.inl g2))]at hr;subst hr g2;obtain rfl:n1=false:=by simpa using g1
  clear g1;go_enter Tryz.func71,Tryz.ntmps71;go_wp2;go_ret3;exact⟨rfl,H.out.drop⟩
 obtain rfl:n1=false:=by simpa using g1
 obtain rfl:n2=false:=by simpa using g2
 clear g1 g2
 by_cases g3:(ln:Int)≠0
 ·rw[if_pos (.inr (.inr (.inl g3)))]at hr;subst hr;have b1:((ln:Int) !=0)=true:=by simpa using g3
  have b2:decide (0<ln)=true:=decide_eq_true oM;have b3:decide ((0:Int)<ln)=true:=decide_eq_true oM;have b4:0<ln:=by omega
  clear g3;go_enter Tryz.func71,Tryz.ntmps71;go_wp2;go_ret3;exact⟨rfl,H.out.drop⟩
 obtain rfl:ln=0:=by omega
 clear g3
 by_cases g4:o≠0
 ·rw[if_pos (.inr (.inr (.inr g4)))]at hr;subst hr;have b1:(o !=0)=true:=by simpa using g4
  clear g4;go_enter Tryz.func71,Tryz.ntmps71;go_wp2;go_ret3;exact⟨rfl,H.out.drop⟩
 obtain rfl:o=0:=by simpa using g4
 clear g4;rw[if_neg sM]at hr;obtain⟨a,ha⟩:=eX (zCn 2 way 12 d1);obtain⟨b,hb⟩:=eX (zCn 4 zCI 11 d2);rw[ha,hb]at hr;have EA:=hQd ha;have EB:=hQd hb;clear ha hb
 by_cases g5:a.2≠0
 ·rw[if_pos g5]at hr;subst hr;have b1:(a.2 !=0)=true:=by simpa using g5
  clear g5;go_enter Tryz.func71,Tryz.ntmps71
  go_wp2_with (first
   |(go_at_call 101;refine(zEA d1 a EA.out HD1.out H.out).zM ?_;clear H;intro wn H;obtain⟨ac0,ac1,ac2,ac3,ac4,ac5,ac6,af0,af1,af2,af3,af4,af5,af6⟩:=raw7 (b:=wA) (H.out)))
  go_ret3;exact⟨rfl,H.out.drop⟩
 rw[if_neg g5]at hr;have b1:(a.2 !=0)=false:=by simpa using g5
 clear g5
 by_cases g6:b.2≠0
 ·rw[if_pos g6]at hr;subst hr;have b2:(b.2 !=0)=true:=by simpa using g6
  clear g6;go_enter Tryz.func71,Tryz.ntmps71
  go_wp2_with (first
   |(go_at_call 101;refine(zEA d1 a EA.out HD1.out H.out).zM ?_;clear H;intro wn H;obtain⟨ac0,ac1,ac2,ac3,ac4,ac5,ac6,af0,af1,af2,af3,af4,af5,af6⟩:=raw7 (b:=wA) (H.out))
   |(go_at_call 102;refine(zE5 d2 b EB.out HD2.out H.out).zM ?_;clear H;intro wn H;obtain⟨ac0,ac1,ac2,ac3,ac4,ac5,ac6,af0,af1,af2,af3,af4,af5,af6⟩:=raw7 (b:=wA) (H.out)))
  go_ret3;exact⟨rfl,H.out.drop⟩
 rw[if_neg g6]at hr;subst hr;have b2:(b.2 !=0)=false:=by simpa using g6
 clear g6;go_enter Tryz.func71,Tryz.ntmps71
 go_wp2_with (first
  |(go_at_call 101;refine(zEA d1 a EA.out HD1.out H.out).zM ?_;clear H;intro wn H;obtain⟨ac0,ac1,ac2,ac3,ac4,ac5,ac6,af0,af1,af2,af3,af4,af5,af6⟩:=raw7 (b:=wA) (H.out))
  |(go_at_call 102;refine(zE5 d2 b EB.out HD2.out H.out).zM ?_;clear H;intro wn H;obtain⟨ac0,ac1,ac2,ac3,ac4,ac5,ac6,af0,af1,af2,af3,af4,af5,af6⟩:=raw7 (b:=wA) (H.out)))
 go_ret3;exact⟨rfl,H.out.drop⟩
theorem zFu(t o:Int)(n1 n2:Bool)(d1 d2:Bs)(q:Option Addr)(ln cap:Nat)(r:Int×Int×Int)(hr:zB2 n1 n2 d1 d2 ln o=r)(hd1:d1.length≤140737488355328)(hd2:d2.length≤140737488355328)(h:St W0 w K L):
 Calls Jd 26 #[.agg #[I O t,I O o,U n1,Z (bb d1),U n2,Z (bb d2),(Ja q ln cap)]] w fun en w'=>en=Jb (.tuple #[I O r.1,I O r.2.1,I O r.2.2])∧St W0 w' K L:=by
 have h0:=h.allocRaw #[I O t,I O o,U n1,Z (bb d1),U n2,Z (bb d2),(Ja q ln cap)] 54;obtain⟨wA,hwA⟩:=eX w.heap.size;rw[hwA]at h0;have H:=hQd h0;have HD1:=hQd hd1;have HD2:=hQd hd2;obtain⟨ac0,ac1,ac2,ac3,ac4,ac5,ac6,af0,af1,af2,af3,af4,af5,af6⟩:=raw7 (b:=wA) (H.out);clear h h0 hd1 hd2;unfold zB2 at hr
 by_cases g1:n1=true
 ·rw[if_pos (.inl g1)]at hr;subst hr g1;go_enter Tryz.func26,Tryz.ntmps26;go_wp2;go_ret3;exact⟨rfl,H.out.drop⟩
 by_cases g2:n2=true
 ·rw[if_pos (.inr (.inl g2))]at hr;subst hr g2;obtain rfl:n1=false:=by simpa using g1
  clear g1;go_enter Tryz.func26,Tryz.ntmps26;go_wp2;go_ret3;exact⟨rfl,H.out.drop⟩
 obtain rfl:n1=false:=by simpa using g1
 obtain rfl:n2=false:=by simpa using g2
 clear g1 g2
 by_cases g3:(ln:Int)≠0
 ·rw[if_pos (.inr (.inr (.inl g3)))]at hr;subst hr;have b1:((ln:Int) !=0)=true:=by simpa using g3
  have b2:decide (0<ln)=true:=decide_eq_true oM;have b3:decide ((0:Int)<ln)=true:=decide_eq_true oM;have b4:0<ln:=by omega
  clear g3;go_enter Tryz.func26,Tryz.ntmps26;go_wp2;go_ret3;exact⟨rfl,H.out.drop⟩
 obtain rfl:ln=0:=by omega
 clear g3
 by_cases g4:o≠0
 ·rw[if_pos (.inr (.inr (.inr g4)))]at hr;subst hr;have b1:(o !=0)=true:=by simpa using g4
  clear g4;go_enter Tryz.func26,Tryz.ntmps26;go_wp2;go_ret3;exact⟨rfl,H.out.drop⟩
 obtain rfl:o=0:=by simpa using g4
 clear g4;rw[if_neg sM]at hr;obtain⟨a,ha⟩:=eX (zCn 2 way 12 d1);obtain⟨b,hb⟩:=eX (zCn 4 zCI 11 d2);rw[ha,hb]at hr;have EA:=hQd ha;have EB:=hQd hb;clear ha hb
 by_cases g5:a.2≠0
 ·rw[if_pos g5]at hr;subst hr;have b1:(a.2 !=0)=true:=by simpa using g5
  clear g5;go_enter Tryz.func26,Tryz.ntmps26
  go_wp2_with (first
   |(go_at_call 56;refine(zDf d1 a EA.out HD1.out H.out).zM ?_;clear H;intro wn H;obtain⟨ac0,ac1,ac2,ac3,ac4,ac5,ac6,af0,af1,af2,af3,af4,af5,af6⟩:=raw7 (b:=wA) (H.out)))
  go_ret3;exact⟨rfl,H.out.drop⟩
 rw[if_neg g5]at hr;have b1:(a.2 !=0)=false:=by simpa using g5
 clear g5
 by_cases g6:b.2≠0
 ·rw[if_pos g6]at hr;subst hr;have b2:(b.2 !=0)=true:=by simpa using g6
  clear g6;go_enter Tryz.func26,Tryz.ntmps26
  go_wp2_with (first
   |(go_at_call 56;refine(zDf d1 a EA.out HD1.out H.out).zM ?_;clear H;intro wn H;obtain⟨ac0,ac1,ac2,ac3,ac4,ac5,ac6,af0,af1,af2,af3,af4,af5,af6⟩:=raw7 (b:=wA) (H.out))
   |(go_at_call 57;refine(zDF d2 b EB.out HD2.out H.out).zM ?_;clear H;intro wn H;obtain⟨ac0,ac1,ac2,ac3,ac4,ac5,ac6,af0,af1,af2,af3,af4,af5,af6⟩:=raw7 (b:=wA) (H.out)))
  go_ret3;exact⟨rfl,H.out.drop⟩
 rw[if_neg g6]at hr;subst hr;have b2:(b.2 !=0)=false:=by simpa using g6
 clear g6;go_enter Tryz.func26,Tryz.ntmps26
 go_wp2_with (first
  |(go_at_call 56;refine(zDf d1 a EA.out HD1.out H.out).zM ?_;clear H;intro wn H;obtain⟨ac0,ac1,ac2,ac3,ac4,ac5,ac6,af0,af1,af2,af3,af4,af5,af6⟩:=raw7 (b:=wA) (H.out))
  |(go_at_call 57;refine(zDF d2 b EB.out HD2.out H.out).zM ?_;clear H;intro wn H;obtain⟨ac0,ac1,ac2,ac3,ac4,ac5,ac6,af0,af1,af2,af3,af4,af5,af6⟩:=raw7 (b:=wA) (H.out)))
 go_ret3;exact⟨rfl,H.out.drop⟩
structure BatS where
 base:Int
 leader:Int
 app:Bool
 txn:Bool
 ctl:Bool
 last:Int
 first:Int
 maxt:Int
 prod:Int
 epoch:Int
 seq:Int
 recs:List RecS
deriving DecidableEq
def BatS.zero:BatS:=⟨0,0,false,false,false,0,0,0,0,0,0,[]⟩
def Rn (n:Int):Prop:= -9223372036854775808≤n∧n<9223372036854775808
def BatS.R (b:BatS):Prop:=Rn b.base∧Rn b.leader∧Rn b.last∧Rn b.first∧Rn b.maxt∧Rn b.prod∧Rn b.epoch∧Rn b.seq
def BatS.placed (b:BatS):Bool:=decide (0≤b.base∧(-1≤b.leader∧b.leader≤2147483647)∧(0≤b.last∧b.last≤2147483647)∧b.base≤9223372036854775807 - b.last∧0≤b.first∧0≤b.maxt)
def BatS.signed (b:BatS):Bool:=
 if b.prod= -1 then decide (b.epoch= -1∧b.seq= -1∧b.txn=false)
 else if b.prod<0∨¬(0≤b.epoch∧b.epoch≤32767)then false
 else if b.ctl then decide (b.seq= -1)
 else decide (0≤b.seq∧b.seq≤2147483647)
def zDE (first last:Int):List RecS→Int→Int→Except Int Int
 |[],_,g=> .ok g
 |r::t,ah,g=>if r.off≤ah∨last<r.off then .error 13 else if r.time< -first∨9223372036854775807 - first<r.time then .error 11 else zDE first last t r.off (max g (first+r.time))
def zOj (app:Bool) (maxt:Int) (r:Except Int Int):Int:=match r with
 | .error e=>e
 | .ok g=>if app=false∧maxt≠g then 11 else 0
def BatS.rows (b:BatS):Int:=zOj b.app b.maxt (zDE b.first b.last b.recs (-1) b.first)
def zCl:List RecS→Int
 |[]=>0
 |r::t=>if zA8 r=0 then zCl t else zA8 r
def zCh (r:RecS):Int×Int×Int:=zB2 r.key.null r.val.null r.key.data r.val.data r.hdrs.length r.off
def BatS.ends (b:BatS):Int:=match b.recs with|[]=>0|r::_=>(zCh r).2.2
def zAh (b:BatS):Int:=
 if b.placed=false then 11
 else if b.ctl=true∧b.txn=false then 8
 else if b.signed=false then 11
 else if b.ctl=true∧b.recs.length≠1 then 10
 else if zCl b.recs≠0 then zCl b.recs
 else if b.ctl=true∧b.ends≠0 then b.ends
 else b.rows
variable {W0 w:World}{K:Know}{L:List Res}
theorem zNA(a b:Bs):(⟨a,0⟩:OutS).put b=⟨a++b,0⟩:=rfl
theorem zJt(p:Nat)(x:RecS)(v:Value)(hx:x.R)(ho:zA8 x=0)(hs:x.sum≤1000000)(hk:K.has (Know.flat RHdr v 3 x.hdrs))(h:St W0 w K (.out p ⟨[],0⟩::L)):
 Calls Jd 146 #[zBh p,.agg #[I O x.time,I O x.off,U x.key.null,Z (bb x.key.data),U x.val.null,Z (bb x.val.data),v]] w fun en w'=>en=Jb (.tuple #[])∧St W0 w' K (.out p ⟨recF x,0⟩::L):=by
 have H:=hQd (h.allocRaw #[I O x.time,I O x.off,U x.key.null,Z (bb x.key.data),U x.val.null,Z (bb x.val.data),v] 54).p1;have HK:=hQd hk;obtain⟨ho,hr⟩:=zIB ho;have hle:=zFy x hx hs;unfold RecS.allRight at hr;rw[Bool.and_eq_true,Bool.and_eq_true]at hr;have hsm:=hs;unfold RecS.sum at hsm;have hsl:=zCS x.hdrs;have HT:=hQd hx.1;have HO:=hQd hx.2;obtain⟨s2,h2⟩:=eX ([0]++encI x.time);obtain⟨s3,h3⟩:=eX (s2++encI x.off);obtain⟨s4,h4⟩:=eX (s3++encV x.key);obtain⟨s5,h5⟩:=eX (s4++encV x.val);have h6:s5++zDq x.hdrs=recF x:=by rw[←h5,←h4,←h3,←h2];unfold recF;simp only[List.append_assoc]
 obtain⟨s6,hs6⟩:=eX (recF x);rw[hs6]at h6 hle ⊢;have l6:=congrArg Jh h6;have l5:=congrArg Jh h5;have l4:=congrArg Jh h4;have l3:=congrArg Jh h3;have l2:=congrArg Jh h2;simp only[Je,Jg,Jl]at l2 l3 l4 l5 l6;have E1:=hQd (show(⟨[],0⟩:OutS).put [0]=⟨[0],0⟩from rfl);have E2:=hQd (show(⟨[0],0⟩:OutS).putLong x.time=⟨s2,0⟩from by rw[←h2];rfl);have E3:=hQd (show(⟨s2,0⟩:OutS).putInt x.off=⟨s3,0⟩from by rw[zIJ oM oM,zNA,h3]);have E4:=hQd (show(⟨s3,0⟩:OutS).putVaried x.key=⟨s4,0⟩from by rw[zBp hr.1.1 oM,zNA,h4]);have E5:=hQd (show(⟨s4,0⟩:OutS).putVaried x.val=⟨s5,0⟩from by rw[zBp hr.1.2 oM,zNA,h5]);have E6:=hQd (show(⟨s5,0⟩:OutS).putHdrs x.hdrs=⟨s6,0⟩from by rw[zJE hr.2 oM,zNA,h6]);have K1:=hQd (show(⟨[0],0⟩:OutS).ok 16 by unfold OutS.ok;simp);have K2:=hQd (show(⟨s2,0⟩:OutS).ok 16 by unfold OutS.ok;simp only;omega);have K3:=hQd (show(⟨s3,0⟩:OutS).ok (x.key.data.length+16) by unfold OutS.ok;simp only;omega);have K4:=hQd (show(⟨s4,0⟩:OutS).ok (x.val.data.length+16) by unfold OutS.ok;simp only;omega);have K5:=hQd (show(⟨s5,0⟩:OutS).ok (hsize x.hdrs+16) by unfold OutS.ok;simp only;omega);have HLL:=hQd (show x.hdrs.length≤140737488355328 by omega);have t1:True:=trivial;have t2:True:=trivial;have t3:True:=trivial;have t4:True:=trivial;have t5:True:=trivial;have t6:True:=trivial;clear h hk hx ho hr hs hle hsm hsl h2 h3 h4 h5 h6 hs6 l2 l3 l4 l5 l6;go_enter Tryz.func146,Tryz.ntmps146
 go_wp2_with (first
  |(go_at_call 177;have _t:=t1;clear _t;refine(zTe _ _ 0 H.out (by unfold OutS.ok;decide)).mono ?_;rw[E1.out];rintro e wn ⟨rfl,h⟩;replace H:=hQd h;clear h t1;obtain⟨c0,c1,c2,c3,c4,c5,c6,f0,f1,f2,f3,f4,f5,f6⟩:=raw7 (b:=w.heap.size) H.out.p1)
  |(go_at_call 178;have _t:=t2;clear _t;refine(zN2 _ _ _ HT.out H.out K1.out).mono ?_;rw[E2.out];rintro e wn ⟨rfl,h⟩;replace H:=hQd h;clear h t2;obtain⟨c0,c1,c2,c3,c4,c5,c6,f0,f1,f2,f3,f4,f5,f6⟩:=raw7 (b:=w.heap.size) H.out.p1)
  |(go_at_call 179;have _t:=t3;clear _t;refine(zGI _ _ _ HO.out H.out K2.out).mono ?_;rw[E3.out];rintro e wn ⟨rfl,h⟩;replace H:=hQd h;clear h t3;obtain⟨c0,c1,c2,c3,c4,c5,c6,f0,f1,f2,f3,f4,f5,f6⟩:=raw7 (b:=w.heap.size) H.out.p1)
  |(go_at_call 180;have _t:=t4;clear _t;refine(zB9 _ _ x.key H.out K3.out).mono ?_;rw[E4.out];rintro e wn ⟨rfl,h⟩;replace H:=hQd h;clear h t4;obtain⟨c0,c1,c2,c3,c4,c5,c6,f0,f1,f2,f3,f4,f5,f6⟩:=raw7 (b:=w.heap.size) H.out.p1)
  |(go_at_call 180;have _t:=t5;clear _t;refine(zB9 _ _ x.val H.out K4.out).mono ?_;rw[E5.out];rintro e wn ⟨rfl,h⟩;replace H:=hQd h;clear h t5;obtain⟨c0,c1,c2,c3,c4,c5,c6,f0,f1,f2,f3,f4,f5,f6⟩:=raw7 (b:=w.heap.size) H.out.p1)
  |(go_at_call 181;have _t:=t6;clear _t;refine(zLh _ _ _ x.hdrs HLL.out HK.out H.out K5.out).mono ?_;rw[E6.out];rintro e wn ⟨rfl,h⟩;replace H:=hQd h;clear h t6;obtain⟨c0,c1,c2,c3,c4,c5,c6,f0,f1,f2,f3,f4,f5,f6⟩:=raw7 (b:=w.heap.size) H.out.p1))
 go_end0;exact⟨rfl,H.out.p1.drop⟩
theorem zOt(x:RecS)(v:Value)(he:zA8 x=0)(hl:x.hdrs.length≤1000000)(hk:K.has (Know.flat RHdr v 3 x.hdrs))(h:St W0 w K L):
 Calls Jd 70 #[.agg #[I O x.time,I O x.off,U x.key.null,Z (bb x.key.data),U x.val.null,Z (bb x.val.data),v]] w fun en w'=>en=Jb (I O 0)∧St W0 w' K L:=zEM x v 0 he hl hk h
theorem zP1(p:Nat)(o o':OutS)(x:RecS)(v:Value)(hx:x.R)(hs:x.sum≤1000000)(hoo:o.putRec x=o')(hro:o.ok 40000000)(hk:K.has (Know.flat RHdr v 3 x.hdrs))(h:St W0 w K (.out p o::L)):
 Calls Jd 119 #[zBh p,.agg #[I O x.time,I O x.off,U x.key.null,Z (bb x.key.data),U x.val.null,Z (bb x.val.data),v]] w fun en w'=>en=Jb (.tuple #[])∧St W0 w' K (.out p o'::L):=by
 have H:=hQd (h.allocRaw #[I O x.time,I O x.off,U x.key.null,Z (bb x.key.data),U x.val.null,Z (bb x.val.data),v] 54).p1;have HK:=hQd hk;have HL:=hQd (show x.hdrs.length≤1000000 by have:=zCS x.hdrs;unfold RecS.sum at hs;omega);unfold OutS.putRec at hoo
 by_cases he:zA8 x=0
 ·rw[if_pos he]at hoo;have hle:=zFy x hx hs;have HX:=hQd hx;have HE:=hQd he;have HS:=hQd hs;have ET:=hQd (show(⟨recF x,0⟩:OutS).text=(recF x,0)from rfl);have EP:=hQd (show o.putName (recF x)=o' by unfold OutS.putName;rw[zBp rfl (by simp only;omega)];exact hoo);have KO:=hQd (show o.ok ((recF x).length+16)from OutS.ok_mono hro oM);obtain⟨s,hsd⟩:=eX (recF x);rw[hsd]at ET EP KO;have HSD:=hQd hsd;clear h hk he hoo hle hx hs hro hsd;go_enter Tryz.func119,Tryz.ntmps119
  go_wp2_with (first
   |(go_at_call 70;refine(zOt x v HE.out HL.out HK.out H.out).mono ?_;rintro e wn ⟨rfl,h⟩;replace H:=hQd h;have HA:=hQd (h.p1.allocOut);clear h;obtain⟨c0,c1,c2,c3,c4,c5,c6,f0,f1,f2,f3,f4,f5,f6⟩:=raw7 (b:=w.heap.size) HA.out.p1)
   |(go_at_call 146;refine(zJt _ x v HX.out HE.out HS.out HK.out HA.out).mono ?_;rw[HSD.out];rintro e wn ⟨rfl,h⟩;replace H:=hQd h;clear h)
   |(go_at_call 50;refine(zJi _ _ H.out).mono ?_;rw[ET.out];rintro e wn ⟨rfl,h⟩;replace H:=hQd h.p2;clear h)
   |(go_at_call 147;refine(zGb _ _ s H.out KO.out).mono ?_;rw[EP.out];rintro e wn ⟨rfl,h⟩;replace H:=hQd h;clear h))
  go_end0;exact⟨rfl,H.out.p2.drop.p1.drop⟩
 ·rw[if_neg he]at hoo;obtain⟨e,hee⟩:=eX (zA8 x);rw[hee]at he hoo;have hb:(e !=0)=true:=by rw[bne_iff_ne];exact he
  have HE:=hQd hee;have EF:=hQd hoo;clear h hk he hoo hx hs hro hee;go_enter Tryz.func119,Tryz.ntmps119
  go_wp2_with (first
   |(go_at_call 70;refine(zEM x v e HE.out HL.out HK.out H.out).zM ?_;clear H;intro wn H)
   |(go_at_call 145;refine(zJj _ _ _ H.out).mono ?_;rw[EF.out];rintro e wn ⟨rfl,h⟩;replace H:=hQd h;clear h))
  refine bodyPost_ret (results_none rfl _ _ _) rfl ⟨rfl,H.out.p1.drop⟩
variable {W0 w:World}{K:Know}{L:List Res}
theorem zq30{p:Prop}(h:p:=by rintro rfl;obtain⟨_,S,F,⟨S1,S2,h1,⟨S3,S4,h3,_,_,e3⟩,d1,_⟩,_⟩:=h;exact d1 a ((h1.2 a).2 rfl) ((e3 a).2 (.inl ((h3.2 a).2 rfl)))):p:=h
theorem St.raw_ne{a b:Nat}{c c':Array Value}{T T':TypeId}(h:St W0 w K (.raw a c T::.raw b c' T'::L)):¬(a=b):=by
 exact zq30
theorem St.set1{r:Res}{b j:Nat}{c:Array Value}{T:TypeId}{v:Value}(h:St W0 w K (r::.raw b c T::L)):St W0 (w.setCell ⟨b,j,none⟩ v) K (r::.raw b (c.setIfInBounds j v) T::L):=(h.p1.rawSet j v).p1
theorem zq40{p:Prop}(h:p:=by simp[results,Tryz.results212,go_sem,qc0,qc1,qc2,qc3,qc4,qc5,qc6]):p:=h
theorem zJv(p:Nat)(i i1 i2 i3 i4 i5 i6:InS)(a t o:Int)(kb vb:BlobS)(hs:List HdrS)(e0:i.int 1=(a,i1))(ha:(a !=0)=false)(e1:i1.vlong=(t,i2))(e2:i2.vint=(o,i3))(ho:¬o<0)(e4:i3.varied=(kb,i4))(e5:i4.varied=(vb,i5))(e6:i5.hdrs=(hs,i6))(h:St W0 w K (.inp p i::L)):
 Calls Jd 212 #[zAD p] w fun en w'=>∃v,en=Jb (.agg #[I O t,I O o,U kb.null,Z (bb kb.data),U vb.null,Z (bb vb.data),v])∧St W0 w' (K.and (Know.flat RHdr v 3 hs)) (.inp p i6::L):=by
 have h0:=(h.allocRaw #[I O 0,I O 0,U false,Z ⟨#[]⟩,U false,Z ⟨#[]⟩,Ja none 0 0] 54).p1;obtain⟨wA,hwA⟩:=eX w.heap.size;rw[hwA]at h0;have H:=hQd h0;have E0:=hQd e0;have E1:=hQd e1;have E2:=hQd e2;have E4:=hQd e4;have E5:=hQd e5;have E6:=hQd e6;have t0:True:=trivial;have t1:True:=trivial;have t2:True:=trivial;have t3:True:=trivial;have t4:True:=trivial;have t5:True:=trivial;have t6:True:=trivial;clear h h0 e0 e1 e2 e4 e5 e6;go_enter Tryz.func212,Tryz.ntmps212
 go_wp2_with (first
  |(go_at_call 157;have _t:=t0;clear _t;refine(zDb _ i 1 H.out).mono ?_;rw[E0.out];rintro e wn ⟨rfl,h⟩;replace H:=hQd (show St W0 wn K (.inp p i1::.raw wA #[I O 0,I O 0,U false,Z ⟨#[]⟩,U false,Z ⟨#[]⟩,Ja none 0 0] 54::L)from h);clear h t0;obtain⟨wB,hwB⟩:=eX wn.heap.size;have HB:=H.out.allocRaw #[I O 0,I O 0,U false,Z ⟨#[]⟩,U false,Z ⟨#[]⟩,Ja none 0 0] 54;rw[hwB]at HB;have HB:=hQd HB.p1)
  |(go_at_call 217;have _t:=t2;clear _t;refine(zJf _ i1 HB.out).mono ?_;rw[E1.out];rintro e wn ⟨rfl,h⟩;replace H:=hQd (show St W0 wn (K) (.inp p i2::.raw wB #[I O 0,I O 0,U false,Z ⟨#[]⟩,U false,Z ⟨#[]⟩,Ja none 0 0] 54::.raw wA #[I O 0,I O 0,U false,Z ⟨#[]⟩,U false,Z ⟨#[]⟩,Ja none 0 0] 54::L)from h);clear h t2;obtain⟨yc0,yc1,yc2,yc3,yc4,yc5,yc6,yf0,yf1,yf2,yf3,yf4,yf5,yf6⟩:=raw7 (H.out.p1))
  |(go_at_call 218;have _t:=t3;clear _t;refine(zGJ _ i2 (St.set1 H.out)).mono ?_;rw[E2.out];rintro e wn ⟨rfl,h⟩;replace H:=hQd (show St W0 wn (K) (.inp p i3::.raw wB #[I O t,I O 0,U false,Z ⟨#[]⟩,U false,Z ⟨#[]⟩,Ja none 0 0] 54::.raw wA #[I O 0,I O 0,U false,Z ⟨#[]⟩,U false,Z ⟨#[]⟩,Ja none 0 0] 54::L)from h);clear h t3;obtain⟨yc0,yc1,yc2,yc3,yc4,yc5,yc6,yf0,yf1,yf2,yf3,yf4,yf5,yf6⟩:=raw7 (H.out.p1))
  |(go_at_call 216;have _t:=t5;clear _t;refine(zA7 _ i3 (St.set1 H.out)).mono ?_;rw[E4.out];rintro e wn ⟨rfl,h⟩;replace H:=hQd (show St W0 wn (K) (.inp p i4::.raw wB #[I O t,I O o,U false,Z ⟨#[]⟩,U false,Z ⟨#[]⟩,Ja none 0 0] 54::.raw wA #[I O 0,I O 0,U false,Z ⟨#[]⟩,U false,Z ⟨#[]⟩,Ja none 0 0] 54::L)from h);clear h t5;obtain⟨yc0,yc1,yc2,yc3,yc4,yc5,yc6,yf0,yf1,yf2,yf3,yf4,yf5,yf6⟩:=raw7 (H.out.p1);unfold bv)
  |(go_at_call 216;have _t:=t6;clear _t;refine(zA7 _ i4 (St.set1 (St.set1 H.out))).mono ?_;rw[E5.out];rintro e wn ⟨rfl,h⟩;replace H:=hQd (show St W0 wn (K) (.inp p i5::.raw wB #[I O t,I O o,U kb.null,Z (bb kb.data),U false,Z ⟨#[]⟩,Ja none 0 0] 54::.raw wA #[I O 0,I O 0,U false,Z ⟨#[]⟩,U false,Z ⟨#[]⟩,Ja none 0 0] 54::L)from h);clear h t6;obtain⟨yc0,yc1,yc2,yc3,yc4,yc5,yc6,yf0,yf1,yf2,yf3,yf4,yf5,yf6⟩:=raw7 (H.out.p1);unfold bv)
  |(go_at_call 219;refine(zDo _ i5 (St.set1 (St.set1 H.out))).mono ?_;rw[E6.out];rintro e wn ⟨v,rfl,h⟩;obtain⟨q6,cap6,hv6⟩:=zAw (Know.has_right (Know.has_refl _)) h;subst hv6;replace H:=hQd (show St W0 wn (K.and (Know.flat RHdr (Ja q6 hs.length cap6) 3 hs)) (.inp p i6::.raw wB #[I O t,I O o,U kb.null,Z (bb kb.data),U vb.null,Z (bb vb.data),Ja none 0 0] 54::.raw wA #[I O 0,I O 0,U false,Z ⟨#[]⟩,U false,Z ⟨#[]⟩,Ja none 0 0] 54::L)from h);clear h;obtain⟨yc0,yc1,yc2,yc3,yc4,yc5,yc6,yf0,yf1,yf2,yf3,yf4,yf5,yf6⟩:=raw7 (H.out.p1);obtain⟨qc0,qc1,qc2,qc3,qc4,qc5,qc6,qf0,qf1,qf2,qf3,qf4,qf5,qf6⟩:=raw7 (H.out.p2);have hne1:¬(wB=wA):=H.out.drop.raw_ne;have hne2:¬(wA=wB):=(fun e=>hne1 e.symm)))
 refine bodyPost_ret (v:=.agg #[I O t,I O o,U kb.null,Z (bb kb.data),U vb.null,Z (bb vb.data),Ja q6 hs.length cap6]) zq40 rfl ⟨Ja q6 hs.length cap6,rfl,?_⟩;exact(((((((((H.out.p1.rawSet 6 (Ja q6 hs.length cap6)).p2).rawSet 0 _).rawSet 1 _).rawSet 2 _).rawSet 3 _).rawSet 4 _).rawSet 5 _).rawSet 6 _).drop.drop
theorem zJu(p:Nat)(i i1 i2 i3 j3 i4 i5 i6:InS)(a t o:Int)(kb vb:BlobS)(hs:List HdrS)(e0:i.int 1=(a,i1))(ha:(a !=0)=false)(e1:i1.vlong=(t,i2))(e2:i2.vint=(o,i3))(ho:o<0)(ej3:i3.fail 11=j3)(e4:j3.varied=(kb,i4))(e5:i4.varied=(vb,i5))(e6:i5.hdrs=(hs,i6))(h:St W0 w K (.inp p i::L)):
 Calls Jd 212 #[zAD p] w fun en w'=>∃v,en=Jb (.agg #[I O t,I O o,U kb.null,Z (bb kb.data),U vb.null,Z (bb vb.data),v])∧St W0 w' (K.and (Know.flat RHdr v 3 hs)) (.inp p i6::L):=by
 have h0:=(h.allocRaw #[I O 0,I O 0,U false,Z ⟨#[]⟩,U false,Z ⟨#[]⟩,Ja none 0 0] 54).p1;obtain⟨wA,hwA⟩:=eX w.heap.size;rw[hwA]at h0;have H:=hQd h0;have E0:=hQd e0;have E1:=hQd e1;have E2:=hQd e2;have E4:=hQd e4;have E5:=hQd e5;have E6:=hQd e6;have EJ3:=hQd ej3;have t0:True:=trivial;have t1:True:=trivial;have t2:True:=trivial;have t3:True:=trivial;have t4:True:=trivial;have t5:True:=trivial;have t6:True:=trivial;clear h h0 e0 e1 e2 e4 e5 e6 ej3;go_enter Tryz.func212,Tryz.ntmps212
 go_wp2_with (first
  |(go_at_call 157;have _t:=t0;clear _t;refine(zDb _ i 1 H.out).mono ?_;rw[E0.out];rintro e wn ⟨rfl,h⟩;replace H:=hQd (show St W0 wn K (.inp p i1::.raw wA #[I O 0,I O 0,U false,Z ⟨#[]⟩,U false,Z ⟨#[]⟩,Ja none 0 0] 54::L)from h);clear h t0;obtain⟨wB,hwB⟩:=eX wn.heap.size;have HB:=H.out.allocRaw #[I O 0,I O 0,U false,Z ⟨#[]⟩,U false,Z ⟨#[]⟩,Ja none 0 0] 54;rw[hwB]at HB;have HB:=hQd HB.p1)
  |(go_at_call 217;have _t:=t2;clear _t;refine(zJf _ i1 HB.out).mono ?_;rw[E1.out];rintro e wn ⟨rfl,h⟩;replace H:=hQd (show St W0 wn (K) (.inp p i2::.raw wB #[I O 0,I O 0,U false,Z ⟨#[]⟩,U false,Z ⟨#[]⟩,Ja none 0 0] 54::.raw wA #[I O 0,I O 0,U false,Z ⟨#[]⟩,U false,Z ⟨#[]⟩,Ja none 0 0] 54::L)from h);clear h t2;obtain⟨yc0,yc1,yc2,yc3,yc4,yc5,yc6,yf0,yf1,yf2,yf3,yf4,yf5,yf6⟩:=raw7 (H.out.p1))
  |(go_at_call 218;have _t:=t3;clear _t;refine(zGJ _ i2 (St.set1 H.out)).mono ?_;rw[E2.out];rintro e wn ⟨rfl,h⟩;replace H:=hQd (show St W0 wn (K) (.inp p i3::.raw wB #[I O t,I O 0,U false,Z ⟨#[]⟩,U false,Z ⟨#[]⟩,Ja none 0 0] 54::.raw wA #[I O 0,I O 0,U false,Z ⟨#[]⟩,U false,Z ⟨#[]⟩,Ja none 0 0] 54::L)from h);clear h t3;obtain⟨yc0,yc1,yc2,yc3,yc4,yc5,yc6,yf0,yf1,yf2,yf3,yf4,yf5,yf6⟩:=raw7 (H.out.p1))
  |(go_at_call 158;have _t:=t4;clear _t;refine(zCJ _ i3 11 (St.set1 H.out)).mono ?_;rw[EJ3.out];rintro e wn ⟨rfl,h⟩;replace H:=hQd (show St W0 wn (K) (.inp p j3::.raw wB #[I O t,I O o,U false,Z ⟨#[]⟩,U false,Z ⟨#[]⟩,Ja none 0 0] 54::.raw wA #[I O 0,I O 0,U false,Z ⟨#[]⟩,U false,Z ⟨#[]⟩,Ja none 0 0] 54::L)from h);clear h t4;obtain⟨yc0,yc1,yc2,yc3,yc4,yc5,yc6,yf0,yf1,yf2,yf3,yf4,yf5,yf6⟩:=raw7 (H.out.p1);have HX:=H)
  |(go_at_call 216;have _t:=t5;clear _t;refine(zA7 _ j3 H.out).mono ?_;rw[E4.out];rintro e wn ⟨rfl,h⟩;replace H:=hQd (show St W0 wn (K) (.inp p i4::.raw wB #[I O t,I O o,U false,Z ⟨#[]⟩,U false,Z ⟨#[]⟩,Ja none 0 0] 54::.raw wA #[I O 0,I O 0,U false,Z ⟨#[]⟩,U false,Z ⟨#[]⟩,Ja none 0 0] 54::L)from h);clear h t5;obtain⟨yc0,yc1,yc2,yc3,yc4,yc5,yc6,yf0,yf1,yf2,yf3,yf4,yf5,yf6⟩:=raw7 (H.out.p1);unfold bv)
  |(go_at_call 216;have _t:=t6;clear _t;refine(zA7 _ i4 (St.set1 (St.set1 H.out))).mono ?_;rw[E5.out];rintro e wn ⟨rfl,h⟩;replace H:=hQd (show St W0 wn (K) (.inp p i5::.raw wB #[I O t,I O o,U kb.null,Z (bb kb.data),U false,Z ⟨#[]⟩,Ja none 0 0] 54::.raw wA #[I O 0,I O 0,U false,Z ⟨#[]⟩,U false,Z ⟨#[]⟩,Ja none 0 0] 54::L)from h);clear h t6;obtain⟨yc0,yc1,yc2,yc3,yc4,yc5,yc6,yf0,yf1,yf2,yf3,yf4,yf5,yf6⟩:=raw7 (H.out.p1);unfold bv)
  |(go_at_call 219;refine(zDo _ i5 (St.set1 (St.set1 H.out))).mono ?_;rw[E6.out];rintro e wn ⟨v,rfl,h⟩;obtain⟨q6,cap6,hv6⟩:=zAw (Know.has_right (Know.has_refl _)) h;subst hv6;replace H:=hQd (show St W0 wn (K.and (Know.flat RHdr (Ja q6 hs.length cap6) 3 hs)) (.inp p i6::.raw wB #[I O t,I O o,U kb.null,Z (bb kb.data),U vb.null,Z (bb vb.data),Ja none 0 0] 54::.raw wA #[I O 0,I O 0,U false,Z ⟨#[]⟩,U false,Z ⟨#[]⟩,Ja none 0 0] 54::L)from h);clear h;obtain⟨yc0,yc1,yc2,yc3,yc4,yc5,yc6,yf0,yf1,yf2,yf3,yf4,yf5,yf6⟩:=raw7 (H.out.p1);obtain⟨qc0,qc1,qc2,qc3,qc4,qc5,qc6,qf0,qf1,qf2,qf3,qf4,qf5,qf6⟩:=raw7 (H.out.p2);have hne1:¬(wB=wA):=H.out.drop.raw_ne;have hne2:¬(wA=wB):=(fun e=>hne1 e.symm)))
 refine bodyPost_ret (v:=.agg #[I O t,I O o,U kb.null,Z (bb kb.data),U vb.null,Z (bb vb.data),Ja q6 hs.length cap6]) zq40 rfl ⟨Ja q6 hs.length cap6,rfl,?_⟩;exact(((((((((H.out.p1.rawSet 6 (Ja q6 hs.length cap6)).p2).rawSet 0 _).rawSet 1 _).rawSet 2 _).rawSet 3 _).rawSet 4 _).rawSet 5 _).rawSet 6 _).drop.drop
theorem zJx(p:Nat)(i i1 j1 i2 i3 i4 i5 i6:InS)(a t o:Int)(kb vb:BlobS)(hs:List HdrS)(e0:i.int 1=(a,i1))(ha:(a !=0)=true)(ej1:i1.fail 8=j1)(e1:j1.vlong=(t,i2))(e2:i2.vint=(o,i3))(ho:¬o<0)(e4:i3.varied=(kb,i4))(e5:i4.varied=(vb,i5))(e6:i5.hdrs=(hs,i6))(h:St W0 w K (.inp p i::L)):
 Calls Jd 212 #[zAD p] w fun en w'=>∃v,en=Jb (.agg #[I O t,I O o,U kb.null,Z (bb kb.data),U vb.null,Z (bb vb.data),v])∧St W0 w' (K.and (Know.flat RHdr v 3 hs)) (.inp p i6::L):=by
 have h0:=(h.allocRaw #[I O 0,I O 0,U false,Z ⟨#[]⟩,U false,Z ⟨#[]⟩,Ja none 0 0] 54).p1;obtain⟨wA,hwA⟩:=eX w.heap.size;rw[hwA]at h0;have H:=hQd h0;have E0:=hQd e0;have E1:=hQd e1;have E2:=hQd e2;have E4:=hQd e4;have E5:=hQd e5;have E6:=hQd e6;have EJ1:=hQd ej1;have t0:True:=trivial;have t1:True:=trivial;have t2:True:=trivial;have t3:True:=trivial;have t4:True:=trivial;have t5:True:=trivial;have t6:True:=trivial;clear h h0 e0 e1 e2 e4 e5 e6 ej1;go_enter Tryz.func212,Tryz.ntmps212
 go_wp2_with (first
  |(go_at_call 157;have _t:=t0;clear _t;refine(zDb _ i 1 H.out).mono ?_;rw[E0.out];rintro e wn ⟨rfl,h⟩;replace H:=hQd (show St W0 wn K (.inp p i1::.raw wA #[I O 0,I O 0,U false,Z ⟨#[]⟩,U false,Z ⟨#[]⟩,Ja none 0 0] 54::L)from h);clear h t0;skip)
  |(go_at_call 158;have _t:=t1;clear _t;refine(zCJ _ i1 8 H.out).mono ?_;rw[EJ1.out];rintro e wn ⟨rfl,h⟩;replace H:=hQd (show St W0 wn K (.inp p j1::.raw wA #[I O 0,I O 0,U false,Z ⟨#[]⟩,U false,Z ⟨#[]⟩,Ja none 0 0] 54::L)from h);clear h t1;obtain⟨wB,hwB⟩:=eX wn.heap.size;have HB:=H.out.allocRaw #[I O 0,I O 0,U false,Z ⟨#[]⟩,U false,Z ⟨#[]⟩,Ja none 0 0] 54;rw[hwB]at HB;have HB:=hQd HB.p1)
  |(go_at_call 217;have _t:=t2;clear _t;refine(zJf _ j1 HB.out).mono ?_;rw[E1.out];rintro e wn ⟨rfl,h⟩;replace H:=hQd (show St W0 wn (K) (.inp p i2::.raw wB #[I O 0,I O 0,U false,Z ⟨#[]⟩,U false,Z ⟨#[]⟩,Ja none 0 0] 54::.raw wA #[I O 0,I O 0,U false,Z ⟨#[]⟩,U false,Z ⟨#[]⟩,Ja none 0 0] 54::L)from h);clear h t2;obtain⟨yc0,yc1,yc2,yc3,yc4,yc5,yc6,yf0,yf1,yf2,yf3,yf4,yf5,yf6⟩:=raw7 (H.out.p1))
  |(go_at_call 218;have _t:=t3;clear _t;refine(zGJ _ i2 (St.set1 H.out)).mono ?_;rw[E2.out];rintro e wn ⟨rfl,h⟩;replace H:=hQd (show St W0 wn (K) (.inp p i3::.raw wB #[I O t,I O 0,U false,Z ⟨#[]⟩,U false,Z ⟨#[]⟩,Ja none 0 0] 54::.raw wA #[I O 0,I O 0,U false,Z ⟨#[]⟩,U false,Z ⟨#[]⟩,Ja none 0 0] 54::L)from h);clear h t3;obtain⟨yc0,yc1,yc2,yc3,yc4,yc5,yc6,yf0,yf1,yf2,yf3,yf4,yf5,yf6⟩:=raw7 (H.out.p1))
  |(go_at_call 216;have _t:=t5;clear _t;refine(zA7 _ i3 (St.set1 H.out)).mono ?_;rw[E4.out];rintro e wn ⟨rfl,h⟩;replace H:=hQd (show St W0 wn (K) (.inp p i4::.raw wB #[I O t,I O o,U false,Z ⟨#[]⟩,U false,Z ⟨#[]⟩,Ja none 0 0] 54::.raw wA #[I O 0,I O 0,U false,Z ⟨#[]⟩,U false,Z ⟨#[]⟩,Ja none 0 0] 54::L)from h);clear h t5;obtain⟨yc0,yc1,yc2,yc3,yc4,yc5,yc6,yf0,yf1,yf2,yf3,yf4,yf5,yf6⟩:=raw7 (H.out.p1);unfold bv)
  |(go_at_call 216;have _t:=t6;clear _t;refine(zA7 _ i4 (St.set1 (St.set1 H.out))).mono ?_;rw[E5.out];rintro e wn ⟨rfl,h⟩;replace H:=hQd (show St W0 wn (K) (.inp p i5::.raw wB #[I O t,I O o,U kb.null,Z (bb kb.data),U false,Z ⟨#[]⟩,Ja none 0 0] 54::.raw wA #[I O 0,I O 0,U false,Z ⟨#[]⟩,U false,Z ⟨#[]⟩,Ja none 0 0] 54::L)from h);clear h t6;obtain⟨yc0,yc1,yc2,yc3,yc4,yc5,yc6,yf0,yf1,yf2,yf3,yf4,yf5,yf6⟩:=raw7 (H.out.p1);unfold bv)
  |(go_at_call 219;refine(zDo _ i5 (St.set1 (St.set1 H.out))).mono ?_;rw[E6.out];rintro e wn ⟨v,rfl,h⟩;obtain⟨q6,cap6,hv6⟩:=zAw (Know.has_right (Know.has_refl _)) h;subst hv6;replace H:=hQd (show St W0 wn (K.and (Know.flat RHdr (Ja q6 hs.length cap6) 3 hs)) (.inp p i6::.raw wB #[I O t,I O o,U kb.null,Z (bb kb.data),U vb.null,Z (bb vb.data),Ja none 0 0] 54::.raw wA #[I O 0,I O 0,U false,Z ⟨#[]⟩,U false,Z ⟨#[]⟩,Ja none 0 0] 54::L)from h);clear h;obtain⟨yc0,yc1,yc2,yc3,yc4,yc5,yc6,yf0,yf1,yf2,yf3,yf4,yf5,yf6⟩:=raw7 (H.out.p1);obtain⟨qc0,qc1,qc2,qc3,qc4,qc5,qc6,qf0,qf1,qf2,qf3,qf4,qf5,qf6⟩:=raw7 (H.out.p2);have hne1:¬(wB=wA):=H.out.drop.raw_ne;have hne2:¬(wA=wB):=(fun e=>hne1 e.symm)))
 refine bodyPost_ret (v:=.agg #[I O t,I O o,U kb.null,Z (bb kb.data),U vb.null,Z (bb vb.data),Ja q6 hs.length cap6]) zq40 rfl ⟨Ja q6 hs.length cap6,rfl,?_⟩;exact(((((((((H.out.p1.rawSet 6 (Ja q6 hs.length cap6)).p2).rawSet 0 _).rawSet 1 _).rawSet 2 _).rawSet 3 _).rawSet 4 _).rawSet 5 _).rawSet 6 _).drop.drop
theorem zJw(p:Nat)(i i1 j1 i2 i3 j3 i4 i5 i6:InS)(a t o:Int)(kb vb:BlobS)(hs:List HdrS)(e0:i.int 1=(a,i1))(ha:(a !=0)=true)(ej1:i1.fail 8=j1)(e1:j1.vlong=(t,i2))(e2:i2.vint=(o,i3))(ho:o<0)(ej3:i3.fail 11=j3)(e4:j3.varied=(kb,i4))(e5:i4.varied=(vb,i5))(e6:i5.hdrs=(hs,i6))(h:St W0 w K (.inp p i::L)):
 Calls Jd 212 #[zAD p] w fun en w'=>∃v,en=Jb (.agg #[I O t,I O o,U kb.null,Z (bb kb.data),U vb.null,Z (bb vb.data),v])∧St W0 w' (K.and (Know.flat RHdr v 3 hs)) (.inp p i6::L):=by
 have h0:=(h.allocRaw #[I O 0,I O 0,U false,Z ⟨#[]⟩,U false,Z ⟨#[]⟩,Ja none 0 0] 54).p1;obtain⟨wA,hwA⟩:=eX w.heap.size;rw[hwA]at h0;have H:=hQd h0;have E0:=hQd e0;have E1:=hQd e1;have E2:=hQd e2;have E4:=hQd e4;have E5:=hQd e5;have E6:=hQd e6;have EJ1:=hQd ej1;have EJ3:=hQd ej3;have t0:True:=trivial;have t1:True:=trivial;have t2:True:=trivial;have t3:True:=trivial;have t4:True:=trivial;have t5:True:=trivial;have t6:True:=trivial;clear h h0 e0 e1 e2 e4 e5 e6 ej1 ej3;go_enter Tryz.func212,Tryz.ntmps212
 go_wp2_with (first
  |(go_at_call 157;have _t:=t0;clear _t;refine(zDb _ i 1 H.out).mono ?_;rw[E0.out];rintro e wn ⟨rfl,h⟩;replace H:=hQd (show St W0 wn K (.inp p i1::.raw wA #[I O 0,I O 0,U false,Z ⟨#[]⟩,U false,Z ⟨#[]⟩,Ja none 0 0] 54::L)from h);clear h t0;skip)
  |(go_at_call 158;have _t:=t1;clear _t;refine(zCJ _ i1 8 H.out).mono ?_;rw[EJ1.out];rintro e wn ⟨rfl,h⟩;replace H:=hQd (show St W0 wn K (.inp p j1::.raw wA #[I O 0,I O 0,U false,Z ⟨#[]⟩,U false,Z ⟨#[]⟩,Ja none 0 0] 54::L)from h);clear h t1;obtain⟨wB,hwB⟩:=eX wn.heap.size;have HB:=H.out.allocRaw #[I O 0,I O 0,U false,Z ⟨#[]⟩,U false,Z ⟨#[]⟩,Ja none 0 0] 54;rw[hwB]at HB;have HB:=hQd HB.p1)
  |(go_at_call 217;have _t:=t2;clear _t;refine(zJf _ j1 HB.out).mono ?_;rw[E1.out];rintro e wn ⟨rfl,h⟩;replace H:=hQd (show St W0 wn (K) (.inp p i2::.raw wB #[I O 0,I O 0,U false,Z ⟨#[]⟩,U false,Z ⟨#[]⟩,Ja none 0 0] 54::.raw wA #[I O 0,I O 0,U false,Z ⟨#[]⟩,U false,Z ⟨#[]⟩,Ja none 0 0] 54::L)from h);clear h t2;obtain⟨yc0,yc1,yc2,yc3,yc4,yc5,yc6,yf0,yf1,yf2,yf3,yf4,yf5,yf6⟩:=raw7 (H.out.p1))
  |(go_at_call 218;have _t:=t3;clear _t;refine(zGJ _ i2 (St.set1 H.out)).mono ?_;rw[E2.out];rintro e wn ⟨rfl,h⟩;replace H:=hQd (show St W0 wn (K) (.inp p i3::.raw wB #[I O t,I O 0,U false,Z ⟨#[]⟩,U false,Z ⟨#[]⟩,Ja none 0 0] 54::.raw wA #[I O 0,I O 0,U false,Z ⟨#[]⟩,U false,Z ⟨#[]⟩,Ja none 0 0] 54::L)from h);clear h t3;obtain⟨yc0,yc1,yc2,yc3,yc4,yc5,yc6,yf0,yf1,yf2,yf3,yf4,yf5,yf6⟩:=raw7 (H.out.p1))
  |(go_at_call 158;have _t:=t4;clear _t;refine(zCJ _ i3 11 (St.set1 H.out)).mono ?_;rw[EJ3.out];rintro e wn ⟨rfl,h⟩;replace H:=hQd (show St W0 wn (K) (.inp p j3::.raw wB #[I O t,I O o,U false,Z ⟨#[]⟩,U false,Z ⟨#[]⟩,Ja none 0 0] 54::.raw wA #[I O 0,I O 0,U false,Z ⟨#[]⟩,U false,Z ⟨#[]⟩,Ja none 0 0] 54::L)from h);clear h t4;obtain⟨yc0,yc1,yc2,yc3,yc4,yc5,yc6,yf0,yf1,yf2,yf3,yf4,yf5,yf6⟩:=raw7 (H.out.p1);have HX:=H)
  |(go_at_call 216;have _t:=t5;clear _t;refine(zA7 _ j3 H.out).mono ?_;rw[E4.out];rintro e wn ⟨rfl,h⟩;replace H:=hQd (show St W0 wn (K) (.inp p i4::.raw wB #[I O t,I O o,U false,Z ⟨#[]⟩,U false,Z ⟨#[]⟩,Ja none 0 0] 54::.raw wA #[I O 0,I O 0,U false,Z ⟨#[]⟩,U false,Z ⟨#[]⟩,Ja none 0 0] 54::L)from h);clear h t5;obtain⟨yc0,yc1,yc2,yc3,yc4,yc5,yc6,yf0,yf1,yf2,yf3,yf4,yf5,yf6⟩:=raw7 (H.out.p1);unfold bv)
  |(go_at_call 216;have _t:=t6;clear _t;refine(zA7 _ i4 (St.set1 (St.set1 H.out))).mono ?_;rw[E5.out];rintro e wn ⟨rfl,h⟩;replace H:=hQd (show St W0 wn (K) (.inp p i5::.raw wB #[I O t,I O o,U kb.null,Z (bb kb.data),U false,Z ⟨#[]⟩,Ja none 0 0] 54::.raw wA #[I O 0,I O 0,U false,Z ⟨#[]⟩,U false,Z ⟨#[]⟩,Ja none 0 0] 54::L)from h);clear h t6;obtain⟨yc0,yc1,yc2,yc3,yc4,yc5,yc6,yf0,yf1,yf2,yf3,yf4,yf5,yf6⟩:=raw7 (H.out.p1);unfold bv)
  |(go_at_call 219;refine(zDo _ i5 (St.set1 (St.set1 H.out))).mono ?_;rw[E6.out];rintro e wn ⟨v,rfl,h⟩;obtain⟨q6,cap6,hv6⟩:=zAw (Know.has_right (Know.has_refl _)) h;subst hv6;replace H:=hQd (show St W0 wn (K.and (Know.flat RHdr (Ja q6 hs.length cap6) 3 hs)) (.inp p i6::.raw wB #[I O t,I O o,U kb.null,Z (bb kb.data),U vb.null,Z (bb vb.data),Ja none 0 0] 54::.raw wA #[I O 0,I O 0,U false,Z ⟨#[]⟩,U false,Z ⟨#[]⟩,Ja none 0 0] 54::L)from h);clear h;obtain⟨yc0,yc1,yc2,yc3,yc4,yc5,yc6,yf0,yf1,yf2,yf3,yf4,yf5,yf6⟩:=raw7 (H.out.p1);obtain⟨qc0,qc1,qc2,qc3,qc4,qc5,qc6,qf0,qf1,qf2,qf3,qf4,qf5,qf6⟩:=raw7 (H.out.p2);have hne1:¬(wB=wA):=H.out.drop.raw_ne;have hne2:¬(wA=wB):=(fun e=>hne1 e.symm)))
 refine bodyPost_ret (v:=.agg #[I O t,I O o,U kb.null,Z (bb kb.data),U vb.null,Z (bb vb.data),Ja q6 hs.length cap6]) zq40 rfl ⟨Ja q6 hs.length cap6,rfl,?_⟩;exact(((((((((H.out.p1.rawSet 6 (Ja q6 hs.length cap6)).p2).rawSet 0 _).rawSet 1 _).rawSet 2 _).rawSet 3 _).rawSet 4 _).rawSet 5 _).rawSet 6 _).drop.drop
theorem zFw(p:Nat)(i:InS)(h:St W0 w K (.inp p i::L)):
 Calls Jd 212 #[zAD p] w fun en w'=>∃v,en=Jb (.agg #[I O i.recFields.1.time,I O i.recFields.1.off,U i.recFields.1.key.null,Z (bb i.recFields.1.key.data),U i.recFields.1.val.null,Z (bb i.recFields.1.val.data),v])∧St W0 w' (K.and (Know.flat RHdr v 3 i.recFields.1.hdrs)) (.inp p i.recFields.2::L):=by
 obtain⟨⟨a,i1⟩,e0⟩:∃z,i.int 1=z:=⟨_,rfl⟩;unfold InS.recFields;rw[e0];simp only
 by_cases ha:a=0
 ·rw[if_pos ha];unfold InS.recTime InS.recOff
  by_cases ho:i1.vlong.2.vint.1<0
  ·rw[if_pos ho];exact zJu p i _ _ _ _ _ _ _ a _ _ _ _ _ e0 (by rw[ha];rfl) rfl rfl ho rfl rfl rfl rfl h
  ·rw[if_neg ho];exact zJv p i _ _ _ _ _ _ a _ _ _ _ _ e0 (by rw[ha];rfl) rfl rfl ho rfl rfl rfl h
 ·rw[if_neg ha];unfold InS.recTime InS.recOff
  by_cases ho:(i1.fail 8).vlong.2.vint.1<0
  ·rw[if_pos ho];exact zJw p i _ _ _ _ _ _ _ _ a _ _ _ _ _ e0 (bne_iff_ne.2 ha) rfl rfl rfl ho rfl rfl rfl rfl h
  ·rw[if_neg ho];exact zJx p i _ _ _ _ _ _ _ a _ _ _ _ _ e0 (bne_iff_ne.2 ha) rfl rfl rfl ho rfl rfl rfl h
variable {W0 w:World}{K:Know}{L:List Res}
theorem zq46{p:Prop}(h:p:=by simp[results,Tryz.results207,go_sem,ac0,ac1,ac2,ac3,ac4,ac5,ac6]):p:=h
theorem zMi(p:Nat)(i i1 k c:InS)(nm:Bs)(x:RecS)(hn:i.name=(nm,i1))(hx:(⟨nm,0,0⟩:InS).recFields=(x,k))(hc:k.close=c)(hl:nm.length≤140737488355328)(he:c.err=0)(hj:i1.err=0)(h:St W0 w K (.inp p i::L)):
 Calls Jd 207 #[zAD p] w fun en w'=>∃v,en=Jb (.agg #[I O x.time,I O x.off,U x.key.null,Z (bb x.key.data),U x.val.null,Z (bb x.val.data),v])∧St W0 w' (K.and (Know.flat RHdr v 3 x.hdrs)) (.inp p i1::L):=by
 have h0:=(h.allocRaw #[I O 0,I O 0,U false,Z ⟨#[]⟩,U false,Z ⟨#[]⟩,Ja none 0 0] 54).p1;obtain⟨wA,hwA⟩:=eX w.heap.size;rw[hwA]at h0;have H:=hQd h0;have EN:=hQd hn;have EX:=hQd hx;have EC:=hQd hc;have HL:=hQd hl;have HE:=hQd he;have HJ:=hQd hj
 skip
 clear h h0 hn hx hc hl he hj;go_enter Tryz.func207,Tryz.ntmps207
 go_wp2_with (first
  |(go_at_call 211;refine(zE9 _ i H.out).mono ?_;rw[EN.out];rintro e wn ⟨rfl,h⟩;replace H:=hQd h;clear h)
  |(go_at_call 156;refine(zEo nm HL.out H.out).mono ?_;rintro e wn ⟨bi,rfl,h⟩;replace H:=hQd h;clear h)
  |(go_at_call 212;refine(zFw _ _ H.out).mono ?_;rw[EX.out];rintro e wn ⟨v6,rfl,h⟩;obtain⟨q6,cap6,hv6⟩:=zAw (Know.has_right (Know.has_refl _)) h;subst hv6;obtain⟨wB,hwB⟩:=eX wn.heap.size;have h:=h.allocRaw #[I O x.time,I O x.off,U x.key.null,Z (bb x.key.data),U x.val.null,Z (bb x.val.data),Ja q6 x.hdrs.length cap6] 54;rw[hwB]at h;replace H:=hQd (show St W0 _ (K.and (Know.flat RHdr (Ja q6 x.hdrs.length cap6) 3 x.hdrs)) (.raw wB #[I O x.time,I O x.off,U x.key.null,Z (bb x.key.data),U x.val.null,Z (bb x.val.data),Ja q6 x.hdrs.length cap6] 54::.inp bi k::.inp p i1::.raw wA #[I O 0,I O 0,U false,Z ⟨#[]⟩,U false,Z ⟨#[]⟩,Ja none 0 0] 54::L)from h);clear h)
  |(go_at_call 159;refine(zGQ _ k H.out.p1).mono ?_;rw[EC.out,HE.out];rintro e wn ⟨rfl,h⟩;replace H:=hQd h.p2;clear h)
  |(go_at_call 168;refine(zH3 _ i1 H.out).mono ?_;rw[HJ.out];rintro e wn ⟨rfl,h⟩;replace H:=hQd h;clear h;(first|(obtain⟨ac0,ac1,ac2,ac3,ac4,ac5,ac6,af0,af1,af2,af3,af4,af5,af6⟩:=raw7 (b:=wA) H.out)|(obtain⟨ac0,ac1,ac2,ac3,ac4,ac5,ac6,af0,af1,af2,af3,af4,af5,af6⟩:=raw7 (b:=wA) H.out.p1)|(obtain⟨ac0,ac1,ac2,ac3,ac4,ac5,ac6,af0,af1,af2,af3,af4,af5,af6⟩:=raw7 (b:=wA) H.out.p2)|(obtain⟨ac0,ac1,ac2,ac3,ac4,ac5,ac6,af0,af1,af2,af3,af4,af5,af6⟩:=raw7 (b:=wA) H.out.p3));(first|(obtain⟨bc0,bc1,bc2,bc3,bc4,bc5,bc6,bf0,bf1,bf2,bf3,bf4,bf5,bf6⟩:=raw7 (b:=wB) H.out)|(obtain⟨bc0,bc1,bc2,bc3,bc4,bc5,bc6,bf0,bf1,bf2,bf3,bf4,bf5,bf6⟩:=raw7 (b:=wB) H.out.p1)|(obtain⟨bc0,bc1,bc2,bc3,bc4,bc5,bc6,bf0,bf1,bf2,bf3,bf4,bf5,bf6⟩:=raw7 (b:=wB) H.out.p2)|(obtain⟨bc0,bc1,bc2,bc3,bc4,bc5,bc6,bf0,bf1,bf2,bf3,bf4,bf5,bf6⟩:=raw7 (b:=wB) H.out.p3))))
 refine bodyPost_ret (v:=.agg #[I O x.time,I O x.off,U x.key.null,Z (bb x.key.data),U x.val.null,Z (bb x.val.data),Ja q6 x.hdrs.length cap6]) zq46 rfl ⟨Ja q6 x.hdrs.length cap6,rfl,?_⟩;exact((((((((H.out.p3).rawSet 0 _).rawSet 1 _).rawSet 2 _).rawSet 3 _).rawSet 4 _).rawSet 5 _).rawSet 6 _).drop.p1.drop.p1.drop
theorem zKK(p:Nat)(i i1 k c:InS)(nm:Bs)(x:RecS)(hn:i.name=(nm,i1))(hx:(⟨nm,0,0⟩:InS).recFields=(x,k))(hc:k.close=c)(hl:nm.length≤140737488355328)(he:c.err=0)(f:Int)(hj:i1.err=f)(hf:(f !=0)=true)(h:St W0 w K (.inp p i::L)):
 Calls Jd 207 #[zAD p] w fun en w'=>en=Jb (.agg #[I O 0,I O 0,U false,Z ⟨#[]⟩,U false,Z ⟨#[]⟩,Ja none 0 0])∧St W0 w' K (.inp p i1::L):=by
 have h0:=(h.allocRaw #[I O 0,I O 0,U false,Z ⟨#[]⟩,U false,Z ⟨#[]⟩,Ja none 0 0] 54).p1;obtain⟨wA,hwA⟩:=eX w.heap.size;rw[hwA]at h0;have H:=hQd h0;have EN:=hQd hn;have EX:=hQd hx;have EC:=hQd hc;have HL:=hQd hl;have HE:=hQd he;have HJ:=hQd hj
 skip
 clear h h0 hn hx hc hl he hj;go_enter Tryz.func207,Tryz.ntmps207
 go_wp2_with (first
  |(go_at_call 211;refine(zE9 _ i H.out).mono ?_;rw[EN.out];rintro e wn ⟨rfl,h⟩;replace H:=hQd h;clear h)
  |(go_at_call 156;refine(zEo nm HL.out H.out).mono ?_;rintro e wn ⟨bi,rfl,h⟩;replace H:=hQd h;clear h)
  |(go_at_call 212;refine(zFw _ _ H.out).mono ?_;rw[EX.out];rintro e wn ⟨v6,rfl,h⟩;obtain⟨q6,cap6,hv6⟩:=zAw (Know.has_right (Know.has_refl _)) h;subst hv6;obtain⟨wB,hwB⟩:=eX wn.heap.size;have h:=h.allocRaw #[I O x.time,I O x.off,U x.key.null,Z (bb x.key.data),U x.val.null,Z (bb x.val.data),Ja q6 x.hdrs.length cap6] 54;rw[hwB]at h;replace H:=hQd (show St W0 _ (K.and (Know.flat RHdr (Ja q6 x.hdrs.length cap6) 3 x.hdrs)) (.raw wB #[I O x.time,I O x.off,U x.key.null,Z (bb x.key.data),U x.val.null,Z (bb x.val.data),Ja q6 x.hdrs.length cap6] 54::.inp bi k::.inp p i1::.raw wA #[I O 0,I O 0,U false,Z ⟨#[]⟩,U false,Z ⟨#[]⟩,Ja none 0 0] 54::L)from h);clear h)
  |(go_at_call 159;refine(zGQ _ k H.out.p1).mono ?_;rw[EC.out,HE.out];rintro e wn ⟨rfl,h⟩;replace H:=hQd h.p2;clear h)
  |(go_at_call 168;refine(zH3 _ i1 H.out).mono ?_;rw[HJ.out];rintro e wn ⟨rfl,h⟩;replace H:=hQd h;clear h;(first|(obtain⟨ac0,ac1,ac2,ac3,ac4,ac5,ac6,af0,af1,af2,af3,af4,af5,af6⟩:=raw7 (b:=wA) H.out)|(obtain⟨ac0,ac1,ac2,ac3,ac4,ac5,ac6,af0,af1,af2,af3,af4,af5,af6⟩:=raw7 (b:=wA) H.out.p1)|(obtain⟨ac0,ac1,ac2,ac3,ac4,ac5,ac6,af0,af1,af2,af3,af4,af5,af6⟩:=raw7 (b:=wA) H.out.p2)|(obtain⟨ac0,ac1,ac2,ac3,ac4,ac5,ac6,af0,af1,af2,af3,af4,af5,af6⟩:=raw7 (b:=wA) H.out.p3));(first|(obtain⟨bc0,bc1,bc2,bc3,bc4,bc5,bc6,bf0,bf1,bf2,bf3,bf4,bf5,bf6⟩:=raw7 (b:=wB) H.out)|(obtain⟨bc0,bc1,bc2,bc3,bc4,bc5,bc6,bf0,bf1,bf2,bf3,bf4,bf5,bf6⟩:=raw7 (b:=wB) H.out.p1)|(obtain⟨bc0,bc1,bc2,bc3,bc4,bc5,bc6,bf0,bf1,bf2,bf3,bf4,bf5,bf6⟩:=raw7 (b:=wB) H.out.p2)|(obtain⟨bc0,bc1,bc2,bc3,bc4,bc5,bc6,bf0,bf1,bf2,bf3,bf4,bf5,bf6⟩:=raw7 (b:=wB) H.out.p3))))
 refine bodyPost_ret (v:=.agg #[I O 0,I O 0,U false,Z ⟨#[]⟩,U false,Z ⟨#[]⟩,Ja none 0 0]) zq46 rfl ⟨rfl,?_⟩;exact(((((((((H.out.p3).rawSet 0 _).rawSet 1 _).rawSet 2 _).rawSet 3 _).rawSet 4 _).rawSet 5 _).rawSet 6 _).drop.p1.drop.p1.drop).know (Know.has_left (Know.has_refl _))
theorem zIa(p:Nat)(i i1 k c:InS)(nm:Bs)(x:RecS)(hn:i.name=(nm,i1))(hx:(⟨nm,0,0⟩:InS).recFields=(x,k))(hc:k.close=c)(hl:nm.length≤140737488355328)(e:Int)(he:c.err=e)(hen:(e !=0)=true)(j:InS)(hjj:i1.fail e=j)(f:Int)(hj:j.err=f)(hf:(f !=0)=true)(h:St W0 w K (.inp p i::L)):
 Calls Jd 207 #[zAD p] w fun en w'=>en=Jb (.agg #[I O 0,I O 0,U false,Z ⟨#[]⟩,U false,Z ⟨#[]⟩,Ja none 0 0])∧St W0 w' K (.inp p j::L):=by
 have h0:=(h.allocRaw #[I O 0,I O 0,U false,Z ⟨#[]⟩,U false,Z ⟨#[]⟩,Ja none 0 0] 54).p1;obtain⟨wA,hwA⟩:=eX w.heap.size;rw[hwA]at h0;have H:=hQd h0;have EN:=hQd hn;have EX:=hQd hx;have EC:=hQd hc;have HL:=hQd hl;have HE:=hQd he;have HJ:=hQd hj;have EJ:=hQd hjj;clear h h0 hn hx hc hl he hj hjj;go_enter Tryz.func207,Tryz.ntmps207
 go_wp2_with (first
  |(go_at_call 211;refine(zE9 _ i H.out).mono ?_;rw[EN.out];rintro e wn ⟨rfl,h⟩;replace H:=hQd h;clear h)
  |(go_at_call 156;refine(zEo nm HL.out H.out).mono ?_;rintro e wn ⟨bi,rfl,h⟩;replace H:=hQd h;clear h)
  |(go_at_call 212;refine(zFw _ _ H.out).mono ?_;rw[EX.out];rintro e wn ⟨v6,rfl,h⟩;obtain⟨q6,cap6,hv6⟩:=zAw (Know.has_right (Know.has_refl _)) h;subst hv6;obtain⟨wB,hwB⟩:=eX wn.heap.size;have h:=h.allocRaw #[I O x.time,I O x.off,U x.key.null,Z (bb x.key.data),U x.val.null,Z (bb x.val.data),Ja q6 x.hdrs.length cap6] 54;rw[hwB]at h;replace H:=hQd (show St W0 _ (K.and (Know.flat RHdr (Ja q6 x.hdrs.length cap6) 3 x.hdrs)) (.raw wB #[I O x.time,I O x.off,U x.key.null,Z (bb x.key.data),U x.val.null,Z (bb x.val.data),Ja q6 x.hdrs.length cap6] 54::.inp bi k::.inp p i1::.raw wA #[I O 0,I O 0,U false,Z ⟨#[]⟩,U false,Z ⟨#[]⟩,Ja none 0 0] 54::L)from h);clear h)
  |(go_at_call 159;refine(zGQ _ k H.out.p1).mono ?_;rw[EC.out,HE.out];rintro e wn ⟨rfl,h⟩;replace H:=hQd h.p2;clear h)
  |(go_at_call 158;refine(zCJ _ i1 _ H.out).mono ?_;rw[EJ.out];rintro e wn ⟨rfl,h⟩;replace H:=hQd h;clear h)
  |(go_at_call 168;refine(zH3 _ j H.out).mono ?_;rw[HJ.out];rintro e wn ⟨rfl,h⟩;replace H:=hQd h;clear h;(first|(obtain⟨ac0,ac1,ac2,ac3,ac4,ac5,ac6,af0,af1,af2,af3,af4,af5,af6⟩:=raw7 (b:=wA) H.out)|(obtain⟨ac0,ac1,ac2,ac3,ac4,ac5,ac6,af0,af1,af2,af3,af4,af5,af6⟩:=raw7 (b:=wA) H.out.p1)|(obtain⟨ac0,ac1,ac2,ac3,ac4,ac5,ac6,af0,af1,af2,af3,af4,af5,af6⟩:=raw7 (b:=wA) H.out.p2)|(obtain⟨ac0,ac1,ac2,ac3,ac4,ac5,ac6,af0,af1,af2,af3,af4,af5,af6⟩:=raw7 (b:=wA) H.out.p3));(first|(obtain⟨bc0,bc1,bc2,bc3,bc4,bc5,bc6,bf0,bf1,bf2,bf3,bf4,bf5,bf6⟩:=raw7 (b:=wB) H.out)|(obtain⟨bc0,bc1,bc2,bc3,bc4,bc5,bc6,bf0,bf1,bf2,bf3,bf4,bf5,bf6⟩:=raw7 (b:=wB) H.out.p1)|(obtain⟨bc0,bc1,bc2,bc3,bc4,bc5,bc6,bf0,bf1,bf2,bf3,bf4,bf5,bf6⟩:=raw7 (b:=wB) H.out.p2)|(obtain⟨bc0,bc1,bc2,bc3,bc4,bc5,bc6,bf0,bf1,bf2,bf3,bf4,bf5,bf6⟩:=raw7 (b:=wB) H.out.p3))))
 refine bodyPost_ret (v:=.agg #[I O 0,I O 0,U false,Z ⟨#[]⟩,U false,Z ⟨#[]⟩,Ja none 0 0]) zq46 rfl ⟨rfl,?_⟩;exact(((((((((H.out.p3).rawSet 0 _).rawSet 1 _).rawSet 2 _).rawSet 3 _).rawSet 4 _).rawSet 5 _).rawSet 6 _).drop.p1.drop.p1.drop).know (Know.has_left (Know.has_refl _))
theorem zSk(i:InS)(h:i.ok):i.name.1.length≤i.s.length:=by
 by_cases he:i.err=0
 ·obtain⟨s,pos,err⟩:=i;simp only at he;subst he;have hp:pos≤s.length:=h.1
  show(InS.varied ⟨s,pos,0⟩).1.data.length≤s.length
  cases hv:zAf (s.drop pos)with
  |ok b=>
   obtain⟨g1,g2⟩:=zAy.ok s pos b.1 b.2 hp hv;obtain⟨_,_,_,_,_,o⟩:=zAH hv;rw[g2];simp only
   split at o<;>omega
  |error e=>
   obtain⟨_,q,_,g⟩:=zAy.err s pos e hp hv;rw[g]
   simp
 ·rw[zFE he];simp
theorem zR1(p:Nat)(i:InS)(h:St W0 w K (.inp p i::L)):
 Calls Jd 207 #[zAD p] w fun en w'=>∃v,en=Jb (.agg #[I O i.record.1.time,I O i.record.1.off,U i.record.1.key.null,Z (bb i.record.1.key.data),U i.record.1.val.null,Z (bb i.record.1.val.data),v])∧St W0 w' (K.and (Know.flat RHdr v 3 i.record.1.hdrs)) (.inp p i.record.2::L):=by
 have hok:=h.inpGet.2;have hnl:=zSk i hok;have hsl:=hok.2;obtain⟨⟨nm,i1⟩,hn⟩:∃z,i.name=z:=⟨_,rfl⟩;rw[hn]at hnl;simp only at hnl;obtain⟨⟨x,k⟩,hx⟩:∃z,(⟨nm,0,0⟩:InS).recFields=z:=⟨_,rfl⟩;have hz:∀(K':Know),K'.has (K'.and (Know.flat RHdr (Ja none 0 0) 3 [])):=fun K'=>zJL _ _ _
 unfold InS.record InS.recJ recD;rw[hn];simp only;rw[hx];simp only
 by_cases he:k.close.err=0
 ·rw[if_pos he]
  by_cases hj:i1.err=0
  ·rw[if_pos hj];exact zMi p i i1 k _ nm x hn hx rfl oM he hj h
  ·rw[if_neg hj];exact(zKK p i i1 k _ nm x hn hx rfl oM he _ rfl (bne_iff_ne.2 hj) h).mono fun en w' hh=>⟨_,hh.1,hh.2.know (hz K)⟩
 ·rw[if_neg he];have hj:(i1.fail k.close.err).err≠0:=by unfold InS.fail;split;exact he;assumption
  rw[if_neg hj];exact(zIa p i i1 k _ nm x hn hx rfl oM _ rfl (bne_iff_ne.2 he) _ rfl _ rfl (bne_iff_ne.2 hj) h).mono fun en w' hh=>⟨_,hh.1,hh.2.know (hz K)⟩
def Fit (n:Nat):Prop:=n≤140737488351232
def HFit (l:List HdrS):Prop:=∀x∈l,x.key.length≤140737488351232∧x.val.data.length≤140737488351232
def smallN (l:List HdrS):Int:=if hsum l≤1000 then 1 else 0
variable {W0 w:World}{K:Know}{L:List Res}
theorem zG8(p:Nat)(i:InS)(x:RecS)(k:InS)(hx:i.record=(x,k))(h:St W0 w K (.inp p i::L)):
 Calls Jd 207 #[zAD p] w fun en w'=>∃v,en=Jb (.agg #[I O x.time,I O x.off,U x.key.null,Z (bb x.key.data),U x.val.null,Z (bb x.val.data),v])∧St W0 w' (K.and (Know.flat RHdr v 3 x.hdrs)) (.inp p k::L):=by
 have h1:=zR1 p i h;rw[hx]at h1;exact h1
theorem zKF(n:Bool)(d:Bs)(r:Bool)(hr:(⟨n,d⟩:BlobS).right=r)(h:St W0 w K L):
 Calls Jd 54 #[.agg #[U n,Z (bb d)]] w fun en w'=>en=Jb (U (!r))∧St W0 w' K L:=by
 have hr:(n && !d.isEmpty)= !r:=by
  unfold BlobS.right at hr
  cases n<;>cases r<;>cases d<;>simp_all
 have H:=hQd (h.alloc (.cells #[U n,Z (bb d)] 51));clear h
 cases n<;>cases d
 all_goals
  have HR:=hQd hr;clear hr;go_enter Tryz.func54,Tryz.ntmps54;go_wp2;go_ret;exact⟨zBD HR.out,H.out⟩
def badR (a b c:Bool):Int:=if a && b && c then 0 else 4
theorem zGX(x:RecS)(v:Value)(e:Int)(he:zA8 x=e)(hl:x.hdrs.length≤9223372036854775807)(hk:K.has (Know.flat RHdr v 3 x.hdrs))(h:St W0 w K L):
 Calls Jd 25 #[.agg #[I O x.time,I O x.off,U x.key.null,Z (bb x.key.data),U x.val.null,Z (bb x.val.data),v]] w fun en w'=>en=Jb (I O e)∧St W0 w' K L:=by
 obtain⟨wA,hwA⟩:=eX w.heap.size;have h0:=h.allocRaw #[I O x.time,I O x.off,U x.key.null,Z (bb x.key.data),U x.val.null,Z (bb x.val.data),v] 54;rw[hwA]at h0;have H:=hQd h0;have HK:=hQd hk;have HL:=hQd hl;clear h hk hl h0;unfold zA8 at he
 by_cases h1:x.off<0
 ·rw[if_pos (.inl h1)]at he;subst he;go_enter Tryz.func25,Tryz.ntmps25;go_wp2;go_ret;exact⟨rfl,H.out.drop⟩
 by_cases h2:2147483647<x.off
 ·rw[if_pos (.inr h2)]at he;subst he;go_enter Tryz.func25,Tryz.ntmps25;go_wp2;go_ret;exact⟨rfl,H.out.drop⟩
 rw[if_neg oM]at he;have he:badR x.key.right x.val.right (zBQ x.hdrs)=e:=he;obtain⟨r1,hr1⟩:=eX x.key.right;obtain⟨r2,hr2⟩:=eX x.val.right;obtain⟨r3,hr3⟩:=eX (zBQ x.hdrs);rw[hr1,hr2,hr3]at he;have E1:=hQd hr1;have E2:=hQd hr2;have E3:=hQd hr3;clear hr1 hr2 hr3;have t1:True:=trivial;have t2:True:=trivial;obtain⟨ac0,ac1,ac2,ac3,ac4,ac5,ac6,af0,af1,af2,af3,af4,af5,af6⟩:=raw7 (b:=wA) H.out
 cases r1<;>cases r2<;>cases r3
 all_goals
  subst he;go_enter Tryz.func25,Tryz.ntmps25
  go_wp2_with (first
   |(go_at_call 54;have _t:=t1;clear _t;refine(zKF _ _ _ E1.out H.out).mono ?_;rintro e wn ⟨rfl,h⟩;replace H:=hQd h;clear h t1;(first|(obtain⟨ac0,ac1,ac2,ac3,ac4,ac5,ac6,af0,af1,af2,af3,af4,af5,af6⟩:=raw7 (b:=wA) H.out)|(obtain⟨ac0,ac1,ac2,ac3,ac4,ac5,ac6,af0,af1,af2,af3,af4,af5,af6⟩:=raw7 (b:=wA) H.out.p1)|(obtain⟨ac0,ac1,ac2,ac3,ac4,ac5,ac6,af0,af1,af2,af3,af4,af5,af6⟩:=raw7 (b:=wA) H.out.p2)|(obtain⟨ac0,ac1,ac2,ac3,ac4,ac5,ac6,af0,af1,af2,af3,af4,af5,af6⟩:=raw7 (b:=wA) H.out.p3)))
   |(go_at_call 54;have _t:=t2;clear _t;refine(zKF _ _ _ E2.out H.out).mono ?_;rintro e wn ⟨rfl,h⟩;replace H:=hQd h;clear h t2;(first|(obtain⟨ac0,ac1,ac2,ac3,ac4,ac5,ac6,af0,af1,af2,af3,af4,af5,af6⟩:=raw7 (b:=wA) H.out)|(obtain⟨ac0,ac1,ac2,ac3,ac4,ac5,ac6,af0,af1,af2,af3,af4,af5,af6⟩:=raw7 (b:=wA) H.out.p1)|(obtain⟨ac0,ac1,ac2,ac3,ac4,ac5,ac6,af0,af1,af2,af3,af4,af5,af6⟩:=raw7 (b:=wA) H.out.p2)|(obtain⟨ac0,ac1,ac2,ac3,ac4,ac5,ac6,af0,af1,af2,af3,af4,af5,af6⟩:=raw7 (b:=wA) H.out.p3)))
   |(go_at_call 55;refine(zMf v x.hdrs HL.out HK.out H.out).mono ?_;rw[E3.out];rintro e wn ⟨rfl,h⟩;replace H:=hQd h;clear h))
  go_ret;exact⟨rfl,H.out.drop⟩
def smallR (x:RecS):Int:=if 500<x.key.data.length∨500<x.val.data.length then 0 else smallN x.hdrs
theorem zGw{l a r:Bs}{n:Nat}(h:l.drop n=a++r):l.drop (n+a.length)=r:=by rw[←List.drop_drop,h,List.drop_left]
theorem zKO(x:RecS)(hx:x.R)(ho:zA8 x=0)(hs:x.sum≤1000000):zAG (recF x)=.ok x:=by
 obtain⟨ho,hr⟩:=zIB ho;unfold RecS.allRight at hr;rw[Bool.and_eq_true,Bool.and_eq_true]at hr;unfold RecS.sum at hs;have d1:(recF x).drop 1=encI x.time++(encI x.off++(encV x.key++(encV x.val++zDq x.hdrs))):=rfl;have d2:=zGw d1;have d3:=zGw d2;have d4:=zGw d3;have d5:=zGw d4
 have h0:zAS 1 (recF x)=.ok (0,1):=by
  unfold zAS;rw[if_neg (by unfold recF;simp)]
  rfl
 have h1:zCO ((recF x).drop 1)=.ok (x.time,(encI x.time).length):=by rw[d1];exact zPg _ hx.1.1 hx.1.2 _
 have h2:zBw ((recF x).drop (1+(encI x.time).length))=.ok (x.off,(encI x.off).length):=by rw[d2];exact zGE _ oM oM _
 have h3:=zBS x.key hr.1.1 oM (encV x.val++zDq x.hdrs);have h4:=zBS x.val hr.1.2 oM (zDq x.hdrs);have h5':=zMm x.hdrs [] hr.2 oM;rw[List.append_nil]at h5';have h5:zAJ ((recF x).drop (1+(encI x.time).length+(encI x.off).length+(encV x.key).length+(encV x.val).length))=.ok (x.hdrs,(zDq x.hdrs).length):=by rw[d5];exact h5'
 rw[←d3]at h3;rw[←d4]at h4
 have hl:1+(encI x.time).length+(encI x.off).length+(encV x.key).length+(encV x.val).length+(zDq x.hdrs).length=(recF x).length:=by
  unfold recF;simp only[Je,Jg,Jl]
  omega
 unfold zAG;rw[h0];simp only[if_true];rw[h1];simp only;rw[h2];simp only;rw[if_neg oM,h3];simp only;rw[h4];simp only;rw[h5];simp only;rw[if_pos hl]
def Know.all {α:Type}(l:List α) (k:α→Know):Know:=⟨fun w F=>∀x∈l,(k x).p w F,fun w w' F h hs hk x hx=>(k x).keep w w' F (h x hx) hs hk,fun w F F' h hs x hx=>(k x).mono w F F' (h x hx) hs⟩
def RRec (cs:List Value) (x:RecS×Value):Prop:=cs=[I O x.1.time,I O x.1.off,U x.1.key.null,Z (bb x.1.key.data),U x.1.val.null,Z (bb x.1.val.data),x.2]
def zBm (x:RecS×Value):List Value:=[I O x.1.time,I O x.1.off,U x.1.key.null,Z (bb x.1.key.data),U x.1.val.null,Z (bb x.1.val.data),x.2]
def Know.recs (v:Value) (l:List (RecS×Value)):Know:=(Know.flat RRec v 7 l).and (Know.all l fun x=>Know.flat RHdr x.2 3 x.1.hdrs)
theorem zG7{K:Know}{v:Value}{l:List (RecS×Value)}(h:K.has (Know.recs v l)):K.has (Know.flat RRec v 7 l):=fun w F x=>(h w F x).1
theorem zAX{K:Know}{v:Value}{l:List (RecS×Value)}(h:K.has (Know.recs v l)){x:RecS×Value}(hx:x∈l):K.has (Know.flat RHdr x.2 3 x.1.hdrs):=fun w F y=>(h w F y).2 x hx
theorem zC0{v:Value}{l:List (RecS×Value)}(hk:K.has (Know.recs v l))(h:St W0 w K L):∃q cap,v=Ja q l.length cap:=by
 obtain⟨F,hF,_⟩:=h.get;obtain⟨q,cap,hv,_⟩:=(zG7 hk _ _ hF).at;exact⟨q,cap,hv⟩
theorem zBH{q:Option Addr}{n cap:Nat}{l:List (RecS×Value)}(hk:K.has (Know.recs (Ja q n cap) l))(h:St W0 w K L)(h0:0<l.length):∃b off,q=some ⟨b,off,none⟩:=by
 obtain⟨F,hF,_⟩:=h.get;obtain⟨q2,cap2,hv,hr⟩:=(zG7 hk _ _ hF).at;obtain⟨b,off,hq,_⟩:=hr h0;simp at hv;exact⟨b,off,hv.1.trans hq⟩
theorem zAQ{b off n cap:Nat}{l:List (RecS×Value)}(hk:K.has (Know.recs (Ja (some ⟨b,off,none⟩) n cap) l))(h:St W0 w K L)(i:Nat)(hi:i<l.length)(x:RecS×Value)(hx:l[i]=x):
 w.cell? ⟨b,off+(i*7),none⟩=some (I O x.1.time)∧w.cell? ⟨b,off+(i*7+1),none⟩=some (I O x.1.off)∧w.cell? ⟨b,off+(i*7+2),none⟩=some (U x.1.key.null)∧w.cell? ⟨b,off+(i*7+3),none⟩=some (Z (bb x.1.key.data))∧w.cell? ⟨b,off+(i*7+4),none⟩=some (U x.1.val.null)∧w.cell? ⟨b,off+(i*7+5),none⟩=some (Z (bb x.1.val.data))∧w.cell? ⟨b,off+(i*7+6),none⟩=some (x.2):=by
 subst hx;obtain⟨F,hF,_⟩:=h.get;obtain⟨q2,cap2,hv,hr⟩:=(zG7 hk _ _ hF).at;obtain⟨b2,off2,hq,hc⟩:=hr oM;rw[hq]at hv;simp at hv;obtain⟨⟨rfl,rfl⟩,_,_⟩:=hv;obtain⟨cs,_,hR,hcs⟩:=hc i hi;unfold RRec at hR;subst hR;exact⟨hcs 0 _ rfl,hcs 1 _ rfl,hcs 2 _ rfl,hcs 3 _ rfl,hcs 4 _ rfl,hcs 5 _ rfl,hcs 6 _ rfl⟩
def zA5 (l:List (RecS×Value)):Bs:=l.flatMap fun x=>encR x.1
theorem zMI(l:List (RecS×Value))(x:RecS×Value):zA5 (l++[x])=zA5 l++encR x.1:=by unfold zA5;simp
theorem zHQ(l:List (RecS×Value))(k:Nat)(h:k<l.length):zA5 (l.take (k+1))=zA5 (l.take k)++encR l[k].1:=by rw[List.take_succ_eq_append_getElem h,zMI]
theorem zOu(x:RecS)(hx:x.R)(ho:zA8 x=0)(hs:x.sum≤1000000)(r:Bs):zCQ (encR x++r)=.ok (x,(encR x).length):=by
 have hle:=zFy x hx hs;have h1:=zBS ⟨false,recF x⟩ rfl (by simp only;omega) r;unfold zCQ encR;rw[h1];simp only[Bool.false_eq_true,if_false];rw[zKO x hx ho hs]
def FitB (l:List (RecS×Value)):Prop:=∀x∈l,x.1.R∧HFit x.1.hdrs∧x.1.sum≤1000000
theorem zNd{x:RecS}(h:x.sum≤1000000):x.hdrs.length≤1000000:=by have:=zCS x.hdrs;unfold RecS.sum at h;omega
theorem zJg{x:RecS}(h:x.sum≤1000000):x.key.data.length≤140737488355328∧x.val.data.length≤140737488355328:=by unfold RecS.sum at h;omega
theorem zCg(l:List (RecS×Value))(k:Nat)(h:k<l.length)(x:RecS)(hx:l[k].1=x):(l.map (·.1)).drop k=x::(l.map (·.1)).drop (k+1):=by
 subst hx;rw[List.drop_eq_getElem_cons (by simpa using h),List.getElem_map]
theorem zCZ(first last:Int)(r:RecS)(t:List RecS)(ah g:Int):zDE first last (r::t) ah g=if r.off≤ah∨last<r.off then .error 13 else if r.time< -first∨9223372036854775807 - first<r.time then .error 11 else zDE first last t r.off (max g (first+r.time)):=rfl
theorem zBo{P:Program}{fn:Func}{p t:Tmp}{ty:TypeId}(h:fn.results= #[.cell p ty,.tmp t])(tmps:Array Value)(w:World)(b:Nat)(cs:List Value)(d:TypeDesc)
 (hp:tmps.getD p undef=Jc (some ⟨b,0,none⟩))(hc:w.rangeAt b 0 cs)(hu:P.underlying ty=some d)(hd:d.isRow=true)(hi:(P.info? ty).map (·.size)=some cs.length):
 (results fn tmps).run P w=.ok (.tuple #[.agg cs.toArray,tmps.getD t undef]) w:=by
 have hp':tmps[p]?.getD undef=Jc (some ⟨b,0,none⟩):=by simpa using hp
 simp[results,h,hp',asAddr,run_loadVar_mid w b 0 ty cs d hc hu hd hi]
theorem zAn{P:Program}{fn:Func}{p:Tmp}{ty:TypeId}(h:fn.results= #[.cell p ty])(tmps:Array Value)(w:World)(b:Nat)(cs:List Value)(d:TypeDesc)
 (hp:tmps.getD p undef=Jc (some ⟨b,0,none⟩))(hc:w.rangeAt b 0 cs)(hu:P.underlying ty=some d)(hd:d.isRow=true)(hi:(P.info? ty).map (·.size)=some cs.length):
 (results fn tmps).run P w=.ok (.agg cs.toArray) w:=by
 have hp':tmps[p]?.getD undef=Jc (some ⟨b,0,none⟩):=by simpa using hp
 simp[results,h,hp',asAddr,run_loadVar_mid w b 0 ty cs d hc hu hd hi]
theorem zAp{b:Nat}{c:List Value}{T:TypeId}(h:St W0 w K (.raw b c.toArray T::L)):w.rangeAt b 0 c:=by
 intro j v hv;rw[Nat.zero_add,h.rawCell j]
 simpa using hv
theorem zR8{b:Nat}{a0 a1 a2 a3 a4:Value}{T:TypeId}(h:St W0 w K (.raw b #[a0,a1,a2,a3,a4] T::L)):
 (w.cell? ⟨b,0,none⟩=some a0∧w.cell? ⟨b,1,none⟩=some a1∧w.cell? ⟨b,2,none⟩=some a2∧w.cell? ⟨b,3,none⟩=some a3∧w.cell? ⟨b,4,none⟩=some a4)∧
 (w.frozen? ⟨b,0,none⟩=false∧w.frozen? ⟨b,1,none⟩=false∧w.frozen? ⟨b,2,none⟩=false∧w.frozen? ⟨b,3,none⟩=false∧w.frozen? ⟨b,4,none⟩=false):=
 ⟨⟨(h.rawCell 0).trans rfl,(h.rawCell 1).trans rfl,(h.rawCell 2).trans rfl,(h.rawCell 3).trans rfl,(h.rawCell 4).trans rfl⟩,h.rawFree 0,h.rawFree 1,h.rawFree 2,h.rawFree 3,h.rawFree 4⟩
theorem St.sets12{b:Nat}{T:TypeId}{a0 a1 a2 a3 a4 a5 a6 a7 a8 a9 a10 a11:Value}(v0 v1 v2 v3 v4 v5 v6 v7 v8 v9 v10 v11:Value)(h:St W0 w K (.raw b #[a0,a1,a2,a3,a4,a5,a6,a7,a8,a9,a10,a11] T::L)):St W0 ((((((((((((w.setCell ⟨b,0,none⟩ v0).setCell ⟨b,1,none⟩ v1).setCell ⟨b,2,none⟩ v2).setCell ⟨b,3,none⟩ v3).setCell ⟨b,4,none⟩ v4).setCell ⟨b,5,none⟩ v5).setCell ⟨b,6,none⟩ v6).setCell ⟨b,7,none⟩ v7).setCell ⟨b,8,none⟩ v8).setCell ⟨b,9,none⟩ v9).setCell ⟨b,10,none⟩ v10).setCell ⟨b,11,none⟩ v11) K (.raw b #[v0,v1,v2,v3,v4,v5,v6,v7,v8,v9,v10,v11] T::L):=by
 have h:St W0 _ K (.raw b #[v0,a1,a2,a3,a4,a5,a6,a7,a8,a9,a10,a11] T::L):=h.rawSet 0 v0;have h:St W0 _ K (.raw b #[v0,v1,a2,a3,a4,a5,a6,a7,a8,a9,a10,a11] T::L):=h.rawSet 1 v1;have h:St W0 _ K (.raw b #[v0,v1,v2,a3,a4,a5,a6,a7,a8,a9,a10,a11] T::L):=h.rawSet 2 v2;have h:St W0 _ K (.raw b #[v0,v1,v2,v3,a4,a5,a6,a7,a8,a9,a10,a11] T::L):=h.rawSet 3 v3;have h:St W0 _ K (.raw b #[v0,v1,v2,v3,v4,a5,a6,a7,a8,a9,a10,a11] T::L):=h.rawSet 4 v4;have h:St W0 _ K (.raw b #[v0,v1,v2,v3,v4,v5,a6,a7,a8,a9,a10,a11] T::L):=h.rawSet 5 v5;have h:St W0 _ K (.raw b #[v0,v1,v2,v3,v4,v5,v6,a7,a8,a9,a10,a11] T::L):=h.rawSet 6 v6;have h:St W0 _ K (.raw b #[v0,v1,v2,v3,v4,v5,v6,v7,a8,a9,a10,a11] T::L):=h.rawSet 7 v7;have h:St W0 _ K (.raw b #[v0,v1,v2,v3,v4,v5,v6,v7,v8,a9,a10,a11] T::L):=h.rawSet 8 v8;have h:St W0 _ K (.raw b #[v0,v1,v2,v3,v4,v5,v6,v7,v8,v9,a10,a11] T::L):=h.rawSet 9 v9;have h:St W0 _ K (.raw b #[v0,v1,v2,v3,v4,v5,v6,v7,v8,v9,v10,a11] T::L):=h.rawSet 10 v10;have h:St W0 _ K (.raw b #[v0,v1,v2,v3,v4,v5,v6,v7,v8,v9,v10,v11] T::L):=h.rawSet 11 v11;exact h
def zCD (b:BatS):Int×Int×Int×Int×Int×Bool:=
 if b.ctl=true∧zAh b=0 then match b.recs with
  |x::_=>(b.prod,b.epoch,(zCh x).1,b.first+x.time,(zCh x).2.1,true)
  |[]=>(0,0,0,0,0,false)
 else(0,0,0,0,0,false)
theorem zOk{first last:Int}{x:RecS}{t:List RecS}{ah g g2:Int}(h:zDE first last (x::t) ah g=.ok g2): -first≤x.time∧x.time≤9223372036854775807 - first:=by
 rw[zCZ]at h
 by_cases c1:x.off≤ah∨last<x.off
 ·rw[if_pos c1]at h;cases h
 rw[if_neg c1]at h
 by_cases c2:x.time< -first∨9223372036854775807 - first<x.time
 ·rw[if_pos c2]at h;cases h
 omega
theorem zEb(b:BatS)(h:zAh b=0)(hc:b.ctl=true):∃x,b.recs=[x]∧(zCh x).2.2=0∧(-b.first≤x.time∧x.time≤9223372036854775807 - b.first)∧0≤b.first:=by
 unfold zAh at h
 by_cases p1:b.placed=false
 ·rw[if_pos p1]at h;cases h
 rw[if_neg p1]at h
 by_cases p2:b.ctl=true∧b.txn=false
 ·rw[if_pos p2]at h;cases h
 rw[if_neg p2]at h
 by_cases p3:b.signed=false
 ·rw[if_pos p3]at h;cases h
 rw[if_neg p3]at h
 by_cases p4:b.ctl=true∧b.recs.length≠1
 ·rw[if_pos p4]at h;cases h
 rw[if_neg p4]at h
 by_cases p5:zCl b.recs≠0
 ·rw[if_pos p5]at h;exact absurd h p5
 rw[if_neg p5]at h
 by_cases p6:b.ctl=true∧b.ends≠0
 ·rw[if_pos p6]at h;exact absurd h p6.2
 rw[if_neg p6]at h
 have hl:b.recs.length=1:=by
  by_cases hh:b.recs.length=1
  ·exact hh
  ·exact absurd ⟨hc,hh⟩ p4
 obtain⟨x,hx⟩:=List.length_eq_one_iff.1 hl
 have hp:b.placed=true:=by cases hh:b.placed with
  |false=>exact absurd hh p1
  |true=>rfl
 have hp2:=(of_decide_eq_true hp).2.2.2.2.1
 have he:b.ends=0:=by
  by_cases hh:b.ends=0
  ·exact hh
  ·exact absurd ⟨hc,hh⟩ p6
 unfold BatS.ends at he;rw[hx]at he;refine⟨x,hx,he,?_,hp2⟩;unfold BatS.rows at h;rw[hx]at h
 cases hr:zDE b.first b.last [x] (-1) b.first with
 |error e=>
  rw[hr]at h;have h:e=0:=h;subst h;rw[zCZ]at hr
  by_cases c1:x.off≤ -1∨b.last<x.off
  ·rw[if_pos c1]at hr;cases hr
  rw[if_neg c1]at hr
  by_cases c2:x.time< -b.first∨9223372036854775807 - b.first<x.time
  ·rw[if_pos c2]at hr;cases hr
  rw[if_neg c2]at hr
  cases hr
 |ok g=>exact zOk hr
theorem zGv:zEg Jd 54 (.agg #[I O 0,I O 0,U false,Z ⟨#[]⟩,U false,Z ⟨#[]⟩,Ja none 0 0]) 7 88:=zB8 kR rfl dD
def zE7 (x:RecS) (r:Except Int (List RecS)):Except Int (List RecS):=match r with| .ok t=> .ok (x::t)| .error e=> .error e
def unp:Nat→InS→Except Int (List RecS)
 |0,i=>if i.left=0 then .ok []else .error 10
 |n+1,i=>if i.left=0 then .error 10 else if i.record.2.err=0 then zE7 i.record.1 (unp n i.record.2)else .error i.record.2.err
def preU (acc:List RecS) (r:Except Int (List RecS)):Except Int (List RecS):=match r with| .ok t=> .ok (acc++t)| .error e=> .error e
theorem zJH(r:Except Int (List RecS)):preU [] r=r:=by cases r<;>rfl
theorem zHo(acc:List RecS)(x:RecS)(r:Except Int (List RecS)):preU (acc++[x]) r=preU acc (zE7 x r):=by
 cases r with
 |error e=>rfl
 |ok t=>simp[preU,zE7]
theorem zFn(p:Nat)(i:InS)(n:Nat)(hx:i.left=n)(h:St W0 w K (.inp p i::L)):
 Calls Jd 185 #[zAD p] w fun en w'=>en=Jb (I O n)∧St W0 w' K (.inp p i::L):=by
 subst hx;exact zPJ p i h
theorem zDC(p:Nat)(i:InS)(e:Int)(hx:i.err=e)(h:St W0 w K (.inp p i::L)):
 Calls Jd 168 #[zAD p] w fun en w'=>en=Jb (I O e)∧St W0 w' K (.inp p i::L):=by
 subst hx;exact zH3 p i h
variable {W0 w:World}{K:Know}{L:List Res}
structure PreS where
 base:Int
 len:Int
 leader:Int
 sum:Int
 attr:Int
 last:Int
 first:Int
 maxt:Int
 prod:Int
 epoch:Int
 seq:Int
 count:Int
deriving DecidableEq
def pv (x:PreS):Value:=.agg #[I O x.base,I O x.len,I O x.leader,I O x.sum,I O x.attr,I O x.last,I O x.first,I O x.maxt,I O x.prod,I O x.epoch,I O x.seq,I O x.count]
def PreS.list (x:PreS):List Int:=[x.base,x.len,x.leader,x.sum,x.attr,x.last,x.first,x.maxt,x.prod,x.epoch,x.seq,x.count]
def PreS.R (x:PreS):Prop:=∀n∈x.list,-9223372036854775808≤n∧n<9223372036854775808
def PreS.zero:PreS:=⟨0,0,0,0,0,0,0,0,0,0,0,0⟩
def zAE (n:Int):Int:=if n<0∨4294967295<n then 4294967296 else if 2147483647<n then n - 4294967296 else n
def PreS.items (x:PreS):List (Int×Nat):=[(x.base,8),(x.len,4),(x.leader,4),(2,1),(zAE x.sum,4),(x.attr,2),(x.last,4),(x.first,8),(x.maxt,8),(x.prod,8),(x.epoch,2),(x.seq,4),(x.count,4)]
def zA0:List Nat:=[8,4,4,1,4,2,4,8,8,8,2,4,4]
theorem zC9(n:Int): -9223372036854775808≤zAE n∧zAE n<9223372036854775808:=by
 unfold zAE;split
 ·omega
 ·split<;>omega
theorem zNT(n:Int)(h0:¬n<0)(h1:¬4294967295<n):wrap32 n=zAE n:=by
 have e:wrap32 n=(n+2147483648) % 4294967296 - 2147483648:=by unfold wrap32;rfl
 rw[e];unfold zAE;rw[if_neg oM]
 split<;>omega
theorem OutS.okI{o:OutS}{a b:Int}{m:Nat}(h:o.ok (m+8)):(o.int a b).ok m:=OutS.ok_int h oM
theorem OutS.int_bad(o:OutS)(n:Int)(h:n<0∨4294967295<n):o.int (zAE n) 4=o.fail 11:=by
 have e:zAE n=4294967296:=if_pos h;rw[e];unfold OutS.int;rw[if_neg dD]
theorem zJG(p:Nat)(o:OutS)(n:Int)(_: -9223372036854775808≤n∧n<9223372036854775808)(h:St W0 w K (.out p o::L))(hr:o.ok 8):
 Calls Jd 149 #[zBh p,I O n] w fun en w'=>en=Jb (.tuple #[])∧St W0 w' K (.out p (o.int (zAE n) 4)::L):=by
 have H:=hQd h;have HR:=hQd hr;clear h hr
 by_cases h0:n<0
 ·have E:=hQd (OutS.int_bad o n (.inl h0)).symm;go_enter Tryz.func149,Tryz.ntmps149;go_wp2_with (go_at_call 145;refine(zJj _ _ _ stQ).mono ?_;(repeat first|rw[E.out]);rintro e wn ⟨rfl,h⟩;replace H:=hQd h;clear h);refine bodyPost_ret (results_none rfl _ _ _) rfl ⟨rfl,H.out⟩
 by_cases h1:4294967295<n
 ·have E:=hQd (OutS.int_bad o n (.inr h1)).symm;go_enter Tryz.func149,Tryz.ntmps149;go_wp2_with (go_at_call 145;refine(zJj _ _ _ stQ).mono ?_;(repeat first|rw[E.out]);rintro e wn ⟨rfl,h⟩;replace H:=hQd h;clear h);refine bodyPost_ret (results_none rfl _ _ _) rfl ⟨rfl,H.out⟩
 ·have HW2:=hQd (zNT n h0 h1);have HS:=hQd (zC9 n);have HS2:=hQd (wrap64_in _ HS.out.1 HS.out.2);go_enter Tryz.func149,Tryz.ntmps149;go_wp2_with (go_at_call 148;rw[show wrap64 (wrap32 n)=zAE n from by rw[HW2.out];exact HS2.out];refine(zSV _ _ _ _ HS.out H.out HR.out).zM ?_;clear H;intro wn H);go_end0;exact⟨rfl,H.out⟩
theorem zKU(p:Nat)(o:OutS)(x:PreS)(hx:x.R)(h:St W0 w K (.out p o::L))(hr:o.ok 200):
 Calls Jd 121 #[zBh p,pv x] w fun en w'=>en=Jb (.tuple #[])∧St W0 w' K (.out p (o.ints x.items)::L):=by
 have H:=hQd (h.allocRaw #[I O x.base,I O x.len,I O x.leader,I O x.sum,I O x.attr,I O x.last,I O x.first,I O x.maxt,I O x.prod,I O x.epoch,I O x.seq,I O x.count] 130).p1;have HR:=hQd hr;have N0:=hQd (hx x.base (by simp[PreS.list]));have N1:=hQd (hx x.len (by simp[PreS.list]));have N2:=hQd (hx x.leader (by simp[PreS.list]));have N3:=hQd (hx x.sum (by simp[PreS.list]));have N4:=hQd (hx x.attr (by simp[PreS.list]));have N5:=hQd (hx x.last (by simp[PreS.list]));have N6:=hQd (hx x.first (by simp[PreS.list]));have N7:=hQd (hx x.maxt (by simp[PreS.list]));have N8:=hQd (hx x.prod (by simp[PreS.list]));have N9:=hQd (hx x.epoch (by simp[PreS.list]));have N10:=hQd (hx x.seq (by simp[PreS.list]));have N11:=hQd (hx x.count (by simp[PreS.list]));have HS:=hQd (zC9 x.sum);clear h hr hx;go_enter Tryz.func121,Tryz.ntmps121;unfold pv
 go_wp2_with (first
  |(go_at_call 148;refine(zSV _ _ _ _ (by first|exact N0.out|exact N1.out|exact N2.out|exact N3.out|exact N4.out|exact N5.out|exact N6.out|exact N7.out|exact N8.out|exact N9.out|exact N10.out|exact N11.out|decide) stQ (by repeat (first|exact OutS.ok_mono HR.out dD|with_reducible refine OutS.okI ?_))).zM ?_;clear H;intro wn H;have c0:=H.out.cellOf (b:=w.heap.size) (c:= #[I O x.base,I O x.len,I O x.leader,I O x.sum,I O x.attr,I O x.last,I O x.first,I O x.maxt,I O x.prod,I O x.epoch,I O x.seq,I O x.count]) (T:=130) sM 0;have c1:=H.out.cellOf (b:=w.heap.size) (c:= #[I O x.base,I O x.len,I O x.leader,I O x.sum,I O x.attr,I O x.last,I O x.first,I O x.maxt,I O x.prod,I O x.epoch,I O x.seq,I O x.count]) (T:=130) sM 1;have c2:=H.out.cellOf (b:=w.heap.size) (c:= #[I O x.base,I O x.len,I O x.leader,I O x.sum,I O x.attr,I O x.last,I O x.first,I O x.maxt,I O x.prod,I O x.epoch,I O x.seq,I O x.count]) (T:=130) sM 2;have c3:=H.out.cellOf (b:=w.heap.size) (c:= #[I O x.base,I O x.len,I O x.leader,I O x.sum,I O x.attr,I O x.last,I O x.first,I O x.maxt,I O x.prod,I O x.epoch,I O x.seq,I O x.count]) (T:=130) sM 3;have c4:=H.out.cellOf (b:=w.heap.size) (c:= #[I O x.base,I O x.len,I O x.leader,I O x.sum,I O x.attr,I O x.last,I O x.first,I O x.maxt,I O x.prod,I O x.epoch,I O x.seq,I O x.count]) (T:=130) sM 4;have c5:=H.out.cellOf (b:=w.heap.size) (c:= #[I O x.base,I O x.len,I O x.leader,I O x.sum,I O x.attr,I O x.last,I O x.first,I O x.maxt,I O x.prod,I O x.epoch,I O x.seq,I O x.count]) (T:=130) sM 5;have c6:=H.out.cellOf (b:=w.heap.size) (c:= #[I O x.base,I O x.len,I O x.leader,I O x.sum,I O x.attr,I O x.last,I O x.first,I O x.maxt,I O x.prod,I O x.epoch,I O x.seq,I O x.count]) (T:=130) sM 6;have c7:=H.out.cellOf (b:=w.heap.size) (c:= #[I O x.base,I O x.len,I O x.leader,I O x.sum,I O x.attr,I O x.last,I O x.first,I O x.maxt,I O x.prod,I O x.epoch,I O x.seq,I O x.count]) (T:=130) sM 7;have c8:=H.out.cellOf (b:=w.heap.size) (c:= #[I O x.base,I O x.len,I O x.leader,I O x.sum,I O x.attr,I O x.last,I O x.first,I O x.maxt,I O x.prod,I O x.epoch,I O x.seq,I O x.count]) (T:=130) sM 8;have c9:=H.out.cellOf (b:=w.heap.size) (c:= #[I O x.base,I O x.len,I O x.leader,I O x.sum,I O x.attr,I O x.last,I O x.first,I O x.maxt,I O x.prod,I O x.epoch,I O x.seq,I O x.count]) (T:=130) sM 9;have c10:=H.out.cellOf (b:=w.heap.size) (c:= #[I O x.base,I O x.len,I O x.leader,I O x.sum,I O x.attr,I O x.last,I O x.first,I O x.maxt,I O x.prod,I O x.epoch,I O x.seq,I O x.count]) (T:=130) sM 10;have c11:=H.out.cellOf (b:=w.heap.size) (c:= #[I O x.base,I O x.len,I O x.leader,I O x.sum,I O x.attr,I O x.last,I O x.first,I O x.maxt,I O x.prod,I O x.epoch,I O x.seq,I O x.count]) (T:=130) sM 11;simp at c0 c1 c2 c3 c4 c5 c6 c7 c8 c9 c10 c11)
  |(go_at_call 149;refine(zJG _ _ _ (by first|exact N0.out|exact N1.out|exact N2.out|exact N3.out|exact N4.out|exact N5.out|exact N6.out|exact N7.out|exact N8.out|exact N9.out|exact N10.out|exact N11.out|decide) stQ (by repeat (first|exact OutS.ok_mono HR.out dD|with_reducible refine OutS.okI ?_))).zM ?_;clear H;intro wn H;have c0:=H.out.cellOf (b:=w.heap.size) (c:= #[I O x.base,I O x.len,I O x.leader,I O x.sum,I O x.attr,I O x.last,I O x.first,I O x.maxt,I O x.prod,I O x.epoch,I O x.seq,I O x.count]) (T:=130) sM 0;have c1:=H.out.cellOf (b:=w.heap.size) (c:= #[I O x.base,I O x.len,I O x.leader,I O x.sum,I O x.attr,I O x.last,I O x.first,I O x.maxt,I O x.prod,I O x.epoch,I O x.seq,I O x.count]) (T:=130) sM 1;have c2:=H.out.cellOf (b:=w.heap.size) (c:= #[I O x.base,I O x.len,I O x.leader,I O x.sum,I O x.attr,I O x.last,I O x.first,I O x.maxt,I O x.prod,I O x.epoch,I O x.seq,I O x.count]) (T:=130) sM 2;have c3:=H.out.cellOf (b:=w.heap.size) (c:= #[I O x.base,I O x.len,I O x.leader,I O x.sum,I O x.attr,I O x.last,I O x.first,I O x.maxt,I O x.prod,I O x.epoch,I O x.seq,I O x.count]) (T:=130) sM 3;have c4:=H.out.cellOf (b:=w.heap.size) (c:= #[I O x.base,I O x.len,I O x.leader,I O x.sum,I O x.attr,I O x.last,I O x.first,I O x.maxt,I O x.prod,I O x.epoch,I O x.seq,I O x.count]) (T:=130) sM 4;have c5:=H.out.cellOf (b:=w.heap.size) (c:= #[I O x.base,I O x.len,I O x.leader,I O x.sum,I O x.attr,I O x.last,I O x.first,I O x.maxt,I O x.prod,I O x.epoch,I O x.seq,I O x.count]) (T:=130) sM 5;have c6:=H.out.cellOf (b:=w.heap.size) (c:= #[I O x.base,I O x.len,I O x.leader,I O x.sum,I O x.attr,I O x.last,I O x.first,I O x.maxt,I O x.prod,I O x.epoch,I O x.seq,I O x.count]) (T:=130) sM 6;have c7:=H.out.cellOf (b:=w.heap.size) (c:= #[I O x.base,I O x.len,I O x.leader,I O x.sum,I O x.attr,I O x.last,I O x.first,I O x.maxt,I O x.prod,I O x.epoch,I O x.seq,I O x.count]) (T:=130) sM 7;have c8:=H.out.cellOf (b:=w.heap.size) (c:= #[I O x.base,I O x.len,I O x.leader,I O x.sum,I O x.attr,I O x.last,I O x.first,I O x.maxt,I O x.prod,I O x.epoch,I O x.seq,I O x.count]) (T:=130) sM 8;have c9:=H.out.cellOf (b:=w.heap.size) (c:= #[I O x.base,I O x.len,I O x.leader,I O x.sum,I O x.attr,I O x.last,I O x.first,I O x.maxt,I O x.prod,I O x.epoch,I O x.seq,I O x.count]) (T:=130) sM 9;have c10:=H.out.cellOf (b:=w.heap.size) (c:= #[I O x.base,I O x.len,I O x.leader,I O x.sum,I O x.attr,I O x.last,I O x.first,I O x.maxt,I O x.prod,I O x.epoch,I O x.seq,I O x.count]) (T:=130) sM 10;have c11:=H.out.cellOf (b:=w.heap.size) (c:= #[I O x.base,I O x.len,I O x.leader,I O x.sum,I O x.attr,I O x.last,I O x.first,I O x.maxt,I O x.prod,I O x.epoch,I O x.seq,I O x.count]) (T:=130) sM 11;simp at c0 c1 c2 c3 c4 c5 c6 c7 c8 c9 c10 c11))
 go_end0;exact⟨rfl,H.out.p1.drop⟩
variable {W0 w:World}{K:Know}{L:List Res}
theorem St.set1_Pre2{r:Res}{b j:Nat}{c:Array Value}{T:TypeId}{v:Value}(h:St W0 w K (r::.raw b c T::L)):St W0 (w.setCell ⟨b,j,none⟩ v) K (r::.raw b (c.setIfInBounds j v) T::L):=(h.p1.rawSet j v).p1
theorem zDQ(n:Int):bits .and .i64 n 4294967295=n % 4294967296:=by
 rw[zLN];have e1:((4294967295:Int) % 18446744073709551616).toNat=2 ^ 32 - 1:=by decide
 rw[e1,Nat.and_two_pow_sub_one_eq_mod];have h:(0:Int)≤n % 18446744073709551616:=Int.emod_nonneg _ dD;rw[IntKind.wrap_i64]
 omega
theorem zA4(p:Nat)(i i1 i2 i3 i4 i5 i6 i7 i8 i9 i10 i11 i12 i13:InS)(a0 a1 a2 a3 a4 a5 a6 a7 a8 a9 a10 a11 a12 sm:Int)(e0:i.int 8=(a0,i1))(e1:i1.int 4=(a1,i2))(e2:i2.int 4=(a2,i3))(e3:i3.int 1=(a3,i4))(e4:i4.int 4=(a4,i5))(e5:i5.int 2=(a5,i6))(e6:i6.int 4=(a6,i7))(e7:i7.int 8=(a7,i8))(e8:i8.int 8=(a8,i9))(e9:i9.int 8=(a9,i10))(e10:i10.int 2=(a10,i11))(e11:i11.int 4=(a11,i12))(e12:i12.int 4=(a12,i13))(hsm:bits .and .i64 a4 4294967295=sm)(h:St W0 w K (.inp p i::L)):
 Calls Jd 198 #[zAD p] w fun en w'=>en=Jb (.tuple #[.agg #[I O a0,I O a1,I O a2,I O sm,I O a5,I O a6,I O a7,I O a8,I O a9,I O a10,I O a11,I O a12],I O a3])∧St W0 w' K (.inp p i13::L):=by
 have H:=hQd (h.allocRaw #[I O 0,I O 0,I O 0,I O 0,I O 0,I O 0,I O 0,I O 0,I O 0,I O 0,I O 0,I O 0] 130).p1;have E0:=hQd e0;have tok0:True:=trivial;have E1:=hQd e1;have tok1:True:=trivial;have E2:=hQd e2;have tok2:True:=trivial;have E3:=hQd e3;have tok3:True:=trivial;have E4:=hQd e4;have tok4:True:=trivial;have E5:=hQd e5;have tok5:True:=trivial;have E6:=hQd e6;have tok6:True:=trivial;have E7:=hQd e7;have tok7:True:=trivial;have E8:=hQd e8;have tok8:True:=trivial;have E9:=hQd e9;have tok9:True:=trivial;have E10:=hQd e10;have tok10:True:=trivial;have E11:=hQd e11;have tok11:True:=trivial;have E12:=hQd e12;have tok12:True:=trivial;clear h e0 e1 e2 e3 e4 e5 e6 e7 e8 e9 e10 e11 e12;go_enter Tryz.func198,Tryz.ntmps198
 go_wp2_with (first
  |(go_at_call 157;have _t:=tok0;clear _t;(with_reducible refine(zDb _ i 8 H.out).mono ?_);rw[E0.out];rintro e wn ⟨rfl,h⟩;replace H:=hQd (show St W0 wn K (.inp p i1::.raw w.heap.size #[I O 0,I O 0,I O 0,I O 0,I O 0,I O 0,I O 0,I O 0,I O 0,I O 0,I O 0,I O 0] 130::L)from h);clear h tok0;have z0:=H.out.p1.rawCell 0;have z1:=H.out.p1.rawFree 0;simp at z0)
  |(go_at_call 157;have _t:=tok1;clear _t;(with_reducible refine(zDb _ i1 4 (St.set1_Pre2 H.out)).mono ?_);rw[E1.out];rintro e wn ⟨rfl,h⟩;replace H:=hQd (show St W0 wn K (.inp p i2::.raw w.heap.size #[I O a0,I O 0,I O 0,I O 0,I O 0,I O 0,I O 0,I O 0,I O 0,I O 0,I O 0,I O 0] 130::L)from h);clear h tok1;have z0:=H.out.p1.rawCell 1;have z1:=H.out.p1.rawFree 1;simp at z0)
  |(go_at_call 157;have _t:=tok2;clear _t;(with_reducible refine(zDb _ i2 4 (St.set1_Pre2 H.out)).mono ?_);rw[E2.out];rintro e wn ⟨rfl,h⟩;replace H:=hQd (show St W0 wn K (.inp p i3::.raw w.heap.size #[I O a0,I O a1,I O 0,I O 0,I O 0,I O 0,I O 0,I O 0,I O 0,I O 0,I O 0,I O 0] 130::L)from h);clear h tok2;have z0:=H.out.p1.rawCell 2;have z1:=H.out.p1.rawFree 2;simp at z0)
  |(go_at_call 157;have _t:=tok3;clear _t;(with_reducible refine(zDb _ i3 1 (St.set1_Pre2 H.out)).mono ?_);rw[E3.out];rintro e wn ⟨rfl,h⟩;replace H:=hQd (show St W0 wn K (.inp p i4::.raw w.heap.size #[I O a0,I O a1,I O a2,I O 0,I O 0,I O 0,I O 0,I O 0,I O 0,I O 0,I O 0,I O 0] 130::L)from h);clear h tok3;have z0:=H.out.p1.rawCell 0;have z1:=H.out.p1.rawFree 0;simp at z0)
  |(go_at_call 157;have _t:=tok4;clear _t;(with_reducible refine(zDb _ i4 4 H.out).mono ?_);rw[E4.out];rintro e wn ⟨rfl,h⟩;replace H:=hQd (show St W0 wn K (.inp p i5::.raw w.heap.size #[I O a0,I O a1,I O a2,I O 0,I O 0,I O 0,I O 0,I O 0,I O 0,I O 0,I O 0,I O 0] 130::L)from h);clear h tok4;have z0:=H.out.p1.rawCell 3;have z1:=H.out.p1.rawFree 3;simp at z0)
  |(go_at_call 157;have _t:=tok5;clear _t;(with_reducible refine(zDb _ i5 2 (St.set1_Pre2 H.out)).mono ?_);rw[E5.out];rintro e wn ⟨rfl,h⟩;replace H:=hQd (show St W0 wn K (.inp p i6::.raw w.heap.size #[I O a0,I O a1,I O a2,I O sm,I O 0,I O 0,I O 0,I O 0,I O 0,I O 0,I O 0,I O 0] 130::L)from h);clear h tok5;have z0:=H.out.p1.rawCell 4;have z1:=H.out.p1.rawFree 4;simp at z0)
  |(go_at_call 157;have _t:=tok6;clear _t;(with_reducible refine(zDb _ i6 4 (St.set1_Pre2 H.out)).mono ?_);rw[E6.out];rintro e wn ⟨rfl,h⟩;replace H:=hQd (show St W0 wn K (.inp p i7::.raw w.heap.size #[I O a0,I O a1,I O a2,I O sm,I O a5,I O 0,I O 0,I O 0,I O 0,I O 0,I O 0,I O 0] 130::L)from h);clear h tok6;have z0:=H.out.p1.rawCell 5;have z1:=H.out.p1.rawFree 5;simp at z0)
  |(go_at_call 157;have _t:=tok7;clear _t;(with_reducible refine(zDb _ i7 8 (St.set1_Pre2 H.out)).mono ?_);rw[E7.out];rintro e wn ⟨rfl,h⟩;replace H:=hQd (show St W0 wn K (.inp p i8::.raw w.heap.size #[I O a0,I O a1,I O a2,I O sm,I O a5,I O a6,I O 0,I O 0,I O 0,I O 0,I O 0,I O 0] 130::L)from h);clear h tok7;have z0:=H.out.p1.rawCell 6;have z1:=H.out.p1.rawFree 6;simp at z0)
  |(go_at_call 157;have _t:=tok8;clear _t;(with_reducible refine(zDb _ i8 8 (St.set1_Pre2 H.out)).mono ?_);rw[E8.out];rintro e wn ⟨rfl,h⟩;replace H:=hQd (show St W0 wn K (.inp p i9::.raw w.heap.size #[I O a0,I O a1,I O a2,I O sm,I O a5,I O a6,I O a7,I O 0,I O 0,I O 0,I O 0,I O 0] 130::L)from h);clear h tok8;have z0:=H.out.p1.rawCell 7;have z1:=H.out.p1.rawFree 7;simp at z0)
  |(go_at_call 157;have _t:=tok9;clear _t;(with_reducible refine(zDb _ i9 8 (St.set1_Pre2 H.out)).mono ?_);rw[E9.out];rintro e wn ⟨rfl,h⟩;replace H:=hQd (show St W0 wn K (.inp p i10::.raw w.heap.size #[I O a0,I O a1,I O a2,I O sm,I O a5,I O a6,I O a7,I O a8,I O 0,I O 0,I O 0,I O 0] 130::L)from h);clear h tok9;have z0:=H.out.p1.rawCell 8;have z1:=H.out.p1.rawFree 8;simp at z0)
  |(go_at_call 157;have _t:=tok10;clear _t;(with_reducible refine(zDb _ i10 2 (St.set1_Pre2 H.out)).mono ?_);rw[E10.out];rintro e wn ⟨rfl,h⟩;replace H:=hQd (show St W0 wn K (.inp p i11::.raw w.heap.size #[I O a0,I O a1,I O a2,I O sm,I O a5,I O a6,I O a7,I O a8,I O a9,I O 0,I O 0,I O 0] 130::L)from h);clear h tok10;have z0:=H.out.p1.rawCell 9;have z1:=H.out.p1.rawFree 9;simp at z0)
  |(go_at_call 157;have _t:=tok11;clear _t;(with_reducible refine(zDb _ i11 4 (St.set1_Pre2 H.out)).mono ?_);rw[E11.out];rintro e wn ⟨rfl,h⟩;replace H:=hQd (show St W0 wn K (.inp p i12::.raw w.heap.size #[I O a0,I O a1,I O a2,I O sm,I O a5,I O a6,I O a7,I O a8,I O a9,I O a10,I O 0,I O 0] 130::L)from h);clear h tok11;have z0:=H.out.p1.rawCell 10;have z1:=H.out.p1.rawFree 10;simp at z0)
  |(go_at_call 157;have _t:=tok12;clear _t;(with_reducible refine(zDb _ i12 4 (St.set1_Pre2 H.out)).mono ?_);rw[E12.out];rintro e wn ⟨rfl,h⟩;replace H:=hQd (show St W0 wn K (.inp p i13::.raw w.heap.size #[I O a0,I O a1,I O a2,I O sm,I O a5,I O a6,I O a7,I O a8,I O a9,I O a10,I O a11,I O 0] 130::L)from h);clear h tok12;have z0:=H.out.p1.rawCell 11;have z1:=H.out.p1.rawFree 11;simp at z0;have HH:=hQd H.out.p1;have qf0:=HH.out.freeOf (b:=w.heap.size) (c:= #[I O a0,I O a1,I O a2,I O sm,I O a5,I O a6,I O a7,I O a8,I O a9,I O a10,I O a11,I O 0]) (T:=130) sM 0;have qc0:=HH.out.cellOf (b:=w.heap.size) (c:= #[I O a0,I O a1,I O a2,I O sm,I O a5,I O a6,I O a7,I O a8,I O a9,I O a10,I O a11,I O 0]) (T:=130) sM 0;have qf1:=HH.out.freeOf (b:=w.heap.size) (c:= #[I O a0,I O a1,I O a2,I O sm,I O a5,I O a6,I O a7,I O a8,I O a9,I O a10,I O a11,I O 0]) (T:=130) sM 1;have qc1:=HH.out.cellOf (b:=w.heap.size) (c:= #[I O a0,I O a1,I O a2,I O sm,I O a5,I O a6,I O a7,I O a8,I O a9,I O a10,I O a11,I O 0]) (T:=130) sM 1;have qf2:=HH.out.freeOf (b:=w.heap.size) (c:= #[I O a0,I O a1,I O a2,I O sm,I O a5,I O a6,I O a7,I O a8,I O a9,I O a10,I O a11,I O 0]) (T:=130) sM 2;have qc2:=HH.out.cellOf (b:=w.heap.size) (c:= #[I O a0,I O a1,I O a2,I O sm,I O a5,I O a6,I O a7,I O a8,I O a9,I O a10,I O a11,I O 0]) (T:=130) sM 2;have qf3:=HH.out.freeOf (b:=w.heap.size) (c:= #[I O a0,I O a1,I O a2,I O sm,I O a5,I O a6,I O a7,I O a8,I O a9,I O a10,I O a11,I O 0]) (T:=130) sM 3;have qc3:=HH.out.cellOf (b:=w.heap.size) (c:= #[I O a0,I O a1,I O a2,I O sm,I O a5,I O a6,I O a7,I O a8,I O a9,I O a10,I O a11,I O 0]) (T:=130) sM 3;have qf4:=HH.out.freeOf (b:=w.heap.size) (c:= #[I O a0,I O a1,I O a2,I O sm,I O a5,I O a6,I O a7,I O a8,I O a9,I O a10,I O a11,I O 0]) (T:=130) sM 4;have qc4:=HH.out.cellOf (b:=w.heap.size) (c:= #[I O a0,I O a1,I O a2,I O sm,I O a5,I O a6,I O a7,I O a8,I O a9,I O a10,I O a11,I O 0]) (T:=130) sM 4;have qf5:=HH.out.freeOf (b:=w.heap.size) (c:= #[I O a0,I O a1,I O a2,I O sm,I O a5,I O a6,I O a7,I O a8,I O a9,I O a10,I O a11,I O 0]) (T:=130) sM 5;have qc5:=HH.out.cellOf (b:=w.heap.size) (c:= #[I O a0,I O a1,I O a2,I O sm,I O a5,I O a6,I O a7,I O a8,I O a9,I O a10,I O a11,I O 0]) (T:=130) sM 5;have qf6:=HH.out.freeOf (b:=w.heap.size) (c:= #[I O a0,I O a1,I O a2,I O sm,I O a5,I O a6,I O a7,I O a8,I O a9,I O a10,I O a11,I O 0]) (T:=130) sM 6;have qc6:=HH.out.cellOf (b:=w.heap.size) (c:= #[I O a0,I O a1,I O a2,I O sm,I O a5,I O a6,I O a7,I O a8,I O a9,I O a10,I O a11,I O 0]) (T:=130) sM 6;have qf7:=HH.out.freeOf (b:=w.heap.size) (c:= #[I O a0,I O a1,I O a2,I O sm,I O a5,I O a6,I O a7,I O a8,I O a9,I O a10,I O a11,I O 0]) (T:=130) sM 7;have qc7:=HH.out.cellOf (b:=w.heap.size) (c:= #[I O a0,I O a1,I O a2,I O sm,I O a5,I O a6,I O a7,I O a8,I O a9,I O a10,I O a11,I O 0]) (T:=130) sM 7;have qf8:=HH.out.freeOf (b:=w.heap.size) (c:= #[I O a0,I O a1,I O a2,I O sm,I O a5,I O a6,I O a7,I O a8,I O a9,I O a10,I O a11,I O 0]) (T:=130) sM 8;have qc8:=HH.out.cellOf (b:=w.heap.size) (c:= #[I O a0,I O a1,I O a2,I O sm,I O a5,I O a6,I O a7,I O a8,I O a9,I O a10,I O a11,I O 0]) (T:=130) sM 8;have qf9:=HH.out.freeOf (b:=w.heap.size) (c:= #[I O a0,I O a1,I O a2,I O sm,I O a5,I O a6,I O a7,I O a8,I O a9,I O a10,I O a11,I O 0]) (T:=130) sM 9;have qc9:=HH.out.cellOf (b:=w.heap.size) (c:= #[I O a0,I O a1,I O a2,I O sm,I O a5,I O a6,I O a7,I O a8,I O a9,I O a10,I O a11,I O 0]) (T:=130) sM 9;have qf10:=HH.out.freeOf (b:=w.heap.size) (c:= #[I O a0,I O a1,I O a2,I O sm,I O a5,I O a6,I O a7,I O a8,I O a9,I O a10,I O a11,I O 0]) (T:=130) sM 10;have qc10:=HH.out.cellOf (b:=w.heap.size) (c:= #[I O a0,I O a1,I O a2,I O sm,I O a5,I O a6,I O a7,I O a8,I O a9,I O a10,I O a11,I O 0]) (T:=130) sM 10;have qf11:=HH.out.freeOf (b:=w.heap.size) (c:= #[I O a0,I O a1,I O a2,I O sm,I O a5,I O a6,I O a7,I O a8,I O a9,I O a10,I O a11,I O 0]) (T:=130) sM 11;have qc11:=HH.out.cellOf (b:=w.heap.size) (c:= #[I O a0,I O a1,I O a2,I O sm,I O a5,I O a6,I O a7,I O a8,I O a9,I O a10,I O a11,I O 0]) (T:=130) sM 11;simp at qc0 qc1 qc2 qc3 qc4 qc5 qc6 qc7 qc8 qc9 qc10 qc11))
 refine bodyPost_ret (v:=.tuple #[.agg #[I O a0,I O a1,I O a2,I O sm,I O a5,I O a6,I O a7,I O a8,I O a9,I O a10,I O a11,I O a12],I O a3]) (by simp[results,Tryz.results198,go_sem,qc0,qc1,qc2,qc3,qc4,qc5,qc6,qc7,qc8,qc9,qc10,qc11]) rfl ⟨rfl,?_⟩;exact(((((((((((((H.out.p1.rawSet 11 _).rawSet 0 _).rawSet 1 _).rawSet 2 _).rawSet 3 _).rawSet 4 _).rawSet 5 _).rawSet 6 _).rawSet 7 _).rawSet 8 _).rawSet 9 _).rawSet 10 _).rawSet 11 _).drop
end Go.Proofs.YtenojajfacacoaaGreatDoor
