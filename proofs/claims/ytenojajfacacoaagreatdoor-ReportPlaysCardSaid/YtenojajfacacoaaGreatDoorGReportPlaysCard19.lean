/- Of any log, cut anywhere, in whatever chunks, all that is told, or which batch may not be; as a text, too: proved of every script, the library's own variables as the program lays them. -/
import Derived.Test.YtenojajfacacoaaGreatDoorGReportPlaysCard16
import Derived.Test.YtenojajfacacoaaGreatDoorGReportPlaysCard4
import Derived.Test.YtenojajfacacoaaGreatDoorGReportPlaysCard8
import Derived.Test.YtenojajfacacoaaGreatDoorGReportPlaysCard7
import Derived.RegionTactic
import Derived.WalkMore
import Derived.Deep.RegionHeld3
import Derived.Deep.DeepCutAuto
import Derived.Test.YtenojajfacacoaaGreatDoorGReportPlaysCard18
import Derived.Test.YtenojajfacacoaaGreatDoorGReportPlaysCard9
import Derived.Test.YtenojajfacacoaaGreatDoorGReportPlaysCard17
import Derived.Test.YtenojajfacacoaaGreatDoorCards
import Derived.Test.YtenojajfacacoaaGreatDoorGReportPlaysCard1
import Derived.OpenShut
import Derived.MakeChecks
import Derived.LaidMore
import Derived.Lib.LaidTab
import Derived.Stop.LaidErr
import Derived.Test.YtenojajfacacoaaGreatDoorGReportPlaysCard14
import Derived.Test.YtenojajfacacoaaGreatDoorTie
import Derived.Deep.DeepHandedRow
import Derived.SevenTiedAt
/- A text. -/
namespace Go.Proofs.YtenojajfacacoaaGreatDoor
open Go.RowKit
open Go.Value renaming bool→U, string→Z, slice→Ja, int→I, pointer→Jc
open Go.Ending renaming returned→Jb
open _root_.Nat renaming le_refl→Jo, zero_le→Ji, add_assoc→Jm
open Go.IntKind renaming i64→O
open _root_.Go.Proofs.Tryz renaming prog→Jd
open _root_.List renaming length_cons→Jg, take_of_length_le→Jj, length_take→Jk, length_append→Je, length→Jh, take→Jq, getElem_mem→Jp, length_drop→Jf, length_nil→Jl, length_map→Jn
variable {W0 w:World}{K:Know}{L:List Res}
theorem zGW(t o:Int)(n1 n2:Bool)(d1 d2:Bs)(q:Option Addr)(ln cap:Nat)(r1 r2 r3:Int)(hr:zB2 n1 n2 d1 d2 ln o=(r1,r2,r3))(hd1:d1.length≤140737488355328)(hd2:d2.length≤140737488355328)(h:St W0 w K L):
 Calls Jd 26 #[.agg #[I O t,I O o,U n1,Z (bb d1),U n2,Z (bb d2),Ja q ln cap]] w fun en w'=>en=Jb (.tuple #[I O r1,I O r2,I O r3])∧St W0 w' K L:=zFu t o n1 n2 d1 d2 q ln cap (r1,r2,r3) hr hd1 hd2 h
theorem zQg(base leader:Int)(app txn:Bool)(last first maxt prod epoch sq:Int)(recs:List RecS)(l:List (RecS×Value))(q:Option Addr)(cap:Nat)(hl:l.map (·.1)=recs)(so:EncOk (⟨base,leader,app,txn,true,last,first,maxt,prod,epoch,sq,recs⟩:BatS))(hk:K.has (Know.recs (Ja q l.length cap) l))(h:St W0 w K L):
 Calls Jd 8 #[.agg #[I O base,I O leader,U app,U txn,U true,I O last,I O first,I O maxt,I O prod,I O epoch,I O sq,Ja q l.length cap]] w fun en w'=>en=Jb (I O 0)∧St W0 w' K L:=
 zDe base leader app txn true last first maxt prod epoch sq l q cap 0 (by rw[hl];exact so.err) (by have h9:first<9223372036854775808:=so.rng.2.2.2.1.2;omega) so.rng.1 (so.fit hl) (by have:=so.llen hl;omega) hk h
set_option maxHeartbeats 8000000
set_option maxRecDepth 100000
variable {W0 w:World}{K:Know}{L:List Res}
theorem zKx(base leader:Int)(app txn:Bool)(last first maxt prod epoch sq:Int)(recs:List RecS)(l:List (RecS×Value))(q:Option Addr)(cap:Nat)(hl:l.map (·.1)=recs)(n1 n2 n3 n4 n5:Int)(he:zCD (⟨base,leader,app,txn,false,last,first,maxt,prod,epoch,sq,recs⟩:BatS)=(n1,n2,n3,n4,n5,false))(so:EncOk (⟨base,leader,app,txn,false,last,first,maxt,prod,epoch,sq,recs⟩:BatS))(tl:Bs)(htl:zBn (⟨base,leader,app,txn,false,last,first,maxt,prod,epoch,sq,recs⟩:BatS)=tl)(hk:K.has (Know.recs (Ja q l.length cap) l))(h:St W0 w K L):
 Calls Jd 33 #[.agg #[I O base,I O leader,U app,U txn,U false,I O last,I O first,I O maxt,I O prod,I O epoch,I O sq,Ja q l.length cap]] w fun en w'=>en=Jb (Z (bb tl))∧St W0 w' K L:=by
 obtain⟨tb,htb⟩:=eX w.heap.size;have g1:=h.allocRaw #[I O base,I O leader,U app,U txn,U false,I O last,I O first,I O maxt,I O prod,I O epoch,I O sq,Ja q l.length cap] 30;rw[htb]at g1;obtain⟨y0,y1,y2,y3,y4,y5,y6,y7,y8,y9,y10,y11⟩:=uR12 g1;simp at y0 y1 y2 y3 y4 y5 y6 y7 y8 y9 y10 y11;obtain⟨d1,hd1⟩:=eX (numW base);obtain⟨d2,hd2⟩:=eX (numW prod);obtain⟨d3,hd3⟩:=eX (numW (l.length:Int));obtain⟨d5,hd5⟩:=eX (numW n5);have hR:=so.rng;have hlen:(recs.length:Int)=(l.length:Int):=by rw[←hl,Jn]
 have hll:=so.llen hl;have r1:Rn base:=hR.1;have r2:Rn prod:=hR.2.2.2.2.2.1;have r3:Rn (l.length:Int):=by unfold Rn;omega
 have r5:=zEz he;have m1:=zAk _ r1;have m2:=zAk _ r2;have m3:=zAk _ r3;have m5:=zAk _ r5;rw[hd1]at m1;rw[hd2]at m2;rw[hd3]at m3;rw[hd5]at m5;obtain⟨wt,hwt⟩:∃B:Bs,[100,97,116,97]=B:=⟨_,rfl⟩;have hwl:=congrArg Jh hwt;simp only[Jg,Jl]at hwl;obtain⟨P1,hP1⟩:∃B:Bs,[98,97,116,99,104,32]++d1=B:=⟨_,rfl⟩;obtain⟨P2,hP2⟩:∃B:Bs,P1++[32]=B:=⟨_,rfl⟩;obtain⟨P3,hP3⟩:∃B:Bs,P2++d2=B:=⟨_,rfl⟩;obtain⟨P4,hP4⟩:∃B:Bs,P3++[32]=B:=⟨_,rfl⟩;obtain⟨P5,hP5⟩:∃B:Bs,P4++d3=B:=⟨_,rfl⟩;obtain⟨P6,hP6⟩:∃B:Bs,P5++[32]=B:=⟨_,rfl⟩;obtain⟨P7,hP7⟩:∃B:Bs,P6++wt=B:=⟨_,rfl⟩;obtain⟨P8,hP8⟩:∃B:Bs,P7++[10]=B:=⟨_,rfl⟩;have eP1:=congrArg Jh hP1;have eP2:=congrArg Jh hP2;have eP3:=congrArg Jh hP3;have eP4:=congrArg Jh hP4;have eP5:=congrArg Jh hP5;have eP6:=congrArg Jh hP6;have eP7:=congrArg Jh hP7;have eP8:=congrArg Jh hP8;simp only[Je,Jg,Jl]at eP1 eP2 eP3 eP4 eP5 eP6 eP7 eP8;have gP1:¬(9223372036854775807<6+d1.length):=by omega
 have kP1:(⟨#[98,97,116,99,104,32]⟩:ByteArray)++bb d1=bb P1:=by rw[←hP1];exact zAc _ _
 have gP2:¬(9223372036854775807<P1.length+1):=by omega
 have kP2:bb P1++(⟨#[32]⟩:ByteArray)=bb P2:=by rw[←hP2];exact zAc _ _
 have gP3:¬(9223372036854775807<P2.length+d2.length):=by omega
 have kP3:bb P2++bb d2=bb P3:=by rw[←hP3];exact zAc _ _
 have gP4:¬(9223372036854775807<P3.length+1):=by omega
 have kP4:bb P3++(⟨#[32]⟩:ByteArray)=bb P4:=by rw[←hP4];exact zAc _ _
 have gP5:¬(9223372036854775807<P4.length+d3.length):=by omega
 have kP5:bb P4++bb d3=bb P5:=by rw[←hP5];exact zAc _ _
 have gP6:¬(9223372036854775807<P5.length+1):=by omega
 have kP6:bb P5++(⟨#[32]⟩:ByteArray)=bb P6:=by rw[←hP6];exact zAc _ _
 have gP7:¬(9223372036854775807<P6.length+4):=by omega
 have kP7:bb P6++(⟨#[100,97,116,97]⟩:ByteArray)=bb P7:=by rw[←hP7,←hwt];exact zAc _ _
 have gP8:¬(9223372036854775807<P7.length+1):=by omega
 have kP8:bb P7++(⟨#[10]⟩:ByteArray)=bb P8:=by rw[←hP8];exact zAc _ _
 have HTL:=hQd (show P8=tl by
  rw[←htl];unfold zBn zLi;rw[zGD he];simp only[hlen,hd1,hd2,hd3,hd5];rw[←hP8,←hP7,←hP6,←hP5,←hP4,←hP3,←hP2,←hP1,←hwt]
  simp[zAN])
 have HRB:=hQd r1;have HRP:=hQd r2;have HRL:=hQd r3;have HR5:=hQd r5;have HD1:=hQd hd1;have HD2:=hQd hd2;have HD3:=hQd hd3;have HD5:=hQd hd5;have HL:=hQd hl;have HSO:=hQd so;have HK:=hQd hk;have KP:=hQd (show ∀(w':World) (L':List Res),St W0 w' K (.raw tb #[I O base,I O leader,U app,U txn,U false,I O last,I O first,I O maxt,I O prod,I O epoch,I O sq,Ja q l.length cap] 30::L')→(w'.cell? ⟨tb,0,none⟩=some (I O base)∧w'.cell? ⟨tb,8,none⟩=some (I O prod)∧w'.cell? ⟨tb,11,none⟩=some (Ja q l.length cap))from fun w' L' h'=>⟨h'.rawCell 0,h'.rawCell 8,h'.rawCell 11⟩);have H:=hQd g1;clear h g1 hk hl he so htl hd1 hd2 hd3 hd5 hR hlen hll r1 r2 r3 r5 m1 m2 m3 m5 hP1 hP2 hP3 hP4 hP5 hP6 hP7 hP8 eP1 eP2 eP3 eP4 eP5 eP6 eP7 eP8 hwt hwl;go_enter Tryz.func33,Tryz.ntmps33;go_upto_region 7 with fail;have hs:=H.out.drew;clear H y0 y1 y2 y3 y4 y5 y6 y7 y8 y9 y10 y11;refine wp_region_held_drew (S:=fun w'=>w'.cell? ⟨tb,0,none⟩=some (I O base)∧w'.cell? ⟨tb,8,none⟩=some (I O prod)∧w'.cell? ⟨tb,11,none⟩=some (Ja q l.length cap)) kR (KP.out _ _ hs) (fun hHeld=> ?_);refine tR 0 ?_;refine tR 1 ?_;refine tR 5 ?_;refine tR 6 ?_;refine tR 10 ?_;refine tR 11 ?_;refine tR 12 ?_;refine tR 16 ?_;refine wR [2] (rC rfl (fun KK hK=> ?_) rN);go_simp;go_at_call 9;with_reducible refine(zBg base HRB.out d1 HD1.out hs).mono ?_;rintro e wq ⟨rfl,hs⟩;refine zK hK (KP.out _ _ hs) (fun hHeld=> ?_);clear hK KK
 refine tR 3 ?_;refine tR 4 ?_;refine wR [7] (rC rfl (fun KK hK=> ?_) rN);go_simp;go_at_call 9;with_reducible refine(zBg prod HRP.out d2 HD2.out hs).mono ?_;rintro e wq ⟨rfl,hs⟩;refine zK hK (KP.out _ _ hs) (fun hHeld=> ?_);clear hK KK
 refine tR 8 ?_;refine tR 9 ?_;refine wR [13] (rC rfl (fun KK hK=> ?_) rN);go_simp;go_at_call 9;with_reducible refine(zBg (l.length:Int) HRL.out d3 HD3.out hs).mono ?_;rintro e wq ⟨rfl,hs⟩;refine zK hK (KP.out _ _ hs) (fun hHeld=> ?_);clear hK KK
 refine tR 14 ?_;refine tR 15 ?_;refine tR 17 ?_;refine tR 18 ?_;refine tR 19 ?_;refine wpAnyH_done kR ?_ _;clear hHeld;have H:=hQd hs;clear hs;go_wp2_with fail;go_ret;exact⟨by rw[←HTL.out];rfl,H.out.drop⟩
theorem zH6(base leader:Int)(app txn:Bool)(last first maxt prod epoch sq:Int)(recs:List RecS)(l:List (RecS×Value))(q:Option Addr)(cap:Nat)(hl:l.map (·.1)=recs)(n1 n2 n3 n4 n5:Int)(he:zCD (⟨base,leader,app,txn,true,last,first,maxt,prod,epoch,sq,recs⟩:BatS)=(n1,n2,n3,n4,n5,true))(hk1:n3=1)(so:EncOk (⟨base,leader,app,txn,true,last,first,maxt,prod,epoch,sq,recs⟩:BatS))(tl:Bs)(htl:zBn (⟨base,leader,app,txn,true,last,first,maxt,prod,epoch,sq,recs⟩:BatS)=tl)(hk:K.has (Know.recs (Ja q l.length cap) l))(h:St W0 w K L):
 Calls Jd 33 #[.agg #[I O base,I O leader,U app,U txn,U true,I O last,I O first,I O maxt,I O prod,I O epoch,I O sq,Ja q l.length cap]] w fun en w'=>en=Jb (Z (bb tl))∧St W0 w' K L:=by
 obtain⟨tb,htb⟩:=eX w.heap.size;have g1:=h.allocRaw #[I O base,I O leader,U app,U txn,U true,I O last,I O first,I O maxt,I O prod,I O epoch,I O sq,Ja q l.length cap] 30;rw[htb]at g1;obtain⟨y0,y1,y2,y3,y4,y5,y6,y7,y8,y9,y10,y11⟩:=uR12 g1;simp at y0 y1 y2 y3 y4 y5 y6 y7 y8 y9 y10 y11;obtain⟨d1,hd1⟩:=eX (numW base);obtain⟨d2,hd2⟩:=eX (numW prod);obtain⟨d3,hd3⟩:=eX (numW (l.length:Int));obtain⟨d5,hd5⟩:=eX (numW n5);have hR:=so.rng;have hlen:(recs.length:Int)=(l.length:Int):=by rw[←hl,Jn]
 have hll:=so.llen hl;have r1:Rn base:=hR.1;have r2:Rn prod:=hR.2.2.2.2.2.1;have r3:Rn (l.length:Int):=by unfold Rn;omega
 have r5:=zEz he;have m1:=zAk _ r1;have m2:=zAk _ r2;have m3:=zAk _ r3;have m5:=zAk _ r5;rw[hd1]at m1;rw[hd2]at m2;rw[hd3]at m3;rw[hd5]at m5;have hab:(97::98::111::114::116::32::d5:Bs).length≤50:=by simp only[Jg];omega
 obtain⟨wa,hwa⟩:∃B:Bs,[97,98,111,114,116,32]++d5=B:=⟨_,rfl⟩;have ga:¬(9223372036854775807<6+d5.length):=by omega
 have ka:(⟨#[97,98,111,114,116,32]⟩:ByteArray)++bb d5=bb wa:=by rw[←hwa];exact zAc _ _
 obtain⟨wt,hwt⟩:∃B:Bs,[99,111,109,109,105,116,32]++d5=B:=⟨_,rfl⟩;have gc:¬(9223372036854775807<7+d5.length):=by omega
 have kc:(⟨#[99,111,109,109,105,116,32]⟩:ByteArray)++bb d5=bb wt:=by rw[←hwt];exact zAc _ _
 have hwl:=congrArg Jh hwt;simp only[Je,Jg,Jl]at hwl;have e1:(n3==1)=true:=by rw[beq_iff_eq];exact hk1
 obtain⟨P1,hP1⟩:∃B:Bs,[98,97,116,99,104,32]++d1=B:=⟨_,rfl⟩;obtain⟨P2,hP2⟩:∃B:Bs,P1++[32]=B:=⟨_,rfl⟩;obtain⟨P3,hP3⟩:∃B:Bs,P2++d2=B:=⟨_,rfl⟩;obtain⟨P4,hP4⟩:∃B:Bs,P3++[32]=B:=⟨_,rfl⟩;obtain⟨P5,hP5⟩:∃B:Bs,P4++d3=B:=⟨_,rfl⟩;obtain⟨P6,hP6⟩:∃B:Bs,P5++[32]=B:=⟨_,rfl⟩;obtain⟨P7,hP7⟩:∃B:Bs,P6++wt=B:=⟨_,rfl⟩;obtain⟨P8,hP8⟩:∃B:Bs,P7++[10]=B:=⟨_,rfl⟩;have eP1:=congrArg Jh hP1;have eP2:=congrArg Jh hP2;have eP3:=congrArg Jh hP3;have eP4:=congrArg Jh hP4;have eP5:=congrArg Jh hP5;have eP6:=congrArg Jh hP6;have eP7:=congrArg Jh hP7;have eP8:=congrArg Jh hP8;simp only[Je,Jg,Jl]at eP1 eP2 eP3 eP4 eP5 eP6 eP7 eP8;have gP1:¬(9223372036854775807<6+d1.length):=by omega
 have kP1:(⟨#[98,97,116,99,104,32]⟩:ByteArray)++bb d1=bb P1:=by rw[←hP1];exact zAc _ _
 have gP2:¬(9223372036854775807<P1.length+1):=by omega
 have kP2:bb P1++(⟨#[32]⟩:ByteArray)=bb P2:=by rw[←hP2];exact zAc _ _
 have gP3:¬(9223372036854775807<P2.length+d2.length):=by omega
 have kP3:bb P2++bb d2=bb P3:=by rw[←hP3];exact zAc _ _
 have gP4:¬(9223372036854775807<P3.length+1):=by omega
 have kP4:bb P3++(⟨#[32]⟩:ByteArray)=bb P4:=by rw[←hP4];exact zAc _ _
 have gP5:¬(9223372036854775807<P4.length+d3.length):=by omega
 have kP5:bb P4++bb d3=bb P5:=by rw[←hP5];exact zAc _ _
 have gP6:¬(9223372036854775807<P5.length+1):=by omega
 have kP6:bb P5++(⟨#[32]⟩:ByteArray)=bb P6:=by rw[←hP6];exact zAc _ _
 have gP7:¬(9223372036854775807<P6.length+wt.length):=by omega
 have kP7:bb P6++bb wt=bb P7:=by rw[←hP7];exact zAc _ _
 have gP8:¬(9223372036854775807<P7.length+1):=by omega
 have kP8:bb P7++(⟨#[10]⟩:ByteArray)=bb P8:=by rw[←hP8];exact zAc _ _
 have HTL:=hQd (show P8=tl by
  rw[←htl];unfold zBn zLi;rw[zEk he hk1];simp only[hlen,hd1,hd2,hd3,hd5];rw[←hP8,←hP7,←hP6,←hP5,←hP4,←hP3,←hP2,←hP1,←hwt]
  simp[zAN])
 have HRB:=hQd r1;have HRP:=hQd r2;have HRL:=hQd r3;have HR5:=hQd r5;have HD1:=hQd hd1;have HD2:=hQd hd2;have HD3:=hQd hd3;have HD5:=hQd hd5;have HL:=hQd hl;have HSO:=hQd so;have HK:=hQd hk;have KP:=hQd (show ∀(w':World) (L':List Res),St W0 w' K (.raw tb #[I O base,I O leader,U app,U txn,U true,I O last,I O first,I O maxt,I O prod,I O epoch,I O sq,Ja q l.length cap] 30::L')→(w'.cell? ⟨tb,0,none⟩=some (I O base)∧w'.cell? ⟨tb,8,none⟩=some (I O prod)∧w'.cell? ⟨tb,11,none⟩=some (Ja q l.length cap))from fun w' L' h'=>⟨h'.rawCell 0,h'.rawCell 8,h'.rawCell 11⟩);have H:=hQd g1;obtain⟨x,hx,hx0,_,_⟩:=zEb _ so.err rfl;have hx:recs=[x]:=hx;obtain⟨e3,he3⟩:=eX ((zCh x).2.2);have he2:=he;unfold zCD at he2;rw[if_pos ⟨rfl,so.err⟩]at he2;simp only[hx]at he2;have hn3:(zCh x).1=n3:=congrArg (fun z=>z.2.2.1) he2;have hn5:(zCh x).2.1=n5:=congrArg (fun z=>z.2.2.2.2.1) he2;have HCR:=hQd (show zB2 x.key.null x.val.null x.key.data x.val.data x.hdrs.length x.off=(n3,n5,e3)from Prod.ext hn3 (Prod.ext hn5 he3));have hmem:x∈recs:=by rw[hx];simp
 have hxs:=(so.recs x hmem).2.2;have HKD:=hQd (show x.key.data.length≤140737488355328 by unfold RecS.sum at hxs;omega);have HVD:=hQd (show x.val.data.length≤140737488355328 by unfold RecS.sum at hxs;omega)
 obtain⟨⟨x',v⟩,hlx⟩:∃y,l=[y]:=by
  rw[hx]at hl
  match l,hl with
  |[y],_=>exact⟨y,rfl⟩
 have hx':x'=x:=by rw[hlx,hx]at hl;simpa using hl
 subst hx';have hl0:0<l.length:=by rw[hlx];simp
 have hlg:l[0]=(x',v):=by simp[hlx]
 obtain⟨eb,eo,hqq⟩:=zBH hk g1 hl0;subst hqq;have hHK0:=zAX hk (x:=(x',v)) (by rw[hlx];simp);obtain⟨hq,hcap,hvh⟩:=zEy hHK0 g1;simp only at hvh;subst hvh
 have KR:=hQd (show ∀(w':World) (L':List Res),St W0 w' K L'→(w'.cell? ⟨eb,eo,none⟩=some (I O x'.time)∧w'.cell? ⟨eb,eo+1,none⟩=some (I O x'.off)∧w'.cell? ⟨eb,eo+2,none⟩=some (U x'.key.null)∧w'.cell? ⟨eb,eo+3,none⟩=some (Z (bb x'.key.data))∧w'.cell? ⟨eb,eo+4,none⟩=some (U x'.val.null)∧w'.cell? ⟨eb,eo+5,none⟩=some (Z (bb x'.val.data))∧w'.cell? ⟨eb,eo+6,none⟩=some (Ja hq x'.hdrs.length hcap))from fun w' L' h'=>by
  have cc:=zAQ hk h' 0 hl0 _ hlg;simp only[←Jm,Nat.zero_mul,Nat.add_zero]at cc
  exact cc)
 have hlli:(0:Int)<(l.length:Int):=by omega
 clear h g1 hk hl he so htl hd1 hd2 hd3 hd5 hR hlen hll r1 r2 r3 r5 m1 m2 m3 m5 hP1 hP2 hP3 hP4 hP5 hP6 hP7 hP8 eP1 eP2 eP3 eP4 eP5 eP6 eP7 eP8 hab hwt hwl hwa hx hx0 he3 he2 hn3 hn5 hmem hxs hlx hl0 hlg hHK0 hk1;go_enter Tryz.func33,Tryz.ntmps33
 go_upto_region 7 with (first
  |(go_at_call 8;(try clear y0 y1 y2 y3 y4 y5 y6 y7 y8 y9 y10 y11);(with_reducible refine(zQg base leader app txn last first maxt prod epoch sq recs l (some ⟨eb,eo,none⟩) cap HL.out HSO.out HK.out H.out).mono ?_);rintro e_ wn ⟨rfl,h⟩;obtain⟨y0,y1,y2,y3,y4,y5,y6,y7,y8,y9,y10,y11⟩:=uR12 h;simp at y0 y1 y2 y3 y4 y5 y6 y7 y8 y9 y10 y11;obtain⟨c0,c1,c2,c3,c4,c5,c6⟩:=KR.out _ _ h;replace H:=hQd h;clear h)
  |(go_at_call 26;(with_reducible refine(zGW x'.time x'.off x'.key.null x'.val.null x'.key.data x'.val.data hq x'.hdrs.length hcap n3 n5 e3 HCR.out HKD.out HVD.out H.out).zM ?_);clear H;intro wn H)
  |(go_at_call 9;(with_reducible refine(zBg n5 HR5.out d5 HD5.out H.out).zM ?_);clear H;intro wn H))
 have hs:=H.out.drew;clear H y0 y1 y2 y3 y4 y5 y6 y7 y8 y9 y10 y11;refine wp_region_held_drew (S:=fun w'=>w'.cell? ⟨tb,0,none⟩=some (I O base)∧w'.cell? ⟨tb,8,none⟩=some (I O prod)∧w'.cell? ⟨tb,11,none⟩=some (Ja (some ⟨eb,eo,none⟩) l.length cap)) kR (KP.out _ _ hs) (fun hHeld=> ?_);refine tR 0 ?_;refine tR 1 ?_;refine tR 5 ?_;refine tR 6 ?_;refine tR 10 ?_;refine tR 11 ?_;refine tR 12 ?_;refine tR 16 ?_;refine wR [2] (rC rfl (fun KK hK=> ?_) rN);go_simp;go_at_call 9;with_reducible refine(zBg base HRB.out d1 HD1.out hs).mono ?_;rintro e wq ⟨rfl,hs⟩;refine zK hK (KP.out _ _ hs) (fun hHeld=> ?_);clear hK KK
 refine tR 3 ?_;refine tR 4 ?_;refine wR [7] (rC rfl (fun KK hK=> ?_) rN);go_simp;go_at_call 9;with_reducible refine(zBg prod HRP.out d2 HD2.out hs).mono ?_;rintro e wq ⟨rfl,hs⟩;refine zK hK (KP.out _ _ hs) (fun hHeld=> ?_);clear hK KK
 refine tR 8 ?_;refine tR 9 ?_;refine wR [13] (rC rfl (fun KK hK=> ?_) rN);go_simp;go_at_call 9;with_reducible refine(zBg (l.length:Int) HRL.out d3 HD3.out hs).mono ?_;rintro e wq ⟨rfl,hs⟩;refine zK hK (KP.out _ _ hs) (fun hHeld=> ?_);clear hK KK
 refine tR 14 ?_;refine tR 15 ?_;refine tR 17 ?_;refine tR 18 ?_;refine tR 19 ?_;refine wpAnyH_done kR ?_ _;clear hHeld;have H:=hQd hs;clear hs;go_wp2_with fail;go_ret;exact⟨by rw[←HTL.out];rfl,H.out.drop⟩
theorem zJn(base leader:Int)(app txn:Bool)(last first maxt prod epoch sq:Int)(recs:List RecS)(l:List (RecS×Value))(q:Option Addr)(cap:Nat)(hl:l.map (·.1)=recs)(n1 n2 n3 n4 n5:Int)(he:zCD (⟨base,leader,app,txn,true,last,first,maxt,prod,epoch,sq,recs⟩:BatS)=(n1,n2,n3,n4,n5,true))(hk1:¬n3=1)(so:EncOk (⟨base,leader,app,txn,true,last,first,maxt,prod,epoch,sq,recs⟩:BatS))(tl:Bs)(htl:zBn (⟨base,leader,app,txn,true,last,first,maxt,prod,epoch,sq,recs⟩:BatS)=tl)(hk:K.has (Know.recs (Ja q l.length cap) l))(h:St W0 w K L):
 Calls Jd 33 #[.agg #[I O base,I O leader,U app,U txn,U true,I O last,I O first,I O maxt,I O prod,I O epoch,I O sq,Ja q l.length cap]] w fun en w'=>en=Jb (Z (bb tl))∧St W0 w' K L:=by
 obtain⟨tb,htb⟩:=eX w.heap.size;have g1:=h.allocRaw #[I O base,I O leader,U app,U txn,U true,I O last,I O first,I O maxt,I O prod,I O epoch,I O sq,Ja q l.length cap] 30;rw[htb]at g1;obtain⟨y0,y1,y2,y3,y4,y5,y6,y7,y8,y9,y10,y11⟩:=uR12 g1;simp at y0 y1 y2 y3 y4 y5 y6 y7 y8 y9 y10 y11;obtain⟨d1,hd1⟩:=eX (numW base);obtain⟨d2,hd2⟩:=eX (numW prod);obtain⟨d3,hd3⟩:=eX (numW (l.length:Int));obtain⟨d5,hd5⟩:=eX (numW n5);have hR:=so.rng;have hlen:(recs.length:Int)=(l.length:Int):=by rw[←hl,Jn]
 have hll:=so.llen hl;have r1:Rn base:=hR.1;have r2:Rn prod:=hR.2.2.2.2.2.1;have r3:Rn (l.length:Int):=by unfold Rn;omega
 have r5:=zEz he;have m1:=zAk _ r1;have m2:=zAk _ r2;have m3:=zAk _ r3;have m5:=zAk _ r5;rw[hd1]at m1;rw[hd2]at m2;rw[hd3]at m3;rw[hd5]at m5;have hab:(97::98::111::114::116::32::d5:Bs).length≤50:=by simp only[Jg];omega
 obtain⟨wt,hwt⟩:∃B:Bs,[97,98,111,114,116,32]++d5=B:=⟨_,rfl⟩;have ga:¬(9223372036854775807<6+d5.length):=by omega
 have ka:(⟨#[97,98,111,114,116,32]⟩:ByteArray)++bb d5=bb wt:=by rw[←hwt];exact zAc _ _
 have hwl:=congrArg Jh hwt;simp only[Je,Jg,Jl]at hwl;have e1:(n3==1)=false:=by rw[beq_eq_false_iff_ne];exact hk1
 obtain⟨P1,hP1⟩:∃B:Bs,[98,97,116,99,104,32]++d1=B:=⟨_,rfl⟩;obtain⟨P2,hP2⟩:∃B:Bs,P1++[32]=B:=⟨_,rfl⟩;obtain⟨P3,hP3⟩:∃B:Bs,P2++d2=B:=⟨_,rfl⟩;obtain⟨P4,hP4⟩:∃B:Bs,P3++[32]=B:=⟨_,rfl⟩;obtain⟨P5,hP5⟩:∃B:Bs,P4++d3=B:=⟨_,rfl⟩;obtain⟨P6,hP6⟩:∃B:Bs,P5++[32]=B:=⟨_,rfl⟩;obtain⟨P7,hP7⟩:∃B:Bs,P6++wt=B:=⟨_,rfl⟩;obtain⟨P8,hP8⟩:∃B:Bs,P7++[10]=B:=⟨_,rfl⟩;have eP1:=congrArg Jh hP1;have eP2:=congrArg Jh hP2;have eP3:=congrArg Jh hP3;have eP4:=congrArg Jh hP4;have eP5:=congrArg Jh hP5;have eP6:=congrArg Jh hP6;have eP7:=congrArg Jh hP7;have eP8:=congrArg Jh hP8;simp only[Je,Jg,Jl]at eP1 eP2 eP3 eP4 eP5 eP6 eP7 eP8;have gP1:¬(9223372036854775807<6+d1.length):=by omega
 have kP1:(⟨#[98,97,116,99,104,32]⟩:ByteArray)++bb d1=bb P1:=by rw[←hP1];exact zAc _ _
 have gP2:¬(9223372036854775807<P1.length+1):=by omega
 have kP2:bb P1++(⟨#[32]⟩:ByteArray)=bb P2:=by rw[←hP2];exact zAc _ _
 have gP3:¬(9223372036854775807<P2.length+d2.length):=by omega
 have kP3:bb P2++bb d2=bb P3:=by rw[←hP3];exact zAc _ _
 have gP4:¬(9223372036854775807<P3.length+1):=by omega
 have kP4:bb P3++(⟨#[32]⟩:ByteArray)=bb P4:=by rw[←hP4];exact zAc _ _
 have gP5:¬(9223372036854775807<P4.length+d3.length):=by omega
 have kP5:bb P4++bb d3=bb P5:=by rw[←hP5];exact zAc _ _
 have gP6:¬(9223372036854775807<P5.length+1):=by omega
 have kP6:bb P5++(⟨#[32]⟩:ByteArray)=bb P6:=by rw[←hP6];exact zAc _ _
 have gP7:¬(9223372036854775807<P6.length+wt.length):=by omega
 have kP7:bb P6++bb wt=bb P7:=by rw[←hP7];exact zAc _ _
 have gP8:¬(9223372036854775807<P7.length+1):=by omega
 have kP8:bb P7++(⟨#[10]⟩:ByteArray)=bb P8:=by rw[←hP8];exact zAc _ _
 have HTL:=hQd (show P8=tl by
  rw[←htl];unfold zBn zLi;rw[zFe he hk1];simp only[hlen,hd1,hd2,hd3,hd5];rw[←hP8,←hP7,←hP6,←hP5,←hP4,←hP3,←hP2,←hP1,←hwt]
  simp[zAN])
 have HRB:=hQd r1;have HRP:=hQd r2;have HRL:=hQd r3;have HR5:=hQd r5;have HD1:=hQd hd1;have HD2:=hQd hd2;have HD3:=hQd hd3;have HD5:=hQd hd5;have HL:=hQd hl;have HSO:=hQd so;have HK:=hQd hk;have KP:=hQd (show ∀(w':World) (L':List Res),St W0 w' K (.raw tb #[I O base,I O leader,U app,U txn,U true,I O last,I O first,I O maxt,I O prod,I O epoch,I O sq,Ja q l.length cap] 30::L')→(w'.cell? ⟨tb,0,none⟩=some (I O base)∧w'.cell? ⟨tb,8,none⟩=some (I O prod)∧w'.cell? ⟨tb,11,none⟩=some (Ja q l.length cap))from fun w' L' h'=>⟨h'.rawCell 0,h'.rawCell 8,h'.rawCell 11⟩);have H:=hQd g1;obtain⟨x,hx,hx0,_,_⟩:=zEb _ so.err rfl;have hx:recs=[x]:=hx;obtain⟨e3,he3⟩:=eX ((zCh x).2.2);have he2:=he;unfold zCD at he2;rw[if_pos ⟨rfl,so.err⟩]at he2;simp only[hx]at he2;have hn3:(zCh x).1=n3:=congrArg (fun z=>z.2.2.1) he2;have hn5:(zCh x).2.1=n5:=congrArg (fun z=>z.2.2.2.2.1) he2;have HCR:=hQd (show zB2 x.key.null x.val.null x.key.data x.val.data x.hdrs.length x.off=(n3,n5,e3)from Prod.ext hn3 (Prod.ext hn5 he3));have hmem:x∈recs:=by rw[hx];simp
 have hxs:=(so.recs x hmem).2.2;have HKD:=hQd (show x.key.data.length≤140737488355328 by unfold RecS.sum at hxs;omega);have HVD:=hQd (show x.val.data.length≤140737488355328 by unfold RecS.sum at hxs;omega)
 obtain⟨⟨x',v⟩,hlx⟩:∃y,l=[y]:=by
  rw[hx]at hl
  match l,hl with
  |[y],_=>exact⟨y,rfl⟩
 have hx':x'=x:=by rw[hlx,hx]at hl;simpa using hl
 subst hx';have hl0:0<l.length:=by rw[hlx];simp
 have hlg:l[0]=(x',v):=by simp[hlx]
 obtain⟨eb,eo,hqq⟩:=zBH hk g1 hl0;subst hqq;have hHK0:=zAX hk (x:=(x',v)) (by rw[hlx];simp);obtain⟨hq,hcap,hvh⟩:=zEy hHK0 g1;simp only at hvh;subst hvh
 have KR:=hQd (show ∀(w':World) (L':List Res),St W0 w' K L'→(w'.cell? ⟨eb,eo,none⟩=some (I O x'.time)∧w'.cell? ⟨eb,eo+1,none⟩=some (I O x'.off)∧w'.cell? ⟨eb,eo+2,none⟩=some (U x'.key.null)∧w'.cell? ⟨eb,eo+3,none⟩=some (Z (bb x'.key.data))∧w'.cell? ⟨eb,eo+4,none⟩=some (U x'.val.null)∧w'.cell? ⟨eb,eo+5,none⟩=some (Z (bb x'.val.data))∧w'.cell? ⟨eb,eo+6,none⟩=some (Ja hq x'.hdrs.length hcap))from fun w' L' h'=>by
  have cc:=zAQ hk h' 0 hl0 _ hlg;simp only[←Jm,Nat.zero_mul,Nat.add_zero]at cc
  exact cc)
 have hlli:(0:Int)<(l.length:Int):=by omega
 clear h g1 hk hl he so htl hd1 hd2 hd3 hd5 hR hlen hll r1 r2 r3 r5 m1 m2 m3 m5 hP1 hP2 hP3 hP4 hP5 hP6 hP7 hP8 eP1 eP2 eP3 eP4 eP5 eP6 eP7 eP8 hab hwt hwl hx hx0 he3 he2 hn3 hn5 hmem hxs hlx hl0 hlg hHK0 hk1;go_enter Tryz.func33,Tryz.ntmps33
 go_upto_region 7 with (first
  |(go_at_call 8;(try clear y0 y1 y2 y3 y4 y5 y6 y7 y8 y9 y10 y11);(with_reducible refine(zQg base leader app txn last first maxt prod epoch sq recs l (some ⟨eb,eo,none⟩) cap HL.out HSO.out HK.out H.out).mono ?_);rintro e_ wn ⟨rfl,h⟩;obtain⟨y0,y1,y2,y3,y4,y5,y6,y7,y8,y9,y10,y11⟩:=uR12 h;simp at y0 y1 y2 y3 y4 y5 y6 y7 y8 y9 y10 y11;obtain⟨c0,c1,c2,c3,c4,c5,c6⟩:=KR.out _ _ h;replace H:=hQd h;clear h)
  |(go_at_call 26;(with_reducible refine(zGW x'.time x'.off x'.key.null x'.val.null x'.key.data x'.val.data hq x'.hdrs.length hcap n3 n5 e3 HCR.out HKD.out HVD.out H.out).zM ?_);clear H;intro wn H)
  |(go_at_call 9;(with_reducible refine(zBg n5 HR5.out d5 HD5.out H.out).zM ?_);clear H;intro wn H))
 have hs:=H.out.drew;clear H y0 y1 y2 y3 y4 y5 y6 y7 y8 y9 y10 y11;refine wp_region_held_drew (S:=fun w'=>w'.cell? ⟨tb,0,none⟩=some (I O base)∧w'.cell? ⟨tb,8,none⟩=some (I O prod)∧w'.cell? ⟨tb,11,none⟩=some (Ja (some ⟨eb,eo,none⟩) l.length cap)) kR (KP.out _ _ hs) (fun hHeld=> ?_);refine tR 0 ?_;refine tR 1 ?_;refine tR 5 ?_;refine tR 6 ?_;refine tR 10 ?_;refine tR 11 ?_;refine tR 12 ?_;refine tR 16 ?_;refine wR [2] (rC rfl (fun KK hK=> ?_) rN);go_simp;go_at_call 9;with_reducible refine(zBg base HRB.out d1 HD1.out hs).mono ?_;rintro e wq ⟨rfl,hs⟩;refine zK hK (KP.out _ _ hs) (fun hHeld=> ?_);clear hK KK
 refine tR 3 ?_;refine tR 4 ?_;refine wR [7] (rC rfl (fun KK hK=> ?_) rN);go_simp;go_at_call 9;with_reducible refine(zBg prod HRP.out d2 HD2.out hs).mono ?_;rintro e wq ⟨rfl,hs⟩;refine zK hK (KP.out _ _ hs) (fun hHeld=> ?_);clear hK KK
 refine tR 8 ?_;refine tR 9 ?_;refine wR [13] (rC rfl (fun KK hK=> ?_) rN);go_simp;go_at_call 9;with_reducible refine(zBg (l.length:Int) HRL.out d3 HD3.out hs).mono ?_;rintro e wq ⟨rfl,hs⟩;refine zK hK (KP.out _ _ hs) (fun hHeld=> ?_);clear hK KK
 refine tR 14 ?_;refine tR 15 ?_;refine tR 17 ?_;refine tR 18 ?_;refine tR 19 ?_;refine wpAnyH_done kR ?_ _;clear hHeld;have H:=hQd hs;clear hs;go_wp2_with fail;go_ret;exact⟨by rw[←HTL.out];rfl,H.out.drop⟩
theorem zTp(b:BatS)(l:List (RecS×Value))(q:Option Addr)(cap:Nat)(hl:l.map (·.1)=b.recs)(so:EncOk b)(tl:Bs)(htl:zBn b=tl)(hk:K.has (Know.recs (Ja q l.length cap) l))(h:St W0 w K L):
 Calls Jd 33 #[.agg #[I O b.base,I O b.leader,U b.app,U b.txn,U b.ctl,I O b.last,I O b.first,I O b.maxt,I O b.prod,I O b.epoch,I O b.seq,Ja q l.length cap]] w fun en w'=>en=Jb (Z (bb tl))∧St W0 w' K L:=by
 obtain⟨⟨n1,n2,n3,n4,n5,ok⟩,he⟩:∃y,zCD b=y:=⟨_,rfl⟩;obtain⟨base,leader,app,txn,ctl,last,first,maxt,prod,epoch,sq,recs⟩:=b
 cases ctl with
 |false=>
  have hok:ok=false:=by
   have h2:=he;unfold zCD at h2;rw[if_neg sM]at h2;exact(congrArg (fun z=>z.2.2.2.2.2) h2).symm
  subst hok;exact zKx base leader app txn last first maxt prod epoch sq recs l q cap hl n1 n2 n3 n4 n5 he so tl htl hk h
 |true=>
  have hok:ok=true:=by
   have h2:=he;obtain⟨x,hx,_⟩:=zEb _ so.err rfl;have hx:recs=[x]:=hx;unfold zCD at h2;rw[if_pos ⟨rfl,so.err⟩]at h2;simp only[hx]at h2;exact(congrArg (fun z=>z.2.2.2.2.2) h2).symm
  subst hok
  by_cases hk1:n3=1
  ·exact zH6 base leader app txn last first maxt prod epoch sq recs l q cap hl n1 n2 n3 n4 n5 he hk1 so tl htl hk h
  ·exact zJn base leader app txn last first maxt prod epoch sq recs l q cap hl n1 n2 n3 n4 n5 he hk1 so tl htl hk h
variable {W0 w:World}{K:Know}{L:List Res}
theorem zTs(V e:Int)(st:Int)(hst:st=0)(hV:Rn V)(he:Rn e)(tl:Bs)(htl:zAN 32 [[118,97,108,105,100],numW V,[99,108,101,97,110]]++[10]=tl)(h:St W0 w K L):
 Calls Jd 34 #[I O V,I O st,I O e] w fun en w'=>en=Jb (Z (bb tl))∧St W0 w' K L:=by
 obtain⟨d2,hd2⟩:=eX (numW V);obtain⟨d4,hd4⟩:=eX (numW e);have n2:=zAk V hV;have n4:=zAk e he;rw[hd2]at n2;rw[hd4]at n4;obtain⟨P1,hP1⟩:∃B:Bs,[118,97,108,105,100,32]++d2=B:=⟨_,rfl⟩;obtain⟨P2,hP2⟩:∃B:Bs,P1++[32,99,108,101,97,110,10]=B:=⟨_,rfl⟩;have eP1:=congrArg Jh hP1;have eP2:=congrArg Jh hP2;simp only[Je,Jg,Jl]at eP1 eP2;have gP1:¬(9223372036854775807<6+d2.length):=by omega
 have kP1:(⟨#[118,97,108,105,100,32]⟩:ByteArray)++bb d2=bb P1:=by rw[←hP1];exact zAc _ _
 have gP2:¬(9223372036854775807<P1.length+7):=by omega
 have kP2:bb P1++(⟨#[32,99,108,101,97,110,10]⟩:ByteArray)=bb P2:=by rw[←hP2];exact zAc _ _
 have HTL:=hQd (show P2=tl by rw[←htl,←hP2,←hP1,←hd2];simp[zAN]);have H:=hQd h;have HVR:=hQd hV;have HER:=hQd he;have HD2:=hQd hd2;have HD4:=hQd hd4;have t1:True:=trivial;subst hst;have q1:((0:Int)==0)=true:=rfl;clear h hV he hd2 hd4 htl n2 n4 hP1 eP1 hP2 eP2;go_enter Tryz.func34,Tryz.ntmps34
 go_wp2_with (first
  |(go_at_call 9;have _t:=t1;clear _t;(with_reducible refine(zBg V HVR.out d2 HD2.out H.out).zM ?_);clear H;intro wn H;clear t1))
 go_ret;exact⟨by rw[←HTL.out];rfl,H.out⟩
theorem zTr(V e:Int)(st:Int)(hst:st=1)(hV:Rn V)(he:Rn e)(tl:Bs)(htl:zAN 32 [[118,97,108,105,100],numW V,[116,111,114,110]]++[10]=tl)(h:St W0 w K L):
 Calls Jd 34 #[I O V,I O st,I O e] w fun en w'=>en=Jb (Z (bb tl))∧St W0 w' K L:=by
 obtain⟨d2,hd2⟩:=eX (numW V);obtain⟨d4,hd4⟩:=eX (numW e);have n2:=zAk V hV;have n4:=zAk e he;rw[hd2]at n2;rw[hd4]at n4;obtain⟨P1,hP1⟩:∃B:Bs,[118,97,108,105,100,32]++d2=B:=⟨_,rfl⟩;obtain⟨P2,hP2⟩:∃B:Bs,P1++[32,116,111,114,110,10]=B:=⟨_,rfl⟩;have eP1:=congrArg Jh hP1;have eP2:=congrArg Jh hP2;simp only[Je,Jg,Jl]at eP1 eP2;have gP1:¬(9223372036854775807<6+d2.length):=by omega
 have kP1:(⟨#[118,97,108,105,100,32]⟩:ByteArray)++bb d2=bb P1:=by rw[←hP1];exact zAc _ _
 have gP2:¬(9223372036854775807<P1.length+6):=by omega
 have kP2:bb P1++(⟨#[32,116,111,114,110,10]⟩:ByteArray)=bb P2:=by rw[←hP2];exact zAc _ _
 have HTL:=hQd (show P2=tl by rw[←htl,←hP2,←hP1,←hd2];simp[zAN]);have H:=hQd h;have HVR:=hQd hV;have HER:=hQd he;have HD2:=hQd hd2;have HD4:=hQd hd4;have t1:True:=trivial;subst hst;have q1:((1:Int)==0)=false:=rfl;have q2:((1:Int)==1)=true:=rfl;clear h hV he hd2 hd4 htl n2 n4 hP1 eP1 hP2 eP2;go_enter Tryz.func34,Tryz.ntmps34
 go_wp2_with (first
  |(go_at_call 9;have _t:=t1;clear _t;(with_reducible refine(zBg V HVR.out d2 HD2.out H.out).zM ?_);clear H;intro wn H;clear t1))
 go_ret;exact⟨by rw[←HTL.out];rfl,H.out⟩
theorem zTq(V e:Int)(st:Int)(hs0:¬st=0)(hs1:¬st=1)(hV:Rn V)(he:Rn e)(tl:Bs)(htl:zAN 32 [[118,97,108,105,100],numW V,[98,97,100],numW e]++[10]=tl)(h:St W0 w K L):
 Calls Jd 34 #[I O V,I O st,I O e] w fun en w'=>en=Jb (Z (bb tl))∧St W0 w' K L:=by
 obtain⟨d2,hd2⟩:=eX (numW V);obtain⟨d4,hd4⟩:=eX (numW e);have n2:=zAk V hV;have n4:=zAk e he;rw[hd2]at n2;rw[hd4]at n4;obtain⟨P1,hP1⟩:∃B:Bs,[118,97,108,105,100,32]++d2=B:=⟨_,rfl⟩;obtain⟨P2,hP2⟩:∃B:Bs,P1++[32,98,97,100,32]=B:=⟨_,rfl⟩;obtain⟨P3,hP3⟩:∃B:Bs,P2++d4=B:=⟨_,rfl⟩;obtain⟨P4,hP4⟩:∃B:Bs,P3++[10]=B:=⟨_,rfl⟩;have eP1:=congrArg Jh hP1;have eP2:=congrArg Jh hP2;have eP3:=congrArg Jh hP3;have eP4:=congrArg Jh hP4;simp only[Je,Jg,Jl]at eP1 eP2 eP3 eP4;have gP1:¬(9223372036854775807<6+d2.length):=by omega
 have kP1:(⟨#[118,97,108,105,100,32]⟩:ByteArray)++bb d2=bb P1:=by rw[←hP1];exact zAc _ _
 have gP2:¬(9223372036854775807<P1.length+5):=by omega
 have kP2:bb P1++(⟨#[32,98,97,100,32]⟩:ByteArray)=bb P2:=by rw[←hP2];exact zAc _ _
 have gP3:¬(9223372036854775807<P2.length+d4.length):=by omega
 have kP3:bb P2++bb d4=bb P3:=by rw[←hP3];exact zAc _ _
 have gP4:¬(9223372036854775807<P3.length+1):=by omega
 have kP4:bb P3++(⟨#[10]⟩:ByteArray)=bb P4:=by rw[←hP4];exact zAc _ _
 have HTL:=hQd (show P4=tl by rw[←htl,←hP4,←hP3,←hP2,←hP1,←hd2,←hd4];simp[zAN]);have H:=hQd h;have HVR:=hQd hV;have HER:=hQd he;have HD2:=hQd hd2;have HD4:=hQd hd4;have t1:True:=trivial;have q1:(st==0)=false:=by rw[beq_eq_false_iff_ne];exact hs0
 have q2:(st==1)=false:=by rw[beq_eq_false_iff_ne];exact hs1
 clear h hV he hd2 hd4 htl n2 n4 hP1 eP1 hP2 eP2 hP3 eP3 hP4 eP4 hs0 hs1;go_enter Tryz.func34,Tryz.ntmps34
 go_wp2_with (first
  |(go_at_call 9;have _t:=t1;clear _t;(with_reducible refine(zBg V HVR.out d2 HD2.out H.out).zM ?_);clear H;intro wn H;clear t1)
  |(go_at_call 9;(with_reducible refine(zBg e HER.out d4 HD4.out H.out).zM ?_);clear H;intro wn H))
 go_ret;exact⟨by rw[←HTL.out];rfl,H.out⟩
theorem rr_end(V st e:Int)(hV:Rn V)(he:Rn e)(tl:Bs)(htl:endT V st e=tl)(h:St W0 w K L):
 Calls Jd 34 #[I O V,I O st,I O e] w fun en w'=>en=Jb (Z (bb tl))∧St W0 w' K L:=by
 unfold endT endW at htl
 by_cases h0:st=0
 ·rw[if_pos h0]at htl;exact zTs V e st h0 hV he tl htl h
 by_cases h1:st=1
 ·rw[if_neg h0,if_pos h1]at htl;exact zTr V e st h1 hV he tl htl h
 ·rw[if_neg h0,if_neg h1]at htl;exact zTq V e st h0 h1 hV he tl htl h
set_option maxHeartbeats 16000000
theorem zTo{A T:Bs}{bs:List BatS}{pv:Nat}{rest:Bs}{pe ps:Int}(tk:ToldOk A T bs pv rest pe ps){W0 w:World}{K:Know}{L:List Res}(h:St W0 w K L):
 Calls Jd 11 #[Z (bb A)] w fun en w'=>en=Jb (Z (bb T))∧St W0 w' K L:=by
 have hsm:=zJh bs tk.ok;have hbl:=tk.blen;have hp0:Rn (sumE bs):=by unfold Rn;omega
 have hq0:Rn (sumR bs):=by unfold Rn;omega
 have hTl:T.length≤1000000:=by rw[←tk.txt];exact zKk bs _ ps pe tk.ok tk.blen tk.rv tk.re hp0 hq0
 obtain⟨P,hP⟩:=eX (sumE bs);obtain⟨Q,hQ⟩:=eX (sumR bs);obtain⟨tl,htl⟩:=eX (totT P Q);obtain⟨tn,htn⟩:=eX (endT (pv:Nat) ps pe);obtain⟨d1,hd1⟩:=eX (numW P);obtain⟨d2,hd2⟩:=eX (numW Q);have hT2:bs.flatMap zBn++(tl++tn)=T:=by rw[←tk.txt,←htl,←htn,←hP,←hQ];rfl
 have H:=hQd h;have HTK:=hQd tk;have HT2:=hQd hT2;have HTL:=hQd hTl;have HTE:=hQd htn;have HTO:=hQd (show[116,111,116,97,108]++32::(d1++32::(d2++[10]))=tl by rw[←htl,←hd1,←hd2];unfold totT;simp[zAN]);have HPQ0:=hQd (show sumE bs=P∧sumR bs=Q from⟨hP,hQ⟩);have HRP:=hQd (show Rn P by rw[←hP];exact hp0);have HRQ:=hQd (show Rn Q by rw[←hQ];exact hq0);have HRV:=hQd tk.rv;have HRE:=hQd tk.re;have HBL:=hQd hbl;have HBO:=hQd tk.ok;have HD1:=hQd hd1;have HD2:=hQd hd2;clear h tk hT2 hTl hP hQ htl htn hd1 hd2 hp0 hq0 hsm hbl;go_enter Tryz.func11,Tryz.ntmps11;go_wp2_with (go_at_call 32;(with_reducible refine(rr_all A bs pv rest pe ps HTK.out H.out).mono ?_);rintro e_ wn ⟨q2,cap2,lr,rfl,hb2,hlite,h⟩;have HB2:=hQd hb2;have HLI:=hQd hlite;clear hb2 hlite;obtain⟨gb,hgb⟩:=eX wn.heap.size;have h:=h.allocRaw #[Ja q2 lr.length cap2,I O (pv:Nat),I O ps,I O pe] 63;rw[hgb]at h;have z0:=h.rawCell 0;simp at z0;replace H:=hQd h;clear h);clear z0;have HOK:=hQd (show ∀x∈lr,OkB x from fun x hx=>⟨(HLI.out x hx).1,HBO.out x.b (by rw[←HB2.out];exact List.mem_map.2 ⟨x,hx,rfl⟩)⟩);have HLR:=hQd (show lr.length≤900 by have h9:=congrArg Jh HB2.out;rw[Jn]at h9;have:=HBL.out;omega);have HKB:=hQd (Know.has_right (a:=K) (Know.has_refl (Know.bats (Ja q2 lr.length cap2) lr)))
 have HS0:=hQd (show[]++((lr.drop 0).flatMap (fun x:BatR=>zBn x.b)++(tl++tn))=T by
  have e:lr.flatMap (fun x:BatR=>zBn x.b)=bs.flatMap zBn:=by rw[←HB2.out,List.flatMap_map]
  rw[List.drop_zero,e];exact HT2.out)
 go_loopw [4,5,6,14] (fun sv pvv qvv iv wr=>∃(k:Nat) (E:Bs) (X Y:Int),k≤lr.length∧iv=I O k∧sv=Z (bb E)∧pvv=I O X∧qvv=I O Y∧Hid (E++((lr.drop k).flatMap (fun x:BatR=>zBn x.b)++(tl++tn))=T)∧Hid (X=sumE ((lr.take k).map BatR.b))∧Hid (Y=sumR ((lr.take k).map BatR.b))∧St W0 wr (K.and (Know.bats (Ja q2 lr.length cap2) lr)) (.raw gb #[Ja q2 lr.length cap2,I O (pv:Nat),I O ps,I O pe] 63::L)) (fun _ _ _ iv _=>lr.length - (intOf iv).toNat)
 case atStart=>exact⟨0,[],0,0,Ji _,rfl,rfl,rfl,rfl,HS0,hQd rfl,hQd rfl,H.out⟩
 case round=>
  obtain⟨k,E,X,Y,hk',rfl,rfl,rfl,rfl,HE,HX,HY,hst⟩:=hrel;clear H;have H:=hQd hst;clear hst;have hlri:(lr.length:Int)≤900:=by have:=HLR.out;omega
  have hb9:∀b∈(lr.take k).map BatR.b,EncOk b:=fun b hb=>by
   obtain⟨x,hx,rfl⟩:=List.mem_map.1 hb;exact(HOK.out x (List.mem_of_mem_take hx)).2
  have hsb:=zJh _ hb9;rw[←HX.out,←HY.out,Jn,Jk]at hsb;have hX:0≤X∧X≤1000000000:=by omega
  have hY:0≤Y∧Y≤1000000000:=by omega
  obtain⟨hX0,hX1⟩:=hX;obtain⟨hY0,hY1⟩:=hY;clear hsb hb9
  by_cases hk:k<lr.length
  ·obtain⟨bk,off,hqq⟩:=zCW HKB.out H.out oM;subst hqq;obtain⟨x,hx⟩:=eX (lr[k]);have hmem:x∈lr:=hx ▸ Jp hk;have hxk:=zBC HKB.out hmem;have cc:=zBW HKB.out H.out k hk x hx;have hox:=HOK.out x hmem;obtain⟨t,ht⟩:=eX (zBn x.b);obtain⟨E2,hE2⟩:=eX (E++t)
   have hE3:E2++((lr.drop (k+1)).flatMap (fun x:BatR=>zBn x.b)++(tl++tn))=T:=by
    rw[←HE.out,zCC (fun x:BatR=>zBn x.b) lr k hk x hx,←hE2,←ht];simp only[List.append_assoc]
   have hle:=zBG hE3 HTL.out;have hle2:=congrArg Jh hE2;rw[Je]at hle2;have gE:¬(9223372036854775807<E.length+t.length):=by omega
   have kE:bb E++bb t=bb E2:=by rw[←hE2];exact zAc _ _
   have hpn:X+(x.b.enc.length:Int)=sumE ((lr.take (k+1)).map BatR.b):=by rw[zKl lr k hk x hx,zPr,HX.out]
   have hqn:Y+(x.b.recs.length:Int)=sumR ((lr.take (k+1)).map BatR.b):=by rw[zKl lr k hk x hx,zPq,HY.out]
   obtain⟨b,xl,xq,xcap⟩:=x;obtain⟨c0,c1,c2,c3,c4,c5,c6,c7,c8,c9,c10,c11⟩:=cc;obtain⟨bs1,hbs⟩:=eX b.enc;have hel:=hox.2.elen;have hrl:(b.recs.length:Int)=(xl.length:Int):=by have h9:=hox.1;simp only at h9;rw[←h9,Jn]
   have hxll:=hox.2.llen hox.1;simp only at hpn hqn hel hxll;rw[hbs]at hpn hel;rw[hrl]at hqn;have HXL:=hQd (show xl.map (·.1)=b.recs from hox.1);have HSO:=hQd (show EncOk b from hox.2);have HXK:=hQd (show Know.has _ (Know.recs (Ja xq xl.length xcap) xl)from hxk);have HT:=hQd (show zBn b=t from ht);have HBS:=hQd hbs;have HE3:=hQd (hQd hE3);have hw1:IntKind.i64.wrap (X+(bs1.length:Int))=X+(bs1.length:Int):=IntWalk.i64_in _ oM;have hw2:IntKind.i64.wrap (Y+(xl.length:Int))=Y+(xl.length:Int):=IntWalk.i64_in _ oM;have HPN:=hQd (hQd (hw1.trans hpn));have HQN:=hQd (hQd (hw2.trans hqn));have hsl:(bs1.length:Int)≤400061:=by omega
   have hxli:(xl.length:Int)≤1000:=by omega
   obtain⟨tb,htb⟩:=eX wr.heap.size;have g1:=H.out.allocRaw #[I O b.base,I O b.leader,U b.app,U b.txn,U b.ctl,I O b.last,I O b.first,I O b.maxt,I O b.prod,I O b.epoch,I O b.seq,Ja xq xl.length xcap] 30;rw[htb]at g1;obtain⟨y0,y1,y2,y3,y4,y5,y6,y7,y8,y9,y10,y11⟩:=uR12 g1;simp at y0 y1 y2 y3 y4 y5 y6 y7 y8 y9 y10 y11;have KP7:=hQd (show ∀(w':World) (L':List Res),St W0 w' _ (.raw tb #[I O b.base,I O b.leader,U b.app,U b.txn,U b.ctl,I O b.last,I O b.first,I O b.maxt,I O b.prod,I O b.epoch,I O b.seq,Ja xq xl.length xcap] 30::L')→(w'.cell? ⟨tb,0,none⟩=some (I O b.base)∧w'.cell? ⟨tb,1,none⟩=some (I O b.leader)∧w'.cell? ⟨tb,2,none⟩=some (U b.app)∧w'.cell? ⟨tb,3,none⟩=some (U b.txn)∧w'.cell? ⟨tb,4,none⟩=some (U b.ctl)∧w'.cell? ⟨tb,5,none⟩=some (I O b.last)∧w'.cell? ⟨tb,6,none⟩=some (I O b.first)∧w'.cell? ⟨tb,7,none⟩=some (I O b.maxt)∧w'.cell? ⟨tb,8,none⟩=some (I O b.prod)∧w'.cell? ⟨tb,9,none⟩=some (I O b.epoch)∧w'.cell? ⟨tb,10,none⟩=some (I O b.seq)∧w'.cell? ⟨tb,11,none⟩=some (Ja xq xl.length xcap))from fun w' L' h'=>⟨(show St W0 w' (K.and (Know.bats (Ja (some ⟨bk,off,none⟩) lr.length cap2) lr)) _ from h').rawCell 0,(show St W0 w' (K.and (Know.bats (Ja (some ⟨bk,off,none⟩) lr.length cap2) lr)) _ from h').rawCell 1,(show St W0 w' (K.and (Know.bats (Ja (some ⟨bk,off,none⟩) lr.length cap2) lr)) _ from h').rawCell 2,(show St W0 w' (K.and (Know.bats (Ja (some ⟨bk,off,none⟩) lr.length cap2) lr)) _ from h').rawCell 3,(show St W0 w' (K.and (Know.bats (Ja (some ⟨bk,off,none⟩) lr.length cap2) lr)) _ from h').rawCell 4,(show St W0 w' (K.and (Know.bats (Ja (some ⟨bk,off,none⟩) lr.length cap2) lr)) _ from h').rawCell 5,(show St W0 w' (K.and (Know.bats (Ja (some ⟨bk,off,none⟩) lr.length cap2) lr)) _ from h').rawCell 6,(show St W0 w' (K.and (Know.bats (Ja (some ⟨bk,off,none⟩) lr.length cap2) lr)) _ from h').rawCell 7,(show St W0 w' (K.and (Know.bats (Ja (some ⟨bk,off,none⟩) lr.length cap2) lr)) _ from h').rawCell 8,(show St W0 w' (K.and (Know.bats (Ja (some ⟨bk,off,none⟩) lr.length cap2) lr)) _ from h').rawCell 9,(show St W0 w' (K.and (Know.bats (Ja (some ⟨bk,off,none⟩) lr.length cap2) lr)) _ from h').rawCell 10,(show St W0 w' (K.and (Know.bats (Ja (some ⟨bk,off,none⟩) lr.length cap2) lr)) _ from h').rawCell 11⟩);have hki:(k:Int)<(lr.length:Int):=by omega
   clear H hw1 hw2 hxk hmem hox hx ht hE2 hE3 hle hle2 hpn hqn hbs hel hrl hxll;have H:=hQd g1;clear g1;go_upto_region 7 with (go_at_call 33;(with_reducible refine(zTp b xl xq xcap HXL.out HSO.out t HT.out HXK.out H.out).zM ?_);clear H;intro wn H);have hs:=H.out.drew;clear H y0 c0 y1 c1 y2 c2 y3 c3 y4 c4 y5 c5 y6 c6 y7 c7 y8 c8 y9 c9 y10 c10 y11 c11;refine wp_region_held_drew (S:=fun w'=>w'.cell? ⟨tb,0,none⟩=some (I O b.base)∧w'.cell? ⟨tb,1,none⟩=some (I O b.leader)∧w'.cell? ⟨tb,2,none⟩=some (U b.app)∧w'.cell? ⟨tb,3,none⟩=some (U b.txn)∧w'.cell? ⟨tb,4,none⟩=some (U b.ctl)∧w'.cell? ⟨tb,5,none⟩=some (I O b.last)∧w'.cell? ⟨tb,6,none⟩=some (I O b.first)∧w'.cell? ⟨tb,7,none⟩=some (I O b.maxt)∧w'.cell? ⟨tb,8,none⟩=some (I O b.prod)∧w'.cell? ⟨tb,9,none⟩=some (I O b.epoch)∧w'.cell? ⟨tb,10,none⟩=some (I O b.seq)∧w'.cell? ⟨tb,11,none⟩=some (Ja xq xl.length xcap)) kR (KP7.out _ _ hs) (fun hHeld=> ?_);refine tR 0 ?_;refine tR 1 ?_;refine tR 5 ?_;refine tR 6 ?_;refine tR 7 ?_;refine tR 8 ?_;refine tR 9 ?_;refine wR [2] (rC rfl (fun KK hK=> ?_) rN);go_simp;go_at_call 10;with_reducible refine(zEJ b bs1 HBS.out xl xq xcap HXL.out HSO.out HXK.out hs).mono ?_;rintro e wq ⟨rfl,hs⟩;refine zK hK (KP7.out _ _ hs) (fun hHeld=> ?_);clear hK KK
   refine tR 3 ?_;refine tR 4 ?_;refine tR 10 ?_;refine tR 11 ?_;refine wpAnyH_done kR ?_ _;clear hHeld;have hs:=hs.drop;have H:=hQd hs;clear hs;go_wp2_with fail;go_roundw
   case rel=>exact⟨k+1,E2,_,_,hk,by go_num,rfl,rfl,rfl,HE3.out,HPN.out,HQN.out,H.out⟩
   case measure=>first|(simp[intOf];done)|(simp[intOf];omega)
  ·have hq1:k=lr.length:=by omega
   have h9:E++(tl++tn)=T:=by have h9:=HE.out;rw[hq1,List.drop_length]at h9;exact h9
   obtain rfl:X=P:=by have h8:=HX.out;rw[hq1,List.take_length,HB2.out,HPQ0.out.1]at h8;exact h8
   obtain rfl:Y=Q:=by have h8:=HY.out;rw[hq1,List.take_length,HB2.out,HPQ0.out.2]at h8;exact h8
   obtain⟨P1,hP1⟩:∃B:Bs,E++[116,111,116,97,108,32]=B:=⟨_,rfl⟩;obtain⟨P2,hP2⟩:∃B:Bs,P1++d1=B:=⟨_,rfl⟩;obtain⟨P3,hP3⟩:∃B:Bs,P2++[32]=B:=⟨_,rfl⟩;obtain⟨P4,hP4⟩:∃B:Bs,P3++d2=B:=⟨_,rfl⟩;obtain⟨P5,hP5⟩:∃B:Bs,P4++[10]=B:=⟨_,rfl⟩;obtain⟨P6,hP6⟩:∃B:Bs,P5++tn=B:=⟨_,rfl⟩;have eP1:=congrArg Jh hP1;have eP2:=congrArg Jh hP2;have eP3:=congrArg Jh hP3;have eP4:=congrArg Jh hP4;have eP5:=congrArg Jh hP5;have eP6:=congrArg Jh hP6;simp only[Je,Jg,Jl]at eP1 eP2 eP3 eP4 eP5 eP6
   have h8:P6=T:=by
    rw[←h9,←HTO.out,←hP6,←hP5,←hP4,←hP3,←hP2,←hP1]
    simp
   have h7:=HTL.out;rw[←h8]at h7;have gP1:¬(9223372036854775807<E.length+6):=by omega
   have kP1:bb E++(⟨#[116,111,116,97,108,32]⟩:ByteArray)=bb P1:=by rw[←hP1];exact zAc _ _
   have gP2:¬(9223372036854775807<P1.length+d1.length):=by omega
   have kP2:bb P1++bb d1=bb P2:=by rw[←hP2];exact zAc _ _
   have gP3:¬(9223372036854775807<P2.length+1):=by omega
   have kP3:bb P2++(⟨#[32]⟩:ByteArray)=bb P3:=by rw[←hP3];exact zAc _ _
   have gP4:¬(9223372036854775807<P3.length+d2.length):=by omega
   have kP4:bb P3++bb d2=bb P4:=by rw[←hP4];exact zAc _ _
   have gP5:¬(9223372036854775807<P4.length+1):=by omega
   have kP5:bb P4++(⟨#[10]⟩:ByteArray)=bb P5:=by rw[←hP5];exact zAc _ _
   have gP6:¬(9223372036854775807<P5.length+tn.length):=by omega
   have kP6:bb P5++bb tn=bb P6:=by rw[←hP6];exact zAc _ _
   have HTL2:=hQd h8;have KP9:=hQd (show ∀(w':World) (L':List Res),St W0 w' (K.and (Know.bats (Ja q2 lr.length cap2) lr)) (.raw gb #[Ja q2 lr.length cap2,I O (pv:Nat),I O ps,I O pe] 63::L')→(w'.cell? ⟨gb,1,none⟩=some (I O (pv:Nat))∧w'.cell? ⟨gb,2,none⟩=some (I O ps)∧w'.cell? ⟨gb,3,none⟩=some (I O pe))from fun w' L' h'=>⟨h'.rawCell 1,h'.rawCell 2,h'.rawCell 3⟩);have hki:¬((k:Int)<(lr.length:Int)):=by omega
   clear h9 h8 h7 hq1 hP1 eP1 hP2 eP2 hP3 eP3 hP4 eP4 hP5 eP5 hP6 eP6;go_upto_region 9 with fail;have hs:=H.out.drew;clear H;refine wp_region_held_drew (S:=fun w'=>w'.cell? ⟨gb,1,none⟩=some (I O (pv:Nat))∧w'.cell? ⟨gb,2,none⟩=some (I O ps)∧w'.cell? ⟨gb,3,none⟩=some (I O pe)) kR (KP9.out _ _ hs) (fun hHeld=> ?_);refine tR 0 ?_;refine tR 1 ?_;refine tR 2 ?_;refine tR 6 ?_;refine tR 10 ?_;refine tR 11 ?_;refine tR 12 ?_;refine tR 13 ?_;refine tR 14 ?_;refine tR 15 ?_;refine wR [3] (rC rfl (fun KK hK=> ?_) rN);go_simp;go_at_call 9;with_reducible refine(zBg X HRP.out d1 HD1.out hs).mono ?_;rintro e wq ⟨rfl,hs⟩;refine zK hK (KP9.out _ _ hs) (fun hHeld=> ?_);clear hK KK
   refine tR 4 ?_;refine tR 5 ?_;refine wR [7] (rC rfl (fun KK hK=> ?_) rN);go_simp;go_at_call 9;with_reducible refine(zBg Y HRQ.out d2 HD2.out hs).mono ?_;rintro e wq ⟨rfl,hs⟩;refine zK hK (KP9.out _ _ hs) (fun hHeld=> ?_);clear hK KK
   refine tR 8 ?_;refine tR 9 ?_;refine wR [16] (rC rfl (fun KK hK=> ?_) rN);go_simp;go_at_call 34;with_reducible refine(rr_end (pv:Nat) ps pe HRV.out HRE.out tn HTE.out hs).mono ?_;rintro e wq ⟨rfl,hs⟩;refine zK hK (KP9.out _ _ hs) (fun hHeld=> ?_);clear hK KK
   refine tR 17 ?_;refine tR 18 ?_;refine wpAnyH_done kR ?_ _;clear hHeld;have H:=hQd hs;clear hs;go_wp2_with fail;go_ret;exact⟨by rw[←HTL2.out];rfl,(H.out.drop).know (Know.has_left (Know.has_refl _))⟩
theorem zS0(l:List BtR)(c:Int)(ch:List Int)(qb q:Option Addr)(bcap cap:Nat)(hfit:∀x∈l,FitW x.l)(hs:zCa l ch=true)(vs:List BatS)(hvs:l.map BtR.val=vs)(hv:∀b∈vs,OkV b)(S:Bs)(hS:l.flatMap btT++(cutT c++chT ch)=S)(hSl:S.length≤300000)(hcr:Rn c)(hchr:∀v∈ch,Rn v)(hbr:∀x∈l,batR x.b)(hrn:∀x∈l,∀y∈x.l,Rn y.1.time∧Rn y.1.off)(k0:Nat)(hz:∀y∈(l.map zAP).take k0,zAh y.b=0)(hX:(k0=(l.map zAP).length∧∃(A0 A T:Bs) (bs:List BatS) (pv:Nat) (rest:Bs) (pe ps:Int),vs.flatMap BatS.enc=A0∧A0.length≤100000∧cutA c A0=A∧ToldOk A T bs pv rest pe ps)∨(∃(hk0:k0<(l.map zAP).length) (xe:BatR) (e:Int) (tl:Bs),(l.map zAP)[k0]=xe∧zAh xe.b=e∧e≠0∧errT k0 e=tl)){W0 w:World}{K:Know}(hlib:K.has Know.lib)(hkb:K.has (Know.btrs (Ja qb l.length bcap) l))(hkc:K.has (Know.flat RInt (Ja q ch.length cap) 1 ch))(h:St W0 w K []):
 Calls Jd 3 #[.agg #[Ja qb l.length bcap,I O c,Ja q ch.length cap]] w fun en w'=>en=Jb (U true)∧Below W0.heap.size W0 w':=by
 obtain⟨rb,hrb⟩:=eX w.heap.size;have g1:=h.allocRaw #[Ja qb l.length bcap,I O c,Ja q ch.length cap] 25;rw[hrb]at g1;obtain⟨x0,x1,x2⟩:=uR3 ((g1));simp at x0 x1 x2;have H:=hQd g1;have HLIB:=hQd hlib;have HKB:=hQd hkb;have HKC:=hQd hkc;have HFT:=hQd hfit;have t9:True:=trivial;obtain⟨hl8,hc200,hx12⟩:=zF3 hs;have HSM:=hQd hs;have HLL:=hQd (show(l.length:Int)≤1000000 by omega);have HRL:=hQd (show ∀x∈l,(x.l.length:Int)≤1000000 from fun x hx=>by have:=(hx12 x hx).1;omega);have HHL:=hQd (show ∀x∈l,∀y∈x.l,(y.1.hdrs.length:Int)≤1000000 from fun x hx y hy=>by have:=(hx12 x hx).2 y hy;omega);have HVS:=hQd hvs;have HV:=hQd hv;have HL8:=hQd (show vs.length≤8 by have h9:=congrArg Jh hvs;rw[Jn]at h9;omega);have HS:=hQd hS;have HSL1:=hQd (show S.length≤1000000 by omega);have HSL9:=hQd (show S.length≤900000 by omega);have HCR:=hQd hcr;have HCHR:=hQd hchr;have HCL:=hQd (show ch.length≤1000 by omega);have HBRR:=hQd hbr;have HRN:=hQd hrn;have HLI:=hQd (show(l.length:Int)≤8 by omega);obtain⟨lb,hlb⟩:=eX (l.map zAP);have HLN:=hQd (show lb.length=l.length by rw[←hlb];exact Jn _);have HKT:=hQd (show K.has (Know.bats (Ja qb l.length bcap) lb) by rw[←hlb];exact zHV hkb h);have HSB:=hQd (show ∀y∈lb,SmB y by rw[←hlb];exact zJ8 hvs hv);have hcr2:=hcr;unfold Rn at hcr2;have HRC:=hQd hcr2;have HZ:=hQd hz;have HZL:=hQd (show ∀y∈lb.take k0,zAh y.b=0 by rw[←hlb];exact hz);have HKL:=hQd (show k0≤lb.length by rw[←hlb];rcases hX with h9|⟨h9,_⟩<;>omega);have HX:=hQd hX;have HLB:=hQd hlb;have t8:True:=trivial
 have HEL8:=hQd (show(encB lb).length≤1000000 by
  have h9:=zD4 lb (by rw[←hlb];intro y hy;obtain⟨x,hx,rfl⟩:=List.mem_map.1 hy;rw[zC8];exact hv _ zq45);have h8:=HLN.out
  omega)
 clear h g1 hlib hkb hkc hfit hs hl8 hc200 hx12 hvs hv hS hSl hcr hchr hbr hrn hcr2 hz hX hlb;go_enter Tryz.func3,Tryz.ntmps3
 go_wp2_with (first
  |(go_at_call 6;have _t:=t9;clear _t;(with_reducible refine(zNg HLIB.out H.out).mono ?_);rintro e_ wn ⟨rfl,h⟩;obtain⟨x0,x1,x2⟩:=uR3 ((h));simp at x0 x1 x2;replace H:=hQd h;clear h;clear t9)
  |(go_at_call 7;(with_reducible refine(zPD qb bcap c q cap ch l HSM.out HFT.out HKB.out H.out).mono ?_);rintro e_ wn ⟨rfl,h⟩;obtain⟨x0,x1,x2⟩:=uR3 ((h));simp at x0 x1 x2;replace H:=hQd h;clear h))
 clear x0 x1 x2;go_loopw [3,4,16] (fun sv wv iv wr=>∃(k:Nat) (E:Bs),k≤k0∧iv=I O k∧sv=Z (bb E)∧wv=Z ⟨#[]⟩∧Hid (encB (lb.take k)=E)∧St W0 wr K (.raw rb #[Ja qb l.length bcap,I O c,Ja q ch.length cap] 25::[])) (fun _ _ iv _=>l.length - (intOf iv).toNat)
 case atStart=>exact⟨0,[],Ji _,rfl,rfl,rfl,hQd rfl,H.out⟩
 case round=>
  obtain⟨k,E,hkl,rfl,rfl,rfl,HEV,hst⟩:=hrel;clear H;have H:=hQd hst;clear hst;have hli:(l.length:Int)≤8:=HLI.out;have hln:=HLN.out;have hkk0:=HKL.out
  by_cases hkk:k<k0
  ·have hk:k<lb.length:=by omega
   obtain⟨bk,off,hqq⟩:=zCW HKT.out H.out oM;subst hqq;obtain⟨x,hx⟩:=eX (lb[k]);have hmem:x∈lb:=hx ▸ Jp hk;have hxk:=zBC HKT.out hmem;have cc:=zBW HKT.out H.out k hk x hx;have hsx:=HSB.out x hmem;have hki:(k:Int)<(l.length:Int):=by omega
   have hex:=zNc HZL.out hk hkk hx;have hen:=zQ3 lb k hk x hx;have hso:=zSA hsx hex;have hle:=zEY lb (k+1);have hle8:=HEL8.out;obtain⟨E2,hE2⟩:=eX (encB (lb.take (k+1)));rw[hE2]at hen hle;obtain⟨bs1,hbs⟩:=eX x.b.enc;have hxl:=hsx.1.2.2;rw[hbs,HEV.out]at hen;have hle3:=congrArg Jh hen;rw[Je]at hle3;have gE:¬(9223372036854775807<E.length+bs1.length):=by omega
   have kE:bb E++bb bs1=bb E2:=by rw[hen];exact zAc _ _
   have HE2:=hQd (hQd hE2);clear hen hle hle3 hle8 hE2;obtain⟨b,xl,xq,xcap⟩:=x;obtain⟨c0,c1,c2,c3,c4,c5,c6,c7,c8,c9,c10,c11⟩:=cc;have HSX:=hQd hsx;have HE0:=hQd (show zAh b=0 from hex);have HXK:=hQd (show K.has (Know.recs (Ja xq xl.length xcap) xl)from hxk);obtain⟨tb,htb⟩:=eX wr.heap.size;have g1:=H.out.allocRaw #[I O b.base,I O b.leader,U b.app,U b.txn,U b.ctl,I O b.last,I O b.first,I O b.maxt,I O b.prod,I O b.epoch,I O b.seq,Ja xq xl.length xcap] 30;rw[htb]at g1;obtain⟨y0,y1,y2,y3,y4,y5,y6,y7,y8,y9,y10,y11⟩:=uR12 g1;simp at y0 y1 y2 y3 y4 y5 y6 y7 y8 y9 y10 y11;clear H hxk hsx hex hmem hx;have H:=hQd g1;clear g1;have HBS:=hQd (show BatS.enc b=bs1 from hbs);have HXL:=hQd (show xl.map (·.1)=b.recs from hxl);have HSO:=hQd (show EncOk b from hso);clear hbs hxl hso
   go_wp2_with (first
    |(go_at_call 8;(try clear y0 y1 y2 y3 y4 y5 y6 y7 y8 y9 y10 y11);(with_reducible refine(zNy b xl xq xcap 0 HE0.out HSX.out HXK.out H.out).mono ?_);rintro e_ wn ⟨rfl,h⟩;obtain⟨y0,y1,y2,y3,y4,y5,y6,y7,y8,y9,y10,y11⟩:=uR12 h;simp at y0 y1 y2 y3 y4 y5 y6 y7 y8 y9 y10 y11;replace H:=hQd h;clear h)
    |(go_at_call 10;(try clear y0 y1 y2 y3 y4 y5 y6 y7 y8 y9 y10 y11);(with_reducible refine(zEJ b bs1 HBS.out xl xq xcap HXL.out HSO.out HXK.out H.out).zM ?_);clear H;intro wn H))
   go_roundw
   case rel=>exact⟨k+1,E2,oM,by go_num,rfl,rfl,HE2,H.out.drop⟩
   case measure=>first|(simp[intOf];done)|(simp[intOf];omega)
  ·obtain rfl:k0=k:=by omega
   have hle9:=zEY lb k0;rw[HEV.out]at hle9;have hal0:(E.length:Int)≤1000000:=by have:=HEL8.out;omega
   have hX:=HX.out;clear hle9 HX
   rcases hX with ⟨hkl9,A0,A,T,bs,pv,rest,pe,ps,hA0,hAl0,hA,tk⟩|⟨hk0,xe,e,tl,hx0,he,hne,htl⟩
   ·rw[HLB.out]at hkl9;have hki:¬(k0:Int)<(l.length:Int):=by omega
    obtain⟨x0,x1,x2⟩:=uR3 ((H.out));simp at x0 x1 x2;have hz9:=HZ.out;rw[HLB.out,Jj oM]at hz9
    have he:∀b∈vs,zAh b=0:=fun b hb=>by
     rw[←HVS.out]at hb;obtain⟨x,hx,rfl⟩:=List.mem_map.1 hb;rw[←zC8];exact hz9 (zAP x) (by rw[←HLB.out];exact List.mem_map.2 ⟨x,hx,rfl⟩)
    obtain rfl:E=A0:=by rw[←HEV.out,Jj oM,←hA0,←HLB.out];exact zJ9 HVS.out
    obtain⟨hrc0,hrc1⟩:=HRC.out;have HE:=hQd he;have HA0:=hQd hA0;have HAL0:=hQd (show E.length≤1000000 by omega);have HTK:=hQd tk;have HA:=hQd hA;have e1:(T==T)=true:=by simp
    have e2:(T !=T)=false:=by simp
    clear he hz9 hA0 tk
    rcases cutW hA with ⟨c1,c2,d1,d2,c3,hA⟩|⟨c1,c2,d1,d2,c3,hA⟩|⟨c1,c2,d1,d2,c3,hA⟩<;>subst hA<;>by_cases hm:mayP l c<;>have HMB:=hQd hm<;>clear hm
    all_goals
     go_wp2_with (first
      |(go_at_call 11;(with_reducible refine(zTo HTK.out H.out).mono ?_);rintro e_ wn ⟨rfl,h⟩;obtain⟨x0,x1,x2⟩:=uR3 ((h));simp at x0 x1 x2;replace H:=hQd h;clear h)
      |(go_at_call 12;(with_reducible refine(zNp vs HV.out HE.out HL8.out E HA0.out l HVS.out c HCR.out ch HCHR.out HCL.out HA.out HTK.out qb q bcap cap HLIB.out HKB.out HKC.out HAL0.out H.out).mono ?_);rintro e_ wn ⟨rfl,h⟩;obtain⟨x0,x1,x2⟩:=uR3 ((h));simp at x0 x1 x2;replace H:=hQd h;clear h)
      |(go_at_call 13;(with_reducible refine(zPO _ c q cap ch l HMB.out HLL.out HRL.out HHL.out HKB.out H.out).mono ?_);rintro e_ wn ⟨rfl,h⟩;obtain⟨x0,x1,x2⟩:=uR3 ((h));simp at x0 x1 x2;replace H:=hQd h;clear h)
      |(go_at_call 13;(with_reducible refine(zPP _ c q cap ch l HMB.out HLL.out HRL.out HHL.out HKB.out H.out).mono ?_);rintro e_ wn ⟨rfl,h⟩;obtain⟨x0,x1,x2⟩:=uR3 ((h));simp at x0 x1 x2;replace H:=hQd h;clear h)
      |(go_at_call 15;(with_reducible refine(zNo _ c q cap ch l S HS.out HSL1.out HCR.out HCHR.out (zGs HMB.out HBRR.out HRN.out) HKB.out HKC.out H.out).mono ?_);rintro e_ wn ⟨rfl,h⟩;obtain⟨x0,x1,x2⟩:=uR3 ((h));simp at x0 x1 x2;replace H:=hQd h;clear h)
      |(go_at_call 14;(with_reducible refine(zPR vs HV.out HE.out HL8.out E HA0.out l HVS.out c HCR.out ch HCHR.out HCL.out HA.out HTK.out S HS.out HSL9.out (zQw HMB.out) (zGs HMB.out HBRR.out HRN.out) HLIB.out HAL0.out H.out).mono ?_);rintro e_ wn ⟨rfl,h⟩;obtain⟨x0,x1,x2⟩:=uR3 ((h));simp at x0 x1 x2;replace H:=hQd h;clear h))
     go_ret;exact⟨rfl,H.out.below⟩
   ·have hk:k0<lb.length:=by rw[←HLB.out];exact hk0
    have hx00:lb[k0]=xe:=by have h9:=HLB.out;subst h9;exact hx0
    have HK0:=hQd hk0;have HX0:=hQd hx0;have HE:=hQd he;have HNE:=hQd hne;have HTL:=hQd htl;obtain⟨d2,hd2⟩:=eX (numW (k0:Int));obtain⟨d4,hd4⟩:=eX (numW e);have hkr:Rn (k0:Int):=by unfold Rn;omega
    have her:Rn e:=by have h9:=zS4 xe.b;rw[he]at h9;unfold Er at h9;unfold Rn;omega
    have n2:=zAk (k0:Int) hkr;have n4:=zAk e her;rw[hd2]at n2;rw[hd4]at n4;obtain⟨P1,hP1⟩:∃B:Bs,[101,114,114,111,114,32]++d2=B:=⟨_,rfl⟩;obtain⟨P2,hP2⟩:∃B:Bs,P1++[32]=B:=⟨_,rfl⟩;obtain⟨P3,hP3⟩:∃B:Bs,P2++d4=B:=⟨_,rfl⟩;obtain⟨P4,hP4⟩:∃B:Bs,P3++[10]=B:=⟨_,rfl⟩;have eP1:=congrArg Jh hP1;have eP2:=congrArg Jh hP2;have eP3:=congrArg Jh hP3;have eP4:=congrArg Jh hP4;simp only[Je,Jg,Jl]at eP1 eP2 eP3 eP4;have gP1:¬(9223372036854775807<6+d2.length):=by omega
    have kP1:(⟨#[101,114,114,111,114,32]⟩:ByteArray)++bb d2=bb P1:=by rw[←hP1];exact zAc _ _
    have gP2:¬(9223372036854775807<P1.length+1):=by omega
    have kP2:bb P1++(⟨#[32]⟩:ByteArray)=bb P2:=by rw[←hP2];exact zAc _ _
    have gP3:¬(9223372036854775807<P2.length+d4.length):=by omega
    have kP3:bb P2++bb d4=bb P3:=by rw[←hP3];exact zAc _ _
    have gP4:¬(9223372036854775807<P3.length+1):=by omega
    have kP4:bb P3++(⟨#[10]⟩:ByteArray)=bb P4:=by rw[←hP4];exact zAc _ _
    have hPt:P4=tl:=by rw[←htl,←hP4,←hP3,←hP2,←hP1,←hd2,←hd4];unfold errT;simp[zAN]
    rw[hPt]at kP4;have hne9:tl≠[]:=by rw[←htl];exact zUa k0 e
    have u1:=bb_ne hne9;have u2:(tl==[])=false:=by rw[beq_eq_false_iff_ne];exact hne9
    have e1:(tl==tl)=true:=by simp
    have e2:(tl !=tl)=false:=by simp
    have HKR:=hQd hkr;have HER:=hQd her;have HD2:=hQd hd2;have HD4:=hQd hd4;have ee1:(e==0)=false:=by rw[beq_eq_false_iff_ne];exact hne
    have ee2:(e !=0)=true:=by simp[bne,ee1]
    clear hx0 he hne htl hd2 hd4 hkr her n2 n4 hPt hne9 hP1 eP1 hP2 eP2 hP3 eP3 hP4 eP4;obtain⟨bk,off,hqq⟩:=zCW HKT.out H.out oM;subst hqq;obtain⟨x,hx⟩:=eX (lb[k0]);have hmem:x∈lb:=hx ▸ Jp hk;have hxk:=zBC HKT.out hmem;have cc:=zBW HKT.out H.out k0 hk x hx;have hsx:=HSB.out x hmem;have hki:(k0:Int)<(l.length:Int):=by omega
    obtain rfl:xe=x:=hx00.symm.trans hx;have hex:=HE.out;obtain⟨b,xl,xq,xcap⟩:=xe;obtain⟨c0,c1,c2,c3,c4,c5,c6,c7,c8,c9,c10,c11⟩:=cc;have HSX:=hQd hsx;have HE0:=hQd (show zAh b=e from hex);have HXK:=hQd (show K.has (Know.recs (Ja xq xl.length xcap) xl)from hxk);obtain⟨tb,htb⟩:=eX wr.heap.size;have g1:=H.out.allocRaw #[I O b.base,I O b.leader,U b.app,U b.txn,U b.ctl,I O b.last,I O b.first,I O b.maxt,I O b.prod,I O b.epoch,I O b.seq,Ja xq xl.length xcap] 30;rw[htb]at g1;obtain⟨y0,y1,y2,y3,y4,y5,y6,y7,y8,y9,y10,y11⟩:=uR12 g1;simp at y0 y1 y2 y3 y4 y5 y6 y7 y8 y9 y10 y11;clear H hxk hsx hex hmem hx;have H:=hQd g1;clear g1
    rcases cutW (Eq.refl (cutA c E))with ⟨c1,c2,w1,w2,c3,hA⟩|⟨c1,c2,w1,w2,c3,hA⟩|⟨c1,c2,w1,w2,c3,hA⟩<;>clear hA<;>by_cases hm:mayP l c<;>have HMB:=hQd hm<;>clear hm
    all_goals
     go_wp2_with (first
      |(go_at_call 8;(try clear y0 y1 y2 y3 y4 y5 y6 y7 y8 y9 y10 y11);(with_reducible refine(zNy b xl xq xcap e HE0.out HSX.out HXK.out H.out).mono ?_);rintro e_ wn ⟨rfl,h⟩;replace h:=h.drop;obtain⟨x0,x1,x2⟩:=uR3 ((h));simp at x0 x1 x2;replace H:=hQd h;clear h)
      |(go_at_call 9;have _t:=t8;clear _t;(with_reducible refine(zBg (k0:Int) HKR.out d2 HD2.out H.out).mono ?_);rintro e_ wn ⟨rfl,h⟩;obtain⟨x0,x1,x2⟩:=uR3 ((h));simp at x0 x1 x2;replace H:=hQd h;clear h;clear t8)
      |(go_at_call 9;(with_reducible refine(zBg e HER.out d4 HD4.out H.out).mono ?_);rintro e_ wn ⟨rfl,h⟩;obtain⟨x0,x1,x2⟩:=uR3 ((h));simp at x0 x1 x2;replace H:=hQd h;clear h)
      |(go_at_call 12;(with_reducible refine(zKy vs HV.out HL8.out l HVS.out k0 _ HK0.out HX0.out HZ.out e HE.out HNE.out tl HTL.out c ch _ q bcap cap HLIB.out HKB.out H.out).mono ?_);rintro e_ wn ⟨rfl,h⟩;obtain⟨x0,x1,x2⟩:=uR3 ((h));simp at x0 x1 x2;replace H:=hQd h;clear h)
      |(go_at_call 13;(with_reducible refine(zPO _ c q cap ch l HMB.out HLL.out HRL.out HHL.out HKB.out H.out).mono ?_);rintro e_ wn ⟨rfl,h⟩;obtain⟨x0,x1,x2⟩:=uR3 ((h));simp at x0 x1 x2;replace H:=hQd h;clear h)
      |(go_at_call 13;(with_reducible refine(zPP _ c q cap ch l HMB.out HLL.out HRL.out HHL.out HKB.out H.out).mono ?_);rintro e_ wn ⟨rfl,h⟩;obtain⟨x0,x1,x2⟩:=uR3 ((h));simp at x0 x1 x2;replace H:=hQd h;clear h)
      |(go_at_call 15;(with_reducible refine(zNo _ c q cap ch l S HS.out HSL1.out HCR.out HCHR.out (zGs HMB.out HBRR.out HRN.out) HKB.out HKC.out H.out).mono ?_);rintro e_ wn ⟨rfl,h⟩;obtain⟨x0,x1,x2⟩:=uR3 ((h));simp at x0 x1 x2;replace H:=hQd h;clear h)
      |(go_at_call 14;(with_reducible refine(zTu vs HV.out HL8.out l HVS.out k0 _ HK0.out HX0.out HZ.out e HE.out HNE.out tl HTL.out c HCR.out ch HCHR.out S HS.out HSL9.out (zQw HMB.out) (zGs HMB.out HBRR.out HRN.out) HLIB.out H.out).mono ?_);rintro e_ wn ⟨rfl,h⟩;obtain⟨x0,x1,x2⟩:=uR3 ((h));simp at x0 x1 x2;replace H:=hQd h;clear h))
     go_ret;exact⟨rfl,H.out.below⟩
theorem zGS(l:List BtR)(c:Int)(ch:List Int)(qb q:Option Addr)(bcap cap:Nat)(rc:Rn c)(rch:∀v∈ch,Rn v){W:World}(hq:∀x∈l,QBt W x){W0 w:World}{K:Know}(hlib:K.has Know.lib)(hkb:K.has (Know.btrs (Ja qb l.length bcap) l))(hkc:K.has (Know.flat RInt (Ja q ch.length cap) 1 ch))(h:St W0 w K []):
 Calls Jd 3 #[.agg #[Ja qb l.length bcap,I O c,Ja q ch.length cap]] w fun en w'=>en=Jb (U true)∧Below W0.heap.size W0 w':=by
 have hfit:∀x∈l,FitW x.l:=fun x hx y hy=>((hq x hx).1.2 y hy).2
 cases hs:zCa l ch with
 |false=>exact pp_big l c ch qb q bcap cap hfit hs hlib hkb hkc h
 |true=>
  have hrn:∀x∈l,∀y∈x.l,Rn y.1.time∧Rn y.1.off:=fun x hx y hy=>((hq x hx).1.2 y hy).2.1
  have hsm:∀x∈l,zBb (x.l.map (·.1))=true:=by
   have h9:=hs;unfold zCa at h9;simp only[Bool.and_eq_true,List.all_eq_true]at h9;exact h9.2.2
  obtain⟨vs,hvs⟩:=eX (l.map BtR.val)
  have hv:∀b∈vs,OkV b:=by
   intro b hb;rw[←hvs]at hb;obtain⟨x,hx,rfl⟩:=List.mem_map.1 hb;have hbr:=(hq x hx).2.1;have hm9:∀n∈batN x.b,Rn n:=hbr;refine⟨?_,?_,hsm x hx⟩
   ·unfold batN at hm9;simp only[List.mem_cons,List.not_mem_nil,or_false,forall_eq_or_imp,forall_eq]at hm9;exact hm9
   ·intro r hr;obtain⟨y,hy,rfl⟩:=List.mem_map.1 hr;exact hfit x hx y hy
  have hsb:=zJ8 hvs hv;have hl8:l.length≤8:=(zF3 hs).1;have hbr:∀x∈l,batR x.b:=fun x hx=>(hq x hx).2.1
  have hsl:=zPx l c ch hs rc rch hbr hrn
  rcases zLl (l.map zAP)with hez|⟨k0,xe,hk0,hx0,hz,hne⟩
  ·have hvb:∀y∈l.map zAP,OkV y.b:=fun y hy=>by
    obtain⟨x,hx,rfl⟩:=List.mem_map.1 hy;rw[zC8];exact hv x.val zq45
   have hlt:=zD4 (l.map zAP) hvb;rw[Jn]at hlt;obtain⟨T,bs,pv,rest,pe,ps,tk⟩:=zRJ (l.map zAP) (by rw[Jn];exact hl8) hvb hsb hez c
   have he:∀b∈vs,zAh b=0:=fun b hb=>by
    rw[←hvs]at hb;obtain⟨x,hx,rfl⟩:=List.mem_map.1 hb;rw[←zC8];exact hez (zAP x) (List.mem_map.2 ⟨x,hx,rfl⟩)
   exact zS0 l c ch qb q bcap cap hfit hs vs hvs hv _ rfl hsl rc rch hbr hrn (l.map zAP).length (by rw[List.take_length];exact hez) (.inl ⟨rfl,_,_,T,bs,pv,rest,pe,ps,(zJ9 hvs).symm,oM,rfl,tk⟩) hlib hkb hkc h
  ·exact zS0 l c ch qb q bcap cap hfit hs vs hvs hv _ rfl hsl rc rch hbr hrn k0 hz (.inr ⟨hk0,xe,_,_,hx0,rfl,hne,rfl⟩) hlib hkb hkc h
end Go.Proofs.YtenojajfacacoaaGreatDoor
namespace Go.Proofs.YtenojajfacacoaaGreatDoor
set_option maxHeartbeats 4000000
open Go.Value renaming bool→U, string→Z, slice→Ja, int→I, pointer→Jc
open Go.Ending renaming returned→Jb
open _root_.Nat renaming le_refl→Jo, zero_le→Ji, add_assoc→Jm
open Go.IntKind renaming i64→O
open _root_.Go.Proofs.Tryz renaming prog→Jd
open _root_.List renaming length_cons→Jg, take_of_length_le→Jj, length_take→Jk, length_append→Je, length→Jh, take→Jq, getElem_mem→Jp, length_drop→Jf, length_nil→Jl, length_map→Jn
open Go.ChangeShapes Go.WideShapes Go.ChangeAt Go.RowKit
theorem var?_block{P:Program}{W:World}{n:String}{cs:Array Value}{g:Nat}(h:W.var? P n=some cs)(hg:P.globalNamed n=some g):∃T fz,W.heap[g]? =some (.cells cs T fz):=by
 unfold World.var? at h;rw[hg,Option.bind_some]at h
 split at h
 ·rename_i c T fz hb
  injection h with h;subst h;exact⟨T,fz,hb⟩
 ·cases h
theorem gPow:Tryz.prog.globalNamed "internal/strconv.uint64pow10" =some 1:=by kernel_rfl
theorem gPowT:(Tryz.prog.globals[1]?).map (·.type)=some 219:=by kernel_rfl
theorem gSyn:Tryz.prog.globalNamed "strconv.ErrSyntax" =some 6:=by kernel_rfl
theorem gSynT:(Tryz.prog.globals[6]?).map (·.type)=some 83:=by kernel_rfl
theorem gRng:Tryz.prog.globalNamed "strconv.ErrRange" =some 7:=by kernel_rfl
theorem gRngT:(Tryz.prog.globals[7]?).map (·.type)=some 83:=by kernel_rfl
theorem cES:Tryz.prog.cellsOf 272=1:=by kernel_rfl
theorem cStr:Tryz.prog.cellsOf 9=1:=by kernel_rfl
theorem starE: "*" ++ "errors.errorString" = "*errors.errorString" :=by decide
theorem rowE(u:TypeId)(h:Tryz.prog.typeName? 3 u=some "*errors.errorString"):u=270:=
 typeName_ptr_named (nm:= "errors.errorString") (by rw[starE];kernel_rfl) kR dD u (by rw[starE];exact h)
theorem zSc:Rows.laid_internal_strconv_uint64pow10 (H:=Unit)=Lib.tabData .u64 Lib.pow10Tab:=by kernel_rfl
theorem zMz{W:World}(h:laidMetH Jd [("math/bits.deBruijn32tab",Rows.laid_math_bits_deBruijn32tab),("math/bits.deBruijn64tab",Rows.laid_math_bits_deBruijn64tab),("internal/strconv.uint64pow10",Rows.laid_internal_strconv_uint64pow10),("unicode/utf8.acceptRanges",Rows.laid_unicode_utf8_acceptRanges),("strconv.ErrRange",Rows.laid_strconv_ErrRange),("strconv.ErrSyntax",Rows.laid_strconv_ErrSyntax),("unicode/utf8.first",Rows.laid_unicode_utf8_first)] W)(hsh:W.ShapedOpen Jd):Know.lib.p W (· <W.heap.size):=by
 rw[MakeChecks.laidMetH_plain _ _ _ (by as_aux_lemma=>kernel_rfl)]at h;have lt:∀{g:Nat}{o:Obj},W.heap[g]? =some o→g<W.heap.size:=fun h=>zA1 h
 refine⟨⟨?_,?_⟩,?_,?_⟩
 · obtain⟨m,hm⟩:∃m,W.cell? ⟨0,0,none⟩=some (I O m):=Go.Proofs.cell_of_shapedOpen_int (zero:= #[I O 0]) (t:=3) hsh (of_decide_eq_true kR) kR rfl kR kR Tryz.underlying3;unfold World.cell? at hm
   split at hm
   · rename_i c T fz hb
     exact⟨lt hb,_,hb,m,c,T,fz,rfl,hm⟩
   · cases hm
 · have h2:=h.tail.tail;rw[zSc]at h2;have h3:=Lib.tabIs_of_head gPow gPowT Tryz.underlying219 Tryz.underlying140 kR kR h2;obtain⟨T,fz,hb⟩:=var?_block h3 gPow;exact⟨lt hb,_,hb,T,fz,rfl⟩
 · obtain⟨a,s,hv,_⟩:=laid_sentinel h.tail.tail.tail.tail.tail gSyn gSynT Tryz.underlying83 rowE Tryz.underlying270 Tryz.underlying272 rfl rfl Tryz.underlying9 cES cStr;obtain⟨T,fz,hb⟩:=var?_block hv gSyn;exact⟨lt hb,_,hb,_,_,T,fz,rfl⟩
 · obtain⟨a,s,hv,_⟩:=laid_sentinel h.tail.tail.tail.tail gRng gRngT Tryz.underlying83 rowE Tryz.underlying270 Tryz.underlying272 rfl rfl Tryz.underlying9 cES cStr;obtain⟨T,fz,hb⟩:=var?_block hv gRng;exact⟨lt hb,_,hb,_,_,T,fz,rfl⟩
noncomputable def lowS:Nat:=(World.holding Jd default ⟨#[],#[],[]⟩).heap.size
noncomputable def putG (w:World) (g:Nat) (cs:Array Value):World:={w with heap:=w.heap.modify g fun
 | .cells _ t frozen=> .cells cs t frozen
 |o=>o}
noncomputable def scWorld (os:Os):World:=
 putG (putG (putG (putG (putG (putG (putG (World.holding Jd os ⟨#[.cells #[Z ⟨#[118,97,108,117,101,32,111,117,116,32,111,102,32,114,97,110,103,101]⟩] 272,.cells #[Z ⟨#[105,110,118,97,108,105,100,32,115,121,110,116,97,120]⟩] 272],#[],[]⟩)
  1 #[.int .u64 1,.int .u64 10,.int .u64 100,.int .u64 1000,.int .u64 10000,.int .u64 100000,.int .u64 1000000,.int .u64 10000000,.int .u64 100000000,.int .u64 1000000000,.int .u64 10000000000,.int .u64 100000000000,.int .u64 1000000000000,.int .u64 10000000000000,.int .u64 100000000000000,.int .u64 1000000000000000,.int .u64 10000000000000000,.int .u64 100000000000000000,.int .u64 1000000000000000000,.int .u64 10000000000000000000])
  2 #[.int .u8 0,.int .u8 1,.int .u8 28,.int .u8 2,.int .u8 29,.int .u8 14,.int .u8 24,.int .u8 3,.int .u8 30,.int .u8 22,.int .u8 20,.int .u8 15,.int .u8 25,.int .u8 17,.int .u8 4,.int .u8 8,.int .u8 31,.int .u8 27,.int .u8 13,.int .u8 23,.int .u8 21,.int .u8 19,.int .u8 16,.int .u8 7,.int .u8 26,.int .u8 12,.int .u8 18,.int .u8 6,.int .u8 11,.int .u8 5,.int .u8 10,.int .u8 9])
  3 #[.int .u8 0,.int .u8 1,.int .u8 56,.int .u8 2,.int .u8 57,.int .u8 49,.int .u8 28,.int .u8 3,.int .u8 61,.int .u8 58,.int .u8 42,.int .u8 50,.int .u8 38,.int .u8 29,.int .u8 17,.int .u8 4,.int .u8 62,.int .u8 47,.int .u8 59,.int .u8 36,.int .u8 45,.int .u8 43,.int .u8 51,.int .u8 22,.int .u8 53,.int .u8 39,.int .u8 33,.int .u8 30,.int .u8 24,.int .u8 18,.int .u8 12,.int .u8 5,.int .u8 63,.int .u8 55,.int .u8 48,.int .u8 27,.int .u8 60,.int .u8 41,.int .u8 37,.int .u8 16,.int .u8 46,.int .u8 35,.int .u8 44,.int .u8 21,.int .u8 52,.int .u8 32,.int .u8 23,.int .u8 11,.int .u8 54,.int .u8 26,.int .u8 40,.int .u8 15,.int .u8 34,.int .u8 20,.int .u8 31,.int .u8 10,.int .u8 25,.int .u8 14,.int .u8 19,.int .u8 9,.int .u8 13,.int .u8 8,.int .u8 7,.int .u8 6])
  5 #[.int .u8 128,.int .u8 191,.int .u8 160,.int .u8 191,.int .u8 128,.int .u8 159,.int .u8 144,.int .u8 191,.int .u8 128,.int .u8 143,.int .u8 0,.int .u8 0,.int .u8 0,.int .u8 0,.int .u8 0,.int .u8 0,.int .u8 0,.int .u8 0,.int .u8 0,.int .u8 0,.int .u8 0,.int .u8 0,.int .u8 0,.int .u8 0,.int .u8 0,.int .u8 0,.int .u8 0,.int .u8 0,.int .u8 0,.int .u8 0,.int .u8 0,.int .u8 0])
  7 #[.iface 270 (Jc (some ⟨lowS,0,none⟩))])
  6 #[.iface 270 (Jc (some ⟨lowS+1,0,none⟩))])
  4 #[.int .u8 240,.int .u8 240,.int .u8 240,.int .u8 240,.int .u8 240,.int .u8 240,.int .u8 240,.int .u8 240,.int .u8 240,.int .u8 240,.int .u8 240,.int .u8 240,.int .u8 240,.int .u8 240,.int .u8 240,.int .u8 240,.int .u8 240,.int .u8 240,.int .u8 240,.int .u8 240,.int .u8 240,.int .u8 240,.int .u8 240,.int .u8 240,.int .u8 240,.int .u8 240,.int .u8 240,.int .u8 240,.int .u8 240,.int .u8 240,.int .u8 240,.int .u8 240,.int .u8 240,.int .u8 240,.int .u8 240,.int .u8 240,.int .u8 240,.int .u8 240,.int .u8 240,.int .u8 240,.int .u8 240,.int .u8 240,.int .u8 240,.int .u8 240,.int .u8 240,.int .u8 240,.int .u8 240,.int .u8 240,.int .u8 240,.int .u8 240,.int .u8 240,.int .u8 240,.int .u8 240,.int .u8 240,.int .u8 240,.int .u8 240,.int .u8 240,.int .u8 240,.int .u8 240,.int .u8 240,.int .u8 240,.int .u8 240,.int .u8 240,.int .u8 240,.int .u8 240,.int .u8 240,.int .u8 240,.int .u8 240,.int .u8 240,.int .u8 240,.int .u8 240,.int .u8 240,.int .u8 240,.int .u8 240,.int .u8 240,.int .u8 240,.int .u8 240,.int .u8 240,.int .u8 240,.int .u8 240,.int .u8 240,.int .u8 240,.int .u8 240,.int .u8 240,.int .u8 240,.int .u8 240,.int .u8 240,.int .u8 240,.int .u8 240,.int .u8 240,.int .u8 240,.int .u8 240,.int .u8 240,.int .u8 240,.int .u8 240,.int .u8 240,.int .u8 240,.int .u8 240,.int .u8 240,.int .u8 240,.int .u8 240,.int .u8 240,.int .u8 240,.int .u8 240,.int .u8 240,.int .u8 240,.int .u8 240,.int .u8 240,.int .u8 240,.int .u8 240,.int .u8 240,.int .u8 240,.int .u8 240,.int .u8 240,.int .u8 240,.int .u8 240,.int .u8 240,.int .u8 240,.int .u8 240,.int .u8 240,.int .u8 240,.int .u8 240,.int .u8 240,.int .u8 240,.int .u8 240,.int .u8 240,.int .u8 240,.int .u8 240,.int .u8 241,.int .u8 241,.int .u8 241,.int .u8 241,.int .u8 241,.int .u8 241,.int .u8 241,.int .u8 241,.int .u8 241,.int .u8 241,.int .u8 241,.int .u8 241,.int .u8 241,.int .u8 241,.int .u8 241,.int .u8 241,.int .u8 241,.int .u8 241,.int .u8 241,.int .u8 241,.int .u8 241,.int .u8 241,.int .u8 241,.int .u8 241,.int .u8 241,.int .u8 241,.int .u8 241,.int .u8 241,.int .u8 241,.int .u8 241,.int .u8 241,.int .u8 241,.int .u8 241,.int .u8 241,.int .u8 241,.int .u8 241,.int .u8 241,.int .u8 241,.int .u8 241,.int .u8 241,.int .u8 241,.int .u8 241,.int .u8 241,.int .u8 241,.int .u8 241,.int .u8 241,.int .u8 241,.int .u8 241,.int .u8 241,.int .u8 241,.int .u8 241,.int .u8 241,.int .u8 241,.int .u8 241,.int .u8 241,.int .u8 241,.int .u8 241,.int .u8 241,.int .u8 241,.int .u8 241,.int .u8 241,.int .u8 241,.int .u8 241,.int .u8 241,.int .u8 241,.int .u8 241,.int .u8 2,.int .u8 2,.int .u8 2,.int .u8 2,.int .u8 2,.int .u8 2,.int .u8 2,.int .u8 2,.int .u8 2,.int .u8 2,.int .u8 2,.int .u8 2,.int .u8 2,.int .u8 2,.int .u8 2,.int .u8 2,.int .u8 2,.int .u8 2,.int .u8 2,.int .u8 2,.int .u8 2,.int .u8 2,.int .u8 2,.int .u8 2,.int .u8 2,.int .u8 2,.int .u8 2,.int .u8 2,.int .u8 2,.int .u8 2,.int .u8 19,.int .u8 3,.int .u8 3,.int .u8 3,.int .u8 3,.int .u8 3,.int .u8 3,.int .u8 3,.int .u8 3,.int .u8 3,.int .u8 3,.int .u8 3,.int .u8 3,.int .u8 35,.int .u8 3,.int .u8 3,.int .u8 52,.int .u8 4,.int .u8 4,.int .u8 4,.int .u8 68,.int .u8 241,.int .u8 241,.int .u8 241,.int .u8 241,.int .u8 241,.int .u8 241,.int .u8 241,.int .u8 241,.int .u8 241,.int .u8 241,.int .u8 241]
end Go.Proofs.YtenojajfacacoaaGreatDoor
/- Of any log, cut anywhere, in whatever chunks, all that is told, or which batch may not be; as a text, too: proved of every script, the library's own variables as the program lays them. -/
namespace Go.Proofs.YtenojajfacacoaaGreatDoor
set_option maxHeartbeats 4000000
open Go.Value renaming bool→U, string→Z, slice→Ja, int→I, pointer→Jc
open Go.Ending renaming returned→Jb
open _root_.Nat renaming le_refl→Jo, zero_le→Ji, add_assoc→Jm
open Go.IntKind renaming i64→O
open _root_.Go.Proofs.Tryz renaming prog→Jd
open _root_.List renaming length_cons→Jg, take_of_length_le→Jj, length_take→Jk, length_append→Je, length→Jh, take→Jq, getElem_mem→Jp, length_drop→Jf, length_nil→Jl, length_map→Jn
open Go.ChangeShapes Go.WideShapes Go.ChangeAt Go.ChangeMaps Go.RowKit
set_option maxRecDepth 100000
theorem zGR(os:Os):laidMet Tryz.prog Rows.reportPlaysRow.laid ((scWorld os).forCall (fun _ _=>0) ⟨#[],#[.agg #[.slice none 0 0,.int .i64 0,.slice none 0 0]],[]⟩).memory:=laidMet_of_run' 8 (by as_aux_lemma=>kernel_rfl) (by as_aux_lemma=>kernel_rfl)
theorem zFr(os:Os){H:Type}(enc:TypeId×Value→H):∃places,DataW.whole enc Tryz.prog ((scWorld os).forCall (fun _ _=>0) ⟨#[],#[.agg #[.slice none 0 0,.int .i64 0,.slice none 0 0]],[]⟩).memory Tryz.f3.params.toList Rows.reportPlaysSpec.vars false #[.agg #[.slice none 0 0,.int .i64 0,.slice none 0 0]].toList 8=some ([.agg [.nil,.lit (.int .i64 0),.nil]],[],places):=⟨[],by as_aux_lemma=>kernel_rfl⟩
theorem zEI(os:Os)(started:os.Started)(H:Type)(enc:TypeId×Value→H)(F:Stop.Interp):
 ReturnsInHanded {} Tryz.checked os 3 .any ((OpenSpec.ofChange Rows.reportPlaysSpec).preRow enc Tryz.prog Tryz.f3 Rows.reportPlaysRow.domain false Rows.reportPlaysRow.laid) (((OpenSpec.ofChange Rows.reportPlaysSpec).at F).post enc Tryz.prog Tryz.f3 false true false false):=by
 obtain⟨places,hx⟩:=zFr os enc
 refine returnsInHanded_of_row (C:=Tryz.checked) (s:=OpenSpec.ofChange Rows.reportPlaysSpec) Tryz.own started (by as_aux_lemma=>kernel_rfl) Tryz.func3
  (witness_row_at (enc:=enc) (C:=Tryz.checked) false (scWorld os) #[.agg #[.slice none 0 0,.int .i64 0,.slice none 0 0]] rfl (by as_aux_lemma=>kernel_rfl) (by as_aux_lemma=>kernel_rfl) (by as_aux_lemma=>kernel_rfl)
   (OpenSpec.preRow_of_cond 8 hx (by as_aux_lemma=>kernel_rfl) (fun k hk=>by cases hk) (by as_aux_lemma=>kernel_rfl) (zGR os))) ?_
 intro W base args ds gs before hval0 hW _ _ hsz0 hL hSh _;have hval:∀(j:Nat) t v,Tryz.f3.params[j]? =some t→args[j]? =some v→Value.okWide Tryz.prog W .any base t v:=hval0;clear hval0;have hlib:=zMz hL hSh;refine zLc (n:=1) (tb:=4) (s:=Rows.reportPlaysSpec) rfl rfl rfl Tryz.underlying4 (by intro ds h;match ds,h with|[d0],_=>rfl) (by as_aux_lemma=>kernel_rfl) hW ?_;intro p hA0 hlt;have hA:DataW.TrodAll enc Tryz.prog W 0 (fun _=>true) true Tryz.f3.params.toList args.toList ds p:=hA0;clear hA0;rw[Tryz.params3]at hA hval;obtain⟨v0,d0,rfl,rfl,h0⟩:=trodAll_one hA;have hsz:(DataW.weightsEach Tryz.prog (Tryz.f3.params.toList++(OpenSpec.ofChange Rows.reportPlaysSpec).bare.plain.varTypes Tryz.prog) ([d0]++gs)).all (· ≤reachBytes)=true:=hsz0;rw[Tryz.params3]at hsz;have lg0:zEf 25 d0:=zQB hsz (j:=0) rfl rfl;obtain⟨l,c,ch,qB,q,capB,cap,K,rfl,rc,rch,hq,hkl,hkb,hkc,hst⟩:=zRR (hval 0 25 v0 rfl rfl) h0 lg0 (fun y hy=>hlt y (by simp[hy])) hlib;exact zGS l c ch qB q capB cap rc rch hq hkl hkb hkc hst
theorem zGf:Rows.ReportPlaysSaid:=
 OpenClaim.holds_of_cond 3 Tryz.f3 rfl rfl rfl rfl rfl rfl rfl ⟨rfl,rfl,rfl,rfl,rfl⟩ rfl rfl rfl rfl rfl (by as_aux_lemma=>kernel_rfl) Tryz.func3 (by as_aux_lemma=>kernel_rfl)
  (of_decide_eq_true (by as_aux_lemma=>kernel_rfl)) (by as_aux_lemma=>(unfold Func.isWrapper;rw[if_neg (by as_aux_lemma=>decide+kernel)];exact⟨rfl,rfl⟩))
  (fun os started H enc _ F=>by rw[OpenClaim.pre_eq_preRow];exact zEI os started H enc F)
theorem zFs(f:FuncId)(fn:Func)(hf:Tryz.pinned.checked.prog.funcNamed "cursitor/cursitorlaw26.ReportPlays" =some f)(hfn:Tryz.pinned.checked.prog.funcs[f]? =some fn):
  true=Tryz.pinned.checked.prog.looks []∧∀(j:Nat) t,fn.params[j]? =some t→Tryz.pinned.checked.prog.wantsStandIn t=false:=by
 obtain rfl:f=3:=Option.some.inj ((show Tryz.prog.funcNamed "cursitor/cursitorlaw26.ReportPlays" =some 3 by as_aux_lemma=>kernel_rfl).symm.trans hf) |>.symm;obtain rfl:fn=Tryz.f3:=(Option.some.inj (Tryz.func3.symm.trans hfn)).symm;refine⟨by as_aux_lemma=>kernel_rfl,fun j t ht=> ?_⟩;rw[Tryz.params3]at ht;have hm:t∈[25]:=by simpa using Array.mem_of_getElem? ht
 have hall:([25].all fun u=> !Tryz.prog.wantsStandIn u)=true:=by as_aux_lemma=>kernel_rfl
 exact(show Tryz.prog.wantsStandIn t=false by simpa using List.all_eq_true.1 hall t hm)
theorem reportPlaysCard_holds:Rows.ReportPlaysCardSaid:=
 Claim7.holds_tied_plain_at .later [] _ _ _ _ zGf (fun _ h=>by cases h) (by as_aux_lemma=>kernel_rfl) (fun _ h=>by cases h) reportPlays_row_tie rfl ⟨rfl,rfl⟩ (by as_aux_lemma=>kernel_rfl) rfl zFs (by as_aux_lemma=>kernel_rfl)
end Go.Proofs.YtenojajfacacoaaGreatDoor
