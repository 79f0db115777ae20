/- A text. -/
import Derived.Test.YtenojajfacacoaaGreatDoorGReportPlaysCard9
import Derived.Test.YtenojajfacacoaaGreatDoorGReportPlaysCard8
import Derived.Test.YtenojajfacacoaaGreatDoorGReportPlaysCard4
import Derived.Test.YtenojajfacacoaaGreatDoorGReportPlaysCard11
import Derived.Lib.SmallJoins
import Derived.Test.YtenojajfacacoaaGreatDoorGReportPlaysCard1
import Derived.Test.YtenojajfacacoaaGreatDoorGReportPlaysCard7
import Derived.RegionTactic
import Derived.Deep.RegionHeld3
import Derived.Deep.DeepCutAuto
import Derived.WalkMore
import Derived.Test.YtenojajfacacoaaGreatDoorGReportPlaysCard2
import Derived.Test.YtenojajfacacoaaGreatDoorGReportPlaysCard3
import Derived.Test.YtenojajfacacoaaGreatDoorGReportPlaysCard5
import Derived.Test.YtenojajfacacoaaGreatDoorGReportPlaysCard10
/- A text. -/
namespace Go.Proofs.YtenojajfacacoaaGreatDoor
open Go.RowKit
open Go.Value renaming bool→U, string→Z, slice→Ja, int→I, pointer→Jc
open Go.Ending renaming returned→Jb
open _root_.Nat renaming le_refl→Jo, zero_le→Ji, add_assoc→Jm
open Go.IntKind renaming i64→O
open _root_.Go.Proofs.Tryz renaming prog→Jd
open _root_.List renaming length_cons→Jg, take_of_length_le→Jj, length_take→Jk, length_append→Je, length→Jh, take→Jq, getElem_mem→Jp, length_drop→Jf, length_nil→Jl, length_map→Jn
set_option maxHeartbeats 8000000
set_option maxRecDepth 100000
variable {W0 w:World}{K:Know}{L:List Res}
theorem zIn(b:BatS)(l:List (RecS×Value))(q:Option Addr)(cap:Nat)(hl:l.map (·.1)=b.recs)(so:MidOk b)(hk:K.has (Know.recs (Ja q l.length cap) l))(h:St W0 w K L):
 Calls Jd 48 #[.agg #[I O b.base,I O b.leader,U b.app,U b.txn,U b.ctl,I O b.last,I O b.first,I O b.maxt,I O b.prod,I O b.epoch,I O b.seq,Ja q l.length cap]] w fun en w'=>en=Jb (.tuple #[Z (bb b.enc),I O 0])∧St W0 w' K L:=by
 have hrow:=so.rows;have hlen:=so.len;have hcr:=b.crc_lt;have hml:l.length=b.recs.length:=by rw[←hl,Jn]
 have f0:=BatS.fitsAll so.err so.rng 0 dD oM oM;have f1:=BatS.fitsAll so.err so.rng b.crc oM oM oM;have r0:=BatS.pre_R so.err so.rng 0 dD oM oM;have r1:=BatS.pre_R so.err so.rng b.crc oM oM oM;have hmx:b.first≤9223372036854775807:=by have:=so.rng.2.2.2.1.2;omega
 have e0:b.pre 0=(⟨b.base,49+(b.rowsB.length:Int),b.leader,0,zAI b.app b.txn b.ctl 3,b.last,b.first,b.maxt,b.prod,b.epoch,b.seq,(l.length:Int)⟩:PreS):=by unfold BatS.pre;rw[hml]
 have e1:b.pre b.crc=(⟨b.base,49+(b.rowsB.length:Int),b.leader,(b.crc:Int),zAI b.app b.txn b.ctl 3,b.last,b.first,b.maxt,b.prod,b.epoch,b.seq,(l.length:Int)⟩:PreS):=by unfold BatS.pre;rw[hml]
 have i0:=zCw f0;have i1:=zCw f1;have hd0:=b.pre_drop 0;have l0:=zAY (b.pre 0);have l1:=zAY (b.pre b.crc);have he:zAh ⟨b.base,b.leader,b.app,b.txn,b.ctl,b.last,b.first,b.maxt,b.prod,b.epoch,b.seq,l.map (·.1)⟩=0:=by rw[hl];exact so.err
 have hrc:zCl (l.map (·.1))=0:=by rw[hl];exact(zB4 so.err).2.2.2
 have hrw:zA5 l=b.rowsB:=by rw[zCE,hl];rfl
 have hfb:FitB l:=by
  intro x hx;obtain⟨a,c,d⟩:=so.fit x.1 (by rw[←hl];exact List.mem_map.2 ⟨x,hx,rfl⟩);have:=zEU x.1.hdrs 2000 (by unfold RecS.sum at d;omega);exact⟨a,fun y hy=>by have:=this y hy;omega,oM⟩
 have hall:zAj (b.pre b.crc).items++b.rowsB=b.enc:=rfl;have hx:(zAq 0#32 ((zAj (b.pre 0).items).drop 21++b.rowsB)).toNat=b.crc:=by rw[hd0];rfl
 rw[e0]at r0 i0;rw[e1]at r1 i1;obtain⟨s0,hs0⟩:=eX (zAj (b.pre 0).items);obtain⟨s1,hs1⟩:=eX (zAj (b.pre b.crc).items);have g0:zAj (⟨b.base,49+(b.rowsB.length:Int),b.leader,0,zAI b.app b.txn b.ctl 3,b.last,b.first,b.maxt,b.prod,b.epoch,b.seq,(l.length:Int)⟩:PreS).items=s0:=e0 ▸ hs0;have g1:zAj (⟨b.base,49+(b.rowsB.length:Int),b.leader,(b.crc:Int),zAI b.app b.txn b.ctl 3,b.last,b.first,b.maxt,b.prod,b.epoch,b.seq,(l.length:Int)⟩:PreS).items=s1:=e1 ▸ hs1;rw[g0]at i0;rw[g1]at i1;rw[hs0]at hx l0;rw[hs1]at hall l1;exact zDt b.base b.leader b.app b.txn b.ctl b.last b.first b.maxt b.prod b.epoch b.seq l q cap he hmx hfb oM b.rowsB s0 s1 b.enc b.crc (zAI b.app b.txn b.ctl 3) hrc hrw oM rfl r0 r1 i0 i1 l0 l1 hx hall hk h
theorem zH0(b:BatS)(s:Bs)(hs:b.enc=s)(l:List (RecS×Value))(q:Option Addr)(cap:Nat)(hl:l.map (·.1)=b.recs)(so:MidOk b)(hk:K.has (Know.recs (Ja q l.length cap) l))(h:St W0 w K L):
 Calls Jd 48 #[.agg #[I O b.base,I O b.leader,U b.app,U b.txn,U b.ctl,I O b.last,I O b.first,I O b.maxt,I O b.prod,I O b.epoch,I O b.seq,Ja q l.length cap]] w fun en w'=>en=Jb (.tuple #[Z (bb s),I O 0])∧St W0 w' K L:=by
 subst hs;exact zIn b l q cap hl so hk h
theorem MidOk.elen{b:BatS}(h:MidOk b):b.enc.length≤2061:=by rw[b.enc_len];have:=h.rows;omega
theorem zNM:∀(l:List BatR),(∀x∈l,MidOk x.b)→(encB l).length≤2061*l.length
 |[],_=>by simp[encB]
 |x::t,h=>by
  have h1:=zNM t (fun y hy=>h y (by simp[hy]));have h2:=(h x sM).elen;have e:encB (x::t)=x.b.enc++encB t:=rfl;rw[e,Je,Jg]
  omega
theorem zM1(l:List BatR)(q:Option Addr)(cap:Nat)(s:Bs)(hs:encB l=s)(hf:∀x∈l,x.l.map (·.1)=x.b.recs∧MidOk x.b)(hll:l.length≤30)(hk:K.has (Know.bats (Ja q l.length cap) l))(h:St W0 w K L):
  Calls Jd 19 #[Ja q l.length cap] w fun en w'=>en=Jb (.tuple #[Z (bb s),I O 0])∧St W0 w' K L:=by
 have g1:=h.allocOut;obtain⟨po,hpo⟩:=eX w.heap.size;rw[hpo]at g1;have H:=hQd g1;have HK:=hQd hk;have HFT:=hQd hf;have HLL:=hQd hll;have HSE:=hQd hs;clear h g1 hk hf hll hs;go_enter Tryz.func19,Tryz.ntmps19;go_wp2;go_loopw [6,7,8,11] (fun _ _ _ iv wr=>∃k:Nat,k≤l.length∧iv=I O k∧St W0 wr K (.out po ⟨encB (l.take k),0⟩::L)) (fun _ _ _ iv _=>l.length - (intOf iv).toNat)
 case atStart=>exact⟨0,Ji _,rfl,H.out⟩
 case round=>
  obtain⟨k,hkl,rfl,hst⟩:=hrel;clear H;have H:=hQd hst;clear hst
  by_cases hlt:k<l.length
  · have hl20:(l.length:Int)≤30:=by have:=HLL.out;omega
    have het:=zHN l k hlt;obtain⟨b,off,hqq⟩:=zCW HK.out H.out oM;subst hqq;obtain⟨x,hx⟩:=eX (l[k]);have cc:=zBW HK.out H.out k hlt x hx;have hmem:x∈l:=hx ▸ Jp hlt;have XF:=hQd (HFT.out x hmem);have XR3:=hQd XF.out.1;have XM:=hQd XF.out.2;have XK:=hQd (zBC HK.out hmem);obtain⟨c0,c1,c2,c3,c4,c5,c6,c7,c8,c9,c10,c11⟩:=cc;obtain⟨wE,hwE⟩:=eX wr.heap.size;have hki:(k:Int)<(l.length:Int):=by omega
    have h:=H.out.allocRaw #[I O x.b.base,I O x.b.leader,U x.b.app,U x.b.txn,U x.b.ctl,I O x.b.last,I O x.b.first,I O x.b.maxt,I O x.b.prod,I O x.b.epoch,I O x.b.seq,Ja x.q x.l.length x.cap] 30;rw[hwE]at h;clear H;have H:=hQd h;clear h;rw[hx]at het;obtain⟨x0,x1,x2,x3,x4,x5,x6,x7,x8,x9,x10,x11,y0,y1,y2,y3,y4,y5,y6,y7,y8,y9,y10,y11⟩:=zAd (b:=wE) (H.out);obtain⟨s0,hs0⟩:=eX x.b.enc;have HS:=hQd hs0;rw[hs0]at het
    have OK:=hQd (show(⟨encB (l.take k),0⟩:OutS).ok s0.length by
     have h1:=zNM (l.take k) (fun y hy=>(HFT.out y (List.mem_of_mem_take hy)).2);have h2:=HLL.out;have h3:=XM.out.elen;rw[HS.out]at h3;rw[Jk]at h1;unfold OutS.ok;simp only
     omega)
    have EP:=hQd (show(⟨encB (l.take k),0⟩:OutS).put s0=⟨encB (l.take (k+1)),0⟩ by rw[het];rfl);clear het hs0 hx hmem
    go_wp2_with (first
  |(go_at_call 48;clear x0 y0 x1 y1 x2 y2 x3 y3 x4 y4 x5 y5 x6 y6 x7 y7 x8 y8 x9 y9 x10 y10 x11 y11;(with_reducible refine(zH0 x.b s0 HS.out x.l _ _ XR3.out XM.out XK.out H.out).zM ?_);clear H;intro wn H;obtain⟨x0,x1,x2,x3,x4,x5,x6,x7,x8,x9,x10,x11,y0,y1,y2,y3,y4,y5,y6,y7,y8,y9,y10,y11⟩:=zAd (b:=wE) (H.out))
  |(go_at_call 49;(with_reducible refine(zPu po _ _ H.out.p1 OK.out).mono ?_);rw[EP.out];rintro e_ wn ⟨rfl,h⟩;replace H:=hQd h;clear h))
    go_roundw
    case rel=>exact⟨k+1,hlt,by go_num,H.out.p1.drop⟩
    case measure=>first|(simp[intOf];done)|(simp[intOf];omega)
  · obtain rfl:k=l.length:=by omega
    have h:=H.out;rw[List.take_length,HSE.out]at h;clear H;have H:=hQd h;clear h;have ET:=hQd (show(⟨s,0⟩:OutS).text=(s,0)from rfl)
    go_wp2_with (first
  |(go_at_call 50;(with_reducible refine(zJi po _ H.out).mono ?_);rw[ET.out];rintro e_ wn ⟨rfl,h⟩;replace H:=hQd h;clear h))
    go_ret2;exact⟨rfl,H.out.drop⟩
open Go.ChangeShapes Go.WideShapes Go.ChangeAt Go.Deep
theorem zLF:Tryz.prog.cellsOf 73=3:=by kernel_rfl
theorem zEa:Tryz.prog.cellsOf 51=2:=by kernel_rfl
theorem zD9:Tryz.prog.cellsOf 4=1:=by kernel_rfl
section
variable {H:Type}{enc:TypeId×Value→H}{w:World}{spare:Nat→Bool}{held:Bool}
end
end Go.Proofs.YtenojajfacacoaaGreatDoor
namespace Go.Proofs.YtenojajfacacoaaGreatDoor
open Go.RowKit
open Go.Value renaming bool→U, string→Z, slice→Ja, int→I, pointer→Jc
open Go.Ending renaming returned→Jb
open _root_.Nat renaming le_refl→Jo, zero_le→Ji, add_assoc→Jm
open Go.IntKind renaming i64→O
open _root_.Go.Proofs.Tryz renaming prog→Jd
open _root_.List renaming length_cons→Jg, take_of_length_le→Jj, length_take→Jk, length_append→Je, length→Jh, take→Jq, getElem_mem→Jp, length_drop→Jf, length_nil→Jl, length_map→Jn
set_option maxRecDepth 100000
open Go.ChangeShapes Go.WideShapes Go.ChangeAt Go.Deep
section
variable {H:Type}{enc:TypeId×Value→H}{w:World}{spare:Nat→Bool}{held:Bool}
theorem zFV{N:Nat}:∀n cs y,DataW.trod enc Jd w 0 spare held n 51 cs=some y→zEf 51 y.1→(∀x∈y.2,x.block<N)→∃x:BlobS,cs=[U x.null,Z (bb x.data)]∧x.data.length≤140737488351232:=by
 intro n cs y h hl hN;obtain⟨hc,m,hf⟩:=zCA Tryz.underlying51 h hl hN;rw[zEa]at hc;obtain⟨a,b,rfl⟩:=len2 hc;obtain⟨z0,g0,l0,_⟩:=hf 0 _ rfl;obtain⟨z1,g1,l1,_⟩:=hf 1 _ rfl;have g0:DataW.trod enc Jd w 0 spare held m 4 (Jq (Tryz.prog.cellsOf 4) (List.drop 0 [a,b]))=some z0:=g0;have g1:DataW.trod enc Jd w 0 spare held m 9 (Jq (Tryz.prog.cellsOf 9) (List.drop 1 [a,b]))=some z1:=g1;rw[zD9]at g0;rw[zLB]at g1;obtain⟨x,e0⟩:=zD0 Tryz.underlying4 g0;obtain⟨s,e1,hs⟩:=zK6 Tryz.underlying9 g1 l1;simp at e0 e1;subst e0 e1;exact⟨⟨x,s⟩,rfl,hs⟩
theorem zOm{N:Nat}:∀n cs y,DataW.trod enc Jd w 0 spare held n 73 cs=some y→zEf 73 y.1→(∀x∈y.2,x.block<N)→∃x:HdrS,RHdr cs x∧(x.key.length≤140737488351232∧x.val.data.length≤140737488351232):=by
 intro n cs y h hl hN;obtain⟨hc,m,hf⟩:=zCA Tryz.underlying73 h hl hN;rw[zLF]at hc;obtain⟨a,b,c,rfl⟩:=len3 hc;obtain⟨z0,g0,l0,n0⟩:=hf 0 _ rfl;obtain⟨z1,g1,l1,n1⟩:=hf 1 _ rfl;have g0:DataW.trod enc Jd w 0 spare held m 9 (Jq (Tryz.prog.cellsOf 9) (List.drop 0 [a,b,c]))=some z0:=g0;have g1:DataW.trod enc Jd w 0 spare held m 51 (Jq (Tryz.prog.cellsOf 51) (List.drop 1 [a,b,c]))=some z1:=g1;rw[zLB]at g0;rw[zEa]at g1;obtain⟨s,e0,hs⟩:=zK6 Tryz.underlying9 g0 l0;obtain⟨x,e1,hx⟩:=zFV _ _ _ g1 l1 n1;simp at e0 e1;obtain⟨e1,e2⟩:=e1;subst e0 e1 e2;exact⟨⟨s,x⟩,rfl,hs,hx⟩
end
end Go.Proofs.YtenojajfacacoaaGreatDoor
namespace Go.Proofs.YtenojajfacacoaaGreatDoor
open Go.RowKit
open Go.Value renaming bool→U, string→Z, slice→Ja, int→I, pointer→Jc
open Go.Ending renaming returned→Jb
open _root_.Nat renaming le_refl→Jo, zero_le→Ji, add_assoc→Jm
open Go.IntKind renaming i64→O
open _root_.Go.Proofs.Tryz renaming prog→Jd
open _root_.List renaming length_cons→Jg, take_of_length_le→Jj, length_take→Jk, length_append→Je, length→Jh, take→Jq, getElem_mem→Jp, length_drop→Jf, length_nil→Jl, length_map→Jn
end Go.Proofs.YtenojajfacacoaaGreatDoor
namespace Go.Proofs.YtenojajfacacoaaGreatDoor
open Go.Value renaming bool→U, string→Z, slice→Ja, int→I, pointer→Jc
open Go.Ending renaming returned→Jb
open _root_.Nat renaming le_refl→Jo, zero_le→Ji, add_assoc→Jm
open Go.IntKind renaming i64→O
open _root_.Go.Proofs.Tryz renaming prog→Jd
open _root_.List renaming length_cons→Jg, take_of_length_le→Jj, length_take→Jk, length_append→Je, length→Jh, take→Jq, getElem_mem→Jp, length_drop→Jf, length_nil→Jl, length_map→Jn
open Go.Joins Go.RowKit
open Go.ChangeShapes Go.WideShapes Go.ChangeAt Go.Deep
theorem zLD:Tryz.prog.cellsOf 54=7:=by kernel_rfl
theorem zO7:Tryz.prog.cellsOf 52=1:=by kernel_rfl
section
variable {H:Type}{enc:TypeId×Value→H}{w:World}{spare:Nat→Bool}{held:Bool}
end
end Go.Proofs.YtenojajfacacoaaGreatDoor
namespace Go.Proofs.YtenojajfacacoaaGreatDoor
open Go.RowKit
open Go.Value renaming bool→U, string→Z, slice→Ja, int→I, pointer→Jc
open Go.Ending renaming returned→Jb
open _root_.Nat renaming le_refl→Jo, zero_le→Ji, add_assoc→Jm
open Go.IntKind renaming i64→O
open _root_.Go.Proofs.Tryz renaming prog→Jd
open _root_.List renaming length_cons→Jg, take_of_length_le→Jj, length_take→Jk, length_append→Je, length→Jh, take→Jq, getElem_mem→Jp, length_drop→Jf, length_nil→Jl, length_map→Jn
def GoodR (l:List (RecS×Value)):Prop:=∀x∈l,smallR x.1=1∧zA8 x.1=0
theorem GoodR.nil:GoodR []:=fun _ h=>by cases h
def FitR (l:List (RecS×Value)):Prop:=∀x∈l,x.1.R∧x.1.hdrs.length≤9223372036854775807∧HFit x.1.hdrs∧x.1.key.data.length≤140737488351232∧x.1.val.data.length≤140737488351232
end Go.Proofs.YtenojajfacacoaaGreatDoor
namespace Go.Proofs.YtenojajfacacoaaGreatDoor
open Go.Value renaming bool→U, string→Z, slice→Ja, int→I, pointer→Jc
open Go.Ending renaming returned→Jb
open _root_.Nat renaming le_refl→Jo, zero_le→Ji, add_assoc→Jm
open Go.IntKind renaming i64→O
open _root_.Go.Proofs.Tryz renaming prog→Jd
open _root_.List renaming length_cons→Jg, take_of_length_le→Jj, length_take→Jk, length_append→Je, length→Jh, take→Jq, getElem_mem→Jp, length_drop→Jf, length_nil→Jl, length_map→Jn
open Go.Joins Go.RowKit
set_option maxHeartbeats 1000000
set_option maxRecDepth 100000
open Go.ChangeShapes Go.WideShapes Go.ChangeAt Go.Deep
def QRec (W:World) (x:RecS×Value):Prop:=RowsOf (fun _ cs x=>RHdr cs x) (· <W.heap.size) W x.2 3 x.1.hdrs∧x.1.R∧x.1.hdrs.length≤9223372036854775807∧HFit x.1.hdrs∧x.1.key.data.length≤140737488351232∧x.1.val.data.length≤140737488351232
theorem QRec.fit{W:World}{l:List (RecS×Value)}(h:∀x∈l,QRec W x):FitR l:=fun x hx=>(h x hx).2
theorem QRec.start{W:World}{v:Value}{l:List (RecS×Value)}(hr:RowsOf (fun _ cs x=>RRec cs x) (· <W.heap.size) W v 7 l)(h:∀x∈l,QRec W x):St W W (Know.recs v l) []:=St.start ⟨hr,fun x hx=>(h x hx).1⟩
section
variable {H:Type}{enc:TypeId×Value→H}{w:World}{spare:Nat→Bool}{held:Bool}
theorem zOi:∀n cs y,DataW.trod enc Jd w 0 spare held n 54 cs=some y→zEf 54 y.1→(∀x∈y.2,x.block<w.heap.size)→∃x:RecS×Value,RRec cs x∧QRec w x:=by
 intro n cs y hf hl hN;have hNw:w.heap.size≤w.heap.size:=Jo _;obtain⟨hc,m,hg⟩:=zCA Tryz.underlying54 hf hl hN;rw[zLD]at hc
 match cs,hc with
 |[c0,c1,c2,c3,c4,c5,c6],_=>
  obtain⟨z0,g0,l0,n0⟩:=hg 0 _ rfl;have g0:DataW.trod enc Jd w 0 spare held m 3 (Jq (Tryz.prog.cellsOf 3) (List.drop 0 [c0,c1,c2,c3,c4,c5,c6]))=some z0:=g0;rw[zBB]at g0;obtain⟨z1,g1,l1,n1⟩:=hg 1 _ rfl;have g1:DataW.trod enc Jd w 0 spare held m 3 (Jq (Tryz.prog.cellsOf 3) (List.drop 1 [c0,c1,c2,c3,c4,c5,c6]))=some z1:=g1;rw[zBB]at g1;obtain⟨z2,g2,l2,n2⟩:=hg 2 _ rfl;have g2:DataW.trod enc Jd w 0 spare held m 51 (Jq (Tryz.prog.cellsOf 51) (List.drop 2 [c0,c1,c2,c3,c4,c5,c6]))=some z2:=g2;rw[zEa]at g2;obtain⟨z3,g3,l3,n3⟩:=hg 3 _ rfl;have g3:DataW.trod enc Jd w 0 spare held m 51 (Jq (Tryz.prog.cellsOf 51) (List.drop 4 [c0,c1,c2,c3,c4,c5,c6]))=some z3:=g3;rw[zEa]at g3;obtain⟨z4,g4,l4,n4⟩:=hg 4 _ rfl;have g4:DataW.trod enc Jd w 0 spare held m 52 (Jq (Tryz.prog.cellsOf 52) (List.drop 6 [c0,c1,c2,c3,c4,c5,c6]))=some z4:=g4;rw[zO7]at g4;obtain⟨x0,e0,r0⟩:=zBi Tryz.underlying3 g0;obtain⟨x1,e1,r1⟩:=zBi Tryz.underlying3 g1;obtain⟨x2,e2,s2⟩:=zFV _ _ _ g2 l2 n2;obtain⟨x3,e3,s3⟩:=zFV _ _ _ g3 l3 n3;obtain⟨v6,x4,e4,hr,_,hm⟩:=zDZ (R:=fun w cs x=>(fun _ cs x=>RHdr cs x) w cs x∧(fun x:HdrS=>x.key.length≤140737488351232∧x.val.data.length≤140737488351232) x) (N:=w.heap.size) Tryz.underlying52 zLF dD zOm g4 l4 n4 hNw;obtain⟨hr1,hq⟩:=hr.part;simp at e0 e1 e2 e3 e4;obtain⟨e2a,e2b⟩:=e2;obtain⟨e3a,e3b⟩:=e3;subst e0 e1 e2a e2b e3a e3b e4;have hm2:x4.length≤9223372036854775807:=hm;exact⟨(⟨x0,x1,x2,x3,x4⟩,_),rfl,hr1,⟨r0,r1⟩,hm2,hq,s2,s3⟩
end
end Go.Proofs.YtenojajfacacoaaGreatDoor
namespace Go.Proofs.YtenojajfacacoaaGreatDoor
open Go.Value renaming bool→U, string→Z, slice→Ja, int→I, pointer→Jc
open Go.Ending renaming returned→Jb
open _root_.Nat renaming le_refl→Jo, zero_le→Ji, add_assoc→Jm
open Go.IntKind renaming i64→O
open _root_.Go.Proofs.Tryz renaming prog→Jd
open _root_.List renaming length_cons→Jg, take_of_length_le→Jj, length_take→Jk, length_append→Je, length→Jh, take→Jq, getElem_mem→Jp, length_drop→Jf, length_nil→Jl, length_map→Jn
open Go.Joins Go.RowKit
set_option maxHeartbeats 2000000
set_option maxRecDepth 100000
open Go.ChangeShapes Go.WideShapes Go.ChangeAt Go.Deep
theorem zRn:Tryz.prog.cellsOf 30=12:=by kernel_rfl
theorem zO6:Tryz.prog.cellsOf 28=1:=by kernel_rfl
section
variable {H:Type}{enc:TypeId×Value→H}{w:World}{spare:Nat→Bool}{held:Bool}
theorem zRw:∀n cs y,DataW.trod enc Jd w 0 spare held n 30 cs=some y→zEf 30 y.1→(∀x∈y.2,x.block<w.heap.size)→
    ∃(base leader:Int) (app txn ctl:Bool) (last first maxt prod epoch sq:Int) (l:List (RecS×Value)) (rv:Value),cs=[I O base,I O leader,U app,U txn,U ctl,I O last,I O first,I O maxt,I O prod,I O epoch,I O sq,rv]∧
      BatS.R ⟨base,leader,app,txn,ctl,last,first,maxt,prod,epoch,sq,l.map (·.1)⟩∧RowsOf (fun _ cs x=>RRec cs x) (· <w.heap.size) w rv 7 l∧(∀x∈l,QRec w x):=by
  intro n cs y hf hl hN;obtain⟨hc,m,hg⟩:=zCA Tryz.underlying30 hf hl hN;rw[zRn]at hc
  match cs,hc with
  |[c0,c1,c2,c3,c4,c5,c6,c7,c8,c9,c10,c11],_=>
    obtain⟨z0,g0,l0,n0⟩:=hg 0 _ rfl;have g0:DataW.trod enc Jd w 0 spare held m 3 (Jq (Tryz.prog.cellsOf 3) (List.drop 0 [c0,c1,c2,c3,c4,c5,c6,c7,c8,c9,c10,c11]))=some z0:=g0;rw[zBB]at g0;obtain⟨z1,g1,l1,n1⟩:=hg 1 _ rfl;have g1:DataW.trod enc Jd w 0 spare held m 3 (Jq (Tryz.prog.cellsOf 3) (List.drop 1 [c0,c1,c2,c3,c4,c5,c6,c7,c8,c9,c10,c11]))=some z1:=g1;rw[zBB]at g1;obtain⟨z2,g2,l2,n2⟩:=hg 2 _ rfl;have g2:DataW.trod enc Jd w 0 spare held m 4 (Jq (Tryz.prog.cellsOf 4) (List.drop 2 [c0,c1,c2,c3,c4,c5,c6,c7,c8,c9,c10,c11]))=some z2:=g2;rw[zD9]at g2;obtain⟨z3,g3,l3,n3⟩:=hg 3 _ rfl;have g3:DataW.trod enc Jd w 0 spare held m 4 (Jq (Tryz.prog.cellsOf 4) (List.drop 3 [c0,c1,c2,c3,c4,c5,c6,c7,c8,c9,c10,c11]))=some z3:=g3;rw[zD9]at g3;obtain⟨z4,g4,l4,n4⟩:=hg 4 _ rfl;have g4:DataW.trod enc Jd w 0 spare held m 4 (Jq (Tryz.prog.cellsOf 4) (List.drop 4 [c0,c1,c2,c3,c4,c5,c6,c7,c8,c9,c10,c11]))=some z4:=g4;rw[zD9]at g4;obtain⟨z5,g5,l5,n5⟩:=hg 5 _ rfl;have g5:DataW.trod enc Jd w 0 spare held m 3 (Jq (Tryz.prog.cellsOf 3) (List.drop 5 [c0,c1,c2,c3,c4,c5,c6,c7,c8,c9,c10,c11]))=some z5:=g5;rw[zBB]at g5;obtain⟨z6,g6,l6,n6⟩:=hg 6 _ rfl;have g6:DataW.trod enc Jd w 0 spare held m 3 (Jq (Tryz.prog.cellsOf 3) (List.drop 6 [c0,c1,c2,c3,c4,c5,c6,c7,c8,c9,c10,c11]))=some z6:=g6;rw[zBB]at g6;obtain⟨z7,g7,l7,n7⟩:=hg 7 _ rfl;have g7:DataW.trod enc Jd w 0 spare held m 3 (Jq (Tryz.prog.cellsOf 3) (List.drop 7 [c0,c1,c2,c3,c4,c5,c6,c7,c8,c9,c10,c11]))=some z7:=g7;rw[zBB]at g7;obtain⟨z8,g8,l8,n8⟩:=hg 8 _ rfl;have g8:DataW.trod enc Jd w 0 spare held m 3 (Jq (Tryz.prog.cellsOf 3) (List.drop 8 [c0,c1,c2,c3,c4,c5,c6,c7,c8,c9,c10,c11]))=some z8:=g8;rw[zBB]at g8;obtain⟨z9,g9,l9,n9⟩:=hg 9 _ rfl;have g9:DataW.trod enc Jd w 0 spare held m 3 (Jq (Tryz.prog.cellsOf 3) (List.drop 9 [c0,c1,c2,c3,c4,c5,c6,c7,c8,c9,c10,c11]))=some z9:=g9;rw[zBB]at g9;obtain⟨z10,g10,l10,n10⟩:=hg 10 _ rfl;have g10:DataW.trod enc Jd w 0 spare held m 3 (Jq (Tryz.prog.cellsOf 3) (List.drop 10 [c0,c1,c2,c3,c4,c5,c6,c7,c8,c9,c10,c11]))=some z10:=g10;rw[zBB]at g10;obtain⟨z11,g11,l11,n11⟩:=hg 11 _ rfl;have g11:DataW.trod enc Jd w 0 spare held m 28 (Jq (Tryz.prog.cellsOf 28) (List.drop 11 [c0,c1,c2,c3,c4,c5,c6,c7,c8,c9,c10,c11]))=some z11:=g11;rw[zO6]at g11;obtain⟨x0,e0,r0⟩:=zBi Tryz.underlying3 g0;obtain⟨x1,e1,r1⟩:=zBi Tryz.underlying3 g1;obtain⟨x2,e2⟩:=zD0 Tryz.underlying4 g2;obtain⟨x3,e3⟩:=zD0 Tryz.underlying4 g3;obtain⟨x4,e4⟩:=zD0 Tryz.underlying4 g4;obtain⟨x5,e5,r5⟩:=zBi Tryz.underlying3 g5;obtain⟨x6,e6,r6⟩:=zBi Tryz.underlying3 g6;obtain⟨x7,e7,r7⟩:=zBi Tryz.underlying3 g7;obtain⟨x8,e8,r8⟩:=zBi Tryz.underlying3 g8;obtain⟨x9,e9,r9⟩:=zBi Tryz.underlying3 g9;obtain⟨x10,e10,r10⟩:=zBi Tryz.underlying3 g10;obtain⟨v11,x11,e11,hrq,_,_⟩:=zDZ (R:=fun w' cs x=>(fun _ cs x=>RRec cs x) w' cs x∧QRec w x) (N:=w.heap.size) Tryz.underlying28 zLD dD zOi g11 l11 n11 (Jo _);obtain⟨hr,hq⟩:=hrq.part;simp at e0 e1 e2 e3 e4 e5 e6 e7 e8 e9 e10 e11;subst e0 e1 e2 e3 e4 e5 e6 e7 e8 e9 e10 e11;exact⟨x0,x1,x2,x3,x4,x5,x6,x7,x8,x9,x10,x11,_,rfl,⟨r0,r1,r5,r6,r7,r8,r9,r10⟩,hr,hq⟩
end
end Go.Proofs.YtenojajfacacoaaGreatDoor
namespace Go.Proofs.YtenojajfacacoaaGreatDoor
open Go.RowKit
open Go.Value renaming bool→U, string→Z, slice→Ja, int→I, pointer→Jc
open Go.Ending renaming returned→Jb
open _root_.Nat renaming le_refl→Jo, zero_le→Ji, add_assoc→Jm
open Go.IntKind renaming i64→O
open _root_.Go.Proofs.Tryz renaming prog→Jd
open _root_.List renaming length_cons→Jg, take_of_length_le→Jj, length_take→Jk, length_append→Je, length→Jh, take→Jq, getElem_mem→Jp, length_drop→Jf, length_nil→Jl, length_map→Jn
def ValM (ob:Nat) (w:World):Nat:=(intOf ((w.cell? ⟨ob,1,none⟩).getD undef)).toNat
theorem zQy{a b c:Nat}(h:a=b)(h2:b<c):a<c:=h ▸ h2
theorem valM{W0 w:World}{K:Know}{L:List Res}{ob V:Nat}{a c d:Value}{T:TypeId}(h:St W0 w K (.raw ob #[a,I O V,c,d] T::L)):ValM ob w=V:=by
 have:=h.rawCell 1;unfold ValM;rw[this]
 rfl
theorem zJS{A:Bs}{V:Nat}{acc:List BatS}(hV:V≤A.length)(hs:zAt A=(acc++(zAt (A.drop V)).1,(zAt (A.drop V)).2))(hf:zAo (A.drop V)=.ok none):finS A=(acc,V,A.drop V,0):=by
 rw[zAU hf]at hs;simp only at hs;unfold finS;rw[hs];simp only;rw[List.append_nil,if_neg sM,Jf]
 congr 2
 omega
theorem zQV{A:Bs}{V:Nat}{acc:List BatS}{e:Int}(hV:V≤A.length)(hs:zAt A=(acc++(zAt (A.drop V)).1,(zAt (A.drop V)).2))(hf:zAo (A.drop V)=.error e):finS A=(acc,V,[],e):=by
 have h0:=zIY hf;rw[zDA hf]at hs;simp only at hs;unfold finS;rw[hs];simp only;rw[List.append_nil,if_pos h0,Jf]
 congr 2
 omega
theorem zPB{A:Bs}{V n:Nat}{acc:List BatS}{b:BatS}(hs:zAt A=(acc++(zAt (A.drop V)).1,(zAt (A.drop V)).2))(hf:zAo (A.drop V)=.ok (some (b,n))):zAt A=((acc++[b])++(zAt (A.drop (V+n))).1,(zAt (A.drop (V+n))).2):=by
 rw[zBY hf,List.drop_drop]at hs;rw[hs,List.append_assoc]
 rfl
set_option maxHeartbeats 1000000
set_option maxRecDepth 100000
variable {W0 w:World}{K:Know}{L:List Res}
theorem zBf(e:Int)(h:St W0 w K L):
 Calls Jd 96 #[I O e] w fun en w'=>en=Jb (.agg #[I O 0,I O 0,U false,U false,U false,I O 0,I O 0,I O 0,I O 0,I O 0,I O 0,Ja none 0 0,I O 0,I O e])∧St W0 w' K L:=by
 obtain⟨rb,hrb⟩:=eX w.heap.size;have g1:=h.allocRaw #[I O 0,I O 0,U false,U false,U false,I O 0,I O 0,I O 0,I O 0,I O 0,I O 0,Ja none 0 0,I O 0,I O 0] 105;rw[hrb]at g1;obtain⟨z0,z1,z2,z3,z4,z5,z6,z7,z8,z9,z10,z11,z12,z13,zf0,zf1,zf2,zf3,zf4,zf5,zf6,zf7,zf8,zf9,zf10,zf11,zf12,zf13⟩:=zBy (b:=rb) (g1);have g2:=h.allocRaw #[I O 0,I O 0,U false,U false,U false,I O 0,I O 0,I O 0,I O 0,I O 0,I O 0,Ja none 0 0,I O 0,I O e] 105;rw[hrb]at g2;have H:=hQd g2;clear h g1 g2;go_enter Tryz.func96,Tryz.ntmps96;go_wp2;have hz:=H.out;refine bodyPost_ret (zAn rfl _ _ rb [I O 0,I O 0,U false,U false,U false,I O 0,I O 0,I O 0,I O 0,I O 0,I O 0,Ja none 0 0,I O 0,I O e] _ rfl (zAp hz) Tryz.underlying105 rfl kR) rfl ?_;exact⟨rfl,hz.drop⟩
theorem zFk(n:Int)(hn: -9223372036854775808≤n∧n<9223372036854775808)(c0 c1:UInt8)(hb:zAm n 2=[c0,c1])(h:St W0 w K L):
 Calls Jd 62 #[I O n,I O 2] w fun en w'=>en=Jb (Z (bb [c0,c1]))∧St W0 w' K L:=by
 rw[←hb];exact zDU n 2 dD hn h
variable {W0 w:World}{K:Know}{L:List Res}
theorem zEK(s:Bs)(hs:s.length<61)(h:St W0 w K L):
 Calls Jd 66 #[Z (bb s)] w fun en w'=>en=Jb (.tuple #[Ja none 0 0,I O 1])∧St W0 w' K L:=by
 have H:=hQd h;have hd:decide ((s.length:Int)<61)=true:=decide_eq_true oM;clear h hs;go_enter Tryz.func66,Tryz.ntmps66;go_wp2;go_ret2;exact⟨rfl,H.out⟩
theorem zHm(s:Bs):(preX s).1.len=sInt ((s.drop 8).take 4)∧(preX s).1.count=sInt ((s.drop 57).take 4)∧(preX s).2=sInt ((s.drop 16).take 1):=by
 rw[zHn];exact⟨rfl,rfl,rfl⟩
theorem zDv(s:Bs)(e:Int)(he:zAR s=.error e)(hl:s.length≤140737488355328)(h:St W0 w K L):
 Calls Jd 66 #[Z (bb s)] w fun en w'=>en=Jb (.tuple #[Ja none 0 0,I O e])∧St W0 w' K L:=by
 unfold zAR at he
 by_cases h1:s.length<61
 ·rw[if_pos h1]at he
  cases he
  exact zEK s h1 h
 rw[if_neg h1]at he;obtain⟨g1,g2,g3⟩:=zHm s;rw[g1,g2,g3]at he;have h4:=(zBZ ((s.drop 17).take 4) (by rw[Jk];omega)).1;have h44:=(zBZ ((s.drop 17).take 4) (by rw[Jk];omega));refine zEL s (sInt ((s.drop 0).take 8)) (sInt ((s.drop 8).take 4)) (sInt ((s.drop 12).take 4)) (sInt ((s.drop 16).take 1)) (sInt ((s.drop 17).take 4)) (sInt ((s.drop 21).take 2)) (sInt ((s.drop 23).take 4)) (sInt ((s.drop 27).take 8)) (sInt ((s.drop 35).take 8)) (sInt ((s.drop 43).take 8)) (sInt ((s.drop 51).take 2)) (sInt ((s.drop 53).take 4)) (sInt ((s.drop 57).take 4)) rfl rfl rfl rfl rfl rfl rfl rfl rfl rfl rfl rfl rfl oM hl h4 (sInt ((s.drop 17).take 4) % 4294967296) oM _ ?_ h
 by_cases hm:sInt ((s.drop 16).take 1)=2
 ·rw[if_pos hm]at he
  by_cases hq:sInt ((s.drop 8).take 4)<49
  ·rw[if_pos hq]at he
   cases he
   exact .inr (.inl ⟨by simpa using hm,hq,fun _ h=>⟨rfl,h⟩⟩)
  ·rw[if_neg hq]at he
   by_cases hc:sInt ((s.drop 57).take 4)<0
   ·rw[if_pos hc]at he
    cases he
    exact .inr (.inr (.inl ⟨by simpa using hm,hq,hc,fun _ h=>⟨rfl,h⟩⟩))
   ·rw[if_neg hc]at he
    cases he
 ·rw[if_neg hm]at he
  cases he
  exact .inl ⟨by simpa using hm,fun _ h=>⟨rfl,h⟩⟩
theorem zAW(s:Bs)(x:PreS)(he:zAR s=.ok x)(hl:s.length≤140737488355328)(h:St W0 w K L):
 Calls Jd 66 #[Z (bb s)] w fun en w'=>∃bl,en=Jb (.tuple #[Ja (some ⟨bl,0,none⟩) 12 12,I O 0])∧St W0 w' K (.raw bl #[I O x.base,I O x.len,I O x.leader,I O x.sum,I O x.attr,I O x.last,I O x.first,I O x.maxt,I O x.prod,I O x.epoch,I O x.seq,I O x.count] 3::L):=by
 obtain⟨h1,hx,h2,h3,h5⟩:=zB5 he;obtain⟨g1,g2,g3⟩:=zHm s;subst hx;rw[g3]at h2;rw[g1]at h3;rw[g2]at h5;have h4:=(zBZ ((s.drop 17).take 4) (by rw[Jk];omega));rw[zHn];simp only;exact zEL s (sInt ((s.drop 0).take 8)) (sInt ((s.drop 8).take 4)) (sInt ((s.drop 12).take 4)) (sInt ((s.drop 16).take 1)) (sInt ((s.drop 17).take 4)) (sInt ((s.drop 21).take 2)) (sInt ((s.drop 23).take 4)) (sInt ((s.drop 27).take 8)) (sInt ((s.drop 35).take 8)) (sInt ((s.drop 43).take 8)) (sInt ((s.drop 51).take 2)) (sInt ((s.drop 53).take 4)) (sInt ((s.drop 57).take 4)) rfl rfl rfl rfl rfl rfl rfl rfl rfl rfl rfl rfl rfl oM hl h4.1 (sInt ((s.drop 17).take 4) % 4294967296) oM _ (.inr (.inr (.inr ⟨by simpa using h2,oM,oM,fun bl _ h=>⟨bl,rfl,h⟩⟩))) h
set_option maxHeartbeats 4000000
variable {W0 w:World}{K:Know}{L:List Res}
theorem zOG(s:Bs)(hs:s.length≤1000000)(e:Int)(hp:zAR s=.error e)(h:St W0 w K L):
 Calls Jd 67 #[Z (bb s)] w fun en w'=>en=Jb (.agg #[I O 0,I O 0,U false,U false,U false,I O 0,I O 0,I O 0,I O 0,I O 0,I O 0,Ja none 0 0,I O 0,I O e])∧St W0 w' K L:=by
 obtain⟨rb,hrb⟩:=eX w.heap.size;have g1:=h.allocRaw #[I O 0,I O 0,U false,U false,U false,I O 0,I O 0,I O 0,I O 0,I O 0,I O 0,Ja none 0 0,I O 0,I O 0] 105;rw[hrb]at g1;obtain⟨z0,z1,z2,z3,z4,z5,z6,z7,z8,z9,z10,z11,z12,z13,zf0,zf1,zf2,zf3,zf4,zf5,zf6,zf7,zf8,zf9,zf10,zf11,zf12,zf13⟩:=zBy (b:=rb) (g1);have H:=hQd g1;have HL:=hQd (show s.length≤140737488355328 by omega);have HP:=hQd hp;have g0:=zDG hp;have g1e:(e==0)=false:=by rw[beq_eq_false_iff_ne];exact g0
 have g2e:(e !=0)=true:=by simp[bne,g1e]
 clear g0;clear h g1 hp hs;go_enter Tryz.func67,Tryz.ntmps67
 go_wp2_with (first
  |(go_at_call 66;clear z0 zf0 z1 zf1 z2 zf2 z3 zf3 z4 zf4 z5 zf5 z6 zf6 z7 zf7 z8 zf8 z9 zf9 z10 zf10 z11 zf11 z12 zf12 z13 zf13;(with_reducible refine(zDv s e HP.out HL.out H.out).mono ?_);rintro e_ wn ⟨rfl,h⟩;obtain⟨z0,z1,z2,z3,z4,z5,z6,z7,z8,z9,z10,z11,z12,z13,zf0,zf1,zf2,zf3,zf4,zf5,zf6,zf7,zf8,zf9,zf10,zf11,zf12,zf13⟩:=zBy (b:=rb) (h);replace H:=hQd h;clear h)
  |(go_at_call 96;clear z0 zf0 z1 zf1 z2 zf2 z3 zf3 z4 zf4 z5 zf5 z6 zf6 z7 zf7 z8 zf8 z9 zf9 z10 zf10 z11 zf11 z12 zf12 z13 zf13;(with_reducible refine(zBf e H.out).mono ?_);rintro e_ wn ⟨rfl,h⟩;obtain⟨z0,z1,z2,z3,z4,z5,z6,z7,z8,z9,z10,z11,z12,z13,zf0,zf1,zf2,zf3,zf4,zf5,zf6,zf7,zf8,zf9,zf10,zf11,zf12,zf13⟩:=zBy (b:=rb) (h);replace H:=hQd h;clear h))
 have hz:St W0 _ _ (.raw rb #[I O 0,I O 0,U false,U false,U false,I O 0,I O 0,I O 0,I O 0,I O 0,I O 0,Ja none 0 0,I O 0,I O e] 105::_):=St.sets14 _ _ _ _ _ _ _ _ _ _ _ _ _ _ (H.out);refine bodyPost_ret (zAn rfl _ _ rb [I O 0,I O 0,U false,U false,U false,I O 0,I O 0,I O 0,I O 0,I O 0,I O 0,Ja none 0 0,I O 0,I O e] _ rfl (zAp hz) Tryz.underlying105 rfl kR) rfl ?_;exact⟨rfl,hz.drop⟩
theorem zQi(s:Bs)(hs:s.length≤1000000)(x:PreS)(hp:zAR s=.ok x)(nn:Nat)(hnn:61+(x.len - 49).toNat=nn)(hlt:s.length<nn)(h:St W0 w K L):
 Calls Jd 67 #[Z (bb s)] w fun en w'=>en=Jb (.agg #[I O 0,I O 0,U false,U false,U false,I O 0,I O 0,I O 0,I O 0,I O 0,I O 0,Ja none 0 0,I O 0,I O 1])∧St W0 w' K L:=by
 obtain⟨rb,hrb⟩:=eX w.heap.size;have g1:=h.allocRaw #[I O 0,I O 0,U false,U false,U false,I O 0,I O 0,I O 0,I O 0,I O 0,I O 0,Ja none 0 0,I O 0,I O 0] 105;rw[hrb]at g1;obtain⟨z0,z1,z2,z3,z4,z5,z6,z7,z8,z9,z10,z11,z12,z13,zf0,zf1,zf2,zf3,zf4,zf5,zf6,zf7,zf8,zf9,zf10,zf11,zf12,zf13⟩:=zBy (b:=rb) (g1);have H:=hQd g1;have HL:=hQd (show s.length≤140737488355328 by omega);have HP:=hQd hp;obtain⟨r1,r2,r3,r4,r5,r6⟩:=zBO hp;have hln:x.len+12=(nn:Int):=by omega
 have hsl:(s.length:Int)≤1000000:=by omega
 have g9:(s.length:Int)<(nn:Int):=by omega
 clear h g1 hp hs hnn hlt r3 r4 r5 r6;go_enter Tryz.func67,Tryz.ntmps67
 go_wp2_with (first
  |(go_at_call 66;clear z0 zf0 z1 zf1 z2 zf2 z3 zf3 z4 zf4 z5 zf5 z6 zf6 z7 zf7 z8 zf8 z9 zf9 z10 zf10 z11 zf11 z12 zf12 z13 zf13;(with_reducible refine(zAW s x HP.out HL.out H.out).mono ?_);rintro e_ wn ⟨bl,rfl,h⟩;obtain⟨p0,p1,p2,p3,p4,p5,p6,p7,p8,p9,p10,p11⟩:=uR12 h;simp at p0 p1 p2 p3 p4 p5 p6 p7 p8 p9 p10 p11;obtain⟨z0,z1,z2,z3,z4,z5,z6,z7,z8,z9,z10,z11,z12,z13,zf0,zf1,zf2,zf3,zf4,zf5,zf6,zf7,zf8,zf9,zf10,zf11,zf12,zf13⟩:=zBy (b:=rb) (h.p1);replace H:=hQd h;clear h)
  |(go_at_call 96;clear z0 zf0 z1 zf1 z2 zf2 z3 zf3 z4 zf4 z5 zf5 z6 zf6 z7 zf7 z8 zf8 z9 zf9 z10 zf10 z11 zf11 z12 zf12 z13 zf13;clear p0 p1 p2 p3 p4 p5 p6 p7 p8 p9 p10 p11;(with_reducible refine(zBf 1 H.out).mono ?_);rintro e_ wn ⟨rfl,h⟩;obtain⟨z0,z1,z2,z3,z4,z5,z6,z7,z8,z9,z10,z11,z12,z13,zf0,zf1,zf2,zf3,zf4,zf5,zf6,zf7,zf8,zf9,zf10,zf11,zf12,zf13⟩:=zBy (b:=rb) (h.p1);replace H:=hQd h;clear h))
 have hz:St W0 _ _ (.raw rb #[I O 0,I O 0,U false,U false,U false,I O 0,I O 0,I O 0,I O 0,I O 0,I O 0,Ja none 0 0,I O 0,I O 1] 105::_):=St.sets14 _ _ _ _ _ _ _ _ _ _ _ _ _ _ (H.out.p1);refine bodyPost_ret (zAn rfl _ _ rb [I O 0,I O 0,U false,U false,U false,I O 0,I O 0,I O 0,I O 0,I O 0,I O 0,Ja none 0 0,I O 0,I O 1] _ rfl (zAp hz) Tryz.underlying105 rfl kR) rfl ?_;exact⟨rfl,hz.drop.drop⟩
set_option maxHeartbeats 8000000
theorem zTK(s:Bs)(hs:s.length≤1000000)(x:PreS)(hp:zAR s=.ok x)(nn:Nat)(hnn:61+(x.len - 49).toNat=nn)(hge0:nn≤s.length)(sd:Bs)(hsd:(s.drop 21).take (nn - 21)=sd)(X:Nat)(hX:(zAq 0#32 sd).toNat=X)(hne:(X:Int)≠x.sum){W0 w:World}{K:Know}{L:List Res}(h:St W0 w K L):
 Calls Jd 67 #[Z (bb s)] w fun en w'=>en=Jb (.agg #[I O 0,I O 0,U false,U false,U false,I O 0,I O 0,I O 0,I O 0,I O 0,I O 0,Ja none 0 0,I O 0,I O 5])∧St W0 w' K L:=by
 obtain⟨rb,hrb⟩:=eX w.heap.size;have g1:=h.allocRaw #[I O 0,I O 0,U false,U false,U false,I O 0,I O 0,I O 0,I O 0,I O 0,I O 0,Ja none 0 0,I O 0,I O 0] 105;rw[hrb]at g1;obtain⟨z0,z1,z2,z3,z4,z5,z6,z7,z8,z9,z10,z11,z12,z13,zf0,zf1,zf2,zf3,zf4,zf5,zf6,zf7,zf8,zf9,zf10,zf11,zf12,zf13⟩:=zBy (b:=rb) (g1);have H:=hQd g1;have HL:=hQd (show s.length≤140737488355328 by omega);have HP:=hQd hp;obtain⟨r1,r2,r3,r4,r5,r6⟩:=zBO hp;have hln:x.len+12=(nn:Int):=by omega
 have hsl:(s.length:Int)≤1000000:=by omega
 have HSD:=hQd hsd;have HX:=hQd hX;have HSL:=hQd (show sd.length≤1000000 by rw[←hsd,Jk,Jf];omega);have hX4:(X:Int)<4294967296:=by rw[←hX];have:=(zAq 0#32 sd).isLt;omega
 have hwX:IntKind.i64.wrap (X:Int)=(X:Int):=by rw[IntKind.wrap_i64];omega
 clear hX4;have hge:(nn:Int)≤(s.length:Int):=by omega
 have h21:(21:Int)≤(nn:Int):=by omega
 have h61:(61:Int)≤(nn:Int):=by omega
 have hg9:¬(s.length:Int)<(nn:Int):=by omega
 have g5:((X:Int)==x.sum)=false:=by rw[beq_eq_false_iff_ne];exact hne
 have g6:((X:Int) !=x.sum)=true:=by simp[bne,g5]
 clear h g1 hp hs hnn r3 r4 r5 r6 hsd hX hge0 hne;go_enter Tryz.func67,Tryz.ntmps67
 go_upto_region 7 with (first
  |(go_at_call 66;clear z0 zf0 z1 zf1 z2 zf2 z3 zf3 z4 zf4 z5 zf5 z6 zf6 z7 zf7 z8 zf8 z9 zf9 z10 zf10 z11 zf11 z12 zf12 z13 zf13;(with_reducible refine(zAW s x HP.out HL.out H.out).mono ?_);rintro e_ wn ⟨bl,rfl,h⟩;obtain⟨p0,p1,p2,p3,p4,p5,p6,p7,p8,p9,p10,p11⟩:=uR12 h;simp at p0 p1 p2 p3 p4 p5 p6 p7 p8 p9 p10 p11;obtain⟨z0,z1,z2,z3,z4,z5,z6,z7,z8,z9,z10,z11,z12,z13,zf0,zf1,zf2,zf3,zf4,zf5,zf6,zf7,zf8,zf9,zf10,zf11,zf12,zf13⟩:=zBy (b:=rb) (h.p1);replace H:=hQd h;clear h))
 clear z0 zf0 z1 zf1 z2 zf2 z3 zf3 z4 zf4 z5 zf5 z6 zf6 z7 zf7 z8 zf8 z9 zf9 z10 zf10 z11 zf11 z12 zf12 z13 zf13;clear p0 p1 p2 p3 p4 p5 p6 p7 p8 p9 p10 p11;have hs:=H.out.drew;refine wp_region_held_drew (S:=fun w'=>w'.cell? ⟨bl,0,none⟩=some (I O x.base)∧w'.cell? ⟨bl,1,none⟩=some (I O x.len)∧w'.cell? ⟨bl,2,none⟩=some (I O x.leader)∧w'.cell? ⟨bl,3,none⟩=some (I O x.sum)∧w'.cell? ⟨bl,4,none⟩=some (I O x.attr)∧w'.cell? ⟨bl,5,none⟩=some (I O x.last)∧w'.cell? ⟨bl,6,none⟩=some (I O x.first)∧w'.cell? ⟨bl,7,none⟩=some (I O x.maxt)∧w'.cell? ⟨bl,8,none⟩=some (I O x.prod)∧w'.cell? ⟨bl,9,none⟩=some (I O x.epoch)∧w'.cell? ⟨bl,10,none⟩=some (I O x.seq)∧w'.cell? ⟨bl,11,none⟩=some (I O x.count)) kR (⟨hs.rawCell 0,hs.rawCell 1,hs.rawCell 2,hs.rawCell 3,hs.rawCell 4,hs.rawCell 5,hs.rawCell 6,hs.rawCell 7,hs.rawCell 8,hs.rawCell 9,hs.rawCell 10,hs.rawCell 11⟩) (fun hHeld=> ?_);refine tR 0 ?_;refine tR 1 ?_;refine tR 2 ?_;refine tR 5 ?_;refine tR 6 ?_;refine tR 7 ?_;refine wR [3] (rC rfl (fun KK hK=> ?_) rN);go_simp
 (try rw[HSD.out])
 go_at_call 31;(with_reducible refine(zFv sd HSL.out X HX.out hs).mono ?_);rintro e wq ⟨rfl,hs⟩;refine zK hK (⟨hs.rawCell 0,hs.rawCell 1,hs.rawCell 2,hs.rawCell 3,hs.rawCell 4,hs.rawCell 5,hs.rawCell 6,hs.rawCell 7,hs.rawCell 8,hs.rawCell 9,hs.rawCell 10,hs.rawCell 11⟩) (fun hHeld=> ?_);clear hK KK
 refine tR 4 ?_;refine tR 8 ?_;refine wpAnyH_done kR ?_ _;clear hHeld;have H:=hQd hs;clear hs;obtain⟨p0,p1,p2,p3,p4,p5,p6,p7,p8,p9,p10,p11⟩:=uR12 H.out;simp at p0 p1 p2 p3 p4 p5 p6 p7 p8 p9 p10 p11;obtain⟨z0,z1,z2,z3,z4,z5,z6,z7,z8,z9,z10,z11,z12,z13,zf0,zf1,zf2,zf3,zf4,zf5,zf6,zf7,zf8,zf9,zf10,zf11,zf12,zf13⟩:=zBy (b:=rb) (H.out.p1);go_wp2_with (go_at_call 96;clear z0 zf0 z1 zf1 z2 zf2 z3 zf3 z4 zf4 z5 zf5 z6 zf6 z7 zf7 z8 zf8 z9 zf9 z10 zf10 z11 zf11 z12 zf12 z13 zf13;clear p0 p1 p2 p3 p4 p5 p6 p7 p8 p9 p10 p11;(with_reducible refine(zBf 5 H.out).mono ?_);rintro e_ wn ⟨rfl,h⟩;obtain⟨z0,z1,z2,z3,z4,z5,z6,z7,z8,z9,z10,z11,z12,z13,zf0,zf1,zf2,zf3,zf4,zf5,zf6,zf7,zf8,zf9,zf10,zf11,zf12,zf13⟩:=zBy (b:=rb) (h.p1);replace H:=hQd h;clear h);have hz:St W0 _ _ (.raw rb #[I O 0,I O 0,U false,U false,U false,I O 0,I O 0,I O 0,I O 0,I O 0,I O 0,Ja none 0 0,I O 0,I O 5] 105::_):=St.sets14 _ _ _ _ _ _ _ _ _ _ _ _ _ _ (H.out.p1);refine bodyPost_ret (zAn rfl _ _ rb [I O 0,I O 0,U false,U false,U false,I O 0,I O 0,I O 0,I O 0,I O 0,I O 0,Ja none 0 0,I O 0,I O 5] _ rfl (zAp hz) Tryz.underlying105 rfl kR) rfl ?_;exact⟨rfl,hz.drop.drop⟩
theorem zRy{a:Int}(h:a<0∨63<a∨(32≤a∧a % 32<16)):decide (a<0)=true∨(decide (a<0)=false∧decide (63<a)=true)∨(decide (a<0)=false∧decide (63<a)=false∧decide (32≤a)=true∧decide (a % 32<16)=true∧decide (a.tmod 32<16)=true∧0≤a):=by
 by_cases n0:a<0
 ·exact .inl (decide_eq_true n0)
 ·by_cases n1:63<a
  ·exact .inr (.inl ⟨decide_eq_false n0,decide_eq_true n1⟩)
  ·have h2:32≤a∧a % 32<16:=by omega
   exact .inr (.inr ⟨decide_eq_false n0,decide_eq_false n1,decide_eq_true h2.1,decide_eq_true h2.2,decide_eq_true (by rw[Int.tmod_eq_emod_of_nonneg oM];exact h2.2),oM⟩)
theorem zq8{p:Prop}(h:p:=by
 have hs:=H.out.drew;refine wp_region_held_drew (S:=fun w'=>w'.cell? ⟨bl,0,none⟩=some (I O x.base)∧w'.cell? ⟨bl,1,none⟩=some (I O x.len)∧w'.cell? ⟨bl,2,none⟩=some (I O x.leader)∧w'.cell? ⟨bl,3,none⟩=some (I O x.sum)∧w'.cell? ⟨bl,4,none⟩=some (I O x.attr)∧w'.cell? ⟨bl,5,none⟩=some (I O x.last)∧w'.cell? ⟨bl,6,none⟩=some (I O x.first)∧w'.cell? ⟨bl,7,none⟩=some (I O x.maxt)∧w'.cell? ⟨bl,8,none⟩=some (I O x.prod)∧w'.cell? ⟨bl,9,none⟩=some (I O x.epoch)∧w'.cell? ⟨bl,10,none⟩=some (I O x.seq)∧w'.cell? ⟨bl,11,none⟩=some (I O x.count)) kR (⟨hs.rawCell 0,hs.rawCell 1,hs.rawCell 2,hs.rawCell 3,hs.rawCell 4,hs.rawCell 5,hs.rawCell 6,hs.rawCell 7,hs.rawCell 8,hs.rawCell 9,hs.rawCell 10,hs.rawCell 11⟩) (fun hHeld=> ?_);refine tR 0 ?_;refine tR 1 ?_;refine tR 2 ?_;refine tR 5 ?_;refine tR 6 ?_;refine tR 7 ?_;refine wR [3] (rC rfl (fun KK hK=> ?_) rN);go_simp
 (try rw[HSD.out])
 go_at_call 31;(with_reducible refine(zFv sd HSL.out X HX.out hs).mono ?_);rintro e wq ⟨rfl,hs⟩;refine zK hK (⟨hs.rawCell 0,hs.rawCell 1,hs.rawCell 2,hs.rawCell 3,hs.rawCell 4,hs.rawCell 5,hs.rawCell 6,hs.rawCell 7,hs.rawCell 8,hs.rawCell 9,hs.rawCell 10,hs.rawCell 11⟩) (fun hHeld=> ?_);clear hK KK
 refine tR 4 ?_;refine tR 8 ?_;refine wpAnyH_done kR ?_ _;clear hHeld;go_wp2_with fail;go_meet;exact⟨rfl,hs⟩):p:=h
theorem zNz(s:Bs)(hs:s.length≤1000000)(x:PreS)(hp:zAR s=.ok x)(nn:Nat)(hnn:61+(x.len - 49).toNat=nn)(hge0:nn≤s.length)(sd:Bs)(hsd:(s.drop 21).take (nn - 21)=sd)(X:Nat)(hX:(zAq 0#32 sd).toNat=X)(heq:(X:Int)=x.sum)(e:Int)(hw:(¬x.attr % 8=0∧e=9)∨(x.attr % 8=0∧e=8∧(x.attr<0∨63<x.attr∨(32≤x.attr∧x.attr % 32<16)))){W0 w:World}{K:Know}{L:List Res}(h:St W0 w K L):
 Calls Jd 67 #[Z (bb s)] w fun en w'=>en=Jb (.agg #[I O 0,I O 0,U false,U false,U false,I O 0,I O 0,I O 0,I O 0,I O 0,I O 0,Ja none 0 0,I O 0,I O e])∧St W0 w' K L:=by
 obtain⟨rb,hrb⟩:=eX w.heap.size;have g1:=h.allocRaw #[I O 0,I O 0,U false,U false,U false,I O 0,I O 0,I O 0,I O 0,I O 0,I O 0,Ja none 0 0,I O 0,I O 0] 105;rw[hrb]at g1;obtain⟨z0,z1,z2,z3,z4,z5,z6,z7,z8,z9,z10,z11,z12,z13,zf0,zf1,zf2,zf3,zf4,zf5,zf6,zf7,zf8,zf9,zf10,zf11,zf12,zf13⟩:=zBy (b:=rb) (g1);have H:=hQd g1;have HL:=hQd (show s.length≤140737488355328 by omega);have HP:=hQd hp;obtain⟨r1,r2,r3,r4,r5,r6⟩:=zBO hp;have hln:x.len+12=(nn:Int):=by omega
 have hsl:(s.length:Int)≤1000000:=by omega
 have HSD:=hQd hsd;have HX:=hQd hX;have HSL:=hQd (show sd.length≤1000000 by rw[←hsd,Jk,Jf];omega);have hX4:(X:Int)<4294967296:=by rw[←hX];have:=(zAq 0#32 sd).isLt;omega
 have hwX:IntKind.i64.wrap (X:Int)=(X:Int):=by rw[IntKind.wrap_i64];omega
 clear hX4;have hge:(nn:Int)≤(s.length:Int):=by omega
 have h21:(21:Int)≤(nn:Int):=by omega
 have h61:(61:Int)≤(nn:Int):=by omega
 have hg9:¬(s.length:Int)<(nn:Int):=by omega
 have g5:((X:Int)==x.sum)=true:=by rw[heq];exact beq_self_eq_true _
 have g6:((X:Int) !=x.sum)=false:=by simp[bne,g5]
 obtain⟨c0,c1,hb2,hc1⟩:=zKj x.attr;have HB2:=hQd hb2;have HA:=hQd (show -9223372036854775808≤x.attr∧x.attr<9223372036854775808 from r3);have HC1:=hQd hc1;have HW:=hQd hw;clear hc1 hw;clear h g1 hp hs hnn r3 r4 r5 r6 hsd hX hge0 heq hb2;go_enter Tryz.func67,Tryz.ntmps67
 go_upto_region 7 with (first
  |(go_at_call 66;clear z0 zf0 z1 zf1 z2 zf2 z3 zf3 z4 zf4 z5 zf5 z6 zf6 z7 zf7 z8 zf8 z9 zf9 z10 zf10 z11 zf11 z12 zf12 z13 zf13;(with_reducible refine(zAW s x HP.out HL.out H.out).mono ?_);rintro e_ wn ⟨bl,rfl,h⟩;obtain⟨p0,p1,p2,p3,p4,p5,p6,p7,p8,p9,p10,p11⟩:=uR12 h;simp at p0 p1 p2 p3 p4 p5 p6 p7 p8 p9 p10 p11;obtain⟨z0,z1,z2,z3,z4,z5,z6,z7,z8,z9,z10,z11,z12,z13,zf0,zf1,zf2,zf3,zf4,zf5,zf6,zf7,zf8,zf9,zf10,zf11,zf12,zf13⟩:=zBy (b:=rb) (h.p1);replace H:=hQd h;clear h))
 clear z0 zf0 z1 zf1 z2 zf2 z3 zf3 z4 zf4 z5 zf5 z6 zf6 z7 zf7 z8 zf8 z9 zf9 z10 zf10 z11 zf11 z12 zf12 z13 zf13;clear p0 p1 p2 p3 p4 p5 p6 p7 p8 p9 p10 p11;go_cut [38] (fun s38 wx=>s38=U false∧St W0 wx K (.raw bl #[I O x.base,I O x.len,I O x.leader,I O x.sum,I O x.attr,I O x.last,I O x.first,I O x.maxt,I O x.prod,I O x.epoch,I O x.seq,I O x.count] 3::.raw rb #[I O 0,I O 0,U false,U false,U false,I O 0,I O 0,I O 0,I O 0,I O 0,I O 0,Ja none 0 0,I O 0,I O 0] 105::L))
 case first=>
  exact zq8
 obtain⟨rfl,h⟩:=hcut;clear H;obtain⟨p0,p1,p2,p3,p4,p5,p6,p7,p8,p9,p10,p11⟩:=uR12 h;simp at p0 p1 p2 p3 p4 p5 p6 p7 p8 p9 p10 p11;obtain⟨z0,z1,z2,z3,z4,z5,z6,z7,z8,z9,z10,z11,z12,z13,zf0,zf1,zf2,zf3,zf4,zf5,zf6,zf7,zf8,zf9,zf10,zf11,zf12,zf13⟩:=zBy (b:=rb) (h.p1);have H:=hQd h;clear h;have hc1:=HC1.out
 rcases HW.out with ⟨h8,rfl⟩|⟨h8,rfl,hr⟩
 ·skip
  have hc8:¬(c1.toNat:Int) % 8=0:=by rw[hc1];omega
  have e9:(((([c0,c1]:List UInt8)[1]' sM).toNat:Int) % 8 !=0)=true:=by show((c1.toNat:Int) % 8 !=0)=true;simp[bne,hc8]
  have e8:(((([c0,c1]:List UInt8)[1]' sM).toNat:Int) % 8==0)=false:=by show((c1.toNat:Int) % 8==0)=false;simp[hc8]
  clear hc8 hc1;clear h8 HW
  go_wp2_with (first
  |(go_at_call 62;clear z0 zf0 z1 zf1 z2 zf2 z3 zf3 z4 zf4 z5 zf5 z6 zf6 z7 zf7 z8 zf8 z9 zf9 z10 zf10 z11 zf11 z12 zf12 z13 zf13;clear p0 p1 p2 p3 p4 p5 p6 p7 p8 p9 p10 p11;(with_reducible refine(zFk x.attr HA.out c0 c1 HB2.out H.out).mono ?_);rintro e_ wn ⟨rfl,h⟩;obtain⟨p0,p1,p2,p3,p4,p5,p6,p7,p8,p9,p10,p11⟩:=uR12 h;simp at p0 p1 p2 p3 p4 p5 p6 p7 p8 p9 p10 p11;obtain⟨z0,z1,z2,z3,z4,z5,z6,z7,z8,z9,z10,z11,z12,z13,zf0,zf1,zf2,zf3,zf4,zf5,zf6,zf7,zf8,zf9,zf10,zf11,zf12,zf13⟩:=zBy (b:=rb) (h.p1);replace H:=hQd h;clear h)
  |(go_at_call 96;clear z0 zf0 z1 zf1 z2 zf2 z3 zf3 z4 zf4 z5 zf5 z6 zf6 z7 zf7 z8 zf8 z9 zf9 z10 zf10 z11 zf11 z12 zf12 z13 zf13;clear p0 p1 p2 p3 p4 p5 p6 p7 p8 p9 p10 p11;(with_reducible refine(zBf 9 H.out).mono ?_);rintro e_ wn ⟨rfl,h⟩;obtain⟨z0,z1,z2,z3,z4,z5,z6,z7,z8,z9,z10,z11,z12,z13,zf0,zf1,zf2,zf3,zf4,zf5,zf6,zf7,zf8,zf9,zf10,zf11,zf12,zf13⟩:=zBy (b:=rb) (h.p1);replace H:=hQd h;clear h))
  have hz:St W0 _ _ (.raw rb #[I O 0,I O 0,U false,U false,U false,I O 0,I O 0,I O 0,I O 0,I O 0,I O 0,Ja none 0 0,I O 0,I O 9] 105::_):=St.sets14 _ _ _ _ _ _ _ _ _ _ _ _ _ _ (H.out.p1);refine bodyPost_ret (zAn rfl _ _ rb [I O 0,I O 0,U false,U false,U false,I O 0,I O 0,I O 0,I O 0,I O 0,I O 0,Ja none 0 0,I O 0,I O 9] _ rfl (zAp hz) Tryz.underlying105 rfl kR) rfl ?_;exact⟨rfl,hz.drop.drop⟩
 ·skip
  have hc8:(c1.toNat:Int) % 8=0:=by rw[hc1];omega
  have e9:(((([c0,c1]:List UInt8)[1]' sM).toNat:Int) % 8 !=0)=false:=by show((c1.toNat:Int) % 8 !=0)=false;simp[bne,hc8]
  have e8:(((([c0,c1]:List UInt8)[1]' sM).toNat:Int) % 8==0)=true:=by show((c1.toNat:Int) % 8==0)=true;simp[hc8]
  clear hc8 hc1;clear h8 HW
  rcases zRy hr with d0|⟨d0,d1⟩|⟨d0,d1,d2,d3,d4,ha0⟩<;>clear hr
  all_goals
   go_wp2_with (first
   |(go_at_call 62;clear z0 zf0 z1 zf1 z2 zf2 z3 zf3 z4 zf4 z5 zf5 z6 zf6 z7 zf7 z8 zf8 z9 zf9 z10 zf10 z11 zf11 z12 zf12 z13 zf13;clear p0 p1 p2 p3 p4 p5 p6 p7 p8 p9 p10 p11;(with_reducible refine(zFk x.attr HA.out c0 c1 HB2.out H.out).mono ?_);rintro e_ wn ⟨rfl,h⟩;obtain⟨p0,p1,p2,p3,p4,p5,p6,p7,p8,p9,p10,p11⟩:=uR12 h;simp at p0 p1 p2 p3 p4 p5 p6 p7 p8 p9 p10 p11;obtain⟨z0,z1,z2,z3,z4,z5,z6,z7,z8,z9,z10,z11,z12,z13,zf0,zf1,zf2,zf3,zf4,zf5,zf6,zf7,zf8,zf9,zf10,zf11,zf12,zf13⟩:=zBy (b:=rb) (h.p1);replace H:=hQd h;clear h)
   |(go_at_call 96;clear z0 zf0 z1 zf1 z2 zf2 z3 zf3 z4 zf4 z5 zf5 z6 zf6 z7 zf7 z8 zf8 z9 zf9 z10 zf10 z11 zf11 z12 zf12 z13 zf13;clear p0 p1 p2 p3 p4 p5 p6 p7 p8 p9 p10 p11;(with_reducible refine(zBf 8 H.out).mono ?_);rintro e_ wn ⟨rfl,h⟩;obtain⟨z0,z1,z2,z3,z4,z5,z6,z7,z8,z9,z10,z11,z12,z13,zf0,zf1,zf2,zf3,zf4,zf5,zf6,zf7,zf8,zf9,zf10,zf11,zf12,zf13⟩:=zBy (b:=rb) (h.p1);replace H:=hQd h;clear h))
   have hz:St W0 _ _ (.raw rb #[I O 0,I O 0,U false,U false,U false,I O 0,I O 0,I O 0,I O 0,I O 0,I O 0,Ja none 0 0,I O 0,I O 8] 105::_):=St.sets14 _ _ _ _ _ _ _ _ _ _ _ _ _ _ (H.out.p1);refine bodyPost_ret (zAn rfl _ _ rb [I O 0,I O 0,U false,U false,U false,I O 0,I O 0,I O 0,I O 0,I O 0,I O 0,Ja none 0 0,I O 0,I O 8] _ rfl (zAp hz) Tryz.underlying105 rfl kR) rfl ?_;exact⟨rfl,hz.drop.drop⟩
set_option maxHeartbeats 16000000
theorem zJD(s:Bs)(hs:s.length≤1000000)(x:PreS)(hp:zAR s=.ok x)(nn:Nat)(hnn:61+(x.len - 49).toNat=nn)(hge0:nn≤s.length)(sd:Bs)(hsd:(s.drop 21).take (nn - 21)=sd)(X:Nat)(hX:(zAq 0#32 sd).toNat=X)(heq:(X:Int)=x.sum)(h8:x.attr % 8=0)(hn0:¬x.attr<0)(hn1:¬63<x.attr)(hn2:¬(32≤x.attr∧x.attr % 32<16))(n:Nat)(hcn:x.count=(n:Int))(hnb:n≤2147483647)(tot:Except Int (List RecS))(hu:unpT n ((s.drop 61).take (nn - 61))=tot)(hrf:∀rs,tot=.ok rs→rs.length≤1000000∧∀l:List (RecS×Value),l.map (·.1)=rs→FitB l){W0 w:World}{K:Know}{L:List Res}(Q:Ending→World→Prop)(hbad:∀e w',e≠0→(tot=.error e∨∃rs,tot=.ok rs∧zAh ⟨x.base,x.leader,zAg x.attr 3,zAg x.attr 4,zAg x.attr 5,x.last,x.first,x.maxt,x.prod,x.epoch,x.seq,rs⟩=e)→St W0 w' K L→Q (.returned (.agg #[I O 0,I O 0,U false,U false,U false,I O 0,I O 0,I O 0,I O 0,I O 0,I O 0,Ja none 0 0,I O 0,I O e])) w')(hgood:∀rs q l cap w',tot=.ok rs→zAh ⟨x.base,x.leader,zAg x.attr 3,zAg x.attr 4,zAg x.attr 5,x.last,x.first,x.maxt,x.prod,x.epoch,x.seq,rs⟩=0→l.map (·.1)=rs→St W0 w' (K.and (Know.recs (Ja q l.length cap) l)) L→Q (.returned (.agg #[I O x.base,I O x.leader,U (zAg x.attr 3),U (zAg x.attr 4),U (zAg x.attr 5),I O x.last,I O x.first,I O x.maxt,I O x.prod,I O x.epoch,I O x.seq,Ja q l.length cap,I O nn,I O 0])) w')(h:St W0 w K L):
 Calls Jd 67 #[Z (bb s)] w Q:=by
 obtain⟨rb,hrb⟩:=eX w.heap.size;have g1:=h.allocRaw #[I O 0,I O 0,U false,U false,U false,I O 0,I O 0,I O 0,I O 0,I O 0,I O 0,Ja none 0 0,I O 0,I O 0] 105;rw[hrb]at g1;obtain⟨z0,z1,z2,z3,z4,z5,z6,z7,z8,z9,z10,z11,z12,z13,zf0,zf1,zf2,zf3,zf4,zf5,zf6,zf7,zf8,zf9,zf10,zf11,zf12,zf13⟩:=zBy (b:=rb) (g1);have H:=hQd g1;have HL:=hQd (show s.length≤140737488355328 by omega);have HP:=hQd hp;obtain⟨r1,r2,r3,r4,r5,r6⟩:=zBO hp;have hln:x.len+12=(nn:Int):=by omega
 have hsl:(s.length:Int)≤1000000:=by omega
 have HSD:=hQd hsd;have HX:=hQd hX;have HSL:=hQd (show sd.length≤1000000 by rw[←hsd,Jk,Jf];omega);have hX4:(X:Int)<4294967296:=by rw[←hX];have:=(zAq 0#32 sd).isLt;omega
 have hwX:IntKind.i64.wrap (X:Int)=(X:Int):=by rw[IntKind.wrap_i64];omega
 clear hX4;have hge:(nn:Int)≤(s.length:Int):=by omega
 have h21:(21:Int)≤(nn:Int):=by omega
 have h61:(61:Int)≤(nn:Int):=by omega
 have hg9:¬(s.length:Int)<(nn:Int):=by omega
 have g5:((X:Int)==x.sum)=true:=by rw[heq];exact beq_self_eq_true _
 have g6:((X:Int) !=x.sum)=false:=by simp[bne,g5]
 obtain⟨c0,c1,hb2,hc1⟩:=zKj x.attr;have HB2:=hQd hb2;have HA:=hQd (show -9223372036854775808≤x.attr∧x.attr<9223372036854775808 from r3);have hc8:(c1.toNat:Int) % 8=0:=by rw[hc1];omega
 have e9:(((([c0,c1]:List UInt8)[1]' sM).toNat:Int) % 8 !=0)=false:=by show((c1.toNat:Int) % 8 !=0)=false;simp[bne,hc8]
 have e8:(((([c0,c1]:List UInt8)[1]' sM).toNat:Int) % 8==0)=true:=by show((c1.toNat:Int) % 8==0)=true;simp[hc8]
 clear hc8 hc1;have d0:decide (x.attr<0)=false:=decide_eq_false hn0;have d1:decide (63<x.attr)=false:=decide_eq_false hn1;have ha0:0≤x.attr:=by omega
 have ha63:x.attr≤63:=by omega
 have q8:x.attr.tdiv 8=x.attr / 8:=Int.tdiv_eq_ediv_of_nonneg ha0;have q16:x.attr.tdiv 16=x.attr / 16:=Int.tdiv_eq_ediv_of_nonneg ha0;have q32:x.attr.tdiv 32=x.attr / 32:=Int.tdiv_eq_ediv_of_nonneg ha0;have m8:(x.attr / 8).tmod 2=x.attr / 8 % 2:=Int.tmod_eq_emod_of_nonneg oM;have m16:(x.attr / 16).tmod 2=x.attr / 16 % 2:=Int.tmod_eq_emod_of_nonneg oM;have w8:IntKind.i64.wrap (x.attr / 8)=x.attr / 8:=by rw[IntKind.wrap_i64];omega
 have w16:IntKind.i64.wrap (x.attr / 16)=x.attr / 16:=by rw[IntKind.wrap_i64];omega
 have w32:IntKind.i64.wrap (x.attr / 32)=x.attr / 32:=by rw[IntKind.wrap_i64];omega
 have w8m:IntKind.i64.wrap (x.attr / 8 % 2)=x.attr / 8 % 2:=by rw[IntKind.wrap_i64];omega
 have w16m:IntKind.i64.wrap (x.attr / 16 % 2)=x.attr / 16 % 2:=by rw[IntKind.wrap_i64];omega
 have b5:(x.attr / 32==1)=zAg x.attr 5:=by unfold zAg;rw[show(2:Int) ^ 5=32 by decide,show(x.attr / 32==1)=decide (x.attr / 32=1)from rfl];congr 1;rw[eq_iff_iff];omega
 have b3:(x.attr / 8 % 2==1)=zAg x.attr 3:=rfl;have b4:(x.attr / 16 % 2==1)=zAg x.attr 4:=rfl;have HD:=hQd (And.intro b3 (And.intro b4 b5));have HN2:=hQd hn2;clear h8 hn0 hn1 hn2 b3 b4 b5;obtain⟨rw0,hrw⟩:=eX ((s.drop 61).take (nn - 61));rw[hrw]at hu;have HRW:=hQd hrw;have HRW1:=hQd (show rw0.length≤1000000 by rw[←hrw,Jk,Jf];omega);have HT:=hQd (show preU [] (unpT (n - 0) rw0)=tot by rw[zJH];exact hu);have HNB:=hQd hnb;have HCN:=hQd hcn;have HBAD:=hQd hbad;have HGOOD:=hQd hgood;have HRF:=hQd hrf;have HB0:=hQd r6;have HB1:=hQd (show Rn x.base from(zQl hp).1);clear h g1 hp hs hnn r3 r4 r5 r6 hsd hX hge0 heq hb2 hu hrw hnb hcn hbad hgood hrf;go_enter Tryz.func67,Tryz.ntmps67
 go_upto_region 7 with (first
  |(go_at_call 66;clear z0 zf0 z1 zf1 z2 zf2 z3 zf3 z4 zf4 z5 zf5 z6 zf6 z7 zf7 z8 zf8 z9 zf9 z10 zf10 z11 zf11 z12 zf12 z13 zf13;(with_reducible refine(zAW s x HP.out HL.out H.out).mono ?_);rintro e_ wn ⟨bl,rfl,h⟩;obtain⟨p0,p1,p2,p3,p4,p5,p6,p7,p8,p9,p10,p11⟩:=uR12 h;simp at p0 p1 p2 p3 p4 p5 p6 p7 p8 p9 p10 p11;obtain⟨z0,z1,z2,z3,z4,z5,z6,z7,z8,z9,z10,z11,z12,z13,zf0,zf1,zf2,zf3,zf4,zf5,zf6,zf7,zf8,zf9,zf10,zf11,zf12,zf13⟩:=zBy (b:=rb) (h.p1);replace H:=hQd h;clear h))
 clear z0 zf0 z1 zf1 z2 zf2 z3 zf3 z4 zf4 z5 zf5 z6 zf6 z7 zf7 z8 zf8 z9 zf9 z10 zf10 z11 zf11 z12 zf12 z13 zf13;clear p0 p1 p2 p3 p4 p5 p6 p7 p8 p9 p10 p11;go_cut [38] (fun s38 wx=>s38=U false∧St W0 wx K (.raw bl #[I O x.base,I O x.len,I O x.leader,I O x.sum,I O x.attr,I O x.last,I O x.first,I O x.maxt,I O x.prod,I O x.epoch,I O x.seq,I O x.count] 3::.raw rb #[I O 0,I O 0,U false,U false,U false,I O 0,I O 0,I O 0,I O 0,I O 0,I O 0,Ja none 0 0,I O 0,I O 0] 105::L))
 case first=>
  exact zq8
 obtain⟨rfl,h⟩:=hcut;clear H;obtain⟨p0,p1,p2,p3,p4,p5,p6,p7,p8,p9,p10,p11⟩:=uR12 h;simp at p0 p1 p2 p3 p4 p5 p6 p7 p8 p9 p10 p11;obtain⟨z0,z1,z2,z3,z4,z5,z6,z7,z8,z9,z10,z11,z12,z13,zf0,zf1,zf2,zf3,zf4,zf5,zf6,zf7,zf8,zf9,zf10,zf11,zf12,zf13⟩:=zBy (b:=rb) (h.p1);have H:=hQd h;clear h
 go_upto_region 12 with (first
  |(go_at_call 62;clear z0 zf0 z1 zf1 z2 zf2 z3 zf3 z4 zf4 z5 zf5 z6 zf6 z7 zf7 z8 zf8 z9 zf9 z10 zf10 z11 zf11 z12 zf12 z13 zf13;clear p0 p1 p2 p3 p4 p5 p6 p7 p8 p9 p10 p11;(with_reducible refine(zFk x.attr HA.out c0 c1 HB2.out H.out).mono ?_);rintro e_ wn ⟨rfl,h⟩;obtain⟨p0,p1,p2,p3,p4,p5,p6,p7,p8,p9,p10,p11⟩:=uR12 h;simp at p0 p1 p2 p3 p4 p5 p6 p7 p8 p9 p10 p11;obtain⟨z0,z1,z2,z3,z4,z5,z6,z7,z8,z9,z10,z11,z12,z13,zf0,zf1,zf2,zf3,zf4,zf5,zf6,zf7,zf8,zf9,zf10,zf11,zf12,zf13⟩:=zBy (b:=rb) (h.p1);replace H:=hQd h;clear h))
 go_cut [63] (fun s63 wx=>s63=U false∧St W0 wx K (.raw bl #[I O x.base,I O x.len,I O x.leader,I O x.sum,I O x.attr,I O x.last,I O x.first,I O x.maxt,I O x.prod,I O x.epoch,I O x.seq,I O x.count] 3::.raw rb #[I O 0,I O 0,U false,U false,U false,I O 0,I O 0,I O 0,I O 0,I O 0,I O 0,Ja none 0 0,I O 0,I O 0] 105::L))
 case first=>
  have h9:=H.out
  by_cases c32:32≤x.attr
  ·have d2:decide (32≤x.attr)=true:=decide_eq_true c32;have d3:decide (x.attr % 32<16)=false:=decide_eq_false (by have:=HN2.out;omega);clear c32;go_wp2_with fail;go_meet;exact⟨rfl,h9⟩
  ·have d2:decide (32≤x.attr)=false:=decide_eq_false c32;clear c32;go_wp2_with fail;go_meet;exact⟨rfl,h9⟩
 obtain⟨rfl,h⟩:=hcut;clear H;have H:=hQd h;clear h;go_upto_region 14 with (fail);clear z0 zf0 z1 zf1 z2 zf2 z3 zf3 z4 zf4 z5 zf5 z6 zf6 z7 zf7 z8 zf8 z9 zf9 z10 zf10 z11 zf11 z12 zf12 z13 zf13;clear p0 p1 p2 p3 p4 p5 p6 p7 p8 p9 p10 p11;go_cut [7] (fun s7 wx=>∃tb:Nat,s7=Jc (some ⟨tb,0,none⟩)∧St W0 wx K (.raw tb #[I O x.base,I O x.leader,U (zAg x.attr 3),U (zAg x.attr 4),U (zAg x.attr 5),I O x.last,I O x.first,I O x.maxt,I O x.prod,I O x.epoch,I O x.seq,Ja none 0 0] 30::.raw bl #[I O x.base,I O x.len,I O x.leader,I O x.sum,I O x.attr,I O x.last,I O x.first,I O x.maxt,I O x.prod,I O x.epoch,I O x.seq,I O x.count] 3::.raw rb #[I O 0,I O 0,U false,U false,U false,I O 0,I O 0,I O 0,I O 0,I O 0,I O 0,Ja none 0 0,I O 0,I O 0] 105::L))
 case first=>
  have hs:=H.out.drew;refine wp_region_held_drew (S:=fun w'=>w'.cell? ⟨bl,0,none⟩=some (I O x.base)∧w'.cell? ⟨bl,1,none⟩=some (I O x.len)∧w'.cell? ⟨bl,2,none⟩=some (I O x.leader)∧w'.cell? ⟨bl,3,none⟩=some (I O x.sum)∧w'.cell? ⟨bl,4,none⟩=some (I O x.attr)∧w'.cell? ⟨bl,5,none⟩=some (I O x.last)∧w'.cell? ⟨bl,6,none⟩=some (I O x.first)∧w'.cell? ⟨bl,7,none⟩=some (I O x.maxt)∧w'.cell? ⟨bl,8,none⟩=some (I O x.prod)∧w'.cell? ⟨bl,9,none⟩=some (I O x.epoch)∧w'.cell? ⟨bl,10,none⟩=some (I O x.seq)∧w'.cell? ⟨bl,11,none⟩=some (I O x.count)) kR (⟨hs.rawCell 0,hs.rawCell 1,hs.rawCell 2,hs.rawCell 3,hs.rawCell 4,hs.rawCell 5,hs.rawCell 6,hs.rawCell 7,hs.rawCell 8,hs.rawCell 9,hs.rawCell 10,hs.rawCell 11⟩) (fun hHeld=> ?_);refine tR 0 ?_;refine tR 1 ?_;refine tR 2 ?_;refine tR 3 ?_;refine tR 4 ?_;refine tR 5 ?_;refine tR 6 ?_;refine tR 7 ?_;refine tR 8 ?_;refine tR 9 ?_;refine tR 10 ?_;refine tR 11 ?_;refine tR 12 ?_;refine tR 13 ?_;refine tR 14 ?_;refine tR 15 ?_;refine tR 16 ?_;refine tR 17 ?_;refine tR 18 ?_;refine tR 19 ?_;refine tR 20 ?_;refine tR 21 ?_;refine tR 22 ?_;refine tR 23 ?_;refine tR 24 ?_;refine tR 25 ?_;refine tR 26 ?_;refine tR 27 ?_;refine tR 28 ?_;refine tR 29 ?_;refine tR 30 ?_;refine tR 31 ?_;refine tR 32 ?_;refine tR 33 ?_;refine tR 34 ?_;refine tR 35 ?_;refine wR [36] (rC rfl (fun KK hK=> ?_) rN);obtain⟨wy,tb,ey,er,hs⟩:=hs.allocEx #[I O 0,I O 0,U false,U false,U false,I O 0,I O 0,I O 0,I O 0,I O 0,I O 0,Ja none 0 0] 30;go_simp
  try rw[ey]
  try rw[er]
  clear ey er;refine zK hK (⟨hs.p1.rawCell 0,hs.p1.rawCell 1,hs.p1.rawCell 2,hs.p1.rawCell 3,hs.p1.rawCell 4,hs.p1.rawCell 5,hs.p1.rawCell 6,hs.p1.rawCell 7,hs.p1.rawCell 8,hs.p1.rawCell 9,hs.p1.rawCell 10,hs.p1.rawCell 11⟩) (fun hHeld=> ?_);clear hK KK
  refine wR [37] (rC rfl (fun KK hK=> ?_) rN);rw[if_pos (by rfl)];refine wp_store_mid 30 (.tmp 7) (.tmp 100) rfl tb 0 #[I O x.base,I O x.leader,U (x.attr / 8 % 2==1),U (x.attr / 16 % 2==1),U (x.attr / 32==1),I O x.last,I O x.first,I O x.maxt,I O x.prod,I O x.epoch,I O x.seq,Ja none 0 0] (by rfl) (by rfl) hs.there kR (by simp[Value.oneCell']) ?_;obtain⟨wz,ez,hs⟩:=hs.storeEx #[I O x.base,I O x.leader,U (x.attr / 8 % 2==1),U (x.attr / 16 % 2==1),U (x.attr / 32==1),I O x.last,I O x.first,I O x.maxt,I O x.prod,I O x.epoch,I O x.seq,Ja none 0 0];rw[ez];clear ez;rw[zCy]at hs;rotate_left
  ·rfl
  rw[HD.out.1,HD.out.2.1,HD.out.2.2]at hs;refine hK.out _ _ (⟨hs.p1.rawCell 0,hs.p1.rawCell 1,hs.p1.rawCell 2,hs.p1.rawCell 3,hs.p1.rawCell 4,hs.p1.rawCell 5,hs.p1.rawCell 6,hs.p1.rawCell 7,hs.p1.rawCell 8,hs.p1.rawCell 9,hs.p1.rawCell 10,hs.p1.rawCell 11⟩) (fun hHeld=> ?_);clear hK KK
  try simp only[Act.put]
  refine wpAnyH_done kR ?_ _;clear hHeld;go_wp2_with fail;go_meet;exact⟨tb,rfl,hs⟩
 obtain⟨tb,rfl,h⟩:=hcut;clear H q8 q16 q32 m8 m16 w8 w16 w32 w8m w16m d0 d1 ha0 ha63 g5 g6 e8 e9;have H:=hQd h;clear h;have hge:=hge;go_wp2;rw[HRW.out];go_loopw [8,9] (fun rv iv wr=>∃(k:Nat) (acc:List (RecS×Value)) (r:Bs) (K2:Know) (tv:Value),k≤n∧iv=I O k∧rv=Z (bb r)∧acc.length=k∧Hid (preU (acc.map (·.1)) (unpT (n - k) r)=tot)∧Hid (r.length≤1000000)∧Hid (K2.has K)∧Hid (∀x∈acc,K2.has (Know.flat RHdr x.2 3 x.1.hdrs))∧St W0 wr K2 (.row tv 54 7 acc.length (acc.flatMap zBm)::.raw tb #[I O x.base,I O x.leader,U (zAg x.attr 3),U (zAg x.attr 4),U (zAg x.attr 5),I O x.last,I O x.first,I O x.maxt,I O x.prod,I O x.epoch,I O x.seq,tv] 30::.raw bl #[I O x.base,I O x.len,I O x.leader,I O x.sum,I O x.attr,I O x.last,I O x.first,I O x.maxt,I O x.prod,I O x.epoch,I O x.seq,I O x.count] 3::.raw rb #[I O 0,I O 0,U false,U false,U false,I O 0,I O 0,I O 0,I O 0,I O 0,I O 0,Ja none 0 0,I O 0,I O 0] 105::L)) (fun _ iv _=>n - (intOf iv).toNat)
 case atStart=>exact⟨0,[],rw0,K,Ja none 0 0,Ji _,rfl,rfl,rfl,HT,HRW1,hQd (Know.has_refl _),hQd (fun x h=>by cases h),H.out.nilRow 54 7⟩
 case round=>
  obtain⟨k,acc,r,K2,tv,hk,rfl,rfl,hacc,HC,HRL,HK2,HALL,hst⟩:=hrel;have HACC:=hQd hacc;have HKB:=hQd (show k≤2147483647 by have:=HNB.out;omega);clear H hacc;have t11:=hst.p1.rawCell 11;have tf11:=hst.p1.rawFree 11;simp at t11;have p11:=hst.p2.rawCell 11;simp at p11;obtain⟨z0,z1,z2,z3,z4,z5,z6,z7,z8,z9,z10,z11,z12,z13,zf0,zf1,zf2,zf3,zf4,zf5,zf6,zf7,zf8,zf9,zf10,zf11,zf12,zf13⟩:=zBy (b:=rb) (hst.p3);have H:=hQd hst;clear hst;have hc9:=HCN.out;rw[hc9]at p11;clear hc9
  by_cases hlt:k<n
  ·have hc:=HC.out;rw[show n - k=(n - (k+1))+1 by omega]at hc;have hki:(k:Int)<(n:Int):=by omega
   have hnb:(n:Int)≤2147483647:=by have:=HNB.out;omega
   by_cases hr0:r=[]
   ·subst hr0;rw[zRG]at hc;have hc2:Except.error 10=tot:=hc;have HC3:=hQd hc2.symm;clear hc hc2;go_wp2_with (go_at_call 96;clear t11 tf11;clear p11;clear z0 zf0 z1 zf1 z2 zf2 z3 zf3 z4 zf4 z5 zf5 z6 zf6 z7 zf7 z8 zf8 z9 zf9 z10 zf10 z11 zf11 z12 zf12 z13 zf13;(with_reducible refine(zBf 10 H.out).mono ?_);rintro e_ wn ⟨rfl,h⟩;obtain⟨z0,z1,z2,z3,z4,z5,z6,z7,z8,z9,z10,z11,z12,z13,zf0,zf1,zf2,zf3,zf4,zf5,zf6,zf7,zf8,zf9,zf10,zf11,zf12,zf13⟩:=zBy (b:=rb) (h.p3);replace H:=hQd h;clear h);have hz:St W0 _ _ (.raw rb #[I O 0,I O 0,U false,U false,U false,I O 0,I O 0,I O 0,I O 0,I O 0,I O 0,Ja none 0 0,I O 0,I O 10] 105::_):=St.sets14 _ _ _ _ _ _ _ _ _ _ _ _ _ _ (H.out.p3);refine bodyPost_ret (zAn rfl _ _ rb [I O 0,I O 0,U false,U false,U false,I O 0,I O 0,I O 0,I O 0,I O 0,I O 0,Ja none 0 0,I O 0,I O 10] _ rfl (zAp hz) Tryz.underlying105 rfl kR) rfl ?_;exact HBAD.out 10 _ dD (.inl HC3.out) (hz.drop.drop.drop.drop.know HK2.out)
   have z1:(r==[])=false:=by rw[beq_eq_false_iff_ne];exact hr0
   have z2:(r !=[])=true:=by simp[bne,z1]
   have z3:¬r=[]:=hr0;have hrl1:(r.length:Int)≤1000000:=by have:=HRL.out;omega
   cases hrr:zCQ r with
   |error e2=>
    rw[zRH hr0 hrr]at hc;have hc2:Except.error e2=tot:=hc;have HC3:=hQd hc2.symm;have HRR:=hQd hrr;have HE2:=hQd (zNx hrr);have gz:(e2==0)=false:=by rw[beq_eq_false_iff_ne];exact zNx hrr
    have gz2:(e2 !=0)=true:=by simp[bne,gz]
    clear hc hc2 hrr hr0
    go_wp2_with (first
  |(go_at_call 97;clear t11 tf11;clear p11;clear z0 zf0 z1 zf1 z2 zf2 z3 zf3 z4 zf4 z5 zf5 z6 zf6 z7 zf7 z8 zf8 z9 zf9 z10 zf10 z11 zf11 z12 zf12 z13 zf13;(with_reducible refine(zMd r e2 HRR.out HRL.out H.out).mono ?_);rintro e_ wn ⟨mm,rfl,h⟩;obtain⟨xb,hxb⟩:=eX wn.heap.size;have h:=h.allocRaw #[I O 0,I O 0,U false,Z ⟨#[]⟩,U false,Z ⟨#[]⟩,Ja none 0 0,I O mm,I O e2] 146;rw[hxb]at h;obtain⟨r0,r1,r2,r3,r4,r5,r6,r7,r8⟩:=uR9 h;simp at r0 r1 r2 r3 r4 r5 r6 r7 r8;have t11:=h.p2.rawCell 11;have tf11:=h.p2.rawFree 11;simp at t11;have p11:=h.p3.rawCell 11;simp at p11;obtain⟨z0,z1,z2,z3,z4,z5,z6,z7,z8,z9,z10,z11,z12,z13,zf0,zf1,zf2,zf3,zf4,zf5,zf6,zf7,zf8,zf9,zf10,zf11,zf12,zf13⟩:=zBy (b:=rb) (h.p4);replace H:=hQd h;clear h)
  |(go_at_call 96;clear r0 r1 r2 r3 r4 r5 r6 r7 r8;clear t11 tf11;clear p11;clear z0 zf0 z1 zf1 z2 zf2 z3 zf3 z4 zf4 z5 zf5 z6 zf6 z7 zf7 z8 zf8 z9 zf9 z10 zf10 z11 zf11 z12 zf12 z13 zf13;(with_reducible refine(zBf e2 H.out).mono ?_);rintro e_ wn ⟨rfl,h⟩;obtain⟨z0,z1,z2,z3,z4,z5,z6,z7,z8,z9,z10,z11,z12,z13,zf0,zf1,zf2,zf3,zf4,zf5,zf6,zf7,zf8,zf9,zf10,zf11,zf12,zf13⟩:=zBy (b:=rb) (h.p4);replace H:=hQd h;clear h))
    have hz:St W0 _ _ (.raw rb #[I O 0,I O 0,U false,U false,U false,I O 0,I O 0,I O 0,I O 0,I O 0,I O 0,Ja none 0 0,I O 0,I O e2] 105::_):=St.sets14 _ _ _ _ _ _ _ _ _ _ _ _ _ _ (H.out.p4);refine bodyPost_ret (zAn rfl _ _ rb [I O 0,I O 0,U false,U false,U false,I O 0,I O 0,I O 0,I O 0,I O 0,I O 0,Ja none 0 0,I O 0,I O e2] _ rfl (zAp hz) Tryz.underlying105 rfl kR) rfl ?_;exact HBAD.out e2 _ HE2.out (.inl HC3.out) (hz.drop.drop.drop.drop.drop.know HK2.out)
   |ok yy=>
    obtain⟨y,m⟩:=yy;rw[zTc hr0 hrr,←zHo]at hc;have hmr:=(zEN hrr).2.2.2.2.2;have hmi:(m:Int)≤(r.length:Int):=by omega
    have HRR:=hQd hrr;have HC2:=hQd hc;have HDR:=hQd (show Jq (r.length - m) (r.drop m)=r.drop m from Jj zq38);clear hc hrr hr0
    go_wp2_with (first
  |(go_at_call 97;clear t11 tf11;clear p11;clear z0 zf0 z1 zf1 z2 zf2 z3 zf3 z4 zf4 z5 zf5 z6 zf6 z7 zf7 z8 zf8 z9 zf9 z10 zf10 z11 zf11 z12 zf12 z13 zf13;(with_reducible refine(zMc r y m HRR.out HRL.out H.out).mono ?_);rintro e_ wn ⟨v1,rfl,h⟩;obtain⟨q1,cc1,hv1⟩:=zAw (Know.has_right (Know.has_refl _)) h;subst hv1;obtain⟨xb,hxb⟩:=eX wn.heap.size;have h:=h.allocRaw #[I O y.time,I O y.off,U y.key.null,Z (bb y.key.data),U y.val.null,Z (bb y.val.data),(Ja q1 y.hdrs.length cc1),I O m,I O 0] 146;rw[hxb]at h;obtain⟨r0,r1,r2,r3,r4,r5,r6,r7,r8⟩:=uR9 h;simp at r0 r1 r2 r3 r4 r5 r6 r7 r8;have t11:=h.p2.rawCell 11;have tf11:=h.p2.rawFree 11;simp at t11;have p11:=h.p3.rawCell 11;simp at p11;obtain⟨z0,z1,z2,z3,z4,z5,z6,z7,z8,z9,z10,z11,z12,z13,zf0,zf1,zf2,zf3,zf4,zf5,zf6,zf7,zf8,zf9,zf10,zf11,zf12,zf13⟩:=zBy (b:=rb) (h.p4);replace H:=hQd h;clear h)
  |(at_builtin;clear t11 tf11;clear p11;clear z0 zf0 z1 zf1 z2 zf2 z3 zf3 z4 zf4 z5 zf5 z6 zf6 z7 zf7 z8 zf8 z9 zf9 z10 zf10 z11 zf11 z12 zf12 z13 zf13;clear r0 r2 r3 r4 r5 r6 r7 r8;refine zAC rfl _ _ 28 rfl 54 Tryz.underlying28 zGv _ _ _ rfl H.out.p1 [I O y.time,I O y.off,U y.key.null,Z (bb y.key.data),U y.val.null,Z (bb y.val.data),Ja q1 y.hdrs.length cc1] 54 (by first|rfl|(rw[World.size_alloc];rfl)|(rw[World.size_alloc,hxb];rfl)) rfl (by simp[Value.oneCell']) zq42 (by have:=HACC.out;have:=HKB.out;omega) ?_;intro v' w' h;obtain⟨qv,cv,hv⟩:=h.rowAny;subst hv;have t11:=h.p2.rawCell 11;have tf11:=h.p2.rawFree 11;simp at t11;have r7:=h.p1.rawCell 7;simp at r7;replace H:=hQd h;clear h))
    go_roundw
    case rel=>
     refine⟨k+1,acc++[(y,Ja q1 y.hdrs.length cc1)],r.drop m,K2.and (Know.flat RHdr (Ja q1 y.hdrs.length cc1) 3 y.hdrs),Ja qv (acc.length+1) cv,hlt,by go_num,?_,?_,?_,?_,?_,?_,?_⟩
     ·rw[HDR.out]
     ·rw[Je,HACC.out];rfl
     ·exact hQd (by rw[List.map_append];exact HC2.out)
     ·exact hQd (by rw[Jf];have:=HRL.out;omega)
     ·exact hQd (Know.has_trans (Know.has_left (Know.has_refl _)) HK2.out)
     ·refine hQd (fun z hz=> ?_)
      rcases List.mem_append.1 hz with hz|hz
      ·exact Know.has_trans (Know.has_left (Know.has_refl _)) (HALL.out z hz)
      ·rw[List.mem_singleton.1 hz];exact Know.has_right (Know.has_refl _)
     ·rw[Je,List.flatMap_append];exact(H.out.p2.rawSet 11 (Ja qv _ cv)).p1.p2.drop
    case measure=>first|(simp[intOf];done)|(simp[intOf];omega)
  ·obtain rfl:k=n:=by omega
   have hc:=HC.out;rw[Nat.sub_self,zPm]at hc;have hki:¬(k:Int)<(k:Int):=by omega
   by_cases hr0:r=[]
   ·rw[if_pos hr0]at hc;have hc2:Except.ok (acc.map (·.1)++[])=tot:=hc;have HC3:=hQd hc2.symm;subst hr0;have hm0:tot=.ok (acc.map (·.1)):=by rw[←hc2,List.append_nil]
    obtain⟨q2,cap2,hv⟩:=H.out.rowAny;subst hv;have h5:=(H.out.freezeRow (R:=RRec) (fun y _=>⟨rfl,rfl⟩));have h6:=h5.know (K':=K.and (Know.recs (Ja q2 acc.length cap2) acc)) (fun w F hh=>⟨HK2.out _ _ hh.1,hh.2,fun y hy=>HALL.out y hy _ _ hh.1⟩);have HM0:=hQd hm0;obtain⟨e,hbe⟩:=eX (zAh ⟨x.base,x.leader,zAg x.attr 3,zAg x.attr 4,zAg x.attr 5,x.last,x.first,x.maxt,x.prod,x.epoch,x.seq,acc.map (·.1)⟩);have HBE2:=hQd hbe;have HFB:=hQd ((HRF.out _ hm0).2 acc rfl);have HLL:=hQd (show acc.length≤1000000 by have h8:=(HRF.out _ hm0).1;rw[Jn]at h8;exact h8);clear t11 tf11;clear p11;clear z0 zf0 z1 zf1 z2 zf2 z3 zf3 z4 zf4 z5 zf5 z6 zf6 z7 zf7 z8 zf8 z9 zf9 z10 zf10 z11 zf11 z12 zf12 z13 zf13;obtain⟨z0,z1,z2,z3,z4,z5,z6,z7,z8,z9,z10,z11,z12,z13,zf0,zf1,zf2,zf3,zf4,zf5,zf6,zf7,zf8,zf9,zf10,zf11,zf12,zf13⟩:=zBy (b:=rb) (h6.p2);obtain⟨b0,b1,b2,b3,b4,b5,b6,b7,b8,b9,b10,b11,bf0,bf1,bf2,bf3,bf4,bf5,bf6,bf7,bf8,bf9,bf10,bf11⟩:=zAd (b:=tb) (h6);have p11:=h6.p1.rawCell 11;simp at p11;rw[HCN.out]at p11;clear H hc hc2 HC3 hm0 h5;have H:=hQd h6;clear h6
    by_cases he0:e=0
    ·subst he0;clear hbe;go_wp2_with (go_at_call 8;clear b0 bf0 b1 bf1 b2 bf2 b3 bf3 b4 bf4 b5 bf5 b6 bf6 b7 bf7 b8 bf8 b9 bf9 b10 bf10 b11 bf11;clear p11;clear z0 zf0 z1 zf1 z2 zf2 z3 zf3 z4 zf4 z5 zf5 z6 zf6 z7 zf7 z8 zf8 z9 zf9 z10 zf10 z11 zf11 z12 zf12 z13 zf13;(with_reducible refine(zDe x.base x.leader (zAg x.attr 3) (zAg x.attr 4) (zAg x.attr 5) x.last x.first x.maxt x.prod x.epoch x.seq acc q2 cap2 0 HBE2.out HB0.out HB1.out HFB.out HLL.out (Know.has_right (Know.has_refl _)) H.out).mono ?_);rintro e_ wn ⟨rfl,h⟩;obtain⟨b0,b1,b2,b3,b4,b5,b6,b7,b8,b9,b10,b11,bf0,bf1,bf2,bf3,bf4,bf5,bf6,bf7,bf8,bf9,bf10,bf11⟩:=zAd (b:=tb) (h);obtain⟨z0,z1,z2,z3,z4,z5,z6,z7,z8,z9,z10,z11,z12,z13,zf0,zf1,zf2,zf3,zf4,zf5,zf6,zf7,zf8,zf9,zf10,zf11,zf12,zf13⟩:=zBy (b:=rb) (h.p2);replace H:=hQd h;clear h);have hz:St W0 _ _ (.raw rb #[I O x.base,I O x.leader,U (zAg x.attr 3),U (zAg x.attr 4),U (zAg x.attr 5),I O x.last,I O x.first,I O x.maxt,I O x.prod,I O x.epoch,I O x.seq,Ja q2 acc.length cap2,I O nn,I O 0] 105::_):=St.sets14 _ _ _ _ _ _ _ _ _ _ _ _ _ _ (H.out.p2);refine bodyPost_ret (zAn rfl _ _ rb [I O x.base,I O x.leader,U (zAg x.attr 3),U (zAg x.attr 4),U (zAg x.attr 5),I O x.last,I O x.first,I O x.maxt,I O x.prod,I O x.epoch,I O x.seq,Ja q2 acc.length cap2,I O nn,I O 0] _ rfl (zAp hz) Tryz.underlying105 rfl kR) rfl ?_;exact HGOOD.out _ q2 acc cap2 _ HM0.out HBE2.out rfl hz.drop.drop.drop
    ·have HE0:=hQd he0;have gz:(e==0)=false:=by rw[beq_eq_false_iff_ne];exact he0
     have gz2:(e !=0)=true:=by simp[bne,gz]
     clear hbe he0
     go_wp2_with (first
  |(go_at_call 8;clear b0 bf0 b1 bf1 b2 bf2 b3 bf3 b4 bf4 b5 bf5 b6 bf6 b7 bf7 b8 bf8 b9 bf9 b10 bf10 b11 bf11;clear p11;clear z0 zf0 z1 zf1 z2 zf2 z3 zf3 z4 zf4 z5 zf5 z6 zf6 z7 zf7 z8 zf8 z9 zf9 z10 zf10 z11 zf11 z12 zf12 z13 zf13;(with_reducible refine(zDe x.base x.leader (zAg x.attr 3) (zAg x.attr 4) (zAg x.attr 5) x.last x.first x.maxt x.prod x.epoch x.seq acc q2 cap2 e HBE2.out HB0.out HB1.out HFB.out HLL.out (Know.has_right (Know.has_refl _)) H.out).mono ?_);rintro e_ wn ⟨rfl,h⟩;obtain⟨b0,b1,b2,b3,b4,b5,b6,b7,b8,b9,b10,b11,bf0,bf1,bf2,bf3,bf4,bf5,bf6,bf7,bf8,bf9,bf10,bf11⟩:=zAd (b:=tb) (h);obtain⟨z0,z1,z2,z3,z4,z5,z6,z7,z8,z9,z10,z11,z12,z13,zf0,zf1,zf2,zf3,zf4,zf5,zf6,zf7,zf8,zf9,zf10,zf11,zf12,zf13⟩:=zBy (b:=rb) (h.p2);replace H:=hQd h;clear h)
  |(go_at_call 96;clear b0 bf0 b1 bf1 b2 bf2 b3 bf3 b4 bf4 b5 bf5 b6 bf6 b7 bf7 b8 bf8 b9 bf9 b10 bf10 b11 bf11;clear z0 zf0 z1 zf1 z2 zf2 z3 zf3 z4 zf4 z5 zf5 z6 zf6 z7 zf7 z8 zf8 z9 zf9 z10 zf10 z11 zf11 z12 zf12 z13 zf13;(with_reducible refine(zBf e H.out).mono ?_);rintro e_ wn ⟨rfl,h⟩;obtain⟨z0,z1,z2,z3,z4,z5,z6,z7,z8,z9,z10,z11,z12,z13,zf0,zf1,zf2,zf3,zf4,zf5,zf6,zf7,zf8,zf9,zf10,zf11,zf12,zf13⟩:=zBy (b:=rb) (h.p2);replace H:=hQd h;clear h))
     have hz:St W0 _ _ (.raw rb #[I O 0,I O 0,U false,U false,U false,I O 0,I O 0,I O 0,I O 0,I O 0,I O 0,Ja none 0 0,I O 0,I O e] 105::_):=St.sets14 _ _ _ _ _ _ _ _ _ _ _ _ _ _ (H.out.p2);refine bodyPost_ret (zAn rfl _ _ rb [I O 0,I O 0,U false,U false,U false,I O 0,I O 0,I O 0,I O 0,I O 0,I O 0,Ja none 0 0,I O 0,I O e] _ rfl (zAp hz) Tryz.underlying105 rfl kR) rfl ?_;exact HBAD.out e _ HE0.out (.inr ⟨_,HM0.out,HBE2.out⟩) (hz.drop.drop.drop.know (Know.has_left (Know.has_refl _)))
   ·rw[if_neg hr0]at hc;have hc2:Except.error 10=tot:=hc;have HC3:=hQd hc2.symm;have z1:(r==[])=false:=by rw[beq_eq_false_iff_ne];exact hr0
    have z2:(r !=[])=true:=by simp[bne,z1]
    have z3:¬r=[]:=hr0;clear hc hc2 hr0;go_wp2_with (go_at_call 96;clear t11 tf11;clear p11;clear z0 zf0 z1 zf1 z2 zf2 z3 zf3 z4 zf4 z5 zf5 z6 zf6 z7 zf7 z8 zf8 z9 zf9 z10 zf10 z11 zf11 z12 zf12 z13 zf13;(with_reducible refine(zBf 10 H.out).mono ?_);rintro e_ wn ⟨rfl,h⟩;obtain⟨z0,z1,z2,z3,z4,z5,z6,z7,z8,z9,z10,z11,z12,z13,zf0,zf1,zf2,zf3,zf4,zf5,zf6,zf7,zf8,zf9,zf10,zf11,zf12,zf13⟩:=zBy (b:=rb) (h.p3);replace H:=hQd h;clear h);have hz:St W0 _ _ (.raw rb #[I O 0,I O 0,U false,U false,U false,I O 0,I O 0,I O 0,I O 0,I O 0,I O 0,Ja none 0 0,I O 0,I O 10] 105::_):=St.sets14 _ _ _ _ _ _ _ _ _ _ _ _ _ _ (H.out.p3);refine bodyPost_ret (zAn rfl _ _ rb [I O 0,I O 0,U false,U false,U false,I O 0,I O 0,I O 0,I O 0,I O 0,I O 0,Ja none 0 0,I O 0,I O 10] _ rfl (zAp hz) Tryz.underlying105 rfl kR) rfl ?_;exact HBAD.out 10 _ dD (.inl HC3.out) (hz.drop.drop.drop.drop.know HK2.out)
theorem zTk(s:Bs)(k:Nat):(s.drop 21).take (61+k - 21)=(s.take 61).drop 21++(s.drop 61).take k:=by
 rw[show 61+k - 21=40+k by omega,List.take_add,List.drop_drop,List.drop_take]
theorem zPe(x:PreS)(said rows:Bs)(P:Except Int BatS→Prop)
 (h1:((zAq 0#32 (said.drop 21++rows)).toNat:Int)≠x.sum→P (.error 5))
 (h2:((zAq 0#32 (said.drop 21++rows)).toNat:Int)=x.sum→chk x.attr≠0→P (.error (chk x.attr)))
 (h3:((zAq 0#32 (said.drop 21++rows)).toNat:Int)=x.sum→chk x.attr=0→∀e,unp x.count.toNat ⟨rows,0,0⟩=.error e→P (.error e))
 (h4:((zAq 0#32 (said.drop 21++rows)).toNat:Int)=x.sum→chk x.attr=0→∀rs e,unp x.count.toNat ⟨rows,0,0⟩=.ok rs→e≠0→zAh ⟨x.base,x.leader,zAg x.attr 3,zAg x.attr 4,zAg x.attr 5,x.last,x.first,x.maxt,x.prod,x.epoch,x.seq,rs⟩=e→P (.error e))
 (h5:((zAq 0#32 (said.drop 21++rows)).toNat:Int)=x.sum→chk x.attr=0→∀rs,unp x.count.toNat ⟨rows,0,0⟩=.ok rs→zAh ⟨x.base,x.leader,zAg x.attr 3,zAg x.attr 4,zAg x.attr 5,x.last,x.first,x.maxt,x.prod,x.epoch,x.seq,rs⟩=0→P (.ok ⟨x.base,x.leader,zAg x.attr 3,zAg x.attr 4,zAg x.attr 5,x.last,x.first,x.maxt,x.prod,x.epoch,x.seq,rs⟩)):P (asmB x said rows):=by
 unfold asmB
 by_cases c1:((zAq 0#32 (said.drop 21++rows)).toNat:Int)≠x.sum
 ·rw[if_pos c1];exact h1 c1
 rw[if_neg c1];have c1:=Decidable.of_not_not c1
 by_cases c2:chk x.attr≠0
 ·rw[if_pos c2];exact h2 c1 c2
 rw[if_neg c2];have c2:=Decidable.of_not_not c2
 cases hu:unp x.count.toNat ⟨rows,0,0⟩with
 |error e=>exact h3 c1 c2 e hu
 |ok rs=>
  simp only
  split
  ·rename_i c3;exact h5 c1 c2 rs hu c3
  ·rename_i c3;exact h4 c1 c2 rs _ hu c3 rfl
theorem zGU(s:Bs)(hs:s.length≤1000000)(h:St W0 w K L):
 Calls Jd 67 #[Z (bb s)] w fun en w'=>match zBT s with
  | .error e=>en=Jb (.agg #[I O 0,I O 0,U false,U false,U false,I O 0,I O 0,I O 0,I O 0,I O 0,I O 0,Ja none 0 0,I O 0,I O e])∧St W0 w' K L
  | .ok (b,n)=>∃(q:Option Addr) (l:List (RecS×Value)) (cap:Nat),en=Jb (.agg #[I O b.base,I O b.leader,U b.app,U b.txn,U b.ctl,I O b.last,I O b.first,I O b.maxt,I O b.prod,I O b.epoch,I O b.seq,Ja q l.length cap,I O n,I O 0])∧l.map (·.1)=b.recs∧St W0 w' (K.and (Know.recs (Ja q l.length cap) l)) L:=by
 unfold zBT
 cases hp:zAR s with
 |error e=>exact zOG s hs e hp h
 |ok x=>
  simp only
  by_cases c1:s.length<61+(x.len - 49).toNat
  ·rw[if_pos c1];exact zQi s hs x hp _ rfl c1 h
  rw[if_neg c1];have hse:=zTk s (x.len - 49).toNat;have hpr:=zBO hp;have hcn:x.count=(x.count.toNat:Int):=by have:=hpr.2.2.2.1;omega
  have hnb:x.count.toNat≤2147483647:=by have:=hpr.2.2.2.2.1;omega
  have hrw:(s.drop 61).take (61+(x.len - 49).toNat - 61)=(s.drop 61).take (x.len - 49).toNat:=by rw[Nat.add_sub_cancel_left]
  have ok1:chk x.attr=0→x.attr % 8=0∧¬x.attr<0∧¬63<x.attr∧¬(32≤x.attr∧x.attr % 32<16):=by
   intro hc
   by_cases h8:x.attr % 8=0
   ·rw[zJ2 _ h8]at hc
    split at hc
    ·cases hc
    ·omega
   ·rw[(zNQ _).2 h8]at hc;cases hc
  refine zPe x (s.take 61) ((s.drop 61).take (x.len - 49).toNat) (fun r=>Calls Jd 67 #[Z (bb s)] w fun en w'=>match (match r with| .error e=>Except.error e| .ok b=>Except.ok (b,61+(x.len - 49).toNat))with
   | .error e=>en=Jb (.agg #[I O 0,I O 0,U false,U false,U false,I O 0,I O 0,I O 0,I O 0,I O 0,I O 0,Ja none 0 0,I O 0,I O e])∧St W0 w' K L
   | .ok (b,n)=>∃(q:Option Addr) (l:List (RecS×Value)) (cap:Nat),en=Jb (.agg #[I O b.base,I O b.leader,U b.app,U b.txn,U b.ctl,I O b.last,I O b.first,I O b.maxt,I O b.prod,I O b.epoch,I O b.seq,Ja q l.length cap,I O n,I O 0])∧l.map (·.1)=b.recs∧St W0 w' (K.and (Know.recs (Ja q l.length cap) l)) L) ?_ ?_ ?_ ?_ ?_
  ·intro e1;exact zTK s hs x hp _ rfl oM _ hse _ rfl e1 h
  ·intro e1 e2
   by_cases h8:x.attr % 8=0
   ·have e3:=e2;rw[zJ2 _ h8]at e3
    have e4:x.attr<0∨63<x.attr∨(32≤x.attr∧x.attr % 32<16):=by
     by_cases hh:x.attr<0∨63<x.attr∨(32≤x.attr∧x.attr % 32<16)
     ·exact hh
     ·rw[if_neg hh]at e3;exact absurd rfl e3
    rw[zJ2 _ h8,if_pos e4];exact zNz s hs x hp _ rfl oM _ hse _ rfl e1 8 (.inr ⟨h8,rfl,e4⟩) h
   ·rw[(zNQ _).2 h8];exact zNz s hs x hp _ rfl oM _ hse _ rfl e1 9 (.inl ⟨h8,rfl⟩) h
  ·intro e1 e2 e hu;obtain⟨a1,a2,a3,a4⟩:=ok1 e2;rw[zGm _ _ 0 (Ji _),List.drop_zero,←hrw]at hu;refine zJD s hs x hp _ rfl oM _ hse _ rfl e1 a1 a2 a3 a4 _ hcn hnb _ hu (fun rs9 hh=>by cases hh) _ (fun e9 w9 h9 hw hst=>by rcases hw with hw|⟨_,hw,_⟩<;>cases hw;exact⟨rfl,hst⟩) (fun rs9 q l cap w9 hh hb9 hl hst=>by cases hh) h
  ·intro e1 e2 rs e hu h0 hb;obtain⟨a1,a2,a3,a4⟩:=ok1 e2;have hrl:((s.drop 61).take (x.len - 49).toNat).length≤1000000:=by rw[Jk,Jf];omega
   have hf:∀l:List (RecS×Value),l.map (·.1)=rs→FitB l:=fun l hl=>(zGn hu hl hrl).1
   have hl2:rs.length≤1000000:=by have:=(zFi _ _ 0 _ (Ji _) hu).2.1;omega
   rw[zGm _ _ 0 (Ji _),List.drop_zero,←hrw]at hu;refine zJD s hs x hp _ rfl oM _ hse _ rfl e1 a1 a2 a3 a4 _ hcn hnb _ hu (fun rs9 hh=>by cases hh;exact⟨hl2,hf⟩) _ (fun e9 w9 h9 hw hst=>by rcases hw with hw|⟨_,hw,hb9⟩<;>cases hw;obtain rfl:=hb.symm.trans hb9;exact⟨rfl,hst⟩) (fun rs9 q l cap w9 hh hb9 hl hst=>by cases hh;exact absurd (hb.symm.trans hb9) h0) h
  ·intro e1 e2 rs hu hb;obtain⟨a1,a2,a3,a4⟩:=ok1 e2;have hrl:((s.drop 61).take (x.len - 49).toNat).length≤1000000:=by rw[Jk,Jf];omega
   have hf:∀l:List (RecS×Value),l.map (·.1)=rs→FitB l:=fun l hl=>(zGn hu hl hrl).1
   have hl2:rs.length≤1000000:=by have:=(zFi _ _ 0 _ (Ji _) hu).2.1;omega
   rw[zGm _ _ 0 (Ji _),List.drop_zero,←hrw]at hu;refine zJD s hs x hp _ rfl oM _ hse _ rfl e1 a1 a2 a3 a4 _ hcn hnb _ hu (fun rs9 hh=>by cases hh;exact⟨hl2,hf⟩) _ (fun e9 w9 h9 hw hst=>by rcases hw with hw|⟨_,hw,hb9⟩<;>cases hw;exact absurd (hb9.symm.trans hb) h9) (fun rs9 q l cap w9 hh hb9 hl hst=>by cases hh;exact⟨q,l,cap,rfl,hl,hst⟩) h
theorem zGV(s:Bs)(hs:s.length≤1000000)(e:Int)(hr:zBT s=.error e)(h:St W0 w K L):
 Calls Jd 67 #[Z (bb s)] w fun en w'=>en=Jb (.agg #[I O 0,I O 0,U false,U false,U false,I O 0,I O 0,I O 0,I O 0,I O 0,I O 0,Ja none 0 0,I O 0,I O e])∧St W0 w' K L:=
 (zGU s hs h).mono fun en w' hh=>by rw[hr]at hh;exact hh
theorem zL9(s:Bs)(hs:s.length≤1000000)(b:BatS)(n:Nat)(hr:zBT s=.ok (b,n))(h:St W0 w K L):
 Calls Jd 67 #[Z (bb s)] w fun en w'=>∃(q:Option Addr) (l:List (RecS×Value)) (cap:Nat),en=Jb (.agg #[I O b.base,I O b.leader,U b.app,U b.txn,U b.ctl,I O b.last,I O b.first,I O b.maxt,I O b.prod,I O b.epoch,I O b.seq,Ja q l.length cap,I O n,I O 0])∧l.map (·.1)=b.recs∧St W0 w' (K.and (Know.recs (Ja q l.length cap) l)) L:=
 (zGU s hs h).mono fun en w' hh=>by rw[hr]at hh;exact hh
end Go.Proofs.YtenojajfacacoaaGreatDoor
