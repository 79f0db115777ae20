/- A text. -/
import Derived.Test.YtenojajfacacoaaGreatDoorGReportPlaysCard16
import Derived.Test.YtenojajfacacoaaGreatDoorGReportPlaysCard9
import Derived.Test.YtenojajfacacoaaGreatDoorGReportPlaysCard11
import Derived.Test.YtenojajfacacoaaGreatDoorGReportPlaysCard5
import Derived.Test.YtenojajfacacoaaGreatDoorGReportPlaysCard7
import Derived.RegionTactic
import Derived.WalkMore
import Derived.Deep.RegionHeld3
import Derived.Deep.DeepCutAuto
import Derived.Test.YtenojajfacacoaaGreatDoorGReportPlaysCard8
import Derived.Test.YtenojajfacacoaaGreatDoorGReportPlaysCard3
import Derived.Test.YtenojajfacacoaaGreatDoorGReportPlaysCard14
import Derived.Test.YtenojajfacacoaaGreatDoorGReportPlaysCard15
/- A text. -/
namespace Go.Proofs.YtenojajfacacoaaGreatDoor
open Go.RowKit
open Go.Value renaming bool→U, string→Z, slice→Ja, int→I, pointer→Jc
open Go.Ending renaming returned→Jb
open _root_.Nat renaming le_refl→Jo, zero_le→Ji, add_assoc→Jm
open Go.IntKind renaming i64→O
open _root_.Go.Proofs.Tryz renaming prog→Jd
open _root_.List renaming length_cons→Jg, take_of_length_le→Jj, length_take→Jk, length_append→Je, length→Jh, take→Jq, getElem_mem→Jp, length_drop→Jf, length_nil→Jl, length_map→Jn
def Er (e:Int):Prop:=0≤e∧e≤30
theorem er0:Er 0:=⟨dD,dD⟩
theorem zQ0:∀l:List RecS,Er (zCl l)
 |[]=>⟨dD,dD⟩
 |r::t=>by
  unfold zCl
  split
  ·exact zQ0 t
  ·unfold zA8
   repeat' split
   all_goals exact⟨dD,dD⟩
theorem zS3(k:Nat)(ok:Int→Bool)(e:Int)(s:Bs)(he:Er e):Er (zCn k ok e s).2:=by
 unfold zCn
 repeat' split
 all_goals first|exact he|exact er0|exact⟨dD,dD⟩
theorem er_ctl(r:RecS):Er (zCh r).2.2:=by
 unfold zCh zB2;have h1:=zS3 2 way 12 r.key.data ⟨dD,dD⟩;have h2:=zS3 4 zCI 11 r.val.data ⟨dD,dD⟩
 repeat' split
 all_goals first|exact h1|exact h2|exact er0|exact⟨dD,dD⟩
theorem zQZ(first last:Int):∀(l:List RecS) (a g e:Int),zDE first last l a g=.error e→Er e
 |[],a,g,e,h=>by cases h
 |r::t,a,g,e,h=>by
  unfold zDE at h
  split at h
  ·injection h with h;subst h;exact⟨dD,dD⟩
  ·split at h
   ·injection h with h;subst h;exact⟨dD,dD⟩
   ·exact zQZ first last t _ _ e h
theorem zS4(b:BatS):Er (zAh b):=by
 have h1:=zQ0 b.recs
 have h2:Er b.ends:=by
  unfold BatS.ends
  split
  ·exact⟨dD,dD⟩
  ·exact er_ctl _
 have h3:Er b.rows:=by
  unfold BatS.rows zOj
  split
  ·rename_i e he;exact zQZ _ _ _ _ _ _ he
  ·split<;>exact⟨dD,dD⟩
 unfold zAh
 repeat' split
 all_goals first|exact h1|exact h2|exact h3|exact⟨dD,dD⟩
structure ToldOk (A T:Bs) (bs:List BatS) (pv:Nat) (rest:Bs) (pe ps:Int):Prop where
 fin:finS A=(bs,pv,rest,pe)
 stop:zCP rest pe=ps
 len:A.length≤90000
 ok:∀b∈bs,EncOk b
 blen:bs.length≤900
 rv:Rn (pv:Nat)
 re:Rn pe
 txt:zPo bs (pv:Nat) ps pe=T
variable {W0 w:World}{K:Know}{L:List Res}
theorem zOZ(z:HdrS)(h:z.key.length+z.val.data.length≤100):(encH z).length≤120:=by
 have h1:=zBK ⟨false,z.key⟩ (by show z.key.length≤_;omega);have h2:=zBK z.val oM;have h3:(encV ⟨false,z.key⟩).length≤z.key.length+10:=h1;unfold encH;rw[Je]
 omega
theorem zOX(x:RecS)(hR:x.R)(hs:zBt x=true):(encR x).length≤900:=by
 unfold zBt at hs;simp only[Bool.and_eq_true,decide_eq_true_eq]at hs;obtain⟨s1,s2,s3⟩:=hs;have h1:=zCU x.time hR.1;have h2:=zCU x.off hR.2;have h3:=zBK x.key oM;have h4:=zBK x.val oM;have h5:=zCL encH 120 x.hdrs (fun z hz=>zOZ z (zJP x.hdrs s3 z hz));have h6:=zCU x.hdrs.length oM
 have h7:(recF x).length≤880:=by
  unfold recF zDq;simp only[Je,Jg,Jl]
  omega
 have h8:=zBK ⟨false,recF x⟩ (by show(recF x).length≤_;omega);have h9:(encV ⟨false,recF x⟩).length≤(recF x).length+10:=h8;unfold encR
 omega
def OkV (b:BatS):Prop:=b.R∧(∀x∈b.recs,x.R∧x.hdrs.length≤9223372036854775807∧HFit x.hdrs∧x.key.data.length≤140737488351232∧x.val.data.length≤140737488351232)∧zBb b.recs=true
theorem zQ1{b:BatS}(h:OkV b):b.enc.length≤10900:=by
 obtain⟨h1,h2,h3⟩:=h;unfold zBb at h3;simp only[Bool.and_eq_true,decide_eq_true_eq]at h3;have h4:=zCL encR 900 b.recs (fun x hx=>zOX x (h2 x hx).1 (zDj _ h3.2 x hx));rw[b.enc_len];unfold BatS.rowsB
 omega
def zAP (x:BtR):BatR:=match x.v with
 | Ja q _ cap=>⟨x.val,x.l,q,cap⟩
 | _=>⟨x.val,x.l,none,0⟩
theorem zC8(x:BtR):(zAP x).b=x.val:=by unfold zAP;split<;>rfl
theorem zGG(x:BtR):(zAP x).l=x.l:=by unfold zAP;split<;>rfl
theorem zPp(x:BtR)(q:Option Addr)(n cap:Nat)(h:x.v=Ja q n cap):(zAP x).q=q∧(zAP x).cap=cap:=by unfold zAP;rw[h];exact⟨rfl,rfl⟩
theorem zGF(l:List BtR):(l.map zAP).map BatR.b=l.map BtR.val:=by rw[List.map_map];exact List.map_congr_left fun x _=>zC8 x
theorem zRK(x:BtR)(h:OkV x.val):SmB (zAP x):=by
 obtain⟨h1,h2,h3⟩:=h;refine⟨⟨by rw[zC8];exact h1,?_,by rw[zC8,zGG];rfl⟩,by rw[zGG];exact h3⟩;rw[zGG];intro y hy;exact h2 y.1 (List.mem_map.2 ⟨y,hy,rfl⟩)
theorem zHV{v:Value}{l:List BtR}(hk:K.has (Know.btrs v l))(h:St W0 w K L):K.has (Know.bats v (l.map zAP)):=by
 have hv:∀x∈l,∃q cap,x.v=Ja q x.l.length cap:=fun x hx=>zC0 (zE8 hk hx) h
 intro w' F hF;obtain⟨⟨p,cap,rfl,hr⟩,hrec⟩:=hk w' F hF;refine⟨⟨p,cap,by rw[Jn],fun h0=> ?_⟩,?_⟩
 ·obtain⟨b,off,rfl,hb,hlt,hc⟩:=hr (by rwa [Jn]at h0);refine⟨b,off,rfl,hb,hlt,fun i hi=> ?_⟩;have hi2:i<l.length:=by rwa [Jn]at hi
  obtain⟨cs,h1,h2,h3⟩:=hc i hi2;refine⟨cs,h1,?_,h3⟩;rw[List.getElem_map];obtain⟨q,cp,e⟩:=hv l[i] (Jp hi2);obtain⟨e1,e2⟩:=zPp l[i] q _ cp e;unfold RBt zAZ zEe at h2;unfold RBat;rw[h2,zC8,zGG,e1,e2,e]
  rfl
 ·intro y hy;obtain⟨x,hx,rfl⟩:=List.mem_map.1 hy;obtain⟨q,cp,e⟩:=hv x hx;obtain⟨e1,e2⟩:=zPp x q _ cp e
  show(Know.recs (.slice (zAP x).q (zAP x).l.length (zAP x).cap) (zAP x).l).p w' F
  rw[zGG,e1,e2,←e];exact hrec x hx
theorem zQ2(l:List BatR):encB l=(l.map BatR.b).flatMap BatS.enc:=by unfold encB;rw[List.flatMap_map]
theorem zKf:∀{l:List BatR},(∀x∈l,zAh x.b=0)→errB l=0
 |[],_=>rfl
 |y::t,h=>by
  unfold errB;rw[if_pos (h y sM)];exact zKf (fun x hx=>h x (by simp[hx]))
def cutA (c:Int) (A:Bs):Bs:=if 0≤c∧c<(A.length:Int)then A.take c.toNat else A
theorem zRd(c:Int)(A:Bs):∃k,k≤A.length∧cutA c A=A.take k:=by
 unfold cutA
 split
 ·exact⟨c.toNat,oM,rfl⟩
 ·exact⟨A.length,Jo _,(List.take_length).symm⟩
theorem cut_n(l:List BatR)(k:Nat):∀j,j≤l.length→(∀hh:j<l.length,k<(encB (l.take (j+1))).length)→∃n,n≤l.length∧(encB (l.take n)).length≤k∧∀hh:n<l.length,k<(encB (l.take (n+1))).length
 |0,h,h2=>⟨0,h,by rw[List.take_zero];exact Ji _,h2⟩
 |j+1,h,h2=>by
  by_cases hc:(encB (l.take (j+1))).length≤k
  ·exact⟨j+1,h,hc,h2⟩
  ·exact cut_n l k j oM (fun _=>by omega)
theorem zD4:∀(l:List BatR),(∀x∈l,OkV x.b)→(encB l).length≤10900*l.length
 |[],_=>by simp[encB]
 |x::t,h=>by
  have h1:=zQ1 (h x sM);have h2:=zD4 t (fun y hy=>h y (by simp[hy]));rw[zHO,Je,Jg]
  omega
theorem zRJ(l:List BatR)(hl:l.length≤8)(hv:∀x∈l,OkV x.b)(hs:∀x∈l,SmB x)(he:∀x∈l,zAh x.b=0)(c:Int):∃T bs pv rest pe ps,ToldOk (cutA c (encB l)) T bs pv rest pe ps:=by
 have hso:∀x∈l,SmallOk x.b:=fun x hx=>SmallOk.of (hs x hx).1.2.2.symm (hs x hx).1.2.1 (hs x hx).2 (he x hx) (hs x hx).1.1
 obtain⟨k,hk,hA⟩:=zRd c (encB l);have hlen:=zD4 l hv;obtain⟨n,hn,h1,h2⟩:=cut_n l k l.length (Jo _) (fun h=>absurd h (Nat.lt_irrefl _));obtain⟨rest,hf,_⟩:=zT7 l hso k n hk hn h1 h2;rw[hA];refine⟨_,_,_,rest,0,_,hf,rfl,by rw[Jk];omega,?_,by rw[Jn,Jk];omega,by unfold Rn;omega,by unfold Rn;decide,rfl⟩;intro b hb;obtain⟨x,hx,rfl⟩:=List.mem_map.1 hb;exact EncOk.small (hso x (List.mem_of_mem_take hx))
theorem zRu(b:BatS)(l:List (RecS×Value))(q:Option Addr)(cap:Nat)(e:Int)(he:zAh b=e)(hs:SmB ⟨b,l,q,cap⟩)(hk:K.has (Know.recs (Ja q l.length cap) l))(h:St W0 w K L):
 Calls Jd 35 #[.agg #[I O b.base,I O b.leader,U b.app,U b.txn,U b.ctl,I O b.last,I O b.first,I O b.maxt,I O b.prod,I O b.epoch,I O b.seq,Ja q l.length cap]] w fun en w'=>en=Jb (I O e)∧St W0 w' K L:=by
 obtain⟨⟨h1,h2,h3⟩,h4⟩:=hs;simp only at h1 h2 h3 h4;exact zCH b.base b.leader b.app b.txn b.ctl b.last b.first b.maxt b.prod b.epoch b.seq l q cap e (by rw[h3];exact he) (by have:=h1.2.2.2.1.2;omega) (FitW.fit h2 h4) (by have:=zDV h4;omega) hk h
theorem zST{l:List BatR}(h:∀x∈l,zAh x.b=0):allB l=(encB l,0):=by unfold allB;rw[if_pos (zKf h)]
set_option maxHeartbeats 8000000
set_option maxRecDepth 100000
variable {W0 w:World}{K:Know}{L:List Res}
theorem zNq(ws:List Bs)(t tl:Bs)(wb n cap:Nat)(hn:n=ws.length)(hnc:n≤cap)(hl:ws.length≤1000000)(ht:zAN 32 ws=t)(htn:t++[10]=tl)(htl:t.length≤1000000)(hk:K.has (Know.strw wb 0 ws))(h:St W0 w K L):
 Calls Jd 36 #[Ja (some ⟨wb,0,none⟩) n cap] w fun en w'=>en=Jb (Z (bb tl))∧St W0 w' K L:=by
 have H:=hQd h;have HK:=hQd hk;have HN:=hQd hn;have HNC:=hQd hnc;have HWL:=hQd hl;have HT:=hQd ht;have HTL:=hQd htl;have k1:=nl_cat t tl htn;have g1:¬(9223372036854775807<t.length+1):=by omega
 clear h hk hn hnc hl ht htl htn;go_enter Tryz.func36,Tryz.ntmps36;go_wp2_with (go_at_call 73;(with_reducible refine(zTg ws t wb n cap HN.out HNC.out HWL.out HT.out HTL.out HK.out H.out).zM ?_);clear H;intro wn H);go_ret;exact⟨rfl,H.out⟩
theorem zDc(ws:List Bs)(t tl:Bs)(wb n:Nat)(cs:Array Value)(hcs:cs=(ws.map fun x=>Value.string (bb x)).toArray)(hn:n=ws.length)(hl:ws.length≤1000000)(ht:zAN 32 ws=t)(htn:t++[10]=tl)(htl:t.length≤1000000){T:TypeId}(h:St W0 w K (.raw wb cs T::L)):
 Calls Jd 36 #[Ja (some ⟨wb,0,none⟩) n n] w fun en w'=>en=Jb (Z (bb tl))∧St W0 w' K L:=by
 subst hcs;refine(zNq ws t tl wb n n hn (Jo _) hl ht htn htl (Know.has_right (Know.has_refl _)) h.strs).mono ?_;rintro en w' ⟨rfl,h3⟩;exact⟨rfl,h3.know (Know.has_left (Know.has_refl _))⟩
theorem zJp(ws:List Bs)(t tl:Bs)(wb n cv:Nat)(cs:List Value)(hcs:cs=ws.flatMap zNj)(hn:n=ws.length)(h0:0<n)(hl:ws.length≤1000000)(ht:zAN 32 ws=t)(htn:t++[10]=tl)(htl:t.length≤1000000)(h:St W0 w K (.row (Ja (some ⟨wb,0,none⟩) n cv) 9 1 n cs::L)):
 Calls Jd 36 #[Ja (some ⟨wb,0,none⟩) n cv] w fun en w'=>en=Jb (Z (bb tl))∧St W0 w' K L:=by
 subst hcs hn;obtain⟨wb3,cv3,hv3,hle3,h10⟩:=h.rowStrs h0;injection hv3 with hv4 hv5 hv6;injection hv4 with hv4;injection hv4 with hv4;subst hv4 hv6;refine(zNq ws t tl wb ws.length cv rfl hle3 hl ht htn htl (Know.has_right (Know.has_refl _)) h10).mono ?_;rintro en w' ⟨rfl,h3⟩;exact⟨rfl,h3.know (Know.has_left (Know.has_refl _))⟩
variable {W0 w:World}{K:Know}{L:List Res}
theorem zTy(V e:Int)(st:Int)(hst:st=0)(hV:Rn V)(he:Rn e)(tl:Bs)(htl:zAN 32 [[118,97,108,105,100],numW V,[99,108,101,97,110]]++[10]=tl)(hlib:K.has Know.lib)(h:St W0 w K L):
 Calls Jd 79 #[.agg #[I O V,I O st,I O e]] w fun en w'=>en=Jb (Z (bb tl))∧St W0 w' K L:=by
 obtain⟨rb,hrb⟩:=eX w.heap.size;have g1:=h.allocRaw #[I O V,I O st,I O e] 112;rw[hrb]at g1;obtain⟨z0,z1,z2⟩:=uR3 ((g1));simp at z0 z1 z2;have H:=hQd g1;have HLIB:=hQd hlib;have HVR:=hQd hV;have HER:=hQd he;obtain⟨d2,hd2⟩:=eX (numW V);obtain⟨d4,hd4⟩:=eX (numW e);obtain⟨t,ht⟩:=eX (zAN 32 [[118,97,108,105,100],d2,[99,108,101,97,110]]);have n2:=zAk V hV;have n4:=zAk e he;have HT:=hQd ht;have HTN:=hQd (show t++[10]=tl by rw[←ht,←htl,←hd2]);have HTL:=hQd (show t.length≤1000000 by rw[←ht];simp only[zAN,Je,Jg,Jl];rw[hd2]at n2;rw[hd4]at n4;omega);have HWL:=hQd (show([[118,97,108,105,100],d2,[99,108,101,97,110]]:List Bs).length≤1000000 by simp);have HD2:=hQd hd2;have HD4:=hQd hd4;subst hst;have t1:True:=trivial;have e1:((0:Int)==0)=true:=rfl;clear h g1 hlib hV he hd2 hd4 ht htl n2 n4;go_enter Tryz.func79,Tryz.ntmps79
 go_wp2_with (first
  |(go_at_call 37;have _t:=t1;clear _t;(with_reducible refine(zBL V HVR.out d2 HD2.out HLIB.out H.out).mono ?_);rintro e_ wn ⟨rfl,h⟩;obtain⟨z0,z1,z2⟩:=uR3 h;simp at z0 z1 z2;replace H:=hQd h;clear h;clear t1)
  |(go_at_call 36;have h0:=H.out.allocRaw #[Z ⟨#[118,97,108,105,100]⟩,Z (bb d2),Z ⟨#[99,108,101,97,110]⟩] 9;(with_reducible refine(zDc [[118,97,108,105,100],d2,[99,108,101,97,110]] t tl _ 3 _ rfl rfl HWL.out HT.out HTN.out HTL.out h0).zM ?_);clear H;intro wn H))
 go_ret;exact⟨rfl,H.out.drop⟩
theorem zTx(V e:Int)(st:Int)(hst:st=1)(hV:Rn V)(he:Rn e)(tl:Bs)(htl:zAN 32 [[118,97,108,105,100],numW V,[116,111,114,110]]++[10]=tl)(hlib:K.has Know.lib)(h:St W0 w K L):
 Calls Jd 79 #[.agg #[I O V,I O st,I O e]] w fun en w'=>en=Jb (Z (bb tl))∧St W0 w' K L:=by
 obtain⟨rb,hrb⟩:=eX w.heap.size;have g1:=h.allocRaw #[I O V,I O st,I O e] 112;rw[hrb]at g1;obtain⟨z0,z1,z2⟩:=uR3 ((g1));simp at z0 z1 z2;have H:=hQd g1;have HLIB:=hQd hlib;have HVR:=hQd hV;have HER:=hQd he;obtain⟨d2,hd2⟩:=eX (numW V);obtain⟨d4,hd4⟩:=eX (numW e);obtain⟨t,ht⟩:=eX (zAN 32 [[118,97,108,105,100],d2,[116,111,114,110]]);have n2:=zAk V hV;have n4:=zAk e he;have HT:=hQd ht;have HTN:=hQd (show t++[10]=tl by rw[←ht,←htl,←hd2]);have HTL:=hQd (show t.length≤1000000 by rw[←ht];simp only[zAN,Je,Jg,Jl];rw[hd2]at n2;rw[hd4]at n4;omega);have HWL:=hQd (show([[118,97,108,105,100],d2,[116,111,114,110]]:List Bs).length≤1000000 by simp);have HD2:=hQd hd2;have HD4:=hQd hd4;subst hst;have t1:True:=trivial;have e1:((1:Int)==0)=false:=rfl;have e2:((1:Int)==1)=true:=rfl;clear h g1 hlib hV he hd2 hd4 ht htl n2 n4;go_enter Tryz.func79,Tryz.ntmps79
 go_wp2_with (first
  |(go_at_call 37;have _t:=t1;clear _t;(with_reducible refine(zBL V HVR.out d2 HD2.out HLIB.out H.out).mono ?_);rintro e_ wn ⟨rfl,h⟩;obtain⟨z0,z1,z2⟩:=uR3 h;simp at z0 z1 z2;replace H:=hQd h;clear h;clear t1)
  |(go_at_call 36;have h0:=H.out.allocRaw #[Z ⟨#[118,97,108,105,100]⟩,Z (bb d2),Z ⟨#[116,111,114,110]⟩] 9;(with_reducible refine(zDc [[118,97,108,105,100],d2,[116,111,114,110]] t tl _ 3 _ rfl rfl HWL.out HT.out HTN.out HTL.out h0).zM ?_);clear H;intro wn H))
 go_ret;exact⟨rfl,H.out.drop⟩
theorem zTw(V e:Int)(st:Int)(hs0:¬st=0)(hs1:¬st=1)(hV:Rn V)(he:Rn e)(tl:Bs)(htl:zAN 32 [[118,97,108,105,100],numW V,[98,97,100],numW e]++[10]=tl)(hlib:K.has Know.lib)(h:St W0 w K L):
 Calls Jd 79 #[.agg #[I O V,I O st,I O e]] w fun en w'=>en=Jb (Z (bb tl))∧St W0 w' K L:=by
 obtain⟨rb,hrb⟩:=eX w.heap.size;have g1:=h.allocRaw #[I O V,I O st,I O e] 112;rw[hrb]at g1;obtain⟨z0,z1,z2⟩:=uR3 ((g1));simp at z0 z1 z2;have H:=hQd g1;have HLIB:=hQd hlib;have HVR:=hQd hV;have HER:=hQd he;obtain⟨d2,hd2⟩:=eX (numW V);obtain⟨d4,hd4⟩:=eX (numW e);obtain⟨t,ht⟩:=eX (zAN 32 [[118,97,108,105,100],d2,[98,97,100],d4]);have n2:=zAk V hV;have n4:=zAk e he;have HT:=hQd ht;have HTN:=hQd (show t++[10]=tl by rw[←ht,←htl,←hd2,←hd4]);have HTL:=hQd (show t.length≤1000000 by rw[←ht];simp only[zAN,Je,Jg,Jl];rw[hd2]at n2;rw[hd4]at n4;omega);have HWL:=hQd (show([[118,97,108,105,100],d2,[98,97,100],d4]:List Bs).length≤1000000 by simp);have HD2:=hQd hd2;have HD4:=hQd hd4;have t1:True:=trivial;have e1:(st==0)=false:=by rw[beq_eq_false_iff_ne];exact hs0
 have e2:(st==1)=false:=by rw[beq_eq_false_iff_ne];exact hs1
 clear h g1 hlib hV he hd2 hd4 ht htl n2 n4 hs0 hs1;go_enter Tryz.func79,Tryz.ntmps79
 go_wp2_with (first
  |(go_at_call 37;have _t:=t1;clear _t;(with_reducible refine(zBL V HVR.out d2 HD2.out HLIB.out H.out).mono ?_);rintro e_ wn ⟨rfl,h⟩;obtain⟨z0,z1,z2⟩:=uR3 h;simp at z0 z1 z2;replace H:=hQd h;clear h;clear t1)
  |(go_at_call 37;(with_reducible refine(zBL e HER.out d4 HD4.out HLIB.out H.out).zM ?_);clear H;intro wn H)
  |(go_at_call 36;have h0:=H.out.allocRaw #[Z ⟨#[118,97,108,105,100]⟩,Z (bb d2),Z ⟨#[98,97,100]⟩,Z (bb d4)] 9;(with_reducible refine(zDc [[118,97,108,105,100],d2,[98,97,100],d4] t tl _ 4 _ rfl rfl HWL.out HT.out HTN.out HTL.out h0).zM ?_);clear H;intro wn H))
 go_ret;exact⟨rfl,H.out.drop⟩
theorem rp_end(V st e:Int)(hV:Rn V)(he:Rn e)(tl:Bs)(htl:endT V st e=tl)(hlib:K.has Know.lib)(h:St W0 w K L):
 Calls Jd 79 #[.agg #[I O V,I O st,I O e]] w fun en w'=>en=Jb (Z (bb tl))∧St W0 w' K L:=by
 unfold endT endW at htl
 by_cases h0:st=0
 ·rw[if_pos h0]at htl;exact zTy V e st h0 hV he tl htl hlib h
 by_cases h1:st=1
 ·rw[if_neg h0,if_pos h1]at htl;exact zTx V e st h1 hV he tl htl hlib h
 ·rw[if_neg h0,if_neg h1]at htl;exact zTw V e st h0 h1 hV he tl htl hlib h
variable {W0 w:World}{K:Know}{L:List Res}
theorem zq44{p:Prop}(h:p:=by first|rfl|(rw[World.size_alloc];rfl)|(rw[World.size_alloc,heb];rfl)):p:=h
theorem zKz(b:BatS)(l:List (RecS×Value))(q:Option Addr)(cap:Nat)(hl:l.map (·.1)=b.recs)(n1 n2 n3 n4 n5:Int)(he:zCD b=(n1,n2,n3,n4,n5,false))(so:EncOk b)(tl:Bs)(htl:zBn b=tl)(hlib:K.has Know.lib)(hk:K.has (Know.recs (Ja q l.length cap) l))(h:St W0 w K L):
 Calls Jd 77 #[.agg #[I O b.base,I O b.leader,U b.app,U b.txn,U b.ctl,I O b.last,I O b.first,I O b.maxt,I O b.prod,I O b.epoch,I O b.seq,Ja q l.length cap]] w fun en w'=>en=Jb (Z (bb tl))∧St W0 w' K L:=by
 obtain⟨tb,htb⟩:=eX w.heap.size;have g1:=h.allocRaw #[I O b.base,I O b.leader,U b.app,U b.txn,U b.ctl,I O b.last,I O b.first,I O b.maxt,I O b.prod,I O b.epoch,I O b.seq,Ja q l.length cap] 30;rw[htb]at g1;obtain⟨d1,hd1⟩:=eX (numW b.base);obtain⟨d2,hd2⟩:=eX (numW b.prod);obtain⟨d3,hd3⟩:=eX (numW (l.length:Int));obtain⟨d5,hd5⟩:=eX (numW n5);obtain⟨t,ht⟩:=eX (zAN 32 [[98,97,116,99,104],d1,d2,d3,[100,97,116,97]]);have hR:=so.rng;have hlen:(b.recs.length:Int)=(l.length:Int):=by rw[←hl,Jn]
 have hll:=so.llen hl;have r1:Rn b.base:=hR.1;have r2:Rn b.prod:=hR.2.2.2.2.2.1;have r3:Rn (l.length:Int):=by unfold Rn;omega
 have r5:=zEz he;have m1:=zAk _ r1;have m2:=zAk _ r2;have m3:=zAk _ r3;have m5:=zAk _ r5;rw[hd1]at m1;rw[hd2]at m2;rw[hd3]at m3;rw[hd5]at m5;have HT:=hQd ht
 have HTN:=hQd (show t++[10]=tl by
  rw[←ht,←htl];unfold zBn zLi;rw[zGD he,hlen,hd1,hd2,hd3]
  rfl)
 have HTL:=hQd (show t.length≤1000000 by rw[←ht];simp only[zAN,Je,Jg,Jl];omega);have HWL:=hQd (show([[98,97,116,99,104],d1,d2,d3,[100,97,116,97]]:List Bs).length≤1000000 by simp);have HP:=hQd (show 0<4+1 by omega);have HRB:=hQd r1;have HRP:=hQd r2;have HRL:=hQd r3;have HR5:=hQd r5;have HD1:=hQd hd1;have HD2:=hQd hd2;have HD3:=hQd hd3;have HD5:=hQd hd5;have HL:=hQd hl;have HE:=hQd he;have HSO:=hQd so;have HK:=hQd hk;have HLIB:=hQd hlib;have KP:=hQd (show ∀(w':World) (L':List Res),St W0 w' K (.raw tb #[I O b.base,I O b.leader,U b.app,U b.txn,U b.ctl,I O b.last,I O b.first,I O b.maxt,I O b.prod,I O b.epoch,I O b.seq,Ja q l.length cap] 30::L')→(w'.cell? ⟨tb,0,none⟩=some (I O b.base)∧w'.cell? ⟨tb,8,none⟩=some (I O b.prod)∧w'.cell? ⟨tb,11,none⟩=some (Ja q l.length cap))from fun w' L' h'=>⟨h'.rawCell 0,h'.rawCell 8,h'.rawCell 11⟩);have H:=hQd g1;clear h g1 hlib hk hl he so htl hd1 hd2 hd3 hd5 ht hR hlen hll r1 r2 r3 r5 m1 m2 m3 m5;go_enter Tryz.func77,Tryz.ntmps77;go_upto_region 1 with fail;have hs:=H.out.drew;clear H;refine wp_region_held_drew (S:=fun w'=>w'.cell? ⟨tb,0,none⟩=some (I O b.base)∧w'.cell? ⟨tb,8,none⟩=some (I O b.prod)∧w'.cell? ⟨tb,11,none⟩=some (Ja q l.length cap)) kR (KP.out _ _ hs) (fun hHeld=> ?_);refine tR 0 ?_;refine tR 1 ?_;refine tR 3 ?_;refine tR 4 ?_;refine tR 6 ?_;refine tR 7 ?_;refine tR 8 ?_;refine wR [2] (rC rfl (fun KK hK=> ?_) rN);go_simp;go_at_call 37;with_reducible refine(zBL b.base HRB.out d1 HD1.out HLIB.out hs).mono ?_;rintro e wq ⟨rfl,hs⟩;refine zK hK (KP.out _ _ hs) (fun hHeld=> ?_);clear hK KK
 refine wR [5] (rC rfl (fun KK hK=> ?_) rN)
 ·go_simp;go_at_call 37;with_reducible refine(zBL b.prod HRP.out d2 HD2.out HLIB.out hs).mono ?_;rintro e wq ⟨rfl,hs⟩;refine zK hK (KP.out _ _ hs) (fun hHeld=> ?_);clear hK KK
  refine wR [9] (rC rfl (fun KK hK=> ?_) rN)
  ·go_simp;go_at_call 37;with_reducible refine(zBL (l.length:Int) HRL.out d3 HD3.out HLIB.out hs).mono ?_;rintro e wq ⟨rfl,hs⟩;refine zK hK (KP.out _ _ hs) (fun hHeld=> ?_);clear hK KK
   refine wR [10] (rC rfl (fun KK hK=> ?_) rN)
   ·rw[if_pos (by rfl)];refine zB6 (zDP _ _ _ _ kR (zMV ⟨#[98,97,116,99,104]⟩ (bb d1) (bb d2) (bb d3) _)) ?_;obtain⟨wy,nb,ey,eb,hs⟩:=hs.rowLitEx [Z ⟨#[98,97,116,99,104]⟩,Z (bb d1),Z (bb d2),Z (bb d3)] 9 1 4 rfl (by unfold maxLen;omega);rw[ey,eb];clear ey eb;refine zK hK (KP.out _ _ hs.p1) (fun hHeld=> ?_);clear hK KK
    refine tR 11 ?_;refine wpAnyH_done kR ?_ _;clear hHeld;obtain⟨y0,y1,y2,y3,y4,y5,y6,y7,y8,y9,y10,y11⟩:=uR12 hs.p1;simp at y0 y1 y2 y3 y4 y5 y6 y7 y8 y9 y10 y11;have H:=hQd hs;clear hs
    go_wp2_with (first
 |(go_at_call 108;(try clear y0 y1 y2 y3 y4 y5 y6 y7 y8 y9 y10 y11);(with_reducible refine(zHA b l q cap HL.out n1 n2 n3 n4 n5 _ HE.out HSO.out HK.out H.out).mono ?_);rintro e_ wn ⟨rfl,h⟩;obtain⟨eb,heb⟩:=eX wn.heap.size;have h:=h.allocRaw #[I O n1,I O n2,I O n3,I O n4,I O n5] 161;rw[heb]at h;have f2:=h.rawCell 2;have f4:=h.rawCell 4;simp at f2 f4;replace H:=hQd h;clear h)
 |(at_builtin;refine zAC rfl _ _ 69 rfl 9 Tryz.underlying69 zHR _ _ _ rfl H.out.p1 [Z ⟨#[100,97,116,97]⟩] 9 zq44 rfl (by simp[Value.oneCell']) (by unfold maxLen;omega) oM ?_;intro v' w' h;obtain⟨wb2,cv2,hv⟩:=h.rowSlice oM;subst hv;replace H:=hQd h;clear h)
 |(go_at_call 36;(with_reducible refine(zJp [[98,97,116,99,104],d1,d2,d3,[100,97,116,97]] t tl wb2 (4+1) cv2 _ rfl rfl HP.out HWL.out HT.out HTN.out HTL.out H.out).zM ?_);clear H;intro wn H))
    go_ret;exact⟨rfl,H.out.drop.drop⟩
theorem zH7(b:BatS)(l:List (RecS×Value))(q:Option Addr)(cap:Nat)(hl:l.map (·.1)=b.recs)(n1 n2 n3 n4 n5:Int)(he:zCD b=(n1,n2,n3,n4,n5,true))(hk1:n3=1)(so:EncOk b)(tl:Bs)(htl:zBn b=tl)(hlib:K.has Know.lib)(hk:K.has (Know.recs (Ja q l.length cap) l))(h:St W0 w K L):
 Calls Jd 77 #[.agg #[I O b.base,I O b.leader,U b.app,U b.txn,U b.ctl,I O b.last,I O b.first,I O b.maxt,I O b.prod,I O b.epoch,I O b.seq,Ja q l.length cap]] w fun en w'=>en=Jb (Z (bb tl))∧St W0 w' K L:=by
 obtain⟨tb,htb⟩:=eX w.heap.size;have g1:=h.allocRaw #[I O b.base,I O b.leader,U b.app,U b.txn,U b.ctl,I O b.last,I O b.first,I O b.maxt,I O b.prod,I O b.epoch,I O b.seq,Ja q l.length cap] 30;rw[htb]at g1;obtain⟨d1,hd1⟩:=eX (numW b.base);obtain⟨d2,hd2⟩:=eX (numW b.prod);obtain⟨d3,hd3⟩:=eX (numW (l.length:Int));obtain⟨d5,hd5⟩:=eX (numW n5);obtain⟨t,ht⟩:=eX (zAN 32 [[98,97,116,99,104],d1,d2,d3,[99,111,109,109,105,116],d5]);have hR:=so.rng;have hlen:(b.recs.length:Int)=(l.length:Int):=by rw[←hl,Jn]
 have hll:=so.llen hl;have r1:Rn b.base:=hR.1;have r2:Rn b.prod:=hR.2.2.2.2.2.1;have r3:Rn (l.length:Int):=by unfold Rn;omega
 have r5:=zEz he;have m1:=zAk _ r1;have m2:=zAk _ r2;have m3:=zAk _ r3;have m5:=zAk _ r5;rw[hd1]at m1;rw[hd2]at m2;rw[hd3]at m3;rw[hd5]at m5;have HT:=hQd ht
 have HTN:=hQd (show t++[10]=tl by
  rw[←ht,←htl];unfold zBn zLi;rw[zEk he hk1,hlen,hd1,hd2,hd3,hd5]
  rfl)
 have HTL:=hQd (show t.length≤1000000 by rw[←ht];simp only[zAN,Je,Jg,Jl];omega);have HWL:=hQd (show([[98,97,116,99,104],d1,d2,d3,[99,111,109,109,105,116],d5]:List Bs).length≤1000000 by simp);have HP:=hQd (show 0<4+2 by omega);have HRB:=hQd r1;have HRP:=hQd r2;have HRL:=hQd r3;have HR5:=hQd r5;have HD1:=hQd hd1;have HD2:=hQd hd2;have HD3:=hQd hd3;have HD5:=hQd hd5;have HL:=hQd hl;have HE:=hQd he;have HSO:=hQd so;have HK:=hQd hk;have HLIB:=hQd hlib;have KP:=hQd (show ∀(w':World) (L':List Res),St W0 w' K (.raw tb #[I O b.base,I O b.leader,U b.app,U b.txn,U b.ctl,I O b.last,I O b.first,I O b.maxt,I O b.prod,I O b.epoch,I O b.seq,Ja q l.length cap] 30::L')→(w'.cell? ⟨tb,0,none⟩=some (I O b.base)∧w'.cell? ⟨tb,8,none⟩=some (I O b.prod)∧w'.cell? ⟨tb,11,none⟩=some (Ja q l.length cap))from fun w' L' h'=>⟨h'.rawCell 0,h'.rawCell 8,h'.rawCell 11⟩);have e1:(n3==1)=true:=by rw[beq_iff_eq];exact hk1
 have H:=hQd g1;clear h g1 hlib hk hl he so htl hd1 hd2 hd3 hd5 ht hR hlen hll r1 r2 r3 r5 m1 m2 m3 m5 hk1;go_enter Tryz.func77,Tryz.ntmps77;go_upto_region 1 with fail;have hs:=H.out.drew;clear H;refine wp_region_held_drew (S:=fun w'=>w'.cell? ⟨tb,0,none⟩=some (I O b.base)∧w'.cell? ⟨tb,8,none⟩=some (I O b.prod)∧w'.cell? ⟨tb,11,none⟩=some (Ja q l.length cap)) kR (KP.out _ _ hs) (fun hHeld=> ?_);refine tR 0 ?_;refine tR 1 ?_;refine tR 3 ?_;refine tR 4 ?_;refine tR 6 ?_;refine tR 7 ?_;refine tR 8 ?_;refine wR [2] (rC rfl (fun KK hK=> ?_) rN);go_simp;go_at_call 37;with_reducible refine(zBL b.base HRB.out d1 HD1.out HLIB.out hs).mono ?_;rintro e wq ⟨rfl,hs⟩;refine zK hK (KP.out _ _ hs) (fun hHeld=> ?_);clear hK KK
 refine wR [5] (rC rfl (fun KK hK=> ?_) rN)
 ·go_simp;go_at_call 37;with_reducible refine(zBL b.prod HRP.out d2 HD2.out HLIB.out hs).mono ?_;rintro e wq ⟨rfl,hs⟩;refine zK hK (KP.out _ _ hs) (fun hHeld=> ?_);clear hK KK
  refine wR [9] (rC rfl (fun KK hK=> ?_) rN)
  ·go_simp;go_at_call 37;with_reducible refine(zBL (l.length:Int) HRL.out d3 HD3.out HLIB.out hs).mono ?_;rintro e wq ⟨rfl,hs⟩;refine zK hK (KP.out _ _ hs) (fun hHeld=> ?_);clear hK KK
   refine wR [10] (rC rfl (fun KK hK=> ?_) rN)
   ·rw[if_pos (by rfl)];refine zB6 (zDP _ _ _ _ kR (zMV ⟨#[98,97,116,99,104]⟩ (bb d1) (bb d2) (bb d3) _)) ?_;obtain⟨wy,nb,ey,eb,hs⟩:=hs.rowLitEx [Z ⟨#[98,97,116,99,104]⟩,Z (bb d1),Z (bb d2),Z (bb d3)] 9 1 4 rfl (by unfold maxLen;omega);rw[ey,eb];clear ey eb;refine zK hK (KP.out _ _ hs.p1) (fun hHeld=> ?_);clear hK KK
    refine tR 11 ?_;refine wpAnyH_done kR ?_ _;clear hHeld;obtain⟨y0,y1,y2,y3,y4,y5,y6,y7,y8,y9,y10,y11⟩:=uR12 hs.p1;simp at y0 y1 y2 y3 y4 y5 y6 y7 y8 y9 y10 y11;have H:=hQd hs;clear hs
    go_wp2_with (first
 |(go_at_call 108;(try clear y0 y1 y2 y3 y4 y5 y6 y7 y8 y9 y10 y11);(with_reducible refine(zHA b l q cap HL.out n1 n2 n3 n4 n5 _ HE.out HSO.out HK.out H.out).mono ?_);rintro e_ wn ⟨rfl,h⟩;obtain⟨eb,heb⟩:=eX wn.heap.size;have h:=h.allocRaw #[I O n1,I O n2,I O n3,I O n4,I O n5] 161;rw[heb]at h;have f2:=h.rawCell 2;have f4:=h.rawCell 4;simp at f2 f4;replace H:=hQd h;clear h)
 |(go_at_call 37;(with_reducible refine(zBL n5 HR5.out d5 HD5.out HLIB.out H.out).zM ?_);clear H;intro wn H)
 |(at_builtin;refine zGz rfl _ _ 69 rfl 9 Tryz.underlying69 zHR _ _ _ rfl H.out.p1 2 [Z ⟨#[99,111,109,109,105,116]⟩,Z (bb d5)] 9 zq44 rfl (by simp[Value.oneCell']) (by unfold maxLen;omega) oM ?_;intro v' w' h;obtain⟨wb2,cv2,hv⟩:=h.rowSlice oM;subst hv;replace H:=hQd h;clear h)
 |(go_at_call 36;(with_reducible refine(zJp [[98,97,116,99,104],d1,d2,d3,[99,111,109,109,105,116],d5] t tl wb2 (4+2) cv2 _ rfl rfl HP.out HWL.out HT.out HTN.out HTL.out H.out).zM ?_);clear H;intro wn H))
    go_ret;exact⟨rfl,H.out.drop.drop⟩
theorem zJo(b:BatS)(l:List (RecS×Value))(q:Option Addr)(cap:Nat)(hl:l.map (·.1)=b.recs)(n1 n2 n3 n4 n5:Int)(he:zCD b=(n1,n2,n3,n4,n5,true))(hk1:¬n3=1)(so:EncOk b)(tl:Bs)(htl:zBn b=tl)(hlib:K.has Know.lib)(hk:K.has (Know.recs (Ja q l.length cap) l))(h:St W0 w K L):
 Calls Jd 77 #[.agg #[I O b.base,I O b.leader,U b.app,U b.txn,U b.ctl,I O b.last,I O b.first,I O b.maxt,I O b.prod,I O b.epoch,I O b.seq,Ja q l.length cap]] w fun en w'=>en=Jb (Z (bb tl))∧St W0 w' K L:=by
 obtain⟨tb,htb⟩:=eX w.heap.size;have g1:=h.allocRaw #[I O b.base,I O b.leader,U b.app,U b.txn,U b.ctl,I O b.last,I O b.first,I O b.maxt,I O b.prod,I O b.epoch,I O b.seq,Ja q l.length cap] 30;rw[htb]at g1;obtain⟨d1,hd1⟩:=eX (numW b.base);obtain⟨d2,hd2⟩:=eX (numW b.prod);obtain⟨d3,hd3⟩:=eX (numW (l.length:Int));obtain⟨d5,hd5⟩:=eX (numW n5);obtain⟨t,ht⟩:=eX (zAN 32 [[98,97,116,99,104],d1,d2,d3,[97,98,111,114,116],d5]);have hR:=so.rng;have hlen:(b.recs.length:Int)=(l.length:Int):=by rw[←hl,Jn]
 have hll:=so.llen hl;have r1:Rn b.base:=hR.1;have r2:Rn b.prod:=hR.2.2.2.2.2.1;have r3:Rn (l.length:Int):=by unfold Rn;omega
 have r5:=zEz he;have m1:=zAk _ r1;have m2:=zAk _ r2;have m3:=zAk _ r3;have m5:=zAk _ r5;rw[hd1]at m1;rw[hd2]at m2;rw[hd3]at m3;rw[hd5]at m5;have HT:=hQd ht
 have HTN:=hQd (show t++[10]=tl by
  rw[←ht,←htl];unfold zBn zLi;rw[zFe he hk1,hlen,hd1,hd2,hd3,hd5]
  rfl)
 have HTL:=hQd (show t.length≤1000000 by rw[←ht];simp only[zAN,Je,Jg,Jl];omega);have HWL:=hQd (show([[98,97,116,99,104],d1,d2,d3,[97,98,111,114,116],d5]:List Bs).length≤1000000 by simp);have HP:=hQd (show 0<4+2 by omega);have HRB:=hQd r1;have HRP:=hQd r2;have HRL:=hQd r3;have HR5:=hQd r5;have HD1:=hQd hd1;have HD2:=hQd hd2;have HD3:=hQd hd3;have HD5:=hQd hd5;have HL:=hQd hl;have HE:=hQd he;have HSO:=hQd so;have HK:=hQd hk;have HLIB:=hQd hlib;have KP:=hQd (show ∀(w':World) (L':List Res),St W0 w' K (.raw tb #[I O b.base,I O b.leader,U b.app,U b.txn,U b.ctl,I O b.last,I O b.first,I O b.maxt,I O b.prod,I O b.epoch,I O b.seq,Ja q l.length cap] 30::L')→(w'.cell? ⟨tb,0,none⟩=some (I O b.base)∧w'.cell? ⟨tb,8,none⟩=some (I O b.prod)∧w'.cell? ⟨tb,11,none⟩=some (Ja q l.length cap))from fun w' L' h'=>⟨h'.rawCell 0,h'.rawCell 8,h'.rawCell 11⟩);have e1:(n3==1)=false:=by rw[beq_eq_false_iff_ne];exact hk1
 have H:=hQd g1;clear h g1 hlib hk hl he so htl hd1 hd2 hd3 hd5 ht hR hlen hll r1 r2 r3 r5 m1 m2 m3 m5 hk1;go_enter Tryz.func77,Tryz.ntmps77;go_upto_region 1 with fail;have hs:=H.out.drew;clear H;refine wp_region_held_drew (S:=fun w'=>w'.cell? ⟨tb,0,none⟩=some (I O b.base)∧w'.cell? ⟨tb,8,none⟩=some (I O b.prod)∧w'.cell? ⟨tb,11,none⟩=some (Ja q l.length cap)) kR (KP.out _ _ hs) (fun hHeld=> ?_);refine tR 0 ?_;refine tR 1 ?_;refine tR 3 ?_;refine tR 4 ?_;refine tR 6 ?_;refine tR 7 ?_;refine tR 8 ?_;refine wR [2] (rC rfl (fun KK hK=> ?_) rN);go_simp;go_at_call 37;with_reducible refine(zBL b.base HRB.out d1 HD1.out HLIB.out hs).mono ?_;rintro e wq ⟨rfl,hs⟩;refine zK hK (KP.out _ _ hs) (fun hHeld=> ?_);clear hK KK
 refine wR [5] (rC rfl (fun KK hK=> ?_) rN)
 ·go_simp;go_at_call 37;with_reducible refine(zBL b.prod HRP.out d2 HD2.out HLIB.out hs).mono ?_;rintro e wq ⟨rfl,hs⟩;refine zK hK (KP.out _ _ hs) (fun hHeld=> ?_);clear hK KK
  refine wR [9] (rC rfl (fun KK hK=> ?_) rN)
  ·go_simp;go_at_call 37;with_reducible refine(zBL (l.length:Int) HRL.out d3 HD3.out HLIB.out hs).mono ?_;rintro e wq ⟨rfl,hs⟩;refine zK hK (KP.out _ _ hs) (fun hHeld=> ?_);clear hK KK
   refine wR [10] (rC rfl (fun KK hK=> ?_) rN)
   ·rw[if_pos (by rfl)];refine zB6 (zDP _ _ _ _ kR (zMV ⟨#[98,97,116,99,104]⟩ (bb d1) (bb d2) (bb d3) _)) ?_;obtain⟨wy,nb,ey,eb,hs⟩:=hs.rowLitEx [Z ⟨#[98,97,116,99,104]⟩,Z (bb d1),Z (bb d2),Z (bb d3)] 9 1 4 rfl (by unfold maxLen;omega);rw[ey,eb];clear ey eb;refine zK hK (KP.out _ _ hs.p1) (fun hHeld=> ?_);clear hK KK
    refine tR 11 ?_;refine wpAnyH_done kR ?_ _;clear hHeld;obtain⟨y0,y1,y2,y3,y4,y5,y6,y7,y8,y9,y10,y11⟩:=uR12 hs.p1;simp at y0 y1 y2 y3 y4 y5 y6 y7 y8 y9 y10 y11;have H:=hQd hs;clear hs
    go_wp2_with (first
 |(go_at_call 108;(try clear y0 y1 y2 y3 y4 y5 y6 y7 y8 y9 y10 y11);(with_reducible refine(zHA b l q cap HL.out n1 n2 n3 n4 n5 _ HE.out HSO.out HK.out H.out).mono ?_);rintro e_ wn ⟨rfl,h⟩;obtain⟨eb,heb⟩:=eX wn.heap.size;have h:=h.allocRaw #[I O n1,I O n2,I O n3,I O n4,I O n5] 161;rw[heb]at h;have f2:=h.rawCell 2;have f4:=h.rawCell 4;simp at f2 f4;replace H:=hQd h;clear h)
 |(go_at_call 37;(with_reducible refine(zBL n5 HR5.out d5 HD5.out HLIB.out H.out).zM ?_);clear H;intro wn H)
 |(at_builtin;refine zGz rfl _ _ 69 rfl 9 Tryz.underlying69 zHR _ _ _ rfl H.out.p1 2 [Z ⟨#[97,98,111,114,116]⟩,Z (bb d5)] 9 zq44 rfl (by simp[Value.oneCell']) (by unfold maxLen;omega) oM ?_;intro v' w' h;obtain⟨wb2,cv2,hv⟩:=h.rowSlice oM;subst hv;replace H:=hQd h;clear h)
 |(go_at_call 36;(with_reducible refine(zJp [[98,97,116,99,104],d1,d2,d3,[97,98,111,114,116],d5] t tl wb2 (4+2) cv2 _ rfl rfl HP.out HWL.out HT.out HTN.out HTL.out H.out).zM ?_);clear H;intro wn H))
    go_ret;exact⟨rfl,H.out.drop.drop⟩
theorem zTz(b:BatS)(l:List (RecS×Value))(q:Option Addr)(cap:Nat)(hl:l.map (·.1)=b.recs)(so:EncOk b)(tl:Bs)(htl:zBn b=tl)(hlib:K.has Know.lib)(hk:K.has (Know.recs (Ja q l.length cap) l))(h:St W0 w K L):
 Calls Jd 77 #[.agg #[I O b.base,I O b.leader,U b.app,U b.txn,U b.ctl,I O b.last,I O b.first,I O b.maxt,I O b.prod,I O b.epoch,I O b.seq,Ja q l.length cap]] w fun en w'=>en=Jb (Z (bb tl))∧St W0 w' K L:=by
 obtain⟨⟨n1,n2,n3,n4,n5,ok⟩,he⟩:∃y,zCD b=y:=⟨_,rfl⟩
 cases ok with
 |false=>exact zKz b l q cap hl n1 n2 n3 n4 n5 he so tl htl hlib hk h
 |true=>
  by_cases hk1:n3=1
  ·exact zH7 b l q cap hl n1 n2 n3 n4 n5 he hk1 so tl htl hlib hk h
  ·exact zJo b l q cap hl n1 n2 n3 n4 n5 he hk1 so tl htl hlib hk h
variable {W0 w:World}{K:Know}{L:List Res}
theorem zIo(b:BatS)(l:List (RecS×Value))(q:Option Addr)(cap:Nat)(hl:l.map (·.1)=b.recs)(so:EncOk b)(hk:K.has (Know.recs (Ja q l.length cap) l))(h:St W0 w K L):
 Calls Jd 48 #[.agg #[I O b.base,I O b.leader,U b.app,U b.txn,U b.ctl,I O b.last,I O b.first,I O b.maxt,I O b.prod,I O b.epoch,I O b.seq,Ja q l.length cap]] w fun en w'=>en=Jb (.tuple #[Z (bb b.enc),I O 0])∧St W0 w' K L:=by
 have hrow:=so.rows;have hlen:=so.len;have hcr:=b.crc_lt;have hml:l.length=b.recs.length:=by rw[←hl,Jn]
 have f0:=BatS.fitsAll so.err so.rng 0 dD oM oM;have f1:=BatS.fitsAll so.err so.rng b.crc oM oM oM;have r0:=BatS.pre_R so.err so.rng 0 dD oM oM;have r1:=BatS.pre_R so.err so.rng b.crc oM oM oM;have hmx:b.first≤9223372036854775807:=by have:=so.rng.2.2.2.1.2;omega
 have e0:b.pre 0=(⟨b.base,49+(b.rowsB.length:Int),b.leader,0,zAI b.app b.txn b.ctl 3,b.last,b.first,b.maxt,b.prod,b.epoch,b.seq,(l.length:Int)⟩:PreS):=by unfold BatS.pre;rw[hml]
 have e1:b.pre b.crc=(⟨b.base,49+(b.rowsB.length:Int),b.leader,(b.crc:Int),zAI b.app b.txn b.ctl 3,b.last,b.first,b.maxt,b.prod,b.epoch,b.seq,(l.length:Int)⟩:PreS):=by unfold BatS.pre;rw[hml]
 have i0:=zCw f0;have i1:=zCw f1;have hd0:=b.pre_drop 0;have l0:=zAY (b.pre 0);have l1:=zAY (b.pre b.crc);have he:zAh ⟨b.base,b.leader,b.app,b.txn,b.ctl,b.last,b.first,b.maxt,b.prod,b.epoch,b.seq,l.map (·.1)⟩=0:=by rw[hl];exact so.err
 have hrc:zCl (l.map (·.1))=0:=by rw[hl];exact(zB4 so.err).2.2.2
 have hrw:zA5 l=b.rowsB:=by rw[zCE,hl];rfl
 have hfb:FitB l:=so.fit hl;have hall:zAj (b.pre b.crc).items++b.rowsB=b.enc:=rfl;have hx:(zAq 0#32 ((zAj (b.pre 0).items).drop 21++b.rowsB)).toNat=b.crc:=by rw[hd0];rfl
 rw[e0]at r0 i0;rw[e1]at r1 i1;obtain⟨s0,hs0⟩:=eX (zAj (b.pre 0).items);obtain⟨s1,hs1⟩:=eX (zAj (b.pre b.crc).items);have g0:zAj (⟨b.base,49+(b.rowsB.length:Int),b.leader,0,zAI b.app b.txn b.ctl 3,b.last,b.first,b.maxt,b.prod,b.epoch,b.seq,(l.length:Int)⟩:PreS).items=s0:=e0 ▸ hs0;have g1:zAj (⟨b.base,49+(b.rowsB.length:Int),b.leader,(b.crc:Int),zAI b.app b.txn b.ctl 3,b.last,b.first,b.maxt,b.prod,b.epoch,b.seq,(l.length:Int)⟩:PreS).items=s1:=e1 ▸ hs1;rw[g0]at i0;rw[g1]at i1;rw[hs0]at hx l0;rw[hs1]at hall l1;exact zDt b.base b.leader b.app b.txn b.ctl b.last b.first b.maxt b.prod b.epoch b.seq l q cap he hmx hfb oM b.rowsB s0 s1 b.enc b.crc (zAI b.app b.txn b.ctl 3) hrc hrw oM rfl r0 r1 i0 i1 l0 l1 hx hall hk h
theorem zKc(b:BatS)(l:List (RecS×Value))(q:Option Addr)(cap:Nat)(hl:l.map (·.1)=b.recs)(s:Bs)(hs:b.enc=s)(so:EncOk b)(hk:K.has (Know.recs (Ja q l.length cap) l))(h:St W0 w K L):
 Calls Jd 48 #[.agg #[I O b.base,I O b.leader,U b.app,U b.txn,U b.ctl,I O b.last,I O b.first,I O b.maxt,I O b.prod,I O b.epoch,I O b.seq,Ja q l.length cap]] w fun en w'=>en=Jb (.tuple #[Z (bb s),I O 0])∧St W0 w' K L:=by
 subst hs;exact zIo b l q cap hl so hk h
theorem zN0(b:BatS)(l:List (RecS×Value))(q:Option Addr)(cap:Nat)(hl:l.map (·.1)=b.recs)(so:EncOk b)(hk:K.has (Know.recs (Ja q l.length cap) l))(h:St W0 w K L):
 Calls Jd 109 #[.agg #[I O b.base,I O b.leader,U b.app,U b.txn,U b.ctl,I O b.last,I O b.first,I O b.maxt,I O b.prod,I O b.epoch,I O b.seq,Ja q l.length cap]] w fun en w'=>∃x y:Nat,en=Jb (.complex .f64 x y)∧FI x (ptP b)∧FI y (ptQ b)∧St W0 w' K L:=by
 have H:=hQd (h.allocRaw #[I O b.base,I O b.leader,U b.app,U b.txn,U b.ctl,I O b.last,I O b.first,I O b.maxt,I O b.prod,I O b.epoch,I O b.seq,Ja q l.length cap] 30);have HK:=hQd hk;have HL:=hQd hl;have HSO:=hQd so;obtain⟨s,hs⟩:=eX b.enc;have HS:=hQd hs;have hp:ptP b=(s.length:Int):=by unfold ptP;rw[if_pos so.err,hs]
 have hq:ptQ b=(l.length:Int):=by unfold ptQ;rw[if_pos so.err];exact zNv hl
 rw[hp,hq];have hw1:Wh (s.length:Int):=by have:=so.elen;rw[hs]at this;unfold Wh;omega
 have hw2:Wh (l.length:Int):=by have h1:=so.len;have h2:=zNv hl;unfold Wh;omega
 have F1:=hQd (FI.conv _ hw1);have F2:=hQd (FI.conv _ hw2);clear h hk hl so hs hp hq hw1 hw2;go_enter Tryz.func109,Tryz.ntmps109;go_wp2_with (go_at_call 48;(with_reducible refine(zKc b l q cap HL.out s HS.out HSO.out HK.out H.out).mono ?_);rintro e_ wn ⟨rfl,h⟩;have c11:=h.rawCell 11;simp at c11;replace H:=hQd h;clear h);go_ret;exact⟨_,_,rfl,F1.out,F2.out,H.out.drop⟩
theorem y1{p:Prop}(h:p:=by
  obtain⟨b0,off,hqq⟩:=zCW HK.out H.out oM;subst hqq;obtain⟨x,hx⟩:=eX (l[k]);have hmem:x∈l:=hx ▸ Jp hlt;have hxk:=zBC HK.out hmem;have hcell:=zBW HK.out H.out k hlt x hx;obtain⟨st1,st2,st3⟩:=zTl l k hlt x hx;have hfit:=HS.out x hmem;obtain⟨b,xl,xq,xcap⟩:=x;obtain⟨c0,c1,c2,c3,c4,c5,c6,c7,c8,c9,c10,c11⟩:wr.cell? ⟨b0,off+k*12,none⟩=some (I O b.base)∧wr.cell? ⟨b0,off+k*12+1,none⟩=some (I O b.leader)∧wr.cell? ⟨b0,off+k*12+2,none⟩=some (U b.app)∧wr.cell? ⟨b0,off+k*12+3,none⟩=some (U b.txn)∧wr.cell? ⟨b0,off+k*12+4,none⟩=some (U b.ctl)∧wr.cell? ⟨b0,off+k*12+5,none⟩=some (I O b.last)∧wr.cell? ⟨b0,off+k*12+6,none⟩=some (I O b.first)∧wr.cell? ⟨b0,off+k*12+7,none⟩=some (I O b.maxt)∧wr.cell? ⟨b0,off+k*12+8,none⟩=some (I O b.prod)∧wr.cell? ⟨b0,off+k*12+9,none⟩=some (I O b.epoch)∧wr.cell? ⟨b0,off+k*12+10,none⟩=some (I O b.seq)∧wr.cell? ⟨b0,off+k*12+11,none⟩=some (Ja xq xl.length xcap):=hcell;have HXK:=hQd (show K.has (Know.recs (Ja xq xl.length xcap) xl)from hxk);have hkn:(k:Int)<(l.length:Int):=by omega
  obtain⟨tb,htb⟩:=eX wr.heap.size;have h:=H.out.allocRaw #[I O b.base,I O b.leader,U b.app,U b.txn,U b.ctl,I O b.last,I O b.first,I O b.maxt,I O b.prod,I O b.epoch,I O b.seq,Ja xq xl.length xcap] 30;rw[htb]at h;obtain⟨d0,d1,d2,d3,d4,d5,d6,d7,d8,d9,d10,d11⟩:=uR12 h;simp at d0 d1 d2 d3 d4 d5 d6 d7 d8 d9 d10 d11;clear H;have H:=hQd h;have HXL:=hQd (show xl.map (·.1)=b.recs from hfit.1);have HSO:=hQd (show EncOk b from hfit.2);have hrg:=zPL (l.take (k+1)) (fun y hy=>HS.out y (List.mem_of_mem_take hy));have hlen:(l.take (k+1)).length≤2000:=by rw[Jk];omega
  have S1:=hQd st1;have S2:=hQd st2;have WX:=hQd (show Wh (sP (l.take k)+ptP b) by have h1:sP (l.take (k+1))=sP (l.take k)+ptP b:=st1;rw[←h1];unfold Wh;omega);have WY:=hQd (show Wh (sQ (l.take k)+ptQ b) by have h1:sQ (l.take (k+1))=sQ (l.take k)+ptQ b:=st2;rw[←h1];unfold Wh;omega);clear h hx hmem hxk st1 st2 st3 hfit hrg hlen;go_wp2_with (go_at_call 109;(with_reducible refine(zN0 b xl xq xcap HXL.out HSO.out HXK.out H.out).mono ?_);rintro e_ wn ⟨x2,y2,rfl,hx2,hy2,h⟩;obtain⟨x3,ex,fx⟩:=FI.add FX.out hx2 WX.out;obtain⟨y3,ey,fy⟩:=FI.add FY.out hy2 WY.out;have hadd:=zRU 117 ex ey;have FX3:=hQd fx;have FY3:=hQd fy;clear ex ey fx fy hx2 hy2;replace H:=hQd h;clear h);go_roundw
  case rel=>exact⟨k+1,x3,y3,hlt,by go_num,rfl,hQd (by rw[S1.out];exact FX3.out),hQd (by rw[S2.out];exact FY3.out),H.out.drop⟩
  case measure=>first|(simp[intOf];done)|(simp[intOf];omega)):p:=h
theorem zNZ(l:List BatR)(q:Option Addr)(cap:Nat)(hs:∀x∈l,OkB x)(hn:l.length≤2000)(hk:K.has (Know.bats (Ja q l.length cap) l))(h:St W0 w K L):
 Calls Jd 78 #[Ja q l.length cap] w fun en w'=>∃x y:Nat,en=Jb (.complex .f64 x y)∧FI x (sP l)∧FI y (sQ l)∧St W0 w' K L:=by
 have H:=hQd h;have HK:=hQd hk;have HS:=hQd hs;have hni:(l.length:Int)≤2000:=by omega
 clear h hk hs;go_enter Tryz.func78,Tryz.ntmps78;go_wp2;go_loopw [3,5,8] (fun sv _ iv wr=>∃(k X Y:Nat),k≤l.length∧iv=I O k∧sv=.complex .f64 X Y∧Hid (FI X (sP (l.take k)))∧Hid (FI Y (sQ (l.take k)))∧St W0 wr K L) (fun _ _ iv _=>l.length - (intOf iv).toNat)
 case atStart=>exact⟨0,0,0,Ji _,rfl,rfl,hQd FI.zero,hQd FI.zero,H.out⟩
 case round=>
  obtain⟨k,X,Y,hkl,rfl,rfl,FX,FY,hst⟩:=hrel;clear H;have H:=hQd hst;clear hst
  by_cases hlt:k<l.length
  ·as_aux_lemma=>
   exact y1
  ·obtain rfl:k=l.length:=by omega
   have e:=List.take_length (l:=l);have h1:=FX.out;have h2:=FY.out;rw[e]at h1 h2;have FX2:=hQd h1;have FY2:=hQd h2;clear h1 h2 e;go_wp2;go_ret;exact⟨X,Y,rfl,FX2.out,FY2.out,H.out⟩
set_option maxHeartbeats 16000000
theorem zTt(l:List Bs)(A:Bs)(hA:l.flatten=A)(bs:List BatS)(pv:Nat)(rest:Bs)(pe ps:Int)(hf:finS A=(bs,pv,rest,pe))(hps:zCP rest pe=ps)(hl:A.length≤90000)(hok:∀b∈bs,EncOk b)(hbl:bs.length≤900)(hrv:Rn (pv:Nat))(hre:Rn pe)(T:Bs)(hT:zPo bs (pv:Nat) ps pe=T)(q:Option Addr)(cap:Nat)(hll:l.length≤1000000){W0 w:World}{K:Know}{L:List Res}(hlib:K.has Know.lib)(hk:K.has (Know.strs (Ja q l.length cap) l))(h:St W0 w K L):
  Calls Jd 38 #[Ja q l.length cap] w fun en w'=>en=Jb (Z (bb T))∧St W0 w' K L:=by
 have hsm:=zJh bs hok;have hp0:Rn (sumE bs):=by unfold Rn;omega
 have hq0:Rn (sumR bs):=by unfold Rn;omega
 have hTl:T.length≤1000000:=by rw[←hT];exact zKk bs _ ps pe hok hbl hrv hre hp0 hq0
 have hTn:T≠[]:=by
  rw[←hT];unfold zPo totT;simp[zAN]
 obtain⟨P,hP⟩:=eX (sumE bs);obtain⟨Q,hQ⟩:=eX (sumR bs);obtain⟨tl,htl⟩:=eX (totT P Q);obtain⟨tn,htn⟩:=eX (endT (pv:Nat) ps pe);obtain⟨d1,hd1⟩:=eX (numW P);obtain⟨d2,hd2⟩:=eX (numW Q);obtain⟨tt,htt⟩:=eX (zAN 32 [[116,111,116,97,108],d1,d2]);have hT2:bs.flatMap zBn++(tl++tn)=T:=by rw[←hT,←htl,←htn,←hP,←hQ];rfl
 have htt2:tt++[10]=tl:=by rw[←htt,←htl,←hd1,←hd2];rfl
 have hl1:=congrArg Jh hT2;have hl2:=congrArg Jh htt2;simp only[Je,Jg,Jl]at hl1 hl2;have H:=hQd h;have HLIB:=hQd hlib;have HK:=hQd hk;have HA:=hQd hA;have HF:=hQd hf;have HPS:=hQd hps;have HAL:=hQd hl;have HLL:=hQd hll;have HBO:=hQd hok;have HBL:=hQd hbl;have HRV:=hQd hrv;have HRE:=hQd hre;have HT2:=hQd hT2;have HTL:=hQd hTl;have HTN0:=hQd hTn;have HTT:=hQd htt;have HTN:=hQd htt2;have HTE:=hQd htn;have HTTL:=hQd (show tt.length≤1000000 by omega);have HWL:=hQd (show([[116,111,116,97,108],d1,d2]:List Bs).length≤1000000 by simp);have HPQ0:=hQd (show sumE bs=P∧sumR bs=Q from⟨hP,hQ⟩);have HRP:=hQd (show Rn P by rw[←hP];exact hp0);have HRQ:=hQd (show Rn Q by rw[←hQ];exact hq0);have HWP:=hQd (show Wh P by rw[←hP];unfold Wh;omega);have HWQ:=hQd (show Wh Q by rw[←hQ];unfold Wh;omega);have HD1:=hQd hd1;have HD2:=hQd hd2;have t1:True:=trivial;have t2:True:=trivial;clear h hlib hk hA hf hps hl hll hok hbl hrv hre hT hT2 hTl hTn hP hQ htl htn hd1 hd2 htt htt2 hl1 hl2 hp0 hq0 hsm;go_enter Tryz.func38,Tryz.ntmps38;go_wp2_with (go_at_call 75;(with_reducible refine(zRT l A HA.out bs pv rest pe ps HF.out HPS.out HAL.out q cap HLL.out HK.out H.out).mono ?_);rintro e_ wn ⟨q2,cap2,lr,rfl,hb2,hlite,hl61,hq2,h⟩;have HB2:=hQd hb2;have HLI:=hQd hlite;clear hb2 hlite hl61 hq2;obtain⟨eb,heb⟩:=eX wn.heap.size;have h:=h.allocRaw #[I O (pv:Nat),I O ps,I O pe] 112;rw[heb]at h;obtain⟨sb,hsb⟩:=eX (eb+1);have h:=h.sbNew;simp only[World.size_alloc,heb,hsb]at h;replace H:=hQd h;clear h);have HOK:=hQd (show ∀x∈lr,OkB x from fun x hx=>⟨(HLI.out x hx).1,HBO.out x.b (by rw[←HB2.out];exact List.mem_map.2 ⟨x,hx,rfl⟩)⟩);have HLR:=hQd (show lr.length≤2000 by have h9:=congrArg Jh HB2.out;rw[Jn]at h9;have:=HBL.out;omega);have hlri:(lr.length:Int)≤2000:=by have:=HLR.out;omega
 have HPQ:=hQd (show sP lr=P∧sQ lr=Q by obtain⟨a,c⟩:=zSY lr HOK.out;rw[a,c,HB2.out];exact HPQ0.out);have HLIB2:=hQd (Know.has_left (b:=Know.bats (Ja q2 lr.length cap2) lr) HLIB.out);have HKB:=hQd (Know.has_right (a:=K) (Know.has_refl (Know.bats (Ja q2 lr.length cap2) lr)))
 have HS0:=hQd (show[]++((lr.drop 0).flatMap (fun x:BatR=>zBn x.b)++(tl++tn))=T by
  have e:lr.flatMap (fun x:BatR=>zBn x.b)=bs.flatMap zBn:=by rw[←HB2.out,List.flatMap_map]
  rw[List.drop_zero,e];exact HT2.out)
 go_loopw [16] (fun iv wr=>∃(k:Nat) (E:Bs),k≤lr.length∧iv=I O k∧Hid (E++((lr.drop k).flatMap (fun x:BatR=>zBn x.b)++(tl++tn))=T)∧St W0 wr (K.and (Know.bats (Ja q2 lr.length cap2) lr)) (.gen (sbG sb E)::.raw eb #[I O (pv:Nat),I O ps,I O pe] 112::L)) (fun iv _=>lr.length - (intOf iv).toNat)
 case atStart=>exact⟨0,[],Ji _,rfl,HS0,H.out⟩
 case round=>
  obtain⟨k,E,hk',rfl,HE,hst⟩:=hrel;clear H;have H:=hQd hst;clear hst
  by_cases hk:k<lr.length
  · obtain⟨bk,off,hqq⟩:=zCW HKB.out H.out oM;subst hqq;obtain⟨x,hx⟩:=eX (lr[k]);have hmem:x∈lr:=hx ▸ Jp hk;have hxk:=zBC HKB.out hmem;have cc:=zBW HKB.out H.out k hk x hx;have hox:=HOK.out x hmem;obtain⟨t,ht⟩:=eX (zBn x.b);obtain⟨E2,hE2⟩:=eX (E++t)
    have hE3:E2++((lr.drop (k+1)).flatMap (fun x:BatR=>zBn x.b)++(tl++tn))=T:=by
     rw[←HE.out,zCC (fun x:BatR=>zBn x.b) lr k hk x hx,←hE2,←ht];simp only[List.append_assoc]
    have hle:=zBG hE3 HTL.out;have hle2:=congrArg Jh hE2;rw[Je]at hle2;obtain⟨b,xl,xq,xcap⟩:=x;obtain⟨c0,c1,c2,c3,c4,c5,c6,c7,c8,c9,c10,c11⟩:=cc;have HXL:=hQd (show xl.map (·.1)=b.recs from hox.1);have HSO:=hQd (show EncOk b from hox.2);have HXK:=hQd (show Know.has _ (Know.recs (Ja xq xl.length xcap) xl)from hxk);have HT:=hQd (show zBn b=t from ht);have HE2:=hQd hE2;have HE3:=hQd (hQd hE3);have HS1:=hQd (show E.length+t.length≤1000000000000 by omega);obtain⟨tb,htb⟩:=eX wr.heap.size;have g1:=H.out.allocRaw #[I O b.base,I O b.leader,U b.app,U b.txn,U b.ctl,I O b.last,I O b.first,I O b.maxt,I O b.prod,I O b.epoch,I O b.seq,Ja xq xl.length xcap] 30;rw[htb]at g1;obtain⟨y0,y1,y2,y3,y4,y5,y6,y7,y8,y9,y10,y11⟩:=uR12 g1;simp at y0 y1 y2 y3 y4 y5 y6 y7 y8 y9 y10 y11;have hki:(k:Int)<(lr.length:Int):=by omega
    clear H hxk hmem hox hx ht hE2 hE3 hle hle2;have H:=hQd g1;clear g1
    go_wp2_with (first
  |(go_at_call 77;(with_reducible refine(zTz b xl xq xcap HXL.out HSO.out t HT.out HLIB2.out HXK.out H.out).mono ?_);rintro e_ wn ⟨rfl,h⟩;have h:=h.p1;replace H:=hQd h;clear h)
  |(go_at_call 76;(with_reducible refine(zPI sb E t HS1.out H.out).mono ?_);rintro e_ wn ⟨rfl,h⟩;rw[HE2.out]at h;replace H:=hQd h;clear h))
    go_roundw
    case rel=>exact⟨k+1,E2,hk,by go_num,HE3.out,H.out.p1.drop⟩
    case measure=>first|(simp[intOf];done)|(simp[intOf];omega)
  · have hq1:k=lr.length:=by omega
    have h9:E++(tl++tn)=T:=by have h9:=HE.out;rw[hq1,List.drop_length]at h9;exact h9
    obtain⟨E3,hE3⟩:=eX (E++tl);have h8:E3++tn=T:=by rw[←hE3,List.append_assoc];exact h9
    have l9:=congrArg Jh h9;have l8:=congrArg Jh hE3;have l7:=HTL.out;simp only[Je]at l9 l8;have HE3:=hQd hE3;have HE4:=hQd h8;have HS2:=hQd (show E.length+tl.length≤1000000000000 by omega);have HS3:=hQd (show E3.length+tn.length≤1000000000000 by omega);have hki:¬((k:Int)<(lr.length:Int)):=by omega
    clear h9 h8 l9 l8 l7 hE3 hq1
    go_wp2_with (first
  |(go_at_call 78;(with_reducible refine(zNZ lr q2 cap2 HOK.out HLR.out HKB.out H.out).mono ?_);rintro e_ wn ⟨X,Y,rfl,fx,fy,h⟩;rw[HPQ.out.1]at fx;rw[HPQ.out.2]at fy;have cx:=convR X P fx HWP.out;have cy:=convR Y Q fy HWQ.out;clear fx fy;replace H:=hQd h;clear h)
  |(go_at_call 37;have _t:=t1;clear _t;(with_reducible refine(zBL P HRP.out d1 HD1.out HLIB2.out H.out).zM ?_);clear H;intro wn H;clear t1)
  |(go_at_call 37;(with_reducible refine(zBL Q HRQ.out d2 HD2.out HLIB2.out H.out).zM ?_);clear H;intro wn H)
  |(go_at_call 36;have h0:=H.out.allocRaw #[Z ⟨#[116,111,116,97,108]⟩,Z (bb d1),Z (bb d2)] 9;(with_reducible refine(zDc [[116,111,116,97,108],d1,d2] tt tl _ 3 _ rfl rfl HWL.out HTT.out HTN.out HTTL.out h0).zM ?_);clear H;intro wn H)
  |(go_at_call 76;have _t:=t2;clear _t;(with_reducible refine(zPI sb E tl HS2.out H.out).mono ?_);rintro e_ wn ⟨rfl,h⟩;rw[HE3.out]at h;obtain⟨z0,z1,z2⟩:=uR3 h.p1;simp at z0 z1 z2;replace H:=hQd h;clear h;clear t2)
  |(go_at_call 79;(with_reducible refine(rp_end (pv:Nat) ps pe HRV.out HRE.out tn HTE.out HLIB2.out H.out).zM ?_);clear H;intro wn H)
  |(go_at_call 76;(with_reducible refine(zPI sb E3 tn HS3.out H.out).mono ?_);rintro e_ wn ⟨rfl,h⟩;rw[HE4.out]at h;replace H:=hQd h;clear h)
  |(go_at_call 47;(with_reducible refine(zPH sb T HTN0.out H.out).zM ?_);clear H;intro wn H))
    go_ret;exact⟨rfl,(H.out.drop).know (Know.has_left (Know.has_refl _))⟩
def kOf (n:Int) (s:Bs):Nat:=(min (max n 0) (s.length:Int)).toNat
def cutN (s:Bs):List Int→List Bs
 |[]=>[s]
 |n::t=>s.take (kOf n s)::cutN (s.drop (kOf n s)) t
theorem zE4:∀(ns:List Int) (s:Bs),(cutN s ns).flatten=s
 |[],s=>by simp[cutN]
 |n::t,s=>by rw[cutN,List.flatten_cons,zE4 t,List.take_append_drop]
theorem zNO:∀(ns:List Int) (s:Bs),(cutN s ns).length=ns.length+1
 |[],s=>rfl
 |n::t,s=>by rw[cutN,Jg,zNO t,Jg]
theorem zEG(s0:Bs)(ns:List Int)(hs0:s0.length≤1000000)(hns:∀x∈ns,Rn x)(hnl:ns.length≤1000)(q:Option Addr)(cap:Nat){W0 w:World}{K:Know}{L:List Res}(hk:K.has (Know.flat RInt (Ja q ns.length cap) 1 ns))(h:St W0 w K L):
 Calls Jd 39 #[Z (bb s0),Ja q ns.length cap] w fun en w'=>∃(q2:Option Addr) (cap2:Nat),en=Jb (Ja q2 (cutN s0 ns).length cap2)∧St W0 w' (K.and (Know.strs (Ja q2 (cutN s0 ns).length cap2) (cutN s0 ns))) L:=by
 have H:=hQd h;have HK:=hQd hk;have HNS:=hQd hns;have HNL:=hQd hnl;have HS0:=hQd hs0;have hni:(ns.length:Int)≤1000:=by omega
 clear h hk hns hs0 hnl;go_enter Tryz.func39,Tryz.ntmps39;go_wp2_with fail;go_loopw [0,5,7,8,11] (fun sv ov _ _ iv wr=>∃(k:Nat) (acc:List Bs) (s:Bs),k≤ns.length∧iv=I O k∧sv=Z (bb s)∧Hid (acc.length=k)∧Hid (acc++cutN s (ns.drop k)=cutN s0 ns)∧Hid (s.length≤s0.length)∧St W0 wr K (.row ov 9 1 acc.length (acc.flatMap zN7)::L)) (fun _ _ _ _ iv _=>ns.length - (intOf iv).toNat)
 case atStart=>exact⟨0,[],s0,Ji _,rfl,rfl,hQd rfl,hQd (by rw[List.drop_zero];rfl),hQd (Jo _),H.out.nilRow 9 1⟩
 case round=>
  obtain⟨k,acc,s,hkl,rfl,rfl,HAL,HEQ,HSL,hst⟩:=hrel;clear H;obtain⟨qv,cv,hv⟩:=hst.rowAny;subst hv;have H:=hQd hst;clear hst;have HAB:=hQd (show acc.length≤1000 by have:=HAL.out;have:=HNL.out;omega);have hsl:(s.length:Int)≤1000000:=by have:=HSL.out;have:=HS0.out;omega
  by_cases hlt:k<ns.length
  ·obtain⟨b0,off,hqq⟩:=zLk HK.out H.out oM;subst hqq;obtain⟨x,hx⟩:=eX (ns[k]);have c0:=zIy HK.out H.out k hlt x hx;have hxr:=HNS.out x (hx ▸ Jp hlt);unfold Rn at hxr;have hkn:(k:Int)<(ns.length:Int):=by omega
   have HNX:=hQd (show(acc++[s.take (kOf x s)])++cutN (s.drop (kOf x s)) (ns.drop (k+1))=cutN s0 ns by
    rw[←HEQ.out,List.drop_eq_getElem_cons hlt,hx,cutN,List.append_assoc];rfl)
   have HSD:=hQd (show(s.drop (kOf x s)).length≤s0.length by rw[Jf];have:=HSL.out;omega);have HDR:=hQd (show Jq (s.length - (min (max x 0) (s.length:Int)).toNat) (s.drop (min (max x 0) (s.length:Int)).toNat)=s.drop (min (max x 0) (s.length:Int)).toNat from Jj zq38);have hm0:0≤min (max x 0) (s.length:Int):=by omega
   have hm1:min (max x 0) (s.length:Int)≤(s.length:Int):=by omega
   have hm2:(min (max x 0) (s.length:Int)).toNat≤s.length:=by omega
   unfold kOf at HNX HSD;clear hx;go_wp2_with (at_builtin;refine zAC rfl _ _ 69 rfl 9 Tryz.underlying69 zLr _ _ _ rfl H.out [Z (bb (s.take (min (max x 0) (s.length:Int)).toNat))] 9 rfl rfl (by simp[Value.oneCell']) (by have:=HAB.out;unfold maxLen;omega) (by have:=HAB.out;omega) ?_;intro v' w' h;replace H:=hQd h;clear h);go_roundw
   case rel=>exact⟨k+1,acc++[s.take (min (max x 0) (s.length:Int)).toNat],s.drop (min (max x 0) (s.length:Int)).toNat,hlt,by go_num,by first|rfl|(rw[HDR.out])|(simp only[HDR.out]),hQd (by rw[Je,HAL.out];rfl),hQd HNX.out,hQd HSD.out,by rw[Je,List.flatMap_append];exact H.out⟩
   case measure=>first|(simp[intOf];done)|(simp[intOf];omega)
  ·obtain rfl:k=ns.length:=by omega
   have HEND:=hQd (show acc++[s]=cutN s0 ns by have:=HEQ.out;rw[List.drop_length]at this;exact this);go_wp2_with (at_builtin;refine zAC rfl _ _ 69 rfl 9 Tryz.underlying69 zLr _ _ _ rfl H.out [Z (bb (s))] 9 rfl rfl (by simp[Value.oneCell']) (by have:=HAB.out;unfold maxLen;omega) (by have:=HAB.out;omega) ?_;intro v' w' h;replace H:=hQd h;clear h);have h3:=H.out;rw[show acc.length+1=(acc++[s]).length by rw[Je];rfl,show acc.flatMap zN7++[Value.string (bb s)]=(acc++[s]).flatMap zN7 by rw[List.flatMap_append];rfl]at h3;obtain⟨q2,cap2,hv⟩:=h3.rowAny;subst hv;have h4:=h3.freezeTexts;rw[HEND.out]at h4;go_ret;exact⟨q2,cap2,by rw[←HEND.out,Je];rfl,h4⟩
variable {W0 w:World}{K:Know}{L:List Res}
theorem zQQ(K:Know):K.has (Know.flat RInt (Ja none 0 0) 1 ([]:List Int)):=fun _ _ _=>⟨none,0,rfl,fun h0=>absurd h0 sM⟩
theorem zPG(s d:Bs)(ok:Bool)(hv:hexV s=(d,ok))(hs:s.length≤1000000)(h:St W0 w K L):
 Calls Jd 18 #[Z (bb s)] w fun en w'=>en=Jb (.tuple #[Z (bb d),U ok])∧St W0 w' K L:=by
 refine(zJm s hs h).mono ?_;rw[hv];rintro en w' ⟨rfl,h2⟩;exact⟨rfl,h2⟩
theorem zGp{A T:Bs}{bs:List BatS}{pv:Nat}{rest:Bs}{pe ps:Int}(tk:ToldOk A T bs pv rest pe ps)(l:List Bs)(hA:l.flatten=A)(q:Option Addr)(cap:Nat)(hll:l.length≤1000000)(hlib:K.has Know.lib)(hk:K.has (Know.strs (Ja q l.length cap) l))(h:St W0 w K L):
 Calls Jd 38 #[Ja q l.length cap] w fun en w'=>en=Jb (Z (bb T))∧St W0 w' K L:=
 zTt l A hA bs pv rest pe ps tk.fin tk.stop tk.len tk.ok tk.blen tk.rv tk.re T tk.txt q cap hll hlib hk h
theorem zPS(word d:Bs)(hw:hexV word=(d,false))(hwl:word.length≤1000000)(v:Value)(h:St W0 w K L):
 Calls Jd 16 #[Z (bb word),v] w fun en w'=>en=Jb (Z ⟨#[110,111,110,101,10]⟩)∧St W0 w' K L:=by
 have H:=hQd h;have HW:=hQd hw;have HWL:=hQd hwl;clear h hw hwl;go_enter Tryz.func16,Tryz.ntmps16
 go_wp2_with (first
  |(go_at_call 18;(with_reducible refine(zPG word d false HW.out HWL.out H.out).zM ?_);clear H;intro wn H)
  |(go_at_call 36;have h0:=H.out.allocRaw #[Z ⟨#[110,111,110,101]⟩] 9;(with_reducible refine(zDc [[110,111,110,101]] [110,111,110,101] [110,111,110,101,10] _ 1 _ rfl rfl dD rfl rfl dD h0).zM ?_);clear H;intro wn H))
 go_ret;exact⟨rfl,H.out⟩
theorem zq26{p:Prop}(h:p:=by go_ret;exact⟨rfl,H.out.drop.know (Know.has_left (Know.has_refl _))⟩):p:=h
theorem y3{p:Prop}(h:p:=by
  go_wp2_with (first
   |(go_at_call 19;(with_reducible refine(zM2 lb qb bcap A0 0 HAB.out HFI.out HSM.out HLL.out HKB.out H.out).mono ?_);rintro e_ wn ⟨rfl,h⟩;obtain⟨z0,z1,z2⟩:=uR3 h;simp at z0 z1 z2;replace H:=hQd h;clear h)
   |(go_at_call 39;(with_reducible refine(zEG A0 ch HAL.out HNS.out HNL.out q cap HKC.out H.out).mono ?_);rintro e_ wn ⟨q2,cap2,rfl,h⟩;replace H:=hQd h;clear h)
   |(go_at_call 38;(with_reducible refine(zGp HTK.out (cutN A0 ch) (zE4 ch A0) q2 cap2 HCL.out (Know.has_left HLIB.out) (Know.has_right (Know.has_refl _)) H.out).zM ?_);clear H;intro wn H))
  exact zq26):p:=h
theorem zTv(lb:List BatR)(hs:∀x∈lb,SmB x)(he:∀x∈lb,zAh x.b=0)(hl8:lb.length≤8)(A0:Bs)(hA0:encB lb=A0)(c:Int)(hc:Rn c)(ch:List Int)(hch:∀x∈ch,Rn x)(hcl:ch.length≤1000){A T:Bs}{bs:List BatS}{pv:Nat}{rest:Bs}{pe ps:Int}(hA:cutA c A0=A)(tk:ToldOk A T bs pv rest pe ps)(qb q:Option Addr)(bcap cap:Nat){W0 w:World}{K:Know}{L:List Res}(hlib:K.has Know.lib)(hkb:K.has (Know.bats (Ja qb lb.length bcap) lb))(hkc:K.has (Know.flat RInt (Ja q ch.length cap) 1 ch))(hAl0:A0.length≤1000000)(h:St W0 w K L):
 Calls Jd 12 #[.agg #[Ja qb lb.length bcap,I O c,Ja q ch.length cap]] w fun en w'=>en=Jb (Z (bb T))∧St W0 w' K L:=by
 obtain⟨rb,hrb⟩:=eX w.heap.size;have g1:=h.allocRaw #[Ja qb lb.length bcap,I O c,Ja q ch.length cap] 25;rw[hrb]at g1;obtain⟨z0,z1,z2⟩:=uR3 ((g1));simp at z0 z1 z2;have H:=hQd g1;have HLIB:=hQd hlib;have HKB:=hQd hkb;have HKC:=hQd hkc;have HTK:=hQd tk;have HE:=hQd he;have HSB:=hQd hs;have HAB:=hQd (show allB lb=(A0,0) by rw[←hA0];exact zST he);have HFI:=hQd (show ∀x∈lb,x.Fit from fun x hx=>(hs x hx).1);have HSM:=hQd (show ∀x∈lb,zBb (x.l.map (·.1))=true from fun x hx=>(hs x hx).2);have HLL:=hQd (show lb.length≤20 by omega);have HNS:=hQd hch;have HNL:=hQd hcl;have HAL:=hQd (show A.length≤1000000 by have:=tk.len;omega);have HCL:=hQd (show(cutN A ch).length≤1000000 by rw[zNO];omega);have HLI:=hQd (show(lb.length:Int)≤8 by omega);have HA:=hQd hA;have HAL0:=hQd hAl0;unfold Rn at hc;have HRC:=hQd hc;clear h g1 hlib hkb hkc tk he hs hA0 hl8 hch hcl hA hAl0 hc;go_enter Tryz.func12,Tryz.ntmps12;go_wp2_with fail;clear z0 z1 z2;go_loopw [11] (fun iv wr=>∃k:Nat,k≤lb.length∧iv=I O k∧St W0 wr K (.raw rb #[Ja qb lb.length bcap,I O c,Ja q ch.length cap] 25::L)) (fun iv _=>lb.length - (intOf iv).toNat)
 case atStart=>exact⟨0,Ji _,rfl,H.out⟩
 case round=>
  obtain⟨k,hkl,rfl,hst⟩:=hrel;clear H;have H:=hQd hst;clear hst;have hli:(lb.length:Int)≤8:=HLI.out
  by_cases hk:k<lb.length
  ·obtain⟨bk,off,hqq⟩:=zCW HKB.out H.out oM;subst hqq;obtain⟨x,hx⟩:=eX (lb[k]);have hmem:x∈lb:=hx ▸ Jp hk;have hxk:=zBC HKB.out hmem;have cc:=zBW HKB.out H.out k hk x hx;have hsx:=HSB.out x hmem;have hex:=HE.out x hmem;obtain⟨b,xl,xq,xcap⟩:=x;obtain⟨c0,c1,c2,c3,c4,c5,c6,c7,c8,c9,c10,c11⟩:=cc;have HSX:=hQd hsx;have HE0:=hQd (show zAh b=0 from hex);have HXK:=hQd (show K.has (Know.recs (Ja xq xl.length xcap) xl)from hxk);obtain⟨tb,htb⟩:=eX wr.heap.size;have g1:=H.out.allocRaw #[I O b.base,I O b.leader,U b.app,U b.txn,U b.ctl,I O b.last,I O b.first,I O b.maxt,I O b.prod,I O b.epoch,I O b.seq,Ja xq xl.length xcap] 30;rw[htb]at g1;obtain⟨y0,y1,y2,y3,y4,y5,y6,y7,y8,y9,y10,y11⟩:=uR12 g1;simp at y0 y1 y2 y3 y4 y5 y6 y7 y8 y9 y10 y11;have hki:(k:Int)<(lb.length:Int):=by omega
   clear H hxk hmem hx hsx hex;have H:=hQd g1;clear g1;go_wp2_with (go_at_call 35;(try clear y0 y1 y2 y3 y4 y5 y6 y7 y8 y9 y10 y11);(with_reducible refine(zRu b xl xq xcap 0 HE0.out HSX.out HXK.out H.out).zM ?_);clear H;intro wn H);go_roundw
   case rel=>exact⟨k+1,hk,by go_num,H.out.drop⟩
   case measure=>first|(simp[intOf];done)|(simp[intOf];omega)
  ·have hki:¬(k:Int)<(lb.length:Int):=by omega
   obtain⟨z0,z1,z2⟩:=uR3 ((H.out));simp at z0 z1 z2;have hal0:(A0.length:Int)≤1000000:=by have:=HAL0.out;omega
   obtain⟨hrc0,hrc1⟩:=HRC.out;have hA:=HA.out;unfold cutA at hA
   by_cases c1:0≤c
   ·have d1:decide (0≤c)=true:=decide_eq_true c1
    by_cases c2:c<(A0.length:Int)
    ·have d2:decide (c<(A0.length:Int))=true:=decide_eq_true c2;rw[if_pos ⟨c1,c2⟩]at hA;subst hA;have c3:c.toNat≤A0.length:=by omega
     go_wp2_with (first
      |(go_at_call 19;(with_reducible refine(zM2 lb qb bcap A0 0 HAB.out HFI.out HSM.out HLL.out HKB.out H.out).mono ?_);rintro e_ wn ⟨rfl,h⟩;obtain⟨z0,z1,z2⟩:=uR3 h;simp at z0 z1 z2;replace H:=hQd h;clear h)
      |(go_at_call 39;(with_reducible refine(zEG (A0.take c.toNat) ch HAL.out HNS.out HNL.out q cap HKC.out H.out).mono ?_);rintro e_ wn ⟨q2,cap2,rfl,h⟩;replace H:=hQd h;clear h)
      |(go_at_call 38;(with_reducible refine(zGp HTK.out (cutN (A0.take c.toNat) ch) (zE4 ch (A0.take c.toNat)) q2 cap2 HCL.out (Know.has_left HLIB.out) (Know.has_right (Know.has_refl _)) H.out).zM ?_);clear H;intro wn H))
     exact zq26
    ·have d2:decide (c<(A0.length:Int))=false:=decide_eq_false c2;rw[if_neg (fun h=>c2 h.2)]at hA;subst hA
     exact y3
   ·have d1:decide (0≤c)=false:=decide_eq_false c1;rw[if_neg (fun h=>c1 h.1)]at hA;subst hA
    exact y3
theorem zq45{p:Prop}(h:p:=by rw[←hvs];exact List.mem_map.2 ⟨x,hx,rfl⟩):p:=h
theorem zJ8{l:List BtR}{vs:List BatS}(hvs:l.map BtR.val=vs)(hv:∀b∈vs,OkV b):∀y∈l.map zAP,SmB y:=fun y hy=>by
 obtain⟨x,hx,rfl⟩:=List.mem_map.1 hy;exact zRK x (hv x.val zq45)
theorem zSI{l:List BtR}{vs:List BatS}(hvs:l.map BtR.val=vs)(he:∀b∈vs,zAh b=0):∀y∈l.map zAP,zAh y.b=0:=fun y hy=>by
 obtain⟨x,hx,rfl⟩:=List.mem_map.1 hy;rw[zC8];exact he x.val zq45
theorem zJ9{l:List BtR}{vs:List BatS}(hvs:l.map BtR.val=vs):encB (l.map zAP)=vs.flatMap BatS.enc:=by rw[zQ2,zGF,hvs]
theorem zNp(vs:List BatS)(hv:∀b∈vs,OkV b)(he:∀b∈vs,zAh b=0)(hl8:vs.length≤8)(A0:Bs)(hA0:vs.flatMap BatS.enc=A0)(l:List BtR)(hvs:l.map BtR.val=vs)(c:Int)(hcr:Rn c)(ch:List Int)(hchr:∀v∈ch,Rn v)(hcl:ch.length≤1000){A T:Bs}{bs:List BatS}{pv:Nat}{rest:Bs}{pe ps:Int}(hA:cutA c A0=A)(tk:ToldOk A T bs pv rest pe ps)(qb q:Option Addr)(bcap cap:Nat){W0 w:World}{K:Know}{L:List Res}(hlib:K.has Know.lib)(hkb:K.has (Know.btrs (Ja qb l.length bcap) l))(hkc:K.has (Know.flat RInt (Ja q ch.length cap) 1 ch))(hAl0:A0.length≤1000000)(h:St W0 w K L):
 Calls Jd 12 #[.agg #[Ja qb l.length bcap,I O c,Ja q ch.length cap]] w fun en w'=>en=Jb (Z (bb T))∧St W0 w' K L:=by
 have hkb2:=zHV hkb h;have hle:(l.map zAP).length=l.length:=Jn _;rw[←hle]at hkb2 ⊢;have hl9:(l.map zAP).length≤8:=by rw[hle];have h9:=congrArg Jh hvs;rw[Jn]at h9;omega
 exact zTv (l.map zAP) (zJ8 hvs hv) (zSI hvs he) hl9 A0 ((zJ9 hvs).trans hA0) c hcr ch hchr hcl hA tk qb q bcap cap hlib hkb2 hkc hAl0 h
def errT (i:Nat) (e:Int):Bs:=zAN 32 [[101,114,114,111,114],numW (i:Int),numW e]++[10]
theorem zLl:∀l:List BatR,(∀x∈l,zAh x.b=0)∨∃(k:Nat) (x:BatR),∃hk:k<l.length,l[k]=x∧(∀y∈l.take k,zAh y.b=0)∧zAh x.b≠0
 |[]=> .inl fun x hx=>by cases hx
 |y::t=>by
  by_cases hy:zAh y.b=0
  ·rcases zLl t with h|⟨k,x,hk,h1,h2,h3⟩
   ·refine .inl fun x hx=> ?_
    rcases List.mem_cons.1 hx with rfl|hx
    ·exact hy
    ·exact h x hx
   ·refine .inr ⟨k+1,x,by simpa using hk,by simpa using h1,fun z hz=> ?_,h3⟩;rw[List.take_succ_cons]at hz
    rcases List.mem_cons.1 hz with rfl|hz
    ·exact hy
    ·exact h2 z hz
  ·exact .inr ⟨0,y,by simp,rfl,fun z hz=>(by simp at hz),hy⟩
theorem zNc{α:Type}{l:List α}{P:α→Prop}{k0 k:Nat}(h:∀y∈l.take k0,P y)(hk:k<l.length)(hkk:k<k0){x:α}(hx:l[k]=x):P x:=
 h x (hx ▸ List.mem_take_iff_getElem.2 ⟨k,oM,rfl⟩)
theorem zQ3(lb:List BatR)(k:Nat)(hk:k<lb.length)(x:BatR)(hx:lb[k]=x):encB (lb.take (k+1))=encB (lb.take k)++x.b.enc:=by
 rw[List.take_succ_eq_append_getElem hk,hx];unfold encB;rw[List.flatMap_append];simp
theorem zEY(lb:List BatR)(k:Nat):(encB (lb.take k)).length≤(encB lb).length:=by
 have h:encB lb=encB (lb.take k)++encB (lb.drop k):=by unfold encB;rw[←List.flatMap_append,List.take_append_drop]
 rw[h,Je];omega
theorem zSA{x:BatR}(hs:SmB x)(he:zAh x.b=0):EncOk x.b:=EncOk.small (SmallOk.of hs.1.2.2.symm hs.1.2.1 hs.2 he hs.1.1)
variable {W0 w:World}{K:Know}{L:List Res}
theorem zRW(lb:List BatR)(hs:∀x∈lb,SmB x)(hl8:lb.length≤8)(k0:Nat)(xe:BatR)(hk0:k0<lb.length)(hx0:lb[k0]=xe)(hz:∀y∈lb.take k0,zAh y.b=0)(e:Int)(he:zAh xe.b=e)(hne:e≠0)(tl:Bs)(htl:errT k0 e=tl)(c:Int)(ch:List Int)(qb q:Option Addr)(bcap cap:Nat)(hlib:K.has Know.lib)(hkb:K.has (Know.bats (Ja qb lb.length bcap) lb))(h:St W0 w K L):
  Calls Jd 12 #[.agg #[Ja qb lb.length bcap,I O c,Ja q ch.length cap]] w fun en w'=>en=Jb (Z (bb tl))∧St W0 w' K L:=by
 obtain⟨rb,hrb⟩:=eX w.heap.size;have g1:=h.allocRaw #[Ja qb lb.length bcap,I O c,Ja q ch.length cap] 25;rw[hrb]at g1;obtain⟨z0,z1,z2⟩:=uR3 ((g1));simp at z0 z1 z2;have H:=hQd g1;have HLIB:=hQd hlib;have HKB:=hQd hkb;have HSB:=hQd hs;have HLI:=hQd (show(lb.length:Int)≤8 by omega);obtain⟨d2,hd2⟩:=eX (numW (k0:Int));obtain⟨d4,hd4⟩:=eX (numW e);have hkr:Rn (k0:Int):=by unfold Rn;omega
 have her:Rn e:=by have h9:=zS4 xe.b;rw[he]at h9;unfold Er at h9;unfold Rn;omega
 have HKR:=hQd hkr;have HER:=hQd her;have HD2:=hQd hd2;have HD4:=hQd hd4;have HZ:=hQd hz;have HX0:=hQd hx0;have HE:=hQd he;have ee1:(e==0)=false:=by rw[beq_eq_false_iff_ne];exact hne
 have ee2:(e !=0)=true:=by simp[bne,ee1]
 obtain⟨t,ht⟩:=eX (zAN 32 [[101,114,114,111,114],d2,d4]);have n2:=zAk (k0:Int) hkr;have n4:=zAk e her;have HT:=hQd ht;have HTN:=hQd (show t++[10]=tl by rw[←ht,←htl,←hd2,←hd4];rfl);have HTL:=hQd (show t.length≤1000000 by rw[←ht];simp only[zAN,Je,Jg,Jl];rw[hd2]at n2;rw[hd4]at n4;omega);have HWL:=hQd (show([[101,114,114,111,114],d2,d4]:List Bs).length≤1000000 by simp);have t1:True:=trivial;clear h g1 hlib hkb hs hl8 hx0 hz he hne htl hd2 hd4 hkr her ht n2 n4;go_enter Tryz.func12,Tryz.ntmps12;go_wp2_with fail;clear z0 z1 z2;go_loopw [11] (fun iv wr=>∃k:Nat,k≤k0∧iv=I O k∧St W0 wr K (.raw rb #[Ja qb lb.length bcap,I O c,Ja q ch.length cap] 25::L)) (fun iv _=>lb.length - (intOf iv).toNat)
 case atStart=>exact⟨0,Ji _,rfl,H.out⟩
 case round=>
  obtain⟨k,hkl,rfl,hst⟩:=hrel;clear H;have H:=hQd hst;clear hst;have hli:(lb.length:Int)≤8:=HLI.out;have hk:k<lb.length:=by omega
  obtain⟨bk,off,hqq⟩:=zCW HKB.out H.out oM;subst hqq;obtain⟨x,hx⟩:=eX (lb[k]);have hmem:x∈lb:=hx ▸ Jp hk;have hxk:=zBC HKB.out hmem;have cc:=zBW HKB.out H.out k hk x hx;have hsx:=HSB.out x hmem;have hki:(k:Int)<(lb.length:Int):=by omega
  by_cases hkk:k<k0
  · have hex:=zNc HZ.out hk hkk hx
    skip
    obtain⟨b,xl,xq,xcap⟩:=x;obtain⟨c0,c1,c2,c3,c4,c5,c6,c7,c8,c9,c10,c11⟩:=cc;have HSX:=hQd hsx;have HE0:=hQd (show zAh b=0 from hex);have HXK:=hQd (show K.has (Know.recs (Ja xq xl.length xcap) xl)from hxk);obtain⟨tb,htb⟩:=eX wr.heap.size;have g1:=H.out.allocRaw #[I O b.base,I O b.leader,U b.app,U b.txn,U b.ctl,I O b.last,I O b.first,I O b.maxt,I O b.prod,I O b.epoch,I O b.seq,Ja xq xl.length xcap] 30;rw[htb]at g1;obtain⟨y0,y1,y2,y3,y4,y5,y6,y7,y8,y9,y10,y11⟩:=uR12 g1;simp at y0 y1 y2 y3 y4 y5 y6 y7 y8 y9 y10 y11;clear H hxk hsx hex hmem hx;have H:=hQd g1;clear g1;go_wp2_with (go_at_call 35;(try clear y0 y1 y2 y3 y4 y5 y6 y7 y8 y9 y10 y11);(with_reducible refine(zRu b xl xq xcap 0 HE0.out HSX.out HXK.out H.out).zM ?_);clear H;intro wn H);go_roundw
    case rel=>exact⟨k+1,oM,by go_num,H.out.drop⟩
    case measure=>first|(simp[intOf];done)|(simp[intOf];omega)
  · obtain rfl:k0=k:=by omega
    obtain rfl:xe=x:=HX0.out.symm.trans hx;have hex:=HE.out;obtain⟨b,xl,xq,xcap⟩:=xe;obtain⟨c0,c1,c2,c3,c4,c5,c6,c7,c8,c9,c10,c11⟩:=cc;have HSX:=hQd hsx;have HE0:=hQd (show zAh b=e from hex);have HXK:=hQd (show K.has (Know.recs (Ja xq xl.length xcap) xl)from hxk);obtain⟨tb,htb⟩:=eX wr.heap.size;have g1:=H.out.allocRaw #[I O b.base,I O b.leader,U b.app,U b.txn,U b.ctl,I O b.last,I O b.first,I O b.maxt,I O b.prod,I O b.epoch,I O b.seq,Ja xq xl.length xcap] 30;rw[htb]at g1;obtain⟨y0,y1,y2,y3,y4,y5,y6,y7,y8,y9,y10,y11⟩:=uR12 g1;simp at y0 y1 y2 y3 y4 y5 y6 y7 y8 y9 y10 y11;clear H hxk hsx hex hmem hx;have H:=hQd g1;clear g1
    go_wp2_with (first
  |(go_at_call 35;(try clear y0 y1 y2 y3 y4 y5 y6 y7 y8 y9 y10 y11);(with_reducible refine(zRu b xl xq xcap e HE0.out HSX.out HXK.out H.out).zM ?_);clear H;intro wn H)
  |(go_at_call 37;have _t:=t1;clear _t;(with_reducible refine(zBL (k0:Int) HKR.out d2 HD2.out HLIB.out H.out).zM ?_);clear H;intro wn H;clear t1)
  |(go_at_call 37;(with_reducible refine(zBL e HER.out d4 HD4.out HLIB.out H.out).zM ?_);clear H;intro wn H)
  |(go_at_call 36;have h0:=H.out.allocRaw #[Z ⟨#[101,114,114,111,114]⟩,Z (bb d2),Z (bb d4)] 9;(with_reducible refine(zDc [[101,114,114,111,114],d2,d4] t tl _ 3 _ rfl rfl HWL.out HT.out HTN.out HTL.out h0).zM ?_);clear H;intro wn H))
    go_ret;exact⟨rfl,H.out.drop.drop⟩
theorem zKy(vs:List BatS)(hv:∀b∈vs,OkV b)(hl8:vs.length≤8)(l:List BtR)(hvs:l.map BtR.val=vs)(k0:Nat)(xe:BatR)(hk0:k0<(l.map zAP).length)(hx0:(l.map zAP)[k0]=xe)(hz:∀y∈(l.map zAP).take k0,zAh y.b=0)(e:Int)(he:zAh xe.b=e)(hne:e≠0)(tl:Bs)(htl:errT k0 e=tl)(c:Int)(ch:List Int)(qb q:Option Addr)(bcap cap:Nat)(hlib:K.has Know.lib)(hkb:K.has (Know.btrs (Ja qb l.length bcap) l))(h:St W0 w K L):
 Calls Jd 12 #[.agg #[Ja qb l.length bcap,I O c,Ja q ch.length cap]] w fun en w'=>en=Jb (Z (bb tl))∧St W0 w' K L:=by
 have hkb2:=zHV hkb h;have hle:(l.map zAP).length=l.length:=Jn _;rw[←hle]at hkb2 ⊢;have hl9:(l.map zAP).length≤8:=by rw[hle];have h9:=congrArg Jh hvs;rw[Jn]at h9;omega
 exact zRW (l.map zAP) (zJ8 hvs hv) hl9 k0 xe hk0 hx0 hz e he hne tl htl c ch qb q bcap cap hlib hkb2 h
theorem zQY{lb lb2:List BatR}(hb:lb2.map BatR.b=lb.map BatR.b){k0:Nat}{xe:BatR}(hk:k0<lb.length)(hx:lb[k0]=xe)(hz:∀y∈lb.take k0,zAh y.b=0){e:Int}(he:zAh xe.b=e):
 ∃x2,∃hk2:k0<lb2.length,lb2[k0]=x2∧(∀y∈lb2.take k0,zAh y.b=0)∧zAh x2.b=e:=by
 have hlen:lb2.length=lb.length:=by have h9:=congrArg Jh hb;simpa using h9
 have hk2:k0<lb2.length:=by omega
 refine⟨_,hk2,rfl,fun y hy=> ?_,?_⟩
 ·have h1:y.b∈(lb2.take k0).map BatR.b:=List.mem_map.2 ⟨y,hy,rfl⟩;rw[List.map_take,hb,←List.map_take]at h1;obtain⟨z,hz1,hz2⟩:=List.mem_map.1 h1;rw[←hz2];exact hz z hz1
 ·have h2:(lb2.map BatR.b)[k0]? =(lb.map BatR.b)[k0]? :=by rw[hb]
  rw[List.getElem?_map,List.getElem?_map,List.getElem?_eq_getElem hk2,List.getElem?_eq_getElem hk,hx]at h2;simp only[Option.map_some,Option.some.injEq]at h2;rw[h2];exact he
theorem zSz{l l2:List BtR}(hv:l2.map BtR.val=l.map BtR.val){k0:Nat}{xe:BatR}(hk:k0<(l.map zAP).length)(hx:(l.map zAP)[k0]=xe)(hz:∀y∈(l.map zAP).take k0,zAh y.b=0){e:Int}(he:zAh xe.b=e):
 ∃x2,∃hk2:k0<(l2.map zAP).length,(l2.map zAP)[k0]=x2∧(∀y∈(l2.map zAP).take k0,zAh y.b=0)∧zAh x2.b=e:=
 zQY (by rw[zGF,zGF,hv]) hk hx hz he
theorem zPT(vs:List BatS)(hv:∀b∈vs,OkV b)(hl8:vs.length≤8)(l:List BtR)(hvs:l.map BtR.val=vs)(k0:Nat)(xe:BatR)(hk0:k0<(l.map zAP).length)(hx0:(l.map zAP)[k0]=xe)(hz:∀y∈(l.map zAP).take k0,zAh y.b=0)(e:Int)(he:zAh xe.b=e)(hne:e≠0)(tl:Bs)(htl:errT k0 e=tl)(l2:List BtR)(hv2:l2.map BtR.val=vs)(c:Int)(ch:List Int)(qb q:Option Addr)(bcap cap:Nat){W0 w:World}{K:Know}{L:List Res}(hlib:K.has Know.lib)(hkb:K.has (Know.btrs (Ja qb l2.length bcap) l2))(h:St W0 w K L):
 Calls Jd 12 #[.agg #[Ja qb l2.length bcap,I O c,Ja q ch.length cap]] w fun en w'=>en=Jb (Z (bb tl))∧St W0 w' K L:=by
 obtain⟨x2,hk2,hx2,hz2,he2⟩:=zSz (hv2.trans hvs.symm) hk0 hx0 hz he;exact zKy vs hv hl8 l2 hv2 k0 x2 hk2 hx2 hz2 e he2 hne tl htl c ch qb q bcap cap hlib hkb h
theorem zNy(b:BatS)(l:List (RecS×Value))(q:Option Addr)(cap:Nat)(e:Int)(he:zAh b=e)(hs:SmB ⟨b,l,q,cap⟩){W0 w:World}{K:Know}{L:List Res}(hk:K.has (Know.recs (Ja q l.length cap) l))(h:St W0 w K L):
 Calls Jd 8 #[.agg #[I O b.base,I O b.leader,U b.app,U b.txn,U b.ctl,I O b.last,I O b.first,I O b.maxt,I O b.prod,I O b.epoch,I O b.seq,Ja q l.length cap]] w fun en w'=>en=Jb (I O e)∧St W0 w' K L:=by
 obtain⟨⟨h1,h2,h3⟩,h4⟩:=hs;simp only at h1 h2 h3 h4;exact zDe b.base b.leader b.app b.txn b.ctl b.last b.first b.maxt b.prod b.epoch b.seq l q cap e (by rw[h3];exact he) (by have:=h1.2.2.2.1.2;omega) h1.1 (FitW.fit h2 h4) (by have:=zDV h4;omega) hk h
theorem bb_ne{b:Bs}(h:b≠[]):(bb b==(⟨#[]⟩:ByteArray))=false:=by
 cases b with
 |nil=>exact absurd rfl h
 |cons c t=>first|rfl|(simp[bb,BEq.beq];done)|(show((c::t).toArray== #[])=false;simp)
theorem cutW{c:Int}{E B:Bs}(h:cutA c E=B):
 (0≤c∧c<(E.length:Int)∧decide (0≤c)=true∧decide (c<(E.length:Int))=true∧c.toNat≤E.length∧E.take c.toNat=B)∨
 (0≤c∧¬c<(E.length:Int)∧decide (0≤c)=true∧decide (c<(E.length:Int))=false∧True∧E=B)∨
 (¬0≤c∧True∧decide (0≤c)=false∧True∧True∧E=B):=by
 unfold cutA at h
 by_cases c1:0≤c
 ·by_cases c2:c<(E.length:Int)
  ·rw[if_pos ⟨c1,c2⟩]at h;exact .inl ⟨c1,c2,decide_eq_true c1,decide_eq_true c2,oM,h⟩
  ·rw[if_neg (fun h=>c2 h.2)]at h;exact .inr (.inl ⟨c1,c2,decide_eq_true c1,decide_eq_false c2,trivial,h⟩)
 ·rw[if_neg (fun h=>c1 h.1)]at h;exact .inr (.inr ⟨c1,trivial,decide_eq_false c1,trivial,trivial,h⟩)
theorem zQw{l:List BtR}{c:Int}(h:mayP l c): -1≤c:=h.1
theorem zUa(k:Nat)(e:Int):errT k e≠[]:=by unfold errT;simp
theorem kcx:Lib.cut [120,10] [10]=([120],[],true):=by decide+kernel
theorem kwx:zDw [120]=([[120]]:List Bs).map bb:=by decide+kernel
theorem khx:hexV [48]=([],false):=by decide+kernel
end Go.Proofs.YtenojajfacacoaaGreatDoor
