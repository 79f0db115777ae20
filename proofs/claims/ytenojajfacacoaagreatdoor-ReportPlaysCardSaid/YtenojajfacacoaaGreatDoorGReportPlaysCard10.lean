/- A text. -/
import Derived.Test.YtenojajfacacoaaGreatDoorGReportPlaysCard5
import Derived.Test.YtenojajfacacoaaGreatDoorGReportPlaysCard2
import Derived.Test.YtenojajfacacoaaGreatDoorGReportPlaysCard4
import Derived.Test.YtenojajfacacoaaGreatDoorGReportPlaysCard7
import Derived.Test.YtenojajfacacoaaGreatDoorGReportPlaysCard6
import Derived.Test.YtenojajfacacoaaGreatDoorGReportPlaysCard9
import Derived.RegionTactic
import Derived.Deep.RegionHeld3
import Derived.Deep.DeepCutAuto
import Derived.ScopeJumps
import Derived.Test.YtenojajfacacoaaGreatDoorGReportPlaysCard3
import Derived.Test.YtenojajfacacoaaGreatDoorGReportPlaysCard8
/- A text. -/
namespace Go.Proofs.YtenojajfacacoaaGreatDoor
open Go.RowKit
open Go.Value renaming bool→U, string→Z, slice→Ja, int→I, pointer→Jc
open Go.Ending renaming returned→Jb
open _root_.Nat renaming le_refl→Jo, zero_le→Ji, add_assoc→Jm
open Go.IntKind renaming i64→O
open _root_.Go.Proofs.Tryz renaming prog→Jd
open _root_.List renaming length_cons→Jg, take_of_length_le→Jj, length_take→Jk, length_append→Je, length→Jh, take→Jq, getElem_mem→Jp, length_drop→Jf, length_nil→Jl, length_map→Jn
variable {W0 w:World}{K:Know}{L:List Res}
theorem zI8{ops:Array Oper}{rest:List Oper}{o:Oper}{a:Act}{Q:Exit→Act→World→Prop}(hgd:o.guard=none)(sl x:Operand)
 (ho:o.op=.call {callee:=.builtin .append,args:= #[sl,x],argTypes:= #[57,9]})
 (v:Value)(n:Nat)(r s:Bs)(hn:n=r.length)(hs:a.eval sl=v)(hst:St W0 w K (.row v 5 1 n (zAu r)::L))(hx:a.eval x=Z (bb s))(hbytes:n+s.length≤140737488355328)
 (h:∀v' w',St W0 w' K (.row v' 5 1 (r++s).length (zAu (r++s))::L)→wpList Jd ops Q rest (a.put o.dst v') w'):wpList Jd ops Q (o::rest) a w:=by
 obtain⟨i0,hi,hz0,hz1,hz2⟩:=info_parts zJM;subst hn;refine zEj hgd sl x 57 9 ho 5 i0 Tryz.underlying57 Tryz.underlying9 hi hz0 hz1 hz2 v _ _ hs hst.rowGet (bb s) hx hbytes ?_;intro v' w1 h1 h2 h3;rw[zGL,←zCM]at h1;have e:r.length+(bb s).size=(r++s).length:=by rw[Je];rfl
 rw[e]at h1;exact h v' w1 (hst.rowGrown h1 h2 h3)
theorem St.rowCut{g cap n m:Nat}{T:TypeId}{xs:List Value}(h:St W0 w K (.row (Ja (some ⟨g,0,none⟩) n cap) T 1 n xs::L))(hm:m≤n):St W0 w K (.row (Ja (some ⟨g,0,none⟩) m cap) T 1 m (xs.take m)::L):=by
 refine h.map fun S hS=> ?_
 obtain⟨S1,S2,⟨⟨a1,a2⟩,h2⟩,r⟩:=hS;refine⟨S1,S2,⟨⟨?_,?_⟩,h2⟩,r⟩
 ·rw[Jk];omega
 ·rcases a2 with ⟨a3,_⟩|⟨g2,cap2,cur,e1,e2,e3,e4,e5,e6,e7⟩
  ·cases a3
  ·simp at e1;obtain⟨rfl,rfl⟩:=e1;refine .inr ⟨g,cap,cur,rfl,e2,e3,oM,e5,e6,?_⟩;rw[←e7,List.take_take]
   congr 1
   omega
theorem St.rowTextAt{g cap n:Nat}{s:Bs}(h:St W0 w K (.row (Ja (some ⟨g,0,none⟩) n cap) 5 1 n (zAu s)::L))(pos k c:Nat)(hn:n=s.length)(hk:pos+k≤s.length):
 (convert 57 9 (Ja (some ⟨g,pos,none⟩) k c)).run Jd w=.ok (Z (bb ((s.drop pos).take k))) w:=by
 have hl:((s.drop pos).take k).length=k:=by rw[Jk,Jf];omega
 have:=run_convert_bytes_back (P:=Jd) w 57 9 5 ⟨g,pos,none⟩ c ((s.drop pos).take k) Tryz.underlying57 Tryz.underlying5 Tryz.underlying9 (fun j hj=> ?_)
 ·rw[hl]at this;exact this
 ·rw[hl]at hj;have ha:(⟨g,pos,none⟩:Addr).add j=⟨g,pos+j,none⟩:=by unfold Addr.add;split<;>simp_all
  rw[ha,h.rowCell (pos+j) oM];have hb:pos+j<s.length:=by omega
  unfold zAu;rw[List.getElem?_map,List.getElem?_eq_getElem hb]
  simp
theorem zRh(w:World):(convert 57 9 (Ja none 0 0)).run Jd w=.ok (Z ⟨#[]⟩) w:=zHw (s:=[]) (World.ownsRow_nil _ _ _ _)
theorem zO2(w:World)(a:Addr)(c:Nat):(convert 57 9 (Ja (some a) 0 c)).run Jd w=.ok (Z ⟨#[]⟩) w:=
 run_convert_bytes_back (P:=Jd) w 57 9 5 a c [] Tryz.underlying57 Tryz.underlying5 Tryz.underlying9 (fun j hj=>by simp at hj)
theorem zA3{P:Program}{fn:Func}{p t u:Tmp}{ty:TypeId}(h:fn.results= #[.cell p ty,.tmp t,.tmp u])(tmps:Array Value)(w:World)(b:Nat)(cs:List Value)(d:TypeDesc)
 (hp:tmps.getD p undef=Jc (some ⟨b,0,none⟩))(hc:w.rangeAt b 0 cs)(hu:P.underlying ty=some d)(hd:d.isRow=true)(hi:(P.info? ty).map (·.size)=some cs.length):
 (results fn tmps).run P w=.ok (.tuple #[.agg cs.toArray,tmps.getD t undef,tmps.getD u undef]) w:=by
 have hp':tmps[p]?.getD undef=Jc (some ⟨b,0,none⟩):=by simpa using hp
 simp[results,h,hp',asAddr,run_loadVar_mid w b 0 ty cs d hc hu hd hi]
theorem zSX(p:Nat)(i:InS)(e:Int)(hx:i.err=e)(h:St W0 w K (.inp p i::L)):
 Calls Jd 168 #[zAD p] w fun en w'=>en=Jb (I O e)∧St W0 w' K (.inp p i::L):=by
 subst hx;exact zH3 p i h
set_option maxHeartbeats 8000000
set_option maxRecDepth 100000
variable {W0 w:World}{K:Know}{L:List Res}
theorem zUo(said rows:Bs)(base ln leader sm at_ last first maxt prod epoch sq:Int)(cnt:Nat)(x:Nat)(hx:(zAq 0#32 (said.drop 21++rows)).toNat=x)(hs1:21≤said.length)(hs2:said.length≤140737488355328)(hs3:rows.length≤140737488355328)(h0:(x:Int)≠sm)(h:St W0 w K L):
 Calls Jd 189 #[.agg #[I O base,I O ln,I O leader,I O sm,I O at_,I O last,I O first,I O maxt,I O prod,I O epoch,I O sq,I O cnt],Z (bb said),Z (bb rows)] w fun en w'=>en=Jb (.tuple #[.agg #[I O 0,I O 0,U false,U false,U false,I O 0,I O 0,I O 0,I O 0,I O 0,I O 0,Ja none 0 0],I O 5])∧St W0 w' K L:=by
 have gz:((x:Int)==sm)=false:=by rw[beq_eq_false_iff_ne];exact h0
 have gz2:((x:Int) !=sm)=true:=by simp[bne,gz]
 clear h0;have g1:=h.allocRaw #[I O base,I O ln,I O leader,I O sm,I O at_,I O last,I O first,I O maxt,I O prod,I O epoch,I O sq,I O cnt] 130;have g2:=g1.allocRaw #[I O 0,I O 0,U false,U false,U false,I O 0,I O 0,I O 0,I O 0,I O 0,I O 0,Ja none 0 0] 30;obtain⟨pb,hpb⟩:=eX w.heap.size;obtain⟨rb,hrb⟩:=eX (pb+1);simp only[World.size_alloc,hpb,hrb]at g2;have H:=hQd g2;have HX:=hQd hx;have HS1:=hQd hs1;have HS2:=hQd hs2;have HS3:=hQd hs3;clear h g1 g2 hx hs1 hs2 hs3;go_enter Tryz.func189,Tryz.ntmps189;go_upto_region 1 with (fail);have hs:=H.out.drew;refine wp_region_held_drew (S:=fun w'=>w'.cell? ⟨pb,0,none⟩=some (I O base)∧w'.cell? ⟨pb,1,none⟩=some (I O ln)∧w'.cell? ⟨pb,2,none⟩=some (I O leader)∧w'.cell? ⟨pb,3,none⟩=some (I O sm)∧w'.cell? ⟨pb,4,none⟩=some (I O at_)∧w'.cell? ⟨pb,5,none⟩=some (I O last)∧w'.cell? ⟨pb,6,none⟩=some (I O first)∧w'.cell? ⟨pb,7,none⟩=some (I O maxt)∧w'.cell? ⟨pb,8,none⟩=some (I O prod)∧w'.cell? ⟨pb,9,none⟩=some (I O epoch)∧w'.cell? ⟨pb,10,none⟩=some (I O sq)∧w'.cell? ⟨pb,11,none⟩=some (I O cnt)) kR (let ⟨x0,x1,x2,x3,x4,x5,x6,x7,x8,x9,x10,x11,_⟩:=zAd (b:=pb) (hs.p1);⟨x0,x1,x2,x3,x4,x5,x6,x7,x8,x9,x10,x11⟩) (fun hHeld=> ?_);refine tR 0 ?_;refine tR 1 ?_;refine tR 3 ?_;refine tR 4 ?_;refine wR [2] (rC rfl (fun KK hK=> ?_) rN);go_simp;go_at_call 88;with_reducible refine(zFZ said rows x HX.out HS1.out HS2.out HS3.out hs).mono ?_;rintro e wq ⟨rfl,hs⟩;refine hK.out _ _ (let ⟨x0,x1,x2,x3,x4,x5,x6,x7,x8,x9,x10,x11,_⟩:=zAd (b:=pb) (hs.p1);⟨x0,x1,x2,x3,x4,x5,x6,x7,x8,x9,x10,x11⟩) (fun hHeld=> ?_);clear hK KK
 try simp only[Act.put,sA,sB,sC]
 refine tR 5 ?_;refine wpAnyH_done kR ?_ _;clear hHeld;have H:=hQd hs;clear hs;obtain⟨p0,p1,p2,p3,p4,p5,p6,p7,p8,p9,p10,p11,u0,u1,u2,u3,u4,u5,u6,u7,u8,u9,u10,u11⟩:=zAd (b:=rb) (H.out);obtain⟨x0,x1,x2,x3,x4,x5,x6,x7,x8,x9,x10,x11,y0,y1,y2,y3,y4,y5,y6,y7,y8,y9,y10,y11⟩:=zAd (b:=pb) ((H.out).p1);go_wp2_with fail;have hz:St W0 _ _ (.raw rb #[I O 0,I O 0,U false,U false,U false,I O 0,I O 0,I O 0,I O 0,I O 0,I O 0,Ja none 0 0] 30::_):=St.sets12 _ _ _ _ _ _ _ _ _ _ _ _ (H.out);refine bodyPost_ret (zBo rfl _ _ rb [I O 0,I O 0,U false,U false,U false,I O 0,I O 0,I O 0,I O 0,I O 0,I O 0,Ja none 0 0] _ rfl (zAp hz) Tryz.underlying30 rfl kR) rfl ?_;exact⟨rfl,hz.drop.drop⟩
theorem zSQ(said rows:Bs)(base ln leader sm at_ last first maxt prod epoch sq:Int)(cnt:Nat)(x:Nat)(hx:(zAq 0#32 (said.drop 21++rows)).toNat=x)(hs1:21≤said.length)(hs2:said.length≤140737488355328)(hs3:rows.length≤140737488355328)(h0:(x:Int)=sm)(e:Int)(hat:chk at_=e)(har:R64 at_)(he:e≠0)(h:St W0 w K L):
 Calls Jd 189 #[.agg #[I O base,I O ln,I O leader,I O sm,I O at_,I O last,I O first,I O maxt,I O prod,I O epoch,I O sq,I O cnt],Z (bb said),Z (bb rows)] w fun en w'=>en=Jb (.tuple #[.agg #[I O 0,I O 0,U false,U false,U false,I O 0,I O 0,I O 0,I O 0,I O 0,I O 0,Ja none 0 0],I O e])∧St W0 w' K L:=by
 have gs:((x:Int)==sm)=true:=by rw[h0];exact beq_self_eq_true _
 have gs2:((x:Int) !=sm)=false:=by simp[bne,gs]
 clear h0;have gz:(e==0)=false:=by rw[beq_eq_false_iff_ne];exact he
 have HAT:=hQd hat;have HAR:=hQd har;clear he hat har;have g1:=h.allocRaw #[I O base,I O ln,I O leader,I O sm,I O at_,I O last,I O first,I O maxt,I O prod,I O epoch,I O sq,I O cnt] 130;have g2:=g1.allocRaw #[I O 0,I O 0,U false,U false,U false,I O 0,I O 0,I O 0,I O 0,I O 0,I O 0,Ja none 0 0] 30;obtain⟨pb,hpb⟩:=eX w.heap.size;obtain⟨rb,hrb⟩:=eX (pb+1);simp only[World.size_alloc,hpb,hrb]at g2;have H:=hQd g2;have HX:=hQd hx;have HS1:=hQd hs1;have HS2:=hQd hs2;have HS3:=hQd hs3;clear h g1 g2 hx hs1 hs2 hs3;go_enter Tryz.func189,Tryz.ntmps189;go_upto_region 1 with (fail);have hs:=H.out.drew;refine wp_region_held_drew (S:=fun w'=>w'.cell? ⟨pb,0,none⟩=some (I O base)∧w'.cell? ⟨pb,1,none⟩=some (I O ln)∧w'.cell? ⟨pb,2,none⟩=some (I O leader)∧w'.cell? ⟨pb,3,none⟩=some (I O sm)∧w'.cell? ⟨pb,4,none⟩=some (I O at_)∧w'.cell? ⟨pb,5,none⟩=some (I O last)∧w'.cell? ⟨pb,6,none⟩=some (I O first)∧w'.cell? ⟨pb,7,none⟩=some (I O maxt)∧w'.cell? ⟨pb,8,none⟩=some (I O prod)∧w'.cell? ⟨pb,9,none⟩=some (I O epoch)∧w'.cell? ⟨pb,10,none⟩=some (I O sq)∧w'.cell? ⟨pb,11,none⟩=some (I O cnt)) kR (let ⟨x0,x1,x2,x3,x4,x5,x6,x7,x8,x9,x10,x11,_⟩:=zAd (b:=pb) (hs.p1);⟨x0,x1,x2,x3,x4,x5,x6,x7,x8,x9,x10,x11⟩) (fun hHeld=> ?_);refine tR 0 ?_;refine tR 1 ?_;refine tR 3 ?_;refine tR 4 ?_;refine wR [2] (rC rfl (fun KK hK=> ?_) rN);go_simp;go_at_call 88;with_reducible refine(zFZ said rows x HX.out HS1.out HS2.out HS3.out hs).mono ?_;rintro e wq ⟨rfl,hs⟩;refine hK.out _ _ (let ⟨x0,x1,x2,x3,x4,x5,x6,x7,x8,x9,x10,x11,_⟩:=zAd (b:=pb) (hs.p1);⟨x0,x1,x2,x3,x4,x5,x6,x7,x8,x9,x10,x11⟩) (fun hHeld=> ?_);clear hK KK
 try simp only[Act.put,sA,sB,sC]
 refine tR 5 ?_;refine wpAnyH_done kR ?_ _;clear hHeld;have H:=hQd hs;clear hs;obtain⟨p0,p1,p2,p3,p4,p5,p6,p7,p8,p9,p10,p11,u0,u1,u2,u3,u4,u5,u6,u7,u8,u9,u10,u11⟩:=zAd (b:=rb) (H.out);obtain⟨x0,x1,x2,x3,x4,x5,x6,x7,x8,x9,x10,x11,y0,y1,y2,y3,y4,y5,y6,y7,y8,y9,y10,y11⟩:=zAd (b:=pb) ((H.out).p1);go_wp2_with (go_at_call 199;(with_reducible refine(zDu at_ e HAT.out HAR.out H.out).zM ?_);clear H;intro wn H;obtain⟨p0,p1,p2,p3,p4,p5,p6,p7,p8,p9,p10,p11,u0,u1,u2,u3,u4,u5,u6,u7,u8,u9,u10,u11⟩:=zAd (b:=rb) (H.out);obtain⟨x0,x1,x2,x3,x4,x5,x6,x7,x8,x9,x10,x11,y0,y1,y2,y3,y4,y5,y6,y7,y8,y9,y10,y11⟩:=zAd (b:=pb) ((H.out).p1));have hz:St W0 _ _ (.raw rb #[I O 0,I O 0,U false,U false,U false,I O 0,I O 0,I O 0,I O 0,I O 0,I O 0,Ja none 0 0] 30::_):=St.sets12 _ _ _ _ _ _ _ _ _ _ _ _ (H.out);refine bodyPost_ret (zBo rfl _ _ rb [I O 0,I O 0,U false,U false,U false,I O 0,I O 0,I O 0,I O 0,I O 0,I O 0,Ja none 0 0] _ rfl (zAp hz) Tryz.underlying30 rfl kR) rfl ?_;exact⟨rfl,hz.drop.drop⟩
theorem zSO(said rows:Bs)(base ln leader sm at_ last first maxt prod epoch sq:Int)(cnt:Nat)(x:Nat)(hx:(zAq 0#32 (said.drop 21++rows)).toNat=x)(hs1:21≤said.length)(hs2:said.length≤140737488355328)(hs3:rows.length≤140737488355328)(h0:(x:Int)=sm)(hat:chk at_=0)(har:R64 at_)(hcn:cnt≤2147483647)(e:Int)(hu:unp cnt ⟨rows,0,0⟩=.error e)(he:e≠0)(h:St W0 w K L):
 Calls Jd 189 #[.agg #[I O base,I O ln,I O leader,I O sm,I O at_,I O last,I O first,I O maxt,I O prod,I O epoch,I O sq,I O cnt],Z (bb said),Z (bb rows)] w fun en w'=>en=Jb (.tuple #[.agg #[I O 0,I O 0,U false,U false,U false,I O 0,I O 0,I O 0,I O 0,I O 0,I O 0,Ja none 0 0],I O e])∧St W0 w' K L:=by
 have gs:((x:Int)==sm)=true:=by rw[h0];exact beq_self_eq_true _
 have gs2:((x:Int) !=sm)=false:=by simp[bne,gs]
 clear h0;have gz:(e==0)=false:=by rw[beq_eq_false_iff_ne];exact he
 have HAT:=hQd hat;have HAR:=hQd har;have HCN:=hQd hcn;have HU:=hQd hu;have HEZ:=hQd he;clear he hat har hcn hu;have g1:=h.allocRaw #[I O base,I O ln,I O leader,I O sm,I O at_,I O last,I O first,I O maxt,I O prod,I O epoch,I O sq,I O cnt] 130;have g2:=g1.allocRaw #[I O 0,I O 0,U false,U false,U false,I O 0,I O 0,I O 0,I O 0,I O 0,I O 0,Ja none 0 0] 30;obtain⟨pb,hpb⟩:=eX w.heap.size;obtain⟨rb,hrb⟩:=eX (pb+1);simp only[World.size_alloc,hpb,hrb]at g2;have H:=hQd g2;have HX:=hQd hx;have HS1:=hQd hs1;have HS2:=hQd hs2;have HS3:=hQd hs3;clear h g1 g2 hx hs1 hs2 hs3;go_enter Tryz.func189,Tryz.ntmps189;go_upto_region 1 with (fail);have hs:=H.out.drew;refine wp_region_held_drew (S:=fun w'=>w'.cell? ⟨pb,0,none⟩=some (I O base)∧w'.cell? ⟨pb,1,none⟩=some (I O ln)∧w'.cell? ⟨pb,2,none⟩=some (I O leader)∧w'.cell? ⟨pb,3,none⟩=some (I O sm)∧w'.cell? ⟨pb,4,none⟩=some (I O at_)∧w'.cell? ⟨pb,5,none⟩=some (I O last)∧w'.cell? ⟨pb,6,none⟩=some (I O first)∧w'.cell? ⟨pb,7,none⟩=some (I O maxt)∧w'.cell? ⟨pb,8,none⟩=some (I O prod)∧w'.cell? ⟨pb,9,none⟩=some (I O epoch)∧w'.cell? ⟨pb,10,none⟩=some (I O sq)∧w'.cell? ⟨pb,11,none⟩=some (I O cnt)) kR (let ⟨x0,x1,x2,x3,x4,x5,x6,x7,x8,x9,x10,x11,_⟩:=zAd (b:=pb) (hs.p1);⟨x0,x1,x2,x3,x4,x5,x6,x7,x8,x9,x10,x11⟩) (fun hHeld=> ?_);refine tR 0 ?_;refine tR 1 ?_;refine tR 3 ?_;refine tR 4 ?_;refine wR [2] (rC rfl (fun KK hK=> ?_) rN);go_simp;go_at_call 88;with_reducible refine(zFZ said rows x HX.out HS1.out HS2.out HS3.out hs).mono ?_;rintro e wq ⟨rfl,hs⟩;refine hK.out _ _ (let ⟨x0,x1,x2,x3,x4,x5,x6,x7,x8,x9,x10,x11,_⟩:=zAd (b:=pb) (hs.p1);⟨x0,x1,x2,x3,x4,x5,x6,x7,x8,x9,x10,x11⟩) (fun hHeld=> ?_);clear hK KK
 try simp only[Act.put,sA,sB,sC]
 refine tR 5 ?_;refine wpAnyH_done kR ?_ _;clear hHeld;have H:=hQd hs;clear hs;obtain⟨p0,p1,p2,p3,p4,p5,p6,p7,p8,p9,p10,p11,u0,u1,u2,u3,u4,u5,u6,u7,u8,u9,u10,u11⟩:=zAd (b:=rb) (H.out);obtain⟨x0,x1,x2,x3,x4,x5,x6,x7,x8,x9,x10,x11,y0,y1,y2,y3,y4,y5,y6,y7,y8,y9,y10,y11⟩:=zAd (b:=pb) ((H.out).p1)
 go_wp2_with (first
 |(go_at_call 199;(with_reducible refine(zDu at_ 0 HAT.out HAR.out H.out).zM ?_);clear H;intro wn H;obtain⟨p0,p1,p2,p3,p4,p5,p6,p7,p8,p9,p10,p11,u0,u1,u2,u3,u4,u5,u6,u7,u8,u9,u10,u11⟩:=zAd (b:=rb) (H.out);obtain⟨x0,x1,x2,x3,x4,x5,x6,x7,x8,x9,x10,x11,y0,y1,y2,y3,y4,y5,y6,y7,y8,y9,y10,y11⟩:=zAd (b:=pb) ((H.out).p1))
 |(go_at_call 200;(with_reducible refine(zIm rows cnt HCN.out HS3.out e HEZ.out HU.out H.out).zM ?_);clear H;intro wn H;obtain⟨p0,p1,p2,p3,p4,p5,p6,p7,p8,p9,p10,p11,u0,u1,u2,u3,u4,u5,u6,u7,u8,u9,u10,u11⟩:=zAd (b:=rb) (H.out);obtain⟨x0,x1,x2,x3,x4,x5,x6,x7,x8,x9,x10,x11,y0,y1,y2,y3,y4,y5,y6,y7,y8,y9,y10,y11⟩:=zAd (b:=pb) ((H.out).p1)))
 have hz:St W0 _ _ (.raw rb #[I O 0,I O 0,U false,U false,U false,I O 0,I O 0,I O 0,I O 0,I O 0,I O 0,Ja none 0 0] 30::_):=St.sets12 _ _ _ _ _ _ _ _ _ _ _ _ (H.out);refine bodyPost_ret (zBo rfl _ _ rb [I O 0,I O 0,U false,U false,U false,I O 0,I O 0,I O 0,I O 0,I O 0,I O 0,Ja none 0 0] _ rfl (zAp hz) Tryz.underlying30 rfl kR) rfl ?_;exact⟨rfl,hz.drop.drop⟩
variable {W0 w:World}{K:Know}{L:List Res}
theorem asm_ok(said rows:Bs)(base ln leader sm at_ last first maxt prod epoch sq:Int)(cnt:Nat)(x:Nat)(hx:(zAq 0#32 (said.drop 21++rows)).toNat=x)(hs1:21≤said.length)(hs2:said.length≤140737488355328)(hs3:rows.length≤140737488355328)(h0:(x:Int)=sm)(hat:chk at_=0)(har:R64 at_)(hcn:cnt≤2147483647)(hr1:rows.length≤1000000)(hmx:first≤9223372036854775807)(rs:List RecS)(hu:unp cnt ⟨rows,0,0⟩=.ok rs)(hbe:zAh (⟨base,leader,zAg at_ 3,zAg at_ 4,zAg at_ 5,last,first,maxt,prod,epoch,sq,rs⟩:BatS)=0)(h:St W0 w K L):
 Calls Jd 189 #[.agg #[I O base,I O ln,I O leader,I O sm,I O at_,I O last,I O first,I O maxt,I O prod,I O epoch,I O sq,I O cnt],Z (bb said),Z (bb rows)] w fun en w'=>∃(q:Option Addr) (l:List (RecS×Value)) (cap:Nat),en=Jb (.tuple #[.agg #[I O base,I O leader,U (zAg at_ 3),U (zAg at_ 4),U (zAg at_ 5),I O last,I O first,I O maxt,I O prod,I O epoch,I O sq,Ja q l.length cap],I O 0])∧l.map (·.1)=rs∧St W0 w' (K.and (Know.recs (Ja q l.length cap) l)) L:=by
 have gs:((x:Int)==sm)=true:=by rw[h0];exact beq_self_eq_true _
 have gs2:((x:Int) !=sm)=false:=by simp[bne,gs]
 clear h0;have HAT:=hQd hat;have HAR:=hQd har;have HCN:=hQd hcn;have HU:=hQd hu;have HR1:=hQd hr1;have HMX:=hQd hmx;have HB0:=hQd hbe;clear hat har hcn hu hr1 hmx hbe;have g1:=h.allocRaw #[I O base,I O ln,I O leader,I O sm,I O at_,I O last,I O first,I O maxt,I O prod,I O epoch,I O sq,I O cnt] 130;have g2:=g1.allocRaw #[I O 0,I O 0,U false,U false,U false,I O 0,I O 0,I O 0,I O 0,I O 0,I O 0,Ja none 0 0] 30;obtain⟨pb,hpb⟩:=eX w.heap.size;obtain⟨rb,hrb⟩:=eX (pb+1);simp only[World.size_alloc,hpb,hrb]at g2;have H:=hQd g2;have HX:=hQd hx;have HS1:=hQd hs1;have HS2:=hQd hs2;have HS3:=hQd hs3;clear h g1 g2 hx hs1 hs2 hs3;go_enter Tryz.func189,Tryz.ntmps189;go_upto_region 1 with (fail);have hs:=H.out.drew;refine wp_region_held_drew (S:=fun w'=>w'.cell? ⟨pb,0,none⟩=some (I O base)∧w'.cell? ⟨pb,1,none⟩=some (I O ln)∧w'.cell? ⟨pb,2,none⟩=some (I O leader)∧w'.cell? ⟨pb,3,none⟩=some (I O sm)∧w'.cell? ⟨pb,4,none⟩=some (I O at_)∧w'.cell? ⟨pb,5,none⟩=some (I O last)∧w'.cell? ⟨pb,6,none⟩=some (I O first)∧w'.cell? ⟨pb,7,none⟩=some (I O maxt)∧w'.cell? ⟨pb,8,none⟩=some (I O prod)∧w'.cell? ⟨pb,9,none⟩=some (I O epoch)∧w'.cell? ⟨pb,10,none⟩=some (I O sq)∧w'.cell? ⟨pb,11,none⟩=some (I O cnt)) kR (let ⟨x0,x1,x2,x3,x4,x5,x6,x7,x8,x9,x10,x11,_⟩:=zAd (b:=pb) (hs.p1);⟨x0,x1,x2,x3,x4,x5,x6,x7,x8,x9,x10,x11⟩) (fun hHeld=> ?_);refine tR 0 ?_;refine tR 1 ?_;refine tR 3 ?_;refine tR 4 ?_;refine wR [2] (rC rfl (fun KK hK=> ?_) rN);go_simp;go_at_call 88;with_reducible refine(zFZ said rows x HX.out HS1.out HS2.out HS3.out hs).mono ?_;rintro e wq ⟨rfl,hs⟩;refine hK.out _ _ (let ⟨x0,x1,x2,x3,x4,x5,x6,x7,x8,x9,x10,x11,_⟩:=zAd (b:=pb) (hs.p1);⟨x0,x1,x2,x3,x4,x5,x6,x7,x8,x9,x10,x11⟩) (fun hHeld=> ?_);clear hK KK
 try simp only[Act.put,sA,sB,sC]
 refine tR 5 ?_;refine wpAnyH_done kR ?_ _;clear hHeld;have H:=hQd hs;clear hs;obtain⟨p0,p1,p2,p3,p4,p5,p6,p7,p8,p9,p10,p11,u0,u1,u2,u3,u4,u5,u6,u7,u8,u9,u10,u11⟩:=zAd (b:=rb) (H.out);obtain⟨x0,x1,x2,x3,x4,x5,x6,x7,x8,x9,x10,x11,y0,y1,y2,y3,y4,y5,y6,y7,y8,y9,y10,y11⟩:=zAd (b:=pb) ((H.out).p1)
 go_upto_region 11 with (first
 |(go_at_call 199;(with_reducible refine(zDu at_ 0 HAT.out HAR.out H.out).zM ?_);clear H;intro wn H;obtain⟨p0,p1,p2,p3,p4,p5,p6,p7,p8,p9,p10,p11,u0,u1,u2,u3,u4,u5,u6,u7,u8,u9,u10,u11⟩:=zAd (b:=rb) (H.out);obtain⟨x0,x1,x2,x3,x4,x5,x6,x7,x8,x9,x10,x11,y0,y1,y2,y3,y4,y5,y6,y7,y8,y9,y10,y11⟩:=zAd (b:=pb) ((H.out).p1))
 |(go_at_call 200;(with_reducible refine(zFa rows cnt HCN.out HS3.out rs HU.out H.out).mono ?_);rintro e_ wn ⟨rv,l,rfl,hlr,h⟩;obtain⟨q,cap,hrv⟩:=zC0 (Know.has_right (Know.has_refl _)) h;subst hrv;obtain⟨hff,hfl⟩:=zGn HU.out hlr HR1.out;have HFT:=hQd hff;have HLL:=hQd hfl;have HLR:=hQd hlr;clear hff hfl hlr;obtain⟨p0,p1,p2,p3,p4,p5,p6,p7,p8,p9,p10,p11,u0,u1,u2,u3,u4,u5,u6,u7,u8,u9,u10,u11⟩:=zAd (b:=rb) (h);obtain⟨x0,x1,x2,x3,x4,x5,x6,x7,x8,x9,x10,x11,y0,y1,y2,y3,y4,y5,y6,y7,y8,y9,y10,y11⟩:=zAd (b:=pb) ((h).p1);have h:=h.allocRaw #[I O base,I O leader,U false,U false,U false,I O last,I O first,I O maxt,I O prod,I O epoch,I O sq,Ja q l.length cap] 30;obtain⟨bB,hbB⟩:=eX wn.heap.size;rw[hbB]at h;obtain⟨x0,x1,x2,x3,x4,x5,x6,x7,x8,x9,x10,x11,y0,y1,y2,y3,y4,y5,y6,y7,y8,y9,y10,y11⟩:=zAd (b:=pb) (h.p2);obtain⟨a0,a1,a2,a3,a4,a5,a6,a7,a8,a9,a10,a11,f0,f1,f2,f3,f4,f5,f6,f7,f8,f9,f10,f11⟩:=zAd (b:=bB) (h);replace H:=hQd h;clear h)
 |(go_at_call 201;(with_reducible refine(zI7 at_ H.out).mono ?_);rintro e_ wn ⟨rfl,h⟩;obtain⟨a0,a1,a2,a3,a4,a5,a6,a7,a8,a9,a10,a11,f0,f1,f2,f3,f4,f5,f6,f7,f8,f9,f10,f11⟩:=zAd (b:=bB) (h);replace H:=hQd h;clear h))
 have HBE:=hQd (show zAh ⟨base,leader,zAg at_ 3,zAg at_ 4,zAg at_ 5,last,first,maxt,prod,epoch,sq,l.map (·.1)⟩=0 by rw[HLR.out];exact HB0.out);have hs:St W0 _ _ (.raw bB #[I O base,I O leader,U (zAg at_ 3),U (zAg at_ 4),U (zAg at_ 5),I O last,I O first,I O maxt,I O prod,I O epoch,I O sq,Ja q l.length cap] 30::_):=((H.out.rawSet 2 (U (zAg at_ 3))).rawSet 3 (U (zAg at_ 4))).rawSet 4 (U (zAg at_ 5));have hs:=hs.drew;clear x0 y0 a0 f0 x1 y1 a1 f1 x2 y2 a2 f2 x3 y3 a3 f3 x4 y4 a4 f4 x5 y5 a5 f5 x6 y6 a6 f6 x7 y7 a7 f7 x8 y8 a8 f8 x9 y9 a9 f9 x10 y10 a10 f10 x11 y11 a11 f11;refine wp_region_held_drew (S:=fun w'=>w'.cell? ⟨bB,0,none⟩=some (I O base)∧w'.cell? ⟨bB,1,none⟩=some (I O leader)∧w'.cell? ⟨bB,2,none⟩=some (U (zAg at_ 3))∧w'.cell? ⟨bB,3,none⟩=some (U (zAg at_ 4))∧w'.cell? ⟨bB,4,none⟩=some (U (zAg at_ 5))∧w'.cell? ⟨bB,5,none⟩=some (I O last)∧w'.cell? ⟨bB,6,none⟩=some (I O first)∧w'.cell? ⟨bB,7,none⟩=some (I O maxt)∧w'.cell? ⟨bB,8,none⟩=some (I O prod)∧w'.cell? ⟨bB,9,none⟩=some (I O epoch)∧w'.cell? ⟨bB,10,none⟩=some (I O sq)∧w'.cell? ⟨bB,11,none⟩=some (Ja q l.length cap)) kR (let ⟨x0,x1,x2,x3,x4,x5,x6,x7,x8,x9,x10,x11,_⟩:=zAd (b:=bB) (hs);⟨x0,x1,x2,x3,x4,x5,x6,x7,x8,x9,x10,x11⟩) (fun hHeld=> ?_);refine tR 0 ?_;refine tR 1 ?_;refine wR [2] (rC rfl (fun KK hK=> ?_) rN);go_simp;go_at_call 35;with_reducible refine(zCH base leader (zAg at_ 3) (zAg at_ 4) (zAg at_ 5) last first maxt prod epoch sq l q cap 0 HBE.out HMX.out HFT.out HLL.out (Know.has_right (Know.has_refl _)) hs).mono ?_;rintro e wq ⟨rfl,hs⟩;refine hK.out _ _ (let ⟨x0,x1,x2,x3,x4,x5,x6,x7,x8,x9,x10,x11,_⟩:=zAd (b:=bB) (hs);⟨x0,x1,x2,x3,x4,x5,x6,x7,x8,x9,x10,x11⟩) (fun hHeld=> ?_);clear hK KK
 try simp only[Act.put,sA,sB,sC]
 refine wR [3] (rC rfl (fun KK hK=> ?_) rN);have hs:=hs.p1;rw[if_pos (by rfl)];refine wp_store_mid 30 (.tmp 6) (.tmp 65) rfl rb 0 #[I O base,I O leader,U (zAg at_ 3),U (zAg at_ 4),U (zAg at_ 5),I O last,I O first,I O maxt,I O prod,I O epoch,I O sq,Ja q l.length cap] (by rfl) (by rfl) hs.there kR (by simp[Value.oneCell']) ?_;obtain⟨wz,ez,hs⟩:=hs.storeEx #[I O base,I O leader,U (zAg at_ 3),U (zAg at_ 4),U (zAg at_ 5),I O last,I O first,I O maxt,I O prod,I O epoch,I O sq,Ja q l.length cap];rw[ez];clear ez;refine hK.out _ _ (let ⟨x0,x1,x2,x3,x4,x5,x6,x7,x8,x9,x10,x11,_⟩:=zAd (b:=bB) (hs.p1);⟨x0,x1,x2,x3,x4,x5,x6,x7,x8,x9,x10,x11⟩) (fun hHeld=> ?_);clear hK KK
 try simp only[Act.put,sA,sB,sC]
 refine tR 4 ?_;refine wpAnyH_done kR ?_ _;clear hHeld;rw[zFl]at hs;rotate_left
 ·rfl
 have hz:St W0 _ _ (.raw rb #[I O base,I O leader,U (zAg at_ 3),U (zAg at_ 4),U (zAg at_ 5),I O last,I O first,I O maxt,I O prod,I O epoch,I O sq,Ja q l.length cap] 30::_):=hs;go_wp2_with fail;refine bodyPost_ret (zBo rfl _ _ rb [I O base,I O leader,U (zAg at_ 3),U (zAg at_ 4),U (zAg at_ 5),I O last,I O first,I O maxt,I O prod,I O epoch,I O sq,Ja q l.length cap] _ rfl (zAp hz) Tryz.underlying30 rfl kR) rfl ?_;exact⟨q,l,cap,rfl,HLR.out,hz.drop.drop.drop⟩
theorem zUq(said rows:Bs)(base ln leader sm at_ last first maxt prod epoch sq:Int)(cnt:Nat)(x:Nat)(hx:(zAq 0#32 (said.drop 21++rows)).toNat=x)(hs1:21≤said.length)(hs2:said.length≤140737488355328)(hs3:rows.length≤140737488355328)(h0:(x:Int)=sm)(hat:chk at_=0)(har:R64 at_)(hcn:cnt≤2147483647)(hr1:rows.length≤1000000)(hmx:first≤9223372036854775807)(rs:List RecS)(hu:unp cnt ⟨rows,0,0⟩=.ok rs)(e:Int)(hbe:zAh (⟨base,leader,zAg at_ 3,zAg at_ 4,zAg at_ 5,last,first,maxt,prod,epoch,sq,rs⟩:BatS)=e)(h:St W0 w K L):
 Calls Jd 189 #[.agg #[I O base,I O ln,I O leader,I O sm,I O at_,I O last,I O first,I O maxt,I O prod,I O epoch,I O sq,I O cnt],Z (bb said),Z (bb rows)] w fun en w'=>∃(l:List (RecS×Value)) (q:Option Addr) (cap:Nat),en=Jb (.tuple #[.agg #[I O base,I O leader,U (zAg at_ 3),U (zAg at_ 4),U (zAg at_ 5),I O last,I O first,I O maxt,I O prod,I O epoch,I O sq,Ja q l.length cap],I O e])∧St W0 w' K L:=by
 have gs:((x:Int)==sm)=true:=by rw[h0];exact beq_self_eq_true _
 have gs2:((x:Int) !=sm)=false:=by simp[bne,gs]
 clear h0;have HAT:=hQd hat;have HAR:=hQd har;have HCN:=hQd hcn;have HU:=hQd hu;have HR1:=hQd hr1;have HMX:=hQd hmx;have HB0:=hQd hbe;clear hat har hcn hu hr1 hmx hbe;have g1:=h.allocRaw #[I O base,I O ln,I O leader,I O sm,I O at_,I O last,I O first,I O maxt,I O prod,I O epoch,I O sq,I O cnt] 130;have g2:=g1.allocRaw #[I O 0,I O 0,U false,U false,U false,I O 0,I O 0,I O 0,I O 0,I O 0,I O 0,Ja none 0 0] 30;obtain⟨pb,hpb⟩:=eX w.heap.size;obtain⟨rb,hrb⟩:=eX (pb+1);simp only[World.size_alloc,hpb,hrb]at g2;have H:=hQd g2;have HX:=hQd hx;have HS1:=hQd hs1;have HS2:=hQd hs2;have HS3:=hQd hs3;clear h g1 g2 hx hs1 hs2 hs3;go_enter Tryz.func189,Tryz.ntmps189;go_upto_region 1 with (fail);have hs:=H.out.drew;refine wp_region_held_drew (S:=fun w'=>w'.cell? ⟨pb,0,none⟩=some (I O base)∧w'.cell? ⟨pb,1,none⟩=some (I O ln)∧w'.cell? ⟨pb,2,none⟩=some (I O leader)∧w'.cell? ⟨pb,3,none⟩=some (I O sm)∧w'.cell? ⟨pb,4,none⟩=some (I O at_)∧w'.cell? ⟨pb,5,none⟩=some (I O last)∧w'.cell? ⟨pb,6,none⟩=some (I O first)∧w'.cell? ⟨pb,7,none⟩=some (I O maxt)∧w'.cell? ⟨pb,8,none⟩=some (I O prod)∧w'.cell? ⟨pb,9,none⟩=some (I O epoch)∧w'.cell? ⟨pb,10,none⟩=some (I O sq)∧w'.cell? ⟨pb,11,none⟩=some (I O cnt)) kR (let ⟨x0,x1,x2,x3,x4,x5,x6,x7,x8,x9,x10,x11,_⟩:=zAd (b:=pb) (hs.p1);⟨x0,x1,x2,x3,x4,x5,x6,x7,x8,x9,x10,x11⟩) (fun hHeld=> ?_);refine tR 0 ?_;refine tR 1 ?_;refine tR 3 ?_;refine tR 4 ?_;refine wR [2] (rC rfl (fun KK hK=> ?_) rN);go_simp;go_at_call 88;with_reducible refine(zFZ said rows x HX.out HS1.out HS2.out HS3.out hs).mono ?_;rintro e wq ⟨rfl,hs⟩;refine hK.out _ _ (let ⟨x0,x1,x2,x3,x4,x5,x6,x7,x8,x9,x10,x11,_⟩:=zAd (b:=pb) (hs.p1);⟨x0,x1,x2,x3,x4,x5,x6,x7,x8,x9,x10,x11⟩) (fun hHeld=> ?_);clear hK KK
 try simp only[Act.put,sA,sB,sC]
 refine tR 5 ?_;refine wpAnyH_done kR ?_ _;clear hHeld;have H:=hQd hs;clear hs;obtain⟨p0,p1,p2,p3,p4,p5,p6,p7,p8,p9,p10,p11,u0,u1,u2,u3,u4,u5,u6,u7,u8,u9,u10,u11⟩:=zAd (b:=rb) (H.out);obtain⟨x0,x1,x2,x3,x4,x5,x6,x7,x8,x9,x10,x11,y0,y1,y2,y3,y4,y5,y6,y7,y8,y9,y10,y11⟩:=zAd (b:=pb) ((H.out).p1)
 go_upto_region 11 with (first
 |(go_at_call 199;(with_reducible refine(zDu at_ 0 HAT.out HAR.out H.out).zM ?_);clear H;intro wn H;obtain⟨p0,p1,p2,p3,p4,p5,p6,p7,p8,p9,p10,p11,u0,u1,u2,u3,u4,u5,u6,u7,u8,u9,u10,u11⟩:=zAd (b:=rb) (H.out);obtain⟨x0,x1,x2,x3,x4,x5,x6,x7,x8,x9,x10,x11,y0,y1,y2,y3,y4,y5,y6,y7,y8,y9,y10,y11⟩:=zAd (b:=pb) ((H.out).p1))
 |(go_at_call 200;(with_reducible refine(zFa rows cnt HCN.out HS3.out rs HU.out H.out).mono ?_);rintro e_ wn ⟨rv,l,rfl,hlr,h⟩;obtain⟨q,cap,hrv⟩:=zC0 (Know.has_right (Know.has_refl _)) h;subst hrv;obtain⟨hff,hfl⟩:=zGn HU.out hlr HR1.out;have HFT:=hQd hff;have HLL:=hQd hfl;have HLR:=hQd hlr;clear hff hfl hlr;obtain⟨p0,p1,p2,p3,p4,p5,p6,p7,p8,p9,p10,p11,u0,u1,u2,u3,u4,u5,u6,u7,u8,u9,u10,u11⟩:=zAd (b:=rb) (h);obtain⟨x0,x1,x2,x3,x4,x5,x6,x7,x8,x9,x10,x11,y0,y1,y2,y3,y4,y5,y6,y7,y8,y9,y10,y11⟩:=zAd (b:=pb) ((h).p1);have h:=h.allocRaw #[I O base,I O leader,U false,U false,U false,I O last,I O first,I O maxt,I O prod,I O epoch,I O sq,Ja q l.length cap] 30;obtain⟨bB,hbB⟩:=eX wn.heap.size;rw[hbB]at h;obtain⟨x0,x1,x2,x3,x4,x5,x6,x7,x8,x9,x10,x11,y0,y1,y2,y3,y4,y5,y6,y7,y8,y9,y10,y11⟩:=zAd (b:=pb) (h.p2);obtain⟨a0,a1,a2,a3,a4,a5,a6,a7,a8,a9,a10,a11,f0,f1,f2,f3,f4,f5,f6,f7,f8,f9,f10,f11⟩:=zAd (b:=bB) (h);replace H:=hQd h;clear h)
 |(go_at_call 201;(with_reducible refine(zI7 at_ H.out).mono ?_);rintro e_ wn ⟨rfl,h⟩;obtain⟨a0,a1,a2,a3,a4,a5,a6,a7,a8,a9,a10,a11,f0,f1,f2,f3,f4,f5,f6,f7,f8,f9,f10,f11⟩:=zAd (b:=bB) (h);replace H:=hQd h;clear h))
 have HBE:=hQd (show zAh ⟨base,leader,zAg at_ 3,zAg at_ 4,zAg at_ 5,last,first,maxt,prod,epoch,sq,l.map (·.1)⟩=e by rw[HLR.out];exact HB0.out);have hs:St W0 _ _ (.raw bB #[I O base,I O leader,U (zAg at_ 3),U (zAg at_ 4),U (zAg at_ 5),I O last,I O first,I O maxt,I O prod,I O epoch,I O sq,Ja q l.length cap] 30::_):=((H.out.rawSet 2 (U (zAg at_ 3))).rawSet 3 (U (zAg at_ 4))).rawSet 4 (U (zAg at_ 5));have hs:=hs.drew;clear x0 y0 a0 f0 x1 y1 a1 f1 x2 y2 a2 f2 x3 y3 a3 f3 x4 y4 a4 f4 x5 y5 a5 f5 x6 y6 a6 f6 x7 y7 a7 f7 x8 y8 a8 f8 x9 y9 a9 f9 x10 y10 a10 f10 x11 y11 a11 f11;refine wp_region_held_drew (S:=fun w'=>w'.cell? ⟨bB,0,none⟩=some (I O base)∧w'.cell? ⟨bB,1,none⟩=some (I O leader)∧w'.cell? ⟨bB,2,none⟩=some (U (zAg at_ 3))∧w'.cell? ⟨bB,3,none⟩=some (U (zAg at_ 4))∧w'.cell? ⟨bB,4,none⟩=some (U (zAg at_ 5))∧w'.cell? ⟨bB,5,none⟩=some (I O last)∧w'.cell? ⟨bB,6,none⟩=some (I O first)∧w'.cell? ⟨bB,7,none⟩=some (I O maxt)∧w'.cell? ⟨bB,8,none⟩=some (I O prod)∧w'.cell? ⟨bB,9,none⟩=some (I O epoch)∧w'.cell? ⟨bB,10,none⟩=some (I O sq)∧w'.cell? ⟨bB,11,none⟩=some (Ja q l.length cap)) kR (let ⟨x0,x1,x2,x3,x4,x5,x6,x7,x8,x9,x10,x11,_⟩:=zAd (b:=bB) (hs);⟨x0,x1,x2,x3,x4,x5,x6,x7,x8,x9,x10,x11⟩) (fun hHeld=> ?_);refine tR 0 ?_;refine tR 1 ?_;refine wR [2] (rC rfl (fun KK hK=> ?_) rN);go_simp;go_at_call 35;with_reducible refine(zCH base leader (zAg at_ 3) (zAg at_ 4) (zAg at_ 5) last first maxt prod epoch sq l q cap e HBE.out HMX.out HFT.out HLL.out (Know.has_right (Know.has_refl _)) hs).mono ?_;rintro e wq ⟨rfl,hs⟩;refine hK.out _ _ (let ⟨x0,x1,x2,x3,x4,x5,x6,x7,x8,x9,x10,x11,_⟩:=zAd (b:=bB) (hs);⟨x0,x1,x2,x3,x4,x5,x6,x7,x8,x9,x10,x11⟩) (fun hHeld=> ?_);clear hK KK
 try simp only[Act.put,sA,sB,sC]
 refine wR [3] (rC rfl (fun KK hK=> ?_) rN);have hs:=hs.p1;rw[if_pos (by rfl)];refine wp_store_mid 30 (.tmp 6) (.tmp 65) rfl rb 0 #[I O base,I O leader,U (zAg at_ 3),U (zAg at_ 4),U (zAg at_ 5),I O last,I O first,I O maxt,I O prod,I O epoch,I O sq,Ja q l.length cap] (by rfl) (by rfl) hs.there kR (by simp[Value.oneCell']) ?_;obtain⟨wz,ez,hs⟩:=hs.storeEx #[I O base,I O leader,U (zAg at_ 3),U (zAg at_ 4),U (zAg at_ 5),I O last,I O first,I O maxt,I O prod,I O epoch,I O sq,Ja q l.length cap];rw[ez];clear ez;refine hK.out _ _ (let ⟨x0,x1,x2,x3,x4,x5,x6,x7,x8,x9,x10,x11,_⟩:=zAd (b:=bB) (hs.p1);⟨x0,x1,x2,x3,x4,x5,x6,x7,x8,x9,x10,x11⟩) (fun hHeld=> ?_);clear hK KK
 try simp only[Act.put,sA,sB,sC]
 refine tR 4 ?_;refine wpAnyH_done kR ?_ _;clear hHeld;rw[zFl]at hs;rotate_left
 ·rfl
 have hz:St W0 _ _ (.raw rb #[I O base,I O leader,U (zAg at_ 3),U (zAg at_ 4),U (zAg at_ 5),I O last,I O first,I O maxt,I O prod,I O epoch,I O sq,Ja q l.length cap] 30::_):=hs;go_wp2_with fail;refine bodyPost_ret (zBo rfl _ _ rb [I O base,I O leader,U (zAg at_ 3),U (zAg at_ 4),U (zAg at_ 5),I O last,I O first,I O maxt,I O prod,I O epoch,I O sq,Ja q l.length cap] _ rfl (zAp hz) Tryz.underlying30 rfl kR) rfl ?_;exact⟨l,q,cap,rfl,hz.drop.drop.drop.know (Know.has_left (Know.has_refl _))⟩
theorem zUp(x:PreS)(said rows:Bs)(hs1:21≤said.length)(hs2:said.length≤140737488355328)(hr1:rows.length≤1000000)(har:R64 x.attr)(hc0:0≤x.count)(hcn:x.count≤2147483647)(hmx:x.first≤9223372036854775807)(e:Int)(ha:asmB x said rows=.error e)(h:St W0 w K L):
 Calls Jd 189 #[.agg #[I O x.base,I O x.len,I O x.leader,I O x.sum,I O x.attr,I O x.last,I O x.first,I O x.maxt,I O x.prod,I O x.epoch,I O x.seq,I O x.count],Z (bb said),Z (bb rows)] w fun en w'=>∃(b:BatS) (q:Option Addr) (n cap:Nat),en=Jb (.tuple #[.agg #[I O b.base,I O b.leader,U b.app,U b.txn,U b.ctl,I O b.last,I O b.first,I O b.maxt,I O b.prod,I O b.epoch,I O b.seq,Ja q n cap],I O e])∧St W0 w' K L:=by
 obtain⟨base,len,leader,sum,attr,last,first,maxt,prod,epoch,seq,count⟩:=x;simp only at har hc0 hcn hmx;obtain⟨cnt,rfl⟩:∃n:Nat,count=(n:Int):=⟨count.toNat,oM⟩;have hr:rows.length≤140737488355328:=by omega
 have hcn:cnt≤2147483647:=by omega
 unfold asmB at ha;simp only[Int.toNat_natCast]at ha
 by_cases c1:(((zAq 0#32 (said.drop 21++rows)).toNat:Nat):Int)≠sum
 ·rw[if_pos c1]at ha
  cases ha
  exact(zUo said rows base len leader sum attr last first maxt prod epoch seq cnt _ rfl hs1 hs2 hr c1 h).mono fun _ _ hh=>⟨BatS.zero,none,0,0,hh.1,hh.2⟩
 rw[if_neg c1]at ha;have c1:=Classical.not_not.1 c1
 by_cases c2:chk attr≠0
 ·rw[if_pos c2]at ha
  cases ha
  exact(zSQ said rows base len leader sum attr last first maxt prod epoch seq cnt _ rfl hs1 hs2 hr c1 _ rfl har c2 h).mono fun _ _ hh=>⟨BatS.zero,none,0,0,hh.1,hh.2⟩
 rw[if_neg c2]at ha;have c2:=Classical.not_not.1 c2
 cases hu:unp cnt ⟨rows,0,0⟩with
 |error f=>
  rw[hu]at ha;simp only at ha
  cases ha
  exact(zSO said rows base len leader sum attr last first maxt prod epoch seq cnt _ rfl hs1 hs2 hr c1 c2 har hcn _ hu (zPk _ _ _ hu) h).mono fun _ _ hh=>⟨BatS.zero,none,0,0,hh.1,hh.2⟩
 |ok rs=>
  rw[hu]at ha;simp only at ha
  by_cases c3:zAh ⟨base,leader,zAg attr 3,zAg attr 4,zAg attr 5,last,first,maxt,prod,epoch,seq,rs⟩=0
  ·rw[if_pos c3]at ha;cases ha
  rw[if_neg c3]at ha
  cases ha
  exact(zUq said rows base len leader sum attr last first maxt prod epoch seq cnt _ rfl hs1 hs2 hr c1 c2 har hcn hr1 hmx rs hu _ rfl h).mono fun _ _ ⟨l,q,cap,hh,hs⟩=>⟨⟨base,leader,zAg attr 3,zAg attr 4,zAg attr 5,last,first,maxt,prod,epoch,seq,rs⟩,q,l.length,cap,hh,hs⟩
theorem zSP(x:PreS)(said rows:Bs)(hs1:21≤said.length)(hs2:said.length≤140737488355328)(hr1:rows.length≤1000000)(har:R64 x.attr)(hc0:0≤x.count)(hcn:x.count≤2147483647)(hmx:x.first≤9223372036854775807)(b:BatS)(ha:asmB x said rows=.ok b)(h:St W0 w K L):
 Calls Jd 189 #[.agg #[I O x.base,I O x.len,I O x.leader,I O x.sum,I O x.attr,I O x.last,I O x.first,I O x.maxt,I O x.prod,I O x.epoch,I O x.seq,I O x.count],Z (bb said),Z (bb rows)] w fun en w'=>∃(q:Option Addr) (l:List (RecS×Value)) (cap:Nat),en=Jb (.tuple #[.agg #[I O b.base,I O b.leader,U b.app,U b.txn,U b.ctl,I O b.last,I O b.first,I O b.maxt,I O b.prod,I O b.epoch,I O b.seq,Ja q l.length cap],I O 0])∧l.map (·.1)=b.recs∧St W0 w' (K.and (Know.recs (Ja q l.length cap) l)) L:=by
 obtain⟨c1,c2,rs,hu,c3,rfl⟩:=zKd ha;obtain⟨base,len,leader,sum,attr,last,first,maxt,prod,epoch,seq,count⟩:=x;simp only at har hc0 hcn hmx c1 c2 hu c3;obtain⟨cnt,rfl⟩:∃n:Nat,count=(n:Int):=⟨count.toNat,oM⟩;rw[Int.toNat_natCast]at hu;exact asm_ok said rows base len leader sum attr last first maxt prod epoch seq cnt _ rfl hs1 hs2 oM c1 c2 har oM hr1 hmx rs hu c3 h
variable {W0 w:World}{K:Know}{L:List Res}
theorem zGd(p:Nat)(i i1 i2 j:InS)(said:Bs)(x:PreS)(e e2:Int)(hxl: -2147483648≤x.len∧x.len<2147483648)(hsl:said.length≤140737488355328)(ht1:i.take 61=(said,i1))(hp:(⟨said,0,0⟩:InS).pre=(x,j))(hj:j.err=e)(he:e≠0)(hf:i1.fail e=i2)(he2:i2.err=e2)(he3:e2≠0)(h:St W0 w K (.inp p i::L)):
 Calls Jd 167 #[zAD p] w fun en w'=>en=Jb (.agg #[I O 0,I O 0,U false,U false,U false,I O 0,I O 0,I O 0,I O 0,I O 0,I O 0,Ja none 0 0])∧St W0 w' K (.inp p i2::L):=by
 have g1:=h.allocRaw #[I O 0,I O 0,U false,U false,U false,I O 0,I O 0,I O 0,I O 0,I O 0,I O 0,Ja none 0 0] 30;obtain⟨rb,hrb⟩:=eX w.heap.size;rw[hrb]at g1;have H:=hQd g1;have HT1:=hQd ht1;have HSL:=hQd hsl;have HP:=hQd hp;have HJ:=hQd hj;have HF:=hQd hf;have HT2:=hQd (show i2.take (x.len - 49)=([],i2)from InS.take_err (by rw[he2];exact he3));have HE3:=hQd he2;have gz:(e==0)=false:=by rw[beq_eq_false_iff_ne];exact he
 have gz2:(e !=0)=true:=by rw[bne_iff_ne];exact he
 have gy:(e2==0)=false:=by rw[beq_eq_false_iff_ne];exact he3
 have gy2:(e2 !=0)=true:=by rw[bne_iff_ne];exact he3
 have f1:wrap64 (x.len - 49)=x.len - 49:=by unfold wrap64;omega
 have f2:IntKind.i64.wrap (x.len - 49)=x.len - 49:=IntWalk.i64_in _ oM;clear h g1 ht1 hsl hp hj hf he2 he he3 hxl;go_enter Tryz.func167,Tryz.ntmps167
 go_wp2_with (first
  |(go_at_call 184;(with_reducible refine(zDB p i i1 _ said HT1.out H.out.p1).zM ?_);clear H;intro wn H)
  |(go_at_call 156;(with_reducible refine(zEo said HSL.out H.out).mono ?_);rintro e_ wn ⟨bi,rfl,h⟩;replace H:=hQd h;clear h)
  |(go_at_call 188;(with_reducible refine(zBN bi _ j x HP.out H.out).zM ?_);clear H;intro wn H;have h:=H.out;obtain⟨pb,hpb⟩:=eX wn.heap.size;have h:=h.allocRaw #[I O x.base,I O x.len,I O x.leader,I O x.sum,I O x.attr,I O x.last,I O x.first,I O x.maxt,I O x.prod,I O x.epoch,I O x.seq,I O x.count] 130;rw[hpb]at h;obtain⟨x0,x1,x2,x3,x4,x5,x6,x7,x8,x9,x10,x11,y0,y1,y2,y3,y4,y5,y6,y7,y8,y9,y10,y11⟩:=zAd (b:=pb) (h);replace H:=hQd h.p1;clear h)
  |(go_at_call 168;(with_reducible refine(zDC bi j e HJ.out H.out).zM ?_);clear H;intro wn H;obtain⟨x0,x1,x2,x3,x4,x5,x6,x7,x8,x9,x10,x11,y0,y1,y2,y3,y4,y5,y6,y7,y8,y9,y10,y11⟩:=zAd (b:=pb) (H.out.p1))
  |(go_at_call 158;(with_reducible refine(zPK p i1 i2 _ HF.out H.out.p2).zM ?_);clear H;intro wn H;obtain⟨x0,x1,x2,x3,x4,x5,x6,x7,x8,x9,x10,x11,y0,y1,y2,y3,y4,y5,y6,y7,y8,y9,y10,y11⟩:=zAd (b:=pb) (H.out.p2))
  |(go_at_call 184;(with_reducible refine(zDB p i2 i2 _ [] HT2.out H.out).zM ?_);clear H;intro wn H;obtain⟨x0,x1,x2,x3,x4,x5,x6,x7,x8,x9,x10,x11,y0,y1,y2,y3,y4,y5,y6,y7,y8,y9,y10,y11⟩:=zAd (b:=pb) (H.out.p2))
  |(go_at_call 168;(with_reducible refine(zDC p i2 e2 HE3.out H.out).zM ?_);clear H;intro wn H;obtain⟨x0,x1,x2,x3,x4,x5,x6,x7,x8,x9,x10,x11,y0,y1,y2,y3,y4,y5,y6,y7,y8,y9,y10,y11⟩:=zAd (b:=pb) (H.out.p2);obtain⟨a0,a1,a2,a3,a4,a5,a6,a7,a8,a9,a10,a11,f0,f1,f2,f3,f4,f5,f6,f7,f8,f9,f10,f11⟩:=zAd (b:=rb) (H.out.p3)))
 have hz:St W0 _ _ (.raw rb #[I O 0,I O 0,U false,U false,U false,I O 0,I O 0,I O 0,I O 0,I O 0,I O 0,Ja none 0 0] 30::_):=St.sets12 _ _ _ _ _ _ _ _ _ _ _ _ (H.out.p3);refine bodyPost_ret (zAn rfl _ _ rb [I O 0,I O 0,U false,U false,U false,I O 0,I O 0,I O 0,I O 0,I O 0,I O 0,Ja none 0 0] _ rfl (zAp hz) Tryz.underlying30 rfl kR) rfl ?_;exact⟨rfl,hz.drop.p1.drop.p1.drop⟩
theorem zKa(p:Nat)(i i1 i3 j:InS)(said rows:Bs)(x:PreS)(e2:Int)(hxl: -2147483648≤x.len∧x.len<2147483648)(hsl:said.length≤140737488355328)(ht1:i.take 61=(said,i1))(hp:(⟨said,0,0⟩:InS).pre=(x,j))(hj:j.err=0)(ht2:i1.take (x.len - 49)=(rows,i3))(he2:i3.err=e2)(he3:e2≠0)(h:St W0 w K (.inp p i::L)):
 Calls Jd 167 #[zAD p] w fun en w'=>en=Jb (.agg #[I O 0,I O 0,U false,U false,U false,I O 0,I O 0,I O 0,I O 0,I O 0,I O 0,Ja none 0 0])∧St W0 w' K (.inp p i3::L):=by
 have g1:=h.allocRaw #[I O 0,I O 0,U false,U false,U false,I O 0,I O 0,I O 0,I O 0,I O 0,I O 0,Ja none 0 0] 30;obtain⟨rb,hrb⟩:=eX w.heap.size;rw[hrb]at g1;have H:=hQd g1;have HT1:=hQd ht1;have HSL:=hQd hsl;have HP:=hQd hp;have HJ:=hQd hj;have HT2:=hQd ht2;have HE3:=hQd he2;have gy:(e2==0)=false:=by rw[beq_eq_false_iff_ne];exact he3
 have gy2:(e2 !=0)=true:=by rw[bne_iff_ne];exact he3
 have f1:wrap64 (x.len - 49)=x.len - 49:=by unfold wrap64;omega
 have f2:IntKind.i64.wrap (x.len - 49)=x.len - 49:=IntWalk.i64_in _ oM;clear h g1 ht1 hsl hp hj ht2 he2 he3 hxl;go_enter Tryz.func167,Tryz.ntmps167
 go_wp2_with (first
  |(go_at_call 184;(with_reducible refine(zDB p i i1 _ said HT1.out H.out.p1).zM ?_);clear H;intro wn H)
  |(go_at_call 156;(with_reducible refine(zEo said HSL.out H.out).mono ?_);rintro e_ wn ⟨bi,rfl,h⟩;replace H:=hQd h;clear h)
  |(go_at_call 188;(with_reducible refine(zBN bi _ j x HP.out H.out).zM ?_);clear H;intro wn H;have h:=H.out;obtain⟨pb,hpb⟩:=eX wn.heap.size;have h:=h.allocRaw #[I O x.base,I O x.len,I O x.leader,I O x.sum,I O x.attr,I O x.last,I O x.first,I O x.maxt,I O x.prod,I O x.epoch,I O x.seq,I O x.count] 130;rw[hpb]at h;obtain⟨x0,x1,x2,x3,x4,x5,x6,x7,x8,x9,x10,x11,y0,y1,y2,y3,y4,y5,y6,y7,y8,y9,y10,y11⟩:=zAd (b:=pb) (h);replace H:=hQd h.p1;clear h)
  |(go_at_call 168;(with_reducible refine(zDC bi j 0 HJ.out H.out).zM ?_);clear H;intro wn H;obtain⟨x0,x1,x2,x3,x4,x5,x6,x7,x8,x9,x10,x11,y0,y1,y2,y3,y4,y5,y6,y7,y8,y9,y10,y11⟩:=zAd (b:=pb) (H.out.p1))
  |(go_at_call 184;(with_reducible refine(zDB p i1 i3 _ rows HT2.out H.out.p2).zM ?_);clear H;intro wn H;obtain⟨x0,x1,x2,x3,x4,x5,x6,x7,x8,x9,x10,x11,y0,y1,y2,y3,y4,y5,y6,y7,y8,y9,y10,y11⟩:=zAd (b:=pb) (H.out.p2))
  |(go_at_call 168;(with_reducible refine(zDC p i3 e2 HE3.out H.out).zM ?_);clear H;intro wn H;obtain⟨x0,x1,x2,x3,x4,x5,x6,x7,x8,x9,x10,x11,y0,y1,y2,y3,y4,y5,y6,y7,y8,y9,y10,y11⟩:=zAd (b:=pb) (H.out.p2);obtain⟨a0,a1,a2,a3,a4,a5,a6,a7,a8,a9,a10,a11,f0,f1,f2,f3,f4,f5,f6,f7,f8,f9,f10,f11⟩:=zAd (b:=rb) (H.out.p3)))
 have hz:St W0 _ _ (.raw rb #[I O 0,I O 0,U false,U false,U false,I O 0,I O 0,I O 0,I O 0,I O 0,I O 0,Ja none 0 0] 30::_):=St.sets12 _ _ _ _ _ _ _ _ _ _ _ _ (H.out.p3);refine bodyPost_ret (zAn rfl _ _ rb [I O 0,I O 0,U false,U false,U false,I O 0,I O 0,I O 0,I O 0,I O 0,I O 0,Ja none 0 0] _ rfl (zAp hz) Tryz.underlying30 rfl kR) rfl ?_;exact⟨rfl,hz.drop.p1.drop.p1.drop⟩
variable {W0 w:World}{K:Know}{L:List Res}
theorem zM0(p:Nat)(i i1 i3 j:InS)(said rows:Bs)(x:PreS)(hxl: -2147483648≤x.len∧x.len<2147483648)(hs1:21≤said.length)(hsl:said.length≤140737488355328)(hr1:rows.length≤1000000)(har:R64 x.attr)(hc0:0≤x.count)(hcn:x.count≤2147483647)(hmx:x.first≤9223372036854775807)(ht1:i.take 61=(said,i1))(hp:(⟨said,0,0⟩:InS).pre=(x,j))(hj:j.err=0)(ht2:i1.take (x.len - 49)=(rows,i3))(he3:i3.err=0)(b:BatS)(ha:asmB x said rows=.ok b)(h:St W0 w K (.inp p i::L)):
 Calls Jd 167 #[zAD p] w fun en w'=>∃(q:Option Addr) (l:List (RecS×Value)) (cap:Nat),en=Jb (.agg #[I O b.base,I O b.leader,U b.app,U b.txn,U b.ctl,I O b.last,I O b.first,I O b.maxt,I O b.prod,I O b.epoch,I O b.seq,Ja q l.length cap])∧l.map (·.1)=b.recs∧St W0 w' (K.and (Know.recs (Ja q l.length cap) l)) (.inp p i3::L):=by
 have g1:=h.allocRaw #[I O 0,I O 0,U false,U false,U false,I O 0,I O 0,I O 0,I O 0,I O 0,I O 0,Ja none 0 0] 30;obtain⟨rb,hrb⟩:=eX w.heap.size;rw[hrb]at g1;have H:=hQd g1;have HT1:=hQd ht1;have HSL:=hQd hsl;have HS1:=hQd hs1;have HR1:=hQd hr1;have HAR:=hQd har;have HC0:=hQd hc0;have HCN:=hQd hcn;have HMX:=hQd hmx;have HA:=hQd ha;have HP:=hQd hp;have HJ:=hQd hj;have HT2:=hQd ht2;have HE3:=hQd he3;have f1:wrap64 (x.len - 49)=x.len - 49:=by unfold wrap64;omega
 have f2:IntKind.i64.wrap (x.len - 49)=x.len - 49:=IntWalk.i64_in _ oM;clear h g1 ht1 hsl hs1 hr1 har hc0 hcn hmx ha hp hj ht2 he3 hxl;go_enter Tryz.func167,Tryz.ntmps167
 go_wp2_with (first
  |(go_at_call 184;(with_reducible refine(zDB p i i1 _ said HT1.out H.out.p1).zM ?_);clear H;intro wn H)
  |(go_at_call 156;(with_reducible refine(zEo said HSL.out H.out).mono ?_);rintro e_ wn ⟨bi,rfl,h⟩;replace H:=hQd h;clear h)
  |(go_at_call 188;(with_reducible refine(zBN bi _ j x HP.out H.out).zM ?_);clear H;intro wn H;have h:=H.out;obtain⟨pb,hpb⟩:=eX wn.heap.size;have h:=h.allocRaw #[I O x.base,I O x.len,I O x.leader,I O x.sum,I O x.attr,I O x.last,I O x.first,I O x.maxt,I O x.prod,I O x.epoch,I O x.seq,I O x.count] 130;rw[hpb]at h;obtain⟨x0,x1,x2,x3,x4,x5,x6,x7,x8,x9,x10,x11,y0,y1,y2,y3,y4,y5,y6,y7,y8,y9,y10,y11⟩:=zAd (b:=pb) (h);replace H:=hQd h.p1;clear h)
  |(go_at_call 168;(with_reducible refine(zDC bi j 0 HJ.out H.out).zM ?_);clear H;intro wn H;obtain⟨x0,x1,x2,x3,x4,x5,x6,x7,x8,x9,x10,x11,y0,y1,y2,y3,y4,y5,y6,y7,y8,y9,y10,y11⟩:=zAd (b:=pb) (H.out.p1))
  |(go_at_call 184;(with_reducible refine(zDB p i1 i3 _ rows HT2.out H.out.p2).zM ?_);clear H;intro wn H;obtain⟨x0,x1,x2,x3,x4,x5,x6,x7,x8,x9,x10,x11,y0,y1,y2,y3,y4,y5,y6,y7,y8,y9,y10,y11⟩:=zAd (b:=pb) (H.out.p2))
  |(go_at_call 168;(with_reducible refine(zDC p i3 0 HE3.out H.out).zM ?_);clear H;intro wn H;obtain⟨x0,x1,x2,x3,x4,x5,x6,x7,x8,x9,x10,x11,y0,y1,y2,y3,y4,y5,y6,y7,y8,y9,y10,y11⟩:=zAd (b:=pb) (H.out.p2);obtain⟨a0,a1,a2,a3,a4,a5,a6,a7,a8,a9,a10,a11,f0,f1,f2,f3,f4,f5,f6,f7,f8,f9,f10,f11⟩:=zAd (b:=rb) (H.out.p3))
  |(go_at_call 189;(with_reducible refine(zSP x said rows HS1.out HSL.out HR1.out HAR.out HC0.out HCN.out HMX.out b HA.out H.out).mono ?_);rintro e_ wn ⟨q,l,cap,rfl,hl,h⟩;have h:=h.allocRaw #[I O b.base,I O b.leader,U b.app,U b.txn,U b.ctl,I O b.last,I O b.first,I O b.maxt,I O b.prod,I O b.epoch,I O b.seq,Ja q l.length cap] 30;obtain⟨bB,hbB⟩:=eX wn.heap.size;rw[hbB]at h;obtain⟨c0,c1,c2,c3,c4,c5,c6,c7,c8,c9,c10,c11,g0,g1,g2,g3,g4,g5,g6,g7,g8,g9,g10,g11⟩:=zAd (b:=bB) (h);obtain⟨a0,a1,a2,a3,a4,a5,a6,a7,a8,a9,a10,a11,f0,f1,f2,f3,f4,f5,f6,f7,f8,f9,f10,f11⟩:=zAd (b:=rb) (h.p4);replace H:=hQd h;clear h))
 have hz:St W0 _ _ (.raw rb #[I O b.base,I O b.leader,U b.app,U b.txn,U b.ctl,I O b.last,I O b.first,I O b.maxt,I O b.prod,I O b.epoch,I O b.seq,Ja q l.length cap] 30::_):=St.sets12 _ _ _ _ _ _ _ _ _ _ _ _ (H.out.p4);refine bodyPost_ret (zAn rfl _ _ rb [I O b.base,I O b.leader,U b.app,U b.txn,U b.ctl,I O b.last,I O b.first,I O b.maxt,I O b.prod,I O b.epoch,I O b.seq,Ja q l.length cap] _ rfl (zAp hz) Tryz.underlying30 rfl kR) rfl ?_;exact⟨q,l,cap,rfl,hl,hz.drop.drop.p1.drop.p1.drop⟩
theorem zLR(p:Nat)(i i1 i3 j:InS)(said rows:Bs)(x:PreS)(hxl: -2147483648≤x.len∧x.len<2147483648)(hs1:21≤said.length)(hsl:said.length≤140737488355328)(hr1:rows.length≤1000000)(har:R64 x.attr)(hc0:0≤x.count)(hcn:x.count≤2147483647)(hmx:x.first≤9223372036854775807)(ht1:i.take 61=(said,i1))(hp:(⟨said,0,0⟩:InS).pre=(x,j))(hj:j.err=0)(ht2:i1.take (x.len - 49)=(rows,i3))(he3:i3.err=0)(i4:InS)(e:Int)(ha:asmB x said rows=.error e)(hf:i3.fail e=i4)(h:St W0 w K (.inp p i::L)):
 Calls Jd 167 #[zAD p] w fun en w'=>en=Jb (.agg #[I O 0,I O 0,U false,U false,U false,I O 0,I O 0,I O 0,I O 0,I O 0,I O 0,Ja none 0 0])∧St W0 w' K (.inp p i4::L):=by
 have g1:=h.allocRaw #[I O 0,I O 0,U false,U false,U false,I O 0,I O 0,I O 0,I O 0,I O 0,I O 0,Ja none 0 0] 30;obtain⟨rb,hrb⟩:=eX w.heap.size;rw[hrb]at g1;have H:=hQd g1;have HT1:=hQd ht1;have HSL:=hQd hsl;have HS1:=hQd hs1;have HR1:=hQd hr1;have HAR:=hQd har;have HC0:=hQd hc0;have HCN:=hQd hcn;have HMX:=hQd hmx;have HA:=hQd ha;have HP:=hQd hp;have HJ:=hQd hj;have HT2:=hQd ht2;have HE3:=hQd he3;have HF:=hQd hf;have gz:(e==0)=false:=by rw[beq_eq_false_iff_ne];exact zKe ha
 have gz2:(e !=0)=true:=by rw[bne_iff_ne];exact zKe ha
 have f1:wrap64 (x.len - 49)=x.len - 49:=by unfold wrap64;omega
 have f2:IntKind.i64.wrap (x.len - 49)=x.len - 49:=IntWalk.i64_in _ oM;clear h g1 ht1 hsl hs1 hr1 har hc0 hcn hmx ha hp hj ht2 he3 hxl hf;go_enter Tryz.func167,Tryz.ntmps167
 go_wp2_with (first
  |(go_at_call 184;(with_reducible refine(zDB p i i1 _ said HT1.out H.out.p1).zM ?_);clear H;intro wn H)
  |(go_at_call 156;(with_reducible refine(zEo said HSL.out H.out).mono ?_);rintro e_ wn ⟨bi,rfl,h⟩;replace H:=hQd h;clear h)
  |(go_at_call 188;(with_reducible refine(zBN bi _ j x HP.out H.out).zM ?_);clear H;intro wn H;have h:=H.out;obtain⟨pb,hpb⟩:=eX wn.heap.size;have h:=h.allocRaw #[I O x.base,I O x.len,I O x.leader,I O x.sum,I O x.attr,I O x.last,I O x.first,I O x.maxt,I O x.prod,I O x.epoch,I O x.seq,I O x.count] 130;rw[hpb]at h;obtain⟨x0,x1,x2,x3,x4,x5,x6,x7,x8,x9,x10,x11,y0,y1,y2,y3,y4,y5,y6,y7,y8,y9,y10,y11⟩:=zAd (b:=pb) (h);replace H:=hQd h.p1;clear h)
  |(go_at_call 168;(with_reducible refine(zDC bi j 0 HJ.out H.out).zM ?_);clear H;intro wn H;obtain⟨x0,x1,x2,x3,x4,x5,x6,x7,x8,x9,x10,x11,y0,y1,y2,y3,y4,y5,y6,y7,y8,y9,y10,y11⟩:=zAd (b:=pb) (H.out.p1))
  |(go_at_call 184;(with_reducible refine(zDB p i1 i3 _ rows HT2.out H.out.p2).zM ?_);clear H;intro wn H;obtain⟨x0,x1,x2,x3,x4,x5,x6,x7,x8,x9,x10,x11,y0,y1,y2,y3,y4,y5,y6,y7,y8,y9,y10,y11⟩:=zAd (b:=pb) (H.out.p2))
  |(go_at_call 168;(with_reducible refine(zDC p i3 0 HE3.out H.out).zM ?_);clear H;intro wn H;obtain⟨x0,x1,x2,x3,x4,x5,x6,x7,x8,x9,x10,x11,y0,y1,y2,y3,y4,y5,y6,y7,y8,y9,y10,y11⟩:=zAd (b:=pb) (H.out.p2);obtain⟨a0,a1,a2,a3,a4,a5,a6,a7,a8,a9,a10,a11,f0,f1,f2,f3,f4,f5,f6,f7,f8,f9,f10,f11⟩:=zAd (b:=rb) (H.out.p3))
  |(go_at_call 189;(with_reducible refine(zUp x said rows HS1.out HSL.out HR1.out HAR.out HC0.out HCN.out HMX.out e HA.out H.out).mono ?_);rintro e_ wn ⟨b,q,n,cap,rfl,h⟩;have h:=h.allocRaw #[I O b.base,I O b.leader,U b.app,U b.txn,U b.ctl,I O b.last,I O b.first,I O b.maxt,I O b.prod,I O b.epoch,I O b.seq,Ja q n cap] 30;obtain⟨bB,hbB⟩:=eX wn.heap.size;rw[hbB]at h;obtain⟨c0,c1,c2,c3,c4,c5,c6,c7,c8,c9,c10,c11,g0,g1,g2,g3,g4,g5,g6,g7,g8,g9,g10,g11⟩:=zAd (b:=bB) (h);obtain⟨a0,a1,a2,a3,a4,a5,a6,a7,a8,a9,a10,a11,f0,f1,f2,f3,f4,f5,f6,f7,f8,f9,f10,f11⟩:=zAd (b:=rb) (h.p4);replace H:=hQd h;clear h)
  |(go_at_call 158;(with_reducible refine(zPK p i3 i4 _ HF.out H.out.p1).zM ?_);clear H;intro wn H;obtain⟨c0,c1,c2,c3,c4,c5,c6,c7,c8,c9,c10,c11,g0,g1,g2,g3,g4,g5,g6,g7,g8,g9,g10,g11⟩:=zAd (b:=bB) (H.out.p1);obtain⟨a0,a1,a2,a3,a4,a5,a6,a7,a8,a9,a10,a11,f0,f1,f2,f3,f4,f5,f6,f7,f8,f9,f10,f11⟩:=zAd (b:=rb) (H.out.p4)))
 have hz:St W0 _ _ (.raw rb #[I O 0,I O 0,U false,U false,U false,I O 0,I O 0,I O 0,I O 0,I O 0,I O 0,Ja none 0 0] 30::_):=St.sets12 _ _ _ _ _ _ _ _ _ _ _ _ (H.out.p4);refine bodyPost_ret (zAn rfl _ _ rb [I O 0,I O 0,U false,U false,U false,I O 0,I O 0,I O 0,I O 0,I O 0,I O 0,Ja none 0 0] _ rfl (zAp hz) Tryz.underlying30 rfl kR) rfl ?_;exact⟨rfl,hz.drop.p1.drop.p1.drop.p1.drop⟩
theorem zKb(p:Nat)(s:Bs)(pos:Nat)(hsl:s.length≤1000000)(hp:pos≤s.length)(b:BatS)(n:Nat)(hr:zBT (s.drop pos)=.ok (b,n))(h:St W0 w K (.inp p ⟨s,pos,0⟩::L)):
 Calls Jd 167 #[zAD p] w fun en w'=>∃(q:Option Addr) (l:List (RecS×Value)) (cap:Nat),en=Jb (.agg #[I O b.base,I O b.leader,U b.app,U b.txn,U b.ctl,I O b.last,I O b.first,I O b.maxt,I O b.prod,I O b.epoch,I O b.seq,Ja q l.length cap])∧l.map (·.1)=b.recs∧St W0 w' (K.and (Know.recs (Ja q l.length cap) l)) (.inp p ⟨s,pos+n,0⟩::L):=by
 obtain⟨x,hx,rfl,hn,ha⟩:=zDW hr;obtain⟨r1,r2,r3,r4,r5,r6⟩:=zBO hx;have h61:=(zB5 hx).1;rw[Jf]at hn h61;have hl61:((s.drop pos).take 61).length=61:=by rw[Jk,Jf];omega
 have hrl:(((s.drop pos).drop 61).take (x.len - 49).toNat).length≤1000000:=by rw[Jk,Jf,Jf];omega
 have ht1:(⟨s,pos,0⟩:InS).take 61=((s.drop pos).take 61,⟨s,pos+61,0⟩):=InS.take_ok rfl oM (by simp only[InS.left];omega)
 have ht2:(⟨s,pos+61,0⟩:InS).take (x.len - 49)=(((s.drop pos).drop 61).take (x.len - 49).toNat,⟨s,pos+61+(x.len - 49).toNat,0⟩):=by
  rw[InS.take_ok rfl oM (by simp only[InS.left];omega),List.drop_drop]
 have hpre:=zMq ((s.drop pos).take 61) 0 oM;rw[List.drop_zero,zBM _ (by rw[Jf];omega),hx]at hpre;rw[←Jm];exact zM0 p _ _ _ _ _ _ x r1 (by rw[hl61];omega) (by rw[hl61];omega) hrl r3 r4 r5 r6 ht1 hpre rfl ht2 rfl b ha h
theorem zLQ(p:Nat)(s:Bs)(pos:Nat)(hsl:s.length≤1000000)(hp:pos≤s.length)(e:Int)(hr:zBT (s.drop pos)=.error e)(h:St W0 w K (.inp p ⟨s,pos,0⟩::L)):
 Calls Jd 167 #[zAD p] w fun en w'=>en=Jb (.agg #[I O 0,I O 0,U false,U false,U false,I O 0,I O 0,I O 0,I O 0,I O 0,I O 0,Ja none 0 0])∧∃q,q≤s.length∧St W0 w' K (.inp p ⟨s,q,e⟩::L):=by
 have hne:=zR6 hr
 by_cases h61:s.length<pos+61
 ·unfold zBT at hr;rw[zMk (by rw[Jf];omega)]at hr
  cases hr
  have ht1:(⟨s,pos,0⟩:InS).take 61=([],⟨s,pos,1⟩):=InS.take_short oM (by simp only[InS.left];omega);obtain⟨q,_,hpre⟩:=zOH [] 0 (Jo _) dD;exact(zGd p _ _ ⟨s,pos,1⟩ _ [] PreS.zero 1 1 dD dD ht1 hpre rfl dD rfl rfl dD h).mono fun _ _ hh=>⟨hh.1,pos,hp,hh.2⟩
 have hl61:((s.drop pos).take 61).length=61:=by rw[Jk,Jf];omega
 have ht1:(⟨s,pos,0⟩:InS).take 61=((s.drop pos).take 61,⟨s,pos+61,0⟩):=InS.take_ok rfl oM (by simp only[InS.left];omega);have hpre:=zMq ((s.drop pos).take 61) 0 oM;rw[List.drop_zero,zBM _ (by rw[Jf];omega)]at hpre;unfold zBT at hr
 cases hx:zAR (s.drop pos)with
 |error f=>
  rw[hx]at hr hpre;simp only at hr hpre
  cases hr
  exact(zGd p _ _ ⟨s,pos+61,e⟩ _ _ PreS.zero e e dD (by rw[hl61];omega) ht1 hpre rfl hne rfl rfl hne h).mono fun _ _ hh=>⟨hh.1,pos+61,oM,hh.2⟩
 |ok x=>
  rw[hx]at hr hpre;simp only at hr hpre;obtain⟨r1,r2,r3,r4,r5,r6⟩:=zBO hx
  by_cases hlen:(s.drop pos).length<61+(x.len - 49).toNat
  ·rw[if_pos hlen]at hr
   cases hr
   rw[Jf]at hlen;have ht2:(⟨s,pos+61,0⟩:InS).take (x.len - 49)=([],⟨s,pos+61,1⟩):=InS.take_short oM (by simp only[InS.left];omega);exact(zKa p _ _ _ _ _ _ x 1 r1 (by rw[hl61];omega) ht1 hpre rfl ht2 rfl dD h).mono fun _ _ hh=>⟨hh.1,pos+61,oM,hh.2⟩
  ·rw[if_neg hlen]at hr;rw[Jf]at hlen;have hrl:(((s.drop pos).drop 61).take (x.len - 49).toNat).length≤1000000:=by rw[Jk,Jf,Jf];omega
   have ht2:(⟨s,pos+61,0⟩:InS).take (x.len - 49)=(((s.drop pos).drop 61).take (x.len - 49).toNat,⟨s,pos+61+(x.len - 49).toNat,0⟩):=by
    rw[InS.take_ok rfl oM (by simp only[InS.left];omega),List.drop_drop]
   cases ha:asmB x ((s.drop pos).take 61) (((s.drop pos).drop 61).take (x.len - 49).toNat)with
   |ok b=>rw[ha]at hr;cases hr
   |error f=>
    rw[ha]at hr;simp only at hr
    cases hr
    exact(zLR p _ _ _ _ _ _ x r1 (by rw[hl61];omega) (by rw[hl61];omega) hrl r3 r4 r5 r6 ht1 hpre rfl ht2 rfl ⟨s,pos+61+(x.len - 49).toNat,e⟩ e ha rfl h).mono fun _ _ hh=>⟨hh.1,_,oM,hh.2⟩
theorem zGO:∀(vs:List Value) (o:Nat) (c:Array Value) (i:Nat),(zEE c o vs)[i]? =if o≤i∧i<o+vs.length∧i<c.size then vs[i - o]? else c[i]?
 |[],o,c,i=>by
  show c[i]? =_
  rw[if_neg (by simp;omega)]
 |v::r,o,c,i=>by
  show(zEE (c.setIfInBounds o v) (o+1) r)[i]? =_
  rw[zGO r (o+1) _ i];simp only[Array.size_setIfInBounds,Jg]
  by_cases h1:o+1≤i∧i<o+1+r.length∧i<c.size
  ·exact zq25
  ·exact zq20
theorem zCy(c cs:Array Value)(h:c.size=cs.size):zEE c 0 cs.toList=cs:=by
 refine Array.ext_getElem? fun i=> ?_
 rw[zGO]
 exact zq23
variable {W0 w:World}{K:Know}{L:List Res}
theorem zSe(h:St W0 w K L):Calls Jd 166 #[Z ⟨#[]⟩] w fun en w'=>en=Jb (.tuple #[I O 0,I O 0])∧St W0 w' K L:=zBq [] 0 0 rfl dD h
theorem zOJ{R:Bs}(h:R.length<61):zK3 R=(0,0):=by unfold zK3;rw[if_pos h]
theorem zSf{R:Bs}{e:Int}(h:¬R.length<61)(hp:zAR R=.error e):zK3 (R.take 61)=(0,e):=by
 unfold zK3;rw[if_neg (by rw[Jk];omega),zBM R oM,hp]
theorem zMs{R:Bs}{x:PreS}(h:¬R.length<61)(hp:zAR R=.ok x):zK3 (R.take 61)=(x.len+12,0):=by
 unfold zK3;rw[if_neg (by rw[Jk];omega),zBM R oM,hp]
theorem zII{R:Bs}{x:PreS}(hp:zAR R=.ok x)(h:61+(x.len - 49).toNat≤R.length):zBT ((R.take (61+(x.len - 49).toNat)).drop 0)=match asmB x (R.take 61) ((R.drop 61).take (x.len - 49).toNat)with| .error e=> .error e| .ok b=> .ok (b,61+(x.len - 49).toNat):=by
 rw[List.drop_zero];have hl:(R.take (61+(x.len - 49).toNat)).length=61+(x.len - 49).toNat:=by rw[Jk];omega
 have hpp:=zEO (R.take (61+(x.len - 49).toNat)) (R.drop (61+(x.len - 49).toNat)) (by rw[hl];omega);rw[List.take_append_drop]at hpp;unfold zBT;rw[←hpp,hp];simp only;rw[if_neg (by rw[hl];omega),List.take_take,Nat.min_eq_left oM,List.drop_take,Nat.add_sub_cancel_left,List.take_take,Nat.min_self]
 cases asmB x (R.take 61) ((R.drop 61).take (x.len - 49).toNat)<;>rfl
theorem zOV{v0:Value}{n0:Nat}{s0:Bs}(h:St W0 w K (.row v0 5 1 n0 (zAu s0)::L)):
 Calls Jd 137 #[Ja none 0 0] w fun en w'=>en=Jb (.tuple #[.agg #[I O 0,I O 0,U false,U false,U false,I O 0,I O 0,I O 0,I O 0,I O 0,I O 0,Ja none 0 0],I O 0,I O 0])∧St W0 w' K (.row v0 5 1 n0 (zAu s0)::L):=by
 obtain⟨rb,hrb⟩:=eX w.heap.size;have g1:=(h.allocRaw #[I O 0,I O 0,U false,U false,U false,I O 0,I O 0,I O 0,I O 0,I O 0,I O 0,Ja none 0 0] 30).p1;rw[hrb]at g1;have H:=hQd g1;have hc0:=zRh (w.alloc (.cells #[I O 0,I O 0,U false,U false,U false,I O 0,I O 0,I O 0,I O 0,I O 0,I O 0,Ja none 0 0] 30 (0,0)));clear g1;clear h;go_enter Tryz.func137,Tryz.ntmps137;go_wp2_with (go_at_call 166;(with_reducible refine(zSe H.out).mono ?_);rintro e_ wn ⟨rfl,h⟩;obtain⟨x0,x1,x2,x3,x4,x5,x6,x7,x8,x9,x10,x11,y0,y1,y2,y3,y4,y5,y6,y7,y8,y9,y10,y11⟩:=zAd (b:=rb) (h.p1);replace H:=hQd h;clear h);have hz:St W0 _ _ (.raw rb #[I O 0,I O 0,U false,U false,U false,I O 0,I O 0,I O 0,I O 0,I O 0,I O 0,Ja none 0 0] 30::_):=St.sets12 _ _ _ _ _ _ _ _ _ _ _ _ (H.out.p1);refine bodyPost_ret (zA3 rfl _ _ rb [I O 0,I O 0,U false,U false,U false,I O 0,I O 0,I O 0,I O 0,I O 0,I O 0,Ja none 0 0] _ rfl (zAp hz) Tryz.underlying30 rfl kR) rfl ?_;exact⟨rfl,hz.drop⟩
theorem zMB{v0:Value}{n0:Nat}{s0:Bs}(ad:Addr)(m c:Nat)(R:Bs)(hm:m=R.length)(hmc:m≤c)(hr:R.length≤1000000)(hcv:∀(W0 w:World) (K:Know) (L:List Res),St W0 w K (.row v0 5 1 n0 (zAu s0)::L)→∀k,k≤m→∀c',(convert 57 9 (Ja (some ad) k c')).run Jd w=.ok (Z (bb (R.take k))) w)(h61:R.length<61)(h:St W0 w K (.row v0 5 1 n0 (zAu s0)::L)):
 Calls Jd 137 #[Ja (some ad) m c] w fun en w'=>en=Jb (.tuple #[.agg #[I O 0,I O 0,U false,U false,U false,I O 0,I O 0,I O 0,I O 0,I O 0,I O 0,Ja none 0 0],I O 0,I O 0])∧St W0 w' K (.row v0 5 1 n0 (zAu s0)::L):=by
 obtain⟨rb,hrb⟩:=eX w.heap.size;have g1:=(h.allocRaw #[I O 0,I O 0,U false,U false,U false,I O 0,I O 0,I O 0,I O 0,I O 0,I O 0,Ja none 0 0] 30).p1;rw[hrb]at g1;have H:=hQd g1;have hmi:(m:Int)≤1000000:=by omega
 have hmci:(m:Int)≤(c:Int):=by omega
 have HCVH:=hQd hcv;have hmin:min (m:Int) 61=(m:Int):=by omega
 have hcw:=hcv _ _ _ _ g1 m (Jo _);have ht:R.take m=R:=Jj oM;rw[ht]at hcw;have HP:=hQd (zOJ h61);have HL:=hQd (show R.length≤140737488355328 by omega);clear g1 ht h61;clear h hcv hm hr;go_enter Tryz.func137,Tryz.ntmps137;go_wp2_with (go_at_call 166;(with_reducible refine(zBq R 0 0 HP.out HL.out H.out).mono ?_);rintro e_ wn ⟨rfl,h⟩;obtain⟨x0,x1,x2,x3,x4,x5,x6,x7,x8,x9,x10,x11,y0,y1,y2,y3,y4,y5,y6,y7,y8,y9,y10,y11⟩:=zAd (b:=rb) (h.p1);replace H:=hQd h;clear h);have hz:St W0 _ _ (.raw rb #[I O 0,I O 0,U false,U false,U false,I O 0,I O 0,I O 0,I O 0,I O 0,I O 0,Ja none 0 0] 30::_):=St.sets12 _ _ _ _ _ _ _ _ _ _ _ _ (H.out.p1);refine bodyPost_ret (zA3 rfl _ _ rb [I O 0,I O 0,U false,U false,U false,I O 0,I O 0,I O 0,I O 0,I O 0,I O 0,Ja none 0 0] _ rfl (zAp hz) Tryz.underlying30 rfl kR) rfl ?_;exact⟨rfl,hz.drop⟩
theorem zQT{v0:Value}{n0:Nat}{s0:Bs}(ad:Addr)(m c:Nat)(R:Bs)(hm:m=R.length)(hmc:m≤c)(hr:R.length≤1000000)(hcv:∀(W0 w:World) (K:Know) (L:List Res),St W0 w K (.row v0 5 1 n0 (zAu s0)::L)→∀k,k≤m→∀c',(convert 57 9 (Ja (some ad) k c')).run Jd w=.ok (Z (bb (R.take k))) w)(h61:¬R.length<61)(e:Int)(hp:zAR R=.error e)(h:St W0 w K (.row v0 5 1 n0 (zAu s0)::L)):
 Calls Jd 137 #[Ja (some ad) m c] w fun en w'=>en=Jb (.tuple #[.agg #[I O 0,I O 0,U false,U false,U false,I O 0,I O 0,I O 0,I O 0,I O 0,I O 0,Ja none 0 0],I O 0,I O e])∧St W0 w' K (.row v0 5 1 n0 (zAu s0)::L):=by
 obtain⟨rb,hrb⟩:=eX w.heap.size;have g1:=(h.allocRaw #[I O 0,I O 0,U false,U false,U false,I O 0,I O 0,I O 0,I O 0,I O 0,I O 0,Ja none 0 0] 30).p1;rw[hrb]at g1;have H:=hQd g1;have hmi:(m:Int)≤1000000:=by omega
 have hmci:(m:Int)≤(c:Int):=by omega
 have HCVH:=hQd hcv;have hm61:(61:Int)≤(m:Int):=by omega
 have HL:=hQd (show(R.take 61).length≤140737488355328 by rw[Jk];omega);have HP:=hQd (zSf h61 hp);have h0:=zDG hp;have g1e:(e==0)=false:=by rw[beq_eq_false_iff_ne];exact h0
 have g2e:(e !=0)=true:=by simp[bne,g1e]
 clear hp h0
 by_cases hA:m≤61
 ·skip
  have hAi:(m:Int)≤61:=by omega
  have hcw:=hcv _ _ _ _ g1 m (Jo _);rw[show R.take m=R.take 61 by rw[show m=61 by omega]]at hcw;clear g1 hA h hcv hm hr;go_enter Tryz.func137,Tryz.ntmps137;go_wp2_with (go_at_call 166;(with_reducible refine(zBq (R.take 61) 0 e HP.out HL.out H.out).mono ?_);rintro e_ wn ⟨rfl,h⟩;obtain⟨x0,x1,x2,x3,x4,x5,x6,x7,x8,x9,x10,x11,y0,y1,y2,y3,y4,y5,y6,y7,y8,y9,y10,y11⟩:=zAd (b:=rb) (h.p1);replace H:=hQd h;clear h);have hz:St W0 _ _ (.raw rb #[I O 0,I O 0,U false,U false,U false,I O 0,I O 0,I O 0,I O 0,I O 0,I O 0,Ja none 0 0] 30::_):=St.sets12 _ _ _ _ _ _ _ _ _ _ _ _ (H.out.p1);refine bodyPost_ret (zA3 rfl _ _ rb [I O 0,I O 0,U false,U false,U false,I O 0,I O 0,I O 0,I O 0,I O 0,I O 0,Ja none 0 0] _ rfl (zAp hz) Tryz.underlying30 rfl kR) rfl ?_;exact⟨rfl,hz.drop⟩
 ·skip
  have hAi:¬(m:Int)≤61:=by omega
  have hcw:=hcv _ _ _ _ g1 61 oM;clear g1 hA h hcv hm hr;go_enter Tryz.func137,Tryz.ntmps137;go_wp2_with (go_at_call 166;(with_reducible refine(zBq (R.take 61) 0 e HP.out HL.out H.out).mono ?_);rintro e_ wn ⟨rfl,h⟩;obtain⟨x0,x1,x2,x3,x4,x5,x6,x7,x8,x9,x10,x11,y0,y1,y2,y3,y4,y5,y6,y7,y8,y9,y10,y11⟩:=zAd (b:=rb) (h.p1);replace H:=hQd h;clear h);have hz:St W0 _ _ (.raw rb #[I O 0,I O 0,U false,U false,U false,I O 0,I O 0,I O 0,I O 0,I O 0,I O 0,Ja none 0 0] 30::_):=St.sets12 _ _ _ _ _ _ _ _ _ _ _ _ (H.out.p1);refine bodyPost_ret (zA3 rfl _ _ rb [I O 0,I O 0,U false,U false,U false,I O 0,I O 0,I O 0,I O 0,I O 0,I O 0,Ja none 0 0] _ rfl (zAp hz) Tryz.underlying30 rfl kR) rfl ?_;exact⟨rfl,hz.drop⟩
theorem zOU{v0:Value}{n0:Nat}{s0:Bs}(ad:Addr)(m c:Nat)(R:Bs)(hm:m=R.length)(hmc:m≤c)(hr:R.length≤1000000)(hcv:∀(W0 w:World) (K:Know) (L:List Res),St W0 w K (.row v0 5 1 n0 (zAu s0)::L)→∀k,k≤m→∀c',(convert 57 9 (Ja (some ad) k c')).run Jd w=.ok (Z (bb (R.take k))) w)(h61:¬R.length<61)(x:PreS)(hp:zAR R=.ok x)(ht:R.length<61+(x.len - 49).toNat)(h:St W0 w K (.row v0 5 1 n0 (zAu s0)::L)):
 Calls Jd 137 #[Ja (some ad) m c] w fun en w'=>en=Jb (.tuple #[.agg #[I O 0,I O 0,U false,U false,U false,I O 0,I O 0,I O 0,I O 0,I O 0,I O 0,Ja none 0 0],I O 0,I O 0])∧St W0 w' K (.row v0 5 1 n0 (zAu s0)::L):=by
 obtain⟨rb,hrb⟩:=eX w.heap.size;have g1:=(h.allocRaw #[I O 0,I O 0,U false,U false,U false,I O 0,I O 0,I O 0,I O 0,I O 0,I O 0,Ja none 0 0] 30).p1;rw[hrb]at g1;have H:=hQd g1;have hmi:(m:Int)≤1000000:=by omega
 have hmci:(m:Int)≤(c:Int):=by omega
 have HCVH:=hQd hcv;have hm61:(61:Int)≤(m:Int):=by omega
 have HL:=hQd (show(R.take 61).length≤140737488355328 by rw[Jk];omega);have hpl:=(zB5 hp).2.2.2.1;obtain⟨nl,hnl⟩:=eX (x.len+12);have HP:=hQd (zMs h61 hp);rw[hnl]at HP;have hlt:(m:Int)<nl:=by omega
 clear hp ht hpl hnl
 by_cases hA:m≤61
 ·skip
  have hAi:(m:Int)≤61:=by omega
  have hcw:=hcv _ _ _ _ g1 m (Jo _);rw[show R.take m=R.take 61 by rw[show m=61 by omega]]at hcw;clear g1 hA h hcv hm hr;go_enter Tryz.func137,Tryz.ntmps137;go_wp2_with (go_at_call 166;(with_reducible refine(zBq (R.take 61) nl 0 HP.out HL.out H.out).mono ?_);rintro e_ wn ⟨rfl,h⟩;obtain⟨x0,x1,x2,x3,x4,x5,x6,x7,x8,x9,x10,x11,y0,y1,y2,y3,y4,y5,y6,y7,y8,y9,y10,y11⟩:=zAd (b:=rb) (h.p1);replace H:=hQd h;clear h);have hz:St W0 _ _ (.raw rb #[I O 0,I O 0,U false,U false,U false,I O 0,I O 0,I O 0,I O 0,I O 0,I O 0,Ja none 0 0] 30::_):=St.sets12 _ _ _ _ _ _ _ _ _ _ _ _ (H.out.p1);refine bodyPost_ret (zA3 rfl _ _ rb [I O 0,I O 0,U false,U false,U false,I O 0,I O 0,I O 0,I O 0,I O 0,I O 0,Ja none 0 0] _ rfl (zAp hz) Tryz.underlying30 rfl kR) rfl ?_;exact⟨rfl,hz.drop⟩
 ·skip
  have hAi:¬(m:Int)≤61:=by omega
  have hcw:=hcv _ _ _ _ g1 61 oM;clear g1 hA h hcv hm hr;go_enter Tryz.func137,Tryz.ntmps137;go_wp2_with (go_at_call 166;(with_reducible refine(zBq (R.take 61) nl 0 HP.out HL.out H.out).mono ?_);rintro e_ wn ⟨rfl,h⟩;obtain⟨x0,x1,x2,x3,x4,x5,x6,x7,x8,x9,x10,x11,y0,y1,y2,y3,y4,y5,y6,y7,y8,y9,y10,y11⟩:=zAd (b:=rb) (h.p1);replace H:=hQd h;clear h);have hz:St W0 _ _ (.raw rb #[I O 0,I O 0,U false,U false,U false,I O 0,I O 0,I O 0,I O 0,I O 0,I O 0,Ja none 0 0] 30::_):=St.sets12 _ _ _ _ _ _ _ _ _ _ _ _ (H.out.p1);refine bodyPost_ret (zA3 rfl _ _ rb [I O 0,I O 0,U false,U false,U false,I O 0,I O 0,I O 0,I O 0,I O 0,I O 0,Ja none 0 0] _ rfl (zAp hz) Tryz.underlying30 rfl kR) rfl ?_;exact⟨rfl,hz.drop⟩
variable {W0 w:World}{K:Know}{L:List Res}
theorem zq3{p:Prop}(h:p:=by
  go_wp2_with (first
   |(go_at_call 166;(with_reducible refine(zBq (R.take 61) nn 0 HP.out HL.out H.out).mono ?_);rintro e_ wn ⟨rfl,h⟩;have hcx:=HCVH.out _ _ _ _ h nn HNM.out;replace H:=hQd h;clear h)
   |(go_at_call 156;(with_reducible refine(zEo (R.take nn) HT2.out H.out).mono ?_);rintro e_ wn ⟨bi,rfl,h⟩;replace H:=hQd h;clear h)
   |(go_at_call 167;(with_reducible refine(zKb bi (R.take nn) 0 HT.out (Ji _) b nn HRB.out H.out).mono ?_);rintro e_ wn ⟨q,l,cap2,rfl,hlr,h⟩;have HLR:=hQd hlr;clear hlr;obtain⟨xb,hxb⟩:=eX wn.heap.size;have h:=h.allocRaw #[I O b.base,I O b.leader,U b.app,U b.txn,U b.ctl,I O b.last,I O b.first,I O b.maxt,I O b.prod,I O b.epoch,I O b.seq,Ja q l.length cap2] 30;rw[hxb]at h;replace H:=hQd h;clear h))
  have hs:=H.out.drew;refine wp_region_held_drew (S:=fun w'=>w'.cell? ⟨xb,0,none⟩=some (I O b.base)∧w'.cell? ⟨xb,1,none⟩=some (I O b.leader)∧w'.cell? ⟨xb,2,none⟩=some (U b.app)∧w'.cell? ⟨xb,3,none⟩=some (U b.txn)∧w'.cell? ⟨xb,4,none⟩=some (U b.ctl)∧w'.cell? ⟨xb,5,none⟩=some (I O b.last)∧w'.cell? ⟨xb,6,none⟩=some (I O b.first)∧w'.cell? ⟨xb,7,none⟩=some (I O b.maxt)∧w'.cell? ⟨xb,8,none⟩=some (I O b.prod)∧w'.cell? ⟨xb,9,none⟩=some (I O b.epoch)∧w'.cell? ⟨xb,10,none⟩=some (I O b.seq)∧w'.cell? ⟨xb,11,none⟩=some (Ja q l.length cap2)) kR (let ⟨x0,x1,x2,x3,x4,x5,x6,x7,x8,x9,x10,x11,_⟩:=zAd (b:=xb) (hs);⟨x0,x1,x2,x3,x4,x5,x6,x7,x8,x9,x10,x11⟩) (fun hHeld=> ?_);refine tR 0 ?_;refine tR 1 ?_;refine tR 2 ?_;refine wR [3] (rC rfl (fun KK hK=> ?_) rN);go_simp;go_at_call 168;with_reducible refine(zSX bi _ 0 rfl hs.p1).mono ?_;rintro e wq ⟨rfl,hs⟩;refine hK.out _ _ (let ⟨x0,x1,x2,x3,x4,x5,x6,x7,x8,x9,x10,x11,_⟩:=zAd (b:=xb) (hs.p1);⟨x0,x1,x2,x3,x4,x5,x6,x7,x8,x9,x10,x11⟩) (fun hHeld=> ?_);clear hK KK
  try simp only[Act.put,sA,sB,sC]
  refine wR [4] (rC rfl (fun KK hK=> ?_) rN);have hs:=hs.p3;rw[if_pos (by rfl)];refine wp_store_mid 30 (.tmp 2) (.tmp 42) rfl rb 0 #[I O b.base,I O b.leader,U b.app,U b.txn,U b.ctl,I O b.last,I O b.first,I O b.maxt,I O b.prod,I O b.epoch,I O b.seq,Ja q l.length cap2] (by rfl) (by rfl) hs.there kR (by simp[Value.oneCell']) ?_;obtain⟨wz,ez,hs⟩:=hs.storeEx #[I O b.base,I O b.leader,U b.app,U b.txn,U b.ctl,I O b.last,I O b.first,I O b.maxt,I O b.prod,I O b.epoch,I O b.seq,Ja q l.length cap2];rw[ez];clear ez;rw[zCy]at hs;rotate_left
  · rfl
  refine hK.out _ _ (let ⟨x0,x1,x2,x3,x4,x5,x6,x7,x8,x9,x10,x11,_⟩:=zAd (b:=xb) (hs.p2);⟨x0,x1,x2,x3,x4,x5,x6,x7,x8,x9,x10,x11⟩) (fun hHeld=> ?_);clear hK KK
  try simp only[Act.put,sA,sB,sC]
  refine tR 5 ?_;refine tR 6 ?_;refine wpAnyH_done kR ?_ _;clear hHeld;go_wp2_with fail;refine bodyPost_ret (zA3 rfl _ _ rb [I O b.base,I O b.leader,U b.app,U b.txn,U b.ctl,I O b.last,I O b.first,I O b.maxt,I O b.prod,I O b.epoch,I O b.seq,Ja q l.length cap2] _ rfl (zAp hs) Tryz.underlying30 rfl kR) rfl ?_;exact⟨q,l,cap2,rfl,HLR.out,hs.drop.drop.drop⟩):p:=h
theorem zOW{v0:Value}{n0:Nat}{s0:Bs}(ad:Addr)(m c:Nat)(R:Bs)(hm:m=R.length)(hmc:m≤c)(hr:R.length≤1000000)(hcv:∀(W0 w:World) (K:Know) (L:List Res),St W0 w K (.row v0 5 1 n0 (zAu s0)::L)→∀k,k≤m→∀c',(convert 57 9 (Ja (some ad) k c')).run Jd w=.ok (Z (bb (R.take k))) w)(h61:¬R.length<61)(x:PreS)(hp:zAR R=.ok x)(nn:Nat)(hnn:nn=61+(x.len - 49).toNat)(ht:nn≤R.length)(b:BatS)(hrb:zBT ((R.take nn).drop 0)=.ok (b,nn))(h:St W0 w K (.row v0 5 1 n0 (zAu s0)::L)):
 Calls Jd 137 #[Ja (some ad) m c] w fun en w'=>∃(q:Option Addr) (l:List (RecS×Value)) (cap2:Nat),en=Jb (.tuple #[.agg #[I O b.base,I O b.leader,U b.app,U b.txn,U b.ctl,I O b.last,I O b.first,I O b.maxt,I O b.prod,I O b.epoch,I O b.seq,Ja q l.length cap2],I O nn,I O 0])∧l.map (·.1)=b.recs∧St W0 w' (K.and (Know.recs (Ja q l.length cap2) l)) (.row v0 5 1 n0 (zAu s0)::L):=by
 obtain⟨rb,hrb0⟩:=eX w.heap.size;have g1:=(h.allocRaw #[I O 0,I O 0,U false,U false,U false,I O 0,I O 0,I O 0,I O 0,I O 0,I O 0,Ja none 0 0] 30).p1;rw[hrb0]at g1;have H:=hQd g1;have hmi:(m:Int)≤1000000:=by omega
 have hmci:(m:Int)≤(c:Int):=by omega
 have HCVH:=hQd hcv;have hm61:(61:Int)≤(m:Int):=by omega
 have HL:=hQd (show(R.take 61).length≤140737488355328 by rw[Jk];omega);have hpl:=(zB5 hp).2.2.2.1;have hnl:x.len+12=(nn:Int):=by omega
 have HP:=hQd (zMs h61 hp);rw[hnl]at HP;have hlt:¬(m:Int)<(nn:Int):=by omega
 have hle:(nn:Int)≤(m:Int):=by omega
 have hn61:(61:Int)≤(nn:Int):=by omega
 have g0n:((nn:Int)==0)=false:=by rw[beq_eq_false_iff_ne];omega
 have g0m:((nn:Int) !=0)=true:=by simp[bne,g0n]
 have hnm:nn≤m:=by omega
 have HNM:=hQd hnm;have HT:=hQd (show(R.take nn).length≤1000000 by rw[Jk];omega);have HT2:=hQd (show(R.take nn).length≤140737488355328 by rw[Jk];omega);have HRB:=hQd hrb;clear hp hpl hnl ht hnm hrb
 by_cases hA:m≤61
 ·skip
  have hAi:(m:Int)≤61:=by omega
  have hcw:=hcv _ _ _ _ g1 m (Jo _);rw[show R.take m=R.take 61 by rw[show m=61 by omega]]at hcw;clear g1 hA h hnn h61 hcv hm hr;go_enter Tryz.func137,Tryz.ntmps137
  exact zq3
 ·skip
  have hAi:¬(m:Int)≤61:=by omega
  have hcw:=hcv _ _ _ _ g1 61 oM;clear g1 hA h hnn h61 hcv hm hr;go_enter Tryz.func137,Tryz.ntmps137
  exact zq3
theorem zq4{p:Prop}(h:p:=by
  go_wp2_with (first
   |(go_at_call 166;(with_reducible refine(zBq (R.take 61) nn 0 HP.out HL.out H.out).mono ?_);rintro e_ wn ⟨rfl,h⟩;have hcx:=HCVH.out _ _ _ _ h nn HNM.out;replace H:=hQd h;clear h)
   |(go_at_call 156;(with_reducible refine(zEo (R.take nn) HT2.out H.out).mono ?_);rintro e_ wn ⟨bi,rfl,h⟩;replace H:=hQd h;clear h)
   |(go_at_call 167;(with_reducible refine(zLQ bi (R.take nn) 0 HT.out (Ji _) e HRB.out H.out).mono ?_);rintro e_ wn ⟨rfl,qq,_,h⟩;obtain⟨xb,hxb⟩:=eX wn.heap.size;have h:=h.allocRaw #[I O 0,I O 0,U false,U false,U false,I O 0,I O 0,I O 0,I O 0,I O 0,I O 0,Ja none 0 0] 30;rw[hxb]at h;replace H:=hQd h;clear h))
  have hs:=H.out.drew;refine wp_region_held_drew (S:=fun w'=>w'.cell? ⟨xb,0,none⟩=some (I O 0)∧w'.cell? ⟨xb,1,none⟩=some (I O 0)∧w'.cell? ⟨xb,2,none⟩=some (U false)∧w'.cell? ⟨xb,3,none⟩=some (U false)∧w'.cell? ⟨xb,4,none⟩=some (U false)∧w'.cell? ⟨xb,5,none⟩=some (I O 0)∧w'.cell? ⟨xb,6,none⟩=some (I O 0)∧w'.cell? ⟨xb,7,none⟩=some (I O 0)∧w'.cell? ⟨xb,8,none⟩=some (I O 0)∧w'.cell? ⟨xb,9,none⟩=some (I O 0)∧w'.cell? ⟨xb,10,none⟩=some (I O 0)∧w'.cell? ⟨xb,11,none⟩=some (Ja none 0 0)) kR (let ⟨x0,x1,x2,x3,x4,x5,x6,x7,x8,x9,x10,x11,_⟩:=zAd (b:=xb) (hs);⟨x0,x1,x2,x3,x4,x5,x6,x7,x8,x9,x10,x11⟩) (fun hHeld=> ?_);refine tR 0 ?_;refine tR 1 ?_;refine tR 2 ?_;refine wR [3] (rC rfl (fun KK hK=> ?_) rN);go_simp;go_at_call 168;with_reducible refine(zSX bi _ e rfl hs.p1).mono ?_;rintro e wq ⟨rfl,hs⟩;refine hK.out _ _ (let ⟨x0,x1,x2,x3,x4,x5,x6,x7,x8,x9,x10,x11,_⟩:=zAd (b:=xb) (hs.p1);⟨x0,x1,x2,x3,x4,x5,x6,x7,x8,x9,x10,x11⟩) (fun hHeld=> ?_);clear hK KK
  try simp only[Act.put,sA,sB,sC]
  refine wR [4] (rC rfl (fun KK hK=> ?_) rN);have hs:=hs.p3;rw[if_pos (by rfl)];refine wp_store_mid 30 (.tmp 2) (.tmp 42) rfl rb 0 #[I O 0,I O 0,U false,U false,U false,I O 0,I O 0,I O 0,I O 0,I O 0,I O 0,Ja none 0 0] (by rfl) (by rfl) hs.there kR (by simp[Value.oneCell']) ?_;obtain⟨wz,ez,hs⟩:=hs.storeEx #[I O 0,I O 0,U false,U false,U false,I O 0,I O 0,I O 0,I O 0,I O 0,I O 0,Ja none 0 0];rw[ez];clear ez;rw[zCy]at hs;rotate_left
  · rfl
  refine hK.out _ _ (let ⟨x0,x1,x2,x3,x4,x5,x6,x7,x8,x9,x10,x11,_⟩:=zAd (b:=xb) (hs.p2);⟨x0,x1,x2,x3,x4,x5,x6,x7,x8,x9,x10,x11⟩) (fun hHeld=> ?_);clear hK KK
  try simp only[Act.put,sA,sB,sC]
  refine tR 5 ?_;refine tR 6 ?_;refine wpAnyH_done kR ?_ _;clear hHeld;go_wp2_with fail;refine bodyPost_ret (zA3 rfl _ _ rb [I O 0,I O 0,U false,U false,U false,I O 0,I O 0,I O 0,I O 0,I O 0,I O 0,Ja none 0 0] _ rfl (zAp hs) Tryz.underlying30 rfl kR) rfl ?_;exact⟨rfl,hs.drop.drop.drop⟩):p:=h
theorem zQU{v0:Value}{n0:Nat}{s0:Bs}(ad:Addr)(m c:Nat)(R:Bs)(hm:m=R.length)(hmc:m≤c)(hr:R.length≤1000000)(hcv:∀(W0 w:World) (K:Know) (L:List Res),St W0 w K (.row v0 5 1 n0 (zAu s0)::L)→∀k,k≤m→∀c',(convert 57 9 (Ja (some ad) k c')).run Jd w=.ok (Z (bb (R.take k))) w)(h61:¬R.length<61)(x:PreS)(hp:zAR R=.ok x)(nn:Nat)(hnn:nn=61+(x.len - 49).toNat)(ht:nn≤R.length)(e:Int)(hrb:zBT ((R.take nn).drop 0)=.error e)(h:St W0 w K (.row v0 5 1 n0 (zAu s0)::L)):
 Calls Jd 137 #[Ja (some ad) m c] w fun en w'=>en=Jb (.tuple #[.agg #[I O 0,I O 0,U false,U false,U false,I O 0,I O 0,I O 0,I O 0,I O 0,I O 0,Ja none 0 0],I O nn,I O e])∧St W0 w' K (.row v0 5 1 n0 (zAu s0)::L):=by
 obtain⟨rb,hrb0⟩:=eX w.heap.size;have g1:=(h.allocRaw #[I O 0,I O 0,U false,U false,U false,I O 0,I O 0,I O 0,I O 0,I O 0,I O 0,Ja none 0 0] 30).p1;rw[hrb0]at g1;have H:=hQd g1;have hmi:(m:Int)≤1000000:=by omega
 have hmci:(m:Int)≤(c:Int):=by omega
 have HCVH:=hQd hcv;have hm61:(61:Int)≤(m:Int):=by omega
 have HL:=hQd (show(R.take 61).length≤140737488355328 by rw[Jk];omega);have hpl:=(zB5 hp).2.2.2.1;have hnl:x.len+12=(nn:Int):=by omega
 have HP:=hQd (zMs h61 hp);rw[hnl]at HP;have hlt:¬(m:Int)<(nn:Int):=by omega
 have hle:(nn:Int)≤(m:Int):=by omega
 have hn61:(61:Int)≤(nn:Int):=by omega
 have g0n:((nn:Int)==0)=false:=by rw[beq_eq_false_iff_ne];omega
 have g0m:((nn:Int) !=0)=true:=by simp[bne,g0n]
 have hnm:nn≤m:=by omega
 have HNM:=hQd hnm;have HT:=hQd (show(R.take nn).length≤1000000 by rw[Jk];omega);have HT2:=hQd (show(R.take nn).length≤140737488355328 by rw[Jk];omega);have HRB:=hQd hrb;clear hp hpl hnl ht hnm hrb
 by_cases hA:m≤61
 ·skip
  have hAi:(m:Int)≤61:=by omega
  have hcw:=hcv _ _ _ _ g1 m (Jo _);rw[show R.take m=R.take 61 by rw[show m=61 by omega]]at hcw;clear g1 hA h hnn h61 hcv hm hr;go_enter Tryz.func137,Tryz.ntmps137
  exact zq4
 ·skip
  have hAi:¬(m:Int)≤61:=by omega
  have hcw:=hcv _ _ _ _ g1 61 oM;clear g1 hA h hnn h61 hcv hm hr;go_enter Tryz.func137,Tryz.ntmps137
  exact zq4
open Go
def Exit.jumps (J:Nat→Act→World→Prop) (Q:Exit→Act→World→Prop):Exit→Act→World→Prop
 | .goto l,a,w=>J l a w
 |e,a,w=>Q e a w
theorem zKt{P:Program}{a:Act}{w:World}{Q:Exit→Act→World→Prop}{c:Code}(J:Nat→Act→World→Prop)(μ:Nat→Act→World→Nat)(hf:∀l a w,J l a w→∃r,findLabel c l=some r)
    (first:c.wp P (Exit.jumps J Q) a w)
    (pass:∀l r a w,J l a w→findLabel c l=some r→r.wp P (Exit.jumps (fun l' a' w'=>J l' a' w'∧μ l' a' w'<μ l a w) Q) a w):(Code.scope c).wp P Q a w:=by
  intro b k cs
  have go:∀n l a w,μ l a w=n→J l a w→∃r,findLabel c l=some r∧∃e a' w',Q e a' w'∧Arrives P (lone (b.at a (.code r::.inScope c::k)) cs w) b k cs e a' w':=by
    intro n
    induction n using Nat.strongRecOn with
    | _ n ih=>
      intro l a w hn hJ;obtain⟨r,hr⟩:=hf l a w hJ;refine⟨r,hr,?_⟩;obtain⟨e,a₁,w₁,hq,hto⟩:=pass l r a w hJ hr b (.inScope c::k) cs
      match e,hq,hto with
      | .normal,hq,hto=>exact⟨.normal,a₁,w₁,hq,Steps.trans hto (.one step_inScope)⟩
      | .exit id,hq,hto=>exact⟨.exit id,a₁,w₁,hq,fun k' hk=>hto k' (by simp[exitTo,hk])⟩
      | .goto l',hq,hto=>
        obtain⟨hJ',hlt⟩:=hq;obtain⟨r2,hr2,e₂,a₂,w₂,hq₂,hto₂⟩:=ih _ oM l' a₁ w₁ rfl hJ';exact⟨e₂,a₂,w₂,hq₂,.of_steps (hto _ (by simp[gotoIn,hr2])) hto₂⟩
      | .ret,hq,hto=>exact⟨_,a₁,w₁,hq,hto⟩
      | .panic ch,hq,hto=>exact⟨_,a₁,w₁,hq,hto⟩
      | .outgrown,hq,hto=>exact⟨_,a₁,w₁,hq,hto⟩
  obtain⟨e,a₁,w₁,hq,hto⟩:=first b (.inScope c::k) cs
  match e,hq,hto with
  | .normal,hq,hto=>exact⟨.normal,a₁,w₁,hq,.head step_scope (Steps.trans hto (.one step_inScope))⟩
  | .exit id,hq,hto=>exact⟨.exit id,a₁,w₁,hq,fun k' hk=> .head step_scope (hto k' (by simp[exitTo,hk]))⟩
  | .goto l',hq,hto=>
    obtain⟨r2,hr2,e₂,a₂,w₂,hq₂,hto₂⟩:=go _ l' a₁ w₁ rfl hq;exact⟨e₂,a₂,w₂,hq₂,.of_steps (.head step_scope (hto _ (by simp[gotoIn,hr2]))) hto₂⟩
  | .ret,hq,hto=>exact⟨_,a₁,w₁,hq,.of_steps (.one step_scope) hto⟩
  | .panic ch,hq,hto=>exact⟨_,a₁,w₁,hq,.of_steps (.one step_scope) hto⟩
  | .outgrown,hq,hto=>exact⟨_,a₁,w₁,hq,.of_steps (.one step_scope) hto⟩
theorem zPz{P:Program}{a:Act}{w:World}{Q:Exit→Act→World→Prop}{c rest0 rest1:Code}(J:Nat→Act→World→Prop)(μ:Nat→Act→World→Nat)(hl:∀l a w,J l a w→l=0∨l=1)(h0:findLabel c 0=some (Code.skip.seq rest0))(h1:findLabel c 1=some (Code.skip.seq rest1))
 (first:(∀a w,J 0 a w→rest0.wp P (Exit.jumps J Q) a w)→c.wp P (Exit.jumps J Q) a w)
 (pass0:∀a w,J 0 a w→rest0.wp P (Exit.jumps (fun l' a' w'=>J l' a' w'∧μ l' a' w'<μ 0 a w) Q) a w)
 (pass1:∀a w,J 1 a w→rest1.wp P (Exit.jumps (fun l' a' w'=>J l' a' w'∧μ l' a' w'<μ 1 a w) Q) a w):(Code.scope c).wp P Q a w:=by
 have skip:∀(rest:Code) (Q:Exit→Act→World→Prop) a w,rest.wp P Q a w→(Code.skip.seq rest).wp P Q a w:=fun rest Q a w h=>wp_seq_k fun K hK=>wp_skip (hK _ _ h)
 refine zKt J μ (fun l a w h=> ?_) (first fun a w h=>Code.wp_mono ?_ (pass0 a w h)) (fun l r a w h hr=> ?_)
 ·rcases hl l a w h with rfl|rfl
  ·exact⟨_,h0⟩
  ·exact⟨_,h1⟩
 ·intro e a' w' hq
  cases e with
  |goto l'=>exact hq.1
  | _=>exact hq
 ·rcases hl l a w h with rfl|rfl
  ·rw[h0]at hr
   cases hr
   exact skip _ _ _ _ (pass0 a w h)
  ·rw[h1]at hr
   cases hr
   exact skip _ _ _ _ (pass1 a w h)
end Go.Proofs.YtenojajfacacoaaGreatDoor
namespace Go.Proofs.YtenojajfacacoaaGreatDoor
open Go.RowKit
open Go.Value renaming bool→U, string→Z, slice→Ja, int→I, pointer→Jc
open Go.Ending renaming returned→Jb
open _root_.Nat renaming le_refl→Jo, zero_le→Ji, add_assoc→Jm
open Go.IntKind renaming i64→O
open _root_.Go.Proofs.Tryz renaming prog→Jd
open _root_.List renaming length_cons→Jg, take_of_length_le→Jj, length_take→Jk, length_append→Je, length→Jh, take→Jq, getElem_mem→Jp, length_drop→Jf, length_nil→Jl, length_map→Jn
structure EndS where
 n1:Int
 n2:Int
 n3:Int
 n4:Int
 n5:Int
def EndS.R (x:EndS):Prop:=Rn x.n1∧Rn x.n2∧Rn x.n3∧Rn x.n4∧Rn x.n5
def zAL (x:BatR):List Value:=[I O x.b.base,I O x.b.leader,U x.b.app,U x.b.txn,U x.b.ctl,I O x.b.last,I O x.b.first,I O x.b.maxt,I O x.b.prod,I O x.b.epoch,I O x.b.seq,Ja x.q x.l.length x.cap]
structure Good1 (x:BatR):Prop where
 so:SmallOk x.b
 recs:x.l.map (·.1)=x.b.recs
 len:x.b.enc.length≤14000
 told:x.b.ctl=true→(zCD x.b).2.2.2.2.2=true
theorem zEZ:zEg Jd 30 (.agg #[I O 0,I O 0,U false,U false,U false,I O 0,I O 0,I O 0,I O 0,I O 0,I O 0,Ja none 0 0]) 12 96:=zB8 kR rfl dD
variable {W0 w:World}{K:Know}{L:List Res}
def zPf (v0:Value) (n0:Nat) (s0:Bs) (R:Bs) (v:Value):Prop:=
 (v=Ja none 0 0∧R=[])∨∃ad c,v=Ja (some ad) R.length c∧R.length≤c∧∀(W0 w:World) (K:Know) (L:List Res),St W0 w K (.row v0 5 1 n0 (zAu s0)::L)→∀k,k≤R.length→∀c',(convert 57 9 (Ja (some ad) k c')).run Jd w=.ok (Z (bb (R.take k))) w
theorem zCT{v0:Value}{n0:Nat}{s0:Bs}(R:Bs)(v:Value)(hv:zPf v0 n0 s0 R v)(hr:R.length≤1000000)(hf:zAo R=.ok none)(h:St W0 w K (.row v0 5 1 n0 (zAu s0)::L)):
 Calls Jd 137 #[v] w fun en w'=>en=Jb (.tuple #[.agg #[I O 0,I O 0,U false,U false,U false,I O 0,I O 0,I O 0,I O 0,I O 0,I O 0,Ja none 0 0],I O 0,I O 0])∧St W0 w' K (.row v0 5 1 n0 (zAu s0)::L):=by
 rcases hv with ⟨rfl,_⟩|⟨ad,c,rfl,hc,hcv⟩
 ·exact zOV h
 unfold zAo at hf
 by_cases c1:R.length<61
 ·exact zMB ad R.length c R rfl hc hr hcv c1 h
 rw[if_neg c1]at hf
 cases hp:zAR R with
 |error e=>rw[hp]at hf;cases hf
 |ok x=>
  rw[hp]at hf;simp only at hf
  by_cases c2:R.length<61+(x.len - 49).toNat
  ·exact zOU ad R.length c R rfl hc hr hcv c1 x hp c2 h
  rw[if_neg c2]at hf
  cases ha:asmB x (R.take 61) ((R.drop 61).take (x.len - 49).toNat)with
  |error e=>rw[ha]at hf;cases hf
  |ok b=>rw[ha]at hf;cases hf
theorem zJR{v0:Value}{n0:Nat}{s0:Bs}(R:Bs)(v:Value)(hv:zPf v0 n0 s0 R v)(hr:R.length≤1000000)(e:Int)(hf:zAo R=.error e)(h:St W0 w K (.row v0 5 1 n0 (zAu s0)::L)):
 Calls Jd 137 #[v] w fun en w'=>∃n:Nat,en=Jb (.tuple #[.agg #[I O 0,I O 0,U false,U false,U false,I O 0,I O 0,I O 0,I O 0,I O 0,I O 0,Ja none 0 0],I O n,I O e])∧St W0 w' K (.row v0 5 1 n0 (zAu s0)::L):=by
 unfold zAo at hf
 by_cases c1:R.length<61
 ·rw[if_pos c1]at hf;cases hf
 rcases hv with ⟨_,rfl⟩|⟨ad,c,rfl,hc,hcv⟩
 ·exact absurd dD c1
 rw[if_neg c1]at hf
 cases hp:zAR R with
 |error e2=>
  rw[hp]at hf
  cases hf
  exact(zQT ad R.length c R rfl hc hr hcv c1 e hp h).mono fun _ _ hh=>⟨0,hh⟩
 |ok x=>
  rw[hp]at hf;simp only at hf
  by_cases c2:R.length<61+(x.len - 49).toNat
  ·rw[if_pos c2]at hf;cases hf
  rw[if_neg c2]at hf
  cases ha:asmB x (R.take 61) ((R.drop 61).take (x.len - 49).toNat)with
  |error e2=>
   rw[ha]at hf
   cases hf
   have hb:=zII hp oM;rw[ha]at hb;exact(zQU ad R.length c R rfl hc hr hcv c1 x hp _ rfl oM e hb h).mono fun _ _ hh=>⟨_,hh⟩
  |ok b=>rw[ha]at hf;cases hf
theorem zIh{v0:Value}{n0:Nat}{s0:Bs}(R:Bs)(v:Value)(hv:zPf v0 n0 s0 R v)(hr:R.length≤1000000)(b:BatS)(n:Nat)(hf:zAo R=.ok (some (b,n)))(h:St W0 w K (.row v0 5 1 n0 (zAu s0)::L)):
 Calls Jd 137 #[v] w fun en w'=>∃(q:Option Addr) (l:List (RecS×Value)) (cap2:Nat),en=Jb (.tuple #[.agg #[I O b.base,I O b.leader,U b.app,U b.txn,U b.ctl,I O b.last,I O b.first,I O b.maxt,I O b.prod,I O b.epoch,I O b.seq,Ja q l.length cap2],I O n,I O 0])∧l.map (·.1)=b.recs∧St W0 w' (K.and (Know.recs (Ja q l.length cap2) l)) (.row v0 5 1 n0 (zAu s0)::L):=by
 unfold zAo at hf
 by_cases c1:R.length<61
 ·rw[if_pos c1]at hf;cases hf
 rcases hv with ⟨_,rfl⟩|⟨ad,c,rfl,hc,hcv⟩
 ·exact absurd dD c1
 rw[if_neg c1]at hf
 cases hp:zAR R with
 |error e2=>rw[hp]at hf;cases hf
 |ok x=>
  rw[hp]at hf;simp only at hf
  by_cases c2:R.length<61+(x.len - 49).toNat
  ·rw[if_pos c2]at hf;cases hf
  rw[if_neg c2]at hf
  cases ha:asmB x (R.take 61) ((R.drop 61).take (x.len - 49).toNat)with
  |error e2=>rw[ha]at hf;cases hf
  |ok b2=>
   rw[ha]at hf
   cases hf
   have hb:=zII hp oM;rw[ha]at hb;exact zOW ad R.length c R rfl hc hr hcv c1 x hp _ rfl oM b hb h
def zFd (x:BatR):Prop:=x.l.map (·.1)=x.b.recs∧zRD 1000000 x.b
theorem zRv{K:Know}{v:Value}{l:List BatR}(h1:K.has (Know.flat RBat v 12 l))(h2:∀x∈l,K.has (Know.recs (Ja x.q x.l.length x.cap) x.l)):K.has (Know.bats v l):=fun w F h=>⟨h1 w F h,fun x hx=>h2 x hx w F h⟩
theorem zLO(K:Know):K.has (Know.bats (Ja none 0 0) []):=zRv (fun _ _ _=>⟨none,0,rfl,fun h=>absurd h sM⟩) (fun x hx=>by cases hx)
theorem St.freezeBats{v:Value}{T:TypeId}{l:List BatR}(h:St W0 w K (.row v T 12 l.length (l.flatMap zAL)::L))(ht:∀x∈l,K.has (Know.recs (Ja x.q x.l.length x.cap) x.l)):St W0 w (K.and (Know.bats v l)) L:=by
 have hf:=h.freezeRow (R:=RBat) (fun x _=>⟨rfl,rfl⟩);exact hf.know (K':=K.and (Know.bats v l)) (fun w F hh=>⟨hh.1,hh.2,fun x hx=>ht x hx _ _ hh.1⟩)
end Go.Proofs.YtenojajfacacoaaGreatDoor
