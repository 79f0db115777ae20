/- A text. -/
import Derived.Test.YtenojajfacacoaaGreatDoorGReportPlaysCard11
import Derived.Test.YtenojajfacacoaaGreatDoorGReportPlaysCard12
import Derived.RegionTactic
import Derived.Deep.RegionHeld3
import Derived.Deep.DeepCutAuto
import Derived.WalkMore
import Derived.Test.YtenojajfacacoaaGreatDoorGReportPlaysCard10
import Derived.Test.YtenojajfacacoaaGreatDoorGReportPlaysCard8
/- A text. -/
namespace Go.Proofs.YtenojajfacacoaaGreatDoor
open Go.RowKit
open Go.Value renaming bool→U, string→Z, slice→Ja, int→I, pointer→Jc
open Go.Ending renaming returned→Jb
open _root_.Nat renaming le_refl→Jo, zero_le→Ji, add_assoc→Jm
open Go.IntKind renaming i64→O
open _root_.Go.Proofs.Tryz renaming prog→Jd
open _root_.List renaming length_cons→Jg, take_of_length_le→Jj, length_take→Jk, length_append→Je, length→Jh, take→Jq, getElem_mem→Jp, length_drop→Jf, length_nil→Jl, length_map→Jn
set_option maxHeartbeats 8000000
set_option maxRecDepth 100000
theorem zPX(A:Bs)(hA:A.length≤90000){W0 w:World}{K:Know}{L:List Res}(h:St W0 w K L):
 Calls Jd 32 #[Z (bb A)] w fun en w'=>∃(q:Option Addr) (cap:Nat) (lr:List BatR) (V:Nat) (rs:Bs) (e:Int),en=Jb (.agg #[Ja q lr.length cap,I O V,I O (zCP rs e),I O e])∧finS A=(lr.map BatR.b,V,rs,e)∧(∀x∈lr,zFd x)∧61*lr.length≤A.length∧(((q=none∧cap=0)∨∃g,q=some ⟨g,0,none⟩)∧lr.length≤cap)∧St W0 w' (K.and (Know.bats (Ja q lr.length cap) lr)) L:=by
 obtain⟨rb,hrb⟩:=eX w.heap.size;obtain⟨ob,hob⟩:=eX (rb+1);have g1:=h.allocRaw #[Ja none 0 0,I O 0,I O 0,I O 0] 63;rw[hrb]at g1;have g2:=g1.allocRaw #[Ja none 0 0,I O 0,I O 0,I O 0] 63;simp only[World.size_alloc,hrb,hob]at g2;have g2:=g2.nilRow 30 12;have o0:=g2.p1.rawCell 0;have of0:=g2.p1.rawFree 0;have o1:=g2.p1.rawCell 1;have of1:=g2.p1.rawFree 1;have o2:=g2.p1.rawCell 2;have of2:=g2.p1.rawFree 2;have o3:=g2.p1.rawCell 3;have of3:=g2.p1.rawFree 3;simp at o0 o1 o2 o3;have z0:=g2.p2.rawCell 0;have zf0:=g2.p2.rawFree 0;have z1:=g2.p2.rawCell 1;have zf1:=g2.p2.rawFree 1;have z2:=g2.p2.rawCell 2;have zf2:=g2.p2.rawFree 2;have z3:=g2.p2.rawCell 3;have zf3:=g2.p2.rawFree 3;simp at z0 z1 z2 z3;have H:=hQd g2;have HAL:=hQd hA;have hai:(A.length:Int)≤90000:=by omega
 clear h g1 g2 hA;go_enter Tryz.func32,Tryz.ntmps32;go_wp2;go_loopw [4] (fun _ wr=>∃(acc:List BatR) (K2:Know) (V:Nat) (bv:Value),V≤A.length∧Hid (zAt A=(acc.map BatR.b++(zAt (A.drop V)).1,(zAt (A.drop V)).2))∧Hid (K2.has K)∧Hid (∀x∈acc,K2.has (Know.recs (Ja x.q x.l.length x.cap) x.l))∧Hid (∀x∈acc,zFd x)∧Hid (61*acc.length≤V)∧St W0 wr K2 (.row bv 30 12 acc.length (acc.flatMap zAL)::.raw ob #[bv,I O V,I O 0,I O 0] 63::.raw rb #[Ja none 0 0,I O 0,I O 0,I O 0] 63::L)) (fun _ wr=>A.length - ValM ob wr)
 case atStart=>exact⟨[],K,0,Ja none 0 0,Ji _,hQd (by rw[List.drop_zero];rfl),hQd (Know.has_refl _),hQd (fun x hx=>by cases hx),hQd (fun x hx=>by cases hx),hQd (Jo _),H.out⟩
 case round=>
  obtain⟨acc,K2,V,bv,hV,HSC,HKK,HREC,HLIT,HCNT,hst⟩:=hrel;clear H;clear o0 of0 o1 of1 o2 of2 o3 of3;clear z0 zf0 z1 zf1 z2 zf2 z3 zf3
  have hform:∃q2 cap2,bv=Ja q2 acc.length cap2∧((q2=none∧cap2=0)∨∃g,q2=some ⟨g,0,none⟩)∧acc.length≤cap2:=by
   exact zq24
  obtain⟨q2,cap2,rfl,hq2⟩:=hform;have HQ2:=hQd hq2;have HMS:=hQd (valM hst.p1);have HV:=hQd hV;have HAB:=hQd (show acc.length≤2000 by have:=HCNT.out;have:=HAL.out;omega);have HCN:=hQd (show 61*acc.length≤A.length by have:=HCNT.out;omega);have o0:=hst.p1.rawCell 0;have of0:=hst.p1.rawFree 0;have o1:=hst.p1.rawCell 1;have of1:=hst.p1.rawFree 1;have o2:=hst.p1.rawCell 2;have of2:=hst.p1.rawFree 2;have o3:=hst.p1.rawCell 3;have of3:=hst.p1.rawFree 3;simp at o0 o1 o2 o3;have z0:=hst.p2.rawCell 0;have zf0:=hst.p2.rawFree 0;have z1:=hst.p2.rawCell 1;have zf1:=hst.p2.rawFree 1;have z2:=hst.p2.rawCell 2;have zf2:=hst.p2.rawFree 2;have z3:=hst.p2.rawCell 3;have zf3:=hst.p2.rawFree 3;simp at z0 z1 z2 z3;have H:=hQd hst;clear hst hq2;obtain⟨R,hR⟩:=eX (A.drop V);have hRl:R.length=A.length - V:=by rw[←hR,Jf]
  have HR:=hQd (show Jq (A.length - V) (List.drop V A)=R by rw[hR];exact Jj oM);have HR0:=hQd hR
  by_cases hlt:V<A.length
  ·have hvi:(V:Int)<(A.length:Int):=by omega
   have hvl:(V:Int)≤(A.length:Int):=by omega
   have hrl:(R.length:Int)≤90000:=by omega
   have HL:=hQd (show R.length≤140737488355328 by omega);have HL6:=hQd (show R.length≤1000000 by omega);have hr0:R≠[]:=by intro hh;rw[hh]at hRl;simp at hRl;omega
   clear hR
   by_cases c1:R.length<61
   ·have hfs:zAo R=.ok none:=by unfold zAo;rw[if_pos c1]
    have HFE:=hQd (zJS HV.out HSC.out (by rw[HR0.out];exact hfs));have hst1:zCP (A.drop V) 0=1:=by rw[HR0.out];unfold zCP;rw[if_neg sM,if_pos hr0]
    have HST:=hQd hst1;have c1i:(R.length:Int)<61:=by omega
    clear hfs hst1 c1 hr0 hRl;go_upto_region 4 with (fail);rw[HR.out];go_wp2_with fail;have hz:St W0 _ _ (.raw rb #[Ja q2 acc.length cap2,I O V,I O 1,I O 0] 63::_):=(((((H.out.p1.rawSet 2 (I O 1)).p2.rawSet 0 (Ja q2 acc.length cap2)).rawSet 1 (I O V)).rawSet 2 (I O 1)).rawSet 3 (I O 0));refine bodyPost_ret (zAn rfl _ _ rb [Ja q2 acc.length cap2,I O V,I O 1,I O 0] _ rfl (zAp hz) Tryz.underlying63 rfl kR) rfl ?_;have hf9:=(hz.drop.drop).freezeBats HREC.out;have hf8:=hf9.know (K':=K.and (Know.bats _ acc)) (fun w F hh=>⟨HKK.out _ _ hh.1,hh.2⟩);exact⟨q2,cap2,acc,V,_,0,by rw[HST.out],HFE.out,HLIT.out,HCN.out,HQ2.out,hf8⟩
   have c1i:¬(R.length:Int)<61:=by omega
   cases hp:zAR R with
   |error e=>
    have hre:zBT R=.error e:=by unfold zBT;rw[hp]
    have hfs:zAo R=.error e:=by unfold zAo;rw[if_neg c1,hp]
    have h0:=zIY hfs;have HFE:=hQd (zQV HV.out HSC.out (by rw[HR0.out];exact hfs));have hst1:zCP [] e=2:=by unfold zCP;rw[if_pos h0]
    have HST:=hQd hst1;have HP:=hQd hp;have HRE:=hQd hre;have g1e:(e==0)=false:=by rw[beq_eq_false_iff_ne];exact h0
    have g2e:(e !=0)=true:=by simp[bne,g1e]
    clear hfs hst1 c1 hr0 hRl hp hre h0;go_upto_region 4 with (fail);rw[HR.out]
    go_wp2_with (first
  |(go_at_call 66;clear o0 of0 o1 of1 o2 of2 o3 of3;clear z0 zf0 z1 zf1 z2 zf2 z3 zf3;(with_reducible refine(zDv R e HP.out HL.out H.out).mono ?_);rintro e_ wn ⟨rfl,h⟩;have o0:=h.p1.rawCell 0;have of0:=h.p1.rawFree 0;have o1:=h.p1.rawCell 1;have of1:=h.p1.rawFree 1;have o2:=h.p1.rawCell 2;have of2:=h.p1.rawFree 2;have o3:=h.p1.rawCell 3;have of3:=h.p1.rawFree 3;simp at o0 o1 o2 o3;have z0:=h.p2.rawCell 0;have zf0:=h.p2.rawFree 0;have z1:=h.p2.rawCell 1;have zf1:=h.p2.rawFree 1;have z2:=h.p2.rawCell 2;have zf2:=h.p2.rawFree 2;have z3:=h.p2.rawCell 3;have zf3:=h.p2.rawFree 3;simp at z0 z1 z2 z3;replace H:=hQd h;clear h)
  |(go_at_call 67;clear o0 of0 o1 of1 o2 of2 o3 of3;clear z0 zf0 z1 zf1 z2 zf2 z3 zf3;(with_reducible refine(zGV R HL6.out e HRE.out H.out).mono ?_);rintro e_ wn ⟨rfl,h⟩;obtain⟨xb,hxb⟩:=eX wn.heap.size;have h:=h.allocRaw #[I O 0,I O 0,U false,U false,U false,I O 0,I O 0,I O 0,I O 0,I O 0,I O 0,Ja none 0 0,I O 0,I O e] 105;rw[hxb]at h;have x0:=h.rawCell 0;have x1:=h.rawCell 1;have x2:=h.rawCell 2;have x3:=h.rawCell 3;have x4:=h.rawCell 4;have x5:=h.rawCell 5;have x6:=h.rawCell 6;have x7:=h.rawCell 7;have x8:=h.rawCell 8;have x9:=h.rawCell 9;have x10:=h.rawCell 10;have x11:=h.rawCell 11;have x12:=h.rawCell 12;have x13:=h.rawCell 13;simp at x0 x1 x2 x3 x4 x5 x6 x7 x8 x9 x10 x11 x12 x13;have o0:=h.p2.rawCell 0;have of0:=h.p2.rawFree 0;have o1:=h.p2.rawCell 1;have of1:=h.p2.rawFree 1;have o2:=h.p2.rawCell 2;have of2:=h.p2.rawFree 2;have o3:=h.p2.rawCell 3;have of3:=h.p2.rawFree 3;simp at o0 o1 o2 o3;have z0:=h.p3.rawCell 0;have zf0:=h.p3.rawFree 0;have z1:=h.p3.rawCell 1;have zf1:=h.p3.rawFree 1;have z2:=h.p3.rawCell 2;have zf2:=h.p3.rawFree 2;have z3:=h.p3.rawCell 3;have zf3:=h.p3.rawFree 3;simp at z0 z1 z2 z3;replace H:=hQd h;clear h))
    have hz:St W0 _ _ (.raw rb #[Ja q2 acc.length cap2,I O V,I O 2,I O e] 63::_):=((((((H.out.p2.rawSet 2 (I O 2)).rawSet 3 (I O e)).p3.rawSet 0 (Ja q2 acc.length cap2)).rawSet 1 (I O V)).rawSet 2 (I O 2)).rawSet 3 (I O e));refine bodyPost_ret (zAn rfl _ _ rb [Ja q2 acc.length cap2,I O V,I O 2,I O e] _ rfl (zAp hz) Tryz.underlying63 rfl kR) rfl ?_;have hf9:=(hz.drop.drop.drop).freezeBats HREC.out;have hf8:=hf9.know (K':=K.and (Know.bats _ acc)) (fun w F hh=>⟨HKK.out _ _ hh.1,hh.2⟩);exact⟨q2,cap2,acc,V,_,e,by rw[HST.out],HFE.out,HLIT.out,HCN.out,HQ2.out,hf8⟩
   |ok x=>
    obtain⟨r1,r2,r3,r4,r5,r6⟩:=zBO hp;obtain⟨nn,hnn⟩:=eX (61+(x.len - 49).toNat);have hln:x.len+12=(nn:Int):=by omega
    have HP:=hQd hp
    by_cases c2:R.length<nn
    ·have hfs:zAo R=.ok none:=by unfold zAo;rw[if_neg c1,hp];simp only;rw[if_pos oM]
     have HFE:=hQd (zJS HV.out HSC.out (by rw[HR0.out];exact hfs));have hst1:zCP (A.drop V) 0=1:=by rw[HR0.out];unfold zCP;rw[if_neg sM,if_pos hr0]
     have HST:=hQd hst1;have c2i:(R.length:Int)<(nn:Int):=by omega
     clear hfs hst1 c1 hr0 hRl hp r3 r4 r5 r6 hnn c2;go_upto_region 4 with (fail);rw[HR.out];go_wp2_with (go_at_call 66;clear o0 of0 o1 of1 o2 of2 o3 of3;clear z0 zf0 z1 zf1 z2 zf2 z3 zf3;(with_reducible refine(zAW R x HP.out HL.out H.out).mono ?_);rintro e_ wn ⟨bl,rfl,h⟩;have p1:=h.rawCell 1;simp at p1;have h:=h.drop;have o0:=h.p1.rawCell 0;have of0:=h.p1.rawFree 0;have o1:=h.p1.rawCell 1;have of1:=h.p1.rawFree 1;have o2:=h.p1.rawCell 2;have of2:=h.p1.rawFree 2;have o3:=h.p1.rawCell 3;have of3:=h.p1.rawFree 3;simp at o0 o1 o2 o3;have z0:=h.p2.rawCell 0;have zf0:=h.p2.rawFree 0;have z1:=h.p2.rawCell 1;have zf1:=h.p2.rawFree 1;have z2:=h.p2.rawCell 2;have zf2:=h.p2.rawFree 2;have z3:=h.p2.rawCell 3;have zf3:=h.p2.rawFree 3;simp at z0 z1 z2 z3;replace H:=hQd h;clear h);have hz:St W0 _ _ (.raw rb #[Ja q2 acc.length cap2,I O V,I O 1,I O 0] 63::_):=(((((H.out.p1.rawSet 2 (I O 1)).p2.rawSet 0 (Ja q2 acc.length cap2)).rawSet 1 (I O V)).rawSet 2 (I O 1)).rawSet 3 (I O 0));refine bodyPost_ret (zAn rfl _ _ rb [Ja q2 acc.length cap2,I O V,I O 1,I O 0] _ rfl (zAp hz) Tryz.underlying63 rfl kR) rfl ?_;have hf9:=(hz.drop.drop).freezeBats HREC.out;have hf8:=hf9.know (K':=K.and (Know.bats _ acc)) (fun w F hh=>⟨HKK.out _ _ hh.1,hh.2⟩);exact⟨q2,cap2,acc,V,_,0,by rw[HST.out],HFE.out,HLIT.out,HCN.out,HQ2.out,hf8⟩
    have c2i:¬(R.length:Int)<(nn:Int):=by omega
    cases ha:asmB x (R.take 61) ((R.drop 61).take (x.len - 49).toNat)with
    |error e=>
     have hre:zBT R=.error e:=by unfold zBT;rw[hp];simp only;rw[if_neg oM,ha]
     have hfs:zAo R=.error e:=by unfold zAo;rw[if_neg c1,hp];simp only;rw[if_neg oM,ha]
     have h0:=zIY hfs;have HFE:=hQd (zQV HV.out HSC.out (by rw[HR0.out];exact hfs));have hst1:zCP [] e=2:=by unfold zCP;rw[if_pos h0]
     have HST:=hQd hst1;have HRE:=hQd hre;have g1e:(e==0)=false:=by rw[beq_eq_false_iff_ne];exact h0
     have g2e:(e !=0)=true:=by simp[bne,g1e]
     clear hfs hst1 c1 hr0 hRl hp hre h0 ha r3 r4 r5 r6 hnn c2;go_upto_region 4 with (fail);rw[HR.out]
     go_wp2_with (first
  |(go_at_call 66;clear o0 of0 o1 of1 o2 of2 o3 of3;clear z0 zf0 z1 zf1 z2 zf2 z3 zf3;(with_reducible refine(zAW R x HP.out HL.out H.out).mono ?_);rintro e_ wn ⟨bl,rfl,h⟩;have p1:=h.rawCell 1;simp at p1;have h:=h.drop;have o0:=h.p1.rawCell 0;have of0:=h.p1.rawFree 0;have o1:=h.p1.rawCell 1;have of1:=h.p1.rawFree 1;have o2:=h.p1.rawCell 2;have of2:=h.p1.rawFree 2;have o3:=h.p1.rawCell 3;have of3:=h.p1.rawFree 3;simp at o0 o1 o2 o3;have z0:=h.p2.rawCell 0;have zf0:=h.p2.rawFree 0;have z1:=h.p2.rawCell 1;have zf1:=h.p2.rawFree 1;have z2:=h.p2.rawCell 2;have zf2:=h.p2.rawFree 2;have z3:=h.p2.rawCell 3;have zf3:=h.p2.rawFree 3;simp at z0 z1 z2 z3;replace H:=hQd h;clear h)
  |(go_at_call 67;clear o0 of0 o1 of1 o2 of2 o3 of3;clear z0 zf0 z1 zf1 z2 zf2 z3 zf3;(with_reducible refine(zGV R HL6.out e HRE.out H.out).mono ?_);rintro e_ wn ⟨rfl,h⟩;obtain⟨xb,hxb⟩:=eX wn.heap.size;have h:=h.allocRaw #[I O 0,I O 0,U false,U false,U false,I O 0,I O 0,I O 0,I O 0,I O 0,I O 0,Ja none 0 0,I O 0,I O e] 105;rw[hxb]at h;have x0:=h.rawCell 0;have x1:=h.rawCell 1;have x2:=h.rawCell 2;have x3:=h.rawCell 3;have x4:=h.rawCell 4;have x5:=h.rawCell 5;have x6:=h.rawCell 6;have x7:=h.rawCell 7;have x8:=h.rawCell 8;have x9:=h.rawCell 9;have x10:=h.rawCell 10;have x11:=h.rawCell 11;have x12:=h.rawCell 12;have x13:=h.rawCell 13;simp at x0 x1 x2 x3 x4 x5 x6 x7 x8 x9 x10 x11 x12 x13;have o0:=h.p2.rawCell 0;have of0:=h.p2.rawFree 0;have o1:=h.p2.rawCell 1;have of1:=h.p2.rawFree 1;have o2:=h.p2.rawCell 2;have of2:=h.p2.rawFree 2;have o3:=h.p2.rawCell 3;have of3:=h.p2.rawFree 3;simp at o0 o1 o2 o3;have z0:=h.p3.rawCell 0;have zf0:=h.p3.rawFree 0;have z1:=h.p3.rawCell 1;have zf1:=h.p3.rawFree 1;have z2:=h.p3.rawCell 2;have zf2:=h.p3.rawFree 2;have z3:=h.p3.rawCell 3;have zf3:=h.p3.rawFree 3;simp at z0 z1 z2 z3;replace H:=hQd h;clear h))
     have hz:St W0 _ _ (.raw rb #[Ja q2 acc.length cap2,I O V,I O 2,I O e] 63::_):=((((((H.out.p2.rawSet 2 (I O 2)).rawSet 3 (I O e)).p3.rawSet 0 (Ja q2 acc.length cap2)).rawSet 1 (I O V)).rawSet 2 (I O 2)).rawSet 3 (I O e));refine bodyPost_ret (zAn rfl _ _ rb [Ja q2 acc.length cap2,I O V,I O 2,I O e] _ rfl (zAp hz) Tryz.underlying63 rfl kR) rfl ?_;have hf9:=(hz.drop.drop.drop).freezeBats HREC.out;have hf8:=hf9.know (K':=K.and (Know.bats _ acc)) (fun w F hh=>⟨HKK.out _ _ hh.1,hh.2⟩);exact⟨q2,cap2,acc,V,_,e,by rw[HST.out],HFE.out,HLIT.out,HCN.out,HQ2.out,hf8⟩
    |ok b=>
     obtain⟨n,hn⟩:=eX nn;have hre:zBT R=.ok (b,n):=by unfold zBT;rw[hp];simp only;rw[if_neg oM,ha,hnn,hn]
     have hfs:zAo R=.ok (some (b,n)):=by unfold zAo;rw[if_neg c1,hp];simp only;rw[if_neg oM,ha,hnn,hn]
     obtain⟨⟨hn61,hnl⟩,hlb⟩:=zFM hfs;have HNX:=hQd (zPB HSC.out (by rw[HR0.out];exact hfs));have HRE:=hQd hre;have HLB:=hQd (show zRD 1000000 b from⟨by have:=hlb.1;omega,fun y hy=>by have:=hlb.2 y hy;omega⟩);have hvn:(V:Int)+(n:Int)≤90000:=by omega
     have HVN:=hQd (show V+n≤A.length by omega);have HN61:=hQd hn61;clear hfs c1 hr0 hRl hp hre ha r3 r4 r5 r6 hnn c2 hlb hn61 hnl hn;go_upto_region 4 with (fail);rw[HR.out]
     go_wp2_with (first
  |(go_at_call 66;clear o0 of0 o1 of1 o2 of2 o3 of3;clear z0 zf0 z1 zf1 z2 zf2 z3 zf3;(with_reducible refine(zAW R x HP.out HL.out H.out).mono ?_);rintro e_ wn ⟨bl,rfl,h⟩;have p1:=h.rawCell 1;simp at p1;have h:=h.drop;have o0:=h.p1.rawCell 0;have of0:=h.p1.rawFree 0;have o1:=h.p1.rawCell 1;have of1:=h.p1.rawFree 1;have o2:=h.p1.rawCell 2;have of2:=h.p1.rawFree 2;have o3:=h.p1.rawCell 3;have of3:=h.p1.rawFree 3;simp at o0 o1 o2 o3;have z0:=h.p2.rawCell 0;have zf0:=h.p2.rawFree 0;have z1:=h.p2.rawCell 1;have zf1:=h.p2.rawFree 1;have z2:=h.p2.rawCell 2;have zf2:=h.p2.rawFree 2;have z3:=h.p2.rawCell 3;have zf3:=h.p2.rawFree 3;simp at z0 z1 z2 z3;replace H:=hQd h;clear h)
  |(go_at_call 67;clear o0 of0 o1 of1 o2 of2 o3 of3;clear z0 zf0 z1 zf1 z2 zf2 z3 zf3;(with_reducible refine(zL9 R HL6.out b n HRE.out H.out).mono ?_);rintro e_ wn ⟨q,l,cap2_,rfl,hlm,h⟩;have HLM:=hQd hlm;clear hlm;obtain⟨xb,hxb⟩:=eX wn.heap.size;have h:=h.allocRaw #[I O b.base,I O b.leader,U b.app,U b.txn,U b.ctl,I O b.last,I O b.first,I O b.maxt,I O b.prod,I O b.epoch,I O b.seq,Ja q l.length cap2_,I O n,I O 0] 105;rw[hxb]at h;have x0:=h.rawCell 0;have x1:=h.rawCell 1;have x2:=h.rawCell 2;have x3:=h.rawCell 3;have x4:=h.rawCell 4;have x5:=h.rawCell 5;have x6:=h.rawCell 6;have x7:=h.rawCell 7;have x8:=h.rawCell 8;have x9:=h.rawCell 9;have x10:=h.rawCell 10;have x11:=h.rawCell 11;have x12:=h.rawCell 12;have x13:=h.rawCell 13;simp at x0 x1 x2 x3 x4 x5 x6 x7 x8 x9 x10 x11 x12 x13;have o0:=h.p2.rawCell 0;have of0:=h.p2.rawFree 0;have o1:=h.p2.rawCell 1;have of1:=h.p2.rawFree 1;have o2:=h.p2.rawCell 2;have of2:=h.p2.rawFree 2;have o3:=h.p2.rawCell 3;have of3:=h.p2.rawFree 3;simp at o0 o1 o2 o3;have z0:=h.p3.rawCell 0;have zf0:=h.p3.rawFree 0;have z1:=h.p3.rawCell 1;have zf1:=h.p3.rawFree 1;have z2:=h.p3.rawCell 2;have zf2:=h.p3.rawFree 2;have z3:=h.p3.rawCell 3;have zf3:=h.p3.rawFree 3;simp at z0 z1 z2 z3;replace H:=hQd h;clear h)
  |(at_builtin;clear o0 of0 o1 of1 o2 of2 o3 of3;clear z0 zf0 z1 zf1 z2 zf2 z3 zf3;clear x0 x1 x2 x3 x4 x5 x6 x7 x8 x9 x10 x11 x13;refine zAC rfl _ _ 22 rfl 30 Tryz.underlying22 zEZ _ _ _ rfl H.out.p1 [I O b.base,I O b.leader,U b.app,U b.txn,U b.ctl,I O b.last,I O b.first,I O b.maxt,I O b.prod,I O b.epoch,I O b.seq,Ja q l.length cap2_] 30 (by first|rfl|(rw[World.size_alloc];rfl)|(rw[World.size_alloc,hxb];rfl)) rfl (by simp[Value.oneCell']) (by have:=HAB.out;unfold maxLen;omega) (by have:=HAB.out;omega) ?_;intro v' w' h;obtain⟨qv,cv,hv⟩:=h.rowAny;subst hv;have x12:=h.p1.rawCell 12;simp at x12;have o0:=h.p2.rawCell 0;have of0:=h.p2.rawFree 0;have o1:=h.p2.rawCell 1;have of1:=h.p2.rawFree 1;have o2:=h.p2.rawCell 2;have of2:=h.p2.rawFree 2;have o3:=h.p2.rawCell 3;have of3:=h.p2.rawFree 3;simp at o0 o1 o2 o3;replace H:=hQd h;clear h))
     have h7:=((H.out.p2.rawSet 0 (Ja qv (acc.length+1) cv)).rawSet 1 (I O ((V+n:Nat):Int))).p1.p2.drop;go_roundw
     case rel=>
      refine⟨acc++[⟨b,l,q,cap2_⟩],K2.and (Know.recs (Ja q l.length cap2_) l),V+n,Ja qv (acc.length+1) cv,HVN.out,?_,?_,?_,?_,?_,?_⟩
      ·exact hQd (by rw[List.map_append];exact HNX.out)
      ·exact hQd (Know.has_trans (Know.has_left (Know.has_refl _)) HKK.out)
      ·refine hQd (fun y hy=> ?_)
       rcases List.mem_append.1 hy with hy|hy
       ·exact Know.has_trans (Know.has_left (Know.has_refl _)) (HREC.out y hy)
       ·rw[List.mem_singleton.1 hy];exact Know.has_right (Know.has_refl _)
      ·refine hQd (fun y hy=> ?_)
       rcases List.mem_append.1 hy with hy|hy
       ·exact HLIT.out y hy
       ·rw[List.mem_singleton.1 hy];exact⟨HLM.out,HLB.out⟩
      ·exact hQd (by rw[Je];show 61*(acc.length+1)≤V+n;have:=HCNT.out;have:=HN61.out;omega)
      ·rw[Je,List.flatMap_append];exact h7
     case measure=>
      have h8:=valM h7.p1;rw[HMS.out];exact zQy (congrArg (fun t=>A.length - t) h8) (by show A.length - (V+n)<A.length - V;have:=HVN.out;have:=HN61.out;omega)
  ·obtain rfl:V=A.length:=by omega
   have hfs:zAo (A.drop A.length)=.ok none:=by rw[List.drop_length];exact fs_nil
   have HFE:=hQd (zJS HV.out HSC.out hfs);have hst1:zCP (A.drop A.length) 0=0:=by rw[List.drop_length];rfl
   have HST:=hQd hst1;clear hfs hst1 hR hRl;go_wp2_with fail;have hz:St W0 _ _ (.raw rb #[Ja q2 acc.length cap2,I O A.length,I O 0,I O 0] 63::_):=((((H.out.p2.rawSet 0 (Ja q2 acc.length cap2)).rawSet 1 (I O A.length)).rawSet 2 (I O 0)).rawSet 3 (I O 0));refine bodyPost_ret (zAn rfl _ _ rb [Ja q2 acc.length cap2,I O A.length,I O 0,I O 0] _ rfl (zAp hz) Tryz.underlying63 rfl kR) rfl ?_;have hf9:=(hz.drop.p1.drop).freezeBats HREC.out;have hf8:=hf9.know (K':=K.and (Know.bats _ acc)) (fun w F hh=>⟨HKK.out _ _ hh.1,hh.2⟩);exact⟨q2,cap2,acc,A.length,_,0,by rw[HST.out],HFE.out,HLIT.out,HCN.out,HQ2.out,hf8⟩
theorem zOq(A:Bs)(hA:A.length≤90000){W0 w:World}{K:Know}{L:List Res}(h:St W0 w K L):
 Calls Jd 32 #[Z (bb A)] w fun en w'=>∃(q:Option Addr) (cap:Nat) (lr:List BatR) (V:Nat) (rs:Bs) (e st:Int),en=Jb (.agg #[Ja q lr.length cap,I O V,I O st,I O e])∧zCP rs e=st∧finS A=(lr.map BatR.b,V,rs,e)∧(∀x∈lr,zFd x)∧61*lr.length≤A.length∧(((q=none∧cap=0)∨∃g,q=some ⟨g,0,none⟩)∧lr.length≤cap)∧St W0 w' (K.and (Know.bats (Ja q lr.length cap) lr)) L:=by
 refine(zPX A hA h).mono ?_;rintro en w' ⟨q,cap,lr,V,rs,e,h0,h1⟩;exact⟨q,cap,lr,V,rs,e,_,h0,rfl,h1⟩
end Go.Proofs.YtenojajfacacoaaGreatDoor
