/- A text. -/
import Derived.Test.YtenojajfacacoaaGreatDoorGReportRawsCard12
import Derived.Test.YtenojajfacacoaaGreatDoorGReportRawsCard13
import Derived.RegionTactic
import Derived.Deep.RegionHeld3
import Derived.Deep.DeepCutAuto
import Derived.WalkMore
import Derived.Test.YtenojajfacacoaaGreatDoorGReportRawsCard11
import Derived.Test.YtenojajfacacoaaGreatDoorGReportRawsCard8
import Derived.Test.YtenojajfacacoaaGreatDoorGReportRawsCard10
import Derived.Test.YtenojajfacacoaaGreatDoorGReportRawsCard3
import Derived.Laws.Cover2
import Derived.Test.YtenojajfacacoaaGreatDoorGReportRawsCard4
import Derived.Test.YtenojajfacacoaaGreatDoorGReportRawsCard9
import Derived.Lib.SmallJoins
import Derived.Test.YtenojajfacacoaaGreatDoorGReportRawsCard1
/- A text. -/
namespace Go.Proofs.YtenojajfacacoaaGreatDoor
open Go.RowKit
set_option maxHeartbeats 8000000
set_option maxRecDepth 100000
theorem zMw(A:Bs)(hA:A.length≤90000){W0 w:World}{K:Know}{L:List Res}(h:St W0 w K L):
  Calls Tryz.prog 32 #[.string (bb A)] w fun en w'=>∃(q:Option Addr) (cap:Nat) (lr:List BatR) (V:Nat) (rs:Bs) (e:Int),en=.returned (.agg #[.slice q lr.length cap,.int .i64 V,.int .i64 (zBy rs e),.int .i64 e])∧finS A=(lr.map BatR.b,V,rs,e)∧(∀x∈lr,zDV x)∧61*lr.length≤A.length∧(((q=none∧cap=0)∨∃g,q=some ⟨g,0,none⟩)∧lr.length≤cap)∧St W0 w' (K.and (Know.bats (.slice q lr.length cap) lr)) L:=by
 obtain⟨rb,hrb⟩:∃b,w.heap.size=b:=⟨_,rfl⟩;obtain⟨ob,hob⟩:∃b,rb+1=b:=⟨_,rfl⟩;have g1:=h.allocRaw #[.slice none 0 0,.int .i64 0,.int .i64 0,.int .i64 0] 63;rw[hrb]at g1;have g2:=g1.allocRaw #[.slice none 0 0,.int .i64 0,.int .i64 0,.int .i64 0] 63;simp only[World.size_alloc,hrb,hob]at g2;have g2:=g2.nilRow 30 12;have o0:=g2.p1.rawCell 0;have of0:=g2.p1.rawFree 0;have o1:=g2.p1.rawCell 1;have of1:=g2.p1.rawFree 1;have o2:=g2.p1.rawCell 2;have of2:=g2.p1.rawFree 2;have o3:=g2.p1.rawCell 3;have of3:=g2.p1.rawFree 3;simp at o0 o1 o2 o3;have z0:=g2.p2.rawCell 0;have zf0:=g2.p2.rawFree 0;have z1:=g2.p2.rawCell 1;have zf1:=g2.p2.rawFree 1;have z2:=g2.p2.rawCell 2;have zf2:=g2.p2.rawFree 2;have z3:=g2.p2.rawCell 3;have zf3:=g2.p2.rawFree 3;simp at z0 z1 z2 z3;have H:=hQd g2;have HAL:=hQd hA;have hai:(A.length:Int)≤90000:=by omega
 clear h g1 g2 hA;go_enter Tryz.func32,Tryz.ntmps32;go_wp2;go_loopw [4] (fun _ wr=>∃(acc:List BatR) (K2:Know) (V:Nat) (bv:Value),V≤A.length∧Hid (zAo A=(acc.map BatR.b++(zAo (A.drop V)).1,(zAo (A.drop V)).2))∧Hid (K2.has K)∧Hid (∀x∈acc,K2.has (Know.recs (.slice x.q x.l.length x.cap) x.l))∧Hid (∀x∈acc,zDV x)∧Hid (61*acc.length≤V)∧St W0 wr K2 (.row bv 30 12 acc.length (acc.flatMap zAK)::.raw ob #[bv,.int .i64 V,.int .i64 0,.int .i64 0] 63::.raw rb #[.slice none 0 0,.int .i64 0,.int .i64 0,.int .i64 0] 63::L)) (fun _ wr=>A.length - ValM ob wr)
 case atStart=>exact⟨[],K,0,.slice none 0 0,Nat.zero_le _,hQd (by rw[List.drop_zero];rfl),hQd (Know.has_refl _),hQd (fun x hx=>by cases hx),hQd (fun x hx=>by cases hx),hQd (Nat.le_refl _),H.out⟩
 case round=>
  obtain⟨acc,K2,V,bv,hV,HSC,HKK,HREC,HLIT,HCNT,hst⟩:=hrel;clear H;clear o0 of0 o1 of1 o2 of2 o3 of3;clear z0 zf0 z1 zf1 z2 zf2 z3 zf3
  have hform:∃q2 cap2,bv=.slice q2 acc.length cap2∧((q2=none∧cap2=0)∨∃g,q2=some ⟨g,0,none⟩)∧acc.length≤cap2:=by
    exact zq22
  obtain⟨q2,cap2,rfl,hq2⟩:=hform;have HQ2:=hQd hq2;have HMS:=hQd (valM hst.p1);have HV:=hQd hV;have HAB:=hQd (show acc.length≤2000 by have:=HCNT.out;have:=HAL.out;omega);have HCN:=hQd (show 61*acc.length≤A.length by have:=HCNT.out;omega);have o0:=hst.p1.rawCell 0;have of0:=hst.p1.rawFree 0;have o1:=hst.p1.rawCell 1;have of1:=hst.p1.rawFree 1;have o2:=hst.p1.rawCell 2;have of2:=hst.p1.rawFree 2;have o3:=hst.p1.rawCell 3;have of3:=hst.p1.rawFree 3;simp at o0 o1 o2 o3;have z0:=hst.p2.rawCell 0;have zf0:=hst.p2.rawFree 0;have z1:=hst.p2.rawCell 1;have zf1:=hst.p2.rawFree 1;have z2:=hst.p2.rawCell 2;have zf2:=hst.p2.rawFree 2;have z3:=hst.p2.rawCell 3;have zf3:=hst.p2.rawFree 3;simp at z0 z1 z2 z3;have H:=hQd hst;clear hst hq2;obtain⟨R,hR⟩:∃R,A.drop V=R:=⟨_,rfl⟩;have hRl:R.length=A.length - V:=by rw[←hR,List.length_drop]
  have HR:=hQd (show List.take (A.length - V) (List.drop V A)=R by rw[hR];exact List.take_of_length_le (by omega));have HR0:=hQd hR
  by_cases hlt:V<A.length
  · have hvi:(V:Int)<(A.length:Int):=by omega
    have hvl:(V:Int)≤(A.length:Int):=by omega
    have hrl:(R.length:Int)≤90000:=by omega
    have HL:=hQd (show R.length≤140737488355328 by omega);have HL6:=hQd (show R.length≤1000000 by omega);have hr0:R≠[]:=by intro hh;rw[hh]at hRl;simp at hRl;omega
    clear hR
    by_cases c1:R.length<61
    · have hfs:zAn R=.ok none:=by unfold zAn;rw[if_pos c1]
      have HFE:=hQd (zHI HV.out HSC.out (by rw[HR0.out];exact hfs));have hst1:zBy (A.drop V) 0=1:=by rw[HR0.out];unfold zBy;rw[if_neg (by simp),if_pos hr0]
      have HST:=hQd hst1;have c1i:(R.length:Int)<61:=by omega
      clear hfs hst1 c1 hr0 hRl;go_upto_region 4 with (fail);rw[HR.out];go_wp2_with fail;have hz:St W0 _ _ (.raw rb #[.slice q2 acc.length cap2,.int .i64 V,.int .i64 1,.int .i64 0] 63::_):=(((((H.out.p1.rawSet 2 (.int .i64 1)).p2.rawSet 0 (.slice q2 acc.length cap2)).rawSet 1 (.int .i64 V)).rawSet 2 (.int .i64 1)).rawSet 3 (.int .i64 0));refine bodyPost_ret (zAl rfl _ _ rb [.slice q2 acc.length cap2,.int .i64 V,.int .i64 1,.int .i64 0] _ rfl (zAp hz) Tryz.underlying63 rfl (by kernel_rfl)) rfl ?_;have hf9:=(hz.drop.drop).freezeBats HREC.out;have hf8:=hf9.know (K':=K.and (Know.bats _ acc)) (fun w F hh=>⟨HKK.out _ _ hh.1,hh.2⟩);exact⟨q2,cap2,acc,V,_,0,by rw[HST.out],HFE.out,HLIT.out,HCN.out,HQ2.out,hf8⟩
    have c1i:¬(R.length:Int)<61:=by omega
    cases hp:zAI R with
    |error e=>
      have hre:zBv R=.error e:=by unfold zBv;rw[hp]
      have hfs:zAn R=.error e:=by unfold zAn;rw[if_neg c1,hp]
      have h0:=zGZ hfs;have HFE:=hQd (zNk HV.out HSC.out (by rw[HR0.out];exact hfs));have hst1:zBy [] e=2:=by unfold zBy;rw[if_pos h0]
      have HST:=hQd hst1;have HP:=hQd hp;have HRE:=hQd hre;have g1e:(e==0)=false:=by rw[beq_eq_false_iff_ne];exact h0
      have g2e:(e !=0)=true:=by simp[bne,g1e]
      clear hfs hst1 c1 hr0 hRl hp hre h0;go_upto_region 4 with (fail);rw[HR.out]
      go_wp2_with (first
  |(go_at_call 66;clear o0 of0 o1 of1 o2 of2 o3 of3;clear z0 zf0 z1 zf1 z2 zf2 z3 zf3;(with_reducible refine(zCA R e HP.out HL.out H.out).mono ?_);rintro e_ wn ⟨rfl,h⟩;have o0:=h.p1.rawCell 0;have of0:=h.p1.rawFree 0;have o1:=h.p1.rawCell 1;have of1:=h.p1.rawFree 1;have o2:=h.p1.rawCell 2;have of2:=h.p1.rawFree 2;have o3:=h.p1.rawCell 3;have of3:=h.p1.rawFree 3;simp at o0 o1 o2 o3;have z0:=h.p2.rawCell 0;have zf0:=h.p2.rawFree 0;have z1:=h.p2.rawCell 1;have zf1:=h.p2.rawFree 1;have z2:=h.p2.rawCell 2;have zf2:=h.p2.rawFree 2;have z3:=h.p2.rawCell 3;have zf3:=h.p2.rawFree 3;simp at z0 z1 z2 z3;replace H:=hQd h;clear h)
  |(go_at_call 67;clear o0 of0 o1 of1 o2 of2 o3 of3;clear z0 zf0 z1 zf1 z2 zf2 z3 zf3;(with_reducible refine(zFp R HL6.out e HRE.out H.out).mono ?_);rintro e_ wn ⟨rfl,h⟩;obtain⟨xb,hxb⟩:∃b,wn.heap.size=b:=⟨_,rfl⟩;have h:=h.allocRaw #[.int .i64 0,.int .i64 0,.bool false,.bool false,.bool false,.int .i64 0,.int .i64 0,.int .i64 0,.int .i64 0,.int .i64 0,.int .i64 0,.slice none 0 0,.int .i64 0,.int .i64 e] 105;rw[hxb]at h;have x0:=h.rawCell 0;have x1:=h.rawCell 1;have x2:=h.rawCell 2;have x3:=h.rawCell 3;have x4:=h.rawCell 4;have x5:=h.rawCell 5;have x6:=h.rawCell 6;have x7:=h.rawCell 7;have x8:=h.rawCell 8;have x9:=h.rawCell 9;have x10:=h.rawCell 10;have x11:=h.rawCell 11;have x12:=h.rawCell 12;have x13:=h.rawCell 13;simp at x0 x1 x2 x3 x4 x5 x6 x7 x8 x9 x10 x11 x12 x13;have o0:=h.p2.rawCell 0;have of0:=h.p2.rawFree 0;have o1:=h.p2.rawCell 1;have of1:=h.p2.rawFree 1;have o2:=h.p2.rawCell 2;have of2:=h.p2.rawFree 2;have o3:=h.p2.rawCell 3;have of3:=h.p2.rawFree 3;simp at o0 o1 o2 o3;have z0:=h.p3.rawCell 0;have zf0:=h.p3.rawFree 0;have z1:=h.p3.rawCell 1;have zf1:=h.p3.rawFree 1;have z2:=h.p3.rawCell 2;have zf2:=h.p3.rawFree 2;have z3:=h.p3.rawCell 3;have zf3:=h.p3.rawFree 3;simp at z0 z1 z2 z3;replace H:=hQd h;clear h))
      have hz:St W0 _ _ (.raw rb #[.slice q2 acc.length cap2,.int .i64 V,.int .i64 2,.int .i64 e] 63::_):=((((((H.out.p2.rawSet 2 (.int .i64 2)).rawSet 3 (.int .i64 e)).p3.rawSet 0 (.slice q2 acc.length cap2)).rawSet 1 (.int .i64 V)).rawSet 2 (.int .i64 2)).rawSet 3 (.int .i64 e));refine bodyPost_ret (zAl rfl _ _ rb [.slice q2 acc.length cap2,.int .i64 V,.int .i64 2,.int .i64 e] _ rfl (zAp hz) Tryz.underlying63 rfl (by kernel_rfl)) rfl ?_;have hf9:=(hz.drop.drop.drop).freezeBats HREC.out;have hf8:=hf9.know (K':=K.and (Know.bats _ acc)) (fun w F hh=>⟨HKK.out _ _ hh.1,hh.2⟩);exact⟨q2,cap2,acc,V,_,e,by rw[HST.out],HFE.out,HLIT.out,HCN.out,HQ2.out,hf8⟩
    |ok x=>
      obtain⟨r1,r2,r3,r4,r5,r6⟩:=zBs hp;obtain⟨nn,hnn⟩:∃nn,61+(x.len - 49).toNat=nn:=⟨_,rfl⟩;have hln:x.len+12=(nn:Int):=by omega
      have HP:=hQd hp
      by_cases c2:R.length<nn
      · have hfs:zAn R=.ok none:=by unfold zAn;rw[if_neg c1,hp];simp only;rw[if_pos (by omega)]
        have HFE:=hQd (zHI HV.out HSC.out (by rw[HR0.out];exact hfs));have hst1:zBy (A.drop V) 0=1:=by rw[HR0.out];unfold zBy;rw[if_neg (by simp),if_pos hr0]
        have HST:=hQd hst1;have c2i:(R.length:Int)<(nn:Int):=by omega
        clear hfs hst1 c1 hr0 hRl hp r3 r4 r5 r6 hnn c2;go_upto_region 4 with (fail);rw[HR.out];go_wp2_with (go_at_call 66;clear o0 of0 o1 of1 o2 of2 o3 of3;clear z0 zf0 z1 zf1 z2 zf2 z3 zf3;(with_reducible refine(zAO R x HP.out HL.out H.out).mono ?_);rintro e_ wn ⟨bl,rfl,h⟩;have p1:=h.rawCell 1;simp at p1;have h:=h.drop;have o0:=h.p1.rawCell 0;have of0:=h.p1.rawFree 0;have o1:=h.p1.rawCell 1;have of1:=h.p1.rawFree 1;have o2:=h.p1.rawCell 2;have of2:=h.p1.rawFree 2;have o3:=h.p1.rawCell 3;have of3:=h.p1.rawFree 3;simp at o0 o1 o2 o3;have z0:=h.p2.rawCell 0;have zf0:=h.p2.rawFree 0;have z1:=h.p2.rawCell 1;have zf1:=h.p2.rawFree 1;have z2:=h.p2.rawCell 2;have zf2:=h.p2.rawFree 2;have z3:=h.p2.rawCell 3;have zf3:=h.p2.rawFree 3;simp at z0 z1 z2 z3;replace H:=hQd h;clear h);have hz:St W0 _ _ (.raw rb #[.slice q2 acc.length cap2,.int .i64 V,.int .i64 1,.int .i64 0] 63::_):=(((((H.out.p1.rawSet 2 (.int .i64 1)).p2.rawSet 0 (.slice q2 acc.length cap2)).rawSet 1 (.int .i64 V)).rawSet 2 (.int .i64 1)).rawSet 3 (.int .i64 0));refine bodyPost_ret (zAl rfl _ _ rb [.slice q2 acc.length cap2,.int .i64 V,.int .i64 1,.int .i64 0] _ rfl (zAp hz) Tryz.underlying63 rfl (by kernel_rfl)) rfl ?_;have hf9:=(hz.drop.drop).freezeBats HREC.out;have hf8:=hf9.know (K':=K.and (Know.bats _ acc)) (fun w F hh=>⟨HKK.out _ _ hh.1,hh.2⟩);exact⟨q2,cap2,acc,V,_,0,by rw[HST.out],HFE.out,HLIT.out,HCN.out,HQ2.out,hf8⟩
      have c2i:¬(R.length:Int)<(nn:Int):=by omega
      cases ha:asmB x (R.take 61) ((R.drop 61).take (x.len - 49).toNat)with
      |error e=>
        have hre:zBv R=.error e:=by unfold zBv;rw[hp];simp only;rw[if_neg (by omega),ha]
        have hfs:zAn R=.error e:=by unfold zAn;rw[if_neg c1,hp];simp only;rw[if_neg (by omega),ha]
        have h0:=zGZ hfs;have HFE:=hQd (zNk HV.out HSC.out (by rw[HR0.out];exact hfs));have hst1:zBy [] e=2:=by unfold zBy;rw[if_pos h0]
        have HST:=hQd hst1;have HRE:=hQd hre;have g1e:(e==0)=false:=by rw[beq_eq_false_iff_ne];exact h0
        have g2e:(e !=0)=true:=by simp[bne,g1e]
        clear hfs hst1 c1 hr0 hRl hp hre h0 ha r3 r4 r5 r6 hnn c2;go_upto_region 4 with (fail);rw[HR.out]
        go_wp2_with (first
  |(go_at_call 66;clear o0 of0 o1 of1 o2 of2 o3 of3;clear z0 zf0 z1 zf1 z2 zf2 z3 zf3;(with_reducible refine(zAO R x HP.out HL.out H.out).mono ?_);rintro e_ wn ⟨bl,rfl,h⟩;have p1:=h.rawCell 1;simp at p1;have h:=h.drop;have o0:=h.p1.rawCell 0;have of0:=h.p1.rawFree 0;have o1:=h.p1.rawCell 1;have of1:=h.p1.rawFree 1;have o2:=h.p1.rawCell 2;have of2:=h.p1.rawFree 2;have o3:=h.p1.rawCell 3;have of3:=h.p1.rawFree 3;simp at o0 o1 o2 o3;have z0:=h.p2.rawCell 0;have zf0:=h.p2.rawFree 0;have z1:=h.p2.rawCell 1;have zf1:=h.p2.rawFree 1;have z2:=h.p2.rawCell 2;have zf2:=h.p2.rawFree 2;have z3:=h.p2.rawCell 3;have zf3:=h.p2.rawFree 3;simp at z0 z1 z2 z3;replace H:=hQd h;clear h)
  |(go_at_call 67;clear o0 of0 o1 of1 o2 of2 o3 of3;clear z0 zf0 z1 zf1 z2 zf2 z3 zf3;(with_reducible refine(zFp R HL6.out e HRE.out H.out).mono ?_);rintro e_ wn ⟨rfl,h⟩;obtain⟨xb,hxb⟩:∃b,wn.heap.size=b:=⟨_,rfl⟩;have h:=h.allocRaw #[.int .i64 0,.int .i64 0,.bool false,.bool false,.bool false,.int .i64 0,.int .i64 0,.int .i64 0,.int .i64 0,.int .i64 0,.int .i64 0,.slice none 0 0,.int .i64 0,.int .i64 e] 105;rw[hxb]at h;have x0:=h.rawCell 0;have x1:=h.rawCell 1;have x2:=h.rawCell 2;have x3:=h.rawCell 3;have x4:=h.rawCell 4;have x5:=h.rawCell 5;have x6:=h.rawCell 6;have x7:=h.rawCell 7;have x8:=h.rawCell 8;have x9:=h.rawCell 9;have x10:=h.rawCell 10;have x11:=h.rawCell 11;have x12:=h.rawCell 12;have x13:=h.rawCell 13;simp at x0 x1 x2 x3 x4 x5 x6 x7 x8 x9 x10 x11 x12 x13;have o0:=h.p2.rawCell 0;have of0:=h.p2.rawFree 0;have o1:=h.p2.rawCell 1;have of1:=h.p2.rawFree 1;have o2:=h.p2.rawCell 2;have of2:=h.p2.rawFree 2;have o3:=h.p2.rawCell 3;have of3:=h.p2.rawFree 3;simp at o0 o1 o2 o3;have z0:=h.p3.rawCell 0;have zf0:=h.p3.rawFree 0;have z1:=h.p3.rawCell 1;have zf1:=h.p3.rawFree 1;have z2:=h.p3.rawCell 2;have zf2:=h.p3.rawFree 2;have z3:=h.p3.rawCell 3;have zf3:=h.p3.rawFree 3;simp at z0 z1 z2 z3;replace H:=hQd h;clear h))
        have hz:St W0 _ _ (.raw rb #[.slice q2 acc.length cap2,.int .i64 V,.int .i64 2,.int .i64 e] 63::_):=((((((H.out.p2.rawSet 2 (.int .i64 2)).rawSet 3 (.int .i64 e)).p3.rawSet 0 (.slice q2 acc.length cap2)).rawSet 1 (.int .i64 V)).rawSet 2 (.int .i64 2)).rawSet 3 (.int .i64 e));refine bodyPost_ret (zAl rfl _ _ rb [.slice q2 acc.length cap2,.int .i64 V,.int .i64 2,.int .i64 e] _ rfl (zAp hz) Tryz.underlying63 rfl (by kernel_rfl)) rfl ?_;have hf9:=(hz.drop.drop.drop).freezeBats HREC.out;have hf8:=hf9.know (K':=K.and (Know.bats _ acc)) (fun w F hh=>⟨HKK.out _ _ hh.1,hh.2⟩);exact⟨q2,cap2,acc,V,_,e,by rw[HST.out],HFE.out,HLIT.out,HCN.out,HQ2.out,hf8⟩
      |ok b=>
        obtain⟨n,hn⟩:∃n,nn=n:=⟨_,rfl⟩;have hre:zBv R=.ok (b,n):=by unfold zBv;rw[hp];simp only;rw[if_neg (by omega),ha,hnn,hn]
        have hfs:zAn R=.ok (some (b,n)):=by unfold zAn;rw[if_neg c1,hp];simp only;rw[if_neg (by omega),ha,hnn,hn]
        obtain⟨⟨hn61,hnl⟩,hlb⟩:=zCt hfs;have HNX:=hQd (zMh HSC.out (by rw[HR0.out];exact hfs));have HRE:=hQd hre;have HLB:=hQd (show zNS 1000000 b from⟨by have:=hlb.1;omega,fun y hy=>by have:=hlb.2 y hy;omega⟩);have hvn:(V:Int)+(n:Int)≤90000:=by omega
        have HVN:=hQd (show V+n≤A.length by omega);have HN61:=hQd hn61;clear hfs c1 hr0 hRl hp hre ha r3 r4 r5 r6 hnn c2 hlb hn61 hnl hn;go_upto_region 4 with (fail);rw[HR.out]
        go_wp2_with (first
  |(go_at_call 66;clear o0 of0 o1 of1 o2 of2 o3 of3;clear z0 zf0 z1 zf1 z2 zf2 z3 zf3;(with_reducible refine(zAO R x HP.out HL.out H.out).mono ?_);rintro e_ wn ⟨bl,rfl,h⟩;have p1:=h.rawCell 1;simp at p1;have h:=h.drop;have o0:=h.p1.rawCell 0;have of0:=h.p1.rawFree 0;have o1:=h.p1.rawCell 1;have of1:=h.p1.rawFree 1;have o2:=h.p1.rawCell 2;have of2:=h.p1.rawFree 2;have o3:=h.p1.rawCell 3;have of3:=h.p1.rawFree 3;simp at o0 o1 o2 o3;have z0:=h.p2.rawCell 0;have zf0:=h.p2.rawFree 0;have z1:=h.p2.rawCell 1;have zf1:=h.p2.rawFree 1;have z2:=h.p2.rawCell 2;have zf2:=h.p2.rawFree 2;have z3:=h.p2.rawCell 3;have zf3:=h.p2.rawFree 3;simp at z0 z1 z2 z3;replace H:=hQd h;clear h)
  |(go_at_call 67;clear o0 of0 o1 of1 o2 of2 o3 of3;clear z0 zf0 z1 zf1 z2 zf2 z3 zf3;(with_reducible refine(zJB R HL6.out b n HRE.out H.out).mono ?_);rintro e_ wn ⟨q,l,cap2_,rfl,hlm,h⟩;have HLM:=hQd hlm;clear hlm;obtain⟨xb,hxb⟩:∃b,wn.heap.size=b:=⟨_,rfl⟩;have h:=h.allocRaw #[.int .i64 b.base,.int .i64 b.leader,.bool b.app,.bool b.txn,.bool b.ctl,.int .i64 b.last,.int .i64 b.first,.int .i64 b.maxt,.int .i64 b.prod,.int .i64 b.epoch,.int .i64 b.seq,.slice q l.length cap2_,.int .i64 n,.int .i64 0] 105;rw[hxb]at h;have x0:=h.rawCell 0;have x1:=h.rawCell 1;have x2:=h.rawCell 2;have x3:=h.rawCell 3;have x4:=h.rawCell 4;have x5:=h.rawCell 5;have x6:=h.rawCell 6;have x7:=h.rawCell 7;have x8:=h.rawCell 8;have x9:=h.rawCell 9;have x10:=h.rawCell 10;have x11:=h.rawCell 11;have x12:=h.rawCell 12;have x13:=h.rawCell 13;simp at x0 x1 x2 x3 x4 x5 x6 x7 x8 x9 x10 x11 x12 x13;have o0:=h.p2.rawCell 0;have of0:=h.p2.rawFree 0;have o1:=h.p2.rawCell 1;have of1:=h.p2.rawFree 1;have o2:=h.p2.rawCell 2;have of2:=h.p2.rawFree 2;have o3:=h.p2.rawCell 3;have of3:=h.p2.rawFree 3;simp at o0 o1 o2 o3;have z0:=h.p3.rawCell 0;have zf0:=h.p3.rawFree 0;have z1:=h.p3.rawCell 1;have zf1:=h.p3.rawFree 1;have z2:=h.p3.rawCell 2;have zf2:=h.p3.rawFree 2;have z3:=h.p3.rawCell 3;have zf3:=h.p3.rawFree 3;simp at z0 z1 z2 z3;replace H:=hQd h;clear h)
  |(at_builtin;clear o0 of0 o1 of1 o2 of2 o3 of3;clear z0 zf0 z1 zf1 z2 zf2 z3 zf3;clear x0 x1 x2 x3 x4 x5 x6 x7 x8 x9 x10 x11 x13;refine zAB rfl _ _ 22 rfl 30 Tryz.underlying22 zDJ _ _ _ rfl H.out.p1 [.int .i64 b.base,.int .i64 b.leader,.bool b.app,.bool b.txn,.bool b.ctl,.int .i64 b.last,.int .i64 b.first,.int .i64 b.maxt,.int .i64 b.prod,.int .i64 b.epoch,.int .i64 b.seq,.slice q l.length cap2_] 30 (by first|rfl|(rw[World.size_alloc];rfl)|(rw[World.size_alloc,hxb];rfl)) rfl (by simp[Value.oneCell']) (by have:=HAB.out;unfold maxLen;omega) (by have:=HAB.out;omega) ?_;intro v' w' h;obtain⟨qv,cv,hv⟩:=h.rowAny;subst hv;have x12:=h.p1.rawCell 12;simp at x12;have o0:=h.p2.rawCell 0;have of0:=h.p2.rawFree 0;have o1:=h.p2.rawCell 1;have of1:=h.p2.rawFree 1;have o2:=h.p2.rawCell 2;have of2:=h.p2.rawFree 2;have o3:=h.p2.rawCell 3;have of3:=h.p2.rawFree 3;simp at o0 o1 o2 o3;replace H:=hQd h;clear h))
        have h7:=((H.out.p2.rawSet 0 (.slice qv (acc.length+1) cv)).rawSet 1 (.int .i64 ((V+n:Nat):Int))).p1.p2.drop;go_roundw
        case rel=>
         refine⟨acc++[⟨b,l,q,cap2_⟩],K2.and (Know.recs (.slice q l.length cap2_) l),V+n,.slice qv (acc.length+1) cv,HVN.out,?_,?_,?_,?_,?_,?_⟩
         · exact hQd (by rw[List.map_append];exact HNX.out)
         · exact hQd (Know.has_trans (Know.has_left (Know.has_refl _)) HKK.out)
         · refine hQd (fun y hy=> ?_)
           rcases List.mem_append.1 hy with hy|hy
           · exact Know.has_trans (Know.has_left (Know.has_refl _)) (HREC.out y hy)
           · rw[List.mem_singleton.1 hy];exact Know.has_right (Know.has_refl _)
         · refine hQd (fun y hy=> ?_)
           rcases List.mem_append.1 hy with hy|hy
           · exact HLIT.out y hy
           · rw[List.mem_singleton.1 hy];exact⟨HLM.out,HLB.out⟩
         · exact hQd (by rw[List.length_append];show 61*(acc.length+1)≤V+n;have:=HCNT.out;have:=HN61.out;omega)
         · rw[List.length_append,List.flatMap_append];exact h7
        case measure=>
         have h8:=valM h7.p1;rw[HMS.out];exact zMZ (congrArg (fun t=>A.length - t) h8) (by show A.length - (V+n)<A.length - V;have:=HVN.out;have:=HN61.out;omega)
  · obtain rfl:V=A.length:=by omega
    have hfs:zAn (A.drop A.length)=.ok none:=by rw[List.drop_length];exact zGY
    have HFE:=hQd (zHI HV.out HSC.out hfs);have hst1:zBy (A.drop A.length) 0=0:=by rw[List.drop_length];rfl
    have HST:=hQd hst1;clear hfs hst1 hR hRl;go_wp2_with fail;have hz:St W0 _ _ (.raw rb #[.slice q2 acc.length cap2,.int .i64 A.length,.int .i64 0,.int .i64 0] 63::_):=((((H.out.p2.rawSet 0 (.slice q2 acc.length cap2)).rawSet 1 (.int .i64 A.length)).rawSet 2 (.int .i64 0)).rawSet 3 (.int .i64 0));refine bodyPost_ret (zAl rfl _ _ rb [.slice q2 acc.length cap2,.int .i64 A.length,.int .i64 0,.int .i64 0] _ rfl (zAp hz) Tryz.underlying63 rfl (by kernel_rfl)) rfl ?_;have hf9:=(hz.drop.p1.drop).freezeBats HREC.out;have hf8:=hf9.know (K':=K.and (Know.bats _ acc)) (fun w F hh=>⟨HKK.out _ _ hh.1,hh.2⟩);exact⟨q2,cap2,acc,A.length,_,0,by rw[HST.out],HFE.out,HLIT.out,HCN.out,HQ2.out,hf8⟩
theorem zLl(A:Bs)(hA:A.length≤90000){W0 w:World}{K:Know}{L:List Res}(h:St W0 w K L):
  Calls Tryz.prog 32 #[.string (bb A)] w fun en w'=>∃(q:Option Addr) (cap:Nat) (lr:List BatR) (V:Nat) (rs:Bs) (e st:Int),en=.returned (.agg #[.slice q lr.length cap,.int .i64 V,.int .i64 st,.int .i64 e])∧zBy rs e=st∧finS A=(lr.map BatR.b,V,rs,e)∧(∀x∈lr,zDV x)∧61*lr.length≤A.length∧(((q=none∧cap=0)∨∃g,q=some ⟨g,0,none⟩)∧lr.length≤cap)∧St W0 w' (K.and (Know.bats (.slice q lr.length cap) lr)) L:=by
 refine(zMw A hA h).mono ?_;rintro en w' ⟨q,cap,lr,V,rs,e,h0,h1⟩;exact⟨q,cap,lr,V,rs,e,_,h0,rfl,h1⟩
variable {W0 w:World}{K:Know}{L:List Res}
theorem zGx(b:BatS)(l:List (RecS×Value))(q:Option Addr)(cap:Nat)(hl:l.map (·.1)=b.recs)(so:MidOk b)(hk:K.has (Know.recs (.slice q l.length cap) l))(h:St W0 w K L):
  Calls Tryz.prog 48 #[.agg #[.int .i64 b.base,.int .i64 b.leader,.bool b.app,.bool b.txn,.bool b.ctl,.int .i64 b.last,.int .i64 b.first,.int .i64 b.maxt,.int .i64 b.prod,.int .i64 b.epoch,.int .i64 b.seq,.slice q l.length cap]] w fun en w'=>en=.returned (.tuple #[.string (bb b.enc),.int .i64 0])∧St W0 w' K L:=by
 have hrow:=so.rows;have hlen:=so.len;have hcr:=b.crc_lt;have hml:l.length=b.recs.length:=by rw[←hl,List.length_map]
 have f0:=BatS.fitsAll so.err so.rng 0 (by decide) (by omega) (by omega);have f1:=BatS.fitsAll so.err so.rng b.crc (by omega) (by omega) (by omega);have r0:=BatS.pre_R so.err so.rng 0 (by decide) (by omega) (by omega);have r1:=BatS.pre_R so.err so.rng b.crc (by omega) (by omega) (by omega);have hmx:b.first≤9223372036854775807:=by have:=so.rng.2.2.2.1.2;omega
 have e0:b.pre 0=(⟨b.base,49+(b.rowsB.length:Int),b.leader,0,zAQ b.app b.txn b.ctl 3,b.last,b.first,b.maxt,b.prod,b.epoch,b.seq,(l.length:Int)⟩:PreS):=by unfold BatS.pre;rw[hml]
 have e1:b.pre b.crc=(⟨b.base,49+(b.rowsB.length:Int),b.leader,(b.crc:Int),zAQ b.app b.txn b.ctl 3,b.last,b.first,b.maxt,b.prod,b.epoch,b.seq,(l.length:Int)⟩:PreS):=by unfold BatS.pre;rw[hml]
 have i0:=zC1 f0;have i1:=zC1 f1;have hd0:=b.pre_drop 0;have l0:=zA0 (b.pre 0);have l1:=zA0 (b.pre b.crc);have he:zAA ⟨b.base,b.leader,b.app,b.txn,b.ctl,b.last,b.first,b.maxt,b.prod,b.epoch,b.seq,l.map (·.1)⟩=0:=by rw[hl];exact so.err
 have hrc:zBT (l.map (·.1))=0:=by rw[hl];exact(zB7 so.err).2.2.2
 have hrw:zAX l=b.rowsB:=by rw[zCv,hl];rfl
 have hfb:FitB l:=by
  intro x hx;obtain⟨a,c,d⟩:=so.fit x.1 (by rw[←hl];exact List.mem_map.2 ⟨x,hx,rfl⟩);have:=zE0 x.1.hdrs 2000 (by unfold RecS.sum at d;omega);exact⟨a,fun y hy=>by have:=this y hy;omega,by omega⟩
 have hall:zAi (b.pre b.crc).items++b.rowsB=b.enc:=rfl;have hx:(zAq 0#32 ((zAi (b.pre 0).items).drop 21++b.rowsB)).toNat=b.crc:=by rw[hd0];rfl
 rw[e0]at r0 i0;rw[e1]at r1 i1;obtain⟨s0,hs0⟩:∃s,zAi (b.pre 0).items=s:=⟨_,rfl⟩;obtain⟨s1,hs1⟩:∃s,zAi (b.pre b.crc).items=s:=⟨_,rfl⟩;have g0:zAi (⟨b.base,49+(b.rowsB.length:Int),b.leader,0,zAQ b.app b.txn b.ctl 3,b.last,b.first,b.maxt,b.prod,b.epoch,b.seq,(l.length:Int)⟩:PreS).items=s0:=e0 ▸ hs0;have g1:zAi (⟨b.base,49+(b.rowsB.length:Int),b.leader,(b.crc:Int),zAQ b.app b.txn b.ctl 3,b.last,b.first,b.maxt,b.prod,b.epoch,b.seq,(l.length:Int)⟩:PreS).items=s1:=e1 ▸ hs1;rw[g0]at i0;rw[g1]at i1;rw[hs0]at hx l0;rw[hs1]at hall l1;exact zDS b.base b.leader b.app b.txn b.ctl b.last b.first b.maxt b.prod b.epoch b.seq l q cap he hmx hfb (by omega) b.rowsB s0 s1 b.enc b.crc (zAQ b.app b.txn b.ctl 3) hrc hrw (by omega) rfl r0 r1 i0 i1 l0 l1 hx hall hk h
theorem zGe(b:BatS)(s:Bs)(hs:b.enc=s)(l:List (RecS×Value))(q:Option Addr)(cap:Nat)(hl:l.map (·.1)=b.recs)(so:MidOk b)(hk:K.has (Know.recs (.slice q l.length cap) l))(h:St W0 w K L):
  Calls Tryz.prog 48 #[.agg #[.int .i64 b.base,.int .i64 b.leader,.bool b.app,.bool b.txn,.bool b.ctl,.int .i64 b.last,.int .i64 b.first,.int .i64 b.maxt,.int .i64 b.prod,.int .i64 b.epoch,.int .i64 b.seq,.slice q l.length cap]] w fun en w'=>en=.returned (.tuple #[.string (bb s),.int .i64 0])∧St W0 w' K L:=by
 subst hs;exact zGx b l q cap hl so hk h
theorem MidOk.elen{b:BatS}(h:MidOk b):b.enc.length≤2061:=by rw[b.enc_len];have:=h.rows;omega
theorem zKU:∀(l:List BatR),(∀x∈l,MidOk x.b)→(encB l).length≤2061*l.length
  |[],_=>by simp[encB]
  |x::t,h=>by
    have h1:=zKU t (fun y hy=>h y (by simp[hy]));have h2:=(h x (by simp)).elen;have e:encB (x::t)=x.b.enc++encB t:=rfl;rw[e,List.length_append,List.length_cons]
    omega
theorem zKm(l:List BatR)(q:Option Addr)(cap:Nat)(s:Bs)(hs:encB l=s)(hf:∀x∈l,x.l.map (·.1)=x.b.recs∧MidOk x.b)(hll:l.length≤30)(hk:K.has (Know.bats (.slice q l.length cap) l))(h:St W0 w K L):
  Calls Tryz.prog 19 #[.slice q l.length cap] w fun en w'=>en=.returned (.tuple #[.string (bb s),.int .i64 0])∧St W0 w' K L:=by
 have g1:=h.allocOut;obtain⟨po,hpo⟩:∃b,w.heap.size=b:=⟨_,rfl⟩;rw[hpo]at g1;have H:=hQd g1;have HK:=hQd hk;have HFT:=hQd hf;have HLL:=hQd hll;have HSE:=hQd hs;clear h g1 hk hf hll hs;go_enter Tryz.func19,Tryz.ntmps19;go_wp2;go_loopw [6,7,8,11] (fun _ _ _ iv wr=>∃k:Nat,k≤l.length∧iv=.int .i64 k∧St W0 wr K (.out po ⟨encB (l.take k),0⟩::L)) (fun _ _ _ iv _=>l.length - (intOf iv).toNat)
 case atStart=>exact⟨0,Nat.zero_le _,rfl,H.out⟩
 case round=>
  obtain⟨k,hkl,rfl,hst⟩:=hrel;clear H;have H:=hQd hst;clear hst
  by_cases hlt:k<l.length
  · have hl20:(l.length:Int)≤30:=by have:=HLL.out;omega
    have het:=zNq l k hlt;obtain⟨b,off,hqq⟩:=zGc HK.out H.out (by omega);subst hqq;obtain⟨x,hx⟩:∃x,l[k]=x:=⟨_,rfl⟩;have cc:=zDQ HK.out H.out k hlt x hx;have hmem:x∈l:=hx ▸ List.getElem_mem hlt;have XF:=hQd (HFT.out x hmem);have XR3:=hQd XF.out.1;have XM:=hQd XF.out.2;have XK:=hQd (zCQ HK.out hmem);obtain⟨c0,c1,c2,c3,c4,c5,c6,c7,c8,c9,c10,c11⟩:=cc;obtain⟨wE,hwE⟩:∃b,wr.heap.size=b:=⟨_,rfl⟩;have hki:(k:Int)<(l.length:Int):=by omega
    have h:=H.out.allocRaw #[.int .i64 x.b.base,.int .i64 x.b.leader,.bool x.b.app,.bool x.b.txn,.bool x.b.ctl,.int .i64 x.b.last,.int .i64 x.b.first,.int .i64 x.b.maxt,.int .i64 x.b.prod,.int .i64 x.b.epoch,.int .i64 x.b.seq,.slice x.q x.l.length x.cap] 30;rw[hwE]at h;clear H;have H:=hQd h;clear h;rw[hx]at het;obtain⟨x0,x1,x2,x3,x4,x5,x6,x7,x8,x9,x10,x11,y0,y1,y2,y3,y4,y5,y6,y7,y8,y9,y10,y11⟩:=zAc (b:=wE) (H.out);obtain⟨s0,hs0⟩:∃s,x.b.enc=s:=⟨_,rfl⟩;have HS:=hQd hs0;rw[hs0]at het
    have OK:=hQd (show(⟨encB (l.take k),0⟩:OutS).ok s0.length by
     have h1:=zKU (l.take k) (fun y hy=>(HFT.out y (List.mem_of_mem_take hy)).2);have h2:=HLL.out;have h3:=XM.out.elen;rw[HS.out]at h3;rw[List.length_take]at h1;unfold OutS.ok;simp only
     omega)
    have EP:=hQd (show(⟨encB (l.take k),0⟩:OutS).put s0=⟨encB (l.take (k+1)),0⟩ by rw[het];rfl);clear het hs0 hx hmem
    go_wp2_with (first
  |(go_at_call 48;clear x0 y0 x1 y1 x2 y2 x3 y3 x4 y4 x5 y5 x6 y6 x7 y7 x8 y8 x9 y9 x10 y10 x11 y11;(with_reducible refine(zGe x.b s0 HS.out x.l _ _ XR3.out XM.out XK.out H.out).mono ?_);rintro e_ wn ⟨rfl,h⟩;replace H:=hQd h;clear h;obtain⟨x0,x1,x2,x3,x4,x5,x6,x7,x8,x9,x10,x11,y0,y1,y2,y3,y4,y5,y6,y7,y8,y9,y10,y11⟩:=zAc (b:=wE) (H.out))
  |(go_at_call 49;(with_reducible refine(zO0 po _ _ H.out.p1 OK.out).mono ?_);rw[EP.out];rintro e_ wn ⟨rfl,h⟩;replace H:=hQd h;clear h))
    go_roundw
    case rel=>exact⟨k+1,hlt,by go_num,H.out.p1.drop⟩
    case measure=>first|(simp[intOf];done)|(simp[intOf];omega)
  · obtain rfl:k=l.length:=by omega
    have h:=H.out;rw[List.take_length,HSE.out]at h;clear H;have H:=hQd h;clear h;have ET:=hQd (show(⟨s,0⟩:OutS).text=(s,0)from rfl)
    go_wp2_with (first
  |(go_at_call 50;(with_reducible refine(zJx po _ H.out).mono ?_);rw[ET.out];rintro e_ wn ⟨rfl,h⟩;replace H:=hQd h;clear h))
    go_ret2;exact⟨rfl,H.out.drop⟩
open Go.ChangeShapes Go.WideShapes Go.ChangeAt Go.Deep
section
variable {H:Type}{enc:TypeId×Value→H}{w:World}{spare:Nat→Bool}{held:Bool}
end
end Go.Proofs.YtenojajfacacoaaGreatDoor
namespace Go.Proofs.YtenojajfacacoaaGreatDoor
open Go.RowKit
open Go.ChangeShapes Go.WideShapes Go.ChangeAt Go.Deep
section
variable {H:Type}{enc:TypeId×Value→H}{w:World}{spare:Nat→Bool}{held:Bool}
end
end Go.Proofs.YtenojajfacacoaaGreatDoor
namespace Go.Proofs.YtenojajfacacoaaGreatDoor
open Go.RowKit
end Go.Proofs.YtenojajfacacoaaGreatDoor
namespace Go.Proofs.YtenojajfacacoaaGreatDoor
open Go.Joins Go.RowKit
open Go.ChangeShapes Go.WideShapes Go.ChangeAt Go.Deep
section
variable {H:Type}{enc:TypeId×Value→H}{w:World}{spare:Nat→Bool}{held:Bool}
end
end Go.Proofs.YtenojajfacacoaaGreatDoor
namespace Go.Proofs.YtenojajfacacoaaGreatDoor
open Go.RowKit
def GoodR (l:List (RecS×Value)):Prop:=∀x∈l,smallR x.1=1∧zAZ x.1=0
theorem GoodR.nil:GoodR []:=fun _ h=>by cases h
def FitR (l:List (RecS×Value)):Prop:=∀x∈l,x.1.R∧x.1.hdrs.length≤9223372036854775807∧HFit x.1.hdrs∧x.1.key.data.length≤140737488351232∧x.1.val.data.length≤140737488351232
end Go.Proofs.YtenojajfacacoaaGreatDoor
namespace Go.Proofs.YtenojajfacacoaaGreatDoor
open Go.Joins Go.RowKit
open Go.ChangeShapes Go.WideShapes Go.ChangeAt Go.Deep
def QRec (W:World) (x:RecS×Value):Prop:=RowsOf (fun _ cs x=>RHdr cs x) (· <W.heap.size) W x.2 3 x.1.hdrs∧x.1.R∧x.1.hdrs.length≤9223372036854775807∧HFit x.1.hdrs∧x.1.key.data.length≤140737488351232∧x.1.val.data.length≤140737488351232
theorem QRec.fit{W:World}{l:List (RecS×Value)}(h:∀x∈l,QRec W x):FitR l:=fun x hx=>(h x hx).2
theorem QRec.start{W:World}{v:Value}{l:List (RecS×Value)}(hr:RowsOf (fun _ cs x=>RRec cs x) (· <W.heap.size) W v 7 l)(h:∀x∈l,QRec W x):St W W (Know.recs v l) []:=St.start ⟨hr,fun x hx=>(h x hx).1⟩
section
variable {H:Type}{enc:TypeId×Value→H}{w:World}{spare:Nat→Bool}{held:Bool}
end
end Go.Proofs.YtenojajfacacoaaGreatDoor
namespace Go.Proofs.YtenojajfacacoaaGreatDoor
open Go.Joins Go.RowKit
open Go.ChangeShapes Go.WideShapes Go.ChangeAt Go.Deep
section
variable {H:Type}{enc:TypeId×Value→H}{w:World}{spare:Nat→Bool}{held:Bool}
end
end Go.Proofs.YtenojajfacacoaaGreatDoor
