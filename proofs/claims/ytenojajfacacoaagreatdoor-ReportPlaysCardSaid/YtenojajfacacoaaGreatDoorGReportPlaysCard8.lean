/- A text. -/
import Derived.Test.YtenojajfacacoaaGreatDoorGReportPlaysCard7
import Derived.Test.YtenojajfacacoaaGreatDoorGReportPlaysCard4
import Derived.Test.YtenojajfacacoaaGreatDoorGReportPlaysCard3
import Derived.Test.YtenojajfacacoaaGreatDoorGReportPlaysCard5
import Derived.Test.YtenojajfacacoaaGreatDoorGReportPlaysCard2
import Derived.Test.YtenojajfacacoaaGreatDoorGReportPlaysCard6
import Derived.Deep.OwnRows
import Derived.Deep.RegionHeld3
import Derived.Deep.DeepCutAuto
import Derived.IntWalk
/- A text. -/
namespace Go.Proofs.YtenojajfacacoaaGreatDoor
open Go.RowKit
open Go.Value renaming bool→U, string→Z, slice→Ja, int→I, pointer→Jc
open Go.Ending renaming returned→Jb
open _root_.Nat renaming le_refl→Jo, zero_le→Ji, add_assoc→Jm
open Go.IntKind renaming i64→O
open _root_.Go.Proofs.Tryz renaming prog→Jd
open _root_.List renaming length_cons→Jg, take_of_length_le→Jj, length_take→Jk, length_append→Je, length→Jh, take→Jq, getElem_mem→Jp, length_drop→Jf, length_nil→Jl, length_map→Jn
set_option maxHeartbeats 8000000
set_option maxRecDepth 100000
theorem zq10{p:Prop}(h:p:=by
  have hd:=zCg l k hlt _ rfl;obtain⟨b,off,hqq⟩:=zBH HK.out H.out oM;subst hqq;obtain⟨⟨x,vx⟩,hx⟩:∃x,l[k]=x:=⟨_,rfl⟩;have cc:=zAQ HK.out H.out k hlt (x,vx) hx;have hmem:(x,vx)∈l:=hx ▸ Jp hlt;have xf:x.R∧HFit x.hdrs∧x.sum≤1000000:=HFT.out (x,vx) hmem;have xk:K.has (Know.flat RHdr vx 3 x.hdrs):=zAX HK.out hmem;obtain⟨qx,capx,hvx⟩:=zAw xk H.out;subst hvx;simp only at cc;obtain⟨c0,c1,c2,c3,c4,c5,c6⟩:=cc;rw[←Jm]at c1 c2 c3 c4 c5 c6;have hx1:l[k].1=x:=by rw[hx]
  have XF:=hQd xf;have XK:=hQd xk;have HX:=hQd hx1;clear xf xk hx1 hx hmem;have hki:(k:Int)<(l.length:Int):=by omega
  rw[HX.out]at hd;have hc:=HC.out;rw[hd]at hc;have hc:(if zA8 x=0 then zCl ((l.map (·.1)).drop (k+1))else zA8 x)=tot:=hc;have XL:=hQd (show x.hdrs.length≤9223372036854775807 by have:=zNd XF.out.2.2;omega);clear hd
  by_cases c1:zA8 x=0
  · rw[if_pos c1]at hc;have HC2:=hQd hc;have ER:=hQd c1;clear hc c1;go_wp2_with (go_at_call 25;(with_reducible refine(zGX x (Ja qx x.hdrs.length capx) _ ER.out XL.out XK.out H.out).zM ?_);clear H;intro wn H;obtain⟨x0,x1,x2,x3,x4,x5,x6,x7,x8,x9,x10,x11,y0,y1,y2,y3,y4,y5,y6,y7,y8,y9,y10,y11⟩:=zAd (b:=hb) (H.out));go_roundw
    case rel=>exact⟨k+1,hlt,by go_num,HC2.out,H.out⟩
    case measure=>first|(simp[intOf];done)|(simp[intOf];omega)
  · rw[if_neg c1]at hc;have ER:=hQd hc;have gz:(tot==0)=false:=by rw[beq_eq_false_iff_ne,←hc];exact c1
    obtain rfl:tot=e:=HTE.out (by rw[←hc];exact c1);clear hc c1;go_wp2_with (go_at_call 25;(with_reducible refine(zGX x (Ja qx x.hdrs.length capx) _ ER.out XL.out XK.out H.out).zM ?_);clear H;intro wn H;obtain⟨x0,x1,x2,x3,x4,x5,x6,x7,x8,x9,x10,x11,y0,y1,y2,y3,y4,y5,y6,y7,y8,y9,y10,y11⟩:=zAd (b:=hb) (H.out));go_ret;exact⟨rfl,H.out.drop⟩):p:=h
theorem zDe(base leader:Int)(app txn ctl:Bool)(last first maxt prod epoch sq:Int)(l:List (RecS×Value))(q:Option Addr)(cap:Nat)(e:Int)(he:zAh ⟨base,leader,app,txn,ctl,last,first,maxt,prod,epoch,sq,l.map (·.1)⟩=e)(hmx:first≤9223372036854775807)(hb0:Rn base)(hfit:FitB l)(hll:l.length≤1000000){W0 w:World}{K:Know}{L:List Res}(hk:K.has (Know.recs (Ja q l.length cap) l))(h:St W0 w K L):
    Calls Jd 8 #[.agg #[I O base,I O leader,U app,U txn,U ctl,I O last,I O first,I O maxt,I O prod,I O epoch,I O sq,Ja q l.length cap]] w fun en w'=>en=Jb (I O e)∧St W0 w' K L:=by
  have HK:=hQd hk;have HFT:=hQd hfit;have HLL:=hQd hll;unfold Rn at hb0;have h1:=h.allocRaw #[I O base,I O leader,U app,U txn,U ctl,I O last,I O first,I O maxt,I O prod,I O epoch,I O sq,Ja q l.length cap] 30;obtain⟨hb,hhb⟩:=eX w.heap.size;rw[hhb]at h1;obtain⟨x0,x1,x2,x3,x4,x5,x6,x7,x8,x9,x10,x11,y0,y1,y2,y3,y4,y5,y6,y7,y8,y9,y10,y11⟩:=zAd (b:=hb) (h1);have H:=hQd h1;clear h h1 hk hfit;unfold zAh at he;simp only[Jn]at he
  by_cases p1:BatS.placed ⟨base,leader,app,txn,ctl,last,first,maxt,prod,epoch,sq,l.map (·.1)⟩=false
  · rw[if_pos p1]at he;subst he
    by_cases g0:0≤base
    case neg=>
      have d0:decide (base<0)=true:=decide_eq_true oM;clear g0;clear p1 hmx hll hb0;go_enter Tryz.func8,Tryz.ntmps8
      go_wp2_with (first
    |(go_at_call 23;(with_reducible refine(zAl leader (-1) _ HW1.out H.out).zM ?_);clear H;intro wn H;obtain⟨x0,x1,x2,x3,x4,x5,x6,x7,x8,x9,x10,x11,y0,y1,y2,y3,y4,y5,y6,y7,y8,y9,y10,y11⟩:=zAd (b:=hb) (H.out))
    |(go_at_call 23;(with_reducible refine(zAl last 0 _ HW2.out H.out).zM ?_);clear H;intro wn H;obtain⟨x0,x1,x2,x3,x4,x5,x6,x7,x8,x9,x10,x11,y0,y1,y2,y3,y4,y5,y6,y7,y8,y9,y10,y11⟩:=zAd (b:=hb) (H.out)))
      go_ret;exact⟨rfl,H.out.drop⟩
    by_cases g1: -1≤leader∧leader≤2147483647
    case neg=>
      have d0:decide (base<0)=false:=decide_eq_false oM;have HW1:=hQd (show decide (-1≤leader∧leader≤2147483647)=false from decide_eq_false g1);clear g0 g1;clear p1 hmx hll hb0;go_enter Tryz.func8,Tryz.ntmps8
      go_wp2_with (first
    |(go_at_call 23;(with_reducible refine(zAl leader (-1) _ HW1.out H.out).zM ?_);clear H;intro wn H;obtain⟨x0,x1,x2,x3,x4,x5,x6,x7,x8,x9,x10,x11,y0,y1,y2,y3,y4,y5,y6,y7,y8,y9,y10,y11⟩:=zAd (b:=hb) (H.out))
    |(go_at_call 23;(with_reducible refine(zAl last 0 _ HW2.out H.out).zM ?_);clear H;intro wn H;obtain⟨x0,x1,x2,x3,x4,x5,x6,x7,x8,x9,x10,x11,y0,y1,y2,y3,y4,y5,y6,y7,y8,y9,y10,y11⟩:=zAd (b:=hb) (H.out)))
      go_ret;exact⟨rfl,H.out.drop⟩
    by_cases g2:0≤last∧last≤2147483647
    case neg=>
      have d0:decide (base<0)=false:=decide_eq_false oM;have HW1:=hQd (show decide (-1≤leader∧leader≤2147483647)=true from decide_eq_true g1);have HW2:=hQd (show decide (0≤last∧last≤2147483647)=false from decide_eq_false g2);clear g0 g1 g2;clear p1 hmx hll hb0;go_enter Tryz.func8,Tryz.ntmps8
      go_wp2_with (first
    |(go_at_call 23;(with_reducible refine(zAl leader (-1) _ HW1.out H.out).zM ?_);clear H;intro wn H;obtain⟨x0,x1,x2,x3,x4,x5,x6,x7,x8,x9,x10,x11,y0,y1,y2,y3,y4,y5,y6,y7,y8,y9,y10,y11⟩:=zAd (b:=hb) (H.out))
    |(go_at_call 23;(with_reducible refine(zAl last 0 _ HW2.out H.out).zM ?_);clear H;intro wn H;obtain⟨x0,x1,x2,x3,x4,x5,x6,x7,x8,x9,x10,x11,y0,y1,y2,y3,y4,y5,y6,y7,y8,y9,y10,y11⟩:=zAd (b:=hb) (H.out)))
      go_ret;exact⟨rfl,H.out.drop⟩
    by_cases g3:base≤9223372036854775807 - last
    case neg=>
      have d0:decide (base<0)=false:=decide_eq_false oM;have HW1:=hQd (show decide (-1≤leader∧leader≤2147483647)=true from decide_eq_true g1);have HW2:=hQd (show decide (0≤last∧last≤2147483647)=true from decide_eq_true g2);obtain⟨ml,hml⟩:=eX (9223372036854775807 - base);have wl:wrap64 (9223372036854775807 - base)=ml:=by rw[←hml];unfold wrap64;omega
      have wl2:IntKind.i64.wrap (9223372036854775807 - base)=ml:=by rw[←hml];exact IntWalk.i64_in _ oM
      have d3:decide (ml<last)=true:=by rw[←hml];exact decide_eq_true oM
      clear g0 g1 g2 g3 hml;clear p1 hmx hll hb0;go_enter Tryz.func8,Tryz.ntmps8
      go_wp2_with (first
    |(go_at_call 23;(with_reducible refine(zAl leader (-1) _ HW1.out H.out).zM ?_);clear H;intro wn H;obtain⟨x0,x1,x2,x3,x4,x5,x6,x7,x8,x9,x10,x11,y0,y1,y2,y3,y4,y5,y6,y7,y8,y9,y10,y11⟩:=zAd (b:=hb) (H.out))
    |(go_at_call 23;(with_reducible refine(zAl last 0 _ HW2.out H.out).zM ?_);clear H;intro wn H;obtain⟨x0,x1,x2,x3,x4,x5,x6,x7,x8,x9,x10,x11,y0,y1,y2,y3,y4,y5,y6,y7,y8,y9,y10,y11⟩:=zAd (b:=hb) (H.out)))
      go_ret;exact⟨rfl,H.out.drop⟩
    by_cases g4:0≤first
    case neg=>
      have d0:decide (base<0)=false:=decide_eq_false oM;have HW1:=hQd (show decide (-1≤leader∧leader≤2147483647)=true from decide_eq_true g1);have HW2:=hQd (show decide (0≤last∧last≤2147483647)=true from decide_eq_true g2);obtain⟨ml,hml⟩:=eX (9223372036854775807 - base);have wl:wrap64 (9223372036854775807 - base)=ml:=by rw[←hml];unfold wrap64;omega
      have wl2:IntKind.i64.wrap (9223372036854775807 - base)=ml:=by rw[←hml];exact IntWalk.i64_in _ oM
      have d3:decide (ml<last)=false:=by rw[←hml];exact decide_eq_false oM
      have d4:decide (first<0)=true:=decide_eq_true oM;clear g0 g1 g2 g3 g4 hml;clear p1 hmx hll hb0;go_enter Tryz.func8,Tryz.ntmps8
      go_wp2_with (first
    |(go_at_call 23;(with_reducible refine(zAl leader (-1) _ HW1.out H.out).zM ?_);clear H;intro wn H;obtain⟨x0,x1,x2,x3,x4,x5,x6,x7,x8,x9,x10,x11,y0,y1,y2,y3,y4,y5,y6,y7,y8,y9,y10,y11⟩:=zAd (b:=hb) (H.out))
    |(go_at_call 23;(with_reducible refine(zAl last 0 _ HW2.out H.out).zM ?_);clear H;intro wn H;obtain⟨x0,x1,x2,x3,x4,x5,x6,x7,x8,x9,x10,x11,y0,y1,y2,y3,y4,y5,y6,y7,y8,y9,y10,y11⟩:=zAd (b:=hb) (H.out)))
      go_ret;exact⟨rfl,H.out.drop⟩
    by_cases g5:0≤maxt
    case neg=>
      have d0:decide (base<0)=false:=decide_eq_false oM;have HW1:=hQd (show decide (-1≤leader∧leader≤2147483647)=true from decide_eq_true g1);have HW2:=hQd (show decide (0≤last∧last≤2147483647)=true from decide_eq_true g2);obtain⟨ml,hml⟩:=eX (9223372036854775807 - base);have wl:wrap64 (9223372036854775807 - base)=ml:=by rw[←hml];unfold wrap64;omega
      have wl2:IntKind.i64.wrap (9223372036854775807 - base)=ml:=by rw[←hml];exact IntWalk.i64_in _ oM
      have d3:decide (ml<last)=false:=by rw[←hml];exact decide_eq_false oM
      have d4:decide (first<0)=false:=decide_eq_false oM;have d5:decide (maxt<0)=true:=decide_eq_true oM;clear g0 g1 g2 g3 g4 g5 hml;clear p1 hmx hll hb0;go_enter Tryz.func8,Tryz.ntmps8
      go_wp2_with (first
    |(go_at_call 23;(with_reducible refine(zAl leader (-1) _ HW1.out H.out).zM ?_);clear H;intro wn H;obtain⟨x0,x1,x2,x3,x4,x5,x6,x7,x8,x9,x10,x11,y0,y1,y2,y3,y4,y5,y6,y7,y8,y9,y10,y11⟩:=zAd (b:=hb) (H.out))
    |(go_at_call 23;(with_reducible refine(zAl last 0 _ HW2.out H.out).zM ?_);clear H;intro wn H;obtain⟨x0,x1,x2,x3,x4,x5,x6,x7,x8,x9,x10,x11,y0,y1,y2,y3,y4,y5,y6,y7,y8,y9,y10,y11⟩:=zAd (b:=hb) (H.out)))
      go_ret;exact⟨rfl,H.out.drop⟩
    exact absurd (show BatS.placed ⟨base,leader,app,txn,ctl,last,first,maxt,prod,epoch,sq,l.map (·.1)⟩=true from decide_eq_true ⟨g0,g1,g2,g3,g4,g5⟩) (by rw[p1];decide)
  rw[if_neg p1]at he
  have p2:BatS.placed ⟨base,leader,app,txn,ctl,last,first,maxt,prod,epoch,sq,l.map (·.1)⟩=true:=by cases hh:BatS.placed ⟨base,leader,app,txn,ctl,last,first,maxt,prod,epoch,sq,l.map (·.1)⟩with
    |false=>exact absurd hh p1
    |true=>rfl
  obtain⟨g0,g1,g2,g3,g4,g5⟩:=of_decide_eq_true (show decide (0≤base∧(-1≤leader∧leader≤2147483647)∧(0≤last∧last≤2147483647)∧base≤9223372036854775807 - last∧0≤first∧0≤maxt)=true from p2);have HFP:=hQd (show 0≤first∧first≤9223372036854775807 from⟨g4,hmx⟩);have d0:decide (base<0)=false:=decide_eq_false oM;have HW1:=hQd (show decide (-1≤leader∧leader≤2147483647)=true from decide_eq_true g1);have HW2:=hQd (show decide (0≤last∧last≤2147483647)=true from decide_eq_true g2);obtain⟨ml,hml⟩:=eX (9223372036854775807 - base);have wl:wrap64 (9223372036854775807 - base)=ml:=by rw[←hml];unfold wrap64;omega
  have wl2:IntKind.i64.wrap (9223372036854775807 - base)=ml:=by rw[←hml];exact IntWalk.i64_in _ oM
  have d3:decide (ml<last)=false:=by rw[←hml];exact decide_eq_false oM
  have d4:decide (first<0)=false:=decide_eq_false oM;have d5:decide (maxt<0)=false:=decide_eq_false oM;clear g0 g1 g2 g3 g4 g5 hml;clear p1 p2 hmx hb0
  by_cases c1:ctl=true∧txn=false
  · rw[if_pos c1]at he;subst he;obtain⟨rfl,rfl⟩:=c1;clear hll;go_enter Tryz.func8,Tryz.ntmps8
    go_wp2_with (first
    |(go_at_call 23;(with_reducible refine(zAl leader (-1) _ HW1.out H.out).zM ?_);clear H;intro wn H;obtain⟨x0,x1,x2,x3,x4,x5,x6,x7,x8,x9,x10,x11,y0,y1,y2,y3,y4,y5,y6,y7,y8,y9,y10,y11⟩:=zAd (b:=hb) (H.out))
    |(go_at_call 23;(with_reducible refine(zAl last 0 _ HW2.out H.out).zM ?_);clear H;intro wn H;obtain⟨x0,x1,x2,x3,x4,x5,x6,x7,x8,x9,x10,x11,y0,y1,y2,y3,y4,y5,y6,y7,y8,y9,y10,y11⟩:=zAd (b:=hb) (H.out)))
    go_ret;exact⟨rfl,H.out.drop⟩
  rw[if_neg c1]at he
  by_cases s1:BatS.signed ⟨base,leader,app,txn,ctl,last,first,maxt,prod,epoch,sq,l.map (·.1)⟩=false
  · rw[if_pos s1]at he;subst he;have HS:=hQd (show(if prod= -1 then decide (epoch= -1∧sq= -1∧txn=false)else if prod<0∨¬(0≤epoch∧epoch≤32767)then false else if ctl then decide (sq= -1)else decide (0≤sq∧sq≤2147483647))=false from s1);clear s1 hll
    cases ctl with
    |false=>
      go_enter Tryz.func8,Tryz.ntmps8
      go_wp2_with (first
    |(go_at_call 23;(with_reducible refine(zAl leader (-1) _ HW1.out H.out).zM ?_);clear H;intro wn H;obtain⟨x0,x1,x2,x3,x4,x5,x6,x7,x8,x9,x10,x11,y0,y1,y2,y3,y4,y5,y6,y7,y8,y9,y10,y11⟩:=zAd (b:=hb) (H.out))
    |(go_at_call 23;(with_reducible refine(zAl last 0 _ HW2.out H.out).zM ?_);clear H;intro wn H;obtain⟨x0,x1,x2,x3,x4,x5,x6,x7,x8,x9,x10,x11,y0,y1,y2,y3,y4,y5,y6,y7,y8,y9,y10,y11⟩:=zAd (b:=hb) (H.out))
    |(go_at_call 24;(with_reducible refine(zBx _ _ _ _ _ _ _ _ _ _ _ _ _ HS.out H.out).zM ?_);clear H;intro wn H;obtain⟨x0,x1,x2,x3,x4,x5,x6,x7,x8,x9,x10,x11,y0,y1,y2,y3,y4,y5,y6,y7,y8,y9,y10,y11⟩:=zAd (b:=hb) (H.out)))
      go_ret;exact⟨rfl,H.out.drop⟩
    |true=>
      cases txn with
      |false=>exact absurd ⟨rfl,rfl⟩ c1
      |true=>
        clear c1;go_enter Tryz.func8,Tryz.ntmps8
        go_wp2_with (first
    |(go_at_call 23;(with_reducible refine(zAl leader (-1) _ HW1.out H.out).zM ?_);clear H;intro wn H;obtain⟨x0,x1,x2,x3,x4,x5,x6,x7,x8,x9,x10,x11,y0,y1,y2,y3,y4,y5,y6,y7,y8,y9,y10,y11⟩:=zAd (b:=hb) (H.out))
    |(go_at_call 23;(with_reducible refine(zAl last 0 _ HW2.out H.out).zM ?_);clear H;intro wn H;obtain⟨x0,x1,x2,x3,x4,x5,x6,x7,x8,x9,x10,x11,y0,y1,y2,y3,y4,y5,y6,y7,y8,y9,y10,y11⟩:=zAd (b:=hb) (H.out))
    |(go_at_call 24;(with_reducible refine(zBx _ _ _ _ _ _ _ _ _ _ _ _ _ HS.out H.out).zM ?_);clear H;intro wn H;obtain⟨x0,x1,x2,x3,x4,x5,x6,x7,x8,x9,x10,x11,y0,y1,y2,y3,y4,y5,y6,y7,y8,y9,y10,y11⟩:=zAd (b:=hb) (H.out)))
        go_ret;exact⟨rfl,H.out.drop⟩
  rw[if_neg s1]at he
  have s2:BatS.signed ⟨base,leader,app,txn,ctl,last,first,maxt,prod,epoch,sq,l.map (·.1)⟩=true:=by cases hh:BatS.signed ⟨base,leader,app,txn,ctl,last,first,maxt,prod,epoch,sq,l.map (·.1)⟩with
    |false=>exact absurd hh s1
    |true=>rfl
  have HS:=hQd (show(if prod= -1 then decide (epoch= -1∧sq= -1∧txn=false)else if prod<0∨¬(0≤epoch∧epoch≤32767)then false else if ctl then decide (sq= -1)else decide (0≤sq∧sq≤2147483647))=true from s2);clear s1 s2
  cases ctl with
  |false=>
    rw[if_neg (fun h=>by cases h.1)]at he;obtain⟨tot,htot⟩:=eX (zCl (l.map (·.1)));rw[htot]at he;have HTE:=hQd (show tot≠0→tot=e from fun h=>by rw[if_pos h]at he;exact he);have HTZ:=hQd (show tot=0→BatS.rows ⟨base,leader,app,txn,false,last,first,maxt,prod,epoch,sq,l.map (·.1)⟩=e from fun h=>by rw[if_neg (fun x=>x h),if_neg (fun h=>by cases h.1)]at he;exact he);have HT:=hQd htot;clear he htot c1;go_enter Tryz.func8,Tryz.ntmps8
    go_wp2_with (first
        |(go_at_call 23;(with_reducible refine(zAl leader (-1) _ HW1.out H.out).zM ?_);clear H;intro wn H;obtain⟨x0,x1,x2,x3,x4,x5,x6,x7,x8,x9,x10,x11,y0,y1,y2,y3,y4,y5,y6,y7,y8,y9,y10,y11⟩:=zAd (b:=hb) (H.out))
        |(go_at_call 23;(with_reducible refine(zAl last 0 _ HW2.out H.out).zM ?_);clear H;intro wn H;obtain⟨x0,x1,x2,x3,x4,x5,x6,x7,x8,x9,x10,x11,y0,y1,y2,y3,y4,y5,y6,y7,y8,y9,y10,y11⟩:=zAd (b:=hb) (H.out))
        |(go_at_call 24;(with_reducible refine(zBx _ _ _ _ _ _ _ _ _ _ _ _ _ HS.out H.out).zM ?_);clear H;intro wn H;obtain⟨x0,x1,x2,x3,x4,x5,x6,x7,x8,x9,x10,x11,y0,y1,y2,y3,y4,y5,y6,y7,y8,y9,y10,y11⟩:=zAd (b:=hb) (H.out)))
    go_loopw [3,4] (fun iv _ wr=>∃k:Nat,k≤l.length∧iv=I O k∧Hid (zCl ((l.map (·.1)).drop k)=tot)∧St W0 wr K (.raw hb #[I O base,I O leader,U app,U txn,U false,I O last,I O first,I O maxt,I O prod,I O epoch,I O sq,Ja q l.length cap] 30::L)) (fun iv _ _=>l.length - (intOf iv).toNat)
    case atStart=>exact⟨0,Ji _,rfl,HT,H.out⟩
    case round=>
      clear x0 y0 x1 y1 x2 y2 x3 y3 x4 y4 x5 y5 x6 y6 x7 y7 x8 y8 x9 y9 x10 y10 x11 y11;obtain⟨k,hkl,rfl,HC,hst⟩:=hrel;clear H;have H:=hQd hst;clear hst;obtain⟨x0,x1,x2,x3,x4,x5,x6,x7,x8,x9,x10,x11,y0,y1,y2,y3,y4,y5,y6,y7,y8,y9,y10,y11⟩:=zAd (b:=hb) (H.out)
      by_cases hlt:k<l.length
      · exact zq10
      · obtain rfl:l.length=k:=by omega
        have hc:=HC.out;rw[List.drop_of_length_le sM]at hc;obtain rfl:0=tot:=hc;have HROW:=hQd (HTZ.out rfl);go_wp2_with (go_at_call 27;(with_reducible refine(zF5 _ _ _ _ _ _ _ _ _ _ _ l _ _ _ HROW.out HFP.out HFT.out HLL.out HK.out H.out).zM ?_);clear H;intro wn H);go_ret;exact⟨rfl,H.out.drop⟩
  |true=>
    cases txn with
    |false=>exact absurd ⟨rfl,rfl⟩ c1
    |true=>
      clear c1
      by_cases c2:l.length=1
      · rw[if_neg (fun h=>h.2 c2)]at he;have HLEN:=hQd c2;have bl:((l.length:Int)==1)=true:=by rw[c2];rfl
        have bl2:((l.length:Int) !=1)=false:=by rw[c2];rfl
        obtain⟨tot,htot⟩:=eX (zCl (l.map (·.1)));rw[htot]at he;have HTE:=hQd (show tot≠0→tot=e from fun h=>by rw[if_pos h]at he;exact he)
        have HEN:=hQd (show ∀(x:RecS) (h0:0<l.length),(l[0]'h0).1=x→((zCh x).2.2≠0→tot=0→(zCh x).2.2=e)∧((zCh x).2.2=0→tot=0→BatS.rows ⟨base,leader,app,true,true,last,first,maxt,prod,epoch,sq,l.map (·.1)⟩=e)from fun x h0 hx=>by
          have hm:l.map (·.1)=x::(l.map (·.1)).drop 1:=by have:=zCg l 0 oM x hx;simpa using this
          have hens:BatS.ends ⟨base,leader,app,true,true,last,first,maxt,prod,epoch,sq,l.map (·.1)⟩=(zCh x).2.2:=by unfold BatS.ends;simp only;rw[hm]
          rw[hens]at he;refine⟨fun h h2=> ?_,fun h h2=> ?_⟩
          · rw[if_neg (fun y=>y h2),if_pos ⟨rfl,h⟩]at he;exact he
          · rw[if_neg (fun y=>y h2),if_neg (fun y=>y.2 h)]at he;exact he)
        have HT:=hQd htot;clear he htot c2;go_enter Tryz.func8,Tryz.ntmps8
        go_wp2_with (first
            |(go_at_call 23;(with_reducible refine(zAl leader (-1) _ HW1.out H.out).zM ?_);clear H;intro wn H;obtain⟨x0,x1,x2,x3,x4,x5,x6,x7,x8,x9,x10,x11,y0,y1,y2,y3,y4,y5,y6,y7,y8,y9,y10,y11⟩:=zAd (b:=hb) (H.out))
            |(go_at_call 23;(with_reducible refine(zAl last 0 _ HW2.out H.out).zM ?_);clear H;intro wn H;obtain⟨x0,x1,x2,x3,x4,x5,x6,x7,x8,x9,x10,x11,y0,y1,y2,y3,y4,y5,y6,y7,y8,y9,y10,y11⟩:=zAd (b:=hb) (H.out))
            |(go_at_call 24;(with_reducible refine(zBx _ _ _ _ _ _ _ _ _ _ _ _ _ HS.out H.out).zM ?_);clear H;intro wn H;obtain⟨x0,x1,x2,x3,x4,x5,x6,x7,x8,x9,x10,x11,y0,y1,y2,y3,y4,y5,y6,y7,y8,y9,y10,y11⟩:=zAd (b:=hb) (H.out)))
        go_loopw [3,4] (fun iv _ wr=>∃k:Nat,k≤l.length∧iv=I O k∧Hid (zCl ((l.map (·.1)).drop k)=tot)∧St W0 wr K (.raw hb #[I O base,I O leader,U app,U true,U true,I O last,I O first,I O maxt,I O prod,I O epoch,I O sq,Ja q l.length cap] 30::L)) (fun iv _ _=>l.length - (intOf iv).toNat)
        case atStart=>exact⟨0,Ji _,rfl,HT,H.out⟩
        case round=>
          clear x0 y0 x1 y1 x2 y2 x3 y3 x4 y4 x5 y5 x6 y6 x7 y7 x8 y8 x9 y9 x10 y10 x11 y11;obtain⟨k,hkl,rfl,HC,hst⟩:=hrel;clear H;have H:=hQd hst;clear hst;obtain⟨x0,x1,x2,x3,x4,x5,x6,x7,x8,x9,x10,x11,y0,y1,y2,y3,y4,y5,y6,y7,y8,y9,y10,y11⟩:=zAd (b:=hb) (H.out)
          by_cases hlt:k<l.length
          · exact zq10
          · obtain rfl:l.length=k:=by omega
            have hc:=HC.out;rw[List.drop_of_length_le sM]at hc;obtain rfl:0=tot:=hc;obtain⟨b,off,hqq⟩:=zBH HK.out H.out (by rw[HLEN.out];decide);subst hqq;obtain⟨⟨x,vx⟩,hx⟩:∃x,l[0]'(by rw[HLEN.out];decide)=x:=⟨_,rfl⟩;have cc:=zAQ HK.out H.out 0 (by rw[HLEN.out];decide) (x,vx) hx;have hmem:(x,vx)∈l:=hx ▸ Jp _;have xf:x.R∧HFit x.hdrs∧x.sum≤1000000:=HFT.out (x,vx) hmem;have xk:K.has (Know.flat RHdr vx 3 x.hdrs):=zAX HK.out hmem;obtain⟨qx,capx,hvx⟩:=zAw xk H.out;subst hvx;simp only[Nat.zero_mul,Nat.zero_add,Nat.add_zero]at cc;obtain⟨c0,c1,c2,c3,c4,c5,c6⟩:=cc;have XD:=hQd (zJg xf.2.2);have hl0:(0:Int)<(l.length:Int):=by have:=HLEN.out;omega
            obtain⟨⟨i1,i2,i3⟩,hi⟩:∃r,zCh x=r:=⟨_,rfl⟩;have EC:=hQd (show zB2 x.key.null x.val.null x.key.data x.val.data x.hdrs.length x.off=(i1,i2,i3)from hi);have hen:=HEN.out x (by rw[HLEN.out];decide) (by rw[hx]);rw[hi]at hen;clear hx hmem xf xk hi
            by_cases c9:i3=0
            · subst c9;have HROW:=hQd (hen.2 rfl rfl);clear hen
              go_wp2_with (first
            |(go_at_call 26;(with_reducible refine(zFu x.time x.off x.key.null x.val.null x.key.data x.val.data qx x.hdrs.length capx (i1,i2,_) EC.out XD.out.1 XD.out.2 H.out).zM ?_);clear H;intro wn H;obtain⟨x0,x1,x2,x3,x4,x5,x6,x7,x8,x9,x10,x11,y0,y1,y2,y3,y4,y5,y6,y7,y8,y9,y10,y11⟩:=zAd (b:=hb) (H.out))
            |(go_at_call 27;(with_reducible refine(zF5 _ _ _ _ _ _ _ _ _ _ _ l _ _ _ HROW.out HFP.out HFT.out HLL.out HK.out H.out).zM ?_);clear H;intro wn H))
              go_ret;exact⟨rfl,H.out.drop⟩
            · have gz:(i3==0)=false:=by rw[beq_eq_false_iff_ne];exact c9
              obtain rfl:i3=e:=hen.1 c9 rfl;clear hen c9;go_wp2_with (go_at_call 26;(with_reducible refine(zFu x.time x.off x.key.null x.val.null x.key.data x.val.data qx x.hdrs.length capx (i1,i2,_) EC.out XD.out.1 XD.out.2 H.out).zM ?_);clear H;intro wn H;obtain⟨x0,x1,x2,x3,x4,x5,x6,x7,x8,x9,x10,x11,y0,y1,y2,y3,y4,y5,y6,y7,y8,y9,y10,y11⟩:=zAd (b:=hb) (H.out));go_ret;exact⟨rfl,H.out.drop⟩
      · rw[if_pos ⟨rfl,c2⟩]at he;subst he;have bl:((l.length:Int)==1)=false:=by rw[beq_eq_false_iff_ne];omega
        clear c2 hll;go_enter Tryz.func8,Tryz.ntmps8
        go_wp2_with (first
    |(go_at_call 23;(with_reducible refine(zAl leader (-1) _ HW1.out H.out).zM ?_);clear H;intro wn H;obtain⟨x0,x1,x2,x3,x4,x5,x6,x7,x8,x9,x10,x11,y0,y1,y2,y3,y4,y5,y6,y7,y8,y9,y10,y11⟩:=zAd (b:=hb) (H.out))
    |(go_at_call 23;(with_reducible refine(zAl last 0 _ HW2.out H.out).zM ?_);clear H;intro wn H;obtain⟨x0,x1,x2,x3,x4,x5,x6,x7,x8,x9,x10,x11,y0,y1,y2,y3,y4,y5,y6,y7,y8,y9,y10,y11⟩:=zAd (b:=hb) (H.out))
    |(go_at_call 24;(with_reducible refine(zBx _ _ _ _ _ _ _ _ _ _ _ _ _ HS.out H.out).zM ?_);clear H;intro wn H;obtain⟨x0,x1,x2,x3,x4,x5,x6,x7,x8,x9,x10,x11,y0,y1,y2,y3,y4,y5,y6,y7,y8,y9,y10,y11⟩:=zAd (b:=hb) (H.out)))
        go_ret;exact⟨rfl,H.out.drop⟩
theorem zLd(base leader:Int)(app txn ctl:Bool)(last first maxt prod epoch sq:Int)(l:List (RecS×Value))(q:Option Addr)(cap:Nat)(r:Bool)(hr:zBb (l.map (·.1))=r)(hfit:FitW l){W0 w:World}{K:Know}{L:List Res}(hk:K.has (Know.recs (Ja q l.length cap) l))(h:St W0 w K L):
 Calls Jd 22 #[.agg #[I O base,I O leader,U app,U txn,U ctl,I O last,I O first,I O maxt,I O prod,I O epoch,I O sq,Ja q l.length cap]] w fun en w'=>en=Jb (I O (if r then 1 else 0))∧St W0 w' K L:=by
 have HK:=hQd hk;have HFT:=hQd hfit;have h1:=h.allocRaw #[I O base,I O leader,U app,U txn,U ctl,I O last,I O first,I O maxt,I O prod,I O epoch,I O sq,Ja q l.length cap] 30;obtain⟨hb,hhb⟩:=eX w.heap.size;rw[hhb]at h1;obtain⟨x0,x1,x2,x3,x4,x5,x6,x7,x8,x9,x10,x11,y0,y1,y2,y3,y4,y5,y6,y7,y8,y9,y10,y11⟩:=zAd (b:=hb) (h1);have H:=hQd h1;clear h h1 hk hfit;unfold zBb at hr;rw[Jn]at hr
 by_cases hl:12<l.length
 ·have dl:decide ((12:Int)<(l.length:Int))=true:=decide_eq_true oM;obtain rfl:false=r:=by rw[←hr,decide_eq_false oM];rfl
  clear hr hl;go_enter Tryz.func22,Tryz.ntmps22;go_wp2;go_ret;exact⟨rfl,H.out.drop⟩
 have dl:decide ((12:Int)<(l.length:Int))=false:=decide_eq_false oM;have hll:(l.length:Int)≤12:=by omega
 rw[decide_eq_true oM,Bool.true_and]at hr;have HR:=hQd hr;clear hr hl;go_enter Tryz.func22,Tryz.ntmps22;go_wp2;clear x0 y0 x1 y1 x2 y2 x3 y3 x4 y4 x5 y5 x6 y6 x7 y7 x8 y8 x9 y9 x10 y10 x11 y11;go_loopw [4,6,14] (fun _ _ iv wr=>∃k:Nat,k≤l.length∧iv=I O k∧Hid (rAll ((l.map (·.1)).drop k)=r)∧St W0 wr K (.raw hb #[I O base,I O leader,U app,U txn,U ctl,I O last,I O first,I O maxt,I O prod,I O epoch,I O sq,Ja q l.length cap] 30::L)) (fun _ _ iv _=>l.length - (intOf iv).toNat)
 case atStart=>exact⟨0,Ji _,rfl,HR,H.out⟩
 case round=>
  obtain⟨k,hkl,rfl,HC,hst⟩:=hrel;clear H;have H:=hQd hst;clear hst
  by_cases hlt:k<l.length
  ·have hd:=zCg l k hlt _ rfl;obtain⟨b,off,hqq⟩:=zBH HK.out H.out oM;subst hqq;obtain⟨⟨x,vx⟩,hx⟩:∃x,l[k]=x:=⟨_,rfl⟩;have cc:=zAQ HK.out H.out k hlt (x,vx) hx;have hmem:(x,vx)∈l:=hx ▸ Jp hlt;have xf:x.R∧x.hdrs.length≤9223372036854775807∧HFit x.hdrs∧x.key.data.length≤140737488351232∧x.val.data.length≤140737488351232:=HFT.out (x,vx) hmem;have xk:K.has (Know.flat RHdr vx 3 x.hdrs):=zAX HK.out hmem;obtain⟨qx,capx,hvx⟩:=zAw xk H.out;subst hvx;simp only at cc;obtain⟨c0,c1,c2,c3,c4,c5,c6⟩:=cc;rw[←Jm]at c1 c2 c3 c4 c5 c6;have hx1:l[k].1=x:=by rw[hx]
   have XF:=hQd xf;have XK:=hQd xk;have HX:=hQd hx1;clear xf xk hx1 hx hmem;obtain⟨wE,hwE⟩:=eX wr.heap.size;have hki:(k:Int)<(l.length:Int):=by omega
   have h:=H.out.allocRaw #[I O x.time,I O x.off,U x.key.null,Z (bb x.key.data),U x.val.null,Z (bb x.val.data),Ja qx x.hdrs.length capx] 54;rw[hwE]at h;clear H;have H:=hQd h;clear h;rw[HX.out]at hd;have hc:=HC.out;rw[hd]at hc;have hc:(zBt x && rAll ((l.map (·.1)).drop (k+1)))=r:=hc;unfold zBt at hc;obtain⟨ec0,ec1,ec2,ec3,ec4,ec5,ec6,ef0,ef1,ef2,ef3,ef4,ef5,ef6⟩:=raw7 (b:=wE) (H.out);have xf2:=XF.out;obtain⟨_,hxl,_,hkl2,hvl2⟩:=xf2;have ws:wrap64 ((x.key.data.length:Int)+(x.val.data.length:Int))=(x.key.data.length:Int)+(x.val.data.length:Int):=by unfold wrap64;omega
   clear hd hxl hkl2 hvl2
   by_cases c1:100<x.key.data.length+x.val.data.length
   ·have d1:decide ((100:Int)<(x.key.data.length:Int)+(x.val.data.length:Int))=true:=decide_eq_true oM;have hfin:false=r:=by rw[←hc,decide_eq_false oM];rfl
    clear hc c1;obtain rfl:false=r:=hfin;go_wp2;go_ret;exact⟨rfl,H.out.drop.drop⟩
   have d1:decide ((100:Int)<(x.key.data.length:Int)+(x.val.data.length:Int))=false:=decide_eq_false oM;rw[decide_eq_true oM,Bool.true_and]at hc
   by_cases c2:6<x.hdrs.length
   ·have d2:decide ((6:Int)<(x.hdrs.length:Int))=true:=decide_eq_true oM;have hfin:false=r:=by rw[←hc,decide_eq_false oM];rfl
    clear hc c1 c2;obtain rfl:false=r:=hfin;go_wp2;go_ret;exact⟨rfl,H.out.drop.drop⟩
   have d2:decide ((6:Int)<(x.hdrs.length:Int))=false:=decide_eq_false oM;rw[decide_eq_true oM,Bool.true_and]at hc;have hh6:(x.hdrs.length:Int)≤6:=by omega
   have HC1:=hQd hc;clear hc c1 c2;go_wp2;clear ec0 ef0 ec1 ef1 ec2 ef2 ec3 ef3 ec4 ef4 ec5 ef5 ec6 ef6 c0 c3 c4 c5 c6;go_loopw [6,37] (fun _ iv wr=>∃j:Nat,j≤x.hdrs.length∧iv=I O j∧Hid ((hAll (x.hdrs.drop j) && rAll ((l.map (·.1)).drop (k+1)))=r)∧St W0 wr K (.raw wE #[I O x.time,I O x.off,U x.key.null,Z (bb x.key.data),U x.val.null,Z (bb x.val.data),Ja qx x.hdrs.length capx] 54::.raw hb #[I O base,I O leader,U app,U txn,U ctl,I O last,I O first,I O maxt,I O prod,I O epoch,I O sq,Ja (some ⟨b,off,none⟩) l.length cap] 30::L)) (fun _ iv _=>x.hdrs.length - (intOf iv).toNat)
   case atStart=>exact⟨0,Ji _,rfl,HC1,H.out⟩
   case round=>
    obtain⟨j,hjl,rfl,HJ,hst⟩:=hrel;clear H;have H:=hQd hst;clear hst
    by_cases hjt:j<x.hdrs.length
    ·obtain⟨bh,oh,hqh,g0,g1,g2⟩:=zDM XK.out H.out j hjt;subst hqh;have hhf:=XF.out.2.2.1 _ (Jp hjt);obtain⟨⟨hk,⟨hu,hv⟩⟩,hx⟩:∃y,x.hdrs[j]=y:=⟨_,rfl⟩;have hj:=HJ.out;rw[zQ9 _ _ hjt]at hj;rw[hx]at g0 g1 g2 hhf hj;have hj:((decide (hk.length+hv.length≤100) && hAll (x.hdrs.drop (j+1))) && rAll ((l.map (·.1)).drop (k+1)))=r:=hj;simp only at g0 g1 g2 hhf;obtain⟨b1,b2⟩:=hhf;have hji:(j:Int)<(x.hdrs.length:Int):=by omega
     have ws2:wrap64 ((hk.length:Int)+(hv.length:Int))=(hk.length:Int)+(hv.length:Int):=by unfold wrap64;omega
     clear b1 b2;have h:=H.out.allocRaw #[Z (bb hk),U hu,Z (bb hv)] 73;obtain⟨wH,hwH⟩:=eX wr.heap.size;rw[hwH]at h;obtain⟨u0,u1,u2⟩:=uR3 h;simp at u0 u1 u2;clear H;have H:=hQd h;clear h hx
     by_cases c1:100<hk.length+hv.length
     ·have d1:decide ((100:Int)<(hk.length:Int)+(hv.length:Int))=true:=decide_eq_true oM;have hfin:false=r:=by rw[←hj,decide_eq_false oM];rfl
      clear hj c1;obtain rfl:false=r:=hfin;go_wp2;go_ret;exact⟨rfl,H.out.drop.drop.drop⟩
     ·have d1:decide ((100:Int)<(hk.length:Int)+(hv.length:Int))=false:=decide_eq_false oM;rw[decide_eq_true oM,Bool.true_and]at hj;have HJ2:=hQd hj;clear hj c1;go_wp2;go_roundw
      case rel=>exact⟨j+1,hjt,by go_num,HJ2,H.out.drop⟩
      case measure=>first|(simp[intOf];done)|(simp[intOf];omega)
    ·obtain rfl:x.hdrs.length=j:=by omega
     have hj:=HJ.out;rw[List.drop_of_length_le (Jo _)]at hj;have HC2:=hQd (show rAll ((l.map (·.1)).drop (k+1))=r from hj);clear hj;go_wp2;go_roundw
     case rel=>exact⟨k+1,hlt,by go_num,HC2,H.out.drop⟩
     case measure=>first|(simp[intOf];done)|(simp[intOf];omega)
  ·obtain rfl:l.length=k:=by omega
   have hc:=HC.out;rw[List.drop_of_length_le sM]at hc;obtain rfl:true=r:=hc;go_wp2;go_ret;exact⟨rfl,H.out.drop⟩
theorem zOY(x:RecS)(hx:x.R)(hs:x.sum≤1000):(encR x).length≤33000:=by
 have h1:=zFy x hx oM;have h2:=zBK ⟨false,recF x⟩ (by simp only;omega);simp only at h2;unfold encR
 omega
theorem zFq:∀(l:List RecS) (n:Nat),(∀x∈l,(encR x).length≤n)→(l.flatMap encR).length≤n*l.length
 |[],_,_=>by simp
 |x::t,n,h=>by
  rw[List.flatMap_cons,Je,Jg,Nat.mul_succ];have h1:=zFq t n (fun y hy=>h y (by simp[hy]));have h2:=h x sM
  omega
theorem zCE:∀(l:List (RecS×Value)),zA5 l=(l.map (·.1)).flatMap encR
 |[]=>rfl
 |x::t=>by
  have:=zCE t;unfold zA5 at*;rw[List.flatMap_cons,List.map_cons,List.flatMap_cons,this]
structure SmallOk (b:BatS):Prop where
 fit:∀x∈b.recs,x.R∧zA8 x=0∧x.sum≤1000
 len:b.recs.length≤12
 err:zAh b=0
 rng:b.R
theorem SmallOk.rows{b:BatS}(h:SmallOk b):b.rowsB.length≤400000:=by
 have:=zFq b.recs 33000 (fun x hx=>zOY x (h.fit x hx).1 (h.fit x hx).2.2);have h2:=h.len;unfold BatS.rowsB
 omega
theorem SmallOk.recs{b:BatS}(h:SmallOk b):∀x∈b.recs,x.R∧zA8 x=0∧x.sum≤1000000:=fun x hx=>⟨(h.fit x hx).1,(h.fit x hx).2.1,by have:=(h.fit x hx).2.2;omega⟩
theorem SmallOk.back{b:BatS}(h:SmallOk b)(t:Bs):zBT (b.enc++t)=.ok (b,b.enc.length):=
 zOw h.err h.rng h.recs (by have:=h.rows;omega) (by have:=h.len;omega) t
theorem BatS.enc_len(b:BatS):b.enc.length=61+b.rowsB.length:=by unfold BatS.enc;rw[Je,zAY]
theorem SmallOk.elen{b:BatS}(h:SmallOk b):b.enc.length≤401000:=by rw[b.enc_len];have:=h.rows;omega
theorem SmallOk.of{b:BatS}{l:List (RecS×Value)}(hl:b.recs=l.map (·.1))(hw:FitW l)(hs:zBb (l.map (·.1))=true)(he:zAh b=0)(hR:b.R):SmallOk b where
 fit:=by
  intro x hx;rw[hl]at hx;have hf:=hw.fit hs;obtain⟨y,hy,rfl⟩:=List.mem_map.1 hx;have hr:=zJs _ (zB4 he).2.2.2;have hss:=hs;unfold zBb at hss;simp only[Bool.and_eq_true]at hss;exact⟨(hf y hy).1,hr y.1 (by rw[hl];exact hx),zF4 (zDj _ hss.2 y.1 hx)⟩
 len:=by rw[hl,Jn];exact zDV hs
 err:=he
 rng:=hR
theorem zCw{x:PreS}(h:FitsAll x.items):(⟨[],0⟩:OutS).ints x.items=⟨zAj x.items,0⟩:=by
 rw[OutS.ints_put _ _ h]
 rfl
theorem SmallOk.preX{b:BatS}(so:SmallOk b):(Go.Proofs.YtenojajfacacoaaGreatDoor.preX b.enc).1=b.pre b.crc∧(Go.Proofs.YtenojajfacacoaaGreatDoor.preX b.enc).2=2∧zAR b.enc=.ok (b.pre b.crc):=by
 have hb:=so.back [];rw[List.append_nil]at hb;obtain⟨x,hx,_⟩:=zDW hb;have hrow:=so.rows;have hlen:=so.len;have hcr:=b.crc_lt;have f1:=BatS.fitsAll so.err so.rng b.crc oM oM oM;have hp:=zKN (b.pre b.crc) f1 (show(49:Int)≤49+(b.rowsB.length:Int) by omega) (show(0:Int)≤(b.recs.length:Int) by omega) b.rowsB;have hp:zAR b.enc=.ok (b.pre b.crc):=hp;obtain⟨_,h2,h3,_⟩:=zB5 hp;exact⟨h2,h3,hp⟩
variable {W0 w:World}{K:Know}{L:List Res}
theorem zNh(p:Nat)(o:OutS)(s:Bs)(e:Int)(hx:o.text=(s,e))(h:St W0 w K (.out p o::L)):
 Calls Jd 50 #[zBh p] w fun en w'=>en=Jb (.tuple #[Z (bb s),I O e])∧St W0 w' K (.out p o::L):=by
 have:=zJi p o h;rw[hx]at this;exact this
theorem zJF(p:Nat)(o o2:OutS)(a0 a1 a2 a3 a4 a5 a6 a7 a8 a9 a10 a11:Int)(hx:PreS.R ⟨a0,a1,a2,a3,a4,a5,a6,a7,a8,a9,a10,a11⟩)(ho:o.ints (PreS.items ⟨a0,a1,a2,a3,a4,a5,a6,a7,a8,a9,a10,a11⟩)=o2)(hr:o.ok 200)(h:St W0 w K (.out p o::L)):
 Calls Jd 121 #[zBh p,.agg #[I O a0,I O a1,I O a2,I O a3,I O a4,I O a5,I O a6,I O a7,I O a8,I O a9,I O a10,I O a11]] w fun en w'=>en=Jb (.tuple #[])∧St W0 w' K (.out p o2::L):=by
 subst ho;exact zKU p o ⟨a0,a1,a2,a3,a4,a5,a6,a7,a8,a9,a10,a11⟩ hx h hr
theorem zHZ(a0 a1 a2 a3 a4 a5 a6 a7 a8 a9 a10 a11:Int)(hx:PreS.R ⟨a0,a1,a2,a3,a4,a5,a6,a7,a8,a9,a10,a11⟩)(o2:OutS)(s:Bs)(e:Int)(ho:(⟨[],0⟩:OutS).ints (PreS.items ⟨a0,a1,a2,a3,a4,a5,a6,a7,a8,a9,a10,a11⟩)=o2)(ht:o2.text=(s,e))(h:St W0 w K L):
 Calls Jd 87 #[.agg #[I O a0,I O a1,I O a2,I O a3,I O a4,I O a5,I O a6,I O a7,I O a8,I O a9,I O a10,I O a11]] w fun en w'=>en=Jb (.tuple #[Z (bb s),I O e])∧St W0 w' K L:=by
 have g1:=h.allocRaw #[I O a0,I O a1,I O a2,I O a3,I O a4,I O a5,I O a6,I O a7,I O a8,I O a9,I O a10,I O a11] 130;have g2:=g1.allocOut;obtain⟨hb,hhb⟩:=eX w.heap.size;obtain⟨po,hpo⟩:=eX (hb+1);simp only[World.size_alloc,hhb,hpo]at g2;obtain⟨x0,x1,x2,x3,x4,x5,x6,x7,x8,x9,x10,x11,y0,y1,y2,y3,y4,y5,y6,y7,y8,y9,y10,y11⟩:=zAd (b:=hb) (g2.p1);have H:=hQd g2;have HX:=hQd hx;have HO:=hQd ho;have HT:=hQd ht;have HR:=hQd (show(⟨[],0⟩:OutS).ok 200 by simp[OutS.ok]);clear g1 g2 h hx ho ht;go_enter Tryz.func87,Tryz.ntmps87
 go_wp2_with (first
  |(go_at_call 121;(with_reducible refine(zJF po _ _ _ _ _ _ _ _ _ _ _ _ _ _ HX.out HO.out HR.out H.out).zM ?_);clear H;intro wn H)
  |(go_at_call 50;(with_reducible refine(zNh po _ _ _ HT.out H.out).zM ?_);clear H;intro wn H))
 go_ret2;exact⟨rfl,H.out.drop.drop⟩
theorem zSJ(l:List (RecS×Value))(q:Option Addr)(cap:Nat)(rows:Bs)(hrows:zA5 l=rows)(hc:zCl (l.map (·.1))=0)(hfit:FitB l)(hll:l.length≤1000){W0 w:World}{K:Know}{L:List Res}(hk:K.has (Know.recs (Ja q l.length cap) l))(h:St W0 w K L):
 Calls Jd 85 #[Ja q l.length cap] w fun en w'=>en=Jb (.tuple #[Z (bb rows),I O 0])∧St W0 w' K L:=by
 have g1:=h.allocOut;obtain⟨po,hpo⟩:=eX w.heap.size;rw[hpo]at g1;have H:=hQd g1;have HK:=hQd hk;have HFT:=hQd hfit;have HC:=hQd hc;have HRW:=hQd hrows;have HLL:=hQd hll;clear h g1 hk hfit hc hrows hll;go_enter Tryz.func85,Tryz.ntmps85;go_wp2;go_loopw [6,9] (fun _ iv wr=>∃k:Nat,k≤l.length∧iv=I O k∧St W0 wr K (.out po ⟨zA5 (l.take k),0⟩::L)) (fun _ iv _=>l.length - (intOf iv).toNat)
 case atStart=>exact⟨0,Ji _,rfl,H.out⟩
 case round=>
  obtain⟨k,hkl,rfl,hst⟩:=hrel;clear H;have H:=hQd hst;clear hst
  by_cases hlt:k<l.length
  ·have OK:=hQd (show(⟨zA5 (l.take k),0⟩:OutS).ok 40000000 by
    have h1:=zLq (l:=l.take k) (fun y hy=>HFT.out y (List.mem_of_mem_take hy));have h2:=HLL.out;rw[Jk]at h1;unfold OutS.ok;simp only
    omega)
   have hok:=zJs _ HC.out l[k].1 (List.mem_map.2 ⟨_,Jp hlt,rfl⟩);have het:=zHQ l k hlt;have hll2:=HLL.out;obtain⟨b,off,hqq⟩:=zBH HK.out H.out oM;subst hqq;obtain⟨⟨x,vx⟩,hx⟩:∃x,l[k]=x:=⟨_,rfl⟩;have cc:=zAQ HK.out H.out k hlt (x,vx) hx;have hmem:(x,vx)∈l:=hx ▸ Jp hlt;have xf:x.R∧HFit x.hdrs∧x.sum≤1000000:=HFT.out (x,vx) hmem;have xk:K.has (Know.flat RHdr vx 3 x.hdrs):=zAX HK.out hmem;obtain⟨qx,capx,hvx⟩:=zAw xk H.out;subst hvx;simp only at cc;obtain⟨c0,c1,c2,c3,c4,c5,c6⟩:=cc;rw[←Jm]at c1 c2 c3 c4 c5 c6;have hx1:l[k].1=x:=by rw[hx]
   have XF:=hQd xf;have XK:=hQd xk;have HX:=hQd hx1;clear xf xk hx1 hx hmem;obtain⟨wE,hwE⟩:=eX wr.heap.size;have hki:(k:Int)<(l.length:Int):=by omega
   have h:=H.out.allocRaw #[I O x.time,I O x.off,U x.key.null,Z (bb x.key.data),U x.val.null,Z (bb x.val.data),Ja qx x.hdrs.length capx] 54;rw[hwE]at h;clear H;have H:=hQd h;clear h;rw[HX.out]at hok het;have EO:=hQd (show(⟨zA5 (l.take k),0⟩:OutS).putRec x=⟨zA5 (l.take (k+1)),0⟩ by rw[zMo _ _ hok,het]);have hll3:(l.length:Int)≤1000:=by omega
   obtain⟨ec0,ec1,ec2,ec3,ec4,ec5,ec6,ef0,ef1,ef2,ef3,ef4,ef5,ef6⟩:=raw7 (b:=wE) (H.out);clear hok het hll2;go_wp2_with (go_at_call 119;(with_reducible refine(zP1 po _ _ x (Ja qx x.hdrs.length capx) XF.out.1 XF.out.2.2 EO.out OK.out XK.out H.out.p1).zM ?_);clear H;intro wn H);go_roundw
   case rel=>exact⟨k+1,hlt,by go_num,H.out.p1.drop⟩
   case measure=>first|(simp[intOf];done)|(simp[intOf];omega)
  ·obtain rfl:l.length=k:=by omega
   have h:=H.out;rw[List.take_length,HRW.out]at h;clear H;have H:=hQd h;clear h;have HT:=hQd (show(⟨rows,0⟩:OutS).text=(rows,0)from rfl);go_wp2_with (go_at_call 50;(with_reducible refine(zNh po _ _ _ HT.out H.out).zM ?_);clear H;intro wn H);go_ret2;exact⟨rfl,H.out.drop⟩
variable {W0 w:World}{K:Know}{L:List Res}
theorem zIq(base leader:Int)(app txn ctl:Bool)(last first maxt prod epoch sq:Int)(l:List (RecS×Value))(q:Option Addr)(cap:Nat)(e:Int)(he:zAh ⟨base,leader,app,txn,ctl,last,first,maxt,prod,epoch,sq,l.map (·.1)⟩=e)(h0:e≠0)(hmx:first≤9223372036854775807)(hfit:FitB l)(hll:l.length≤1000)(hk:K.has (Know.recs (Ja q l.length cap) l))(h:St W0 w K L):
 Calls Jd 48 #[.agg #[I O base,I O leader,U app,U txn,U ctl,I O last,I O first,I O maxt,I O prod,I O epoch,I O sq,Ja q l.length cap]] w fun en w'=>en=Jb (.tuple #[Z ⟨#[]⟩,I O e])∧St W0 w' K L:=by
 have HK:=hQd hk;have HFT:=hQd hfit;have HLL:=hQd (show l.length≤1000000 by omega);have HMX:=hQd hmx;have HE:=hQd he;have gz:(e==0)=false:=by rw[beq_eq_false_iff_ne];exact h0
 have h1:=h.allocRaw #[I O base,I O leader,U app,U txn,U ctl,I O last,I O first,I O maxt,I O prod,I O epoch,I O sq,Ja q l.length cap] 30;obtain⟨hb,hhb⟩:=eX w.heap.size;rw[hhb]at h1;obtain⟨x0,x1,x2,x3,x4,x5,x6,x7,x8,x9,x10,x11,y0,y1,y2,y3,y4,y5,y6,y7,y8,y9,y10,y11⟩:=zAd (b:=hb) (h1);have H:=hQd h1;clear h h1 hk hfit hll hmx he h0;go_enter Tryz.func48,Tryz.ntmps48;go_wp2_with (go_at_call 35;(with_reducible refine(zCH _ _ _ _ _ _ _ _ _ _ _ l _ _ e HE.out HMX.out HFT.out HLL.out HK.out H.out).zM ?_);clear H;intro wn H;obtain⟨x0,x1,x2,x3,x4,x5,x6,x7,x8,x9,x10,x11,y0,y1,y2,y3,y4,y5,y6,y7,y8,y9,y10,y11⟩:=zAd (b:=hb) (H.out));go_ret2;exact⟨rfl,H.out.drop⟩
theorem zDt(base leader:Int)(app txn ctl:Bool)(last first maxt prod epoch sq:Int)(l:List (RecS×Value))(q:Option Addr)(cap:Nat)(he:zAh ⟨base,leader,app,txn,ctl,last,first,maxt,prod,epoch,sq,l.map (·.1)⟩=0)(hmx:first≤9223372036854775807)(hfit:FitB l)(hll:l.length≤1000)(rows said0 said1 all:Bs)(x:Nat)(at_:Int)(hrc:zCl (l.map (·.1))=0)(hrw:zA5 l=rows)(hrl:rows.length≤100000000)(hat:zAI app txn ctl 3=at_)
 (r0:PreS.R ⟨base,49+rows.length,leader,0,at_,last,first,maxt,prod,epoch,sq,l.length⟩)(r1:PreS.R ⟨base,49+rows.length,leader,x,at_,last,first,maxt,prod,epoch,sq,l.length⟩)(o0:(⟨[],0⟩:OutS).ints (PreS.items ⟨base,49+rows.length,leader,0,at_,last,first,maxt,prod,epoch,sq,l.length⟩)=⟨said0,0⟩)(o1:(⟨[],0⟩:OutS).ints (PreS.items ⟨base,49+rows.length,leader,x,at_,last,first,maxt,prod,epoch,sq,l.length⟩)=⟨said1,0⟩)(l0:said0.length=61)(l1:said1.length=61)(hx:(zAq 0#32 (said0.drop 21++rows)).toNat=x)(hall:said1++rows=all)(hk:K.has (Know.recs (Ja q l.length cap) l))(h:St W0 w K L):
 Calls Jd 48 #[.agg #[I O base,I O leader,U app,U txn,U ctl,I O last,I O first,I O maxt,I O prod,I O epoch,I O sq,Ja q l.length cap]] w fun en w'=>en=Jb (.tuple #[Z (bb all),I O 0])∧St W0 w' K L:=by
 have HK:=hQd hk;have HFT:=hQd hfit;have HLL:=hQd (show l.length≤1000000 by omega);have HL1:=hQd hll;have HMX:=hQd hmx;have HE:=hQd he;have HRW:=hQd hrw;have HRC:=hQd hrc;have AT:=hQd hat;have HSZ:=hQd (show rows.length≤140737488355328 by omega);have R0:=hQd r0;have R1:=hQd r1;have O0:=hQd o0;have O1:=hQd o1;have T0:=hQd (show(⟨said0,0⟩:OutS).text=(said0,0)from rfl);have T1:=hQd (show(⟨said1,0⟩:OutS).text=(said1,0)from rfl);have HX:=hQd hx;have HS21:=hQd (show 21≤said0.length by omega);have HS2:=hQd (show said0.length≤140737488355328 by omega);have HR2:=hQd (show rows.length≤140737488355328 by omega);have HALL:=hQd hall;have hcat:bb said1++bb rows=bb all:=by rw[←hall];exact zAc _ _
 have hg:¬(9223372036854775807<said1.length+rows.length):=by omega
 have t1:True:=trivial;have h1:=h.allocRaw #[I O base,I O leader,U app,U txn,U ctl,I O last,I O first,I O maxt,I O prod,I O epoch,I O sq,Ja q l.length cap] 30;obtain⟨hb,hhb⟩:=eX w.heap.size;rw[hhb]at h1;obtain⟨x0,x1,x2,x3,x4,x5,x6,x7,x8,x9,x10,x11,y0,y1,y2,y3,y4,y5,y6,y7,y8,y9,y10,y11⟩:=zAd (b:=hb) (h1);have H:=hQd h1;clear h h1 hk hfit hll hmx he hrw hrc hat r0 r1 o0 o1 l0 l1 hx hall hrl;go_enter Tryz.func48,Tryz.ntmps48
 go_wp2_with (first
  |(go_at_call 35;(with_reducible refine(zCH _ _ _ _ _ _ _ _ _ _ _ l _ _ 0 HE.out HMX.out HFT.out HLL.out HK.out H.out).zM ?_);clear H;intro wn H;obtain⟨x0,x1,x2,x3,x4,x5,x6,x7,x8,x9,x10,x11,y0,y1,y2,y3,y4,y5,y6,y7,y8,y9,y10,y11⟩:=zAd (b:=hb) (H.out))
  |(go_at_call 85;(with_reducible refine(zSJ l _ _ rows HRW.out HRC.out HFT.out HL1.out HK.out H.out).zM ?_);clear H;intro wn H;obtain⟨x0,x1,x2,x3,x4,x5,x6,x7,x8,x9,x10,x11,y0,y1,y2,y3,y4,y5,y6,y7,y8,y9,y10,y11⟩:=zAd (b:=hb) (H.out))
  |(go_at_call 86;(with_reducible refine(zSK _ _ _ _ _ _ _ _ _ _ _ l _ _ rows.length HSZ.out H.out).mono ?_);rw[AT.out];rintro e_ wn ⟨rfl,h⟩;have h:=h.allocRaw #[I O base,I O (49+rows.length),I O leader,I O 0,I O at_,I O last,I O first,I O maxt,I O prod,I O epoch,I O sq,I O l.length] 130;obtain⟨pb,hpb⟩:=eX wn.heap.size;rw[hpb]at h;replace H:=hQd h;clear h;obtain⟨p0,p1,p2,p3,p4,p5,p6,p7,p8,p9,p10,p11,u0,u1,u2,u3,u4,u5,u6,u7,u8,u9,u10,u11⟩:=zAd (b:=pb) (H.out))
  |(go_at_call 87;have _t:=t1;clear _t;(with_reducible refine(zHZ _ _ _ _ _ _ _ _ _ _ _ _ R0.out _ _ _ O0.out T0.out H.out).zM ?_);clear H;intro wn H;obtain⟨p0,p1,p2,p3,p4,p5,p6,p7,p8,p9,p10,p11,u0,u1,u2,u3,u4,u5,u6,u7,u8,u9,u10,u11⟩:=zAd (b:=pb) (H.out);have t2:True:=trivial;clear t1)
  |(go_at_call 88;(with_reducible refine(zFZ said0 rows x HX.out HS21.out HS2.out HR2.out H.out).zM ?_);clear H;intro wn H;obtain⟨p0,p1,p2,p3,p4,p5,p6,p7,p8,p9,p10,p11,u0,u1,u2,u3,u4,u5,u6,u7,u8,u9,u10,u11⟩:=zAd (b:=pb) (H.out);have h3:St W0 _ K (.raw pb #[I O base,I O (49+rows.length),I O leader,I O x,I O at_,I O last,I O first,I O maxt,I O prod,I O epoch,I O sq,I O l.length] 130::_):=H.out.rawSet 3 (I O x);obtain⟨a0,a1,a2,a3,a4,a5,a6,a7,a8,a9,a10,a11,f0,f1,f2,f3,f4,f5,f6,f7,f8,f9,f10,f11⟩:=zAd (b:=pb) (h3);clear h3)
  |(go_at_call 87;have _t:=t2;clear _t;(with_reducible refine(zHZ _ _ _ _ _ _ _ _ _ _ _ _ R1.out _ _ _ O1.out T1.out (H.out.rawSet 3 (I O x))).zM ?_);clear H;intro wn H;clear t2))
 go_ret2;exact⟨rfl,H.out.drop.drop⟩
theorem zIp(b:BatS)(l:List (RecS×Value))(q:Option Addr)(cap:Nat)(hl:l.map (·.1)=b.recs)(so:SmallOk b){W0 w:World}{K:Know}{L:List Res}(hk:K.has (Know.recs (Ja q l.length cap) l))(h:St W0 w K L):
 Calls Jd 48 #[.agg #[I O b.base,I O b.leader,U b.app,U b.txn,U b.ctl,I O b.last,I O b.first,I O b.maxt,I O b.prod,I O b.epoch,I O b.seq,Ja q l.length cap]] w fun en w'=>en=Jb (.tuple #[Z (bb b.enc),I O 0])∧St W0 w' K L:=by
 have hrow:=so.rows;have hlen:=so.len;have hcr:=b.crc_lt;have hml:l.length=b.recs.length:=by rw[←hl,Jn]
 have f0:=BatS.fitsAll so.err so.rng 0 dD oM oM;have f1:=BatS.fitsAll so.err so.rng b.crc oM oM oM;have r0:=BatS.pre_R so.err so.rng 0 dD oM oM;have r1:=BatS.pre_R so.err so.rng b.crc oM oM oM;have hmx:b.first≤9223372036854775807:=by have:=so.rng.2.2.2.1.2;omega
 have e0:b.pre 0=(⟨b.base,49+(b.rowsB.length:Int),b.leader,0,zAI b.app b.txn b.ctl 3,b.last,b.first,b.maxt,b.prod,b.epoch,b.seq,(l.length:Int)⟩:PreS):=by unfold BatS.pre;rw[hml]
 have e1:b.pre b.crc=(⟨b.base,49+(b.rowsB.length:Int),b.leader,(b.crc:Int),zAI b.app b.txn b.ctl 3,b.last,b.first,b.maxt,b.prod,b.epoch,b.seq,(l.length:Int)⟩:PreS):=by unfold BatS.pre;rw[hml]
 have i0:=zCw f0;have i1:=zCw f1;have hd0:=b.pre_drop 0;have l0:=zAY (b.pre 0);have l1:=zAY (b.pre b.crc);have he:zAh ⟨b.base,b.leader,b.app,b.txn,b.ctl,b.last,b.first,b.maxt,b.prod,b.epoch,b.seq,l.map (·.1)⟩=0:=by rw[hl];exact so.err
 have hrc:zCl (l.map (·.1))=0:=by rw[hl];exact(zB4 so.err).2.2.2
 have hrw:zA5 l=b.rowsB:=by rw[zCE,hl];rfl
 have hfb:FitB l:=by
  intro x hx;obtain⟨a,c,d⟩:=so.fit x.1 (by rw[←hl];exact List.mem_map.2 ⟨x,hx,rfl⟩);have:=zEU x.1.hdrs 1000 (by unfold RecS.sum at d;omega);exact⟨a,fun y hy=>by have:=this y hy;omega,oM⟩
 have hall:zAj (b.pre b.crc).items++b.rowsB=b.enc:=rfl;have hx:(zAq 0#32 ((zAj (b.pre 0).items).drop 21++b.rowsB)).toNat=b.crc:=by rw[hd0];rfl
 rw[e0]at r0 i0;rw[e1]at r1 i1;obtain⟨s0,hs0⟩:=eX (zAj (b.pre 0).items);obtain⟨s1,hs1⟩:=eX (zAj (b.pre b.crc).items);have g0:zAj (⟨b.base,49+(b.rowsB.length:Int),b.leader,0,zAI b.app b.txn b.ctl 3,b.last,b.first,b.maxt,b.prod,b.epoch,b.seq,(l.length:Int)⟩:PreS).items=s0:=e0 ▸ hs0;have g1:zAj (⟨b.base,49+(b.rowsB.length:Int),b.leader,(b.crc:Int),zAI b.app b.txn b.ctl 3,b.last,b.first,b.maxt,b.prod,b.epoch,b.seq,(l.length:Int)⟩:PreS).items=s1:=e1 ▸ hs1;rw[g0]at i0;rw[g1]at i1;rw[hs0]at hx l0;rw[hs1]at hall l1;exact zDt b.base b.leader b.app b.txn b.ctl b.last b.first b.maxt b.prod b.epoch b.seq l q cap he hmx hfb oM b.rowsB s0 s1 b.enc b.crc (zAI b.app b.txn b.ctl 3) hrc hrw oM rfl r0 r1 i0 i1 l0 l1 hx hall hk h
def AgreeB (a b:Bs) (first n:Nat):Prop:=b.take 21=a.take 21∧∀i,(i<first∨first+n≤i)→(zBv (a.drop 21)).getD i false=(zBv (b.drop 21)).getD i false
theorem AgreeB.refl(a:Bs)(f:Nat):AgreeB a a f 0:=⟨rfl,fun _ _=>rfl⟩
theorem AgreeB.step{a b:Bs}{f n:Nat}(h:AgreeB a b f n):AgreeB a b f (n+1):=⟨h.1,fun i hi=>h.2 i oM⟩
theorem zH1(b:BatS)(s:Bs)(hs:b.enc=s)(l:List (RecS×Value))(q:Option Addr)(cap:Nat)(hl:l.map (·.1)=b.recs)(so:SmallOk b){W0 w:World}{K:Know}{L:List Res}(hk:K.has (Know.recs (Ja q l.length cap) l))(h:St W0 w K L):
 Calls Jd 48 #[.agg #[I O b.base,I O b.leader,U b.app,U b.txn,U b.ctl,I O b.last,I O b.first,I O b.maxt,I O b.prod,I O b.epoch,I O b.seq,Ja q l.length cap]] w fun en w'=>en=Jb (.tuple #[Z (bb s),I O 0])∧St W0 w' K L:=by
 subst hs;exact zIp b l q cap hl so hk h
structure BatR where
 b:BatS
 l:List (RecS×Value)
 q:Option Addr
 cap:Nat
def RBat (cs:List Value) (x:BatR):Prop:=cs=[I O x.b.base,I O x.b.leader,U x.b.app,U x.b.txn,U x.b.ctl,I O x.b.last,I O x.b.first,I O x.b.maxt,I O x.b.prod,I O x.b.epoch,I O x.b.seq,Ja x.q x.l.length x.cap]
def BatR.Fit (x:BatR):Prop:=x.b.R∧FitW x.l∧x.l.map (·.1)=x.b.recs
def Know.bats (v:Value) (l:List BatR):Know:=(Know.flat RBat v 12 l).and (Know.all l fun x=>Know.recs (Ja x.q x.l.length x.cap) x.l)
theorem zHY{K:Know}{v:Value}{l:List BatR}(h:K.has (Know.bats v l)):K.has (Know.flat RBat v 12 l):=fun w F x=>(h w F x).1
theorem zBC{K:Know}{v:Value}{l:List BatR}(h:K.has (Know.bats v l)){x:BatR}(hx:x∈l):K.has (Know.recs (Ja x.q x.l.length x.cap) x.l):=fun w F y=>(h w F y).2 x hx
theorem zCW{q:Option Addr}{n cap:Nat}{l:List BatR}(hk:K.has (Know.bats (Ja q n cap) l))(h:St W0 w K L)(h0:0<l.length):∃b off,q=some ⟨b,off,none⟩:=by
 obtain⟨F,hF,_⟩:=h.get;obtain⟨q2,cap2,hv,hr⟩:=(zHY hk _ _ hF).at;obtain⟨b,off,hq,_⟩:=hr h0;simp at hv;exact⟨b,off,hv.1.trans hq⟩
theorem zBW{b off n cap:Nat}{l:List BatR}(hk:K.has (Know.bats (Ja (some ⟨b,off,none⟩) n cap) l))(h:St W0 w K L)(i:Nat)(hi:i<l.length)(x:BatR)(hx:l[i]=x):
 w.cell? ⟨b,off+i*12,none⟩=some (I O x.b.base)∧w.cell? ⟨b,off+i*12+1,none⟩=some (I O x.b.leader)∧w.cell? ⟨b,off+i*12+2,none⟩=some (U x.b.app)∧w.cell? ⟨b,off+i*12+3,none⟩=some (U x.b.txn)∧w.cell? ⟨b,off+i*12+4,none⟩=some (U x.b.ctl)∧w.cell? ⟨b,off+i*12+5,none⟩=some (I O x.b.last)∧w.cell? ⟨b,off+i*12+6,none⟩=some (I O x.b.first)∧w.cell? ⟨b,off+i*12+7,none⟩=some (I O x.b.maxt)∧w.cell? ⟨b,off+i*12+8,none⟩=some (I O x.b.prod)∧w.cell? ⟨b,off+i*12+9,none⟩=some (I O x.b.epoch)∧w.cell? ⟨b,off+i*12+10,none⟩=some (I O x.b.seq)∧w.cell? ⟨b,off+i*12+11,none⟩=some (Ja x.q x.l.length x.cap):=by
 subst hx;obtain⟨F,hF,_⟩:=h.get;obtain⟨q2,cap2,hv,hr⟩:=(zHY hk _ _ hF).at;obtain⟨b2,off2,hq,hc⟩:=hr oM;rw[hq]at hv;simp at hv;obtain⟨⟨rfl,rfl⟩,_,_⟩:=hv;obtain⟨cs,_,hR,hcs⟩:=hc i hi;unfold RBat at hR;subst hR;refine⟨?_,?_,?_,?_,?_,?_,?_,?_,?_,?_,?_,?_⟩
 ·exact hcs 0 _ rfl
 ·rw[Jm];exact hcs 1 _ rfl
 ·rw[Jm];exact hcs 2 _ rfl
 ·rw[Jm];exact hcs 3 _ rfl
 ·rw[Jm];exact hcs 4 _ rfl
 ·rw[Jm];exact hcs 5 _ rfl
 ·rw[Jm];exact hcs 6 _ rfl
 ·rw[Jm];exact hcs 7 _ rfl
 ·rw[Jm];exact hcs 8 _ rfl
 ·rw[Jm];exact hcs 9 _ rfl
 ·rw[Jm];exact hcs 10 _ rfl
 ·rw[Jm];exact hcs 11 _ rfl
def errB:List BatR→Int
 |[]=>0
 |x::t=>if zAh x.b=0 then errB t else zAh x.b
def encB (l:List BatR):Bs:=l.flatMap fun x=>x.b.enc
def allB (l:List BatR):Bs×Int:=if errB l=0 then(encB l,0)else([],errB l)
theorem zHP(l m:List BatR):encB (l++m)=encB l++encB m:=List.flatMap_append
theorem zSB(x:BatR):encB [x]=x.b.enc:=by unfold encB;rw[List.flatMap_cons,List.flatMap_nil,List.append_nil]
theorem zHO(x:BatR)(t:List BatR):encB (x::t)=x.b.enc++encB t:=rfl
theorem zO0(l:List BatR)(k:Nat):encB l=encB (l.take k)++encB (l.drop k):=by rw[←zHP,List.take_append_drop]
theorem zHN(l:List BatR)(k:Nat)(h:k<l.length):encB (l.take (k+1))=encB (l.take k)++l[k].b.enc:=by
 rw[List.take_succ_eq_append_getElem h,zHP,zSB]
theorem zMF(l m:List BatR)(h:errB l=0):errB (l++m)=errB m:=by
 induction l with
 |nil=>rfl
 |cons x t ih=>
  have hx:(if zAh x.b=0 then errB t else zAh x.b)=0:=h
  show(if zAh x.b=0 then errB (t++m)else zAh x.b)=_
  by_cases h1:zAh x.b=0
  ·rw[if_pos h1]at hx ⊢;exact ih hx
  ·rw[if_neg h1]at hx;exact absurd hx h1
theorem zIj(l m:List BatR)(h:errB l≠0):errB (l++m)=errB l:=by
 induction l with
 |nil=>exact absurd rfl h
 |cons x t ih=>
  have hx:(if zAh x.b=0 then errB t else zAh x.b)≠0:=h
  show(if zAh x.b=0 then errB (t++m)else zAh x.b)=if zAh x.b=0 then errB t else zAh x.b
  by_cases h1:zAh x.b=0
  ·rw[if_pos h1]at hx;rw[if_pos h1,if_pos h1];exact ih hx
  ·rw[if_neg h1,if_neg h1]
theorem zLo(l:List BatR)(k:Nat)(h:k<l.length)(h0:errB (l.take k)=0):errB (l.take (k+1))=zAh l[k].b:=by
 rw[List.take_succ_eq_append_getElem h,zMF _ _ h0]
 show(if zAh l[k].b=0 then 0 else zAh l[k].b)=_
 by_cases h1:zAh l[k].b=0
 ·rw[if_pos h1,h1]
 ·rw[if_neg h1]
theorem zUb(l:List BatR)(k:Nat)(h:k<l.length)(h0:errB (l.take k)=0)(h1:zAh l[k].b≠0):errB l=zAh l[k].b:=by
 have e:errB l=errB (l.take (k+1)++l.drop (k+1)):=by rw[List.take_append_drop]
 have h2:=zLo l k h h0;rw[e,zIj _ _ (by rw[h2];exact h1),h2]
theorem zNL:∀(l:List BatR),errB l=0→∀x∈l,zAh x.b=0
 |[],_,_,h=>by cases h
 |y::t,hh,x,hx=>by
  have hh:(if zAh y.b=0 then errB t else zAh y.b)=0:=hh
  by_cases h1:zAh y.b=0
  ·rw[if_pos h1]at hh
   rcases List.mem_cons.1 hx with rfl|hx
   ·exact h1
   ·exact zNL t hh x hx
  ·rw[if_neg h1]at hh;exact absurd hh h1
theorem zQ4:∀(l:List BatR),(∀x∈l,x.b.enc.length≤401000)→(encB l).length≤401000*l.length
 |[],_=>by simp[encB]
 |x::t,h=>by
  have h1:=zQ4 t (fun y hy=>h y (by simp[hy]));have h2:=h x sM;have e:encB (x::t)=x.b.enc++encB t:=rfl;rw[e,Je,Jg]
  omega
theorem BatR.small{x:BatR}(hf:x.Fit)(hs:zBb (x.l.map (·.1))=true)(he:zAh x.b=0):SmallOk x.b:=SmallOk.of hf.2.2.symm hf.2.1 hs he hf.1
theorem zMH(x:RecS)(hx:x.R)(hs:zBt x=true):(encR x).length≤1100:=by
 unfold zBt at hs;simp only[Bool.and_eq_true,decide_eq_true_eq]at hs;obtain⟨s1,s2,s3⟩:=hs;have hm:=zJO _ s3;have h0:=zCS x.hdrs;have h1:=zCU x.time hx.1;have h2:=zCU x.off hx.2;have h3:=zBK x.key oM;have h4:=zBK x.val oM;have h5:=zGu x.hdrs oM;have h8:=zCU x.hdrs.length oM
 have h6:(recF x).length≤1060:=by
  unfold recF zDq;simp only[Je,Jg,Jl]
  omega
 have h7:=zBK ⟨false,recF x⟩ (by simp only;omega);simp only at h7;unfold encR
 omega
theorem BatR.elen{x:BatR}(hf:x.Fit)(hs:zBb (x.l.map (·.1))=true):x.b.enc.length≤14000:=by
 rw[x.b.enc_len];unfold zBb at hs;simp only[Bool.and_eq_true,decide_eq_true_eq]at hs;rw[hf.2.2]at hs
 have h1:=zFq x.b.recs 1100 (fun y hy=>zMH y (by
  have hy2:y∈x.l.map (·.1):=hf.2.2 ▸ hy;obtain⟨z,hz,rfl⟩:=List.mem_map.1 hy2
  exact(hf.2.1 z hz).1) (zDj _ hs.2 y hy))
 unfold BatS.rowsB
 omega
def pw (n:Nat):Bool:=decide (n∈[28,27,26,25,23,22,20,19,18,14,13,11,10,9,8,6,0])
theorem pw_cP:∀j,j<32→pw (31 - j)=cP.getLsbD j:=by decide
def zEd (m:List Bool) (i:Nat):Nat→List Bool
 |0=>m
 |k+1=>(zEd m i k).set (i+(k+1)) ((zEd m i k).getD (i+(k+1)) false ^^ pw (31 - k))
def zCs (m:List Bool):Nat→List Bool
 |0=>m
 |i+1=>if (zCs m i).getD i false then zEd (zCs m i) i 32 else zCs m i
def zCx:Nat→List Bool→List Bool
 |0,m=>m
 |k+1,m=>(zCx k m).set k (!(zCx k m).getD k false)
theorem zHD(m:List Bool)(i k:Nat):(zEd m i k).length=m.length:=by
 induction k with
 |zero=>rfl
 |succ k ih=>show(List.set _ _ _).length=_;rw[List.length_set,ih]
theorem zES(m:List Bool)(i:Nat):(zCs m i).length=m.length:=by
 induction i with
 |zero=>rfl
 |succ i ih=>
  show(if _ then _ else _:List Bool).length=_
  split
  ·rw[zHD,ih]
  ·exact ih
theorem zDS(m:List Bool)(k:Nat):(zCx k m).length=m.length:=by
 induction k with
 |zero=>rfl
 |succ k ih=>show(List.set _ _ _).length=_;rw[List.length_set,ih]
theorem zJQ(m:List Bool)(i x:Nat)(b:Bool)(h:i<m.length):(m.set i b).getD x false=if x=i then b else m.getD x false:=by
 rw[List.getD_eq_getElem?_getD,List.getD_eq_getElem?_getD,List.getElem?_set]
 by_cases hx:i=x
 ·subst hx;simp[h]
 ·have hx2:¬x=i:=fun e=>hx e.symm
  simp[hx,hx2]
theorem zNX(m:List Bool)(k:Nat)(h:k≤m.length)(x:Nat):(zCx k m).getD x false=if x<k then !m.getD x false else m.getD x false:=by
 induction k with
 |zero=>simp[zCx]
 |succ k ih=>
  have ih:=ih (by omega)
  show((zCx k m).set k (!(zCx k m).getD k false)).getD x false=_
  rw[zJQ _ _ _ _ (by rw[zDS];omega)]
  by_cases hx:x=k
  ·subst hx;rw[if_pos rfl,ih,if_neg (by omega),if_pos (by omega)]
  ·rw[if_neg hx,ih]
   by_cases h2:x<k
   ·rw[if_pos h2,if_pos (by omega)]
   ·rw[if_neg h2,if_neg (by omega)]
theorem zQG(m:List Bool)(i k:Nat)(h:i+k<m.length)(x:Nat):(zEd m i k).getD x false=if i<x∧x≤i+k then(m.getD x false ^^ pw (32 - (x - i)))else m.getD x false:=by
 induction k generalizing x with
 |zero=>
  show m.getD x false=_
  rw[if_neg (by omega)]
 |succ k ih=>
  have ih:=fun x=>ih (by omega) x
  show((zEd m i k).set (i+(k+1)) ((zEd m i k).getD (i+(k+1)) false ^^ pw (31 - k))).getD x false=_
  rw[zJQ _ _ _ _ (by rw[zHD];omega)]
  by_cases hx:x=i+(k+1)
  ·subst hx;rw[if_pos rfl,ih,if_neg (by omega),if_pos (by omega),show 32 - (i+(k+1) - i)=31 - k by omega]
  ·rw[if_neg hx,ih]
   by_cases h2:i<x∧x≤i+k
   ·rw[if_pos h2,if_pos (by omega)]
   ·rw[if_neg h2,if_neg (by omega)]
theorem zRx(b:Bool)(j:Nat):(b2w b).getLsbD j=(decide (j=0) && b):=by
 cases b
 ·simp[b2w]
 ·cases j with
  |zero=>rfl
  |succ j=>simp[b2w]
theorem zRN(r:W32)(j:Nat)(hj:j<32):(step r).getLsbD j=(r.getLsbD (j+1) ^^ (r.getLsbD 0 && pw (31 - j))):=by
 unfold step;rw[BitVec.getLsbD_xor,BitVec.getLsbD_ushiftRight,Nat.add_comm 1 j,pw_cP j hj]
 cases r.getLsbD 0<;>simp
theorem zOK(b:List Bool)(r:W32)(m:List Bool)(hm:m.length=b.length+32)(h0:∀x,m.getD x false=if x<32 then(r.getLsbD x ^^ b.getD x false)else b.getD x false):
 ∀i,i≤b.length→∀x,i≤x→(zCs m i).getD x false=if x<i+32 then((feed r (b.take i)).getLsbD (x - i) ^^ b.getD x false)else b.getD x false:=by
 intro i
 induction i with
 |zero=>
  intro _ x _
  show m.getD x false=_
  rw[h0 x,Nat.zero_add,Nat.sub_zero,List.take_zero]
  rfl
 |succ i ih=>
  intro hi x hx;have ih:=ih (by omega);have hb:i<b.length:=by omega
  have hf:feed r (b.take (i+1))=step (feed r (b.take i) ^^^ b2w b[i]):=by
   rw[List.take_succ_eq_append_getElem hb,zHJ]
   rfl
  have hbi:b.getD i false=b[i]:=by rw[List.getD_eq_getElem?_getD,List.getElem?_eq_getElem hb];rfl
  have hi0:=ih i (Jo _);rw[if_pos (by omega),Nat.sub_self,hbi]at hi0;have hx0:=ih x (by omega)
  have hq:(zCs m (i+1)).getD x false=((zCs m i).getD x false ^^ ((zCs m i).getD i false && (decide (x≤i+32) && pw (32 - (x - i))))):=by
   show(if (zCs m i).getD i false then zEd (zCs m i) i 32 else zCs m i).getD x false=_
   cases hc:(zCs m i).getD i false with
   |false=>simp
   |true=>
    rw[if_pos rfl,zQG _ _ _ (by rw[zES];omega)]
    by_cases h2:x≤i+32
    ·rw[if_pos ⟨by omega,h2⟩];simp[h2]
    ·rw[if_neg (by omega)];simp[h2]
  rw[hq,hi0,hf];generalize feed r (b.take i)=R at hx0 ⊢;generalize b[i]=c
  by_cases h1:x<i+1+32
  ·have hj:x - (i+1)<32:=by omega
   rw[if_pos h1,zRN _ _ hj,BitVec.getLsbD_xor,BitVec.getLsbD_xor,zRx,zRx,show x - (i+1)+1=x - i by omega,show 31 - (x - (i+1))=32 - (x - i) by omega];have e1:decide (x≤i+32)=true:=decide_eq_true (by omega);have e2:decide (x - i=0)=false:=decide_eq_false (by omega);rw[e1,e2,hx0]
   by_cases h3:x<i+32
   ·rw[if_pos h3]
    cases R.getLsbD (x - i)<;>cases b.getD x false<;>cases R.getLsbD 0<;>cases c<;>simp
   ·rw[if_neg h3];have e3:R.getLsbD (x - i)=false:=BitVec.getLsbD_of_ge _ _ (by omega);rw[e3]
    cases b.getD x false<;>cases R.getLsbD 0<;>cases c<;>simp
  ·rw[if_neg h1,hx0,if_neg (by omega)];have e1:decide (x≤i+32)=false:=decide_eq_false (by omega);rw[e1]
   simp
def zBI (f:Nat→Bool):Nat→Nat
 |0=>0
 |k+1=>zBI f k*2+(if f (31 - k)then 1 else 0)
def zEr (s:Bs):List Bool:=zBv s++List.replicate 32 false
def zJV (s:Bs):List Bool:=zCs (zCx 32 (zEr s)) (8*s.length)
theorem zEH(s:Bs):(zEr s).length=8*s.length+32:=by unfold zEr;rw[Je,zDs,List.length_replicate]
theorem zKA(s:Bs)(x:Nat):(zEr s).getD x false=(zBv s).getD x false:=by
 unfold zEr;rw[List.getD_eq_getElem?_getD,List.getD_eq_getElem?_getD,List.getElem?_append]
 split
 ·rfl
 ·next h=>
  rw[List.getElem?_eq_none (l:=zBv s) (by omega),List.getElem?_replicate]
  split<;>rfl
theorem zMK(s:Bs)(j:Nat)(hj:j<32):(zJV s).getD (8*s.length+j) false= !((zAq 0#32 s).getLsbD j):=by
 have hl:=zDs s
 have h:=zOK (zBv s) (BitVec.allOnes 32) (zCx 32 (zEr s)) (by rw[zDS,zEH,hl]) (fun x=>by
  rw[zNX _ _ (by rw[zEH];omega),zKA]
  by_cases hx:x<32
  · rw[if_pos hx,if_pos hx,BitVec.getLsbD_allOnes];simp[hx]
  · rw[if_neg hx,if_neg hx]) (8*s.length) (by omega) (8*s.length+j) (by omega)
 unfold zJV;rw[h,if_pos (by omega),Nat.add_sub_cancel_left,Jj (by omega)];have hz:(zBv s).getD (8*s.length+j) false=false:=by rw[List.getD_eq_getElem?_getD,List.getElem?_eq_none (by omega)];rfl
 rw[hz];unfold zAq;rw[zMP,BitVec.getLsbD_not];simp[hj]
theorem zF7(r:W32):∀k,k≤32→zBI (fun j=>r.getLsbD j) k=r.toNat / 2 ^ (32 - k)
 |0,_=>by
  show 0=_
  rw[Nat.sub_zero,Nat.div_eq_of_lt r.isLt]
 |k+1,hk=>by
  have ih:=zF7 r k (by omega)
  show zBI (fun j=>r.getLsbD j) k*2+(if r.getLsbD (31 - k)then 1 else 0)=_
  rw[ih,show 32 - k=31 - k+1 by omega,show 32 - (k+1)=31 - k by omega,Nat.pow_succ,←Nat.div_div_eq_div_mul]
  have hb:r.getLsbD (31 - k)=decide (r.toNat / 2 ^ (31 - k) % 2=1):=by
   rw[BitVec.getLsbD,Nat.testBit_eq_decide_div_mod_eq]
  rw[hb];generalize r.toNat / 2 ^ (31 - k)=a
  by_cases h:a % 2=1
  ·simp[h];omega
  ·simp[h];omega
theorem zHa(f g:Nat→Bool)(h:∀j,j<32→f j=g j):∀k,k≤32→zBI f k=zBI g k
 |0,_=>rfl
 |k+1,hk=>by
  show zBI f k*2+_=zBI g k*2+_
  rw[zHa f g h k (by omega),h (31 - k) (by omega)]
theorem zMJ(s:Bs):zBI (fun j=> !(zJV s).getD (8*s.length+j) false) 32=(zAq 0#32 s).toNat:=by
 rw[zHa _ (fun j=>(zAq 0#32 s).getLsbD j) (fun j hj=>by rw[zMK s j hj];simp) 32 (Jo _),zF7 _ 32 (Jo _)]
 simp
theorem zIF(f:Nat→Bool):∀k,zBI f k<2 ^ k
 |0=>by show 0<2 ^ 0;omega
 |k+1=>by
  have:=zIF f k
  show zBI f k*2+_< _
  rw[Nat.pow_succ]
  split<;>omega
def bitN (b:Bool):Nat:=if b then 1 else 0
def pwL:List Nat:=[28,27,26,25,23,22,20,19,18,14,13,11,10,9,8,6,0]
def pwC:Array Value:= #[I O 28,I O 27,I O 26,I O 25,I O 23,I O 22,I O 20,I O 19,I O 18,I O 14,I O 13,I O 11,I O 10,I O 9,I O 8,I O 6,I O 0]
theorem zTL:∀k,k<17→pwC[k]? =some (I O ((pwL.getD k 0:Nat):Int))
 |0,_=>rfl
 |1,_=>rfl
 |2,_=>rfl
 |3,_=>rfl
 |4,_=>rfl
 |5,_=>rfl
 |6,_=>rfl
 |7,_=>rfl
 |8,_=>rfl
 |9,_=>rfl
 |10,_=>rfl
 |11,_=>rfl
 |12,_=>rfl
 |13,_=>rfl
 |14,_=>rfl
 |15,_=>rfl
 |16,_=>rfl
 |k+17,h=>absurd h (by omega)
theorem pw_yes:∀k,k<17→pw (pwL.getD k 0)=true:=by decide
theorem pw_no(n:Nat)(h:∀j,j<17→pwL.getD j 0≠n):pw n=false:=by
 unfold pw;rw[decide_eq_false_iff_not];intro hm;have e:pwL=[28,27,26,25,23,22,20,19,18,14,13,11,10,9,8,6,0]:=rfl;rw[←e]at hm;obtain⟨j,hj,hg⟩:=List.getElem_of_mem hm;exact h j hj (by rw[List.getD_eq_getElem?_getD,List.getElem?_eq_getElem hj];exact hg)
theorem zUk(s:Bs)(i:Nat)(hi:i<8*s.length)(h:i / 8<s.length):(s[i / 8].toNat / 2 ^ (i % 8)) % 2=bitN ((zBv s).getD i false):=by
 rw[zPb];have e:s.getD (i / 8) 0=s[i / 8]:=by rw[List.getD_eq_getElem?_getD,List.getElem?_eq_getElem h];rfl
 rw[e,Nat.testBit_eq_decide_div_mod_eq];generalize s[i / 8].toNat / 2 ^ (i % 8)=a;unfold bitN
 by_cases h:a % 2=1
 ·simp[h]
 ·simp[h];omega
variable {W0 w:World}{K:Know}{L:List Res}
theorem zMh(n:Nat)(hn:n<32)(h:St W0 w K L):
  Calls Jd 65 #[I O n] w fun en w'=>en=Jb (I O (bitN (pw n)))∧St W0 w' K L:=by
 have H:=hQd h;clear h;go_enter Tryz.func65,Tryz.ntmps65;go_wp2;have hal:=H.out.allocRaw pwC 3;obtain⟨bP,hbP⟩:=eX w.heap.size;rw[hbP]at hal;clear H;have H:=hQd hal;clear hal;go_loopw [2,4] (fun s2 iv wr=>∃k:Nat,k≤17∧s2=I O 0∧iv=I O k∧(∀j,j<k→pwL.getD j 0≠n)∧St W0 wr K (.raw bP pwC 3::L)) (fun _ iv _=>17 - (intOf iv).toNat)
 case atStart=>exact⟨0,oM,rfl,rfl,(fun j h=>absurd h oM),H.out⟩
 case round=>
  obtain⟨k,hk,rfl,rfl,hno,hst⟩:=hrel;clear H;have H:=hQd hst;have HNO:=hQd hno;clear hst hno
  by_cases hlt:k<17
  · have c0:=H.out.rawCell k;rw[zTL k hlt]at c0;obtain⟨m,hm⟩:=eX (pwL.getD k 0);rw[hm]at c0;have hki:(k:Int)<17:=by omega
    by_cases he:m=n
    · subst he;have HY:=hQd (show pw m=true by rw[←hm];exact pw_yes k hlt);clear hm;go_wp2;go_ret;exact⟨by rw[HY.out];rfl,H.out.drop⟩
    · have he2:((m:Int)==(n:Int))=false:=by rw[beq_eq_false_iff_ne];omega
      have HN2:=hQd (show ∀j,j<k+1→pwL.getD j 0≠n by
       intro j hj
       by_cases hjk:j=k
       · subst hjk;rw[hm];exact he
       · exact HNO.out j oM)
      clear hm;go_wp2;go_roundw
      case rel=>exact⟨k+1,hlt,rfl,by go_num,HN2.out,H.out⟩
      case measure=>first|(simp[intOf];done)|(simp[intOf];omega)
  · have hkl:k=17:=by omega
    subst hkl;go_wp2;go_ret;exact⟨by rw[pw_no n HNO.out];rfl,H.out.drop⟩
theorem zPY(s:Bs)(i:Nat)(hi:i<8*s.length)(hs:s.length≤1000000)(h:St W0 w K L):
 Calls Jd 64 #[Z (bb s),I O i] w fun en w'=>en=Jb (I O (bitN ((zBv s).getD i false)))∧St W0 w' K L:=by
 have H:=hQd h;clear h;obtain⟨q,hq⟩:=eX (i / 8);obtain⟨r,hr⟩:=eX (i % 8);have t1:(i:Int).tdiv 8=(q:Int):=by rw[←hq];rfl
 have t2:(i:Int).tmod 8=(r:Int):=by rw[←hr];rfl
 have hqs:q<s.length:=by omega
 have hr8:r<8:=by omega
 have HB:=hQd (show(s[q].toNat / 2 ^ r) % 2=bitN ((zBv s).getD i false) by have:=zUk s i hi oM;simp only[hq,hr]at this;exact this);clear hq hr;go_enter Tryz.func64,Tryz.ntmps64;go_wp2;go_loopw [5,6] (fun c iv wr=>∃k:Nat,k≤r∧c=I O ((s[q].toNat / 2 ^ k:Nat):Int)∧iv=I O k∧St W0 wr K L) (fun _ iv _=>r - (intOf iv).toNat)
 case atStart=>exact⟨0,Ji _,by have h8:=s[q].toNat_lt;simp;unfold wrap64;omega,rfl,H.out⟩
 case round=>
  obtain⟨k,hk,rfl,rfl,hst⟩:=hrel;clear H;have H:=hQd hst;clear hst;obtain⟨c,hc⟩:=eX (s[q].toNat / 2 ^ k)
  have hc8:c<256:=by
   have h1:s[q].toNat / 2 ^ k≤s[q].toNat:=Nat.div_le_self _ _;have h2:=s[q].toNat_lt
   omega
  rw[hc]
  by_cases hlt:k<r
  ·have hki:(k:Int)<(r:Int):=by omega
   have HC:=hQd (show s[q].toNat / 2 ^ (k+1)=c / 2 by rw[Nat.pow_succ,←Nat.div_div_eq_div_mul,hc]);have t3:(c:Int).tdiv 2=((c / 2:Nat):Int):=rfl;clear hc;go_wp2;go_roundw
   case rel=>exact⟨k+1,hlt,by rw[HC.out];rfl,by go_num,H.out⟩
   case measure=>first|(simp[intOf];done)|(simp[intOf];omega)
  ·have hkl:k=r:=by omega
   subst hkl;rw[hc]at HB;have t3:(c:Int).tmod 2=((c % 2:Nat):Int):=rfl;clear hc;go_wp2;go_ret;exact⟨by rw[←HB.out];rfl,H.out⟩
def zCj (l:List Bool):Array Value:=(l.map fun b=>Value.int O (bitN b)).toArray
theorem zI4(l:List Bool)(j:Nat)(h:j<l.length):(zCj l)[j]? =some (I O (bitN (l.getD j false))):=by
 unfold zCj;rw[List.getElem?_toArray,List.getElem?_map,List.getD_eq_getElem?_getD,List.getElem?_eq_getElem h]
 rfl
theorem zO8(l:List Bool)(k:Nat)(b:Bool)(x:Int)(hx:((bitN b:Nat):Int)=x):(zCj l).setIfInBounds k (I O x)=zCj (l.set k b):=by
 subst hx;unfold zCj;rw[List.setIfInBounds_toArray,List.map_set]
theorem zMS(n:Nat):madeCells #[I O 0] n=zCj (List.replicate n false):=by
 refine Array.ext_getElem? fun i=> ?_
 by_cases hi:i<n
 ·rw[zI4 _ _ (by simpa using hi),List.getD_eq_getElem?_getD,List.getElem?_replicate,if_pos hi];simp[madeCells,hi,Nat.mod_one,bitN]
 ·rw[Array.getElem?_eq_none (by rw[size_madeCells];first|omega|(simp;omega)),Array.getElem?_eq_none (by simp[zCj];omega)]
theorem zSx{a b:List Bool}(hl:a.length=b.length)(h:∀x,x<a.length→a.getD x false=b.getD x false):a=b:=by
 refine List.ext_getElem hl fun i h1 h2=> ?_
 have:=h i h1;rw[List.getD_eq_getElem?_getD,List.getD_eq_getElem?_getD,List.getElem?_eq_getElem h1,List.getElem?_eq_getElem h2]at this;exact this
def zIi (s:Bs) (m:Nat):Nat→List Bool
 |0=>List.replicate m false
 |k+1=>(zIi s m k).set k ((zBv s).getD k false)
theorem zHI(s:Bs)(m k:Nat):(zIi s m k).length=m:=by
 induction k with
 |zero=>show(List.replicate _ _).length=_;rw[List.length_replicate]
 |succ k ih=>show(List.set _ _ _).length=_;rw[List.length_set,ih]
theorem zQX(s:Bs)(m k:Nat)(h:k≤m)(x:Nat):(zIi s m k).getD x false=if x<k then(zBv s).getD x false else false:=by
 induction k with
 |zero=>
  show(List.replicate _ _).getD x false=_
  rw[List.getD_eq_getElem?_getD,List.getElem?_replicate]
  split<;>rfl
 |succ k ih=>
  have ih:=ih oM
  show((zIi s m k).set k _).getD x false=_
  rw[zJQ _ _ _ _ (by rw[zHI];omega)]
  by_cases hx:x=k
  ·subst hx;rw[if_pos rfl,if_pos oM]
  ·rw[if_neg hx,ih]
   by_cases h2:x<k
   ·rw[if_pos h2,if_pos oM]
   ·rw[if_neg h2,if_neg oM]
theorem zQW(s:Bs)(n:Nat)(h:8*s.length=n):zIi s (n+32) n=zEr s:=by
 refine zSx (by rw[zHI,zEH,h]) fun x _=> ?_
 rw[zQX _ _ _ oM,zKA]
 split
 ·rfl
 ·next hx=>
  rw[List.getD_eq_getElem?_getD,List.getElem?_eq_none (by rw[zDs];omega)]
  rfl
theorem St.bitCell{b:Nat}{l:List Bool}{T:TypeId}(h:St W0 w K (.raw b (zCj l) T::L))(k:Nat)(hk:k<l.length)(c:Bool)(hc:l.getD k false=c):w.cell? ⟨b,k,none⟩=some (I O (bitN c)):=by
 rw[h.rawCell k,zI4 l k hk,hc]
theorem St.bitSet{b:Nat}{l:List Bool}{T:TypeId}(h:St W0 w K (.raw b (zCj l) T::L))(k:Nat)(c:Bool)(x:Int)(hx:((bitN c:Nat):Int)=x):St W0 (w.setCell ⟨b,k,none⟩ (I O x)) K (.raw b (zCj (l.set k c)) T::L):=by
 rw[←zO8 l k c x hx];exact h.rawSet k _
theorem zQx(n N:Nat)(h:n+32=N)(hn:N≤9000000)(w:World):(Instr.makeSlice 23 (I O (N:Int)) (I O (N:Int))).run Jd w=.ok (Ja (some ⟨w.heap.size,0,none⟩) N N) (w.alloc (.cells (zCj (List.replicate N false)) 3 (0,0))):=by
 rw[←zMS];exact run_make_row' 23 3 (I O 0) 8 Tryz.underlying23 kR rfl .i64 .i64 N oM oM w
theorem zF6(n:Nat)(hn:n<32)(c:Bool)(hc:pw n=c)(h:St W0 w K L):
 Calls Jd 65 #[I O n] w fun en w'=>en=Jb (I O (bitN c))∧St W0 w' K L:=by
 subst hc;exact zMh n hn h
theorem zOs(s:Bs)(i:Nat)(hi:i<8*s.length)(hs:s.length≤1000000)(c:Bool)(hc:(zBv s).getD i false=c)(h:St W0 w K L):
 Calls Jd 64 #[Z (bb s),I O i] w fun en w'=>en=Jb (I O (bitN c))∧St W0 w' K L:=by
 subst hc;exact zPY s i hi hs h
theorem zOr(s:Bs)(hs:s.length≤1000000){W0 w:World}{K:Know}{L:List Res}(h:St W0 w K L):
 Calls Jd 31 #[Z (bb s)] w fun en w'=>en=Jb (.int .u32 (zAq 0#32 s).toNat)∧St W0 w' K L:=by
 have H:=hQd h;clear h;obtain⟨n,hn⟩:=eX (8*s.length);obtain⟨N,hN⟩:=eX (n+32);have e8:(8:Int)*(s.length:Int)=(n:Int):=by omega
 have eN:(n:Int)+32=(N:Int):=by omega
 have hn2:n≤8000000:=by omega
 have hmk:=zQx n N hN oM;have HN:=hQd hn;have HN2:=hQd hN;have HS:=hQd hs;clear hn hN hs;go_enter Tryz.func31,Tryz.ntmps31;go_wp2;have hal:=H.out.allocRaw (zCj (List.replicate N false)) 3;obtain⟨bL,hbL⟩:=eX w.heap.size;rw[hbL]at hal ⊢;clear H hmk hbL;have H:=hQd hal;clear hal;go_loopw [5] (fun iv wr=>∃k:Nat,k≤n∧iv=I O k∧St W0 wr K (.raw bL (zCj (zIi s N k)) 3::L)) (fun iv _=>n - (intOf iv).toNat)
 case atStart=>exact⟨0,Ji _,rfl,H.out⟩
 case round=>
  obtain⟨k,hk,rfl,hst⟩:=hrel;clear H;have H:=hQd hst;clear hst
  by_cases hlt:k<n
  ·have hki:(k:Int)<(n:Int):=by omega
   have hkN:(k:Int)<(N:Int):=by omega
   have HI:=hQd (show k<8*s.length by rw[HN.out];exact hlt);have HI2:=hQd (show k<(zIi s N k).length by rw[zHI];omega);obtain⟨c,hc⟩:=eX ((zBv s).getD k false);have HC:=hQd hc;clear hc;go_wp2_with (go_at_call 64;(with_reducible refine(zOs s k HI.out HS.out c HC.out H.out).zM ?_);clear H;intro wn H;have c0:=H.out.bitCell k HI2.out _ rfl;have f0:=H.out.rawFree k);go_roundw
   case rel=>
    have e:zIi s N (k+1)=(zIi s N k).set k c:=by rw[←HC.out];rfl
    exact⟨k+1,hlt,by go_num,by rw[e];exact H.out.bitSet k c _ rfl⟩
   case measure=>first|(simp[intOf];done)|(simp[intOf];omega)
  ·obtain rfl:n=k:=by omega
   have h:=H.out;have e:zIi s N n=zEr s:=by have:=zQW s n HN.out;rw[HN2.out]at this;exact this
   rw[e]at h;have HRL:=hQd (show(zEr s).length=N by rw[zEH,HN.out,HN2.out]);clear H;have H:=hQd h;clear h;clear hlt e hk;have hN2:(32:Int)≤(N:Int):=by omega
   go_wp2;go_loopw [6] (fun iv wr=>∃k:Nat,k≤32∧iv=I O k∧St W0 wr K (.raw bL (zCj (zCx k (zEr s))) 3::L)) (fun iv _=>32 - (intOf iv).toNat)
   case atStart=>exact⟨0,Ji _,rfl,H.out⟩
   case round=>
    obtain⟨k,hk,rfl,hst⟩:=hrel;clear H;have H:=hQd hst;clear hst
    by_cases hlt:k<32
    ·have hki:(k:Int)<32:=by omega
     have hkN:(k:Int)<(N:Int):=by omega
     obtain⟨c,hc⟩:=eX ((zCx k (zEr s)).getD k false);have hkl:k<(zCx k (zEr s)).length:=by rw[zDS,HRL.out];omega
     have c0:=H.out.bitCell k hkl c hc;have f0:=H.out.rawFree k;have HE:=hQd (show zCx (k+1) (zEr s)=(zCx k (zEr s)).set k (!c) by rw[←hc];rfl);clear hc hkl
     cases c
     all_goals
      simp only[bitN,Bool.false_eq_true,if_false,if_true]at c0;go_wp2;go_roundw
      case rel=>exact⟨k+1,hlt,by go_num,by rw[HE.out];exact H.out.bitSet k _ _ rfl⟩
      case measure=>first|(simp[intOf];done)|(simp[intOf];omega)
    ·obtain rfl:k=32:=by omega
     obtain⟨M,hM⟩:=eX (zCx 32 (zEr s));have h:=H.out;rw[hM]at h;have HML:=hQd (show M.length=N by rw[←hM,zDS];exact HRL.out);have HM:=hQd hM;clear H hlt hk hM;have H:=hQd h;clear h;go_wp2;go_loopw [7] (fun iv wr=>∃k:Nat,k≤n∧iv=I O k∧St W0 wr K (.raw bL (zCj (zCs M k)) 3::L)) (fun iv _=>n - (intOf iv).toNat)
     case atStart=>exact⟨0,Ji _,rfl,H.out⟩
     case round=>
      obtain⟨i,hi,rfl,hst⟩:=hrel;clear H;have H:=hQd hst;clear hst
      by_cases hlt:i<n
      ·have hki:(i:Int)<(n:Int):=by omega
       have hkN:(i:Int)<(N:Int):=by omega
       obtain⟨c,hc⟩:=eX ((zCs M i).getD i false);have c0:=H.out.bitCell i (by rw[zES,HML.out];omega) c hc
       cases c
       ·have HE:=hQd (show zCs M (i+1)=zCs M i by show(if (zCs M i).getD i false then _ else _:List Bool)=_;rw[hc];rfl);clear hc;simp only[bitN,Bool.false_eq_true,if_false,if_true]at c0;go_wp2;go_roundw
        case rel=>exact⟨i+1,hlt,by go_num,by rw[HE.out];exact H.out⟩
        case measure=>first|(simp[intOf];done)|(simp[intOf];omega)
       ·have HE:=hQd (show zCs M (i+1)=zEd (zCs M i) i 32 by show(if (zCs M i).getD i false then _ else _:List Bool)=_;rw[hc];rfl);clear hc;simp only[bitN,Bool.false_eq_true,if_false,if_true]at c0;obtain⟨B,hB⟩:=eX (zCs M i);have h:=H.out;rw[hB]at HE h;have HBL:=hQd (show B.length=N by rw[←hB,zES];exact HML.out);clear H hB;have H:=hQd h;clear h;go_wp2;clear c0;go_loopw [8] (fun kv wr=>∃q:Nat,q≤32∧kv=I O ((q:Int)+1)∧St W0 wr K (.raw bL (zCj (zEd B i q)) 3::L)) (fun kv _=>33 - (intOf kv).toNat)
        case atStart=>exact⟨0,Ji _,rfl,H.out⟩
        case round=>
         obtain⟨q,hq,rfl,hst⟩:=hrel;clear H;have H:=hQd hst;clear hst
         by_cases hlt2:q<32
         ·obtain⟨p,hp⟩:=eX (31 - q);obtain⟨x,hx⟩:=eX (i+(q+1));obtain⟨kk,hkk⟩:=eX (q+1);have e1:(q:Int)+1=(kk:Int):=by omega
          rw[e1];have e2:(i:Int)+(kk:Int)=(x:Int):=by omega
          have e3:(32:Int) - (kk:Int)=(p:Int):=by omega
          have b1:(kk:Int)≤32:=by omega
          have b2:(x:Int)<(N:Int):=by omega
          have b3:(p:Int)<32:=by omega
          have HX:=hQd (show x<(zEd B i q).length by rw[zHD,HBL.out];omega);obtain⟨a,ha⟩:=eX ((zEd B i q).getD x false);obtain⟨d,hd⟩:=eX (pw p);have HP:=hQd (show p<32 by omega);have HA:=hQd ha;have HD:=hQd hd
          have HN3:=hQd (show zEd B i (q+1)=(zEd B i q).set x (a ^^ d) by
           show(zEd B i q).set (i+(q+1)) ((zEd B i q).getD (i+(q+1)) false ^^ pw (31 - q))=_
           rw[hx,hp,ha,hd])
          have HQ:=hQd e1;have h1:(bitN a:Int)≤1:=by cases a<;>decide
          have h2:(bitN d:Int)≤1:=by cases d<;>decide
          have h3:((bitN a:Int)+(bitN d:Int)).tmod 2=(bitN (a ^^ d):Int):=by cases a<;>cases d<;>rfl
          obtain⟨va,hva⟩:=eX (bitN a);obtain⟨vd,hvd⟩:=eX (bitN d);obtain⟨vx,hvx⟩:=eX (bitN (a ^^ d));rw[hva]at h1 h3;rw[hvd]at h2 h3;rw[hvx]at h3;have HVA:=hQd hva;have HVD:=hQd hvd;have HVX:=hQd (show((bitN (a ^^ d):Nat):Int)=(vx:Int) by rw[hvx]);have w1:IntKind.i64.wrap (x:Int)=(x:Int):=IntWalk.i64_in _ oM;have w2:IntKind.i64.wrap (p:Int)=(p:Int):=IntWalk.i64_in _ oM;have w3:IntKind.i64.wrap ((va:Int)+(vd:Int))=(va:Int)+(vd:Int):=IntWalk.i64_in _ oM;have h4:((bitN (a ^^ d):Nat):Int)≤1:=by cases a<;>cases d<;>decide
          rw[HVX.out]at h4;have w4:IntKind.i64.wrap (vx:Int)=(vx:Int):=IntWalk.i64_in _ oM;clear hp hx hkk ha hd hva hvd hvx;go_upto_region 18 with (fail);have hs:=H.out.drew;refine wp_region_held_drew (S:=fun _=>True) kR trivial (fun hHeld=> ?_);refine tR 0 ?_;refine tR 1 ?_;refine tR 2 ?_;refine tR 3 ?_;refine tR 4 ?_;refine tR 5 ?_;refine tR 6 ?_;refine tR 7 ?_;refine tR 8 ?_;refine tR 10 ?_;refine tR 11 ?_;refine wR [9,12] (rC rfl (fun KK hK=> ?_) (rC rfl (fun KK hK=> ?_) rN))
          focus
           have c0:=hs.bitCell x HX.out a HA.out;rw[HVA.out]at c0;go_simp;refine zK hK (trivial) (fun hHeld=> ?_);clear hK KK
           refine wR [12] (rC rfl (fun KK hK=> ?_) rN);go_simp;go_at_call 65;with_reducible refine(zF6 p HP.out d HD.out hs).mono ?_;rw[HVD.out];rintro e wq ⟨rfl,hs⟩
          rotate_left
          focus
           go_simp;go_at_call 65;with_reducible refine(zF6 p HP.out d HD.out hs).mono ?_;rw[HVD.out];rintro e wq ⟨rfl,hs⟩;refine zK hK (trivial) (fun hHeld=> ?_);clear hK KK
           refine wR [9] (rC rfl (fun KK hK=> ?_) rN);have c0:=hs.bitCell x HX.out a HA.out;rw[HVA.out]at c0;go_simp
          all_goals
           refine zK hK (trivial) (fun hHeld=> ?_);clear hK KK
           refine tR 13 ?_;refine tR 14 ?_;refine tR 15 ?_;refine wR [16] (rC rfl (fun KK hK=> ?_) rN);have f0:=hs.rawFree x;have c0:=hs.bitCell x HX.out a HA.out;go_simp;refine zK hK (trivial) (fun hHeld=> ?_);clear hK KK
           have hs:=hs.bitSet x (a ^^ d) (vx:Int) HVX.out;refine wpAnyH_done kR ?_ _;rw[←HN3.out]at hs;go_wp2_with fail;go_roundw
           case rel=>
            clear hHeld c0 f0;exact⟨_,_,_,_,_,_,_,_,_,_,_,_,_,_,_,_,_,_,_,_,_,⟨q+1,hlt2,by rw[←HQ.out];go_num,hs⟩,rfl⟩
           case measure=>first|(simp[intOf];done)|(simp[intOf];omega)
         ·obtain rfl:q=32:=by omega
          have h:=H.out;rw[←HE.out]at h;clear H;have H:=hQd h;clear h;go_wp2;go_roundw
          case rel=>exact⟨i+1,hlt,by go_num,H.out⟩
          case measure=>first|(simp[intOf];done)|(simp[intOf];omega)
      ·obtain rfl:n=i:=by omega
       have HF:=hQd (show zBI (fun j=> !(zCs M n).getD (n+j) false) 32=(zAq 0#32 s).toNat by
        have:=zMJ s;unfold zJV at this;rw[HN.out,HM.out]at this
        exact this)
       obtain⟨D,hD⟩:=eX (zCs M n);have h:=H.out;rw[hD]at HF h;have HDL:=hQd (show D.length=N by rw[←hD,zES];exact HML.out);clear H hD;have H:=hQd h;clear h hlt;go_wp2;go_loopw [10,9] (fun iv ov wr=>∃j:Nat,j≤32∧iv=I O ((j:Int) - 1)∧ov=.int .u32 (zBI (fun j=> !D.getD (n+j) false) (32 - j):Nat)∧St W0 wr K (.raw bL (zCj (D)) 3::L)) (fun iv _ _=>(intOf iv+1).toNat)
       case atStart=>exact⟨32,Jo _,rfl,rfl,H.out⟩
       case round=>
        obtain⟨j,hj,rfl,rfl,hst⟩:=hrel;clear H;have H:=hQd hst;clear hst
        match j with
        |0=>
         rw[show(((0:Nat):Int) - 1)= -1 from rfl,show 32 - 0=32 from rfl,HF.out];go_wp2;go_ret;exact⟨rfl,H.out.drop⟩
        |j+1=>
         rw[show(((j+1:Nat):Int) - 1)=(j:Int) by omega];obtain⟨x,hx⟩:=eX (n+j);have e2:(n:Int)+(j:Int)=(x:Int):=by omega
         have b2:(x:Int)<(N:Int):=by omega
         have b1:(j:Int)<32:=by omega
         obtain⟨c,hc⟩:=eX (D.getD x false);have c0:=H.out.bitCell x (by rw[HDL.out];have:=HN2.out;omega) c hc;obtain⟨R,hR⟩:=eX (zBI (fun j=> !D.getD (n+j) false) (32 - (j+1)))
         have HR:=hQd (show zBI (fun j=> !D.getD (n+j) false) (32 - j)=R*2+(if c then 0 else 1) by
          rw[show 32 - j=32 - (j+1)+1 by omega]
          show zBI _ _*2+(if !D.getD (n+(31 - (32 - (j+1)))) false then 1 else 0)=_
          rw[hR,show 31 - (32 - (j+1))=j by omega,hx,hc]
          cases c<;>rfl)
         have hb:R<2147483648:=by
          have h1:=zIF (fun j=> !D.getD (n+j) false) (32 - (j+1));rw[hR]at h1;have h2:2 ^ (32 - (j+1))≤2 ^ 31:=Nat.pow_le_pow_right dD oM
          omega
         rw[hR];clear hx hc hR
         cases c
         all_goals
          simp only[bitN,Bool.false_eq_true,if_false,if_true]at c0 HR;go_wp2;go_roundw
          case rel=>exact⟨j,oM,rfl,by rw[HR.out];go_num,H.out⟩
          case measure=>first|(simp[intOf];done)|(simp[intOf];omega)
end Go.Proofs.YtenojajfacacoaaGreatDoor
