/- A text. -/
import Derived.Test.YtenojajfacacoaaGreatDoorGReportRawsCard9
import Derived.Test.YtenojajfacacoaaGreatDoorGReportRawsCard4
import Derived.Test.YtenojajfacacoaaGreatDoorGReportRawsCard3
import Derived.Test.YtenojajfacacoaaGreatDoorGReportRawsCard8
import Derived.Test.YtenojajfacacoaaGreatDoorGReportRawsCard5
import Derived.Test.YtenojajfacacoaaGreatDoorGReportRawsCard2
import Derived.Test.YtenojajfacacoaaGreatDoorGReportRawsCard6
import Derived.Deep.OwnRows
import Derived.Deep.RegionHeld3
import Derived.Deep.DeepCutAuto
import Derived.IntWalk
/- A text. -/
namespace Go.Proofs.YtenojajfacacoaaGreatDoor
open Go.RowKit
set_option maxHeartbeats 1000000
set_option maxRecDepth 100000
theorem zq9{p:Prop}(h:p:=by
  have hd:=zB8 l k hlt _ rfl;obtain⟨b,off,hqq⟩:=zBR HK.out H.out (by omega);subst hqq;obtain⟨⟨x,vx⟩,hx⟩:∃x,l[k]=x:=⟨_,rfl⟩;have cc:=zA2 HK.out H.out k hlt (x,vx) hx;have hmem:(x,vx)∈l:=hx ▸ List.getElem_mem hlt;have xf:x.R∧HFit x.hdrs∧x.sum≤1000000:=HFT.out (x,vx) hmem;have xk:K.has (Know.flat RHdr vx 3 x.hdrs):=zA8 HK.out hmem;obtain⟨qx,capx,hvx⟩:=zAv xk H.out;subst hvx;simp only at cc;obtain⟨c0,c1,c2,c3,c4,c5,c6⟩:=cc;rw[←Nat.add_assoc]at c1 c2 c3 c4 c5 c6;have hx1:l[k].1=x:=by rw[hx]
  have XF:=hQd xf;have XK:=hQd xk;have HX:=hQd hx1;clear xf xk hx1 hx hmem;have hki:(k:Int)<(l.length:Int):=by omega
  rw[HX.out]at hd;have hc:=HC.out;rw[hd]at hc;have hc:(if zA3 x=0 then zBU ((l.map (·.1)).drop (k+1))else zA3 x)=tot:=hc;have XL:=hQd (show x.hdrs.length≤9223372036854775807 by have:=zKH XF.out.2.2;omega);clear hd
  by_cases c1:zA3 x=0
  · rw[if_pos c1]at hc;have HC2:=hQd hc;have ER:=hQd c1;clear hc c1;go_wp2_with (go_at_call 25;(with_reducible refine(zFG x (.slice qx x.hdrs.length capx) _ ER.out XL.out XK.out H.out).mono ?_);rintro e_ wn ⟨rfl,h⟩;replace H:=hQd h;clear h;obtain⟨x0,x1,x2,x3,x4,x5,x6,x7,x8,x9,x10,x11,y0,y1,y2,y3,y4,y5,y6,y7,y8,y9,y10,y11⟩:=zAd (b:=hb) (H.out));go_roundw
    case rel=>exact⟨k+1,hlt,by go_num,HC2.out,H.out⟩
    case measure=>first|(simp[intOf];done)|(simp[intOf];omega)
  · rw[if_neg c1]at hc;have ER:=hQd hc;have gz:(tot==0)=false:=by rw[beq_eq_false_iff_ne,←hc];exact c1
    obtain rfl:tot=e:=HTE.out (by rw[←hc];exact c1);clear hc c1;go_wp2_with (go_at_call 25;(with_reducible refine(zFG x (.slice qx x.hdrs.length capx) _ ER.out XL.out XK.out H.out).mono ?_);rintro e_ wn ⟨rfl,h⟩;replace H:=hQd h;clear h;obtain⟨x0,x1,x2,x3,x4,x5,x6,x7,x8,x9,x10,x11,y0,y1,y2,y3,y4,y5,y6,y7,y8,y9,y10,y11⟩:=zAd (b:=hb) (H.out));go_ret;exact⟨rfl,H.out.drop⟩):p:=h
theorem zDn(base leader:Int)(app txn ctl:Bool)(last first maxt prod epoch sq:Int)(l:List (RecS×Value))(q:Option Addr)(cap:Nat)(e:Int)(he:zAC ⟨base,leader,app,txn,ctl,last,first,maxt,prod,epoch,sq,l.map (·.1)⟩=e)(hmx:first≤9223372036854775807)(hb0:Rn base)(hfit:FitB l)(hll:l.length≤1000000){W0 w:World}{K:Know}{L:List Res}(hk:K.has (Know.recs (.slice q l.length cap) l))(h:St W0 w K L):
    Calls Tryz.prog 8 #[.agg #[.int .i64 base,.int .i64 leader,.bool app,.bool txn,.bool ctl,.int .i64 last,.int .i64 first,.int .i64 maxt,.int .i64 prod,.int .i64 epoch,.int .i64 sq,.slice q l.length cap]] w fun en w'=>en=.returned (.int .i64 e)∧St W0 w' K L:=by
  have HK:=hQd hk;have HFT:=hQd hfit;have HLL:=hQd hll;unfold Rn at hb0;have h1:=h.allocRaw #[.int .i64 base,.int .i64 leader,.bool app,.bool txn,.bool ctl,.int .i64 last,.int .i64 first,.int .i64 maxt,.int .i64 prod,.int .i64 epoch,.int .i64 sq,.slice q l.length cap] 30;obtain⟨hb,hhb⟩:∃b,w.heap.size=b:=⟨_,rfl⟩;rw[hhb]at h1;obtain⟨x0,x1,x2,x3,x4,x5,x6,x7,x8,x9,x10,x11,y0,y1,y2,y3,y4,y5,y6,y7,y8,y9,y10,y11⟩:=zAd (b:=hb) (h1);have H:=hQd h1;clear h h1 hk hfit;unfold zAC at he;simp only[List.length_map]at he
  by_cases p1:BatS.placed ⟨base,leader,app,txn,ctl,last,first,maxt,prod,epoch,sq,l.map (·.1)⟩=false
  · rw[if_pos p1]at he;subst he
    by_cases g0:0≤base
    case neg=>
      have d0:decide (base<0)=true:=decide_eq_true (by omega);clear g0;clear p1 hmx hll hb0;go_enter Tryz.func8,Tryz.ntmps8
      go_wp2_with (first
    |(go_at_call 23;(with_reducible refine(zAm leader (-1) _ HW1.out H.out).mono ?_);rintro e_ wn ⟨rfl,h⟩;replace H:=hQd h;clear h;obtain⟨x0,x1,x2,x3,x4,x5,x6,x7,x8,x9,x10,x11,y0,y1,y2,y3,y4,y5,y6,y7,y8,y9,y10,y11⟩:=zAd (b:=hb) (H.out))
    |(go_at_call 23;(with_reducible refine(zAm last 0 _ HW2.out H.out).mono ?_);rintro e_ wn ⟨rfl,h⟩;replace H:=hQd h;clear h;obtain⟨x0,x1,x2,x3,x4,x5,x6,x7,x8,x9,x10,x11,y0,y1,y2,y3,y4,y5,y6,y7,y8,y9,y10,y11⟩:=zAd (b:=hb) (H.out)))
      go_ret;exact⟨rfl,H.out.drop⟩
    by_cases g1: -1≤leader∧leader≤2147483647
    case neg=>
      have d0:decide (base<0)=false:=decide_eq_false (by omega);have HW1:=hQd (show decide (-1≤leader∧leader≤2147483647)=false from decide_eq_false g1);clear g0 g1;clear p1 hmx hll hb0;go_enter Tryz.func8,Tryz.ntmps8
      go_wp2_with (first
    |(go_at_call 23;(with_reducible refine(zAm leader (-1) _ HW1.out H.out).mono ?_);rintro e_ wn ⟨rfl,h⟩;replace H:=hQd h;clear h;obtain⟨x0,x1,x2,x3,x4,x5,x6,x7,x8,x9,x10,x11,y0,y1,y2,y3,y4,y5,y6,y7,y8,y9,y10,y11⟩:=zAd (b:=hb) (H.out))
    |(go_at_call 23;(with_reducible refine(zAm last 0 _ HW2.out H.out).mono ?_);rintro e_ wn ⟨rfl,h⟩;replace H:=hQd h;clear h;obtain⟨x0,x1,x2,x3,x4,x5,x6,x7,x8,x9,x10,x11,y0,y1,y2,y3,y4,y5,y6,y7,y8,y9,y10,y11⟩:=zAd (b:=hb) (H.out)))
      go_ret;exact⟨rfl,H.out.drop⟩
    by_cases g2:0≤last∧last≤2147483647
    case neg=>
      have d0:decide (base<0)=false:=decide_eq_false (by omega);have HW1:=hQd (show decide (-1≤leader∧leader≤2147483647)=true from decide_eq_true g1);have HW2:=hQd (show decide (0≤last∧last≤2147483647)=false from decide_eq_false g2);clear g0 g1 g2;clear p1 hmx hll hb0;go_enter Tryz.func8,Tryz.ntmps8
      go_wp2_with (first
    |(go_at_call 23;(with_reducible refine(zAm leader (-1) _ HW1.out H.out).mono ?_);rintro e_ wn ⟨rfl,h⟩;replace H:=hQd h;clear h;obtain⟨x0,x1,x2,x3,x4,x5,x6,x7,x8,x9,x10,x11,y0,y1,y2,y3,y4,y5,y6,y7,y8,y9,y10,y11⟩:=zAd (b:=hb) (H.out))
    |(go_at_call 23;(with_reducible refine(zAm last 0 _ HW2.out H.out).mono ?_);rintro e_ wn ⟨rfl,h⟩;replace H:=hQd h;clear h;obtain⟨x0,x1,x2,x3,x4,x5,x6,x7,x8,x9,x10,x11,y0,y1,y2,y3,y4,y5,y6,y7,y8,y9,y10,y11⟩:=zAd (b:=hb) (H.out)))
      go_ret;exact⟨rfl,H.out.drop⟩
    by_cases g3:base≤9223372036854775807 - last
    case neg=>
      have d0:decide (base<0)=false:=decide_eq_false (by omega);have HW1:=hQd (show decide (-1≤leader∧leader≤2147483647)=true from decide_eq_true g1);have HW2:=hQd (show decide (0≤last∧last≤2147483647)=true from decide_eq_true g2);obtain⟨ml,hml⟩:∃ml,9223372036854775807 - base=ml:=⟨_,rfl⟩;have wl:wrap64 (9223372036854775807 - base)=ml:=by rw[←hml];unfold wrap64;omega
      have wl2:IntKind.i64.wrap (9223372036854775807 - base)=ml:=by rw[←hml];exact IntWalk.i64_in _ (by omega)
      have d3:decide (ml<last)=true:=by rw[←hml];exact decide_eq_true (by omega)
      clear g0 g1 g2 g3 hml;clear p1 hmx hll hb0;go_enter Tryz.func8,Tryz.ntmps8
      go_wp2_with (first
    |(go_at_call 23;(with_reducible refine(zAm leader (-1) _ HW1.out H.out).mono ?_);rintro e_ wn ⟨rfl,h⟩;replace H:=hQd h;clear h;obtain⟨x0,x1,x2,x3,x4,x5,x6,x7,x8,x9,x10,x11,y0,y1,y2,y3,y4,y5,y6,y7,y8,y9,y10,y11⟩:=zAd (b:=hb) (H.out))
    |(go_at_call 23;(with_reducible refine(zAm last 0 _ HW2.out H.out).mono ?_);rintro e_ wn ⟨rfl,h⟩;replace H:=hQd h;clear h;obtain⟨x0,x1,x2,x3,x4,x5,x6,x7,x8,x9,x10,x11,y0,y1,y2,y3,y4,y5,y6,y7,y8,y9,y10,y11⟩:=zAd (b:=hb) (H.out)))
      go_ret;exact⟨rfl,H.out.drop⟩
    by_cases g4:0≤first
    case neg=>
      have d0:decide (base<0)=false:=decide_eq_false (by omega);have HW1:=hQd (show decide (-1≤leader∧leader≤2147483647)=true from decide_eq_true g1);have HW2:=hQd (show decide (0≤last∧last≤2147483647)=true from decide_eq_true g2);obtain⟨ml,hml⟩:∃ml,9223372036854775807 - base=ml:=⟨_,rfl⟩;have wl:wrap64 (9223372036854775807 - base)=ml:=by rw[←hml];unfold wrap64;omega
      have wl2:IntKind.i64.wrap (9223372036854775807 - base)=ml:=by rw[←hml];exact IntWalk.i64_in _ (by omega)
      have d3:decide (ml<last)=false:=by rw[←hml];exact decide_eq_false (by omega)
      have d4:decide (first<0)=true:=decide_eq_true (by omega);clear g0 g1 g2 g3 g4 hml;clear p1 hmx hll hb0;go_enter Tryz.func8,Tryz.ntmps8
      go_wp2_with (first
    |(go_at_call 23;(with_reducible refine(zAm leader (-1) _ HW1.out H.out).mono ?_);rintro e_ wn ⟨rfl,h⟩;replace H:=hQd h;clear h;obtain⟨x0,x1,x2,x3,x4,x5,x6,x7,x8,x9,x10,x11,y0,y1,y2,y3,y4,y5,y6,y7,y8,y9,y10,y11⟩:=zAd (b:=hb) (H.out))
    |(go_at_call 23;(with_reducible refine(zAm last 0 _ HW2.out H.out).mono ?_);rintro e_ wn ⟨rfl,h⟩;replace H:=hQd h;clear h;obtain⟨x0,x1,x2,x3,x4,x5,x6,x7,x8,x9,x10,x11,y0,y1,y2,y3,y4,y5,y6,y7,y8,y9,y10,y11⟩:=zAd (b:=hb) (H.out)))
      go_ret;exact⟨rfl,H.out.drop⟩
    by_cases g5:0≤maxt
    case neg=>
      have d0:decide (base<0)=false:=decide_eq_false (by omega);have HW1:=hQd (show decide (-1≤leader∧leader≤2147483647)=true from decide_eq_true g1);have HW2:=hQd (show decide (0≤last∧last≤2147483647)=true from decide_eq_true g2);obtain⟨ml,hml⟩:∃ml,9223372036854775807 - base=ml:=⟨_,rfl⟩;have wl:wrap64 (9223372036854775807 - base)=ml:=by rw[←hml];unfold wrap64;omega
      have wl2:IntKind.i64.wrap (9223372036854775807 - base)=ml:=by rw[←hml];exact IntWalk.i64_in _ (by omega)
      have d3:decide (ml<last)=false:=by rw[←hml];exact decide_eq_false (by omega)
      have d4:decide (first<0)=false:=decide_eq_false (by omega);have d5:decide (maxt<0)=true:=decide_eq_true (by omega);clear g0 g1 g2 g3 g4 g5 hml;clear p1 hmx hll hb0;go_enter Tryz.func8,Tryz.ntmps8
      go_wp2_with (first
    |(go_at_call 23;(with_reducible refine(zAm leader (-1) _ HW1.out H.out).mono ?_);rintro e_ wn ⟨rfl,h⟩;replace H:=hQd h;clear h;obtain⟨x0,x1,x2,x3,x4,x5,x6,x7,x8,x9,x10,x11,y0,y1,y2,y3,y4,y5,y6,y7,y8,y9,y10,y11⟩:=zAd (b:=hb) (H.out))
    |(go_at_call 23;(with_reducible refine(zAm last 0 _ HW2.out H.out).mono ?_);rintro e_ wn ⟨rfl,h⟩;replace H:=hQd h;clear h;obtain⟨x0,x1,x2,x3,x4,x5,x6,x7,x8,x9,x10,x11,y0,y1,y2,y3,y4,y5,y6,y7,y8,y9,y10,y11⟩:=zAd (b:=hb) (H.out)))
      go_ret;exact⟨rfl,H.out.drop⟩
    exact absurd (show BatS.placed ⟨base,leader,app,txn,ctl,last,first,maxt,prod,epoch,sq,l.map (·.1)⟩=true from decide_eq_true ⟨g0,g1,g2,g3,g4,g5⟩) (by rw[p1];decide)
  rw[if_neg p1]at he
  have p2:BatS.placed ⟨base,leader,app,txn,ctl,last,first,maxt,prod,epoch,sq,l.map (·.1)⟩=true:=by cases hh:BatS.placed ⟨base,leader,app,txn,ctl,last,first,maxt,prod,epoch,sq,l.map (·.1)⟩with
    |false=>exact absurd hh p1
    |true=>rfl
  obtain⟨g0,g1,g2,g3,g4,g5⟩:=of_decide_eq_true (show decide (0≤base∧(-1≤leader∧leader≤2147483647)∧(0≤last∧last≤2147483647)∧base≤9223372036854775807 - last∧0≤first∧0≤maxt)=true from p2);have HFP:=hQd (show 0≤first∧first≤9223372036854775807 from⟨g4,hmx⟩);have d0:decide (base<0)=false:=decide_eq_false (by omega);have HW1:=hQd (show decide (-1≤leader∧leader≤2147483647)=true from decide_eq_true g1);have HW2:=hQd (show decide (0≤last∧last≤2147483647)=true from decide_eq_true g2);obtain⟨ml,hml⟩:∃ml,9223372036854775807 - base=ml:=⟨_,rfl⟩;have wl:wrap64 (9223372036854775807 - base)=ml:=by rw[←hml];unfold wrap64;omega
  have wl2:IntKind.i64.wrap (9223372036854775807 - base)=ml:=by rw[←hml];exact IntWalk.i64_in _ (by omega)
  have d3:decide (ml<last)=false:=by rw[←hml];exact decide_eq_false (by omega)
  have d4:decide (first<0)=false:=decide_eq_false (by omega);have d5:decide (maxt<0)=false:=decide_eq_false (by omega);clear g0 g1 g2 g3 g4 g5 hml;clear p1 p2 hmx hb0
  by_cases c1:ctl=true∧txn=false
  · rw[if_pos c1]at he;subst he;obtain⟨rfl,rfl⟩:=c1;clear hll;go_enter Tryz.func8,Tryz.ntmps8
    go_wp2_with (first
    |(go_at_call 23;(with_reducible refine(zAm leader (-1) _ HW1.out H.out).mono ?_);rintro e_ wn ⟨rfl,h⟩;replace H:=hQd h;clear h;obtain⟨x0,x1,x2,x3,x4,x5,x6,x7,x8,x9,x10,x11,y0,y1,y2,y3,y4,y5,y6,y7,y8,y9,y10,y11⟩:=zAd (b:=hb) (H.out))
    |(go_at_call 23;(with_reducible refine(zAm last 0 _ HW2.out H.out).mono ?_);rintro e_ wn ⟨rfl,h⟩;replace H:=hQd h;clear h;obtain⟨x0,x1,x2,x3,x4,x5,x6,x7,x8,x9,x10,x11,y0,y1,y2,y3,y4,y5,y6,y7,y8,y9,y10,y11⟩:=zAd (b:=hb) (H.out)))
    go_ret;exact⟨rfl,H.out.drop⟩
  rw[if_neg c1]at he
  by_cases s1:BatS.signed ⟨base,leader,app,txn,ctl,last,first,maxt,prod,epoch,sq,l.map (·.1)⟩=false
  · rw[if_pos s1]at he;subst he;have HS:=hQd (show(if prod= -1 then decide (epoch= -1∧sq= -1∧txn=false)else if prod<0∨¬(0≤epoch∧epoch≤32767)then false else if ctl then decide (sq= -1)else decide (0≤sq∧sq≤2147483647))=false from s1);clear s1 hll
    cases ctl with
    |false=>
      go_enter Tryz.func8,Tryz.ntmps8
      go_wp2_with (first
    |(go_at_call 23;(with_reducible refine(zAm leader (-1) _ HW1.out H.out).mono ?_);rintro e_ wn ⟨rfl,h⟩;replace H:=hQd h;clear h;obtain⟨x0,x1,x2,x3,x4,x5,x6,x7,x8,x9,x10,x11,y0,y1,y2,y3,y4,y5,y6,y7,y8,y9,y10,y11⟩:=zAd (b:=hb) (H.out))
    |(go_at_call 23;(with_reducible refine(zAm last 0 _ HW2.out H.out).mono ?_);rintro e_ wn ⟨rfl,h⟩;replace H:=hQd h;clear h;obtain⟨x0,x1,x2,x3,x4,x5,x6,x7,x8,x9,x10,x11,y0,y1,y2,y3,y4,y5,y6,y7,y8,y9,y10,y11⟩:=zAd (b:=hb) (H.out))
    |(go_at_call 24;(with_reducible refine(zBk _ _ _ _ _ _ _ _ _ _ _ _ _ HS.out H.out).mono ?_);rintro e_ wn ⟨rfl,h⟩;replace H:=hQd h;clear h;obtain⟨x0,x1,x2,x3,x4,x5,x6,x7,x8,x9,x10,x11,y0,y1,y2,y3,y4,y5,y6,y7,y8,y9,y10,y11⟩:=zAd (b:=hb) (H.out)))
      go_ret;exact⟨rfl,H.out.drop⟩
    |true=>
      cases txn with
      |false=>exact absurd ⟨rfl,rfl⟩ c1
      |true=>
        clear c1;go_enter Tryz.func8,Tryz.ntmps8
        go_wp2_with (first
    |(go_at_call 23;(with_reducible refine(zAm leader (-1) _ HW1.out H.out).mono ?_);rintro e_ wn ⟨rfl,h⟩;replace H:=hQd h;clear h;obtain⟨x0,x1,x2,x3,x4,x5,x6,x7,x8,x9,x10,x11,y0,y1,y2,y3,y4,y5,y6,y7,y8,y9,y10,y11⟩:=zAd (b:=hb) (H.out))
    |(go_at_call 23;(with_reducible refine(zAm last 0 _ HW2.out H.out).mono ?_);rintro e_ wn ⟨rfl,h⟩;replace H:=hQd h;clear h;obtain⟨x0,x1,x2,x3,x4,x5,x6,x7,x8,x9,x10,x11,y0,y1,y2,y3,y4,y5,y6,y7,y8,y9,y10,y11⟩:=zAd (b:=hb) (H.out))
    |(go_at_call 24;(with_reducible refine(zBk _ _ _ _ _ _ _ _ _ _ _ _ _ HS.out H.out).mono ?_);rintro e_ wn ⟨rfl,h⟩;replace H:=hQd h;clear h;obtain⟨x0,x1,x2,x3,x4,x5,x6,x7,x8,x9,x10,x11,y0,y1,y2,y3,y4,y5,y6,y7,y8,y9,y10,y11⟩:=zAd (b:=hb) (H.out)))
        go_ret;exact⟨rfl,H.out.drop⟩
  rw[if_neg s1]at he
  have s2:BatS.signed ⟨base,leader,app,txn,ctl,last,first,maxt,prod,epoch,sq,l.map (·.1)⟩=true:=by cases hh:BatS.signed ⟨base,leader,app,txn,ctl,last,first,maxt,prod,epoch,sq,l.map (·.1)⟩with
    |false=>exact absurd hh s1
    |true=>rfl
  have HS:=hQd (show(if prod= -1 then decide (epoch= -1∧sq= -1∧txn=false)else if prod<0∨¬(0≤epoch∧epoch≤32767)then false else if ctl then decide (sq= -1)else decide (0≤sq∧sq≤2147483647))=true from s2);clear s1 s2
  cases ctl with
  |false=>
    rw[if_neg (fun h=>by cases h.1)]at he;obtain⟨tot,htot⟩:∃t,zBU (l.map (·.1))=t:=⟨_,rfl⟩;rw[htot]at he;have HTE:=hQd (show tot≠0→tot=e from fun h=>by rw[if_pos h]at he;exact he);have HTZ:=hQd (show tot=0→BatS.rows ⟨base,leader,app,txn,false,last,first,maxt,prod,epoch,sq,l.map (·.1)⟩=e from fun h=>by rw[if_neg (fun x=>x h),if_neg (fun h=>by cases h.1)]at he;exact he);have HT:=hQd htot;clear he htot c1;go_enter Tryz.func8,Tryz.ntmps8
    go_wp2_with (first
        |(go_at_call 23;(with_reducible refine(zAm leader (-1) _ HW1.out H.out).mono ?_);rintro e_ wn ⟨rfl,h⟩;replace H:=hQd h;clear h;obtain⟨x0,x1,x2,x3,x4,x5,x6,x7,x8,x9,x10,x11,y0,y1,y2,y3,y4,y5,y6,y7,y8,y9,y10,y11⟩:=zAd (b:=hb) (H.out))
        |(go_at_call 23;(with_reducible refine(zAm last 0 _ HW2.out H.out).mono ?_);rintro e_ wn ⟨rfl,h⟩;replace H:=hQd h;clear h;obtain⟨x0,x1,x2,x3,x4,x5,x6,x7,x8,x9,x10,x11,y0,y1,y2,y3,y4,y5,y6,y7,y8,y9,y10,y11⟩:=zAd (b:=hb) (H.out))
        |(go_at_call 24;(with_reducible refine(zBk _ _ _ _ _ _ _ _ _ _ _ _ _ HS.out H.out).mono ?_);rintro e_ wn ⟨rfl,h⟩;replace H:=hQd h;clear h;obtain⟨x0,x1,x2,x3,x4,x5,x6,x7,x8,x9,x10,x11,y0,y1,y2,y3,y4,y5,y6,y7,y8,y9,y10,y11⟩:=zAd (b:=hb) (H.out)))
    go_loopw [3,4] (fun iv _ wr=>∃k:Nat,k≤l.length∧iv=.int .i64 k∧Hid (zBU ((l.map (·.1)).drop k)=tot)∧St W0 wr K (.raw hb #[.int .i64 base,.int .i64 leader,.bool app,.bool txn,.bool false,.int .i64 last,.int .i64 first,.int .i64 maxt,.int .i64 prod,.int .i64 epoch,.int .i64 sq,.slice q l.length cap] 30::L)) (fun iv _ _=>l.length - (intOf iv).toNat)
    case atStart=>exact⟨0,Nat.zero_le _,rfl,HT,H.out⟩
    case round=>
      clear x0 y0 x1 y1 x2 y2 x3 y3 x4 y4 x5 y5 x6 y6 x7 y7 x8 y8 x9 y9 x10 y10 x11 y11;obtain⟨k,hkl,rfl,HC,hst⟩:=hrel;clear H;have H:=hQd hst;clear hst;obtain⟨x0,x1,x2,x3,x4,x5,x6,x7,x8,x9,x10,x11,y0,y1,y2,y3,y4,y5,y6,y7,y8,y9,y10,y11⟩:=zAd (b:=hb) (H.out)
      by_cases hlt:k<l.length
      · exact zq9
      · obtain rfl:l.length=k:=by omega
        have hc:=HC.out;rw[List.drop_of_length_le (by simp)]at hc;obtain rfl:0=tot:=hc;have HROW:=hQd (HTZ.out rfl);go_wp2_with (go_at_call 27;(with_reducible refine(zEG _ _ _ _ _ _ _ _ _ _ _ l _ _ _ HROW.out HFP.out HFT.out HLL.out HK.out H.out).mono ?_);rintro e_ wn ⟨rfl,h⟩;replace H:=hQd h;clear h);go_ret;exact⟨rfl,H.out.drop⟩
  |true=>
    cases txn with
    |false=>exact absurd ⟨rfl,rfl⟩ c1
    |true=>
      clear c1
      by_cases c2:l.length=1
      · rw[if_neg (fun h=>h.2 c2)]at he;have HLEN:=hQd c2;have bl:((l.length:Int)==1)=true:=by rw[c2];rfl
        have bl2:((l.length:Int) !=1)=false:=by rw[c2];rfl
        obtain⟨tot,htot⟩:∃t,zBU (l.map (·.1))=t:=⟨_,rfl⟩;rw[htot]at he;have HTE:=hQd (show tot≠0→tot=e from fun h=>by rw[if_pos h]at he;exact he)
        have HEN:=hQd (show ∀(x:RecS) (h0:0<l.length),(l[0]'h0).1=x→((zBN x).2.2≠0→tot=0→(zBN x).2.2=e)∧((zBN x).2.2=0→tot=0→BatS.rows ⟨base,leader,app,true,true,last,first,maxt,prod,epoch,sq,l.map (·.1)⟩=e)from fun x h0 hx=>by
          have hm:l.map (·.1)=x::(l.map (·.1)).drop 1:=by have:=zB8 l 0 (by omega) x hx;simpa using this
          have hens:BatS.ends ⟨base,leader,app,true,true,last,first,maxt,prod,epoch,sq,l.map (·.1)⟩=(zBN x).2.2:=by unfold BatS.ends;simp only;rw[hm]
          rw[hens]at he;refine⟨fun h h2=> ?_,fun h h2=> ?_⟩
          · rw[if_neg (fun y=>y h2),if_pos ⟨rfl,h⟩]at he;exact he
          · rw[if_neg (fun y=>y h2),if_neg (fun y=>y.2 h)]at he;exact he)
        have HT:=hQd htot;clear he htot c2;go_enter Tryz.func8,Tryz.ntmps8
        go_wp2_with (first
            |(go_at_call 23;(with_reducible refine(zAm leader (-1) _ HW1.out H.out).mono ?_);rintro e_ wn ⟨rfl,h⟩;replace H:=hQd h;clear h;obtain⟨x0,x1,x2,x3,x4,x5,x6,x7,x8,x9,x10,x11,y0,y1,y2,y3,y4,y5,y6,y7,y8,y9,y10,y11⟩:=zAd (b:=hb) (H.out))
            |(go_at_call 23;(with_reducible refine(zAm last 0 _ HW2.out H.out).mono ?_);rintro e_ wn ⟨rfl,h⟩;replace H:=hQd h;clear h;obtain⟨x0,x1,x2,x3,x4,x5,x6,x7,x8,x9,x10,x11,y0,y1,y2,y3,y4,y5,y6,y7,y8,y9,y10,y11⟩:=zAd (b:=hb) (H.out))
            |(go_at_call 24;(with_reducible refine(zBk _ _ _ _ _ _ _ _ _ _ _ _ _ HS.out H.out).mono ?_);rintro e_ wn ⟨rfl,h⟩;replace H:=hQd h;clear h;obtain⟨x0,x1,x2,x3,x4,x5,x6,x7,x8,x9,x10,x11,y0,y1,y2,y3,y4,y5,y6,y7,y8,y9,y10,y11⟩:=zAd (b:=hb) (H.out)))
        go_loopw [3,4] (fun iv _ wr=>∃k:Nat,k≤l.length∧iv=.int .i64 k∧Hid (zBU ((l.map (·.1)).drop k)=tot)∧St W0 wr K (.raw hb #[.int .i64 base,.int .i64 leader,.bool app,.bool true,.bool true,.int .i64 last,.int .i64 first,.int .i64 maxt,.int .i64 prod,.int .i64 epoch,.int .i64 sq,.slice q l.length cap] 30::L)) (fun iv _ _=>l.length - (intOf iv).toNat)
        case atStart=>exact⟨0,Nat.zero_le _,rfl,HT,H.out⟩
        case round=>
          clear x0 y0 x1 y1 x2 y2 x3 y3 x4 y4 x5 y5 x6 y6 x7 y7 x8 y8 x9 y9 x10 y10 x11 y11;obtain⟨k,hkl,rfl,HC,hst⟩:=hrel;clear H;have H:=hQd hst;clear hst;obtain⟨x0,x1,x2,x3,x4,x5,x6,x7,x8,x9,x10,x11,y0,y1,y2,y3,y4,y5,y6,y7,y8,y9,y10,y11⟩:=zAd (b:=hb) (H.out)
          by_cases hlt:k<l.length
          · exact zq9
          · obtain rfl:l.length=k:=by omega
            have hc:=HC.out;rw[List.drop_of_length_le (by simp)]at hc;obtain rfl:0=tot:=hc;obtain⟨b,off,hqq⟩:=zBR HK.out H.out (by rw[HLEN.out];decide);subst hqq;obtain⟨⟨x,vx⟩,hx⟩:∃x,l[0]'(by rw[HLEN.out];decide)=x:=⟨_,rfl⟩;have cc:=zA2 HK.out H.out 0 (by rw[HLEN.out];decide) (x,vx) hx;have hmem:(x,vx)∈l:=hx ▸ List.getElem_mem _;have xf:x.R∧HFit x.hdrs∧x.sum≤1000000:=HFT.out (x,vx) hmem;have xk:K.has (Know.flat RHdr vx 3 x.hdrs):=zA8 HK.out hmem;obtain⟨qx,capx,hvx⟩:=zAv xk H.out;subst hvx;simp only[Nat.zero_mul,Nat.zero_add,Nat.add_zero]at cc;obtain⟨c0,c1,c2,c3,c4,c5,c6⟩:=cc;have XD:=hQd (zHq xf.2.2);have hl0:(0:Int)<(l.length:Int):=by have:=HLEN.out;omega
            obtain⟨⟨i1,i2,i3⟩,hi⟩:∃r,zBN x=r:=⟨_,rfl⟩;have EC:=hQd (show zBD x.key.null x.val.null x.key.data x.val.data x.hdrs.length x.off=(i1,i2,i3)from hi);have hen:=HEN.out x (by rw[HLEN.out];decide) (by rw[hx]);rw[hi]at hen;clear hx hmem xf xk hi
            by_cases c9:i3=0
            · subst c9;have HROW:=hQd (hen.2 rfl rfl);clear hen
              go_wp2_with (first
            |(go_at_call 26;(with_reducible refine(zEj x.time x.off x.key.null x.val.null x.key.data x.val.data qx x.hdrs.length capx (i1,i2,_) EC.out XD.out.1 XD.out.2 H.out).mono ?_);rintro e_ wn ⟨rfl,h⟩;replace H:=hQd h;clear h;obtain⟨x0,x1,x2,x3,x4,x5,x6,x7,x8,x9,x10,x11,y0,y1,y2,y3,y4,y5,y6,y7,y8,y9,y10,y11⟩:=zAd (b:=hb) (H.out))
            |(go_at_call 27;(with_reducible refine(zEG _ _ _ _ _ _ _ _ _ _ _ l _ _ _ HROW.out HFP.out HFT.out HLL.out HK.out H.out).mono ?_);rintro e_ wn ⟨rfl,h⟩;replace H:=hQd h;clear h))
              go_ret;exact⟨rfl,H.out.drop⟩
            · have gz:(i3==0)=false:=by rw[beq_eq_false_iff_ne];exact c9
              obtain rfl:i3=e:=hen.1 c9 rfl;clear hen c9;go_wp2_with (go_at_call 26;(with_reducible refine(zEj x.time x.off x.key.null x.val.null x.key.data x.val.data qx x.hdrs.length capx (i1,i2,_) EC.out XD.out.1 XD.out.2 H.out).mono ?_);rintro e_ wn ⟨rfl,h⟩;replace H:=hQd h;clear h;obtain⟨x0,x1,x2,x3,x4,x5,x6,x7,x8,x9,x10,x11,y0,y1,y2,y3,y4,y5,y6,y7,y8,y9,y10,y11⟩:=zAd (b:=hb) (H.out));go_ret;exact⟨rfl,H.out.drop⟩
      · rw[if_pos ⟨rfl,c2⟩]at he;subst he;have bl:((l.length:Int)==1)=false:=by rw[beq_eq_false_iff_ne];omega
        clear c2 hll;go_enter Tryz.func8,Tryz.ntmps8
        go_wp2_with (first
    |(go_at_call 23;(with_reducible refine(zAm leader (-1) _ HW1.out H.out).mono ?_);rintro e_ wn ⟨rfl,h⟩;replace H:=hQd h;clear h;obtain⟨x0,x1,x2,x3,x4,x5,x6,x7,x8,x9,x10,x11,y0,y1,y2,y3,y4,y5,y6,y7,y8,y9,y10,y11⟩:=zAd (b:=hb) (H.out))
    |(go_at_call 23;(with_reducible refine(zAm last 0 _ HW2.out H.out).mono ?_);rintro e_ wn ⟨rfl,h⟩;replace H:=hQd h;clear h;obtain⟨x0,x1,x2,x3,x4,x5,x6,x7,x8,x9,x10,x11,y0,y1,y2,y3,y4,y5,y6,y7,y8,y9,y10,y11⟩:=zAd (b:=hb) (H.out))
    |(go_at_call 24;(with_reducible refine(zBk _ _ _ _ _ _ _ _ _ _ _ _ _ HS.out H.out).mono ?_);rintro e_ wn ⟨rfl,h⟩;replace H:=hQd h;clear h;obtain⟨x0,x1,x2,x3,x4,x5,x6,x7,x8,x9,x10,x11,y0,y1,y2,y3,y4,y5,y6,y7,y8,y9,y10,y11⟩:=zAd (b:=hb) (H.out)))
        go_ret;exact⟨rfl,H.out.drop⟩
theorem zLU(x:RecS)(hx:x.R)(hs:x.sum≤1000):(encR x).length≤33000:=by
 have h1:=zEm x hx (by omega);have h2:=zCg ⟨false,recF x⟩ (by simp only;omega);simp only at h2;unfold encR
 omega
theorem zEg:∀(l:List RecS) (n:Nat),(∀x∈l,(encR x).length≤n)→(l.flatMap encR).length≤n*l.length
  |[],_,_=>by simp
  |x::t,n,h=>by
    rw[List.flatMap_cons,List.length_append,List.length_cons,Nat.mul_succ];have h1:=zEg t n (fun y hy=>h y (by simp[hy]));have h2:=h x (by simp)
    omega
theorem zCy:∀(l:List (RecS×Value)),zA1 l=(l.map (·.1)).flatMap encR
  |[]=>rfl
  |x::t=>by
    have:=zCy t;unfold zA1 at*;rw[List.flatMap_cons,List.map_cons,List.flatMap_cons,this]
structure SmallOk (b:BatS):Prop where
  fit:∀x∈b.recs,x.R∧zA3 x=0∧x.sum≤1000
  len:b.recs.length≤12
  err:zAC b=0
  rng:b.R
theorem SmallOk.rows{b:BatS}(h:SmallOk b):b.rowsB.length≤400000:=by
 have:=zEg b.recs 33000 (fun x hx=>zLU x (h.fit x hx).1 (h.fit x hx).2.2);have h2:=h.len;unfold BatS.rowsB
 omega
theorem SmallOk.recs{b:BatS}(h:SmallOk b):∀x∈b.recs,x.R∧zA3 x=0∧x.sum≤1000000:=fun x hx=>⟨(h.fit x hx).1,(h.fit x hx).2.1,by have:=(h.fit x hx).2.2;omega⟩
theorem SmallOk.back{b:BatS}(h:SmallOk b)(t:Bs):zBv (b.enc++t)=.ok (b,b.enc.length):=
 zLA h.err h.rng h.recs (by have:=h.rows;omega) (by have:=h.len;omega) t
theorem BatS.enc_len(b:BatS):b.enc.length=61+b.rowsB.length:=by unfold BatS.enc;rw[List.length_append,zA4]
theorem SmallOk.elen{b:BatS}(h:SmallOk b):b.enc.length≤401000:=by rw[b.enc_len];have:=h.rows;omega
theorem SmallOk.of{b:BatS}{l:List (RecS×Value)}(hl:b.recs=l.map (·.1))(hw:FitW l)(hs:zDz (l.map (·.1))=true)(he:zAC b=0)(hR:b.R):SmallOk b where
 fit:=by
  intro x hx;rw[hl]at hx;have hf:=hw.fit hs;obtain⟨y,hy,rfl⟩:=List.mem_map.1 hx;have hr:=zHA _ (zB9 he).2.2.2;have hss:=hs;unfold zDz at hss;simp only[Bool.and_eq_true]at hss;exact⟨(hf y hy).1,hr y.1 (by rw[hl];exact hx),zEF (zE6 _ hss.2 y.1 hx)⟩
 len:=by rw[hl,List.length_map];exact zLl hs
 err:=he
 rng:=hR
theorem zC5{x:PreS}(h:FitsAll x.items):(⟨[],0⟩:OutS).ints x.items=⟨zAk x.items,0⟩:=by
 rw[OutS.ints_put _ _ h]
 rfl
theorem SmallOk.preX{b:BatS}(so:SmallOk b):(Go.Proofs.YtenojajfacacoaaGreatDoor.preX b.enc).1=b.pre b.crc∧(Go.Proofs.YtenojajfacacoaaGreatDoor.preX b.enc).2=2∧zAH b.enc=.ok (b.pre b.crc):=by
 have hb:=so.back [];rw[List.append_nil]at hb;obtain⟨x,hx,_⟩:=zE5 hb;have hrow:=so.rows;have hlen:=so.len;have hcr:=b.crc_lt;have f1:=BatS.fitsAll so.err so.rng b.crc (by omega) (by omega) (by omega);have hp:=zIJ (b.pre b.crc) f1 (show(49:Int)≤49+(b.rowsB.length:Int) by omega) (show(0:Int)≤(b.recs.length:Int) by omega) b.rowsB;have hp:zAH b.enc=.ok (b.pre b.crc):=hp;obtain⟨_,h2,h3,_⟩:=zBF hp;exact⟨h2,h3,hp⟩
variable {W0 w:World}{K:Know}{L:List Res}
theorem zKK(p:Nat)(o:OutS)(s:Bs)(e:Int)(hx:o.text=(s,e))(h:St W0 w K (.out p o::L)):
  Calls Tryz.prog 50 #[zA9 p] w fun en w'=>en=.returned (.tuple #[.string (bb s),.int .i64 e])∧St W0 w' K (.out p o::L):=by
 have:=zJI p o h;rw[hx]at this;exact this
theorem zHJ(p:Nat)(o o2:OutS)(a0 a1 a2 a3 a4 a5 a6 a7 a8 a9 a10 a11:Int)(hx:PreS.R ⟨a0,a1,a2,a3,a4,a5,a6,a7,a8,a9,a10,a11⟩)(ho:o.ints (PreS.items ⟨a0,a1,a2,a3,a4,a5,a6,a7,a8,a9,a10,a11⟩)=o2)(hr:o.ok 200)(h:St W0 w K (.out p o::L)):
  Calls Tryz.prog 121 #[zA9 p,.agg #[.int .i64 a0,.int .i64 a1,.int .i64 a2,.int .i64 a3,.int .i64 a4,.int .i64 a5,.int .i64 a6,.int .i64 a7,.int .i64 a8,.int .i64 a9,.int .i64 a10,.int .i64 a11]] w fun en w'=>en=.returned (.tuple #[])∧St W0 w' K (.out p o2::L):=by
 subst ho;exact zIP p o ⟨a0,a1,a2,a3,a4,a5,a6,a7,a8,a9,a10,a11⟩ hx h hr
theorem zGq(a0 a1 a2 a3 a4 a5 a6 a7 a8 a9 a10 a11:Int)(hx:PreS.R ⟨a0,a1,a2,a3,a4,a5,a6,a7,a8,a9,a10,a11⟩)(o2:OutS)(s:Bs)(e:Int)(ho:(⟨[],0⟩:OutS).ints (PreS.items ⟨a0,a1,a2,a3,a4,a5,a6,a7,a8,a9,a10,a11⟩)=o2)(ht:o2.text=(s,e))(h:St W0 w K L):
  Calls Tryz.prog 87 #[.agg #[.int .i64 a0,.int .i64 a1,.int .i64 a2,.int .i64 a3,.int .i64 a4,.int .i64 a5,.int .i64 a6,.int .i64 a7,.int .i64 a8,.int .i64 a9,.int .i64 a10,.int .i64 a11]] w fun en w'=>en=.returned (.tuple #[.string (bb s),.int .i64 e])∧St W0 w' K L:=by
 have g1:=h.allocRaw #[.int .i64 a0,.int .i64 a1,.int .i64 a2,.int .i64 a3,.int .i64 a4,.int .i64 a5,.int .i64 a6,.int .i64 a7,.int .i64 a8,.int .i64 a9,.int .i64 a10,.int .i64 a11] 130;have g2:=g1.allocOut;obtain⟨hb,hhb⟩:∃b,w.heap.size=b:=⟨_,rfl⟩;obtain⟨po,hpo⟩:∃b,hb+1=b:=⟨_,rfl⟩;simp only[World.size_alloc,hhb,hpo]at g2;obtain⟨x0,x1,x2,x3,x4,x5,x6,x7,x8,x9,x10,x11,y0,y1,y2,y3,y4,y5,y6,y7,y8,y9,y10,y11⟩:=zAd (b:=hb) (g2.p1);have H:=hQd g2;have HX:=hQd hx;have HO:=hQd ho;have HT:=hQd ht;have HR:=hQd (show(⟨[],0⟩:OutS).ok 200 by simp[OutS.ok]);clear g1 g2 h hx ho ht;go_enter Tryz.func87,Tryz.ntmps87
 go_wp2_with (first
  |(go_at_call 121;(with_reducible refine(zHJ po _ _ _ _ _ _ _ _ _ _ _ _ _ _ HX.out HO.out HR.out H.out).mono ?_);rintro e_ wn ⟨rfl,h⟩;replace H:=hQd h;clear h)
  |(go_at_call 50;(with_reducible refine(zKK po _ _ _ HT.out H.out).mono ?_);rintro e_ wn ⟨rfl,h⟩;replace H:=hQd h;clear h))
 go_ret2;exact⟨rfl,H.out.drop.drop⟩
theorem zOV(l:List (RecS×Value))(q:Option Addr)(cap:Nat)(rows:Bs)(hrows:zA1 l=rows)(hc:zBU (l.map (·.1))=0)(hfit:FitB l)(hll:l.length≤1000){W0 w:World}{K:Know}{L:List Res}(hk:K.has (Know.recs (.slice q l.length cap) l))(h:St W0 w K L):
  Calls Tryz.prog 85 #[.slice q l.length cap] w fun en w'=>en=.returned (.tuple #[.string (bb rows),.int .i64 0])∧St W0 w' K L:=by
 have g1:=h.allocOut;obtain⟨po,hpo⟩:∃b,w.heap.size=b:=⟨_,rfl⟩;rw[hpo]at g1;have H:=hQd g1;have HK:=hQd hk;have HFT:=hQd hfit;have HC:=hQd hc;have HRW:=hQd hrows;have HLL:=hQd hll;clear h g1 hk hfit hc hrows hll;go_enter Tryz.func85,Tryz.ntmps85;go_wp2;go_loopw [6,9] (fun _ iv wr=>∃k:Nat,k≤l.length∧iv=.int .i64 k∧St W0 wr K (.out po ⟨zA1 (l.take k),0⟩::L)) (fun _ iv _=>l.length - (intOf iv).toNat)
 case atStart=>exact⟨0,Nat.zero_le _,rfl,H.out⟩
 case round=>
  obtain⟨k,hkl,rfl,hst⟩:=hrel;clear H;have H:=hQd hst;clear hst
  by_cases hlt:k<l.length
  · have OK:=hQd (show(⟨zA1 (l.take k),0⟩:OutS).ok 40000000 by
     have h1:=zJe (l:=l.take k) (fun y hy=>HFT.out y (List.mem_of_mem_take hy));have h2:=HLL.out;rw[List.length_take]at h1;unfold OutS.ok;simp only
     omega)
    have hok:=zHA _ HC.out l[k].1 (List.mem_map.2 ⟨_,List.getElem_mem hlt,rfl⟩);have het:=zGj l k hlt;have hll2:=HLL.out;obtain⟨b,off,hqq⟩:=zBR HK.out H.out (by omega);subst hqq;obtain⟨⟨x,vx⟩,hx⟩:∃x,l[k]=x:=⟨_,rfl⟩;have cc:=zA2 HK.out H.out k hlt (x,vx) hx;have hmem:(x,vx)∈l:=hx ▸ List.getElem_mem hlt;have xf:x.R∧HFit x.hdrs∧x.sum≤1000000:=HFT.out (x,vx) hmem;have xk:K.has (Know.flat RHdr vx 3 x.hdrs):=zA8 HK.out hmem;obtain⟨qx,capx,hvx⟩:=zAv xk H.out;subst hvx;simp only at cc;obtain⟨c0,c1,c2,c3,c4,c5,c6⟩:=cc;rw[←Nat.add_assoc]at c1 c2 c3 c4 c5 c6;have hx1:l[k].1=x:=by rw[hx]
    have XF:=hQd xf;have XK:=hQd xk;have HX:=hQd hx1;clear xf xk hx1 hx hmem;obtain⟨wE,hwE⟩:∃b,wr.heap.size=b:=⟨_,rfl⟩;have hki:(k:Int)<(l.length:Int):=by omega
    have h:=H.out.allocRaw #[.int .i64 x.time,.int .i64 x.off,.bool x.key.null,.string (bb x.key.data),.bool x.val.null,.string (bb x.val.data),.slice qx x.hdrs.length capx] 54;rw[hwE]at h;clear H;have H:=hQd h;clear h;rw[HX.out]at hok het;have EO:=hQd (show(⟨zA1 (l.take k),0⟩:OutS).putRec x=⟨zA1 (l.take (k+1)),0⟩ by rw[zJZ _ _ hok,het]);have hll3:(l.length:Int)≤1000:=by omega
    obtain⟨ec0,ec1,ec2,ec3,ec4,ec5,ec6,ef0,ef1,ef2,ef3,ef4,ef5,ef6⟩:=raw7 (b:=wE) (H.out);clear hok het hll2;go_wp2_with (go_at_call 119;(with_reducible refine(zMI po _ _ x (.slice qx x.hdrs.length capx) XF.out.1 XF.out.2.2 EO.out OK.out XK.out H.out.p1).mono ?_);rintro e_ wn ⟨rfl,h⟩;replace H:=hQd h;clear h);go_roundw
    case rel=>exact⟨k+1,hlt,by go_num,H.out.p1.drop⟩
    case measure=>first|(simp[intOf];done)|(simp[intOf];omega)
  · obtain rfl:l.length=k:=by omega
    have h:=H.out;rw[List.take_length,HRW.out]at h;clear H;have H:=hQd h;clear h;have HT:=hQd (show(⟨rows,0⟩:OutS).text=(rows,0)from rfl);go_wp2_with (go_at_call 50;(with_reducible refine(zKK po _ _ _ HT.out H.out).mono ?_);rintro e_ wn ⟨rfl,h⟩;replace H:=hQd h;clear h);go_ret2;exact⟨rfl,H.out.drop⟩
set_option maxHeartbeats 2000000
theorem zDZ(base leader:Int)(app txn ctl:Bool)(last first maxt prod epoch sq:Int)(l:List (RecS×Value))(q:Option Addr)(cap:Nat)(he:zAC ⟨base,leader,app,txn,ctl,last,first,maxt,prod,epoch,sq,l.map (·.1)⟩=0)(hmx:first≤9223372036854775807)(hfit:FitB l)(hll:l.length≤1000)(rows said0 said1 all:Bs)(x:Nat)(at_:Int)(hrc:zBU (l.map (·.1))=0)(hrw:zA1 l=rows)(hrl:rows.length≤100000000)(hat:zAU app txn ctl 3=at_)
    (r0:PreS.R ⟨base,49+rows.length,leader,0,at_,last,first,maxt,prod,epoch,sq,l.length⟩)(r1:PreS.R ⟨base,49+rows.length,leader,x,at_,last,first,maxt,prod,epoch,sq,l.length⟩)(o0:(⟨[],0⟩:OutS).ints (PreS.items ⟨base,49+rows.length,leader,0,at_,last,first,maxt,prod,epoch,sq,l.length⟩)=⟨said0,0⟩)(o1:(⟨[],0⟩:OutS).ints (PreS.items ⟨base,49+rows.length,leader,x,at_,last,first,maxt,prod,epoch,sq,l.length⟩)=⟨said1,0⟩)(l0:said0.length=61)(l1:said1.length=61)(hx:(zAj 0#32 (said0.drop 21++rows)).toNat=x)(hall:said1++rows=all){W0 w:World}{K:Know}{L:List Res}(hk:K.has (Know.recs (.slice q l.length cap) l))(h:St W0 w K L):
    Calls Tryz.prog 48 #[.agg #[.int .i64 base,.int .i64 leader,.bool app,.bool txn,.bool ctl,.int .i64 last,.int .i64 first,.int .i64 maxt,.int .i64 prod,.int .i64 epoch,.int .i64 sq,.slice q l.length cap]] w fun en w'=>en=.returned (.tuple #[.string (bb all),.int .i64 0])∧St W0 w' K L:=by
  have HK:=hQd hk;have HFT:=hQd hfit;have HLL:=hQd (show l.length≤1000000 by omega);have HL1:=hQd hll;have HMX:=hQd hmx;have HE:=hQd he;have HRW:=hQd hrw;have HRC:=hQd hrc;have AT:=hQd hat;have HSZ:=hQd (show rows.length≤140737488355328 by omega);have R0:=hQd r0;have R1:=hQd r1;have O0:=hQd o0;have O1:=hQd o1;have T0:=hQd (show(⟨said0,0⟩:OutS).text=(said0,0)from rfl);have T1:=hQd (show(⟨said1,0⟩:OutS).text=(said1,0)from rfl);have HX:=hQd hx;have HS21:=hQd (show 21≤said0.length by omega);have HS2:=hQd (show said0.length≤140737488355328 by omega);have HR2:=hQd (show rows.length≤140737488355328 by omega);have HALL:=hQd hall;have hcat:bb said1++bb rows=bb all:=by rw[←hall];exact zAh _ _
  have hg:¬(9223372036854775807<said1.length+rows.length):=by omega
  have t1:True:=trivial;have h1:=h.allocRaw #[.int .i64 base,.int .i64 leader,.bool app,.bool txn,.bool ctl,.int .i64 last,.int .i64 first,.int .i64 maxt,.int .i64 prod,.int .i64 epoch,.int .i64 sq,.slice q l.length cap] 30;obtain⟨hb,hhb⟩:∃b,w.heap.size=b:=⟨_,rfl⟩;rw[hhb]at h1;obtain⟨x0,x1,x2,x3,x4,x5,x6,x7,x8,x9,x10,x11,y0,y1,y2,y3,y4,y5,y6,y7,y8,y9,y10,y11⟩:=zAd (b:=hb) (h1);have H:=hQd h1;clear h h1 hk hfit hll hmx he hrw hrc hat r0 r1 o0 o1 l0 l1 hx hall hrl;go_enter Tryz.func48,Tryz.ntmps48
  go_wp2_with (first
    |(go_at_call 35;(with_reducible refine(zCV _ _ _ _ _ _ _ _ _ _ _ l _ _ 0 HE.out HMX.out HFT.out HLL.out HK.out H.out).mono ?_);rintro e_ wn ⟨rfl,h⟩;replace H:=hQd h;clear h;obtain⟨x0,x1,x2,x3,x4,x5,x6,x7,x8,x9,x10,x11,y0,y1,y2,y3,y4,y5,y6,y7,y8,y9,y10,y11⟩:=zAd (b:=hb) (H.out))
    |(go_at_call 85;(with_reducible refine(zOV l _ _ rows HRW.out HRC.out HFT.out HL1.out HK.out H.out).mono ?_);rintro e_ wn ⟨rfl,h⟩;replace H:=hQd h;clear h;obtain⟨x0,x1,x2,x3,x4,x5,x6,x7,x8,x9,x10,x11,y0,y1,y2,y3,y4,y5,y6,y7,y8,y9,y10,y11⟩:=zAd (b:=hb) (H.out))
    |(go_at_call 86;(with_reducible refine(zOW _ _ _ _ _ _ _ _ _ _ _ l _ _ rows.length HSZ.out H.out).mono ?_);rw[AT.out];rintro e_ wn ⟨rfl,h⟩;have h:=h.allocRaw #[.int .i64 base,.int .i64 (49+rows.length),.int .i64 leader,.int .i64 0,.int .i64 at_,.int .i64 last,.int .i64 first,.int .i64 maxt,.int .i64 prod,.int .i64 epoch,.int .i64 sq,.int .i64 l.length] 130;obtain⟨pb,hpb⟩:∃b,wn.heap.size=b:=⟨_,rfl⟩;rw[hpb]at h;replace H:=hQd h;clear h;obtain⟨p0,p1,p2,p3,p4,p5,p6,p7,p8,p9,p10,p11,u0,u1,u2,u3,u4,u5,u6,u7,u8,u9,u10,u11⟩:=zAd (b:=pb) (H.out))
    |(go_at_call 87;have _t:=t1;clear _t;(with_reducible refine(zGq _ _ _ _ _ _ _ _ _ _ _ _ R0.out _ _ _ O0.out T0.out H.out).mono ?_);rintro e_ wn ⟨rfl,h⟩;replace H:=hQd h;clear h;obtain⟨p0,p1,p2,p3,p4,p5,p6,p7,p8,p9,p10,p11,u0,u1,u2,u3,u4,u5,u6,u7,u8,u9,u10,u11⟩:=zAd (b:=pb) (H.out);have t2:True:=trivial;clear t1)
    |(go_at_call 88;(with_reducible refine(zEC said0 rows x HX.out HS21.out HS2.out HR2.out H.out).mono ?_);rintro e_ wn ⟨rfl,h⟩;replace H:=hQd h;clear h;obtain⟨p0,p1,p2,p3,p4,p5,p6,p7,p8,p9,p10,p11,u0,u1,u2,u3,u4,u5,u6,u7,u8,u9,u10,u11⟩:=zAd (b:=pb) (H.out);have h3:St W0 _ K (.raw pb #[.int .i64 base,.int .i64 (49+rows.length),.int .i64 leader,.int .i64 x,.int .i64 at_,.int .i64 last,.int .i64 first,.int .i64 maxt,.int .i64 prod,.int .i64 epoch,.int .i64 sq,.int .i64 l.length] 130::_):=H.out.rawSet 3 (.int .i64 x);obtain⟨a0,a1,a2,a3,a4,a5,a6,a7,a8,a9,a10,a11,f0,f1,f2,f3,f4,f5,f6,f7,f8,f9,f10,f11⟩:=zAd (b:=pb) (h3);clear h3)
    |(go_at_call 87;have _t:=t2;clear _t;(with_reducible refine(zGq _ _ _ _ _ _ _ _ _ _ _ _ R1.out _ _ _ O1.out T1.out (H.out.rawSet 3 (.int .i64 x))).mono ?_);rintro e_ wn ⟨rfl,h⟩;replace H:=hQd h;clear h;clear t2))
  go_ret2;exact⟨rfl,H.out.drop.drop⟩
def AgreeB (a b:Bs) (first n:Nat):Prop:=b.take 21=a.take 21∧∀i,(i<first∨first+n≤i)→(zBj (a.drop 21)).getD i false=(zBj (b.drop 21)).getD i false
theorem AgreeB.refl(a:Bs)(f:Nat):AgreeB a a f 0:=⟨rfl,fun _ _=>rfl⟩
theorem AgreeB.step{a b:Bs}{f n:Nat}(h:AgreeB a b f n):AgreeB a b f (n+1):=⟨h.1,fun i hi=>h.2 i (by omega)⟩
structure BatR where
  b:BatS
  l:List (RecS×Value)
  q:Option Addr
  cap:Nat
def RBat (cs:List Value) (x:BatR):Prop:=cs=[.int .i64 x.b.base,.int .i64 x.b.leader,.bool x.b.app,.bool x.b.txn,.bool x.b.ctl,.int .i64 x.b.last,.int .i64 x.b.first,.int .i64 x.b.maxt,.int .i64 x.b.prod,.int .i64 x.b.epoch,.int .i64 x.b.seq,.slice x.q x.l.length x.cap]
def BatR.Fit (x:BatR):Prop:=x.b.R∧FitW x.l∧x.l.map (·.1)=x.b.recs
def Know.bats (v:Value) (l:List BatR):Know:=(Know.flat RBat v 12 l).and (Know.all l fun x=>Know.recs (.slice x.q x.l.length x.cap) x.l)
theorem zGo{K:Know}{v:Value}{l:List BatR}(h:K.has (Know.bats v l)):K.has (Know.flat RBat v 12 l):=fun w F x=>(h w F x).1
theorem zCU{K:Know}{v:Value}{l:List BatR}(h:K.has (Know.bats v l)){x:BatR}(hx:x∈l):K.has (Know.recs (.slice x.q x.l.length x.cap) x.l):=fun w F y=>(h w F y).2 x hx
theorem zGp{q:Option Addr}{n cap:Nat}{l:List BatR}(hk:K.has (Know.bats (.slice q n cap) l))(h:St W0 w K L)(h0:0<l.length):∃b off,q=some ⟨b,off,none⟩:=by
 obtain⟨F,hF,_⟩:=h.get;obtain⟨q2,cap2,hv,hr⟩:=(zGo hk _ _ hF).at;obtain⟨b,off,hq,_⟩:=hr h0;simp at hv;exact⟨b,off,hv.1.trans hq⟩
theorem zDX{b off n cap:Nat}{l:List BatR}(hk:K.has (Know.bats (.slice (some ⟨b,off,none⟩) n cap) l))(h:St W0 w K L)(i:Nat)(hi:i<l.length)(x:BatR)(hx:l[i]=x):
  w.cell? ⟨b,off+i*12,none⟩=some (.int .i64 x.b.base)∧w.cell? ⟨b,off+i*12+1,none⟩=some (.int .i64 x.b.leader)∧w.cell? ⟨b,off+i*12+2,none⟩=some (.bool x.b.app)∧w.cell? ⟨b,off+i*12+3,none⟩=some (.bool x.b.txn)∧w.cell? ⟨b,off+i*12+4,none⟩=some (.bool x.b.ctl)∧w.cell? ⟨b,off+i*12+5,none⟩=some (.int .i64 x.b.last)∧w.cell? ⟨b,off+i*12+6,none⟩=some (.int .i64 x.b.first)∧w.cell? ⟨b,off+i*12+7,none⟩=some (.int .i64 x.b.maxt)∧w.cell? ⟨b,off+i*12+8,none⟩=some (.int .i64 x.b.prod)∧w.cell? ⟨b,off+i*12+9,none⟩=some (.int .i64 x.b.epoch)∧w.cell? ⟨b,off+i*12+10,none⟩=some (.int .i64 x.b.seq)∧w.cell? ⟨b,off+i*12+11,none⟩=some (.slice x.q x.l.length x.cap):=by
 subst hx;obtain⟨F,hF,_⟩:=h.get;obtain⟨q2,cap2,hv,hr⟩:=(zGo hk _ _ hF).at;obtain⟨b2,off2,hq,hc⟩:=hr (by omega);rw[hq]at hv;simp at hv;obtain⟨⟨rfl,rfl⟩,_,_⟩:=hv;obtain⟨cs,_,hR,hcs⟩:=hc i hi;unfold RBat at hR;subst hR;refine⟨?_,?_,?_,?_,?_,?_,?_,?_,?_,?_,?_,?_⟩
 · exact hcs 0 _ rfl
 · rw[Nat.add_assoc];exact hcs 1 _ rfl
 · rw[Nat.add_assoc];exact hcs 2 _ rfl
 · rw[Nat.add_assoc];exact hcs 3 _ rfl
 · rw[Nat.add_assoc];exact hcs 4 _ rfl
 · rw[Nat.add_assoc];exact hcs 5 _ rfl
 · rw[Nat.add_assoc];exact hcs 6 _ rfl
 · rw[Nat.add_assoc];exact hcs 7 _ rfl
 · rw[Nat.add_assoc];exact hcs 8 _ rfl
 · rw[Nat.add_assoc];exact hcs 9 _ rfl
 · rw[Nat.add_assoc];exact hcs 10 _ rfl
 · rw[Nat.add_assoc];exact hcs 11 _ rfl
def encB (l:List BatR):Bs:=l.flatMap fun x=>x.b.enc
theorem zKg(l m:List BatR):encB (l++m)=encB l++encB m:=List.flatMap_append
theorem zOP(x:BatR):encB [x]=x.b.enc:=by unfold encB;rw[List.flatMap_cons,List.flatMap_nil,List.append_nil]
theorem zNx(l:List BatR)(k:Nat)(h:k<l.length):encB (l.take (k+1))=encB (l.take k)++l[k].b.enc:=by
 rw[List.take_succ_eq_append_getElem h,zKg,zOP]
theorem BatR.small{x:BatR}(hf:x.Fit)(hs:zDz (x.l.map (·.1))=true)(he:zAC x.b=0):SmallOk x.b:=SmallOk.of hf.2.2.symm hf.2.1 hs he hf.1
theorem zKf(x:RecS)(hx:x.R)(hs:zC1 x=true):(encR x).length≤1100:=by
 unfold zC1 at hs;simp only[Bool.and_eq_true,decide_eq_true_eq]at hs;obtain⟨s1,s2,s3⟩:=hs;have hm:=zHR _ s3;have h0:=zCe x.hdrs;have h1:=zDr x.time hx.1;have h2:=zDr x.off hx.2;have h3:=zCg x.key (by omega);have h4:=zCg x.val (by omega);have h5:=zFc x.hdrs (by omega);have h8:=zDr x.hdrs.length (by omega)
 have h6:(recF x).length≤1060:=by
  unfold recF zCE;simp only[List.length_append,List.length_cons,List.length_nil]
  omega
 have h7:=zCg ⟨false,recF x⟩ (by simp only;omega);simp only at h7;unfold encR
 omega
theorem BatR.elen{x:BatR}(hf:x.Fit)(hs:zDz (x.l.map (·.1))=true):x.b.enc.length≤14000:=by
 rw[x.b.enc_len];unfold zDz at hs;simp only[Bool.and_eq_true,decide_eq_true_eq]at hs;rw[hf.2.2]at hs
 have h1:=zEg x.b.recs 1100 (fun y hy=>zKf y (by
  have hy2:y∈x.l.map (·.1):=hf.2.2 ▸ hy;obtain⟨z,hz,rfl⟩:=List.mem_map.1 hy2
  exact(hf.2.1 z hz).1) (zE6 _ hs.2 y hy))
 unfold BatS.rowsB
 omega
def pw (n:Nat):Bool:=decide (n∈[28,27,26,25,23,22,20,19,18,14,13,11,10,9,8,6,0])
theorem pw_cP:∀j,j<32→pw (31 - j)=cP.getLsbD j:=by decide
def zDd (m:List Bool) (i:Nat):Nat→List Bool
  |0=>m
  |k+1=>(zDd m i k).set (i+(k+1)) ((zDd m i k).getD (i+(k+1)) false ^^ pw (31 - k))
def zBY (m:List Bool):Nat→List Bool
  |0=>m
  |i+1=>if (zBY m i).getD i false then zDd (zBY m i) i 32 else zBY m i
def zB2:Nat→List Bool→List Bool
  |0,m=>m
  |k+1,m=>(zB2 k m).set k (!(zB2 k m).getD k false)
theorem zGc(m:List Bool)(i k:Nat):(zDd m i k).length=m.length:=by
 induction k with
 |zero=>rfl
 |succ k ih=>show(List.set _ _ _).length=_;rw[List.length_set,ih]
theorem zDL(m:List Bool)(i:Nat):(zBY m i).length=m.length:=by
 induction i with
 |zero=>rfl
 |succ i ih=>
  show(if _ then _ else _:List Bool).length=_
  split
  · rw[zGc,ih]
  · exact ih
theorem zCY(m:List Bool)(k:Nat):(zB2 k m).length=m.length:=by
 induction k with
 |zero=>rfl
 |succ k ih=>show(List.set _ _ _).length=_;rw[List.length_set,ih]
theorem zHS(m:List Bool)(i x:Nat)(b:Bool)(h:i<m.length):(m.set i b).getD x false=if x=i then b else m.getD x false:=by
 rw[List.getD_eq_getElem?_getD,List.getD_eq_getElem?_getD,List.getElem?_set]
 by_cases hx:i=x
 · subst hx;simp[h]
 · have hx2:¬x=i:=fun e=>hx e.symm
   simp[hx,hx2]
theorem zLf(m:List Bool)(k:Nat)(h:k≤m.length)(x:Nat):(zB2 k m).getD x false=if x<k then !m.getD x false else m.getD x false:=by
 induction k with
 |zero=>simp[zB2]
 |succ k ih=>
  have ih:=ih (by omega)
  show((zB2 k m).set k (!(zB2 k m).getD k false)).getD x false=_
  rw[zHS _ _ _ _ (by rw[zCY];omega)]
  by_cases hx:x=k
  · subst hx;rw[if_pos rfl,ih,if_neg (by omega),if_pos (by omega)]
  · rw[if_neg hx,ih]
    by_cases h2:x<k
    · rw[if_pos h2,if_pos (by omega)]
    · rw[if_neg h2,if_neg (by omega)]
theorem zNc(m:List Bool)(i k:Nat)(h:i+k<m.length)(x:Nat):(zDd m i k).getD x false=if i<x∧x≤i+k then(m.getD x false ^^ pw (32 - (x - i)))else m.getD x false:=by
 induction k generalizing x with
 |zero=>
  show m.getD x false=_
  rw[if_neg (by omega)]
 |succ k ih=>
  have ih:=fun x=>ih (by omega) x
  show((zDd m i k).set (i+(k+1)) ((zDd m i k).getD (i+(k+1)) false ^^ pw (31 - k))).getD x false=_
  rw[zHS _ _ _ _ (by rw[zGc];omega)]
  by_cases hx:x=i+(k+1)
  · subst hx;rw[if_pos rfl,ih,if_neg (by omega),if_pos (by omega),show 32 - (i+(k+1) - i)=31 - k by omega]
  · rw[if_neg hx,ih]
    by_cases h2:i<x∧x≤i+k
    · rw[if_pos h2,if_pos (by omega)]
    · rw[if_neg h2,if_neg (by omega)]
theorem zNR(b:Bool)(j:Nat):(b2w b).getLsbD j=(decide (j=0) && b):=by
 cases b
 · simp[b2w]
 · cases j with
   |zero=>rfl
   |succ j=>simp[b2w]
theorem zN4(r:W32)(j:Nat)(hj:j<32):(step r).getLsbD j=(r.getLsbD (j+1) ^^ (r.getLsbD 0 && pw (31 - j))):=by
 unfold step;rw[BitVec.getLsbD_xor,BitVec.getLsbD_ushiftRight,Nat.add_comm 1 j,pw_cP j hj]
 cases r.getLsbD 0<;>simp
theorem zLI(b:List Bool)(r:W32)(m:List Bool)(hm:m.length=b.length+32)(h0:∀x,m.getD x false=if x<32 then(r.getLsbD x ^^ b.getD x false)else b.getD x false):
  ∀i,i≤b.length→∀x,i≤x→(zBY m i).getD x false=if x<i+32 then((feed r (b.take i)).getLsbD (x - i) ^^ b.getD x false)else b.getD x false:=by
 intro i
 induction i with
 |zero=>
  intro _ x _
  show m.getD x false=_
  rw[h0 x,Nat.zero_add,Nat.sub_zero,List.take_zero]
  rfl
 |succ i ih=>
  intro hi x hx;have ih:=ih (by omega);have hb:i<b.length:=by omega
  have hf:feed r (b.take (i+1))=step (feed r (b.take i) ^^^ b2w b[i]):=by
    rw[List.take_succ_eq_append_getElem hb,zGi]
    rfl
  have hbi:b.getD i false=b[i]:=by rw[List.getD_eq_getElem?_getD,List.getElem?_eq_getElem hb];rfl
  have hi0:=ih i (Nat.le_refl _);rw[if_pos (by omega),Nat.sub_self,hbi]at hi0;have hx0:=ih x (by omega)
  have hq:(zBY m (i+1)).getD x false=((zBY m i).getD x false ^^ ((zBY m i).getD i false && (decide (x≤i+32) && pw (32 - (x - i))))):=by
    show(if (zBY m i).getD i false then zDd (zBY m i) i 32 else zBY m i).getD x false=_
    cases hc:(zBY m i).getD i false with
    |false=>simp
    |true=>
      rw[if_pos rfl,zNc _ _ _ (by rw[zDL];omega)]
      by_cases h2:x≤i+32
      · rw[if_pos ⟨by omega,h2⟩];simp[h2]
      · rw[if_neg (by omega)];simp[h2]
  rw[hq,hi0,hf];generalize feed r (b.take i)=R at hx0 ⊢;generalize b[i]=c
  by_cases h1:x<i+1+32
  · have hj:x - (i+1)<32:=by omega
    rw[if_pos h1,zN4 _ _ hj,BitVec.getLsbD_xor,BitVec.getLsbD_xor,zNR,zNR,show x - (i+1)+1=x - i by omega,show 31 - (x - (i+1))=32 - (x - i) by omega];have e1:decide (x≤i+32)=true:=decide_eq_true (by omega);have e2:decide (x - i=0)=false:=decide_eq_false (by omega);rw[e1,e2,hx0]
    by_cases h3:x<i+32
    · rw[if_pos h3]
      cases R.getLsbD (x - i)<;>cases b.getD x false<;>cases R.getLsbD 0<;>cases c<;>simp
    · rw[if_neg h3];have e3:R.getLsbD (x - i)=false:=BitVec.getLsbD_of_ge _ _ (by omega);rw[e3]
      cases b.getD x false<;>cases R.getLsbD 0<;>cases c<;>simp
  · rw[if_neg h1,hx0,if_neg (by omega)];have e1:decide (x≤i+32)=false:=decide_eq_false (by omega);rw[e1]
    simp
def zBp (f:Nat→Bool):Nat→Nat
  |0=>0
  |k+1=>zBp f k*2+(if f (31 - k)then 1 else 0)
def zDm (s:Bs):List Bool:=zBj s++List.replicate 32 false
def zHX (s:Bs):List Bool:=zBY (zB2 32 (zDm s)) (8*s.length)
theorem zDD(s:Bs):(zDm s).length=8*s.length+32:=by unfold zDm;rw[List.length_append,zCB,List.length_replicate]
theorem zIx(s:Bs)(x:Nat):(zDm s).getD x false=(zBj s).getD x false:=by
 unfold zDm;rw[List.getD_eq_getElem?_getD,List.getD_eq_getElem?_getD,List.getElem?_append]
 split
 · rfl
 · next h=>
   rw[List.getElem?_eq_none (l:=zBj s) (by omega),List.getElem?_replicate]
   split<;>rfl
theorem zKj(s:Bs)(j:Nat)(hj:j<32):(zHX s).getD (8*s.length+j) false= !((zAj 0#32 s).getLsbD j):=by
 have hl:=zCB s
 have h:=zLI (zBj s) (BitVec.allOnes 32) (zB2 32 (zDm s)) (by rw[zCY,zDD,hl]) (fun x=>by
  rw[zLf _ _ (by rw[zDD];omega),zIx]
  by_cases hx:x<32
  · rw[if_pos hx,if_pos hx,BitVec.getLsbD_allOnes];simp[hx]
  · rw[if_neg hx,if_neg hx]) (8*s.length) (by omega) (8*s.length+j) (by omega)
 unfold zHX;rw[h,if_pos (by omega),Nat.add_sub_cancel_left,List.take_of_length_le (by omega)];have hz:(zBj s).getD (8*s.length+j) false=false:=by rw[List.getD_eq_getElem?_getD,List.getElem?_eq_none (by omega)];rfl
 rw[hz];unfold zAj;rw[zKl,BitVec.getLsbD_not];simp[hj]
theorem zEI(r:W32):∀k,k≤32→zBp (fun j=>r.getLsbD j) k=r.toNat / 2 ^ (32 - k)
  |0,_=>by
    show 0=_
    rw[Nat.sub_zero,Nat.div_eq_of_lt r.isLt]
  |k+1,hk=>by
    have ih:=zEI r k (by omega)
    show zBp (fun j=>r.getLsbD j) k*2+(if r.getLsbD (31 - k)then 1 else 0)=_
    rw[ih,show 32 - k=31 - k+1 by omega,show 32 - (k+1)=31 - k by omega,Nat.pow_succ,←Nat.div_div_eq_div_mul]
    have hb:r.getLsbD (31 - k)=decide (r.toNat / 2 ^ (31 - k) % 2=1):=by
      rw[BitVec.getLsbD,Nat.testBit_eq_decide_div_mod_eq]
    rw[hb];generalize r.toNat / 2 ^ (31 - k)=a
    by_cases h:a % 2=1
    · simp[h];omega
    · simp[h];omega
theorem zFS(f g:Nat→Bool)(h:∀j,j<32→f j=g j):∀k,k≤32→zBp f k=zBp g k
  |0,_=>rfl
  |k+1,hk=>by
    show zBp f k*2+_=zBp g k*2+_
    rw[zFS f g h k (by omega),h (31 - k) (by omega)]
theorem zKi(s:Bs):zBp (fun j=> !(zHX s).getD (8*s.length+j) false) 32=(zAj 0#32 s).toNat:=by
 rw[zFS _ (fun j=>(zAj 0#32 s).getLsbD j) (fun j hj=>by rw[zKj s j hj];simp) 32 (Nat.le_refl _),zEI _ 32 (Nat.le_refl _)]
 simp
theorem zGW(f:Nat→Bool):∀k,zBp f k<2 ^ k
  |0=>by show 0<2 ^ 0;omega
  |k+1=>by
    have:=zGW f k
    show zBp f k*2+_< _
    rw[Nat.pow_succ]
    split<;>omega
def bitN (b:Bool):Nat:=if b then 1 else 0
def pwL:List Nat:=[28,27,26,25,23,22,20,19,18,14,13,11,10,9,8,6,0]
def pwC:Array Value:= #[.int .i64 28,.int .i64 27,.int .i64 26,.int .i64 25,.int .i64 23,.int .i64 22,.int .i64 20,.int .i64 19,.int .i64 18,.int .i64 14,.int .i64 13,.int .i64 11,.int .i64 10,.int .i64 9,.int .i64 8,.int .i64 6,.int .i64 0]
theorem zPN:∀k,k<17→pwC[k]? =some (.int .i64 ((pwL.getD k 0:Nat):Int))
  |0,_=>rfl
  |1,_=>rfl
  |2,_=>rfl
  |3,_=>rfl
  |4,_=>rfl
  |5,_=>rfl
  |6,_=>rfl
  |7,_=>rfl
  |8,_=>rfl
  |9,_=>rfl
  |10,_=>rfl
  |11,_=>rfl
  |12,_=>rfl
  |13,_=>rfl
  |14,_=>rfl
  |15,_=>rfl
  |16,_=>rfl
  |k+17,h=>absurd h (by omega)
theorem pw_yes:∀k,k<17→pw (pwL.getD k 0)=true:=by decide
theorem pw_no(n:Nat)(h:∀j,j<17→pwL.getD j 0≠n):pw n=false:=by
 unfold pw;rw[decide_eq_false_iff_not];intro hm;have e:pwL=[28,27,26,25,23,22,20,19,18,14,13,11,10,9,8,6,0]:=rfl;rw[←e]at hm;obtain⟨j,hj,hg⟩:=List.getElem_of_mem hm;exact h j hj (by rw[List.getD_eq_getElem?_getD,List.getElem?_eq_getElem hj];exact hg)
theorem zQj(s:Bs)(i:Nat)(hi:i<8*s.length)(h:i / 8<s.length):(s[i / 8].toNat / 2 ^ (i % 8)) % 2=bitN ((zBj s).getD i false):=by
 rw[zL3];have e:s.getD (i / 8) 0=s[i / 8]:=by rw[List.getD_eq_getElem?_getD,List.getElem?_eq_getElem h];rfl
 rw[e,Nat.testBit_eq_decide_div_mod_eq];generalize s[i / 8].toNat / 2 ^ (i % 8)=a;unfold bitN
 by_cases h:a % 2=1
 · simp[h]
 · simp[h];omega
variable {W0 w:World}{K:Know}{L:List Res}
theorem zJT(n:Nat)(hn:n<32)(h:St W0 w K L):
  Calls Tryz.prog 65 #[.int .i64 n] w fun en w'=>en=.returned (.int .i64 (bitN (pw n)))∧St W0 w' K L:=by
 have H:=hQd h;clear h;go_enter Tryz.func65,Tryz.ntmps65;go_wp2;have hal:=H.out.allocRaw pwC 3;obtain⟨bP,hbP⟩:∃b,w.heap.size=b:=⟨_,rfl⟩;rw[hbP]at hal;clear H;have H:=hQd hal;clear hal;go_loopw [2,4] (fun s2 iv wr=>∃k:Nat,k≤17∧s2=.int .i64 0∧iv=.int .i64 k∧(∀j,j<k→pwL.getD j 0≠n)∧St W0 wr K (.raw bP pwC 3::L)) (fun _ iv _=>17 - (intOf iv).toNat)
 case atStart=>exact⟨0,by omega,rfl,rfl,(fun j h=>absurd h (by omega)),H.out⟩
 case round=>
  obtain⟨k,hk,rfl,rfl,hno,hst⟩:=hrel;clear H;have H:=hQd hst;have HNO:=hQd hno;clear hst hno
  by_cases hlt:k<17
  · have c0:=H.out.rawCell k;rw[zPN k hlt]at c0;obtain⟨m,hm⟩:∃m,pwL.getD k 0=m:=⟨_,rfl⟩;rw[hm]at c0;have hki:(k:Int)<17:=by omega
    by_cases he:m=n
    · subst he;have HY:=hQd (show pw m=true by rw[←hm];exact pw_yes k hlt);clear hm;go_wp2;go_ret;exact⟨by rw[HY.out];rfl,H.out.drop⟩
    · have he2:((m:Int)==(n:Int))=false:=by rw[beq_eq_false_iff_ne];omega
      have HN2:=hQd (show ∀j,j<k+1→pwL.getD j 0≠n by
       intro j hj
       by_cases hjk:j=k
       · subst hjk;rw[hm];exact he
       · exact HNO.out j (by omega))
      clear hm;go_wp2;go_roundw
      case rel=>exact⟨k+1,hlt,rfl,by go_num,HN2.out,H.out⟩
      case measure=>first|(simp[intOf];done)|(simp[intOf];omega)
  · have hkl:k=17:=by omega
    subst hkl;go_wp2;go_ret;exact⟨by rw[pw_no n HNO.out];rfl,H.out.drop⟩
theorem zMF(s:Bs)(i:Nat)(hi:i<8*s.length)(hs:s.length≤1000000)(h:St W0 w K L):
  Calls Tryz.prog 64 #[.string (bb s),.int .i64 i] w fun en w'=>en=.returned (.int .i64 (bitN ((zBj s).getD i false)))∧St W0 w' K L:=by
 have H:=hQd h;clear h;obtain⟨q,hq⟩:∃q,i / 8=q:=⟨_,rfl⟩;obtain⟨r,hr⟩:∃r,i % 8=r:=⟨_,rfl⟩;have t1:(i:Int).tdiv 8=(q:Int):=by rw[←hq];rfl
 have t2:(i:Int).tmod 8=(r:Int):=by rw[←hr];rfl
 have hqs:q<s.length:=by omega
 have hr8:r<8:=by omega
 have HB:=hQd (show(s[q].toNat / 2 ^ r) % 2=bitN ((zBj s).getD i false) by have:=zQj s i hi (by omega);simp only[hq,hr]at this;exact this);clear hq hr;go_enter Tryz.func64,Tryz.ntmps64;go_wp2;go_loopw [5,6] (fun c iv wr=>∃k:Nat,k≤r∧c=.int .i64 ((s[q].toNat / 2 ^ k:Nat):Int)∧iv=.int .i64 k∧St W0 wr K L) (fun _ iv _=>r - (intOf iv).toNat)
 case atStart=>exact⟨0,Nat.zero_le _,by have h8:=s[q].toNat_lt;simp;unfold wrap64;omega,rfl,H.out⟩
 case round=>
  obtain⟨k,hk,rfl,rfl,hst⟩:=hrel;clear H;have H:=hQd hst;clear hst;obtain⟨c,hc⟩:∃c,s[q].toNat / 2 ^ k=c:=⟨_,rfl⟩
  have hc8:c<256:=by
    have h1:s[q].toNat / 2 ^ k≤s[q].toNat:=Nat.div_le_self _ _;have h2:=s[q].toNat_lt
    omega
  rw[hc]
  by_cases hlt:k<r
  · have hki:(k:Int)<(r:Int):=by omega
    have HC:=hQd (show s[q].toNat / 2 ^ (k+1)=c / 2 by rw[Nat.pow_succ,←Nat.div_div_eq_div_mul,hc]);have t3:(c:Int).tdiv 2=((c / 2:Nat):Int):=rfl;clear hc;go_wp2;go_roundw
    case rel=>exact⟨k+1,hlt,by rw[HC.out];rfl,by go_num,H.out⟩
    case measure=>first|(simp[intOf];done)|(simp[intOf];omega)
  · have hkl:k=r:=by omega
    subst hkl;rw[hc]at HB;have t3:(c:Int).tmod 2=((c % 2:Nat):Int):=rfl;clear hc;go_wp2;go_ret;exact⟨by rw[←HB.out];rfl,H.out⟩
def zBP (l:List Bool):Array Value:=(l.map fun b=>Value.int .i64 (bitN b)).toArray
theorem zHh(l:List Bool)(j:Nat)(h:j<l.length):(zBP l)[j]? =some (.int .i64 (bitN (l.getD j false))):=by
 unfold zBP;rw[List.getElem?_toArray,List.getElem?_map,List.getD_eq_getElem?_getD,List.getElem?_eq_getElem h]
 rfl
theorem zL0(l:List Bool)(k:Nat)(b:Bool)(x:Int)(hx:((bitN b:Nat):Int)=x):(zBP l).setIfInBounds k (.int .i64 x)=zBP (l.set k b):=by
 subst hx;unfold zBP;rw[List.setIfInBounds_toArray,List.map_set]
theorem zKo(n:Nat):madeCells #[.int .i64 0] n=zBP (List.replicate n false):=by
 refine Array.ext_getElem? fun i=> ?_
 by_cases hi:i<n
 · rw[zHh _ _ (by simpa using hi),List.getD_eq_getElem?_getD,List.getElem?_replicate,if_pos hi];simp[madeCells,hi,Nat.mod_one,bitN]
 · rw[Array.getElem?_eq_none (by rw[size_madeCells];first|omega|(simp;omega)),Array.getElem?_eq_none (by simp[zBP];omega)]
theorem zOL{a b:List Bool}(hl:a.length=b.length)(h:∀x,x<a.length→a.getD x false=b.getD x false):a=b:=by
 refine List.ext_getElem hl fun i h1 h2=> ?_
 have:=h i h1;rw[List.getD_eq_getElem?_getD,List.getD_eq_getElem?_getD,List.getElem?_eq_getElem h1,List.getElem?_eq_getElem h2]at this;exact this
def zGG (s:Bs) (m:Nat):Nat→List Bool
  |0=>List.replicate m false
  |k+1=>(zGG s m k).set k ((zBj s).getD k false)
theorem zGh(s:Bs)(m k:Nat):(zGG s m k).length=m:=by
 induction k with
 |zero=>show(List.replicate _ _).length=_;rw[List.length_replicate]
 |succ k ih=>show(List.set _ _ _).length=_;rw[List.length_set,ih]
theorem zNt(s:Bs)(m k:Nat)(h:k≤m)(x:Nat):(zGG s m k).getD x false=if x<k then(zBj s).getD x false else false:=by
 induction k with
 |zero=>
  show(List.replicate _ _).getD x false=_
  rw[List.getD_eq_getElem?_getD,List.getElem?_replicate]
  split<;>rfl
 |succ k ih=>
  have ih:=ih (by omega)
  show((zGG s m k).set k _).getD x false=_
  rw[zHS _ _ _ _ (by rw[zGh];omega)]
  by_cases hx:x=k
  · subst hx;rw[if_pos rfl,if_pos (by omega)]
  · rw[if_neg hx,ih]
    by_cases h2:x<k
    · rw[if_pos h2,if_pos (by omega)]
    · rw[if_neg h2,if_neg (by omega)]
theorem zNs(s:Bs)(n:Nat)(h:8*s.length=n):zGG s (n+32) n=zDm s:=by
 refine zOL (by rw[zGh,zDD,h]) fun x _=> ?_
 rw[zNt _ _ _ (by omega),zIx]
 split
 · rfl
 · next hx=>
   rw[List.getD_eq_getElem?_getD,List.getElem?_eq_none (by rw[zCB];omega)]
   rfl
theorem St.bitCell{b:Nat}{l:List Bool}{T:TypeId}(h:St W0 w K (.raw b (zBP l) T::L))(k:Nat)(hk:k<l.length)(c:Bool)(hc:l.getD k false=c):w.cell? ⟨b,k,none⟩=some (.int .i64 (bitN c)):=by
 rw[h.rawCell k,zHh l k hk,hc]
theorem St.bitSet{b:Nat}{l:List Bool}{T:TypeId}(h:St W0 w K (.raw b (zBP l) T::L))(k:Nat)(c:Bool)(x:Int)(hx:((bitN c:Nat):Int)=x):St W0 (w.setCell ⟨b,k,none⟩ (.int .i64 x)) K (.raw b (zBP (l.set k c)) T::L):=by
 rw[←zL0 l k c x hx];exact h.rawSet k _
theorem zM5(n N:Nat)(h:n+32=N)(hn:N≤9000000)(w:World):(Instr.makeSlice 23 (.int .i64 (N:Int)) (.int .i64 (N:Int))).run Tryz.prog w=.ok (.slice (some ⟨w.heap.size,0,none⟩) N N) (w.alloc (.cells (zBP (List.replicate N false)) 3 (0,0))):=by
 rw[←zKo];exact run_make_row' 23 3 (.int .i64 0) 8 Tryz.underlying23 (by kernel_rfl) rfl .i64 .i64 N (by omega) (by omega) w
theorem zEH(n:Nat)(hn:n<32)(c:Bool)(hc:pw n=c)(h:St W0 w K L):
  Calls Tryz.prog 65 #[.int .i64 n] w fun en w'=>en=.returned (.int .i64 (bitN c))∧St W0 w' K L:=by
 subst hc;exact zJT n hn h
theorem zLw(s:Bs)(i:Nat)(hi:i<8*s.length)(hs:s.length≤1000000)(c:Bool)(hc:(zBj s).getD i false=c)(h:St W0 w K L):
  Calls Tryz.prog 64 #[.string (bb s),.int .i64 i] w fun en w'=>en=.returned (.int .i64 (bitN c))∧St W0 w' K L:=by
 subst hc;exact zMF s i hi hs h
theorem zLv(s:Bs)(hs:s.length≤1000000){W0 w:World}{K:Know}{L:List Res}(h:St W0 w K L):
  Calls Tryz.prog 31 #[.string (bb s)] w fun en w'=>en=.returned (.int .u32 (zAj 0#32 s).toNat)∧St W0 w' K L:=by
 have H:=hQd h;clear h;obtain⟨n,hn⟩:∃n,8*s.length=n:=⟨_,rfl⟩;obtain⟨N,hN⟩:∃N,n+32=N:=⟨_,rfl⟩;have e8:(8:Int)*(s.length:Int)=(n:Int):=by omega
 have eN:(n:Int)+32=(N:Int):=by omega
 have hn2:n≤8000000:=by omega
 have hmk:=zM5 n N hN (by omega);have HN:=hQd hn;have HN2:=hQd hN;have HS:=hQd hs;clear hn hN hs;go_enter Tryz.func31,Tryz.ntmps31;go_wp2;have hal:=H.out.allocRaw (zBP (List.replicate N false)) 3;obtain⟨bL,hbL⟩:∃b,w.heap.size=b:=⟨_,rfl⟩;rw[hbL]at hal ⊢;clear H hmk hbL;have H:=hQd hal;clear hal;go_loopw [5] (fun iv wr=>∃k:Nat,k≤n∧iv=.int .i64 k∧St W0 wr K (.raw bL (zBP (zGG s N k)) 3::L)) (fun iv _=>n - (intOf iv).toNat)
 case atStart=>exact⟨0,Nat.zero_le _,rfl,H.out⟩
 case round=>
  obtain⟨k,hk,rfl,hst⟩:=hrel;clear H;have H:=hQd hst;clear hst
  by_cases hlt:k<n
  · have hki:(k:Int)<(n:Int):=by omega
    have hkN:(k:Int)<(N:Int):=by omega
    have HI:=hQd (show k<8*s.length by rw[HN.out];exact hlt);have HI2:=hQd (show k<(zGG s N k).length by rw[zGh];omega);obtain⟨c,hc⟩:∃c,(zBj s).getD k false=c:=⟨_,rfl⟩;have HC:=hQd hc;clear hc;go_wp2_with (go_at_call 64;(with_reducible refine(zLw s k HI.out HS.out c HC.out H.out).mono ?_);rintro e wn ⟨rfl,h⟩;replace H:=hQd h;clear h;have c0:=H.out.bitCell k HI2.out _ rfl;have f0:=H.out.rawFree k);go_roundw
    case rel=>
     have e:zGG s N (k+1)=(zGG s N k).set k c:=by rw[←HC.out];rfl
     exact⟨k+1,hlt,by go_num,by rw[e];exact H.out.bitSet k c _ rfl⟩
    case measure=>first|(simp[intOf];done)|(simp[intOf];omega)
  · obtain rfl:n=k:=by omega
    have h:=H.out;have e:zGG s N n=zDm s:=by have:=zNs s n HN.out;rw[HN2.out]at this;exact this
    rw[e]at h;have HRL:=hQd (show(zDm s).length=N by rw[zDD,HN.out,HN2.out]);clear H;have H:=hQd h;clear h;clear hlt e hk;have hN2:(32:Int)≤(N:Int):=by omega
    go_wp2;go_loopw [6] (fun iv wr=>∃k:Nat,k≤32∧iv=.int .i64 k∧St W0 wr K (.raw bL (zBP (zB2 k (zDm s))) 3::L)) (fun iv _=>32 - (intOf iv).toNat)
    case atStart=>exact⟨0,Nat.zero_le _,rfl,H.out⟩
    case round=>
     obtain⟨k,hk,rfl,hst⟩:=hrel;clear H;have H:=hQd hst;clear hst
     by_cases hlt:k<32
     · have hki:(k:Int)<32:=by omega
       have hkN:(k:Int)<(N:Int):=by omega
       obtain⟨c,hc⟩:∃c,(zB2 k (zDm s)).getD k false=c:=⟨_,rfl⟩;have hkl:k<(zB2 k (zDm s)).length:=by rw[zCY,HRL.out];omega
       have c0:=H.out.bitCell k hkl c hc;have f0:=H.out.rawFree k;have HE:=hQd (show zB2 (k+1) (zDm s)=(zB2 k (zDm s)).set k (!c) by rw[←hc];rfl);clear hc hkl
       cases c
       all_goals
        simp only[bitN,Bool.false_eq_true,if_false,if_true]at c0;go_wp2;go_roundw
        case rel=>exact⟨k+1,hlt,by go_num,by rw[HE.out];exact H.out.bitSet k _ _ rfl⟩
        case measure=>first|(simp[intOf];done)|(simp[intOf];omega)
     · obtain rfl:k=32:=by omega
       obtain⟨M,hM⟩:∃M,zB2 32 (zDm s)=M:=⟨_,rfl⟩;have h:=H.out;rw[hM]at h;have HML:=hQd (show M.length=N by rw[←hM,zCY];exact HRL.out);have HM:=hQd hM;clear H hlt hk hM;have H:=hQd h;clear h;go_wp2;go_loopw [7] (fun iv wr=>∃k:Nat,k≤n∧iv=.int .i64 k∧St W0 wr K (.raw bL (zBP (zBY M k)) 3::L)) (fun iv _=>n - (intOf iv).toNat)
       case atStart=>exact⟨0,Nat.zero_le _,rfl,H.out⟩
       case round=>
        obtain⟨i,hi,rfl,hst⟩:=hrel;clear H;have H:=hQd hst;clear hst
        by_cases hlt:i<n
        · have hki:(i:Int)<(n:Int):=by omega
          have hkN:(i:Int)<(N:Int):=by omega
          obtain⟨c,hc⟩:∃c,(zBY M i).getD i false=c:=⟨_,rfl⟩;have c0:=H.out.bitCell i (by rw[zDL,HML.out];omega) c hc
          cases c
          · have HE:=hQd (show zBY M (i+1)=zBY M i by show(if (zBY M i).getD i false then _ else _:List Bool)=_;rw[hc];rfl);clear hc;simp only[bitN,Bool.false_eq_true,if_false,if_true]at c0;go_wp2;go_roundw
            case rel=>exact⟨i+1,hlt,by go_num,by rw[HE.out];exact H.out⟩
            case measure=>first|(simp[intOf];done)|(simp[intOf];omega)
          · have HE:=hQd (show zBY M (i+1)=zDd (zBY M i) i 32 by show(if (zBY M i).getD i false then _ else _:List Bool)=_;rw[hc];rfl);clear hc;simp only[bitN,Bool.false_eq_true,if_false,if_true]at c0;obtain⟨B,hB⟩:∃B,zBY M i=B:=⟨_,rfl⟩;have h:=H.out;rw[hB]at HE h;have HBL:=hQd (show B.length=N by rw[←hB,zDL];exact HML.out);clear H hB;have H:=hQd h;clear h;go_wp2;clear c0;go_loopw [8] (fun kv wr=>∃q:Nat,q≤32∧kv=.int .i64 ((q:Int)+1)∧St W0 wr K (.raw bL (zBP (zDd B i q)) 3::L)) (fun kv _=>33 - (intOf kv).toNat)
            case atStart=>exact⟨0,Nat.zero_le _,rfl,H.out⟩
            case round=>
             obtain⟨q,hq,rfl,hst⟩:=hrel;clear H;have H:=hQd hst;clear hst
             by_cases hlt2:q<32
             · obtain⟨p,hp⟩:∃p,31 - q=p:=⟨_,rfl⟩;obtain⟨x,hx⟩:∃x,i+(q+1)=x:=⟨_,rfl⟩;obtain⟨kk,hkk⟩:∃kk,q+1=kk:=⟨_,rfl⟩;have e1:(q:Int)+1=(kk:Int):=by omega
               rw[e1];have e2:(i:Int)+(kk:Int)=(x:Int):=by omega
               have e3:(32:Int) - (kk:Int)=(p:Int):=by omega
               have b1:(kk:Int)≤32:=by omega
               have b2:(x:Int)<(N:Int):=by omega
               have b3:(p:Int)<32:=by omega
               have HX:=hQd (show x<(zDd B i q).length by rw[zGc,HBL.out];omega);obtain⟨a,ha⟩:∃a,(zDd B i q).getD x false=a:=⟨_,rfl⟩;obtain⟨d,hd⟩:∃d,pw p=d:=⟨_,rfl⟩;have HP:=hQd (show p<32 by omega);have HA:=hQd ha;have HD:=hQd hd
               have HN3:=hQd (show zDd B i (q+1)=(zDd B i q).set x (a ^^ d) by
                show(zDd B i q).set (i+(q+1)) ((zDd B i q).getD (i+(q+1)) false ^^ pw (31 - q))=_
                rw[hx,hp,ha,hd])
               have HQ:=hQd e1;have h1:(bitN a:Int)≤1:=by cases a<;>decide
               have h2:(bitN d:Int)≤1:=by cases d<;>decide
               have h3:((bitN a:Int)+(bitN d:Int)).tmod 2=(bitN (a ^^ d):Int):=by cases a<;>cases d<;>rfl
               obtain⟨va,hva⟩:∃v,bitN a=v:=⟨_,rfl⟩;obtain⟨vd,hvd⟩:∃v,bitN d=v:=⟨_,rfl⟩;obtain⟨vx,hvx⟩:∃v,bitN (a ^^ d)=v:=⟨_,rfl⟩;rw[hva]at h1 h3;rw[hvd]at h2 h3;rw[hvx]at h3;have HVA:=hQd hva;have HVD:=hQd hvd;have HVX:=hQd (show((bitN (a ^^ d):Nat):Int)=(vx:Int) by rw[hvx]);have w1:IntKind.i64.wrap (x:Int)=(x:Int):=IntWalk.i64_in _ (by omega);have w2:IntKind.i64.wrap (p:Int)=(p:Int):=IntWalk.i64_in _ (by omega);have w3:IntKind.i64.wrap ((va:Int)+(vd:Int))=(va:Int)+(vd:Int):=IntWalk.i64_in _ (by omega);have h4:((bitN (a ^^ d):Nat):Int)≤1:=by cases a<;>cases d<;>decide
               rw[HVX.out]at h4;have w4:IntKind.i64.wrap (vx:Int)=(vx:Int):=IntWalk.i64_in _ (by omega);clear hp hx hkk ha hd hva hvd hvx;go_upto_region 18 with (fail);have hs:=H.out.drew;refine wp_region_held_drew (S:=fun _=>True) (by kernel_rfl) trivial (fun hHeld=> ?_);refine tQ 0 ⟨some 54,.move (.tmp 4),23,_,_,none⟩ ?_;simp only[Act.put,sA,sB,sC];refine tQ 1 ⟨some 55,.move (.tmp 7),3,_,_,none⟩ ?_;simp only[Act.put,sA,sB,sC];refine tQ 2 ⟨some 56,.move (.tmp 8),3,_,_,none⟩ ?_;simp only[Act.put,sA,sB,sC];refine tQ 3 ⟨some 57,.binOp .add 3 (.tmp 55) (.tmp 56) 3,3,_,_,none⟩ ?_;simp only[Act.put,sA,sB,sC];refine tQ 4 ⟨some 58,.move (.tmp 4),23,_,_,none⟩ ?_;simp only[Act.put,sA,sB,sC];refine tQ 5 ⟨some 59,.move (.tmp 7),3,_,_,none⟩ ?_;simp only[Act.put,sA,sB,sC];refine tQ 6 ⟨some 60,.move (.tmp 8),3,_,_,none⟩ ?_;simp only[Act.put,sA,sB,sC];refine tQ 7 ⟨some 61,.binOp .add 3 (.tmp 59) (.tmp 60) 3,3,_,_,none⟩ ?_;simp only[Act.put,sA,sB,sC];refine tQ 8 ⟨some 62,.indexAddr 23 (.tmp 58) (.tmp 61),0,_,_,none⟩ ?_;simp only[Act.put,sA,sB,sC];refine tQ 10 ⟨some 64,.move (.tmp 8),3,_,_,none⟩ ?_;simp only[Act.put,sA,sB,sC];refine tQ 11 ⟨some 65,.binOp .sub 3 (.const (Value.int IntKind.i64 32)) (.tmp 64) 3,3,_,_,none⟩ ?_;simp only[Act.put,sA,sB,sC];refine wpAnyH_ready (rs:=[9,12]) (by kernel_rfl) (by simp) (AllReadyH.cons (o:=⟨some 63,.load 3 (.tmp 62),3,_,_,none⟩) rfl (fun KK hK=> ?_) (AllReadyH.cons (o:=⟨some 66,.call {callee:=.value (.func 65),args:= #[.tmp 65],argTypes:= #[3]},3,_,_,none⟩) rfl (fun KK hK=> ?_) AllReadyH.nil))
               focus
                have c0:=hs.bitCell x HX.out a HA.out;rw[HVA.out]at c0;go_simp;refine hK.out _ _ (trivial) (fun hHeld=> ?_);clear hK KK
                try simp only[Act.put,sA,sB,sC]
                refine wpAnyH_ready (rs:=[12]) (by kernel_rfl) (by simp) (AllReadyH.cons (o:=⟨some 66,.call {callee:=.value (.func 65),args:= #[.tmp 65],argTypes:= #[3]},3,_,_,none⟩) rfl (fun KK hK=> ?_) AllReadyH.nil);go_simp;go_at_call 65;with_reducible refine(zEH p HP.out d HD.out hs).mono ?_;rw[HVD.out];rintro e wq ⟨rfl,hs⟩
               rotate_left
               focus
                go_simp;go_at_call 65;with_reducible refine(zEH p HP.out d HD.out hs).mono ?_;rw[HVD.out];rintro e wq ⟨rfl,hs⟩;refine hK.out _ _ (trivial) (fun hHeld=> ?_);clear hK KK
                try simp only[Act.put,sA,sB,sC]
                refine wpAnyH_ready (rs:=[9]) (by kernel_rfl) (by simp) (AllReadyH.cons (o:=⟨some 63,.load 3 (.tmp 62),3,_,_,none⟩) rfl (fun KK hK=> ?_) AllReadyH.nil);have c0:=hs.bitCell x HX.out a HA.out;rw[HVA.out]at c0;go_simp
               all_goals
                refine hK.out _ _ (trivial) (fun hHeld=> ?_);clear hK KK
                try simp only[Act.put,sA,sB,sC]
                refine tQ 13 ⟨some 67,.binOp .add 3 (.tmp 63) (.tmp 66) 3,3,_,_,none⟩ ?_;simp only[Act.put,sA,sB,sC];refine tQ 14 ⟨some 68,.binOp .rem 3 (.tmp 67) (.const (Value.int IntKind.i64 2)) 3,3,_,_,none⟩ ?_;simp only[Act.put,sA,sB,sC];refine tQ 15 ⟨some 69,.indexAddr 23 (.tmp 54) (.tmp 57),0,_,_,none⟩ ?_;simp only[Act.put,sA,sB,sC];refine wpAnyH_ready (rs:=[16]) (by kernel_rfl) (by simp) (AllReadyH.cons (o:=⟨none,.store 3 (.tmp 69) (.tmp 68),0,_,_,none⟩) rfl (fun KK hK=> ?_) AllReadyH.nil);have f0:=hs.rawFree x;have c0:=hs.bitCell x HX.out a HA.out;go_simp;refine hK.out _ _ (trivial) (fun hHeld=> ?_);clear hK KK
                try simp only[Act.put,sA,sB,sC]
                have hs:=hs.bitSet x (a ^^ d) (vx:Int) HVX.out;refine wpAnyH_done (by kernel_rfl) ?_ _;rw[←HN3.out]at hs;go_wp2_with fail;go_roundw
                case rel=>
                 clear hHeld c0 f0;exact⟨_,_,_,_,_,_,_,_,_,_,_,_,_,_,_,_,_,_,_,_,_,⟨q+1,hlt2,by rw[←HQ.out];go_num,hs⟩,rfl⟩
                case measure=>first|(simp[intOf];done)|(simp[intOf];omega)
             · obtain rfl:q=32:=by omega
               have h:=H.out;rw[←HE.out]at h;clear H;have H:=hQd h;clear h;go_wp2;go_roundw
               case rel=>exact⟨i+1,hlt,by go_num,H.out⟩
               case measure=>first|(simp[intOf];done)|(simp[intOf];omega)
        · obtain rfl:n=i:=by omega
          have HF:=hQd (show zBp (fun j=> !(zBY M n).getD (n+j) false) 32=(zAj 0#32 s).toNat by
            have:=zKi s;unfold zHX at this;rw[HN.out,HM.out]at this
            exact this)
          obtain⟨D,hD⟩:∃D,zBY M n=D:=⟨_,rfl⟩;have h:=H.out;rw[hD]at HF h;have HDL:=hQd (show D.length=N by rw[←hD,zDL];exact HML.out);clear H hD;have H:=hQd h;clear h hlt;go_wp2;go_loopw [10,9] (fun iv ov wr=>∃j:Nat,j≤32∧iv=.int .i64 ((j:Int) - 1)∧ov=.int .u32 (zBp (fun j=> !D.getD (n+j) false) (32 - j):Nat)∧St W0 wr K (.raw bL (zBP (D)) 3::L)) (fun iv _ _=>(intOf iv+1).toNat)
          case atStart=>exact⟨32,Nat.le_refl _,rfl,rfl,H.out⟩
          case round=>
            obtain⟨j,hj,rfl,rfl,hst⟩:=hrel;clear H;have H:=hQd hst;clear hst
            match j with
            |0=>
             rw[show(((0:Nat):Int) - 1)= -1 from rfl,show 32 - 0=32 from rfl,HF.out];go_wp2;go_ret;exact⟨rfl,H.out.drop⟩
            |j+1=>
             rw[show(((j+1:Nat):Int) - 1)=(j:Int) by omega];obtain⟨x,hx⟩:∃x,n+j=x:=⟨_,rfl⟩;have e2:(n:Int)+(j:Int)=(x:Int):=by omega
             have b2:(x:Int)<(N:Int):=by omega
             have b1:(j:Int)<32:=by omega
             obtain⟨c,hc⟩:∃c,D.getD x false=c:=⟨_,rfl⟩;have c0:=H.out.bitCell x (by rw[HDL.out];have:=HN2.out;omega) c hc;obtain⟨R,hR⟩:∃R,zBp (fun j=> !D.getD (n+j) false) (32 - (j+1))=R:=⟨_,rfl⟩
             have HR:=hQd (show zBp (fun j=> !D.getD (n+j) false) (32 - j)=R*2+(if c then 0 else 1) by
               rw[show 32 - j=32 - (j+1)+1 by omega]
               show zBp _ _*2+(if !D.getD (n+(31 - (32 - (j+1)))) false then 1 else 0)=_
               rw[hR,show 31 - (32 - (j+1))=j by omega,hx,hc]
               cases c<;>rfl)
             have hb:R<2147483648:=by
               have h1:=zGW (fun j=> !D.getD (n+j) false) (32 - (j+1));rw[hR]at h1;have h2:2 ^ (32 - (j+1))≤2 ^ 31:=Nat.pow_le_pow_right (by decide) (by omega)
               omega
             rw[hR];clear hx hc hR
             cases c
             all_goals
               simp only[bitN,Bool.false_eq_true,if_false,if_true]at c0 HR;go_wp2;go_roundw
               case rel=>exact⟨j,by omega,rfl,by rw[HR.out];go_num,H.out⟩
               case measure=>first|(simp[intOf];done)|(simp[intOf];omega)
end Go.Proofs.YtenojajfacacoaaGreatDoor
