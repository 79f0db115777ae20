/- A text. -/
import Derived.Test.YteldcbljedeeiaaGreatDoorGWholeFramesCard6
import Derived.IntWalk
import Derived.RegionTactic
import Derived.Deep.DeepCutAuto
import Derived.Deep.RegionHeld3
import Derived.Test.YteldcbljedeeiaaGreatDoorGWholeFramesCard3
import Derived.Test.YteldcbljedeeiaaGreatDoorGWholeFramesCard1
import Derived.Test.YteldcbljedeeiaaGreatDoorGWholeFramesCard2
import Derived.Deep.RegionWith
import Derived.Test.YteldcbljedeeiaaGreatDoorGWholeFramesCard4
import Derived.Deep.MidRow
/- A text. -/
namespace Go.Proofs.YteldcbljedeeiaaGreatDoor
open Go.RowKit
set_option maxRecDepth 100000
set_option maxHeartbeats 8000000
open Go.Value renaming bool→U, string→Z, slice→V, int→I, pointer→Ja
open Go.Ending renaming returned→Y
open Go.IntKind renaming i64→O
open _root_.Go.Proofs.Tryz renaming prog→Jb
open _root_.Nat renaming zero_le→Jd, add_assoc→Jm
open _root_.List renaming take_succ_eq_append_getElem→Jf, length_cons→Jn, length_append→Jc, append_nil→Jp, length_drop→Jh, drop_drop→Jk, append_assoc→Je, flatMap_cons→Jg, getElem_mem→Ji, length_map→Jj, take→Jl, drop→Jo
set_option maxHeartbeats 8000000
set_option maxRecDepth 100000
variable {W0 w:World}{K:Know}{L:List Res}
theorem zA2(n lo hi:Int)(r:Bool)(hr:decide (lo≤n∧n≤hi)=r)(h:St W0 w K L):
 Calls Jb 197 #[I O n,I O lo,I O hi] w fun en w'=>en=Y (U r)∧St W0 w' K L:=by
 have H:=hQd h;clear h
 by_cases h1:lo≤n
 ·have d1:decide (lo≤n)=true:=decide_eq_true h1
  by_cases h2:n≤hi
  ·have d2:decide (n≤hi)=true:=decide_eq_true h2;obtain rfl:true=r:=(decide_eq_true ⟨h1,h2⟩).symm.trans hr;clear h1 h2;go_enter Tryz.func197,Tryz.ntmps197;go_wp2;go_ret;exact⟨rfl,H.out⟩
  ·have d2:decide (n≤hi)=false:=decide_eq_false h2;obtain rfl:false=r:=(decide_eq_false (fun x=>h2 x.2)).symm.trans hr;clear h1 h2;go_enter Tryz.func197,Tryz.ntmps197;go_wp2;go_ret;exact⟨rfl,H.out⟩
 ·have d1:decide (lo≤n)=false:=decide_eq_false h1;obtain rfl:false=r:=(decide_eq_false (fun x=>h1 x.1)).symm.trans hr;clear h1;go_enter Tryz.func197,Tryz.ntmps197;go_wp2;go_ret;exact⟨rfl,H.out⟩
theorem zq3{p:Prop}(h:p:=by
 go_wp2_with (first
 |(go_at_call 197;(with_reducible refine(zA2 leader (-1) 2147483647 _ HW1.out H.out).zM ?_);clear H;intro wn H;obtain⟨x0,x1,x2,x3,x4,x5,x6,x7,x8,x9,x10,x11,y0,y1,y2,y3,y4,y5,y6,y7,y8,y9,y10,y11⟩:=zAf (b:=hb) (H.out))
 |(go_at_call 197;(with_reducible refine(zA2 last 0 2147483647 _ HW2.out H.out).zM ?_);clear H;intro wn H;obtain⟨x0,x1,x2,x3,x4,x5,x6,x7,x8,x9,x10,x11,y0,y1,y2,y3,y4,y5,y6,y7,y8,y9,y10,y11⟩:=zAf (b:=hb) (H.out)))
 go_ret;exact⟨rfl,H.out.drop⟩):p:=h
theorem zBN(base leader:Int)(app txn ctl:Bool)(last first maxt prod epoch sq:Int)(rv:Value)(r:Bool)(hr:decide (0≤base∧(-1≤leader∧leader≤2147483647)∧(0≤last∧last≤2147483647)∧base≤9223372036854775807 - last∧0≤first∧0≤maxt)=r)(h:St W0 w K L):
 Calls Jb 135 #[.agg #[I O base,I O leader,U app,U txn,U ctl,I O last,I O first,I O maxt,I O prod,I O epoch,I O sq,rv]] w fun en w'=>en=Y (U r)∧St W0 w' K L:=by
 have h1:=h.allocRaw #[I O base,I O leader,U app,U txn,U ctl,I O last,I O first,I O maxt,I O prod,I O epoch,I O sq,rv] 101;obtain⟨hb,hhb⟩:=eX w.heap.size;rw[hhb]at h1;obtain⟨x0,x1,x2,x3,x4,x5,x6,x7,x8,x9,x10,x11,y0,y1,y2,y3,y4,y5,y6,y7,y8,y9,y10,y11⟩:=zAf (b:=hb) (h1);have H:=hQd h1;clear h h1
 by_cases c0:0≤base
 case neg=>
  obtain rfl:false=r:=by rw[←hr];exact(decide_eq_false (fun x=>c0 x.1)).symm
  have d0:decide (0≤base)=false:=decide_eq_false c0;clear c0;go_enter Tryz.func135,Tryz.ntmps135
  exact zq3
 by_cases c1: -1≤leader∧leader≤2147483647
 case neg=>
  obtain rfl:false=r:=by rw[←hr];exact(decide_eq_false (fun x=>c1 x.2.1)).symm
  have d0:decide (0≤base)=true:=decide_eq_true c0;have HW1:=hQd (show decide (-1≤leader∧leader≤2147483647)=false from decide_eq_false c1);clear c0 c1;go_enter Tryz.func135,Tryz.ntmps135
  exact zq3
 by_cases c2:0≤last∧last≤2147483647
 case neg=>
  obtain rfl:false=r:=by rw[←hr];exact(decide_eq_false (fun x=>c2 x.2.2.1)).symm
  have d0:decide (0≤base)=true:=decide_eq_true c0;have HW1:=hQd (show decide (-1≤leader∧leader≤2147483647)=true from decide_eq_true c1);have HW2:=hQd (show decide (0≤last∧last≤2147483647)=false from decide_eq_false c2);clear c0 c1 c2;go_enter Tryz.func135,Tryz.ntmps135
  exact zq3
 by_cases c3:base≤9223372036854775807 - last
 case neg=>
  obtain rfl:false=r:=by rw[←hr];exact(decide_eq_false (fun x=>c3 x.2.2.2.1)).symm
  have d0:decide (0≤base)=true:=decide_eq_true c0;have HW1:=hQd (show decide (-1≤leader∧leader≤2147483647)=true from decide_eq_true c1);have HW2:=hQd (show decide (0≤last∧last≤2147483647)=true from decide_eq_true c2);obtain⟨ml,hml⟩:=eX (9223372036854775807 - last);have wl:wrap64 (9223372036854775807 - last)=ml:=by rw[←hml];unfold wrap64;omega
  have wl2:IntKind.i64.wrap (9223372036854775807 - last)=ml:=by rw[←hml];exact IntWalk.i64_in _ oM
  have d3:decide (base≤ml)=false:=by rw[←hml];exact decide_eq_false c3
  clear c0 c1 c2 c3 hml;go_enter Tryz.func135,Tryz.ntmps135
  exact zq3
 by_cases c4:0≤first
 case neg=>
  obtain rfl:false=r:=by rw[←hr];exact(decide_eq_false (fun x=>c4 x.2.2.2.2.1)).symm
  have d0:decide (0≤base)=true:=decide_eq_true c0;have HW1:=hQd (show decide (-1≤leader∧leader≤2147483647)=true from decide_eq_true c1);have HW2:=hQd (show decide (0≤last∧last≤2147483647)=true from decide_eq_true c2);obtain⟨ml,hml⟩:=eX (9223372036854775807 - last);have wl:wrap64 (9223372036854775807 - last)=ml:=by rw[←hml];unfold wrap64;omega
  have wl2:IntKind.i64.wrap (9223372036854775807 - last)=ml:=by rw[←hml];exact IntWalk.i64_in _ oM
  have d3:decide (base≤ml)=true:=by rw[←hml];exact decide_eq_true c3
  have d4:decide (0≤first)=false:=decide_eq_false c4;clear c0 c1 c2 c3 c4 hml;go_enter Tryz.func135,Tryz.ntmps135
  exact zq3
 by_cases c5:0≤maxt
 case neg=>
  obtain rfl:false=r:=by rw[←hr];exact(decide_eq_false (fun x=>c5 x.2.2.2.2.2)).symm
  have d0:decide (0≤base)=true:=decide_eq_true c0;have HW1:=hQd (show decide (-1≤leader∧leader≤2147483647)=true from decide_eq_true c1);have HW2:=hQd (show decide (0≤last∧last≤2147483647)=true from decide_eq_true c2);obtain⟨ml,hml⟩:=eX (9223372036854775807 - last);have wl:wrap64 (9223372036854775807 - last)=ml:=by rw[←hml];unfold wrap64;omega
  have wl2:IntKind.i64.wrap (9223372036854775807 - last)=ml:=by rw[←hml];exact IntWalk.i64_in _ oM
  have d3:decide (base≤ml)=true:=by rw[←hml];exact decide_eq_true c3
  have d4:decide (0≤first)=true:=decide_eq_true c4;have d5:decide (0≤maxt)=false:=decide_eq_false c5;clear c0 c1 c2 c3 c4 c5 hml;go_enter Tryz.func135,Tryz.ntmps135
  exact zq3
 obtain rfl:true=r:=by rw[←hr];exact(decide_eq_true ⟨c0,c1,c2,c3,c4,c5⟩).symm
 have d0:decide (0≤base)=true:=decide_eq_true c0;have HW1:=hQd (show decide (-1≤leader∧leader≤2147483647)=true from decide_eq_true c1);have HW2:=hQd (show decide (0≤last∧last≤2147483647)=true from decide_eq_true c2);obtain⟨ml,hml⟩:=eX (9223372036854775807 - last);have wl:wrap64 (9223372036854775807 - last)=ml:=by rw[←hml];unfold wrap64;omega
 have wl2:IntKind.i64.wrap (9223372036854775807 - last)=ml:=by rw[←hml];exact IntWalk.i64_in _ oM
 have d3:decide (base≤ml)=true:=by rw[←hml];exact decide_eq_true c3
 have d4:decide (0≤first)=true:=decide_eq_true c4;have d5:decide (0≤maxt)=true:=decide_eq_true c5;clear c0 c1 c2 c3 c4 c5 hml;go_enter Tryz.func135,Tryz.ntmps135
 go_wp2_with (first
 |(go_at_call 197;(with_reducible refine(zA2 leader (-1) 2147483647 _ HW1.out H.out).zM ?_);clear H;intro wn H;obtain⟨x0,x1,x2,x3,x4,x5,x6,x7,x8,x9,x10,x11,y0,y1,y2,y3,y4,y5,y6,y7,y8,y9,y10,y11⟩:=zAf (b:=hb) (H.out))
 |(go_at_call 197;(with_reducible refine(zA2 last 0 2147483647 _ HW2.out H.out).zM ?_);clear H;intro wn H;obtain⟨x0,x1,x2,x3,x4,x5,x6,x7,x8,x9,x10,x11,y0,y1,y2,y3,y4,y5,y6,y7,y8,y9,y10,y11⟩:=zAf (b:=hb) (H.out)))
 go_ret;exact⟨rfl,H.out.drop⟩
theorem zCI(base leader:Int)(app txn ctl:Bool)(last first maxt prod epoch sq:Int)(rv:Value)(r:Bool)(hr:(if prod= -1 then decide (epoch= -1∧sq= -1∧txn=false)else if prod<0∨¬(0≤epoch∧epoch≤32767)then false else if ctl then decide (sq= -1)else decide (0≤sq∧sq≤2147483647))=r)(h:St W0 w K L):
 Calls Jb 136 #[.agg #[I O base,I O leader,U app,U txn,U ctl,I O last,I O first,I O maxt,I O prod,I O epoch,I O sq,rv]] w fun en w'=>en=Y (U r)∧St W0 w' K L:=by
 have h1:=h.allocRaw #[I O base,I O leader,U app,U txn,U ctl,I O last,I O first,I O maxt,I O prod,I O epoch,I O sq,rv] 101;obtain⟨hb,hhb⟩:=eX w.heap.size;rw[hhb]at h1;obtain⟨x0,x1,x2,x3,x4,x5,x6,x7,x8,x9,x10,x11,y0,y1,y2,y3,y4,y5,y6,y7,y8,y9,y10,y11⟩:=zAf (b:=hb) (h1);have H:=hQd h1;clear h h1
 by_cases c0:prod= -1
 ·rw[if_pos c0]at hr;have b0:(prod== -1)=true:=by rw[c0];rfl
  subst c0
  by_cases c1:epoch= -1
  ·subst c1
   by_cases c2:sq= -1
   ·subst c2;obtain rfl:(!txn)=r:=by rw[←hr];cases txn<;>rfl
    clear hr;go_enter Tryz.func136,Tryz.ntmps136;go_wp2;go_ret;exact⟨rfl,H.out.drop⟩
   ·obtain rfl:false=r:=by rw[←hr];exact(decide_eq_false (fun x=>c2 x.2.1)).symm
    have b2:(sq== -1)=false:=by rw[beq_eq_false_iff_ne];exact c2
    clear hr c2;go_enter Tryz.func136,Tryz.ntmps136;go_wp2;go_ret;exact⟨rfl,H.out.drop⟩
  ·obtain rfl:false=r:=by rw[←hr];exact(decide_eq_false (fun x=>c1 x.1)).symm
   have b1:(epoch== -1)=false:=by rw[beq_eq_false_iff_ne];exact c1
   clear hr c1;go_enter Tryz.func136,Tryz.ntmps136;go_wp2;go_ret;exact⟨rfl,H.out.drop⟩
 ·rw[if_neg c0]at hr;have b0:(prod== -1)=false:=by rw[beq_eq_false_iff_ne];exact c0
  by_cases c1:prod<0
  ·rw[if_pos (.inl c1)]at hr;subst hr;have d1:decide (prod<0)=true:=decide_eq_true c1;clear c0 c1;go_enter Tryz.func136,Tryz.ntmps136;go_wp2;go_ret;exact⟨rfl,H.out.drop⟩
  ·have d1:decide (prod<0)=false:=decide_eq_false c1
   by_cases c2:0≤epoch∧epoch≤32767
   ·rw[if_neg (by rintro(x|x);exact c1 x;exact x c2)]at hr;have HE:=hQd (show decide (0≤epoch∧epoch≤32767)=true from decide_eq_true c2);clear c0 c1 c2
    cases ctl with
    |true=>
     obtain rfl:(sq== -1)=r:=by rw[←hr];rfl
     clear hr;go_enter Tryz.func136,Tryz.ntmps136;go_wp2_with (first|(go_at_call 197;(with_reducible refine(zA2 epoch 0 32767 _ HE.out H.out).zM ?_);clear H;intro wn H;obtain⟨x0,x1,x2,x3,x4,x5,x6,x7,x8,x9,x10,x11,y0,y1,y2,y3,y4,y5,y6,y7,y8,y9,y10,y11⟩:=zAf (b:=hb) (H.out))|fail);go_ret;exact⟨rfl,H.out.drop⟩
    |false=>
     have HS:=hQd (show decide (0≤sq∧sq≤2147483647)=r from hr);clear hr;go_enter Tryz.func136,Tryz.ntmps136;go_wp2_with (first|(go_at_call 197;(with_reducible refine(zA2 epoch 0 32767 _ HE.out H.out).zM ?_);clear H;intro wn H;obtain⟨x0,x1,x2,x3,x4,x5,x6,x7,x8,x9,x10,x11,y0,y1,y2,y3,y4,y5,y6,y7,y8,y9,y10,y11⟩:=zAf (b:=hb) (H.out))|(go_at_call 197;(with_reducible refine(zA2 sq 0 2147483647 _ HS.out H.out).zM ?_);clear H;intro wn H;obtain⟨x0,x1,x2,x3,x4,x5,x6,x7,x8,x9,x10,x11,y0,y1,y2,y3,y4,y5,y6,y7,y8,y9,y10,y11⟩:=zAf (b:=hb) (H.out)));go_ret;exact⟨rfl,H.out.drop⟩
   ·rw[if_pos (.inr c2)]at hr;subst hr;have HE:=hQd (show decide (0≤epoch∧epoch≤32767)=false from decide_eq_false c2);clear c0 c1 c2;go_enter Tryz.func136,Tryz.ntmps136;go_wp2_with (first|(go_at_call 197;(with_reducible refine(zA2 epoch 0 32767 _ HE.out H.out).zM ?_);clear H;intro wn H;obtain⟨x0,x1,x2,x3,x4,x5,x6,x7,x8,x9,x10,x11,y0,y1,y2,y3,y4,y5,y6,y7,y8,y9,y10,y11⟩:=zAf (b:=hb) (H.out))|fail);go_ret;exact⟨rfl,H.out.drop⟩
theorem zEM(base leader:Int)(app txn ctl:Bool)(last first maxt prod epoch sq:Int)(l:List (RecS×Value))(q:Option Addr)(cap:Nat)(e:Int)(he:BatS.rows ⟨base,leader,app,txn,ctl,last,first,maxt,prod,epoch,sq,l.map (·.1)⟩=e)(hf:0≤first∧first≤9223372036854775807)(hfit:FitB l)(hll:l.length≤1000000){W0 w:World}{K:Know}{L:List Res}(hk:K.has (Know.recs (V q l.length cap) l))(h:St W0 w K L):
 Calls Jb 138 #[.agg #[I O base,I O leader,U app,U txn,U ctl,I O last,I O first,I O maxt,I O prod,I O epoch,I O sq,V q l.length cap]] w fun en w'=>en=Y (I O e)∧St W0 w' K L:=by
 obtain⟨tot,htot⟩:=eX (zOd first last (l.map (·.1)) (-1) first);have HE:=hQd (show zSX app maxt tot=e by rw[←he,←htot];rfl);have HT:=hQd htot;have HK:=hQd hk;have HFT:=hQd hfit;have HF:=hQd hf;obtain⟨nf,hnf⟩:=eX (-first);obtain⟨mf,hmf⟩:=eX (9223372036854775807 - first);have HNF:=hQd hnf;have HMF:=hQd hmf;have n1:wrap64 (-first)=nf:=by rw[←hnf];unfold wrap64;omega
 have n2:IntKind.i64.wrap (-first)=nf:=by rw[←hnf];exact IntWalk.i64_in _ oM
 have m1:wrap64 (9223372036854775807 - first)=mf:=by rw[←hmf];unfold wrap64;omega
 have m2:IntKind.i64.wrap (9223372036854775807 - first)=mf:=by rw[←hmf];exact IntWalk.i64_in _ oM
 have h1:=h.allocRaw #[I O base,I O leader,U app,U txn,U ctl,I O last,I O first,I O maxt,I O prod,I O epoch,I O sq,V q l.length cap] 101;obtain⟨hb,hhb⟩:=eX w.heap.size;rw[hhb]at h1;obtain⟨x0,x1,x2,x3,x4,x5,x6,x7,x8,x9,x10,x11,y0,y1,y2,y3,y4,y5,y6,y7,y8,y9,y10,y11⟩:=zAf (b:=hb) (h1);have H:=hQd h1;clear h h1 hk hfit he htot hnf hmf hf;go_enter Tryz.func138,Tryz.ntmps138;go_upto_region 1 with (fail);have hs:=H.out.drew;clear H;have H:=hQd hs;clear hs
 go_region
 clear x0 y0 x1 y1 x2 y2 x3 y3 x4 y4 x5 y5 x6 y6 x7 y7 x8 y8 x9 y9 x10 y10 x11 y11;obtain⟨x0,x1,x2,x3,x4,x5,x6,x7,x8,x9,x10,x11,y0,y1,y2,y3,y4,y5,y6,y7,y8,y9,y10,y11⟩:=zAf (b:=hb) (H.out);go_wp2;clear x0 y0 x1 y1 x2 y2 x3 y3 x4 y4 x5 y5 x6 y6 x7 y7 x8 y8 x9 y9 x10 y10 x11 y11;go_loopw [3,4,6,12] (fun av gv _ iv wr=>∃(k:Nat) (ah g:Int),k≤l.length∧av=I O ah∧gv=I O g∧iv=I O k∧Hid (zOd first last ((l.map (·.1)).drop k) ah g=tot)∧St W0 wr K (.raw hb #[I O base,I O leader,U app,U txn,U ctl,I O last,I O first,I O maxt,I O prod,I O epoch,I O sq,V q l.length cap] 101::L)) (fun _ _ _ iv _=>l.length - (intOf iv).toNat)
 case atStart=>exact⟨0,-1,first,Jd _,rfl,rfl,rfl,HT,H.out⟩
 case round=>
  obtain⟨k,ah,g,hkl,rfl,rfl,rfl,HC,hst⟩:=hrel;clear H;have H:=hQd hst;clear hst
  by_cases hlt:k<l.length
  ·have hd:=zEA l k hlt _ rfl;obtain⟨b,off,hqq⟩:=zDZ HK.out H.out oM;subst hqq;obtain⟨⟨x,vx⟩,hx⟩:∃x,l[k]=x:=⟨_,rfl⟩;have cc:=zBp HK.out H.out k hlt (x,vx) hx;have hmem:(x,vx)∈l:=hx ▸ Ji hlt;have xf:x.R∧HFit x.hdrs∧x.sum≤1000000:=HFT.out (x,vx) hmem;have xk:K.has (Know.flat RHdr vx 3 x.hdrs):=zCb HK.out hmem;obtain⟨qx,capx,hvx⟩:=zAr xk H.out;subst hvx;simp only at cc;obtain⟨c0,c1,c2,c3,c4,c5,c6⟩:=cc;rw[←Jm]at c1 c2 c3 c4 c5 c6;have hx1:l[k].1=x:=by rw[hx]
   have XF:=hQd xf;have XK:=hQd xk;have HX:=hQd hx1;clear xf xk hx1 hx hmem;obtain⟨wE,hwE⟩:=eX wr.heap.size;have hki:(k:Int)<(l.length:Int):=by omega
   have h:=H.out.allocRaw #[I O x.time,I O x.off,U x.key.null,Z (bb x.key.data),U x.val.null,Z (bb x.val.data),V qx x.hdrs.length capx] 95;rw[hwE]at h;clear H;have H:=hQd h;clear h;rw[HX.out]at hd;have hc:=HC.out;rw[hd,zOc]at hc;obtain⟨ec0,ec1,ec2,ec3,ec4,ec5,ec6,ef0,ef1,ef2,ef3,ef4,ef5,ef6⟩:=raw7 (b:=wE) (H.out);obtain⟨x0,x1,x2,x3,x4,x5,x6,x7,x8,x9,x10,x11,y0,y1,y2,y3,y4,y5,y6,y7,y8,y9,y10,y11⟩:=zAf (b:=hb) (H.out.p1);clear hd
   by_cases c1:x.off≤ah
   ·have d1:decide (x.off≤ah)=true:=decide_eq_true c1;rw[if_pos (.inl c1)]at hc;obtain rfl:13=e:=by have:=HE.out;rw[←hc]at this;exact this
    clear c1 hc;go_wp2;go_ret;exact⟨rfl,H.out.drop.drop⟩
   ·have d1:decide (x.off≤ah)=false:=decide_eq_false c1
    by_cases c2:last<x.off
    ·have d2:decide (last<x.off)=true:=decide_eq_true c2;rw[if_pos (.inr c2)]at hc;obtain rfl:13=e:=by have:=HE.out;rw[←hc]at this;exact this
     clear c1 c2 hc;go_wp2;go_ret;exact⟨rfl,H.out.drop.drop⟩
    ·have d2:decide (last<x.off)=false:=decide_eq_false c2;rw[if_neg (by rintro(h|h);exact c1 h;exact c2 h)]at hc;clear c1 c2
     by_cases c3:x.time< -first∨9223372036854775807 - first<x.time
     ·rw[if_pos c3]at hc;obtain rfl:11=e:=by have:=HE.out;rw[←hc]at this;exact this
      have HW:=hQd (show decide (nf≤x.time∧x.time≤mf)=false by
       rw[←HNF.out,←HMF.out]
       exact decide_eq_false oM)
      clear c3 hc;go_wp2_with (go_at_call 197;(with_reducible refine(zA2 x.time nf mf false HW.out H.out).zM ?_);clear H;intro wn H;obtain⟨ec0,ec1,ec2,ec3,ec4,ec5,ec6,ef0,ef1,ef2,ef3,ef4,ef5,ef6⟩:=raw7 (b:=wE) (H.out);obtain⟨x0,x1,x2,x3,x4,x5,x6,x7,x8,x9,x10,x11,y0,y1,y2,y3,y4,y5,y6,y7,y8,y9,y10,y11⟩:=zAf (b:=hb) (H.out.p1));go_ret;exact⟨rfl,H.out.drop.drop⟩
     ·rw[if_neg c3]at hc
      have HW:=hQd (show decide (nf≤x.time∧x.time≤mf)=true by
       rw[←HNF.out,←HMF.out]
       exact decide_eq_true oM)
      obtain⟨ft,hft⟩:=eX (first+x.time);have f1:wrap64 (first+x.time)=ft:=by have:=HF.out;rw[←hft];unfold wrap64;omega
      have f2:IntKind.i64.wrap (first+x.time)=ft:=by have:=HF.out;rw[←hft];exact IntWalk.i64_in _ oM
      rw[hft]at hc;have HC2:=hQd hc;have EM:=hQd (show max g ft=(if g<ft then ft else g) by rw[Int.max_def];split<;>split<;>omega);clear c3 hc hft;go_upto_region 9 with (go_at_call 197;(with_reducible refine(zA2 x.time nf mf true HW.out H.out).zM ?_);clear H;intro wn H;obtain⟨ec0,ec1,ec2,ec3,ec4,ec5,ec6,ef0,ef1,ef2,ef3,ef4,ef5,ef6⟩:=raw7 (b:=wE) (H.out);obtain⟨x0,x1,x2,x3,x4,x5,x6,x7,x8,x9,x10,x11,y0,y1,y2,y3,y4,y5,y6,y7,y8,y9,y10,y11⟩:=zAf (b:=hb) (H.out.p1));have hs:=H.out.drew;clear H;have H:=hQd hs;clear hs x0 y0 x1 y1 x2 y2 x3 y3 x4 y4 x5 y5 x6 y6 x7 y7 x8 y8 x9 y9 x10 y10 x11 y11 ec0 ef0 ec1 ef1 ec2 ef2 ec3 ef3 ec4 ef4 ec5 ef5 ec6 ef6;obtain⟨ec0,ec1,ec2,ec3,ec4,ec5,ec6,ef0,ef1,ef2,ef3,ef4,ef5,ef6⟩:=raw7 (b:=wE) (H.out);obtain⟨x0,x1,x2,x3,x4,x5,x6,x7,x8,x9,x10,x11,y0,y1,y2,y3,y4,y5,y6,y7,y8,y9,y10,y11⟩:=zAf (b:=hb) (H.out.p1);refine wp_region_held_drew (S:=fun w'=>w'.cell? ⟨wE,0,none⟩=some (I O x.time)∧w'.cell? ⟨wE,1,none⟩=some (I O x.off)∧w'.cell? ⟨hb,6,none⟩=some (I O first)) kR ⟨ec0,ec1,x6⟩ (fun hHeld=> ?_);clear x0 y0 x1 y1 x2 y2 x3 y3 x4 y4 x5 y5 x6 y6 x7 y7 x8 y8 x9 y9 x10 y10 x11 y11 ec0 ef0 ec1 ef1 ec2 ef2 ec3 ef3 ec4 ef4 ec5 ef5 ec6 ef6 c0 c1 c2 c3 c4 c5 c6;refine tR 0 ?_;refine tR 1 ?_;refine tR 2 ?_;refine tR 3 ?_;refine tR 4 ?_;refine tR 5 ?_;refine tR 6 ?_;refine tR 7 ?_;refine tR 8 ?_;refine tR 9 ?_;refine tR 10 ?_;refine wpAnyH_done kR ?_ _;clear hHeld;go_wp2_with fail;go_roundw
      case rel=>exact⟨k+1,x.off,_,hlt,rfl,rfl,by go_num,hQd (by rw[←EM.out];exact HC2.out),H.out.drop⟩
      case measure=>first|(simp[intOf];done)|(simp[intOf];omega)
  ·obtain rfl:l.length=k:=by omega
   have hc:=HC.out;rw[List.drop_of_length_le sM]at hc;have hc:Except.ok g=tot:=hc;have hee:=HE.out;rw[←hc]at hee;simp only[zSX]at hee;obtain⟨x0,x1,x2,x3,x4,x5,x6,x7,x8,x9,x10,x11,y0,y1,y2,y3,y4,y5,y6,y7,y8,y9,y10,y11⟩:=zAf (b:=hb) (H.out)
   cases app with
   |true=>
    obtain rfl:0=e:=by rw[←hee];rfl
    clear hc hee;go_wp2;go_ret;exact⟨rfl,H.out.drop⟩
   |false=>
    by_cases c1:maxt=g
    ·subst c1;obtain rfl:0=e:=by rw[←hee];simp
     clear hc hee;go_wp2;go_ret;exact⟨rfl,H.out.drop⟩
    ·obtain rfl:11=e:=by rw[←hee];simp[c1]
     have b1:(maxt==g)=false:=by rw[beq_eq_false_iff_ne];exact c1
     clear hc hee c1;go_wp2;go_ret;exact⟨rfl,H.out.drop⟩
theorem zq4{p:Prop}(h:p:=by
  have hd:=zEA l k hlt _ rfl;obtain⟨b,off,hqq⟩:=zDZ HK.out H.out oM;subst hqq;obtain⟨⟨x,vx⟩,hx⟩:∃x,l[k]=x:=⟨_,rfl⟩;have cc:=zBp HK.out H.out k hlt (x,vx) hx;have hmem:(x,vx)∈l:=hx ▸ Ji hlt;have xf:x.R∧HFit x.hdrs∧x.sum≤1000000:=HFT.out (x,vx) hmem;have xk:K.has (Know.flat RHdr vx 3 x.hdrs):=zCb HK.out hmem;obtain⟨qx,capx,hvx⟩:=zAr xk H.out;subst hvx;simp only at cc;obtain⟨c0,c1,c2,c3,c4,c5,c6⟩:=cc;rw[←Jm]at c1 c2 c3 c4 c5 c6;have hx1:l[k].1=x:=by rw[hx]
  have XF:=hQd xf;have XK:=hQd xk;have HX:=hQd hx1;clear xf xk hx1 hx hmem;obtain⟨wE,hwE⟩:=eX wr.heap.size;have hki:(k:Int)<(l.length:Int):=by omega
  have h:=H.out.allocRaw #[I O x.time,I O x.off,U x.key.null,Z (bb x.key.data),U x.val.null,Z (bb x.val.data),V qx x.hdrs.length capx] 95;rw[hwE]at h;clear H;have H:=hQd h;clear h;rw[HX.out]at hd;have hc:=HC.out;rw[hd]at hc;have hc:(if zA5 x=0 then zD0 ((l.map (·.1)).drop (k+1))else zA5 x)=tot:=hc;have XL:=hQd (zNf XF.out.2.2);obtain⟨ec0,ec1,ec2,ec3,ec4,ec5,ec6,ef0,ef1,ef2,ef3,ef4,ef5,ef6⟩:=raw7 (b:=wE) (H.out);obtain⟨x0,x1,x2,x3,x4,x5,x6,x7,x8,x9,x10,x11,y0,y1,y2,y3,y4,y5,y6,y7,y8,y9,y10,y11⟩:=zAf (b:=hb) (H.out.p1);clear hd
  by_cases c1:zA5 x=0
  · rw[if_pos c1]at hc;have HC2:=hQd hc;have ER:=hQd c1;clear hc c1;go_wp2_with (go_at_call 130;(with_reducible refine(zEk x (V qx x.hdrs.length capx) _ ER.out XL.out XK.out H.out).zM ?_);clear H;intro wn H;obtain⟨ec0,ec1,ec2,ec3,ec4,ec5,ec6,ef0,ef1,ef2,ef3,ef4,ef5,ef6⟩:=raw7 (b:=wE) (H.out);obtain⟨x0,x1,x2,x3,x4,x5,x6,x7,x8,x9,x10,x11,y0,y1,y2,y3,y4,y5,y6,y7,y8,y9,y10,y11⟩:=zAf (b:=hb) (H.out.p1));go_roundw
    case rel=>exact⟨k+1,hlt,by go_num,HC2.out,H.out.drop⟩
    case measure=>first|(simp[intOf];done)|(simp[intOf];omega)
  · rw[if_neg c1]at hc;have ER:=hQd hc;have gz:(tot==0)=false:=by rw[beq_eq_false_iff_ne,←hc];exact c1
    obtain rfl:tot=e:=HTE.out (by rw[←hc];exact c1);clear hc c1;go_wp2_with (go_at_call 130;(with_reducible refine(zEk x (V qx x.hdrs.length capx) _ ER.out XL.out XK.out H.out).zM ?_);clear H;intro wn H;obtain⟨ec0,ec1,ec2,ec3,ec4,ec5,ec6,ef0,ef1,ef2,ef3,ef4,ef5,ef6⟩:=raw7 (b:=wE) (H.out);obtain⟨x0,x1,x2,x3,x4,x5,x6,x7,x8,x9,x10,x11,y0,y1,y2,y3,y4,y5,y6,y7,y8,y9,y10,y11⟩:=zAf (b:=hb) (H.out.p1));go_ret;exact⟨rfl,H.out.drop.drop⟩):p:=h
theorem zBA(base leader:Int)(app txn ctl:Bool)(last first maxt prod epoch sq:Int)(l:List (RecS×Value))(q:Option Addr)(cap:Nat)(e:Int)(he:zAj ⟨base,leader,app,txn,ctl,last,first,maxt,prod,epoch,sq,l.map (·.1)⟩=e)(hmx:first≤9223372036854775807)(hfit:FitB l)(hll:l.length≤1000000){W0 w:World}{K:Know}{L:List Res}(hk:K.has (Know.recs (V q l.length cap) l))(h:St W0 w K L):
    Calls Jb 82 #[.agg #[I O base,I O leader,U app,U txn,U ctl,I O last,I O first,I O maxt,I O prod,I O epoch,I O sq,V q l.length cap]] w fun en w'=>en=Y (I O e)∧St W0 w' K L:=by
  have HK:=hQd hk;have HFT:=hQd hfit;have HLL:=hQd hll;have h1:=h.allocRaw #[I O base,I O leader,U app,U txn,U ctl,I O last,I O first,I O maxt,I O prod,I O epoch,I O sq,V q l.length cap] 101;obtain⟨hb,hhb⟩:=eX w.heap.size;rw[hhb]at h1;obtain⟨x0,x1,x2,x3,x4,x5,x6,x7,x8,x9,x10,x11,y0,y1,y2,y3,y4,y5,y6,y7,y8,y9,y10,y11⟩:=zAf (b:=hb) (h1);have H:=hQd h1;clear h h1 hk hfit;unfold zAj at he;simp only[Jj]at he
  by_cases p1:BatS.placed ⟨base,leader,app,txn,ctl,last,first,maxt,prod,epoch,sq,l.map (·.1)⟩=false
  · rw[if_pos p1]at he;subst he;have HP:=hQd (show decide (0≤base∧(-1≤leader∧leader≤2147483647)∧(0≤last∧last≤2147483647)∧base≤9223372036854775807 - last∧0≤first∧0≤maxt)=false from p1);clear p1 hmx hll;go_enter Tryz.func82,Tryz.ntmps82;go_wp2_with (go_at_call 135;(with_reducible refine(zBN _ _ _ _ _ _ _ _ _ _ _ _ _ HP.out H.out).zM ?_);clear H;intro wn H;obtain⟨x0,x1,x2,x3,x4,x5,x6,x7,x8,x9,x10,x11,y0,y1,y2,y3,y4,y5,y6,y7,y8,y9,y10,y11⟩:=zAf (b:=hb) (H.out));go_ret;exact⟨rfl,H.out.drop⟩
  rw[if_neg p1]at he
  have p2:BatS.placed ⟨base,leader,app,txn,ctl,last,first,maxt,prod,epoch,sq,l.map (·.1)⟩=true:=by cases hh:BatS.placed ⟨base,leader,app,txn,ctl,last,first,maxt,prod,epoch,sq,l.map (·.1)⟩with
    |false=>exact absurd hh p1
    |true=>rfl
  have HP:=hQd (show decide (0≤base∧(-1≤leader∧leader≤2147483647)∧(0≤last∧last≤2147483647)∧base≤9223372036854775807 - last∧0≤first∧0≤maxt)=true from p2);have HFP:=hQd (show 0≤first∧first≤9223372036854775807 from⟨(of_decide_eq_true (show decide (0≤base∧(-1≤leader∧leader≤2147483647)∧(0≤last∧last≤2147483647)∧base≤9223372036854775807 - last∧0≤first∧0≤maxt)=true from p2)).2.2.2.2.1,hmx⟩);clear p1 p2 hmx
  by_cases c1:ctl=true∧txn=false
  · rw[if_pos c1]at he;subst he;obtain⟨rfl,rfl⟩:=c1;clear hll;go_enter Tryz.func82,Tryz.ntmps82;go_wp2_with (go_at_call 135;(with_reducible refine(zBN _ _ _ _ _ _ _ _ _ _ _ _ _ HP.out H.out).zM ?_);clear H;intro wn H;obtain⟨x0,x1,x2,x3,x4,x5,x6,x7,x8,x9,x10,x11,y0,y1,y2,y3,y4,y5,y6,y7,y8,y9,y10,y11⟩:=zAf (b:=hb) (H.out));go_ret;exact⟨rfl,H.out.drop⟩
  rw[if_neg c1]at he
  by_cases s1:BatS.signed ⟨base,leader,app,txn,ctl,last,first,maxt,prod,epoch,sq,l.map (·.1)⟩=false
  · rw[if_pos s1]at he;subst he;have HS:=hQd (show(if prod= -1 then decide (epoch= -1∧sq= -1∧txn=false)else if prod<0∨¬(0≤epoch∧epoch≤32767)then false else if ctl then decide (sq= -1)else decide (0≤sq∧sq≤2147483647))=false from s1);clear s1 hll
    cases ctl with
    |false=>
      go_enter Tryz.func82,Tryz.ntmps82
      go_wp2_with (first
    |(go_at_call 135;(with_reducible refine(zBN _ _ _ _ _ _ _ _ _ _ _ _ _ HP.out H.out).zM ?_);clear H;intro wn H;obtain⟨x0,x1,x2,x3,x4,x5,x6,x7,x8,x9,x10,x11,y0,y1,y2,y3,y4,y5,y6,y7,y8,y9,y10,y11⟩:=zAf (b:=hb) (H.out))
    |(go_at_call 136;(with_reducible refine(zCI _ _ _ _ _ _ _ _ _ _ _ _ _ HS.out H.out).zM ?_);clear H;intro wn H;obtain⟨x0,x1,x2,x3,x4,x5,x6,x7,x8,x9,x10,x11,y0,y1,y2,y3,y4,y5,y6,y7,y8,y9,y10,y11⟩:=zAf (b:=hb) (H.out)))
      go_ret;exact⟨rfl,H.out.drop⟩
    |true=>
      cases txn with
      |false=>exact absurd ⟨rfl,rfl⟩ c1
      |true=>
        clear c1;go_enter Tryz.func82,Tryz.ntmps82
        go_wp2_with (first
    |(go_at_call 135;(with_reducible refine(zBN _ _ _ _ _ _ _ _ _ _ _ _ _ HP.out H.out).zM ?_);clear H;intro wn H;obtain⟨x0,x1,x2,x3,x4,x5,x6,x7,x8,x9,x10,x11,y0,y1,y2,y3,y4,y5,y6,y7,y8,y9,y10,y11⟩:=zAf (b:=hb) (H.out))
    |(go_at_call 136;(with_reducible refine(zCI _ _ _ _ _ _ _ _ _ _ _ _ _ HS.out H.out).zM ?_);clear H;intro wn H;obtain⟨x0,x1,x2,x3,x4,x5,x6,x7,x8,x9,x10,x11,y0,y1,y2,y3,y4,y5,y6,y7,y8,y9,y10,y11⟩:=zAf (b:=hb) (H.out)))
        go_ret;exact⟨rfl,H.out.drop⟩
  rw[if_neg s1]at he
  have s2:BatS.signed ⟨base,leader,app,txn,ctl,last,first,maxt,prod,epoch,sq,l.map (·.1)⟩=true:=by cases hh:BatS.signed ⟨base,leader,app,txn,ctl,last,first,maxt,prod,epoch,sq,l.map (·.1)⟩with
    |false=>exact absurd hh s1
    |true=>rfl
  have HS:=hQd (show(if prod= -1 then decide (epoch= -1∧sq= -1∧txn=false)else if prod<0∨¬(0≤epoch∧epoch≤32767)then false else if ctl then decide (sq= -1)else decide (0≤sq∧sq≤2147483647))=true from s2);clear s1 s2
  cases ctl with
  |false=>
    rw[if_neg (fun h=>by cases h.1)]at he;obtain⟨tot,htot⟩:=eX (zD0 (l.map (·.1)));rw[htot]at he;have HTE:=hQd (show tot≠0→tot=e from fun h=>by rw[if_pos h]at he;exact he);have HTZ:=hQd (show tot=0→BatS.rows ⟨base,leader,app,txn,false,last,first,maxt,prod,epoch,sq,l.map (·.1)⟩=e from fun h=>by rw[if_neg (fun x=>x h),if_neg (fun h=>by cases h.1)]at he;exact he);have HT:=hQd htot;clear he htot c1;go_enter Tryz.func82,Tryz.ntmps82
    go_wp2_with (first
        |(go_at_call 135;(with_reducible refine(zBN _ _ _ _ _ _ _ _ _ _ _ _ _ HP.out H.out).zM ?_);clear H;intro wn H;obtain⟨x0,x1,x2,x3,x4,x5,x6,x7,x8,x9,x10,x11,y0,y1,y2,y3,y4,y5,y6,y7,y8,y9,y10,y11⟩:=zAf (b:=hb) (H.out))
        |(go_at_call 136;(with_reducible refine(zCI _ _ _ _ _ _ _ _ _ _ _ _ _ HS.out H.out).zM ?_);clear H;intro wn H;obtain⟨x0,x1,x2,x3,x4,x5,x6,x7,x8,x9,x10,x11,y0,y1,y2,y3,y4,y5,y6,y7,y8,y9,y10,y11⟩:=zAf (b:=hb) (H.out)))
    go_loopw [4,5,33] (fun _ _ iv wr=>∃k:Nat,k≤l.length∧iv=I O k∧Hid (zD0 ((l.map (·.1)).drop k)=tot)∧St W0 wr K (.raw hb #[I O base,I O leader,U app,U txn,U false,I O last,I O first,I O maxt,I O prod,I O epoch,I O sq,V q l.length cap] 101::L)) (fun _ _ iv _=>l.length - (intOf iv).toNat)
    case atStart=>exact⟨0,Jd _,rfl,HT,H.out⟩
    case round=>
      clear x0 y0 x1 y1 x2 y2 x3 y3 x4 y4 x5 y5 x6 y6 x7 y7 x8 y8 x9 y9 x10 y10 x11 y11;obtain⟨k,hkl,rfl,HC,hst⟩:=hrel;clear H;have H:=hQd hst;clear hst
      by_cases hlt:k<l.length
      · exact zq4
      · obtain rfl:l.length=k:=by omega
        have hc:=HC.out;rw[List.drop_of_length_le sM]at hc;obtain rfl:0=tot:=hc;obtain⟨x0,x1,x2,x3,x4,x5,x6,x7,x8,x9,x10,x11,y0,y1,y2,y3,y4,y5,y6,y7,y8,y9,y10,y11⟩:=zAf (b:=hb) (H.out);have HROW:=hQd (HTZ.out rfl);go_wp2_with (go_at_call 138;(with_reducible refine(zEM _ _ _ _ _ _ _ _ _ _ _ l _ _ _ HROW.out HFP.out HFT.out HLL.out HK.out H.out).zM ?_);clear H;intro wn H);go_ret;exact⟨rfl,H.out.drop⟩
  |true=>
    cases txn with
    |false=>exact absurd ⟨rfl,rfl⟩ c1
    |true=>
      clear c1
      by_cases c2:l.length=1
      · rw[if_neg (fun h=>h.2 c2)]at he;have HLEN:=hQd c2;have bl:((l.length:Int)==1)=true:=by rw[c2];rfl
        have bl2:((l.length:Int) !=1)=false:=by rw[c2];rfl
        obtain⟨tot,htot⟩:=eX (zD0 (l.map (·.1)));rw[htot]at he;have HTE:=hQd (show tot≠0→tot=e from fun h=>by rw[if_pos h]at he;exact he)
        have HEN:=hQd (show ∀(x:RecS) (h0:0<l.length),(l[0]'h0).1=x→((zLf x).2.2≠0→tot=0→(zLf x).2.2=e)∧((zLf x).2.2=0→tot=0→BatS.rows ⟨base,leader,app,true,true,last,first,maxt,prod,epoch,sq,l.map (·.1)⟩=e)from fun x h0 hx=>by
          have hm:l.map (·.1)=x::(l.map (·.1)).drop 1:=by have:=zEA l 0 oM x hx;simpa using this
          have hens:BatS.ends ⟨base,leader,app,true,true,last,first,maxt,prod,epoch,sq,l.map (·.1)⟩=(zLf x).2.2:=by unfold BatS.ends;simp only;rw[hm]
          rw[hens]at he;refine⟨fun h h2=> ?_,fun h h2=> ?_⟩
          · rw[if_neg (fun y=>y h2),if_pos ⟨rfl,h⟩]at he;exact he
          · rw[if_neg (fun y=>y h2),if_neg (fun y=>y.2 h)]at he;exact he)
        have HT:=hQd htot;clear he htot c2;go_enter Tryz.func82,Tryz.ntmps82
        go_wp2_with (first
            |(go_at_call 135;(with_reducible refine(zBN _ _ _ _ _ _ _ _ _ _ _ _ _ HP.out H.out).zM ?_);clear H;intro wn H;obtain⟨x0,x1,x2,x3,x4,x5,x6,x7,x8,x9,x10,x11,y0,y1,y2,y3,y4,y5,y6,y7,y8,y9,y10,y11⟩:=zAf (b:=hb) (H.out))
            |(go_at_call 136;(with_reducible refine(zCI _ _ _ _ _ _ _ _ _ _ _ _ _ HS.out H.out).zM ?_);clear H;intro wn H;obtain⟨x0,x1,x2,x3,x4,x5,x6,x7,x8,x9,x10,x11,y0,y1,y2,y3,y4,y5,y6,y7,y8,y9,y10,y11⟩:=zAf (b:=hb) (H.out)))
        go_loopw [4,5,33] (fun _ _ iv wr=>∃k:Nat,k≤l.length∧iv=I O k∧Hid (zD0 ((l.map (·.1)).drop k)=tot)∧St W0 wr K (.raw hb #[I O base,I O leader,U app,U true,U true,I O last,I O first,I O maxt,I O prod,I O epoch,I O sq,V q l.length cap] 101::L)) (fun _ _ iv _=>l.length - (intOf iv).toNat)
        case atStart=>exact⟨0,Jd _,rfl,HT,H.out⟩
        case round=>
          clear x0 y0 x1 y1 x2 y2 x3 y3 x4 y4 x5 y5 x6 y6 x7 y7 x8 y8 x9 y9 x10 y10 x11 y11;obtain⟨k,hkl,rfl,HC,hst⟩:=hrel;clear H;have H:=hQd hst;clear hst
          by_cases hlt:k<l.length
          · exact zq4
          · obtain rfl:l.length=k:=by omega
            have hc:=HC.out;rw[List.drop_of_length_le sM]at hc;obtain rfl:0=tot:=hc;obtain⟨x0,x1,x2,x3,x4,x5,x6,x7,x8,x9,x10,x11,y0,y1,y2,y3,y4,y5,y6,y7,y8,y9,y10,y11⟩:=zAf (b:=hb) (H.out);obtain⟨b,off,hqq⟩:=zDZ HK.out H.out (by rw[HLEN.out];decide);subst hqq;obtain⟨⟨x,vx⟩,hx⟩:∃x,l[0]'(by rw[HLEN.out];decide)=x:=⟨_,rfl⟩;have cc:=zBp HK.out H.out 0 (by rw[HLEN.out];decide) (x,vx) hx;have hmem:(x,vx)∈l:=hx ▸ Ji _;have xf:x.R∧HFit x.hdrs∧x.sum≤1000000:=HFT.out (x,vx) hmem;have xk:K.has (Know.flat RHdr vx 3 x.hdrs):=zCb HK.out hmem;obtain⟨qx,capx,hvx⟩:=zAr xk H.out;subst hvx;simp only[Nat.zero_mul,Nat.zero_add,Nat.add_zero]at cc;obtain⟨c0,c1,c2,c3,c4,c5,c6⟩:=cc;have XD:=hQd (zRq xf.2.2);have hl0:(0:Int)<(l.length:Int):=by have:=HLEN.out;omega
            obtain⟨⟨i1,i2,i3⟩,hi⟩:∃r,zLf x=r:=⟨_,rfl⟩;have EC:=hQd (show zJx x.key.null x.val.null x.key.data x.val.data x.hdrs.length x.off=(i1,i2,i3)from hi);have hen:=HEN.out x (by rw[HLEN.out];decide) (by rw[hx]);rw[hi]at hen;clear hx hmem xf xk hi
            by_cases c9:i3=0
            · subst c9;have HROW:=hQd (hen.2 rfl rfl);clear hen
              go_wp2_with (first
            |(go_at_call 137;(with_reducible refine(zNN x.time x.off x.key.null x.val.null x.key.data x.val.data qx x.hdrs.length capx (i1,i2,_) EC.out XD.out.1 XD.out.2 H.out).zM ?_);clear H;intro wn H;obtain⟨x0,x1,x2,x3,x4,x5,x6,x7,x8,x9,x10,x11,y0,y1,y2,y3,y4,y5,y6,y7,y8,y9,y10,y11⟩:=zAf (b:=hb) (H.out))
            |(go_at_call 138;(with_reducible refine(zEM _ _ _ _ _ _ _ _ _ _ _ l _ _ _ HROW.out HFP.out HFT.out HLL.out HK.out H.out).zM ?_);clear H;intro wn H))
              go_ret;exact⟨rfl,H.out.drop⟩
            · have gz:(i3==0)=false:=by rw[beq_eq_false_iff_ne];exact c9
              obtain rfl:i3=e:=hen.1 c9 rfl;clear hen c9;go_wp2_with (go_at_call 137;(with_reducible refine(zNN x.time x.off x.key.null x.val.null x.key.data x.val.data qx x.hdrs.length capx (i1,i2,_) EC.out XD.out.1 XD.out.2 H.out).zM ?_);clear H;intro wn H;obtain⟨x0,x1,x2,x3,x4,x5,x6,x7,x8,x9,x10,x11,y0,y1,y2,y3,y4,y5,y6,y7,y8,y9,y10,y11⟩:=zAf (b:=hb) (H.out));go_ret;exact⟨rfl,H.out.drop⟩
      · rw[if_pos ⟨rfl,c2⟩]at he;subst he;have bl:((l.length:Int)==1)=false:=by rw[beq_eq_false_iff_ne];omega
        clear c2 hll;go_enter Tryz.func82,Tryz.ntmps82
        go_wp2_with (first
    |(go_at_call 135;(with_reducible refine(zBN _ _ _ _ _ _ _ _ _ _ _ _ _ HP.out H.out).zM ?_);clear H;intro wn H;obtain⟨x0,x1,x2,x3,x4,x5,x6,x7,x8,x9,x10,x11,y0,y1,y2,y3,y4,y5,y6,y7,y8,y9,y10,y11⟩:=zAf (b:=hb) (H.out))
    |(go_at_call 136;(with_reducible refine(zCI _ _ _ _ _ _ _ _ _ _ _ _ _ HS.out H.out).zM ?_);clear H;intro wn H;obtain⟨x0,x1,x2,x3,x4,x5,x6,x7,x8,x9,x10,x11,y0,y1,y2,y3,y4,y5,y6,y7,y8,y9,y10,y11⟩:=zAf (b:=hb) (H.out)))
        go_ret;exact⟨rfl,H.out.drop⟩
theorem zJL(rows:Bs)(n:Nat)(hn:n≤2147483647)(hsl:rows.length≤140737488355328)(rs:List RecS)(hu:unp n ⟨rows,0,0⟩=.ok rs){W0 w:World}{K:Know}{L:List Res}(h:St W0 w K L):
  Calls Jb 195 #[Z (bb rows),I O n] w fun en w'=>∃(v:Value) (l:List (RecS×Value)),en=Y (.tuple #[v,I O 0])∧l.map (·.1)=rs∧St W0 w' (K.and (Know.recs v l)) L:=by
 obtain⟨tot,htot⟩:=eX (unp n ⟨rows,0,0⟩);have HTT:=hQd (htot.symm.trans hu);have HT:=hQd (show preU [] (unp (n - 0) ⟨rows,0,0⟩)=tot by rw[zRL];exact htot);have HSL:=hQd hsl;have HNB:=hQd hn;have H:=hQd h;clear h hu htot hsl hn;go_enter Tryz.func195,Tryz.ntmps195;go_wp2_with (go_at_call 19;(with_reducible refine(zEh rows HSL.out H.out).mono ?_);rintro e_ wn ⟨bi,rfl,h⟩;replace H:=hQd h;clear h);go_loopw [7,11] (fun lv iv wr=>∃(k:Nat) (acc:List (RecS×Value)) (i2:InS) (K2:Know),k≤n∧iv=I O k∧acc.length=k∧Hid (preU (acc.map (·.1)) (unp (n - k) i2)=tot)∧Hid (K2.has K)∧Hid (∀x∈acc,K2.has (Know.flat RHdr x.2 3 x.1.hdrs))∧St W0 wr K2 (.row lv 95 7 acc.length (acc.flatMap zSF)::.inp bi i2::L)) (fun _ iv _=>n - (intOf iv).toNat)
 case atStart=>exact⟨0,[],_,K,Jd _,rfl,rfl,HT,hQd (Know.has_refl _),hQd (fun x h=>by cases h),H.out.nilRow 95 7⟩
 case round=>
  obtain⟨k,acc,i2,K2,hk,rfl,hacc,HC,HK2,HALL,hst⟩:=hrel;have HACC:=hQd hacc;have HKB:=hQd (show k≤2147483647 by have:=HNB.out;omega);clear H hacc;have H:=hQd hst;clear hst;obtain⟨lf,hlf⟩:=eX i2.left;have HLF:=hQd hlf
  by_cases hlt:k<n
  · have hc:=HC.out;rw[show n - k=(n - (k+1))+1 by omega]at hc;have hc:preU (acc.map (·.1)) (if i2.left=0 then .error 10 else if i2.record.2.err=0 then zLg i2.record.1 (unp (n - (k+1)) i2.record.2)else .error i2.record.2.err)=tot:=hc;have hki:(k:Int)<(n:Int):=by omega
    have hnb:(n:Int)≤2147483647:=by have:=HNB.out;omega
    rw[hlf]at hc
    by_cases c1:lf=0
    · rw[if_pos c1]at hc;have hc2:Except.error 10=tot:=hc;have hc3:=hc2.trans HTT.out
      cases hc3
    · rw[if_neg c1]at hc;obtain⟨⟨x,i3⟩,hx⟩:∃r,i2.record=r:=⟨_,rfl⟩;have HRD:=hQd hx;rw[hx]at hc;simp only at hc;have bl:((lf:Int)==0)=false:=by rw[beq_eq_false_iff_ne];omega
      have bl2:¬(lf=0):=c1
      by_cases c2:i3.err=0
      · rw[if_pos c2,←zP5]at hc;have HER:=hQd c2;have HC2:=hQd hc;clear hc hx c1 c2 hlf
        go_wp2_with (first
  |(go_at_call 75;(with_reducible refine(zPw bi i2 _ HLF.out H.out.p1).zM ?_);clear H;intro wn H;replace H:=hQd H.out.p1)
  |(go_at_call 79;(with_reducible refine(zPV bi i2 x i3 HRD.out H.out.p1).mono ?_);rintro e_ wn ⟨v1,rfl,h⟩;obtain⟨q1,c1,hv1⟩:=zAr (Know.has_right (Know.has_refl _)) h;subst hv1;replace H:=hQd h;clear h;replace H:=hQd H.out.p1)
  |(at_builtin;refine zAz rfl _ _ 99 rfl 95 Tryz.underlying99 zSk _ _ _ rfl H.out [I O x.time,I O x.off,U x.key.null,Z (bb x.key.data),U x.val.null,Z (bb x.val.data),V q1 x.hdrs.length c1] 95 rfl rfl (by simp[Value.oneCell']) (by have:=HACC.out;have:=HKB.out;unfold maxLen;omega) (by have:=HACC.out;have:=HKB.out;omega) ?_;intro v' w' h;replace H:=hQd h;clear h)
  |(go_at_call 22;(with_reducible refine(zHR bi i3 _ HER.out H.out.p1).zM ?_);clear H;intro wn H;replace H:=hQd H.out.p1))
        go_roundw
        case rel=>exact⟨k+1,acc++[(x,V q1 x.hdrs.length c1)],i3,K2.and (Know.flat RHdr (V q1 x.hdrs.length c1) 3 x.hdrs),hlt,by go_num,by rw[Jc,HACC.out];rfl,hQd (by rw[List.map_append];exact HC2.out),hQd (Know.has_trans (Know.has_left (Know.has_refl _)) HK2.out),hQd (fun y hy=>by
         rcases List.mem_append.1 hy with hy|hy
         · exact Know.has_trans (Know.has_left (Know.has_refl _)) (HALL.out y hy)
         · rw[List.mem_singleton.1 hy];exact Know.has_right (Know.has_refl _)),by rw[Jc,List.flatMap_append];simpa [zSF]using H.out⟩
        case measure=>first|(simp[intOf];done)|(simp[intOf];omega)
      · rw[if_neg c2]at hc;have hc2:Except.error i3.err=tot:=hc;have hc3:=hc2.trans HTT.out
        cases hc3
  · obtain rfl:n=k:=by omega
    have hc:=HC.out;rw[Nat.sub_self]at hc;have hc:preU (acc.map (·.1)) (if i2.left=0 then .ok []else .error 10)=tot:=hc;rw[hlf]at hc
    by_cases c1:lf=0
    · rw[if_pos c1]at hc;have hc2:Except.ok (acc.map (·.1)++[])=tot:=hc;have hc3:=hc2.trans HTT.out;subst c1;have HRS:=hQd (show acc.map (·.1)=rs by injection hc3 with h;rw[Jp]at h;exact h);clear hc hc2 hc3 hlf;go_wp2_with (go_at_call 75;(with_reducible refine(zPw bi i2 _ HLF.out H.out.p1).zM ?_);clear H;intro wn H;replace H:=hQd H.out.p1);go_ret2;have hf:=(H.out.freezeRow (R:=RRec) (fun y _=>⟨rfl,rfl⟩)).drop;exact⟨_,acc,rfl,HRS.out,hf.know (fun w F hh=>⟨HK2.out _ _ hh.1,hh.2,fun y hy=>HALL.out y hy _ _ hh.1⟩)⟩
    · rw[if_neg c1]at hc;have hc2:Except.error 10=tot:=hc;have hc3:=hc2.trans HTT.out
      cases hc3
abbrev W32:=BitVec 32
def cP:W32:=0x82F63B78#32
def step (r:W32):W32:=(r>>>1) ^^^ (if r.getLsbD 0 then cP else 0#32)
def zPr:Nat→W32→W32
 |0,r=>r
 |n+1,r=>zPr n (step r)
def zSq (c:UInt8):List Bool:=(List.range 8).map (fun i=>c.toNat.testBit i)
def zSM (s:Bs):List Bool:=s.flatMap zSq
def tab (n:Nat):W32:=zPr 8 (BitVec.ofNat 32 n)
def zFV (r:W32) (c:UInt8):W32:=tab (r.toNat % 256 ^^^ c.toNat) ^^^ (r>>>8)
def zFz (r:W32) (s:Bs):W32:=s.foldl zFV r
theorem zEE(r:W32)(a b:Bs):zFz r (a++b)=zFz (zFz r a) b:=List.foldl_append
def zAF (sum:W32) (s:Bs):W32:= ~~~ (zFz (~~~ sum) s)
theorem zHF(sum:W32)(a b:Bs):zAF sum (a++b)=zAF (zAF sum a) b:=by
 unfold zAF;rw[zEE,BitVec.not_not]
theorem zMV(sum:W32):zAF sum []=sum:=by unfold zAF zFz;simp
variable {W0 w:World}{K:Know}{L:List Res}
theorem zLJ(a b:W32):bits .xor .u32 (a.toNat:Int) (b.toNat:Int)=((a ^^^ b).toNat:Int):=by
 have ha:=a.isLt;have hb:=b.isLt;have hab:=(a ^^^ b).isLt;rw[zLs,BitVec.toNat_xor]at*;have e1:((a.toNat:Int) % 4294967296).toNat=a.toNat:=by omega
 have e2:((b.toNat:Int) % 4294967296).toNat=b.toNat:=by omega
 rw[e1,e2,IntKind.wrap_u32]
 omega
theorem zSy(a:W32):bits .and .u32 (a.toNat:Int) 1=if a.getLsbD 0 then 1 else 0:=by
 have ha:=a.isLt;rw[zLv];have e1:((a.toNat:Int) % 4294967296).toNat=a.toNat:=by omega
 have e2:((1:Int) % 4294967296).toNat=1:=by decide
 rw[e1,e2,Nat.and_one_is_mod,IntKind.wrap_u32];have:a.getLsbD 0=decide (a.toNat % 2=1):=by rw[BitVec.getLsbD,Nat.testBit_zero]
 rw[this]
 by_cases h:a.toNat % 2=1<;>simp[h]
 omega
theorem zLI(a:W32):bits .xor .u32 (a.toNat:Int) 2197175160=((a ^^^ cP).toNat:Int):=zLJ a cP
theorem zRu(a:W32):(a.toNat:Int) / 2=((a>>>1).toNat:Int):=by
 rw[BitVec.toNat_ushiftRight,Nat.shiftRight_eq_div_pow];omega
theorem zRt(a:W32):(a.toNat:Int) / 256=((a>>>8).toNat:Int):=by
 rw[BitVec.toNat_ushiftRight,Nat.shiftRight_eq_div_pow];omega
theorem zQh(a:W32):bits .xor .u32 IntKind.u32.max (a.toNat:Int)=((~~~ a).toNat:Int):=by
 have e:IntKind.u32.max=((BitVec.allOnes 32).toNat:Int):=by decide
 rw[e,zLJ,BitVec.xor_comm,BitVec.xor_allOnes]
theorem zJy(r:W32)(w:World):
 Calls Jb 201 #[.int .u32 r.toNat] w fun en w'=>en=Y (.int .u32 (zPr 8 r).toNat)∧w=w':=by
 go_enter Tryz.func201,Tryz.ntmps201;go_wp2
 go_loop [0,4] (fun rv kv=>∃(k:Nat) (x:W32),k≤8∧kv=I O k∧rv=.int .u32 x.toNat∧zPr (8 - k) x=zPr 8 r) (fun _ kv=>8 - (intOf kv).toNat)
 case atStart=>exact⟨0,r,dD,rfl,rfl,rfl⟩
 case round=>
  obtain⟨k,x,hk,rfl,rfl,hx⟩:=hrel;have HX:=hQd hx;clear hx
  by_cases h8:k<8
  ·have ha:=zSy x;have hs:=zRu x;have hx:=x.isLt
   cases hb:x.getLsbD 0
   all_goals
    rw[hb]at ha;go_wp2
    go_round
    case rel=>
     refine⟨k+1,step x,oM,by go_num,?_,?_⟩
     ·refine congrArg _ ?_;unfold step;rw[hb]
      first
       |(rw[if_pos rfl,←zLI];exact congrArg (bits .xor .u32 · 2197175160) hs)
       |exact hs.trans sM
     ·rw[←HX.out,show 8 - k=(8 - (k+1))+1 by omega]
      rfl
    case measure=>first|(simp[intOf];done)|(simp[intOf];omega)
  ·have hk8:k=8:=by omega
   subst hk8;go_wp2;go_ret;rw[←HX.out];exact⟨rfl,rfl⟩
theorem zTt(k:Nat)(hk:k<256)(w:World):
 Calls Jb 201 #[.int .u32 (k:Int)] w fun en w'=>en=Y (.int .u32 (tab k).toNat)∧w=w':=by
 have h:=zJy (BitVec.ofNat 32 k) w;have hn:(BitVec.ofNat 32 k).toNat=k:=by simp;omega
 rw[hn]at h;exact h
def tabC (n:Nat):Array Value:=((List.range 256).map fun j=>if j<n then Value.int .u32 (tab j).toNat else Value.int .u32 0).toArray
theorem zF5(n:Nat):(tabC n).size=256:=by simp[tabC]
theorem zFM(n j:Nat)(h:j<256):(tabC n)[j]? =some (if j<n then Value.int .u32 (tab j).toNat else Value.int .u32 0):=by
 simp[tabC,h]
theorem zRn(n:Nat)(_:n<256):(tabC n).setIfInBounds n (.int .u32 (tab n).toNat)=tabC (n+1):=by
 apply Array.ext_getElem?
 intro j
 by_cases hj:j<256
 ·rw[zFM (n+1) j hj,Array.getElem?_setIfInBounds]
  by_cases e:n=j
  ·subst e;simp[zF5,hj]
  ·rw[if_neg e,zFM n j hj]
   by_cases h1:j<n
   ·rw[if_pos h1,if_pos oM]
   ·rw[if_neg h1,if_neg oM]
 ·rw[Array.getElem?_eq_none (by simp[zF5];omega),Array.getElem?_eq_none (by rw[zF5];omega)]
theorem zRh:Tryz.zeroCells295=tabC 0:=by kernel_rfl
def bIx (m:Nat) (c:UInt8):Nat:=m ^^^ c.toNat
def zSN (a b:W32):Nat:=(a ^^^ b).toNat
theorem zNS{m:Nat}(hm:m<256)(c:UInt8):bIx m c<256:=Nat.xor_lt_two_pow (n:=8) hm c.toNat_lt
theorem zTu{m:Nat}(hm:m<256)(c:UInt8):bits .xor .u8 (m:Int) (c.toNat:Int)=(bIx m c:Int):=by
 have hc:=c.toNat_lt;have hq:=zNS hm c;unfold bIx at*;rw[zM0];have e1:((m:Int) % 256).toNat=m:=by omega
 have e2:((c.toNat:Int) % 256).toNat=c.toNat:=by omega
 rw[e1,e2,IntKind.wrap_u8]
 omega
abbrev zJ0 (b:Nat):Value:=Ja (some ⟨b,0,none⟩)
theorem zQX(h:St W0 w K L):
 Calls Jb 141 #[] w fun en w'=>∃b,en=Y (zJ0 b)∧St W0 w' K (.raw b (tabC 256) 295::L):=by
 have H:=hQd h;clear h;go_enter Tryz.func141,Tryz.ntmps141;go_wp2;rw[zRh];go_loopw [4] (fun iv wr=>∃k:Nat,k≤256∧iv=I O k∧St W0 wr K (.raw w.heap.size (tabC k) 295::L)) (fun iv _=>256 - (intOf iv).toNat)
 case atStart=>exact⟨0,dD,rfl,H.out.allocRaw _ _⟩
 case round=>
  obtain⟨k,hk,rfl,hs⟩:=hrel;have HS:=hQd hs;clear hs
  by_cases hlt:k<256
  ·have hc:=HS.out.rawCell k;rw[zFM k k hlt,if_neg oM]at hc;have hf:=HS.out.rawFree k;have hw:IntKind.u32.wrap (k:Int)=(k:Int):=by rw[IntKind.wrap_u32];omega
   have hlt2:(k:Int)<256:=by omega
   have hk0:(0:Int)≤(k:Int):=by omega
   go_wp2_with fail
   go_region_with (go_at_call 201;refine(zTt k hlt _).mono ?_;rintro e wn ⟨rfl,rfl⟩)
   go_wp2;go_roundw
   case rel=>
    refine⟨k+1,oM,by go_num,?_⟩;have h2:=(HS.out.drew).rawSet k (.int .u32 (tab k).toNat);rw[zRn k hlt]at h2;exact h2
   case measure=>first|(simp[intOf];done)|(simp[intOf];omega)
  ·have hk:k=256:=by omega
   subst hk;go_wp2;go_ret;exact⟨_,rfl,HS.out⟩
theorem zSo(b:Nat)(sum:W32)(s:Bs)(hs:s.length≤140737488355328)(h:St W0 w K (.raw b (tabC 256) 295::L)):
 Calls Jb 202 #[zJ0 b,.int .u32 sum.toNat,Z (bb s)] w fun en w'=>en=Y (.int .u32 (zAF sum s).toNat)∧St W0 w' K (.raw b (tabC 256) 295::L):=by
 have H:=hQd h;have hsum:=sum.isLt;obtain⟨nb,hnb⟩:=eX (~~~ sum);have hn:=zQh sum;rw[hnb]at hn;have HNB:=hQd hnb;clear h hnb;go_enter Tryz.func202,Tryz.ntmps202;go_wp2;go_loopw [7,13] (fun rv kv wr=>∃k:Nat,k≤s.length∧kv=I O k∧rv=.int .u32 (zFz nb (s.take k)).toNat∧St W0 wr K (.raw b (tabC 256) 295::L)) (fun _ kv _=>s.length - (intOf kv).toNat)
 case atStart=>exact⟨0,Jd _,rfl,rfl,H.out⟩
 case round=>
  obtain⟨k,hk,rfl,rfl,hst⟩:=hrel;have HS:=hQd hst;clear hst;obtain⟨r,hr⟩:=eX (zFz nb (s.take k));rw[hr];have HR:=hQd hr;clear hr
  by_cases hlt:k<s.length
  ·have hrl:=r.isLt
   have hstep:zFz nb (s.take (k+1))=zFV r s[k]:=by
    rw[Jf hlt,zEE,HR.out];rfl
   have HST:=hQd hstep;clear hstep;obtain⟨m,hm⟩:=eX (r.toNat % 256);obtain⟨y,hy⟩:=eX (r>>>8);have hm0:m<256:=by omega
   have hcell:∀c:UInt8,wr.cell? ⟨b,bIx m c,none⟩=some (.int .u32 (tab (bIx m c)).toNat):=fun c=>by
    have h:=HS.out.rawCell (bIx m c);rw[zFM 256 _ (zNS hm0 c),if_pos (zNS hm0 c)]at h;exact h
   have hx:=zTu hm0;have hm2:IntKind.u8.wrap (r.toNat:Int)=(m:Int):=by rw[IntKind.wrap_u8];omega
   have hs8:=zRt r;rw[hy]at hs8;have hxz:∀t:W32,bits .xor .u32 (t.toNat:Int) (y.toNat:Int)=(zSN t y:Int):=fun t=>zLJ t y
   have hq0:∀c:UInt8,(0:Int)≤(bIx m c:Int):=fun c=>by omega
   have hq1:∀c:UInt8,(bIx m c:Int)<256:=fun c=>by have:=zNS hm0 c;omega
   have HZ:=hQd (show(zFV r s[k]).toNat=zSN (tab (bIx m s[k])) y by unfold zFV zSN bIx;rw[hm,hy]);clear hm hy hrl hm0;have hk0:(0:Int)≤(k:Int):=by omega
   have hk1:(k:Int)<s.length:=by omega
   go_wp2_with fail
   go_quiet (fail)
   go_wp2;go_roundw
   case rel=>
    refine⟨k+1,hlt,by go_num,?_,HS.out.drewN _⟩;rw[HST.out,HZ.out];exact congrArg (Value.int .u32) ((congrArg (bits .xor .u32 _) hs8).trans (hxz _))
   case measure=>first|(simp[intOf];done)|(simp[intOf];omega)
  ·have hk:k=s.length:=by omega
   subst hk;obtain⟨nr,hnr⟩:=eX (~~~ r);have hn2:=zQh r;rw[hnr]at hn2;have HNR:=hQd hnr;clear hnr;rw[List.take_length]at HR;go_wp2;go_ret;refine⟨?_,HS.out⟩;unfold zAF;rw[HNB.out,HR.out,HNR.out]
   rfl
def RStr (_:World) (cs:List Value) (x:Bs):Prop:=cs=[Z (bb x)]
def strRows (D:Nat→Prop) (w:World) (v:Value) (l:List Bs):Prop:=RowsOf RStr D w v 1 l
theorem zPE{D:Nat→Prop}{w w':World}{v:Value}{l:List Bs}(h:strRows D w v l)(hs:w.heap.size≤w'.heap.size)(hk:∀k,k<w.heap.size→D k→w'.heap[k]? =w.heap[k]?):strRows D w' v l:=by
 obtain⟨p,cap,rfl,h⟩:=h;refine⟨p,cap,rfl,fun h0=> ?_⟩;obtain⟨b,off,rfl,hb,hlt,hc⟩:=h h0;refine⟨b,off,rfl,hb,Nat.lt_of_lt_of_le hlt hs,fun i hi=> ?_⟩;obtain⟨cs,h1,h2,h3⟩:=hc i hi;exact⟨cs,h1,h2,fun f u hu=>(World.cell?_of_block (w:=w) (a:=⟨b,off+(i*1+f),none⟩) (hk b hlt hb)).trans (h3 f u hu)⟩
def Know.strs (v:Value) (l:List Bs):Know:=⟨fun w F=>strRows F w v l,fun _ _ _ h hs hk=>zPE h hs hk,fun _ _ _ h hs=>h.mono (fun _ _ h=>hs _ h) (fun _ _ h=>h)⟩
theorem strRows.at{D:Nat→Prop}{w:World}{v:Value}{l:List Bs}(h:strRows D w v l):
 ∃p cap,v=V p l.length cap∧(0<l.length→∃b off,p=some ⟨b,off,none⟩∧∀i (h:i<l.length),w.cell? ⟨b,off+i,none⟩=some (Z (bb l[i]))):=by
 obtain⟨p,cap,rfl,h⟩:=h;refine⟨p,cap,rfl,fun h0=> ?_⟩;obtain⟨b,off,rfl,_,_,hc⟩:=h h0;refine⟨b,off,rfl,fun i hi=> ?_⟩;obtain⟨cs,h1,h2,h3⟩:=hc i hi;unfold RStr at h2;subst h2;have:=h3 0 _ rfl
 simpa using this
def zBf (sum:W32) (l:List Bs):W32:=l.foldl zAF sum
theorem zJz(sum:W32)(l:List Bs)(s:Bs):zBf sum (l++[s])=zAF (zBf sum l) s:=List.foldl_append
theorem zJA(sum:W32)(l:List Bs):zBf sum l=zAF sum l.flatten:=by
 induction l generalizing sum with
 |nil=>exact(zMV sum).symm
 |cons a t ih=>
  show zBf (zAF sum a) t=_
  rw[ih,List.flatten_cons,zHF]
theorem zTs(b:Nat)(v:Value)(l:List Bs)(hl:l.length≤9223372036854775807)(hs:∀s∈l,s.length≤140737488355328)(hk:K.has (Know.strs v l))(h:St W0 w K (.raw b (tabC 256) 295::L)):
 Calls Jb 142 #[zJ0 b,v] w fun en w'=>en=Y (.int .u32 (zBf 0#32 l).toNat)∧St W0 w' K (.raw b (tabC 256) 295::L):=by
 have H:=hQd h;have HS:=hQd hs;have HK:=hQd hk;obtain⟨F,hF,_⟩:=h.get;obtain⟨p,cap,rfl,_⟩:=(hk _ _ hF).at;clear h hs hk hF;go_enter Tryz.func142,Tryz.ntmps142;go_wp2;go_loopw [5,10] (fun rv kv wr=>∃k:Nat,k≤l.length∧kv=I O k∧rv=.int .u32 (zBf 0#32 (l.take k)).toNat∧St W0 wr K (.raw b (tabC 256) 295::L)) (fun _ kv _=>l.length - (intOf kv).toNat)
 case atStart=>exact⟨0,Jd _,rfl,rfl,H.out⟩
 case round=>
  obtain⟨k,hk,rfl,rfl,hst⟩:=hrel;have HST:=hQd hst;obtain⟨F2,hF2,_⟩:=hst.get;obtain⟨p2,cap2,hv2,hrow⟩:=(HK.out _ _ hF2).at;clear hst hF2;obtain⟨r,hr⟩:=eX (zBf 0#32 (l.take k));rw[hr];have HR:=hQd hr;clear hr
  by_cases hlt:k<l.length
  ·obtain⟨bb',off,hp,hcells⟩:=hrow oM;have hpp:p=some ⟨bb',off,none⟩:=by simp at hv2;rw[hv2.1,hp]
   subst hpp;have hc:=hcells k hlt;have HL:=hQd (HS.out l[k] (Ji hlt));have HN:=hQd (show zBf 0#32 (l.take (k+1))=zAF r l[k] by rw[Jf hlt,zJz,HR.out]);clear hcells hv2 hp hrow;generalize l[k]=s at*;go_wp2_with (go_at_call 202;refine(zSo b r s HL.out HST.out).mono ?_;rintro e wn ⟨rfl,h⟩;have H2:=hQd h;clear h);go_roundw
   case rel=>exact⟨k+1,hlt,by go_num,by rw[HN.out],H2.out⟩
   case measure=>first|(simp[intOf];done)|(simp[intOf];omega)
  ·have hk:k=l.length:=by omega
   subst hk;rw[List.take_length]at HR;go_wp2;go_ret;exact⟨by rw[HR.out];rfl,HST.out⟩
theorem St.freezeStrs{r:Nat}(l:List Bs)(h:St W0 w K (.raw r (l.map fun s=>Value.string (bb s)).toArray 9::L)):St W0 w (K.and (Know.strs (V (some ⟨r,0,none⟩) l.length l.length) l)) L:=by
 refine h.freeze fun F S1 _ h1=> ?_
 have hlt:=zBi h1.1;refine⟨some ⟨r,0,none⟩,l.length,rfl,fun _=>⟨r,0,rfl,.inr ⟨(h1.2 r).2 rfl,hlt⟩,hlt,fun i hi=> ?_⟩⟩;refine⟨[Z (bb l[i])],rfl,rfl,fun f u hu=> ?_⟩;rw[zAK h1.1]
 cases f with
 |zero=>
  simp at hu;subst hu;simp[hi]
 |succ f=>simp at hu
theorem zSn(b r n:Nat)(l:List Bs)(x:Nat)(hn:l.length=n)(hx:(zBf 0#32 l).toNat=x)(hs:∀s∈l,s.length≤140737488355328)(hl:l.length≤9223372036854775807)(h:St W0 w K (.raw r (l.map fun s=>Value.string (bb s)).toArray 9::.raw b (tabC 256) 295::L)):
 Calls Jb 142 #[zJ0 b,V (some ⟨r,0,none⟩) n n] w fun en w'=>en=Y (.int .u32 x)∧St W0 w' K (.raw b (tabC 256) 295::L):=by
 subst hn;subst hx;exact(zTs b _ l hl hs (Know.has_right (Know.has_refl _)) (h.freezeStrs l)).mono fun en w' hh=>⟨hh.1,hh.2.know (Know.has_left (Know.has_refl _))⟩
def setAw:Array Value→Nat→List Value→Array Value
 |c,_,[]=>c
 |c,o,v::r=>setAw (c.setIfInBounds o v) (o+1) r
theorem St.there{b:Nat}{c:Array Value}{T:TypeId}(h:St W0 w K (.raw b c T::L)):w.there b 0 c.size:=fun j hj=>by
 rw[Nat.zero_add];exact⟨by rw[h.rawCell j,Array.getElem?_eq_getElem hj];rfl,h.rawFree j⟩
theorem St.rawSets{W0:World}{K:Know}{L:List Res}{b:Nat}{T:TypeId}:∀(vs:List Value) (o:Nat) (c:Array Value) (w:World),St W0 w K (.raw b c T::L)→St W0 (w.setCells b o vs) K (.raw b (setAw c o vs) T::L)
 |[],_,_,_,h=>h
 |v::r,o,_,_,h=>St.rawSets r (o+1) _ _ (h.rawSet o v)
theorem St.storeEx{b:Nat}{c:Array Value}{T:TypeId}(h:St W0 w K (.raw b c T::L))(cs:Array Value):∃wz,w.setCells b 0 cs.toList=wz∧St W0 wz K (.raw b (setAw c 0 cs.toList) T::L):=⟨_,rfl,h.rawSets _ _ _ _⟩
theorem St.allocEx(h:St W0 w K L)(c:Array Value)(T:TypeId):∃wy b,w.alloc (.cells c T (0,0))=wy∧w.heap.size=b∧St W0 wy K (.raw b c T::L):=⟨_,_,rfl,rfl,h.allocRaw c T⟩
variable {W0 w:World}{K:Know}{L:List Res}
theorem zTr(a c:Bs):(zBf 0#32 [a,c]).toNat=(zAF 0#32 (a++c)).toNat:=by
 rw[zJA]
 simp
theorem zNO(b r:Nat)(a c:Bs)(x:Nat)(hx:(zBf 0#32 [a,c]).toNat=x)(hs:∀s∈[a,c],s.length≤140737488355328)(hl:[a,c].length≤9223372036854775807)(h:St W0 w K (.raw r #[Z (bb a),Z (bb c)] 9::.raw b (tabC 256) 295::L)):
 Calls Jb 142 #[zJ0 b,V (some ⟨r,0,none⟩) 2 2] w fun en w'=>en=Y (.int .u32 x)∧St W0 w' K (.raw b (tabC 256) 295::L):=zSn b r 2 [a,c] x rfl hx hs hl h
theorem zQ9(said rows:Bs)(x:Nat)(hx:(zAF 0#32 (said.drop 21++rows)).toNat=x)(hl:21≤said.length)(hl2:said.length≤140737488355328)(hr:rows.length≤140737488355328)(h:St W0 w K L):
  Calls Jb 86 #[Z (bb said),Z (bb rows)] w fun en w'=>en=Y (I O x)∧St W0 w' K L:=by
 have H:=hQd h;have HX:=hQd (show(zBf 0#32 [said.drop 21,rows]).toNat=x by rw[zTr];exact hx)
 have HSS:=hQd (show ∀s∈[said.drop 21,rows],s.length≤140737488355328 by
  intro s hs;simp only[List.mem_cons,List.not_mem_nil,or_false]at hs
  rcases hs with rfl|rfl
  · rw[Jh];omega
  · exact hr)
 have HLS:=hQd (show[said.drop 21,rows].length≤9223372036854775807 by simp);have HT:=hQd (show Jl (said.length - 21) (Jo 21 said)=said.drop 21 from List.take_of_length_le (by rw[Jh];omega));have hx32:x<4294967296:=by rw[←hx];exact(zAF 0#32 (said.drop 21++rows)).isLt
 have l21:(21:Int)≤(said.length:Int):=by omega
 have w1:IntKind.i64.wrap (x:Int)=(x:Int):=IntWalk.i64_in _ oM;have w2:wrap64 (x:Int)=(x:Int):=by unfold wrap64;omega
 clear h hx hl hl2 hr hx32;go_enter Tryz.func86,Tryz.ntmps86;go_upto_region 1 with (fail);have hs:=H.out.drew;refine wp_region_held_drew (S:=fun _=>True) kR trivial (fun hHeld=> ?_);clear H;generalize w.drew=wd at hs ⊢;refine tR 1 ?_;refine tR 2 ?_;refine tR 3 ?_;refine wR [0,4] (rC rfl (fun KK hK=> ?_) (rC rfl (fun KK hK=> ?_) rN))
 focus
  go_simp;go_at_call 141;with_reducible refine(zQX hs).mono ?_;rintro e wq ⟨bt,rfl,hs⟩;refine zK hK (trivial) (fun hHeld=> ?_);clear hK KK
  refine wR [4] (rC rfl (fun KK hK=> ?_) rN);obtain⟨wy,bS,ey,eb,hs⟩:=hs.allocEx #[Z (bb (said.drop 21)),Z (bb rows)] 9;go_simp
  try rw[HT.out]
  try rw[ey]
  try rw[eb]
  clear ey eb;refine zK hK (trivial) (fun hHeld=> ?_);clear hK KK
  refine wR [5] (rC rfl (fun KK hK=> ?_) rN);go_simp;go_at_call 142;with_reducible refine(zNO bt bS (said.drop 21) rows x HX.out HSS.out HLS.out (hs)).mono ?_
 rotate_left
 focus
  obtain⟨wy,bS,ey,eb,hs⟩:=hs.allocEx #[Z (bb (said.drop 21)),Z (bb rows)] 9;go_simp
  try rw[HT.out]
  try rw[ey]
  try rw[eb]
  clear ey eb;refine zK hK (trivial) (fun hHeld=> ?_);clear hK KK
  refine wR [0] (rC rfl (fun KK hK=> ?_) rN);go_simp;go_at_call 141;with_reducible refine(zQX hs).mono ?_;rintro e wq ⟨bt,rfl,hs⟩;refine zK hK (trivial) (fun hHeld=> ?_);clear hK KK
  refine wR [5] (rC rfl (fun KK hK=> ?_) rN);go_simp;go_at_call 142;with_reducible refine(zNO bt bS (said.drop 21) rows x HX.out HSS.out HLS.out (hs.p1)).mono ?_
 all_goals
  rintro e wq ⟨rfl,hs⟩;refine zK hK (trivial) (fun hHeld=> ?_);clear hK KK
  refine tR 6 ?_;refine tR 7 ?_;refine wpAnyH_done kR ?_ _;clear hHeld;go_wp2_with fail;go_ret;exact⟨rfl,hs.drop⟩
def zAi (n:Int) (i:Nat):Bool:=decide (n / 2 ^ i % 2=1)
def R64 (n:Int):Prop:= -9223372036854775808≤n∧n<9223372036854775808
theorem zFW(k:Nat)(h:k<18446744073709551616):IntKind.i64.wrap (k:Int)=0↔k=0:=by
 rw[IntKind.wrap_i64];omega
theorem zCQ(n:Int):((BitVec.ofInt 64 n).toNat:Int)=n % 18446744073709551616:=by
 rw[BitVec.toNat_ofInt];have:(0:Int)≤n % ((2 ^ 64:Nat):Int):=Int.emod_nonneg _ (by decide);rw[Int.toNat_of_nonneg this]
 rfl
theorem zMA(n:Int)(i:Nat)(hi:i<64):(BitVec.ofInt 64 n).toNat.testBit i=zAi n i:=by
 obtain⟨m,hm⟩:∃m,(BitVec.ofInt 64 n).toNat=m:=⟨_,rfl⟩;have h:=zCQ n;rw[hm]at h;rw[hm,Nat.testBit_eq_decide_div_mod_eq];unfold zAi
 apply decide_eq_decide.mpr
 have hd:((2:Int) ^ i)*(2*2 ^ (63 - i))=18446744073709551616:=by
  rw[←Int.mul_assoc,Int.mul_comm _ 2,Int.mul_assoc,←Int.pow_add,show i+(63 - i)=63 by omega];decide
 have hp:(0:Int)<2 ^ i:=Int.pow_pos (by decide)
 have e:n=(m:Int)+2 ^ i*(2*(2 ^ (63 - i)*(n / 18446744073709551616))):=by
  have h1:=Int.mul_ediv_add_emod n 18446744073709551616;rw[←Int.mul_assoc 2,←Int.mul_assoc (2 ^ i),hd]
  omega
 have e2:n / 2 ^ i=(m:Int) / 2 ^ i+2*(2 ^ (63 - i)*(n / 18446744073709551616)):=by
  have:=Int.add_mul_ediv_left (m:Int) (2*(2 ^ (63 - i)*(n / 18446744073709551616))) (Int.ne_of_gt hp);rw[←e]at this;exact this
 have e3:((m:Int) / 2 ^ i)=((m / 2 ^ i:Nat):Int):=by
  rw[Int.natCast_ediv,Int.natCast_pow];rfl
 rw[e2,e3,Int.add_mul_emod_self_left]
 omega
theorem zM7(n:Int)(i:Nat)(hi:i<63)(m:Int)(hm:BitVec.ofInt 64 m=BitVec.twoPow 64 i):(bits .and .i64 n m !=0)=zAi n i:=by
 have e:bits .and .i64 n m=IntKind.i64.wrap ((BitVec.ofInt 64 n &&& BitVec.ofInt 64 m).toNat:Int):=rfl;have hb:(BitVec.ofInt 64 n).getLsbD i=zAi n i:=zMA n i (by omega);have hp:2 ^ i<2 ^ 64:=Nat.pow_lt_pow_right (by decide) (by omega);rw[e,hm,BitVec.and_twoPow,hb]
 cases zAi n i
 ·rw[if_neg (by decide)]
  decide
 ·rw[if_pos rfl,bne_iff_ne,Ne,zFW _ (BitVec.isLt _),BitVec.toNat_twoPow,Nat.mod_eq_of_lt hp];exact Nat.ne_of_gt (Nat.two_pow_pos i)
theorem and7(n:Int):(bits .and .i64 n 7 !=0)=(zAi n 0||zAi n 1||zAi n 2):=by
 have e:bits .and .i64 n 7=IntKind.i64.wrap ((BitVec.ofInt 64 n &&& BitVec.ofInt 64 7).toNat:Int):=rfl;have hlt:=(BitVec.ofInt 64 n &&& BitVec.ofInt 64 7).isLt;have hz:=zFW _ hlt
 have h2:(BitVec.ofInt 64 n &&& BitVec.ofInt 64 7).toNat=(BitVec.ofInt 64 n).toNat % 8:=by
  rw[BitVec.toNat_and,show(BitVec.ofInt 64 7).toNat=2 ^ 3 - 1 by decide,Nat.and_two_pow_sub_one_eq_mod]
 have h3:=zCQ n;rw[h2]at e hz;rw[Bool.eq_iff_iff,bne_iff_ne,e,Ne,hz];unfold zAi
 simp
 omega
theorem zSx(n:Int)(hn:R64 n)(h:(zAi n 0||zAi n 1||zAi n 2)=false):(bits .andNot .i64 n 56 !=0)=(decide (n<0)||decide (63<n)):=by
 have h8:n % 8=0:=by unfold zAi at h;simp at h;omega
 by_cases h1:0≤n∧n≤63
 ·rw[decide_eq_false (by omega),decide_eq_false (by omega)];obtain⟨q,hq⟩:∃q,n=8*q:=⟨n / 8,by omega⟩
  rcases(by omega:q=0∨q=1∨q=2∨q=3∨q=4∨q=5∨q=6∨q=7)with h|h|h|h|h|h|h|h<;>(subst h;subst hq;decide)
 ·have hr:(decide (n<0)||decide (63<n))=true:=by simp;omega
  rw[hr,bne_iff_ne];intro h0;have e:bits .andNot .i64 n 56=IntKind.i64.wrap ((BitVec.ofInt 64 n &&& ~~~ BitVec.ofInt 64 56).toNat:Int):=rfl;rw[e,zFW _ (BitVec.isLt _)]at h0
  have h2:∀i,6≤i→(BitVec.ofInt 64 n).toNat.testBit i=false:=by
   intro i hi
   by_cases h64:i<64
   ·have h4:=congrArg (fun k=>Nat.testBit k i) h0
    have h5:(BitVec.ofInt 64 n &&& ~~~ BitVec.ofInt 64 56).getLsbD i=false:=by
     have:(BitVec.ofInt 64 n &&& ~~~ BitVec.ofInt 64 56).toNat.testBit i=false:=by rw[h0];exact Nat.zero_testBit i
     exact this
    rw[BitVec.getLsbD_and,BitVec.getLsbD_not]at h5
    have h6:(BitVec.ofInt 64 56).getLsbD i=false:=by
     have:(BitVec.ofInt 64 56).toNat=56:=by decide
     unfold BitVec.getLsbD;rw[this];exact Nat.testBit_lt_two_pow (Nat.lt_of_lt_of_le (by decide:56<2 ^ 6) (Nat.pow_le_pow_right (by decide) hi))
    rw[h6]at h5;have h11:(BitVec.ofInt 64 n).getLsbD i=false:=by cases hc:(BitVec.ofInt 64 n).getLsbD i<;>simp_all
    exact h11
   ·exact BitVec.getLsbD_of_ge _ _ (by omega)
  have h7:(BitVec.ofInt 64 n).toNat<2 ^ 6:=Nat.lt_pow_two_of_testBit _ h2;have h8:=zCQ n;have h9:=hn.1;have h10:=hn.2
  omega
def chk (n:Int):Int:=if (zAi n 0||zAi n 1||zAi n 2)=true then 9 else if (decide (n<0)||decide (63<n)||(zAi n 5 && !zAi n 4))=true then 8 else 0
def zAY (a t c:Bool) (k:Nat):Int:=(if a && decide (0<k)then 8 else 0)+(if t && decide (1<k)then 16 else 0)+(if c && decide (2<k)then 32 else 0)
theorem and8(n:Int):(bits .and .i64 n 8 !=0)=zAi n 3:=zM7 n 3 dD 8 dD
theorem and16(n:Int):(bits .and .i64 n 16 !=0)=zAi n 4:=zM7 n 4 dD 16 dD
theorem and32(n:Int):(bits .and .i64 n 32 !=0)=zAi n 5:=zM7 n 5 dD 32 dD
theorem and16z(n:Int):(bits .and .i64 n 16==0)= !zAi n 4:=by rw[←and16];simp[bne]
theorem zRc(n:Int)(w:World):
 Calls Jb 196 #[I O n] w fun en w'=>en=Y (.tuple #[U (zAi n 3),U (zAi n 4),U (zAi n 5)])∧w=w':=by
 have h1:=and8 n;have h2:=and16 n;have h3:=and32 n;go_enter Tryz.func196,Tryz.ntmps196;go_wp2;go_ret3;rw[←h1,←h2,←h3];exact⟨rfl,rfl⟩
theorem zO6(n:Int)(hn:R64 n)(w:World):
 Calls Jb 194 #[I O n] w fun en w'=>en=Y (I O (chk n))∧w=w':=by
 have a7:=and7 n;have a56:=zSx n hn;have a16:=and16z n;have a32:=and32 n;clear hn;have hc:chk n=chk n:=rfl
 conv at hc=>rhs;unfold chk
 cases hb:(zAi n 0||zAi n 1||zAi n 2)
 ·rw[hb]at a7 hc;rw[hb]at a56;replace a56:=a56 rfl
  cases hd:(decide (n<0)||decide (63<n))
  ·rw[hd]at a56 hc
   cases h5:zAi n 5
   ·rw[h5]at a32 hc;have HC:=hQd (show chk n=0 from hc);clear hc hd hb h5;go_enter Tryz.func194,Tryz.ntmps194;go_wp2;go_ret;rw[HC.out];exact⟨rfl,rfl⟩
   ·rw[h5]at a32 hc
    cases h4:zAi n 4
    ·rw[h4]at a16 hc;have HC:=hQd (show chk n=8 from hc);clear hc hd hb h5 h4;go_enter Tryz.func194,Tryz.ntmps194;go_wp2;go_ret;rw[HC.out];exact⟨rfl,rfl⟩
    ·rw[h4]at a16 hc;have HC:=hQd (show chk n=0 from hc);clear hc hd hb h5 h4;go_enter Tryz.func194,Tryz.ntmps194;go_wp2;go_ret;rw[HC.out];exact⟨rfl,rfl⟩
  ·rw[hd]at a56 hc;have HC:=hQd (show chk n=8 from hc);clear hc hd hb;go_enter Tryz.func194,Tryz.ntmps194;go_wp2;go_ret;rw[HC.out];exact⟨rfl,rfl⟩
 ·rw[hb]at a7 hc;have HC:=hQd (show chk n=9 from hc);clear hc hb a56;go_enter Tryz.func194,Tryz.ntmps194;go_wp2;go_ret;rw[HC.out];exact⟨rfl,rfl⟩
abbrev aBatch (base leader:Int) (a t c:Bool) (last first max prod epoch sq:Int) (ro:Option Addr) (e k:Nat):Value:=
 .agg #[I O base,I O leader,U a,U t,U c,I O last,I O first,I O max,I O prod,I O epoch,I O sq,V ro e k]
theorem zTv(base leader:Int)(a t c:Bool)(last first max prod epoch sq:Int)(ro:Option Addr)(e k:Nat){W0 w:World}{K:Know}{L:List Res}(h:St W0 w K L):
 Calls Jb 139 #[aBatch base leader a t c last first max prod epoch sq ro e k] w fun en w'=>en=Y (I O (zAY a t c 3))∧St W0 w' K L:=by
 have H:=hQd h;clear h;go_enter Tryz.func139,Tryz.ntmps139;go_wp2
 go_loop [4,15] (fun nv kv=>∃(k:Nat),k≤3∧kv=I O k∧nv=I O (zAY a t c k)) (fun _ kv=>3 - (intOf kv).toNat)
 case atStart=>exact⟨0,dD,rfl,by simp[zAY]⟩
 case round=>
  obtain⟨k,hk,rfl,rfl⟩:=hrel;have e1:zAY true t c 1=bits .or .i64 (zAY true t c 0) 8:=by cases t<;>cases c<;>decide
  have e2:zAY a true c 2=bits .or .i64 (zAY a true c 1) 16:=by cases a<;>cases c<;>decide
  have e3:zAY a t true 3=bits .or .i64 (zAY a t true 2) 32:=by cases a<;>cases t<;>decide
  have f1:zAY false t c 1=zAY false t c 0:=by cases t<;>cases c<;>decide
  have f2:zAY a false c 2=zAY a false c 1:=by cases a<;>cases c<;>decide
  have f3:zAY a t false 3=zAY a t false 2:=by cases a<;>cases t<;>decide
  have E:=hQd (And.intro e1 (And.intro e2 (And.intro e3 (And.intro f1 (And.intro f2 f3)))));clear e1 e2 e3 f1 f2 f3;have i0:∀w:World,(Instr.index 293 (.agg #[U a,U t,U c]) (I O 0)).run Jb w=.ok (U a) w:=fun _=>by kernel_rfl
  have i1:∀w:World,(Instr.index 293 (.agg #[U a,U t,U c]) (I O 1)).run Jb w=.ok (U t) w:=fun _=>by kernel_rfl
  have i2:∀w:World,(Instr.index 293 (.agg #[U a,U t,U c]) (I O 2)).run Jb w=.ok (U c) w:=fun _=>by kernel_rfl
  rcases(by omega:k=0∨k=1∨k=2∨k=3)with h|h|h|h
  ·subst h
   cases a
   all_goals
    go_wp2
    go_round
    case rel=>exact⟨1,dD,rfl,congrArg (Value.int .i64) (by first|exact E.out.2.2.2.1.symm|exact E.out.1.symm)⟩
    case measure=>decide
  ·subst h
   cases t
   all_goals
    go_wp2
    go_round
    case rel=>exact⟨2,dD,rfl,congrArg (Value.int .i64) (by first|exact E.out.2.2.2.2.1.symm|exact E.out.2.1.symm)⟩
    case measure=>decide
  ·subst h
   cases c
   all_goals
    go_wp2
    go_round
    case rel=>exact⟨3,dD,rfl,congrArg (Value.int .i64) (by first|exact E.out.2.2.2.2.2.symm|exact E.out.2.2.1.symm)⟩
    case measure=>decide
  ·subst h;go_wp2;go_ret;exact⟨rfl,(H.out.alloc _).alloc _⟩
variable {W0 w:World}{K:Know}{L:List Res}
theorem zHP:∀(vs:List Value) (o:Nat) (c:Array Value) (i:Nat),(setAw c o vs)[i]? =if o≤i∧i<o+vs.length∧i<c.size then vs[i - o]? else c[i]?
 |[],o,c,i=>by
  show c[i]? =_
  rw[if_neg (by simp;omega)]
 |v::r,o,c,i=>by
  show(setAw (c.setIfInBounds o v) (o+1) r)[i]? =_
  rw[zHP r (o+1) _ i];simp only[Array.size_setIfInBounds,Jn]
  by_cases h1:o+1≤i∧i<o+1+r.length∧i<c.size
  ·rw[if_pos h1,if_pos oM];obtain⟨k,rfl⟩:∃k,i=o+1+k:=⟨i - (o+1),oM⟩;rw[show o+1+k - (o+1)=k by omega,show o+1+k - o=k+1 by omega]
   rfl
  ·rw[if_neg h1,Array.getElem?_setIfInBounds]
   by_cases h2:o=i
   ·subst h2;rw[if_pos rfl]
    by_cases h3:o<c.size
    ·rw[if_pos h3,if_pos oM,Nat.sub_self];rfl
    ·rw[if_neg h3,if_neg oM,Array.getElem?_eq_none oM]
   ·rw[if_neg h2,if_neg oM]
theorem zHQ(c cs:Array Value)(h:c.size=cs.size):setAw c 0 cs.toList=cs:=by
 refine Array.ext_getElem? fun i=> ?_
 rw[zHP]
 by_cases h1:i<cs.size
 ·rw[if_pos (by simp;omega),Nat.sub_zero,Array.getElem?_toList]
 ·rw[if_neg (by simp;omega),Array.getElem?_eq_none oM,Array.getElem?_eq_none oM]
theorem zSv(base leader:Int)(app txn ctl:Bool)(last first maxt prod epoch sq:Int)(q:Option Addr)(n cap:Nat)(h:St W0 w K L):
 Calls Jb 139 #[.agg #[I O base,I O leader,U app,U txn,U ctl,I O last,I O first,I O maxt,I O prod,I O epoch,I O sq,V q n cap]] w fun en w'=>en=Y (I O (zAY app txn ctl 3))∧St W0 w' K L:=zTv base leader app txn ctl last first maxt prod epoch sq q n cap h
theorem zSt(base leader:Int)(app txn ctl:Bool)(last first maxt prod epoch sq:Int)(l:List (RecS×Value))(q:Option Addr)(cap:Nat)(size:Nat)(hsz:size≤140737488355328)(h:St W0 w K L):
 Calls Jb 84 #[.agg #[I O base,I O leader,U app,U txn,U ctl,I O last,I O first,I O maxt,I O prod,I O epoch,I O sq,V q l.length cap],I O size] w fun en w'=>en=Y (.agg #[I O base,I O (49+size),I O leader,I O 0,I O (zAY app txn ctl 3),I O last,I O first,I O maxt,I O prod,I O epoch,I O sq,I O l.length])∧St W0 w' K L:=by
 have g1:=h.allocRaw #[I O base,I O leader,U app,U txn,U ctl,I O last,I O first,I O maxt,I O prod,I O epoch,I O sq,V q l.length cap] 101;have g2:=(g1.allocRaw #[I O 0,I O 0,I O 0,I O 0,I O 0,I O 0,I O 0,I O 0,I O 0,I O 0,I O 0,I O 0] 163).p1;obtain⟨hb,hhb⟩:=eX w.heap.size;obtain⟨rb,hrb⟩:=eX (hb+1);simp only[World.size_alloc,hhb,hrb]at g2;have H:=hQd g2;have w1:IntKind.i64.wrap (49+(size:Int))=49+(size:Int):=IntWalk.i64_in _ oM;clear g1 g2 h hsz;go_enter Tryz.func84,Tryz.ntmps84;go_upto_region 1 with (fail);have hs:=H.out.drew;refine wp_region_held_drew (S:=fun w'=>w'.cell? ⟨hb,0,none⟩=some (I O base)∧w'.cell? ⟨hb,1,none⟩=some (I O leader)∧w'.cell? ⟨hb,2,none⟩=some (U app)∧w'.cell? ⟨hb,3,none⟩=some (U txn)∧w'.cell? ⟨hb,4,none⟩=some (U ctl)∧w'.cell? ⟨hb,5,none⟩=some (I O last)∧w'.cell? ⟨hb,6,none⟩=some (I O first)∧w'.cell? ⟨hb,7,none⟩=some (I O maxt)∧w'.cell? ⟨hb,8,none⟩=some (I O prod)∧w'.cell? ⟨hb,9,none⟩=some (I O epoch)∧w'.cell? ⟨hb,10,none⟩=some (I O sq)∧w'.cell? ⟨hb,11,none⟩=some (V q l.length cap)) kR (let ⟨x0,x1,x2,x3,x4,x5,x6,x7,x8,x9,x10,x11,_⟩:=zAf (b:=hb) (hs);⟨x0,x1,x2,x3,x4,x5,x6,x7,x8,x9,x10,x11⟩) (fun hHeld=> ?_);refine tR 0 ?_;refine tR 1 ?_;refine tR 2 ?_;refine tR 3 ?_;refine tR 4 ?_;refine tR 5 ?_;refine tR 6 ?_;refine tR 8 ?_;refine tR 9 ?_;refine tR 10 ?_;refine tR 11 ?_;refine tR 12 ?_;refine tR 13 ?_;refine tR 14 ?_;refine tR 15 ?_;refine tR 16 ?_;refine tR 17 ?_;refine tR 18 ?_;refine tR 19 ?_;refine tR 20 ?_;refine tR 21 ?_;refine tR 22 ?_;refine wR [7] (rC rfl (fun KK hK=> ?_) rN);go_simp;go_at_call 139;with_reducible refine(zSv base leader app txn ctl last first maxt prod epoch sq q l.length cap hs).mono ?_;rintro e wq ⟨rfl,hs⟩;refine hK.out _ _ (let ⟨x0,x1,x2,x3,x4,x5,x6,x7,x8,x9,x10,x11,_⟩:=zAf (b:=hb) (hs);⟨x0,x1,x2,x3,x4,x5,x6,x7,x8,x9,x10,x11⟩) (fun hHeld=> ?_);clear hK KK
 try simp only[Act.put,sA,sB,sC]
 refine tR 23 ?_;refine wR [24] (rC rfl (fun KK hK=> ?_) rN);have hs:=hs.p1;rw[if_pos (by rfl)];refine wp_store_mid 163 (.tmp 4) (.tmp 28) rfl rb 0 #[I O base,I O (49+size),I O leader,I O 0,I O (zAY app txn ctl 3),I O last,I O first,I O maxt,I O prod,I O epoch,I O sq,I O l.length] (by rfl) (by rfl) hs.there kR (by simp[Value.oneCell']) ?_;obtain⟨wz,ez,hs⟩:=hs.storeEx #[I O base,I O (49+size),I O leader,I O 0,I O (zAY app txn ctl 3),I O last,I O first,I O maxt,I O prod,I O epoch,I O sq,I O l.length];rw[ez];clear ez;refine hK.out _ _ (let ⟨x0,x1,x2,x3,x4,x5,x6,x7,x8,x9,x10,x11,_⟩:=zAf (b:=hb) (hs.p1);⟨x0,x1,x2,x3,x4,x5,x6,x7,x8,x9,x10,x11⟩) (fun hHeld=> ?_);clear hK KK
 try simp only[Act.put]
 refine wpAnyH_done kR ?_ _;clear hHeld;rw[zHQ]at hs;rotate_left
 ·rfl
 have hz:St W0 _ K (.raw rb #[I O base,I O (49+size),I O leader,I O 0,I O (zAY app txn ctl 3),I O last,I O first,I O maxt,I O prod,I O epoch,I O sq,I O l.length] 163::_):=hs;go_wp2_with fail;refine bodyPost_ret (zAO rfl _ _ rb [I O base,I O (49+size),I O leader,I O 0,I O (zAY app txn ctl 3),I O last,I O first,I O maxt,I O prod,I O epoch,I O sq,I O l.length] _ rfl (zBR hz) Tryz.underlying163 rfl kR) rfl ?_;exact⟨rfl,hz.drop.drop⟩
theorem glue{l a:Bs}{n m:Nat}(h:a=(l.drop n).take m):a++l.drop (n+m)=l.drop n:=by
 rw[h,←Jk,List.take_append_drop]
theorem zMn{s:Bs}{x:RecS}(h:zCc s=.ok x):recF x=s∧zA5 x=0∧x.R∧x.sum≤s.length:=by
 unfold zCc at h
 cases h0:zAJ 1 s with
 |error e=>rw[h0]at h;cases h
 |ok a=>
  rw[h0]at h;simp only at h
  by_cases ha:a.1=0
  ·rw[if_pos ha]at h
   obtain⟨c,t,rfl⟩:∃c t,s=c::t:=by
    cases s with
    |nil=>cases h0
    |cons c t=>exact⟨c,t,rfl⟩
   have hc:c=0:=by
    have:(.ok (zFI c,1):Except Int (Int×Nat))=.ok a:=by rw[←h0];unfold zAJ;rw[if_neg sM];rfl
    cases this
    have hn:=c.toNat_lt;have h2:zFI c=0:=ha;unfold zFI at h2;exact UInt8.toNat_inj.1 (show c.toNat=0 by split at h2<;>omega)
   subst hc
   cases h1:zDT ((0::t:Bs).drop 1)with
   |error e=>rw[h1]at h;cases h
   |ok x1=>
    obtain⟨tm,k⟩:=x1;rw[h1]at h;simp only at h
    cases h2:zB0 ((0::t:Bs).drop (1+k))with
    |error e=>rw[h2]at h;cases h
    |ok x2=>
     obtain⟨o,m⟩:=x2;rw[h2]at h;simp only at h
     by_cases ho:o<0
     ·rw[if_pos ho]at h;cases h
     rw[if_neg ho]at h
     cases h3:zAn ((0::t:Bs).drop (1+k+m))with
     |error e=>rw[h3]at h;cases h
     |ok x3=>
      obtain⟨kb,ka⟩:=x3;rw[h3]at h;simp only at h
      cases h4:zAn ((0::t:Bs).drop (1+k+m+ka))with
      |error e=>rw[h4]at h;cases h
      |ok x4=>
       obtain⟨vb,va⟩:=x4;rw[h4]at h;simp only at h
       cases h5:zDb ((0::t:Bs).drop (1+k+m+ka+va))with
       |error e=>rw[h5]at h;cases h
       |ok x5=>
        obtain⟨l,ha5⟩:=x5;rw[h5]at h;simp only at h
        by_cases hf:1+k+m+ka+va+ha5=(0::t:Bs).length
        ·rw[if_pos hf]at h
         cases h
         obtain⟨g1,_,_,r1,r2⟩:=zJU h1;obtain⟨g2,_,_,r3,r4⟩:=zEa h2;obtain⟨g3,_,b3,c3,_,d3⟩:=zBk h3;obtain⟨g4,_,b4,c4,_,d4⟩:=zBk h4;obtain⟨g5,_,b5,c5,d5⟩:=zOp h5;refine⟨?_,?_,⟨⟨r1,r2⟩,by constructor<;>simp only<;>omega⟩,?_⟩
         ·unfold recF;simp only;have q5:=glue g5;rw[List.drop_eq_nil_of_le oM,Jp]at q5;rw[q5,glue g4,glue g3];have q2:encI o++(0::t:Bs).drop (1+k+m)=(0::t:Bs).drop (1+k):=glue g2;have q1:encI tm++(0::t:Bs).drop (1+k)=(0::t:Bs).drop 1:=glue g1;rw[q2,q1]
          rfl
         ·unfold zA5 RecS.allRight;simp only;rw[if_neg oM,c3,c4,c5]
          rfl
         ·unfold RecS.sum;simp only;have e3:kb.data.length≤ka:=by split at d3<;>omega
          have e4:vb.data.length≤va:=by split at d4<;>omega
          omega
        ·rw[if_neg hf]at h;cases h
  ·rw[if_neg ha]at h;cases h
theorem zGn{s:Bs}{x:RecS}{m:Nat}(h:zIV s=.ok (x,m)):encR x=s.take m∧zA5 x=0∧x.R∧x.sum≤s.length∧0<m∧m≤s.length:=by
 unfold zIV at h
 cases h1:zAn s with
 |error e=>rw[h1]at h;cases h
 |ok b=>
  obtain⟨⟨n,d⟩,k⟩:=b;rw[h1]at h;simp only at h;obtain⟨g1,g2,g3,_,_,g5⟩:=zBk h1
  cases n with
  |true=>cases h
  |false=>
   simp only[Bool.false_eq_true,if_false]at h
   cases h2:zCc d with
   |error e=>rw[h2]at h;cases h
   |ok y=>
    rw[h2]at h
    cases h
    obtain⟨k1,k2,k3,k4⟩:=zMn h2;simp at g5;exact⟨by unfold encR;rw[k1];exact g1,k2,k3,oM,g2,g3⟩
theorem zJi:∀(l:List HdrS) (N:Nat),hsum l≤N→∀x∈l,x.key.length≤N∧x.val.data.length≤N
 |[],_,_,_,h=>by cases h
 |y::t,N,hh,x,hx=>by
  simp only[hsum,List.map_cons,List.sum_cons]at hh
  rcases List.mem_cons.1 hx with rfl|hx
  ·omega
  ·exact zJi t N (by simp only[hsum];omega) x hx
theorem zLN:∀(n:Nat) (rows:Bs) (pos:Nat) (rs:List RecS),pos≤rows.length→unp n ⟨rows,pos,0⟩=.ok rs→rs.length=n∧rs.length+pos≤rows.length∧∀x∈rs,x.R∧zA5 x=0∧x.sum≤rows.length
 |0,rows,pos,rs,hp,h=>by
  unfold unp at h
  split at h
  ·cases h;exact⟨rfl,by simpa using hp,fun x hx=>by cases hx⟩
  ·cases h
 |n+1,rows,pos,rs,hp,h=>by
  have h:(if (⟨rows,pos,0⟩:InS).left=0 then .error 10 else if (⟨rows,pos,0⟩:InS).record.2.err=0 then zLg (⟨rows,pos,0⟩:InS).record.1 (unp n (⟨rows,pos,0⟩:InS).record.2)else .error (⟨rows,pos,0⟩:InS).record.2.err)=.ok rs:=h
  by_cases c1:(⟨rows,pos,0⟩:InS).left=0
  ·rw[if_pos c1]at h;cases h
  rw[if_neg c1]at h
  cases hr:zIV (rows.drop pos)with
  |error e=>
   obtain⟨he,q,_,hf⟩:=zGq.err rows pos e hp hr;rw[hf]at h;simp only at h;rw[if_neg he]at h
   cases h
  |ok y=>
   obtain⟨x,m⟩:=y;obtain⟨hpm,hf⟩:=zGq.ok rows pos x m hp hr;rw[hf]at h;simp only[if_true]at h
   cases hu:unp n ⟨rows,pos+m,0⟩with
   |error e=>rw[hu]at h;cases h
   |ok t=>
    rw[hu]at h;have h:Except.ok (x::t)=Except.ok rs:=h;injection h with h;subst h;obtain⟨i1,i2,i3⟩:=zLN n rows (pos+m) t hpm hu;obtain⟨_,j1,j2,j3,j4,j5⟩:=zGn hr;rw[Jh]at j3 j5;refine⟨by simp[i1],by simp only[Jn];omega,fun y hy=> ?_⟩
    rcases List.mem_cons.1 hy with rfl|hy
    ·exact⟨j2,j1,oM⟩
    ·exact i3 y hy
theorem zNb{n:Nat}{rows:Bs}{rs:List RecS}{l:List (RecS×Value)}(hu:unp n ⟨rows,0,0⟩=.ok rs)(hl:l.map (·.1)=rs)(hr:rows.length≤1000000):FitB l∧l.length≤1000000:=by
 obtain⟨i1,i2,i3⟩:=zLN n rows 0 rs (Jd _) hu
 constructor
 ·intro x hx;have hm:x.1∈rs:=by rw[←hl];exact List.mem_map.2 ⟨x,hx,rfl⟩
  obtain⟨a,_,c⟩:=i3 x.1 hm;refine⟨a,fun y hy=> ?_,oM⟩;have h1:hsum x.1.hdrs≤1000000:=by unfold RecS.sum at c;omega
  have:=zJi x.1.hdrs 1000000 h1 y hy
  omega
 ·have:l.length=rs.length:=by rw[←hl,Jj]
  omega
def asmB (x:PreS) (said rows:Bs):Except Int BatS:=
 if ((zAF 0#32 (said.drop 21++rows)).toNat:Int)≠x.sum then .error 5
 else if chk x.attr≠0 then .error (chk x.attr)
 else match unp x.count.toNat ⟨rows,0,0⟩with
  | .error e=> .error e
  | .ok rs=>if zAj ⟨x.base,x.leader,zAi x.attr 3,zAi x.attr 4,zAi x.attr 5,x.last,x.first,x.maxt,x.prod,x.epoch,x.seq,rs⟩=0 then .ok ⟨x.base,x.leader,zAi x.attr 3,zAi x.attr 4,zAi x.attr 5,x.last,x.first,x.maxt,x.prod,x.epoch,x.seq,rs⟩else .error (zAj ⟨x.base,x.leader,zAi x.attr 3,zAi x.attr 4,zAi x.attr 5,x.last,x.first,x.maxt,x.prod,x.epoch,x.seq,rs⟩)
theorem zO5(n:Int)(h:St W0 w K L):
 Calls Jb 196 #[I O n] w fun en w'=>en=Y (.tuple #[U (zAi n 3),U (zAi n 4),U (zAi n 5)])∧St W0 w' K L:=(zRc n w).mono fun _ _ hh=>⟨hh.1,hh.2 ▸ h⟩
theorem zM6(n e:Int)(he:chk n=e)(hn:R64 n)(h:St W0 w K L):
 Calls Jb 194 #[I O n] w fun en w'=>en=Y (I O e)∧St W0 w' K L:=(zO6 n hn w).mono fun _ _ hh=>⟨he ▸ hh.1,hh.2 ▸ h⟩
theorem zIJ(b:Nat)(i j:InS)(n:Int)(s:Bs)(hx:i.take n=(s,j))(h:St W0 w K (.inp b i::L)):
 Calls Jb 67 #[zAe b,I O n] w fun en w'=>en=Y (Z (bb s))∧St W0 w' K (.inp b j::L):=by
 have:=zSD b i n h;rw[hx]at this;exact this
theorem zSW(b:Nat)(i j:InS)(e:Int)(hx:i.fail e=j)(h:St W0 w K (.inp b i::L)):
 Calls Jb 70 #[zAe b,I O e] w fun en w'=>en=Y (.tuple #[])∧St W0 w' K (.inp b j::L):=by
 subst hx;exact zBV b i e h
theorem zFO(b:Nat)(i j:InS)(e:Int)(hx:i.close=j)(he:j.err=e)(h:St W0 w K (.inp b i::L)):
 Calls Jb 25 #[zAe b] w fun en w'=>en=Y (I O e)∧St W0 w' K (.inp b j::L):=by
 subst hx he;exact zE0 b i h
theorem zSB:∀(n:Nat) (i:InS) (e:Int),unp n i=.error e→e≠0
 |0,i,e,h=>by
  unfold unp at h
  split at h
  ·cases h
  ·cases h;decide
 |n+1,i,e,h=>by
  have h:(if i.left=0 then .error 10 else if i.record.2.err=0 then zLg i.record.1 (unp n i.record.2)else .error i.record.2.err)=.error e:=h
  by_cases c1:i.left=0
  ·rw[if_pos c1]at h;cases h;decide
  rw[if_neg c1]at h
  by_cases c2:i.record.2.err=0
  ·rw[if_pos c2]at h
   cases hu:unp n i.record.2 with
   |ok t=>rw[hu]at h;cases h
   |error f=>
    rw[hu]at h;have h:Except.error f=Except.error e:=h;injection h with h;subst h;exact zSB n _ _ hu
  ·rw[if_neg c2]at h;injection h with h;exact h ▸ c2
theorem zTz{x:PreS}{said rows:Bs}{e:Int}(h:asmB x said rows=.error e):e≠0:=by
 unfold asmB at h
 split at h
 ·cases h;decide
 split at h
 ·cases h;assumption
 split at h
 ·rename_i f hu
  cases h
  exact zSB _ _ _ hu
 ·split at h
  ·cases h
  ·cases h;assumption
theorem zJN{x:PreS}{said rows:Bs}{b:BatS}(h:asmB x said rows=.ok b):((zAF 0#32 (said.drop 21++rows)).toNat:Int)=x.sum∧chk x.attr=0∧∃rs,unp x.count.toNat ⟨rows,0,0⟩=.ok rs∧zAj (⟨x.base,x.leader,zAi x.attr 3,zAi x.attr 4,zAi x.attr 5,x.last,x.first,x.maxt,x.prod,x.epoch,x.seq,rs⟩:BatS)=0∧b=(⟨x.base,x.leader,zAi x.attr 3,zAi x.attr 4,zAi x.attr 5,x.last,x.first,x.maxt,x.prod,x.epoch,x.seq,rs⟩:BatS):=by
 unfold asmB at h
 split at h
 ·cases h
 rename_i h1
 split at h
 ·cases h
 rename_i h2
 have h1:((zAF 0#32 (said.drop 21++rows)).toNat:Int)=x.sum:=by
  by_cases hh:((zAF 0#32 (said.drop 21++rows)).toNat:Int)=x.sum
  ·exact hh
  ·exact absurd hh h1
 have h2:chk x.attr=0:=by
  by_cases hh:chk x.attr=0
  ·exact hh
  ·exact absurd hh h2
 split at h
 ·cases h
 ·rename_i rs hu
  split at h
  ·rename_i hb
   cases h
   exact⟨h1,h2,rs,hu,hb,rfl⟩
  ·cases h
theorem zHE(a b:List (Int×Nat)):zAt (a++b)=zAt a++zAt b:=List.flatMap_append
theorem FitsAll.nil:FitsAll []:=fun _ hx=>by cases hx
theorem FitsAll.append{a b:List (Int×Nat)}(h:FitsAll a)(k:FitsAll b):FitsAll (a++b):=fun x hx=>(List.mem_append.1 hx).elim (h x) (k x)
theorem FitsAll.one{n:Int}{z:Nat}(h:fits n z):FitsAll [(n,z)]:=fun x hx=>by simp at hx;subst hx;exact h
theorem zJ4(n:Int)(h0:¬n<0)(h1:¬4294967295<n):fits (zAL n) 4:=by
 have e4:half 4=2147483648:=by decide
 unfold fits zAL;rw[if_neg oM];refine⟨dD,dD,?_⟩;have:(4:Int).toNat=4:=rfl;rw[this,e4]
 split<;>omega
theorem zLP(n:Int)(h:n<0∨4294967295<n):¬fits (zAL n) 4:=by
 have e:zAL n=4294967296:=if_pos h;rw[e]
 decide
end Go.Proofs.YteldcbljedeeiaaGreatDoor
