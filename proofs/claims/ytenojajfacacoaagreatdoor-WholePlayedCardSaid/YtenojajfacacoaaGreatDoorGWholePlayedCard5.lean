/- A text. -/
import Derived.Test.YtenojajfacacoaaGreatDoorGWholePlayedCard4
import Derived.Test.YtenojajfacacoaaGreatDoorGWholePlayedCard3
import Derived.Test.YtenojajfacacoaaGreatDoorGWholePlayedCard1
import Derived.Test.YtenojajfacacoaaGreatDoorGWholePlayedCard2
import Derived.Deep.RegionWith
import Derived.Deep.MidRow
import Derived.Deep.RegionHeld3
import Derived.Deep.DeepCutAuto
/- A text. -/
namespace Go.Proofs.YtenojajfacacoaaGreatDoor
open Go.RowKit
set_option maxHeartbeats 1000000
set_option maxRecDepth 100000
theorem zq6{p:Prop}(h:p:=by
  have hd:=zDR l k hlt _ rfl;obtain⟨b,off,hqq⟩:=zCE HK.out H.out (by omega);subst hqq;obtain⟨⟨x,vx⟩,hx⟩:∃x,l[k]=x:=⟨_,rfl⟩;have cc:=zBA HK.out H.out k hlt (x,vx) hx;have hmem:(x,vx)∈l:=hx ▸ List.getElem_mem hlt;have xf:x.R∧HFit x.hdrs∧x.sum≤1000000:=HFT.out (x,vx) hmem;have xk:K.has (Know.flat RHdr vx 3 x.hdrs):=zBz HK.out hmem;obtain⟨qx,capx,hvx⟩:=zAu xk H.out;subst hvx;simp only at cc;obtain⟨c0,c1,c2,c3,c4,c5,c6⟩:=cc;rw[←Nat.add_assoc]at c1 c2 c3 c4 c5 c6;have hx1:l[k].1=x:=by rw[hx]
  have XF:=hQd xf;have XK:=hQd xk;have HX:=hQd hx1;clear xf xk hx1 hx hmem;obtain⟨wE,hwE⟩:∃b,wr.heap.size=b:=⟨_,rfl⟩;have hki:(k:Int)<(l.length:Int):=by omega
  have h:=H.out.allocRaw #[.int .i64 x.time,.int .i64 x.off,.bool x.key.null,.string (bb x.key.data),.bool x.val.null,.string (bb x.val.data),.slice qx x.hdrs.length capx] 54;rw[hwE]at h;clear H;have H:=hQd h;clear h;rw[HX.out]at hd;have hc:=HC.out;rw[hd]at hc;have hc:(if zAV x=0 then zCw ((l.map (·.1)).drop (k+1))else zAV x)=tot:=hc;have XL:=hQd (zOB XF.out.2.2);obtain⟨ec0,ec1,ec2,ec3,ec4,ec5,ec6,ef0,ef1,ef2,ef3,ef4,ef5,ef6⟩:=raw7 (b:=wE) (H.out);obtain⟨x0,x1,x2,x3,x4,x5,x6,x7,x8,x9,x10,x11,y0,y1,y2,y3,y4,y5,y6,y7,y8,y9,y10,y11⟩:=zAa (b:=hb) (H.out.p1);clear hd
  by_cases c1:zAV x=0
  · rw[if_pos c1]at hc;have HC2:=hQd hc;have ER:=hQd c1;clear hc c1;go_wp2_with (go_at_call 70;(with_reducible refine(zDE x (.slice qx x.hdrs.length capx) _ ER.out XL.out XK.out H.out).mono ?_);rintro e_ wn ⟨rfl,h⟩;replace H:=hQd h;clear h;obtain⟨ec0,ec1,ec2,ec3,ec4,ec5,ec6,ef0,ef1,ef2,ef3,ef4,ef5,ef6⟩:=raw7 (b:=wE) (H.out);obtain⟨x0,x1,x2,x3,x4,x5,x6,x7,x8,x9,x10,x11,y0,y1,y2,y3,y4,y5,y6,y7,y8,y9,y10,y11⟩:=zAa (b:=hb) (H.out.p1));go_roundw
    case rel=>exact⟨k+1,hlt,by go_num,HC2.out,H.out.drop⟩
    case measure=>first|(simp[intOf];done)|(simp[intOf];omega)
  · rw[if_neg c1]at hc;have ER:=hQd hc;have gz:(tot==0)=false:=by rw[beq_eq_false_iff_ne,←hc];exact c1
    obtain rfl:tot=e:=HTE.out (by rw[←hc];exact c1);clear hc c1;go_wp2_with (go_at_call 70;(with_reducible refine(zDE x (.slice qx x.hdrs.length capx) _ ER.out XL.out XK.out H.out).mono ?_);rintro e_ wn ⟨rfl,h⟩;replace H:=hQd h;clear h;obtain⟨ec0,ec1,ec2,ec3,ec4,ec5,ec6,ef0,ef1,ef2,ef3,ef4,ef5,ef6⟩:=raw7 (b:=wE) (H.out);obtain⟨x0,x1,x2,x3,x4,x5,x6,x7,x8,x9,x10,x11,y0,y1,y2,y3,y4,y5,y6,y7,y8,y9,y10,y11⟩:=zAa (b:=hb) (H.out.p1));go_ret;exact⟨rfl,H.out.drop.drop⟩):p:=h
theorem zBS(base leader:Int)(app txn ctl:Bool)(last first maxt prod epoch sq:Int)(l:List (RecS×Value))(q:Option Addr)(cap:Nat)(e:Int)(he:zAc ⟨base,leader,app,txn,ctl,last,first,maxt,prod,epoch,sq,l.map (·.1)⟩=e)(hmx:first≤9223372036854775807)(hfit:FitB l)(hll:l.length≤1000000){W0 w:World}{K:Know}{L:List Res}(hk:K.has (Know.recs (.slice q l.length cap) l))(h:St W0 w K L):
    Calls Tryz.prog 35 #[.agg #[.int .i64 base,.int .i64 leader,.bool app,.bool txn,.bool ctl,.int .i64 last,.int .i64 first,.int .i64 maxt,.int .i64 prod,.int .i64 epoch,.int .i64 sq,.slice q l.length cap]] w fun en w'=>en=.returned (.int .i64 e)∧St W0 w' K L:=by
  have HK:=hQd hk;have HFT:=hQd hfit;have HLL:=hQd hll;have h1:=h.allocRaw #[.int .i64 base,.int .i64 leader,.bool app,.bool txn,.bool ctl,.int .i64 last,.int .i64 first,.int .i64 maxt,.int .i64 prod,.int .i64 epoch,.int .i64 sq,.slice q l.length cap] 30;obtain⟨hb,hhb⟩:∃b,w.heap.size=b:=⟨_,rfl⟩;rw[hhb]at h1;obtain⟨x0,x1,x2,x3,x4,x5,x6,x7,x8,x9,x10,x11,y0,y1,y2,y3,y4,y5,y6,y7,y8,y9,y10,y11⟩:=zAa (b:=hb) (h1);have H:=hQd h1;clear h h1 hk hfit;unfold zAc at he;simp only[List.length_map]at he
  by_cases p1:BatS.placed ⟨base,leader,app,txn,ctl,last,first,maxt,prod,epoch,sq,l.map (·.1)⟩=false
  · rw[if_pos p1]at he;subst he;have HP:=hQd (show decide (0≤base∧(-1≤leader∧leader≤2147483647)∧(0≤last∧last≤2147483647)∧base≤9223372036854775807 - last∧0≤first∧0≤maxt)=false from p1);clear p1 hmx hll;go_enter Tryz.func35,Tryz.ntmps35;go_wp2_with (go_at_call 68;(with_reducible refine(zBt _ _ _ _ _ _ _ _ _ _ _ _ _ HP.out H.out).mono ?_);rintro e_ wn ⟨rfl,h⟩;replace H:=hQd h;clear h;obtain⟨x0,x1,x2,x3,x4,x5,x6,x7,x8,x9,x10,x11,y0,y1,y2,y3,y4,y5,y6,y7,y8,y9,y10,y11⟩:=zAa (b:=hb) (H.out));go_ret;exact⟨rfl,H.out.drop⟩
  rw[if_neg p1]at he
  have p2:BatS.placed ⟨base,leader,app,txn,ctl,last,first,maxt,prod,epoch,sq,l.map (·.1)⟩=true:=by cases hh:BatS.placed ⟨base,leader,app,txn,ctl,last,first,maxt,prod,epoch,sq,l.map (·.1)⟩with
    |false=>exact absurd hh p1
    |true=>rfl
  have HP:=hQd (show decide (0≤base∧(-1≤leader∧leader≤2147483647)∧(0≤last∧last≤2147483647)∧base≤9223372036854775807 - last∧0≤first∧0≤maxt)=true from p2);have HFP:=hQd (show 0≤first∧first≤9223372036854775807 from⟨(of_decide_eq_true (show decide (0≤base∧(-1≤leader∧leader≤2147483647)∧(0≤last∧last≤2147483647)∧base≤9223372036854775807 - last∧0≤first∧0≤maxt)=true from p2)).2.2.2.2.1,hmx⟩);clear p1 p2 hmx
  by_cases c1:ctl=true∧txn=false
  · rw[if_pos c1]at he;subst he;obtain⟨rfl,rfl⟩:=c1;clear hll;go_enter Tryz.func35,Tryz.ntmps35;go_wp2_with (go_at_call 68;(with_reducible refine(zBt _ _ _ _ _ _ _ _ _ _ _ _ _ HP.out H.out).mono ?_);rintro e_ wn ⟨rfl,h⟩;replace H:=hQd h;clear h;obtain⟨x0,x1,x2,x3,x4,x5,x6,x7,x8,x9,x10,x11,y0,y1,y2,y3,y4,y5,y6,y7,y8,y9,y10,y11⟩:=zAa (b:=hb) (H.out));go_ret;exact⟨rfl,H.out.drop⟩
  rw[if_neg c1]at he
  by_cases s1:BatS.signed ⟨base,leader,app,txn,ctl,last,first,maxt,prod,epoch,sq,l.map (·.1)⟩=false
  · rw[if_pos s1]at he;subst he;have HS:=hQd (show(if prod= -1 then decide (epoch= -1∧sq= -1∧txn=false)else if prod<0∨¬(0≤epoch∧epoch≤32767)then false else if ctl then decide (sq= -1)else decide (0≤sq∧sq≤2147483647))=false from s1);clear s1 hll
    cases ctl with
    |false=>
      go_enter Tryz.func35,Tryz.ntmps35
      go_wp2_with (first
    |(go_at_call 68;(with_reducible refine(zBt _ _ _ _ _ _ _ _ _ _ _ _ _ HP.out H.out).mono ?_);rintro e_ wn ⟨rfl,h⟩;replace H:=hQd h;clear h;obtain⟨x0,x1,x2,x3,x4,x5,x6,x7,x8,x9,x10,x11,y0,y1,y2,y3,y4,y5,y6,y7,y8,y9,y10,y11⟩:=zAa (b:=hb) (H.out))
    |(go_at_call 69;(with_reducible refine(zB9 _ _ _ _ _ _ _ _ _ _ _ _ _ HS.out H.out).mono ?_);rintro e_ wn ⟨rfl,h⟩;replace H:=hQd h;clear h;obtain⟨x0,x1,x2,x3,x4,x5,x6,x7,x8,x9,x10,x11,y0,y1,y2,y3,y4,y5,y6,y7,y8,y9,y10,y11⟩:=zAa (b:=hb) (H.out)))
      go_ret;exact⟨rfl,H.out.drop⟩
    |true=>
      cases txn with
      |false=>exact absurd ⟨rfl,rfl⟩ c1
      |true=>
        clear c1;go_enter Tryz.func35,Tryz.ntmps35
        go_wp2_with (first
    |(go_at_call 68;(with_reducible refine(zBt _ _ _ _ _ _ _ _ _ _ _ _ _ HP.out H.out).mono ?_);rintro e_ wn ⟨rfl,h⟩;replace H:=hQd h;clear h;obtain⟨x0,x1,x2,x3,x4,x5,x6,x7,x8,x9,x10,x11,y0,y1,y2,y3,y4,y5,y6,y7,y8,y9,y10,y11⟩:=zAa (b:=hb) (H.out))
    |(go_at_call 69;(with_reducible refine(zB9 _ _ _ _ _ _ _ _ _ _ _ _ _ HS.out H.out).mono ?_);rintro e_ wn ⟨rfl,h⟩;replace H:=hQd h;clear h;obtain⟨x0,x1,x2,x3,x4,x5,x6,x7,x8,x9,x10,x11,y0,y1,y2,y3,y4,y5,y6,y7,y8,y9,y10,y11⟩:=zAa (b:=hb) (H.out)))
        go_ret;exact⟨rfl,H.out.drop⟩
  rw[if_neg s1]at he
  have s2:BatS.signed ⟨base,leader,app,txn,ctl,last,first,maxt,prod,epoch,sq,l.map (·.1)⟩=true:=by cases hh:BatS.signed ⟨base,leader,app,txn,ctl,last,first,maxt,prod,epoch,sq,l.map (·.1)⟩with
    |false=>exact absurd hh s1
    |true=>rfl
  have HS:=hQd (show(if prod= -1 then decide (epoch= -1∧sq= -1∧txn=false)else if prod<0∨¬(0≤epoch∧epoch≤32767)then false else if ctl then decide (sq= -1)else decide (0≤sq∧sq≤2147483647))=true from s2);clear s1 s2
  cases ctl with
  |false=>
    rw[if_neg (fun h=>by cases h.1)]at he;obtain⟨tot,htot⟩:∃t,zCw (l.map (·.1))=t:=⟨_,rfl⟩;rw[htot]at he;have HTE:=hQd (show tot≠0→tot=e from fun h=>by rw[if_pos h]at he;exact he);have HTZ:=hQd (show tot=0→BatS.rows ⟨base,leader,app,txn,false,last,first,maxt,prod,epoch,sq,l.map (·.1)⟩=e from fun h=>by rw[if_neg (fun x=>x h),if_neg (fun h=>by cases h.1)]at he;exact he);have HT:=hQd htot;clear he htot c1;go_enter Tryz.func35,Tryz.ntmps35
    go_wp2_with (first
        |(go_at_call 68;(with_reducible refine(zBt _ _ _ _ _ _ _ _ _ _ _ _ _ HP.out H.out).mono ?_);rintro e_ wn ⟨rfl,h⟩;replace H:=hQd h;clear h;obtain⟨x0,x1,x2,x3,x4,x5,x6,x7,x8,x9,x10,x11,y0,y1,y2,y3,y4,y5,y6,y7,y8,y9,y10,y11⟩:=zAa (b:=hb) (H.out))
        |(go_at_call 69;(with_reducible refine(zB9 _ _ _ _ _ _ _ _ _ _ _ _ _ HS.out H.out).mono ?_);rintro e_ wn ⟨rfl,h⟩;replace H:=hQd h;clear h;obtain⟨x0,x1,x2,x3,x4,x5,x6,x7,x8,x9,x10,x11,y0,y1,y2,y3,y4,y5,y6,y7,y8,y9,y10,y11⟩:=zAa (b:=hb) (H.out)))
    go_loopw [4,5,33] (fun _ _ iv wr=>∃k:Nat,k≤l.length∧iv=.int .i64 k∧Hid (zCw ((l.map (·.1)).drop k)=tot)∧St W0 wr K (.raw hb #[.int .i64 base,.int .i64 leader,.bool app,.bool txn,.bool false,.int .i64 last,.int .i64 first,.int .i64 maxt,.int .i64 prod,.int .i64 epoch,.int .i64 sq,.slice q l.length cap] 30::L)) (fun _ _ iv _=>l.length - (intOf iv).toNat)
    case atStart=>exact⟨0,Nat.zero_le _,rfl,HT,H.out⟩
    case round=>
      clear x0 y0 x1 y1 x2 y2 x3 y3 x4 y4 x5 y5 x6 y6 x7 y7 x8 y8 x9 y9 x10 y10 x11 y11;obtain⟨k,hkl,rfl,HC,hst⟩:=hrel;clear H;have H:=hQd hst;clear hst
      by_cases hlt:k<l.length
      · exact zq6
      · obtain rfl:l.length=k:=by omega
        have hc:=HC.out;rw[List.drop_of_length_le (by simp)]at hc;obtain rfl:0=tot:=hc;obtain⟨x0,x1,x2,x3,x4,x5,x6,x7,x8,x9,x10,x11,y0,y1,y2,y3,y4,y5,y6,y7,y8,y9,y10,y11⟩:=zAa (b:=hb) (H.out);have HROW:=hQd (HTZ.out rfl);go_wp2_with (go_at_call 72;(with_reducible refine(zD1 _ _ _ _ _ _ _ _ _ _ _ l _ _ _ HROW.out HFP.out HFT.out HLL.out HK.out H.out).mono ?_);rintro e_ wn ⟨rfl,h⟩;replace H:=hQd h;clear h);go_ret;exact⟨rfl,H.out.drop⟩
  |true=>
    cases txn with
    |false=>exact absurd ⟨rfl,rfl⟩ c1
    |true=>
      clear c1
      by_cases c2:l.length=1
      · rw[if_neg (fun h=>h.2 c2)]at he;have HLEN:=hQd c2;have bl:((l.length:Int)==1)=true:=by rw[c2];rfl
        have bl2:((l.length:Int) !=1)=false:=by rw[c2];rfl
        obtain⟨tot,htot⟩:∃t,zCw (l.map (·.1))=t:=⟨_,rfl⟩;rw[htot]at he;have HTE:=hQd (show tot≠0→tot=e from fun h=>by rw[if_pos h]at he;exact he)
        have HEN:=hQd (show ∀(x:RecS) (h0:0<l.length),(l[0]'h0).1=x→((zEy x).2.2≠0→tot=0→(zEy x).2.2=e)∧((zEy x).2.2=0→tot=0→BatS.rows ⟨base,leader,app,true,true,last,first,maxt,prod,epoch,sq,l.map (·.1)⟩=e)from fun x h0 hx=>by
          have hm:l.map (·.1)=x::(l.map (·.1)).drop 1:=by have:=zDR l 0 (by omega) x hx;simpa using this
          have hens:BatS.ends ⟨base,leader,app,true,true,last,first,maxt,prod,epoch,sq,l.map (·.1)⟩=(zEy x).2.2:=by unfold BatS.ends;simp only;rw[hm]
          rw[hens]at he;refine⟨fun h h2=> ?_,fun h h2=> ?_⟩
          · rw[if_neg (fun y=>y h2),if_pos ⟨rfl,h⟩]at he;exact he
          · rw[if_neg (fun y=>y h2),if_neg (fun y=>y.2 h)]at he;exact he)
        have HT:=hQd htot;clear he htot c2;go_enter Tryz.func35,Tryz.ntmps35
        go_wp2_with (first
            |(go_at_call 68;(with_reducible refine(zBt _ _ _ _ _ _ _ _ _ _ _ _ _ HP.out H.out).mono ?_);rintro e_ wn ⟨rfl,h⟩;replace H:=hQd h;clear h;obtain⟨x0,x1,x2,x3,x4,x5,x6,x7,x8,x9,x10,x11,y0,y1,y2,y3,y4,y5,y6,y7,y8,y9,y10,y11⟩:=zAa (b:=hb) (H.out))
            |(go_at_call 69;(with_reducible refine(zB9 _ _ _ _ _ _ _ _ _ _ _ _ _ HS.out H.out).mono ?_);rintro e_ wn ⟨rfl,h⟩;replace H:=hQd h;clear h;obtain⟨x0,x1,x2,x3,x4,x5,x6,x7,x8,x9,x10,x11,y0,y1,y2,y3,y4,y5,y6,y7,y8,y9,y10,y11⟩:=zAa (b:=hb) (H.out)))
        go_loopw [4,5,33] (fun _ _ iv wr=>∃k:Nat,k≤l.length∧iv=.int .i64 k∧Hid (zCw ((l.map (·.1)).drop k)=tot)∧St W0 wr K (.raw hb #[.int .i64 base,.int .i64 leader,.bool app,.bool true,.bool true,.int .i64 last,.int .i64 first,.int .i64 maxt,.int .i64 prod,.int .i64 epoch,.int .i64 sq,.slice q l.length cap] 30::L)) (fun _ _ iv _=>l.length - (intOf iv).toNat)
        case atStart=>exact⟨0,Nat.zero_le _,rfl,HT,H.out⟩
        case round=>
          clear x0 y0 x1 y1 x2 y2 x3 y3 x4 y4 x5 y5 x6 y6 x7 y7 x8 y8 x9 y9 x10 y10 x11 y11;obtain⟨k,hkl,rfl,HC,hst⟩:=hrel;clear H;have H:=hQd hst;clear hst
          by_cases hlt:k<l.length
          · exact zq6
          · obtain rfl:l.length=k:=by omega
            have hc:=HC.out;rw[List.drop_of_length_le (by simp)]at hc;obtain rfl:0=tot:=hc;obtain⟨x0,x1,x2,x3,x4,x5,x6,x7,x8,x9,x10,x11,y0,y1,y2,y3,y4,y5,y6,y7,y8,y9,y10,y11⟩:=zAa (b:=hb) (H.out);obtain⟨b,off,hqq⟩:=zCE HK.out H.out (by rw[HLEN.out];decide);subst hqq;obtain⟨⟨x,vx⟩,hx⟩:∃x,l[0]'(by rw[HLEN.out];decide)=x:=⟨_,rfl⟩;have cc:=zBA HK.out H.out 0 (by rw[HLEN.out];decide) (x,vx) hx;have hmem:(x,vx)∈l:=hx ▸ List.getElem_mem _;have xf:x.R∧HFit x.hdrs∧x.sum≤1000000:=HFT.out (x,vx) hmem;have xk:K.has (Know.flat RHdr vx 3 x.hdrs):=zBz HK.out hmem;obtain⟨qx,capx,hvx⟩:=zAu xk H.out;subst hvx;simp only[Nat.zero_mul,Nat.zero_add,Nat.add_zero]at cc;obtain⟨c0,c1,c2,c3,c4,c5,c6⟩:=cc;have XD:=hQd (zKN xf.2.2);have hl0:(0:Int)<(l.length:Int):=by have:=HLEN.out;omega
            obtain⟨⟨i1,i2,i3⟩,hi⟩:∃r,zEy x=r:=⟨_,rfl⟩;have EC:=hQd (show zEx x.key.null x.val.null x.key.data x.val.data x.hdrs.length x.off=(i1,i2,i3)from hi);have hen:=HEN.out x (by rw[HLEN.out];decide) (by rw[hx]);rw[hi]at hen;clear hx hmem xf xk hi
            by_cases c9:i3=0
            · subst c9;have HROW:=hQd (hen.2 rfl rfl);clear hen
              go_wp2_with (first
            |(go_at_call 71;(with_reducible refine(zH2 x.time x.off x.key.null x.val.null x.key.data x.val.data qx x.hdrs.length capx (i1,i2,_) EC.out XD.out.1 XD.out.2 H.out).mono ?_);rintro e_ wn ⟨rfl,h⟩;replace H:=hQd h;clear h;obtain⟨x0,x1,x2,x3,x4,x5,x6,x7,x8,x9,x10,x11,y0,y1,y2,y3,y4,y5,y6,y7,y8,y9,y10,y11⟩:=zAa (b:=hb) (H.out))
            |(go_at_call 72;(with_reducible refine(zD1 _ _ _ _ _ _ _ _ _ _ _ l _ _ _ HROW.out HFP.out HFT.out HLL.out HK.out H.out).mono ?_);rintro e_ wn ⟨rfl,h⟩;replace H:=hQd h;clear h))
              go_ret;exact⟨rfl,H.out.drop⟩
            · have gz:(i3==0)=false:=by rw[beq_eq_false_iff_ne];exact c9
              obtain rfl:i3=e:=hen.1 c9 rfl;clear hen c9;go_wp2_with (go_at_call 71;(with_reducible refine(zH2 x.time x.off x.key.null x.val.null x.key.data x.val.data qx x.hdrs.length capx (i1,i2,_) EC.out XD.out.1 XD.out.2 H.out).mono ?_);rintro e_ wn ⟨rfl,h⟩;replace H:=hQd h;clear h;obtain⟨x0,x1,x2,x3,x4,x5,x6,x7,x8,x9,x10,x11,y0,y1,y2,y3,y4,y5,y6,y7,y8,y9,y10,y11⟩:=zAa (b:=hb) (H.out));go_ret;exact⟨rfl,H.out.drop⟩
      · rw[if_pos ⟨rfl,c2⟩]at he;subst he;have bl:((l.length:Int)==1)=false:=by rw[beq_eq_false_iff_ne];omega
        clear c2 hll;go_enter Tryz.func35,Tryz.ntmps35
        go_wp2_with (first
    |(go_at_call 68;(with_reducible refine(zBt _ _ _ _ _ _ _ _ _ _ _ _ _ HP.out H.out).mono ?_);rintro e_ wn ⟨rfl,h⟩;replace H:=hQd h;clear h;obtain⟨x0,x1,x2,x3,x4,x5,x6,x7,x8,x9,x10,x11,y0,y1,y2,y3,y4,y5,y6,y7,y8,y9,y10,y11⟩:=zAa (b:=hb) (H.out))
    |(go_at_call 69;(with_reducible refine(zB9 _ _ _ _ _ _ _ _ _ _ _ _ _ HS.out H.out).mono ?_);rintro e_ wn ⟨rfl,h⟩;replace H:=hQd h;clear h;obtain⟨x0,x1,x2,x3,x4,x5,x6,x7,x8,x9,x10,x11,y0,y1,y2,y3,y4,y5,y6,y7,y8,y9,y10,y11⟩:=zAa (b:=hb) (H.out)))
        go_ret;exact⟨rfl,H.out.drop⟩
set_option maxHeartbeats 2000000
variable {W0 w:World}{K:Know}{L:List Res}
theorem zGy(rows:Bs)(n:Nat)(hn:n≤2147483647)(hsl:rows.length≤140737488355328)(e:Int)(_he0:e≠0)(hu:unp n ⟨rows,0,0⟩=.error e)(h:St W0 w K L):
  Calls Tryz.prog 200 #[.string (bb rows),.int .i64 n] w fun en w'=>en=.returned (.tuple #[.slice none 0 0,.int .i64 e])∧St W0 w' K L:=by
 obtain⟨tot,htot⟩:∃t,unp n ⟨rows,0,0⟩=t:=⟨_,rfl⟩;have HTT:=hQd (htot.symm.trans hu);have HT:=hQd (show preU [] (unp (n - 0) ⟨rows,0,0⟩)=tot by rw[zK3];exact htot);have HSL:=hQd hsl;have HNB:=hQd hn;have H:=hQd h;clear h hu htot hsl hn _he0;go_enter Tryz.func200,Tryz.ntmps200;go_wp2_with (go_at_call 156;(with_reducible refine(zDj rows HSL.out H.out).mono ?_);rintro e_ wn ⟨bi,rfl,h⟩;replace H:=hQd h;clear h);go_loopw [7,11] (fun lv iv wr=>∃(k:Nat) (acc:List (RecS×Value)) (i2:InS) (K2:Know),k≤n∧iv=.int .i64 k∧acc.length=k∧Hid (preU (acc.map (·.1)) (unp (n - k) i2)=tot)∧Hid (K2.has K)∧Hid (∀x∈acc,K2.has (Know.flat RHdr x.2 3 x.1.hdrs))∧St W0 wr K2 (.row lv 54 7 acc.length (acc.flatMap zAW)::.inp bi i2::L)) (fun _ iv _=>n - (intOf iv).toNat)
 case atStart=>exact⟨0,[],_,K,Nat.zero_le _,rfl,rfl,HT,hQd (Know.has_refl _),hQd (fun x h=>by cases h),H.out.nilRow 54 7⟩
 case round=>
  obtain⟨k,acc,i2,K2,hk,rfl,hacc,HC,HK2,HALL,hst⟩:=hrel;have HACC:=hQd hacc;have HKB:=hQd (show k≤2147483647 by have:=HNB.out;omega);clear H hacc;have H:=hQd hst;clear hst;obtain⟨lf,hlf⟩:∃m,i2.left=m:=⟨_,rfl⟩;have HLF:=hQd hlf
  by_cases hlt:k<n
  · have hc:=HC.out;rw[show n - k=(n - (k+1))+1 by omega]at hc;have hc:preU (acc.map (·.1)) (if i2.left=0 then .error 10 else if i2.record.2.err=0 then zH6 i2.record.1 (unp (n - (k+1)) i2.record.2)else .error i2.record.2.err)=tot:=hc;have hki:(k:Int)<(n:Int):=by omega
    have hnb:(n:Int)≤2147483647:=by have:=HNB.out;omega
    rw[hlf]at hc
    by_cases c1:lf=0
    · rw[if_pos c1]at hc;have hc2:Except.error 10=tot:=hc;have hc3:=hc2.trans HTT.out;obtain rfl:10=e:=by injection hc3
      subst c1;clear hc hc2 hc3 hlf;go_wp2_with (go_at_call 185;(with_reducible refine(zEc bi i2 _ HLF.out H.out.p1).mono ?_);rintro e_ wn ⟨rfl,h⟩;replace H:=hQd h;clear h;replace H:=hQd H.out.p1);go_ret2;exact⟨rfl,H.out.drop.drop.know HK2.out⟩
    · rw[if_neg c1]at hc;obtain⟨⟨x,i3⟩,hx⟩:∃r,i2.record=r:=⟨_,rfl⟩;have HRD:=hQd hx;rw[hx]at hc;simp only at hc;have bl:((lf:Int)==0)=false:=by rw[beq_eq_false_iff_ne];omega
      have bl2:¬(lf=0):=c1
      by_cases c2:i3.err=0
      · rw[if_pos c2,←zIM]at hc;have HER:=hQd c2;have HC2:=hQd hc;clear hc hx c1 c2 hlf
        go_wp2_with (first
  |(go_at_call 185;(with_reducible refine(zEc bi i2 _ HLF.out H.out.p1).mono ?_);rintro e_ wn ⟨rfl,h⟩;replace H:=hQd h;clear h;replace H:=hQd H.out.p1)
  |(go_at_call 207;(with_reducible refine(zFu bi i2 x i3 HRD.out H.out.p1).mono ?_);rintro e_ wn ⟨v1,rfl,h⟩;obtain⟨q1,c1,hv1⟩:=zAu (Know.has_right (Know.has_refl _)) h;subst hv1;replace H:=hQd h;clear h;replace H:=hQd H.out.p1)
  |(at_builtin;refine zAw rfl _ _ 28 rfl 54 Tryz.underlying28 zHW _ _ _ rfl H.out [.int .i64 x.time,.int .i64 x.off,.bool x.key.null,.string (bb x.key.data),.bool x.val.null,.string (bb x.val.data),.slice q1 x.hdrs.length c1] 54 rfl rfl (by simp[Value.oneCell']) (by have:=HACC.out;have:=HKB.out;unfold maxLen;omega) (by have:=HACC.out;have:=HKB.out;omega) ?_;intro v' w' h;replace H:=hQd h;clear h)
  |(go_at_call 168;(with_reducible refine(zCC bi i3 _ HER.out H.out.p1).mono ?_);rintro e_ wn ⟨rfl,h⟩;replace H:=hQd h;clear h;replace H:=hQd H.out.p1))
        go_roundw
        case rel=>exact⟨k+1,acc++[(x,.slice q1 x.hdrs.length c1)],i3,K2.and (Know.flat RHdr (.slice q1 x.hdrs.length c1) 3 x.hdrs),hlt,by go_num,by rw[List.length_append,HACC.out];rfl,hQd (by rw[List.map_append];exact HC2.out),hQd (Know.has_trans (Know.has_left (Know.has_refl _)) HK2.out),hQd (fun y hy=>by
         rcases List.mem_append.1 hy with hy|hy
         · exact Know.has_trans (Know.has_left (Know.has_refl _)) (HALL.out y hy)
         · rw[List.mem_singleton.1 hy];exact Know.has_right (Know.has_refl _)),by rw[List.length_append,List.flatMap_append];simpa [zAW]using H.out⟩
        case measure=>first|(simp[intOf];done)|(simp[intOf];omega)
      · rw[if_neg c2]at hc;have hc2:Except.error i3.err=tot:=hc;have hc3:=hc2.trans HTT.out;have HER:=hQd (show i3.err=e by injection hc3);have gz:(e==0)=false:=by rw[beq_eq_false_iff_ne,←HER.out];exact c2
        clear hc hx c1 c2 hlf hc2 hc3
        go_wp2_with (first
  |(go_at_call 185;(with_reducible refine(zEc bi i2 _ HLF.out H.out.p1).mono ?_);rintro e_ wn ⟨rfl,h⟩;replace H:=hQd h;clear h;replace H:=hQd H.out.p1)
  |(go_at_call 207;(with_reducible refine(zFu bi i2 x i3 HRD.out H.out.p1).mono ?_);rintro e_ wn ⟨v1,rfl,h⟩;obtain⟨q1,c1,hv1⟩:=zAu (Know.has_right (Know.has_refl _)) h;subst hv1;replace H:=hQd h;clear h;replace H:=hQd H.out.p1)
  |(at_builtin;refine zAw rfl _ _ 28 rfl 54 Tryz.underlying28 zHW _ _ _ rfl H.out [.int .i64 x.time,.int .i64 x.off,.bool x.key.null,.string (bb x.key.data),.bool x.val.null,.string (bb x.val.data),.slice q1 x.hdrs.length c1] 54 rfl rfl (by simp[Value.oneCell']) (by have:=HACC.out;have:=HKB.out;unfold maxLen;omega) (by have:=HACC.out;have:=HKB.out;omega) ?_;intro v' w' h;replace H:=hQd h;clear h)
  |(go_at_call 168;(with_reducible refine(zCC bi i3 _ HER.out H.out.p1).mono ?_);rintro e_ wn ⟨rfl,h⟩;replace H:=hQd h;clear h;replace H:=hQd H.out.p1))
        go_ret2;exact⟨rfl,H.out.drop.drop.know (Know.has_trans (Know.has_left (Know.has_refl _)) HK2.out)⟩
  · obtain rfl:n=k:=by omega
    have hc:=HC.out;rw[Nat.sub_self]at hc;have hc:preU (acc.map (·.1)) (if i2.left=0 then .ok []else .error 10)=tot:=hc;rw[hlf]at hc
    by_cases c1:lf=0
    · rw[if_pos c1]at hc;have hc2:Except.ok (acc.map (·.1)++[])=tot:=hc;have hc3:=hc2.trans HTT.out
      cases hc3
    · rw[if_neg c1]at hc;have hc2:Except.error 10=tot:=hc;have hc3:=hc2.trans HTT.out;obtain rfl:10=e:=by injection hc3
      have bl:decide ((0:Int)<(lf:Int))=true:=decide_eq_true (by omega);have bl2:decide (0<lf)=true:=decide_eq_true (by omega);clear hc hc2 hc3 hlf c1;go_wp2_with (go_at_call 185;(with_reducible refine(zEc bi i2 _ HLF.out H.out.p1).mono ?_);rintro e_ wn ⟨rfl,h⟩;replace H:=hQd h;clear h;replace H:=hQd H.out.p1);go_ret2;exact⟨rfl,H.out.drop.drop.know HK2.out⟩
theorem zD0(rows:Bs)(n:Nat)(hn:n≤2147483647)(hsl:rows.length≤140737488355328)(rs:List RecS)(hu:unp n ⟨rows,0,0⟩=.ok rs)(h:St W0 w K L):
  Calls Tryz.prog 200 #[.string (bb rows),.int .i64 n] w fun en w'=>∃(v:Value) (l:List (RecS×Value)),en=.returned (.tuple #[v,.int .i64 0])∧l.map (·.1)=rs∧St W0 w' (K.and (Know.recs v l)) L:=by
 obtain⟨tot,htot⟩:∃t,unp n ⟨rows,0,0⟩=t:=⟨_,rfl⟩;have HTT:=hQd (htot.symm.trans hu);have HT:=hQd (show preU [] (unp (n - 0) ⟨rows,0,0⟩)=tot by rw[zK3];exact htot);have HSL:=hQd hsl;have HNB:=hQd hn;have H:=hQd h;clear h hu htot hsl hn;go_enter Tryz.func200,Tryz.ntmps200;go_wp2_with (go_at_call 156;(with_reducible refine(zDj rows HSL.out H.out).mono ?_);rintro e_ wn ⟨bi,rfl,h⟩;replace H:=hQd h;clear h);go_loopw [7,11] (fun lv iv wr=>∃(k:Nat) (acc:List (RecS×Value)) (i2:InS) (K2:Know),k≤n∧iv=.int .i64 k∧acc.length=k∧Hid (preU (acc.map (·.1)) (unp (n - k) i2)=tot)∧Hid (K2.has K)∧Hid (∀x∈acc,K2.has (Know.flat RHdr x.2 3 x.1.hdrs))∧St W0 wr K2 (.row lv 54 7 acc.length (acc.flatMap zAW)::.inp bi i2::L)) (fun _ iv _=>n - (intOf iv).toNat)
 case atStart=>exact⟨0,[],_,K,Nat.zero_le _,rfl,rfl,HT,hQd (Know.has_refl _),hQd (fun x h=>by cases h),H.out.nilRow 54 7⟩
 case round=>
  obtain⟨k,acc,i2,K2,hk,rfl,hacc,HC,HK2,HALL,hst⟩:=hrel;have HACC:=hQd hacc;have HKB:=hQd (show k≤2147483647 by have:=HNB.out;omega);clear H hacc;have H:=hQd hst;clear hst;obtain⟨lf,hlf⟩:∃m,i2.left=m:=⟨_,rfl⟩;have HLF:=hQd hlf
  by_cases hlt:k<n
  · have hc:=HC.out;rw[show n - k=(n - (k+1))+1 by omega]at hc;have hc:preU (acc.map (·.1)) (if i2.left=0 then .error 10 else if i2.record.2.err=0 then zH6 i2.record.1 (unp (n - (k+1)) i2.record.2)else .error i2.record.2.err)=tot:=hc;have hki:(k:Int)<(n:Int):=by omega
    have hnb:(n:Int)≤2147483647:=by have:=HNB.out;omega
    rw[hlf]at hc
    by_cases c1:lf=0
    · rw[if_pos c1]at hc;have hc2:Except.error 10=tot:=hc;have hc3:=hc2.trans HTT.out
      cases hc3
    · rw[if_neg c1]at hc;obtain⟨⟨x,i3⟩,hx⟩:∃r,i2.record=r:=⟨_,rfl⟩;have HRD:=hQd hx;rw[hx]at hc;simp only at hc;have bl:((lf:Int)==0)=false:=by rw[beq_eq_false_iff_ne];omega
      have bl2:¬(lf=0):=c1
      by_cases c2:i3.err=0
      · rw[if_pos c2,←zIM]at hc;have HER:=hQd c2;have HC2:=hQd hc;clear hc hx c1 c2 hlf
        go_wp2_with (first
  |(go_at_call 185;(with_reducible refine(zEc bi i2 _ HLF.out H.out.p1).mono ?_);rintro e_ wn ⟨rfl,h⟩;replace H:=hQd h;clear h;replace H:=hQd H.out.p1)
  |(go_at_call 207;(with_reducible refine(zFu bi i2 x i3 HRD.out H.out.p1).mono ?_);rintro e_ wn ⟨v1,rfl,h⟩;obtain⟨q1,c1,hv1⟩:=zAu (Know.has_right (Know.has_refl _)) h;subst hv1;replace H:=hQd h;clear h;replace H:=hQd H.out.p1)
  |(at_builtin;refine zAw rfl _ _ 28 rfl 54 Tryz.underlying28 zHW _ _ _ rfl H.out [.int .i64 x.time,.int .i64 x.off,.bool x.key.null,.string (bb x.key.data),.bool x.val.null,.string (bb x.val.data),.slice q1 x.hdrs.length c1] 54 rfl rfl (by simp[Value.oneCell']) (by have:=HACC.out;have:=HKB.out;unfold maxLen;omega) (by have:=HACC.out;have:=HKB.out;omega) ?_;intro v' w' h;replace H:=hQd h;clear h)
  |(go_at_call 168;(with_reducible refine(zCC bi i3 _ HER.out H.out.p1).mono ?_);rintro e_ wn ⟨rfl,h⟩;replace H:=hQd h;clear h;replace H:=hQd H.out.p1))
        go_roundw
        case rel=>exact⟨k+1,acc++[(x,.slice q1 x.hdrs.length c1)],i3,K2.and (Know.flat RHdr (.slice q1 x.hdrs.length c1) 3 x.hdrs),hlt,by go_num,by rw[List.length_append,HACC.out];rfl,hQd (by rw[List.map_append];exact HC2.out),hQd (Know.has_trans (Know.has_left (Know.has_refl _)) HK2.out),hQd (fun y hy=>by
         rcases List.mem_append.1 hy with hy|hy
         · exact Know.has_trans (Know.has_left (Know.has_refl _)) (HALL.out y hy)
         · rw[List.mem_singleton.1 hy];exact Know.has_right (Know.has_refl _)),by rw[List.length_append,List.flatMap_append];simpa [zAW]using H.out⟩
        case measure=>first|(simp[intOf];done)|(simp[intOf];omega)
      · rw[if_neg c2]at hc;have hc2:Except.error i3.err=tot:=hc;have hc3:=hc2.trans HTT.out
        cases hc3
  · obtain rfl:n=k:=by omega
    have hc:=HC.out;rw[Nat.sub_self]at hc;have hc:preU (acc.map (·.1)) (if i2.left=0 then .ok []else .error 10)=tot:=hc;rw[hlf]at hc
    by_cases c1:lf=0
    · rw[if_pos c1]at hc;have hc2:Except.ok (acc.map (·.1)++[])=tot:=hc;have hc3:=hc2.trans HTT.out;subst c1;have HRS:=hQd (show acc.map (·.1)=rs by injection hc3 with h;rw[List.append_nil]at h;exact h);clear hc hc2 hc3 hlf;go_wp2_with (go_at_call 185;(with_reducible refine(zEc bi i2 _ HLF.out H.out.p1).mono ?_);rintro e_ wn ⟨rfl,h⟩;replace H:=hQd h;clear h;replace H:=hQd H.out.p1);go_ret2;have hf:=(H.out.freezeRow (R:=RRec) (fun y _=>⟨rfl,rfl⟩)).drop;exact⟨_,acc,rfl,HRS.out,hf.know (fun w F hh=>⟨HK2.out _ _ hh.1,hh.2,fun y hy=>HALL.out y hy _ _ hh.1⟩)⟩
    · rw[if_neg c1]at hc;have hc2:Except.error 10=tot:=hc;have hc3:=hc2.trans HTT.out
      cases hc3
abbrev W32:=BitVec 32
def cP:W32:=0x82F63B78#32
def b2w (b:Bool):W32:=if b then 1#32 else 0#32
def step (r:W32):W32:=(r>>>1) ^^^ (if r.getLsbD 0 then cP else 0#32)
def zMQ:Nat→W32→W32
  |0,r=>r
  |n+1,r=>zMQ n (step r)
def word:List Bool→W32
  |[]=>0#32
  |b::t=>b2w b ^^^ (word t<<<1)
def zPn (c:UInt8):List Bool:=(List.range 8).map (fun i=>c.toNat.testBit i)
def zPP (s:Bs):List Bool:=s.flatMap zPn
def tab (n:Nat):W32:=zMQ 8 (BitVec.ofNat 32 n)
def zE4 (r:W32) (c:UInt8):W32:=tab (r.toNat % 256 ^^^ c.toNat) ^^^ (r>>>8)
def zEM (r:W32) (s:Bs):W32:=s.foldl zE4 r
theorem zDX(r:W32)(a b:Bs):zEM r (a++b)=zEM (zEM r a) b:=List.foldl_append
def zAp (sum:W32) (s:Bs):W32:= ~~~ (zEM (~~~ sum) s)
theorem zGw(sum:W32)(a b:Bs):zAp sum (a++b)=zAp (zAp sum a) b:=by
 unfold zAp;rw[zDX,BitVec.not_not]
theorem zKw(sum:W32):zAp sum []=sum:=by unfold zAp zEM;simp
variable {W0 w:World}{K:Know}{L:List Res}
theorem zJM(a b:W32):bits .xor .u32 (a.toNat:Int) (b.toNat:Int)=((a ^^^ b).toNat:Int):=by
 have ha:=a.isLt;have hb:=b.isLt;have hab:=(a ^^^ b).isLt;rw[zJz,BitVec.toNat_xor]at*;have e1:((a.toNat:Int) % 4294967296).toNat=a.toNat:=by omega
 have e2:((b.toNat:Int) % 4294967296).toNat=b.toNat:=by omega
 rw[e1,e2,IntKind.wrap_u32]
 omega
theorem zPy(a:W32):bits .and .u32 (a.toNat:Int) 1=if a.getLsbD 0 then 1 else 0:=by
 have ha:=a.isLt;rw[zJC];have e1:((a.toNat:Int) % 4294967296).toNat=a.toNat:=by omega
 have e2:((1:Int) % 4294967296).toNat=1:=by decide
 rw[e1,e2,Nat.and_one_is_mod,IntKind.wrap_u32];have:a.getLsbD 0=decide (a.toNat % 2=1):=by rw[BitVec.getLsbD,Nat.testBit_zero]
 rw[this]
 by_cases h:a.toNat % 2=1<;>simp[h]
 omega
theorem zJL(a:W32):bits .xor .u32 (a.toNat:Int) 2197175160=((a ^^^ cP).toNat:Int):=zJM a cP
theorem zOE(a:W32):(a.toNat:Int) / 2=((a>>>1).toNat:Int):=by
 rw[BitVec.toNat_ushiftRight,Nat.shiftRight_eq_div_pow];omega
theorem zOD(a:W32):(a.toNat:Int) / 256=((a>>>8).toNat:Int):=by
 rw[BitVec.toNat_ushiftRight,Nat.shiftRight_eq_div_pow];omega
theorem zNv(a:W32):bits .xor .u32 IntKind.u32.max (a.toNat:Int)=((~~~ a).toNat:Int):=by
 have e:IntKind.u32.max=((BitVec.allOnes 32).toNat:Int):=by decide
 rw[e,zJM,BitVec.xor_comm,BitVec.xor_allOnes]
theorem zH3(r:W32)(w:World):
  Calls Tryz.prog 150 #[.int .u32 r.toNat] w fun en w'=>en=.returned (.int .u32 (zMQ 8 r).toNat)∧w=w':=by
 go_enter Tryz.func150,Tryz.ntmps150;go_wp2
 go_loop [0,4] (fun rv kv=>∃(k:Nat) (x:W32),k≤8∧kv=.int .i64 k∧rv=.int .u32 x.toNat∧zMQ (8 - k) x=zMQ 8 r) (fun _ kv=>8 - (intOf kv).toNat)
 case atStart=>exact⟨0,r,by decide,rfl,rfl,rfl⟩
 case round=>
  obtain⟨k,x,hk,rfl,rfl,hx⟩:=hrel;have HX:=hQd hx;clear hx
  by_cases h8:k<8
  · have ha:=zPy x;have hs:=zOE x;have hx:=x.isLt
    cases hb:x.getLsbD 0
    all_goals
     rw[hb]at ha;go_wp2
     go_round
     case rel=>
      refine⟨k+1,step x,by omega,by go_num,?_,?_⟩
      · refine congrArg _ ?_;unfold step;rw[hb]
        first
         |(rw[if_pos rfl,←zJL];exact congrArg (bits .xor .u32 · 2197175160) hs)
         |exact hs.trans (by simp)
      · rw[←HX.out,show 8 - k=(8 - (k+1))+1 by omega]
        rfl
     case measure=>first|(simp[intOf];done)|(simp[intOf];omega)
  · have hk8:k=8:=by omega
    subst hk8;go_wp2;go_ret;rw[←HX.out];exact⟨rfl,rfl⟩
theorem zQx(k:Nat)(hk:k<256)(w:World):
  Calls Tryz.prog 150 #[.int .u32 (k:Int)] w fun en w'=>en=.returned (.int .u32 (tab k).toNat)∧w=w':=by
 have h:=zH3 (BitVec.ofNat 32 k) w;have hn:(BitVec.ofNat 32 k).toNat=k:=by simp;omega
 rw[hn]at h;exact h
def tabC (n:Nat):Array Value:=((List.range 256).map fun j=>if j<n then Value.int .u32 (tab j).toNat else Value.int .u32 0).toArray
theorem zFg(n:Nat):(tabC n).size=256:=by simp[tabC]
theorem zEU(n j:Nat)(h:j<256):(tabC n)[j]? =some (if j<n then Value.int .u32 (tab j).toNat else Value.int .u32 0):=by
 simp[tabC,h]
theorem zOz(n:Nat)(_h:n<256):(tabC n).setIfInBounds n (.int .u32 (tab n).toNat)=tabC (n+1):=by
 apply Array.ext_getElem?
 intro j
 by_cases hj:j<256
 · rw[zEU (n+1) j hj,Array.getElem?_setIfInBounds]
   by_cases e:n=j
   · subst e;simp[zFg,hj]
   · rw[if_neg e,zEU n j hj]
     by_cases h1:j<n
     · rw[if_pos h1,if_pos (by omega)]
     · rw[if_neg h1,if_neg (by omega)]
 · rw[Array.getElem?_eq_none (by simp[zFg];omega),Array.getElem?_eq_none (by rw[zFg];omega)]
theorem zOu:Tryz.zeroCells206=tabC 0:=by kernel_rfl
def bIx (m:Nat) (c:UInt8):Nat:=m ^^^ c.toNat
def zPR (a b:W32):Nat:=(a ^^^ b).toNat
theorem zLj{m:Nat}(hm:m<256)(c:UInt8):bIx m c<256:=Nat.xor_lt_two_pow (n:=8) hm c.toNat_lt
theorem zQC{m:Nat}(hm:m<256)(c:UInt8):bits .xor .u8 (m:Int) (c.toNat:Int)=(bIx m c:Int):=by
 have hc:=c.toNat_lt;have hq:=zLj hm c;unfold bIx at*;rw[zKA];have e1:((m:Int) % 256).toNat=m:=by omega
 have e2:((c.toNat:Int) % 256).toNat=c.toNat:=by omega
 rw[e1,e2,IntKind.wrap_u8]
 omega
abbrev zIk (b:Nat):Value:=.pointer (some ⟨b,0,none⟩)
theorem zOa(h:St W0 w K L):
  Calls Tryz.prog 122 #[] w fun en w'=>∃b,en=.returned (zIk b)∧St W0 w' K (.raw b (tabC 256) 206::L):=by
 have H:=hQd h;clear h;go_enter Tryz.func122,Tryz.ntmps122;go_wp2;rw[zOu];go_loopw [4] (fun iv wr=>∃k:Nat,k≤256∧iv=.int .i64 k∧St W0 wr K (.raw w.heap.size (tabC k) 206::L)) (fun iv _=>256 - (intOf iv).toNat)
 case atStart=>exact⟨0,by decide,rfl,H.out.allocRaw _ _⟩
 case round=>
  obtain⟨k,hk,rfl,hs⟩:=hrel;have HS:=hQd hs;clear hs
  by_cases hlt:k<256
  · have hc:=HS.out.rawCell k;rw[zEU k k hlt,if_neg (by omega)]at hc;have hf:=HS.out.rawFree k;have hw:IntKind.u32.wrap (k:Int)=(k:Int):=by rw[IntKind.wrap_u32];omega
    have hlt2:(k:Int)<256:=by omega
    have hk0:(0:Int)≤(k:Int):=by omega
    go_wp2_with fail
    go_region_with (go_at_call 150;refine(zQx k hlt _).mono ?_;rintro e wn ⟨rfl,rfl⟩)
    go_wp2;go_roundw
    case rel=>
     refine⟨k+1,by omega,by go_num,?_⟩;have h2:=(HS.out.drew).rawSet k (.int .u32 (tab k).toNat);rw[zOz k hlt]at h2;exact h2
    case measure=>first|(simp[intOf];done)|(simp[intOf];omega)
  · have hk:k=256:=by omega
    subst hk;go_wp2;go_ret;exact⟨_,rfl,HS.out⟩
theorem zPm(b:Nat)(sum:W32)(s:Bs)(hs:s.length≤140737488355328)(h:St W0 w K (.raw b (tabC 256) 206::L)):
  Calls Tryz.prog 151 #[zIk b,.int .u32 sum.toNat,.string (bb s)] w fun en w'=>en=.returned (.int .u32 (zAp sum s).toNat)∧St W0 w' K (.raw b (tabC 256) 206::L):=by
 have H:=hQd h;have hsum:=sum.isLt;obtain⟨nb,hnb⟩:∃nb,~~~ sum=nb:=⟨_,rfl⟩;have hn:=zNv sum;rw[hnb]at hn;have HNB:=hQd hnb;clear h hnb;go_enter Tryz.func151,Tryz.ntmps151;go_wp2;go_loopw [7,13] (fun rv kv wr=>∃k:Nat,k≤s.length∧kv=.int .i64 k∧rv=.int .u32 (zEM nb (s.take k)).toNat∧St W0 wr K (.raw b (tabC 256) 206::L)) (fun _ kv _=>s.length - (intOf kv).toNat)
 case atStart=>exact⟨0,Nat.zero_le _,rfl,rfl,H.out⟩
 case round=>
  obtain⟨k,hk,rfl,rfl,hst⟩:=hrel;have HS:=hQd hst;clear hst;obtain⟨r,hr⟩:∃r,zEM nb (s.take k)=r:=⟨_,rfl⟩;rw[hr];have HR:=hQd hr;clear hr
  by_cases hlt:k<s.length
  · have hrl:=r.isLt
    have hstep:zEM nb (s.take (k+1))=zE4 r s[k]:=by
     rw[List.take_succ_eq_append_getElem hlt,zDX,HR.out];rfl
    have HST:=hQd hstep;clear hstep;obtain⟨m,hm⟩:∃m,r.toNat % 256=m:=⟨_,rfl⟩;obtain⟨y,hy⟩:∃y,r>>>8=y:=⟨_,rfl⟩;have hm0:m<256:=by omega
    have hcell:∀c:UInt8,wr.cell? ⟨b,bIx m c,none⟩=some (.int .u32 (tab (bIx m c)).toNat):=fun c=>by
     have h:=HS.out.rawCell (bIx m c);rw[zEU 256 _ (zLj hm0 c),if_pos (zLj hm0 c)]at h;exact h
    have hx:=zQC hm0;have hm2:IntKind.u8.wrap (r.toNat:Int)=(m:Int):=by rw[IntKind.wrap_u8];omega
    have hs8:=zOD r;rw[hy]at hs8;have hxz:∀t:W32,bits .xor .u32 (t.toNat:Int) (y.toNat:Int)=(zPR t y:Int):=fun t=>zJM t y
    have hq0:∀c:UInt8,(0:Int)≤(bIx m c:Int):=fun c=>by omega
    have hq1:∀c:UInt8,(bIx m c:Int)<256:=fun c=>by have:=zLj hm0 c;omega
    have HZ:=hQd (show(zE4 r s[k]).toNat=zPR (tab (bIx m s[k])) y by unfold zE4 zPR bIx;rw[hm,hy]);clear hm hy hrl hm0;have hk0:(0:Int)≤(k:Int):=by omega
    have hk1:(k:Int)<s.length:=by omega
    go_wp2_with fail
    go_quiet (fail)
    go_wp2;go_roundw
    case rel=>
     refine⟨k+1,hlt,by go_num,?_,HS.out.drewN _⟩;rw[HST.out,HZ.out];exact congrArg (Value.int .u32) ((congrArg (bits .xor .u32 _) hs8).trans (hxz _))
    case measure=>first|(simp[intOf];done)|(simp[intOf];omega)
  · have hk:k=s.length:=by omega
    subst hk;obtain⟨nr,hnr⟩:∃nr,~~~ r=nr:=⟨_,rfl⟩;have hn2:=zNv r;rw[hnr]at hn2;have HNR:=hQd hnr;clear hnr;rw[List.take_length]at HR;go_wp2;go_ret;refine⟨?_,HS.out⟩;unfold zAp;rw[HNB.out,HR.out,HNR.out]
    rfl
def RStr (_:World) (cs:List Value) (x:Bs):Prop:=cs=[.string (bb x)]
def strRows (D:Nat→Prop) (w:World) (v:Value) (l:List Bs):Prop:=RowsOf RStr D w v 1 l
theorem zM6{D:Nat→Prop}{w w':World}{v:Value}{l:List Bs}(h:strRows D w v l)(hs:w.heap.size≤w'.heap.size)(hk:∀k,k<w.heap.size→D k→w'.heap[k]? =w.heap[k]?):strRows D w' v l:=by
 obtain⟨p,cap,rfl,h⟩:=h;refine⟨p,cap,rfl,fun h0=> ?_⟩;obtain⟨b,off,rfl,hb,hlt,hc⟩:=h h0;refine⟨b,off,rfl,hb,Nat.lt_of_lt_of_le hlt hs,fun i hi=> ?_⟩;obtain⟨cs,h1,h2,h3⟩:=hc i hi;exact⟨cs,h1,h2,fun f u hu=>(World.cell?_of_block (w:=w) (a:=⟨b,off+(i*1+f),none⟩) (hk b hlt hb)).trans (h3 f u hu)⟩
def Know.strs (v:Value) (l:List Bs):Know:=⟨fun w F=>strRows F w v l,fun _ _ _ h hs hk=>zM6 h hs hk,fun _ _ _ h hs=>h.mono (fun _ _ h=>hs _ h) (fun _ _ h=>h)⟩
theorem strRows.at{D:Nat→Prop}{w:World}{v:Value}{l:List Bs}(h:strRows D w v l):
  ∃p cap,v=.slice p l.length cap∧(0<l.length→∃b off,p=some ⟨b,off,none⟩∧∀i (h:i<l.length),w.cell? ⟨b,off+i,none⟩=some (.string (bb l[i]))):=by
 obtain⟨p,cap,rfl,h⟩:=h;refine⟨p,cap,rfl,fun h0=> ?_⟩;obtain⟨b,off,rfl,_,_,hc⟩:=h h0;refine⟨b,off,rfl,fun i hi=> ?_⟩;obtain⟨cs,h1,h2,h3⟩:=hc i hi;unfold RStr at h2;subst h2;have:=h3 0 _ rfl
 simpa using this
def zBd (sum:W32) (l:List Bs):W32:=l.foldl zAp sum
theorem zH4(sum:W32)(l:List Bs)(s:Bs):zBd sum (l++[s])=zAp (zBd sum l) s:=List.foldl_append
theorem zH5(sum:W32)(l:List Bs):zBd sum l=zAp sum l.flatten:=by
 induction l generalizing sum with
 |nil=>exact(zKw sum).symm
 |cons a t ih=>
  show zBd (zAp sum a) t=_
  rw[ih,List.flatten_cons,zGw]
theorem zQw(b:Nat)(v:Value)(l:List Bs)(hl:l.length≤9223372036854775807)(hs:∀s∈l,s.length≤140737488355328)(hk:K.has (Know.strs v l))(h:St W0 w K (.raw b (tabC 256) 206::L)):
  Calls Tryz.prog 123 #[zIk b,v] w fun en w'=>en=.returned (.int .u32 (zBd 0#32 l).toNat)∧St W0 w' K (.raw b (tabC 256) 206::L):=by
 have H:=hQd h;have HS:=hQd hs;have HK:=hQd hk;obtain⟨F,hF,_⟩:=h.get;obtain⟨p,cap,rfl,_⟩:=(hk _ _ hF).at;clear h hs hk hF;go_enter Tryz.func123,Tryz.ntmps123;go_wp2;go_loopw [5,10] (fun rv kv wr=>∃k:Nat,k≤l.length∧kv=.int .i64 k∧rv=.int .u32 (zBd 0#32 (l.take k)).toNat∧St W0 wr K (.raw b (tabC 256) 206::L)) (fun _ kv _=>l.length - (intOf kv).toNat)
 case atStart=>exact⟨0,Nat.zero_le _,rfl,rfl,H.out⟩
 case round=>
  obtain⟨k,hk,rfl,rfl,hst⟩:=hrel;have HST:=hQd hst;obtain⟨F2,hF2,_⟩:=hst.get;obtain⟨p2,cap2,hv2,hrow⟩:=(HK.out _ _ hF2).at;clear hst hF2;obtain⟨r,hr⟩:∃r,zBd 0#32 (l.take k)=r:=⟨_,rfl⟩;rw[hr];have HR:=hQd hr;clear hr
  by_cases hlt:k<l.length
  · obtain⟨bb',off,hp,hcells⟩:=hrow (by omega);have hpp:p=some ⟨bb',off,none⟩:=by simp at hv2;rw[hv2.1,hp]
    subst hpp;have hc:=hcells k hlt;have HL:=hQd (HS.out l[k] (List.getElem_mem hlt));have HN:=hQd (show zBd 0#32 (l.take (k+1))=zAp r l[k] by rw[List.take_succ_eq_append_getElem hlt,zH4,HR.out]);clear hcells hv2 hp hrow;generalize l[k]=s at*;go_wp2_with (go_at_call 151;refine(zPm b r s HL.out HST.out).mono ?_;rintro e wn ⟨rfl,h⟩;have H2:=hQd h;clear h);go_roundw
    case rel=>exact⟨k+1,hlt,by go_num,by rw[HN.out],H2.out⟩
    case measure=>first|(simp[intOf];done)|(simp[intOf];omega)
  · have hk:k=l.length:=by omega
    subst hk;rw[List.take_length]at HR;go_wp2;go_ret;exact⟨by rw[HR.out];rfl,HST.out⟩
theorem St.freezeStrs{r:Nat}(l:List Bs)(h:St W0 w K (.raw r (l.map fun s=>Value.string (bb s)).toArray 9::L)):St W0 w (K.and (Know.strs (.slice (some ⟨r,0,none⟩) l.length l.length) l)) L:=by
 refine h.freeze fun F S1 _ h1=> ?_
 have hlt:=zAy h1.1;refine⟨some ⟨r,0,none⟩,l.length,rfl,fun _=>⟨r,0,rfl,.inr ⟨(h1.2 r).2 rfl,hlt⟩,hlt,fun i hi=> ?_⟩⟩;refine⟨[.string (bb l[i])],rfl,rfl,fun f u hu=> ?_⟩;rw[zAx h1.1]
 cases f with
 |zero=>
  simp at hu;subst hu;simp[hi]
 |succ f=>simp at hu
theorem zPl(b r n:Nat)(l:List Bs)(x:Nat)(hn:l.length=n)(hx:(zBd 0#32 l).toNat=x)(hs:∀s∈l,s.length≤140737488355328)(hl:l.length≤9223372036854775807)(h:St W0 w K (.raw r (l.map fun s=>Value.string (bb s)).toArray 9::.raw b (tabC 256) 206::L)):
  Calls Tryz.prog 123 #[zIk b,.slice (some ⟨r,0,none⟩) n n] w fun en w'=>en=.returned (.int .u32 x)∧St W0 w' K (.raw b (tabC 256) 206::L):=by
 subst hn;subst hx;exact(zQw b _ l hl hs (Know.has_right (Know.has_refl _)) (h.freezeStrs l)).mono fun en w' hh=>⟨hh.1,hh.2.know (Know.has_left (Know.has_refl _))⟩
def zDA:Array Value→Nat→List Value→Array Value
  |c,_,[]=>c
  |c,o,v::r=>zDA (c.setIfInBounds o v) (o+1) r
theorem St.there{b:Nat}{c:Array Value}{T:TypeId}(h:St W0 w K (.raw b c T::L)):w.there b 0 c.size:=fun j hj=>by
  rw[Nat.zero_add];exact⟨by rw[h.rawCell j,Array.getElem?_eq_getElem hj];rfl,h.rawFree j⟩
theorem St.rawSets{W0:World}{K:Know}{L:List Res}{b:Nat}{T:TypeId}:∀(vs:List Value) (o:Nat) (c:Array Value) (w:World),St W0 w K (.raw b c T::L)→St W0 (w.setCells b o vs) K (.raw b (zDA c o vs) T::L)
  |[],_,_,_,h=>h
  |v::r,o,_,_,h=>St.rawSets r (o+1) _ _ (h.rawSet o v)
theorem St.storeEx{b:Nat}{c:Array Value}{T:TypeId}(h:St W0 w K (.raw b c T::L))(cs:Array Value):∃wz,w.setCells b 0 cs.toList=wz∧St W0 wz K (.raw b (zDA c 0 cs.toList) T::L):=⟨_,rfl,h.rawSets _ _ _ _⟩
theorem St.allocEx(h:St W0 w K L)(c:Array Value)(T:TypeId):∃wy b,w.alloc (.cells c T (0,0))=wy∧w.heap.size=b∧St W0 wy K (.raw b c T::L):=⟨_,_,rfl,rfl,h.allocRaw c T⟩
variable {W0 w:World}{K:Know}{L:List Res}
theorem zQv(a c:Bs):(zBd 0#32 [a,c]).toNat=(zAp 0#32 (a++c)).toNat:=by
 rw[zH5]
 simp
theorem zLh(b r:Nat)(a c:Bs)(x:Nat)(hx:(zBd 0#32 [a,c]).toNat=x)(hs:∀s∈[a,c],s.length≤140737488355328)(hl:[a,c].length≤9223372036854775807)(h:St W0 w K (.raw r #[.string (bb a),.string (bb c)] 9::.raw b (tabC 256) 206::L)):
 Calls Tryz.prog 123 #[zIk b,.slice (some ⟨r,0,none⟩) 2 2] w fun en w'=>en=.returned (.int .u32 x)∧St W0 w' K (.raw b (tabC 256) 206::L):=zPl b r 2 [a,c] x rfl hx hs hl h
theorem zEE(said rows:Bs)(x:Nat)(hx:(zAp 0#32 (said.drop 21++rows)).toNat=x)(hl:21≤said.length)(hl2:said.length≤140737488355328)(hr:rows.length≤140737488355328)(h:St W0 w K L):
  Calls Tryz.prog 88 #[.string (bb said),.string (bb rows)] w fun en w'=>en=.returned (.int .i64 x)∧St W0 w' K L:=by
 have H:=hQd h;have HX:=hQd (show(zBd 0#32 [said.drop 21,rows]).toNat=x by rw[zQv];exact hx)
 have HSS:=hQd (show ∀s∈[said.drop 21,rows],s.length≤140737488355328 by
  intro s hs;simp only[List.mem_cons,List.not_mem_nil,or_false]at hs
  rcases hs with rfl|rfl
  · rw[List.length_drop];omega
  · exact hr)
 have HLS:=hQd (show[said.drop 21,rows].length≤9223372036854775807 by simp);have HT:=hQd (show List.take (said.length - 21) (List.drop 21 said)=said.drop 21 from List.take_of_length_le (by rw[List.length_drop];omega));have hx32:x<4294967296:=by rw[←hx];exact(zAp 0#32 (said.drop 21++rows)).isLt
 have l21:(21:Int)≤(said.length:Int):=by omega
 have w1:IntKind.i64.wrap (x:Int)=(x:Int):=IntWalk.i64_in _ (by omega);have w2:wrap64 (x:Int)=(x:Int):=by unfold wrap64;omega
 clear h hx hl hl2 hr hx32;go_enter Tryz.func88,Tryz.ntmps88;go_upto_region 1 with (fail);have hs:=H.out.drew;refine wp_region_held_drew (S:=fun _=>True) (by kernel_rfl) trivial (fun hHeld=> ?_);clear H;generalize w.drew=wd at hs ⊢;refine tQ 1 ⟨some 6,.move (.tmp 0),9,_,_,none⟩ ?_;simp only[Act.put,sA,sB,sC];refine tQ 2 ⟨some 7,.slice 9 (.tmp 6) (some (.const (Value.int IntKind.i64 21))) none none,9,_,_,none⟩ ?_;simp only[Act.put,sA,sB,sC];refine tQ 3 ⟨some 8,.move (.tmp 1),9,_,_,none⟩ ?_;simp only[Act.put,sA,sB,sC];refine wpAnyH_ready (rs:=[0,4]) (by kernel_rfl) (by simp) (AllReadyH.cons (o:=⟨some 5,.call {callee:=.value (.func 122),args:= #[],argTypes:= #[]},171,_,_,none⟩) rfl (fun KK hK=> ?_) (AllReadyH.cons (o:=⟨some 9,.buildSlice 69 2 #[(0,.tmp 7),(1,.tmp 8)],69,_,_,none⟩) rfl (fun KK hK=> ?_) AllReadyH.nil))
 focus
  go_simp;go_at_call 122;with_reducible refine(zOa hs).mono ?_;rintro e wq ⟨bt,rfl,hs⟩;refine hK.out _ _ (trivial) (fun hHeld=> ?_);clear hK KK
  try simp only[Act.put,sA,sB,sC]
  refine wpAnyH_ready (rs:=[4]) (by kernel_rfl) (by simp) (AllReadyH.cons (o:=⟨some 9,.buildSlice 69 2 #[(0,.tmp 7),(1,.tmp 8)],69,_,_,none⟩) rfl (fun KK hK=> ?_) AllReadyH.nil);obtain⟨wy,bS,ey,eb,hs⟩:=hs.allocEx #[.string (bb (said.drop 21)),.string (bb rows)] 9;go_simp
  try rw[HT.out]
  try rw[ey]
  try rw[eb]
  clear ey eb;refine hK.out _ _ (trivial) (fun hHeld=> ?_);clear hK KK
  try simp only[Act.put,sA,sB,sC]
  refine wpAnyH_ready (rs:=[5]) (by kernel_rfl) (by simp) (AllReadyH.cons (o:=⟨some 10,.call {callee:=.value (.func 123),args:= #[.tmp 5,.tmp 9],argTypes:= #[171,69]},60,_,_,none⟩) rfl (fun KK hK=> ?_) AllReadyH.nil);go_simp;go_at_call 123;with_reducible refine(zLh bt bS (said.drop 21) rows x HX.out HSS.out HLS.out (hs)).mono ?_
 rotate_left
 focus
  obtain⟨wy,bS,ey,eb,hs⟩:=hs.allocEx #[.string (bb (said.drop 21)),.string (bb rows)] 9;go_simp
  try rw[HT.out]
  try rw[ey]
  try rw[eb]
  clear ey eb;refine hK.out _ _ (trivial) (fun hHeld=> ?_);clear hK KK
  try simp only[Act.put,sA,sB,sC]
  refine wpAnyH_ready (rs:=[0]) (by kernel_rfl) (by simp) (AllReadyH.cons (o:=⟨some 5,.call {callee:=.value (.func 122),args:= #[],argTypes:= #[]},171,_,_,none⟩) rfl (fun KK hK=> ?_) AllReadyH.nil);go_simp;go_at_call 122;with_reducible refine(zOa hs).mono ?_;rintro e wq ⟨bt,rfl,hs⟩;refine hK.out _ _ (trivial) (fun hHeld=> ?_);clear hK KK
  try simp only[Act.put,sA,sB,sC]
  refine wpAnyH_ready (rs:=[5]) (by kernel_rfl) (by simp) (AllReadyH.cons (o:=⟨some 10,.call {callee:=.value (.func 123),args:= #[.tmp 5,.tmp 9],argTypes:= #[171,69]},60,_,_,none⟩) rfl (fun KK hK=> ?_) AllReadyH.nil);go_simp;go_at_call 123;with_reducible refine(zLh bt bS (said.drop 21) rows x HX.out HSS.out HLS.out (hs.p1)).mono ?_
 all_goals
  rintro e wq ⟨rfl,hs⟩;refine hK.out _ _ (trivial) (fun hHeld=> ?_);clear hK KK
  try simp only[Act.put,sA,sB,sC]
  refine tQ 6 ⟨some 11,.convert 60 3 (.tmp 10),3,_,_,none⟩ ?_;simp only[Act.put,sA,sB,sC];refine tQ 7 ⟨some 4,.assign (.tmp 11),3,_,_,none⟩ ?_;simp only[Act.put,sA,sB,sC];refine wpAnyH_done (by kernel_rfl) ?_ _;clear hHeld;go_wp2_with fail;go_ret;exact⟨rfl,hs.drop⟩
def zAb (n:Int) (i:Nat):Bool:=decide (n / 2 ^ i % 2=1)
def R64 (n:Int):Prop:= -9223372036854775808≤n∧n<9223372036854775808
theorem zE5(k:Nat)(h:k<18446744073709551616):IntKind.i64.wrap (k:Int)=0↔k=0:=by
 rw[IntKind.wrap_i64];omega
theorem zCk(n:Int):((BitVec.ofInt 64 n).toNat:Int)=n % 18446744073709551616:=by
 rw[BitVec.toNat_ofInt];have:(0:Int)≤n % ((2 ^ 64:Nat):Int):=Int.emod_nonneg _ (by decide);rw[Int.toNat_of_nonneg this]
 rfl
theorem zKe(n:Int)(i:Nat)(hi:i<64):(BitVec.ofInt 64 n).toNat.testBit i=zAb n i:=by
 obtain⟨m,hm⟩:∃m,(BitVec.ofInt 64 n).toNat=m:=⟨_,rfl⟩;have h:=zCk n;rw[hm]at h;rw[hm,Nat.testBit_eq_decide_div_mod_eq];unfold zAb
 apply decide_eq_decide.mpr
 have hd:((2:Int) ^ i)*(2*2 ^ (63 - i))=18446744073709551616:=by
  rw[←Int.mul_assoc,Int.mul_comm _ 2,Int.mul_assoc,←Int.pow_add,show i+(63 - i)=63 by omega];decide
 have hp:(0:Int)<2 ^ i:=Int.pow_pos (by decide)
 have e:n=(m:Int)+2 ^ i*(2*(2 ^ (63 - i)*(n / 18446744073709551616))):=by
  have h1:=Int.mul_ediv_add_emod n 18446744073709551616;rw[←Int.mul_assoc 2,←Int.mul_assoc (2 ^ i),hd]
  omega
 have e2:n / 2 ^ i=(m:Int) / 2 ^ i+2*(2 ^ (63 - i)*(n / 18446744073709551616)):=by
  have:=Int.add_mul_ediv_left (m:Int) (2*(2 ^ (63 - i)*(n / 18446744073709551616))) (Int.ne_of_gt hp);rw[←e]at this;exact this
 have e3:((m:Int) / 2 ^ i)=((m / 2 ^ i:Nat):Int):=by
  rw[Int.natCast_ediv,Int.natCast_pow];rfl
 rw[e2,e3,Int.add_mul_emod_self_left]
 omega
theorem zKI(n:Int)(i:Nat)(hi:i<63)(m:Int)(hm:BitVec.ofInt 64 m=BitVec.twoPow 64 i):(bits .and .i64 n m !=0)=zAb n i:=by
 have e:bits .and .i64 n m=IntKind.i64.wrap ((BitVec.ofInt 64 n &&& BitVec.ofInt 64 m).toNat:Int):=rfl;have hb:(BitVec.ofInt 64 n).getLsbD i=zAb n i:=zKe n i (by omega);have hp:2 ^ i<2 ^ 64:=Nat.pow_lt_pow_right (by decide) (by omega);rw[e,hm,BitVec.and_twoPow,hb]
 cases zAb n i
 · rw[if_neg (by decide)]
   decide
 · rw[if_pos rfl,bne_iff_ne,Ne,zE5 _ (BitVec.isLt _),BitVec.toNat_twoPow,Nat.mod_eq_of_lt hp];exact Nat.ne_of_gt (Nat.two_pow_pos i)
theorem and7(n:Int):(bits .and .i64 n 7 !=0)=(zAb n 0||zAb n 1||zAb n 2):=by
 have e:bits .and .i64 n 7=IntKind.i64.wrap ((BitVec.ofInt 64 n &&& BitVec.ofInt 64 7).toNat:Int):=rfl;have hlt:=(BitVec.ofInt 64 n &&& BitVec.ofInt 64 7).isLt;have hz:=zE5 _ hlt
 have h2:(BitVec.ofInt 64 n &&& BitVec.ofInt 64 7).toNat=(BitVec.ofInt 64 n).toNat % 8:=by
  rw[BitVec.toNat_and,show(BitVec.ofInt 64 7).toNat=2 ^ 3 - 1 by decide,Nat.and_two_pow_sub_one_eq_mod]
 have h3:=zCk n;rw[h2]at e hz;rw[Bool.eq_iff_iff,bne_iff_ne,e,Ne,hz];unfold zAb
 simp
 omega
theorem zPx(n:Int)(hn:R64 n)(h:(zAb n 0||zAb n 1||zAb n 2)=false):(bits .andNot .i64 n 56 !=0)=(decide (n<0)||decide (63<n)):=by
 have h8:n % 8=0:=by unfold zAb at h;simp at h;omega
 by_cases h1:0≤n∧n≤63
 · rw[decide_eq_false (by omega),decide_eq_false (by omega)];obtain⟨q,hq⟩:∃q,n=8*q:=⟨n / 8,by omega⟩
   rcases(by omega:q=0∨q=1∨q=2∨q=3∨q=4∨q=5∨q=6∨q=7)with h|h|h|h|h|h|h|h<;>(subst h;subst hq;decide)
 · have hr:(decide (n<0)||decide (63<n))=true:=by simp;omega
   rw[hr,bne_iff_ne];intro h0;have e:bits .andNot .i64 n 56=IntKind.i64.wrap ((BitVec.ofInt 64 n &&& ~~~ BitVec.ofInt 64 56).toNat:Int):=rfl;rw[e,zE5 _ (BitVec.isLt _)]at h0
   have h2:∀i,6≤i→(BitVec.ofInt 64 n).toNat.testBit i=false:=by
    intro i hi
    by_cases h64:i<64
    · have h4:=congrArg (fun k=>Nat.testBit k i) h0
      have h5:(BitVec.ofInt 64 n &&& ~~~ BitVec.ofInt 64 56).getLsbD i=false:=by
       have:(BitVec.ofInt 64 n &&& ~~~ BitVec.ofInt 64 56).toNat.testBit i=false:=by rw[h0];exact Nat.zero_testBit i
       exact this
      rw[BitVec.getLsbD_and,BitVec.getLsbD_not]at h5
      have h6:(BitVec.ofInt 64 56).getLsbD i=false:=by
       have:(BitVec.ofInt 64 56).toNat=56:=by decide
       unfold BitVec.getLsbD;rw[this];exact Nat.testBit_lt_two_pow (Nat.lt_of_lt_of_le (by decide:56<2 ^ 6) (Nat.pow_le_pow_right (by decide) hi))
      rw[h6]at h5;have h11:(BitVec.ofInt 64 n).getLsbD i=false:=by cases hc:(BitVec.ofInt 64 n).getLsbD i<;>simp_all
      exact h11
    · exact BitVec.getLsbD_of_ge _ _ (by omega)
   have h7:(BitVec.ofInt 64 n).toNat<2 ^ 6:=Nat.lt_pow_two_of_testBit _ h2;have h8:=zCk n;have h9:=hn.1;have h10:=hn.2
   omega
def chk (n:Int):Int:=if (zAb n 0||zAb n 1||zAb n 2)=true then 9 else if (decide (n<0)||decide (63<n)||(zAb n 5 && !zAb n 4))=true then 8 else 0
def zAA (a t c:Bool) (k:Nat):Int:=(if a && decide (0<k)then 8 else 0)+(if t && decide (1<k)then 16 else 0)+(if c && decide (2<k)then 32 else 0)
theorem and8(n:Int):(bits .and .i64 n 8 !=0)=zAb n 3:=zKI n 3 (by decide) 8 (by decide)
theorem and16(n:Int):(bits .and .i64 n 16 !=0)=zAb n 4:=zKI n 4 (by decide) 16 (by decide)
theorem and32(n:Int):(bits .and .i64 n 32 !=0)=zAb n 5:=zKI n 5 (by decide) 32 (by decide)
theorem and16z(n:Int):(bits .and .i64 n 16==0)= !zAb n 4:=by rw[←and16];simp[bne]
theorem zOp(n:Int)(w:World):
  Calls Tryz.prog 201 #[.int .i64 n] w fun en w'=>en=.returned (.tuple #[.bool (zAb n 3),.bool (zAb n 4),.bool (zAb n 5)])∧w=w':=by
 have h1:=and8 n;have h2:=and16 n;have h3:=and32 n;go_enter Tryz.func201,Tryz.ntmps201;go_wp2;go_ret3;rw[←h1,←h2,←h3];exact⟨rfl,rfl⟩
theorem zMz(n:Int)(hn:R64 n)(w:World):
   Calls Tryz.prog 199 #[.int .i64 n] w fun en w'=>en=.returned (.int .i64 (chk n))∧w=w':=by
 have a7:=and7 n;have a56:=zPx n hn;have a16:=and16z n;have a32:=and32 n;clear hn;have hc:chk n=chk n:=rfl
 conv at hc=>rhs;unfold chk
 cases hb:(zAb n 0||zAb n 1||zAb n 2)
 · rw[hb]at a7 hc;rw[hb]at a56;replace a56:=a56 rfl
   cases hd:(decide (n<0)||decide (63<n))
   · rw[hd]at a56 hc
     cases h5:zAb n 5
     · rw[h5]at a32 hc;have HC:=hQd (show chk n=0 from hc);clear hc hd hb h5;go_enter Tryz.func199,Tryz.ntmps199;go_wp2;go_ret;rw[HC.out];exact⟨rfl,rfl⟩
     · rw[h5]at a32 hc
       cases h4:zAb n 4
       · rw[h4]at a16 hc;have HC:=hQd (show chk n=8 from hc);clear hc hd hb h5 h4;go_enter Tryz.func199,Tryz.ntmps199;go_wp2;go_ret;rw[HC.out];exact⟨rfl,rfl⟩
       · rw[h4]at a16 hc;have HC:=hQd (show chk n=0 from hc);clear hc hd hb h5 h4;go_enter Tryz.func199,Tryz.ntmps199;go_wp2;go_ret;rw[HC.out];exact⟨rfl,rfl⟩
   · rw[hd]at a56 hc;have HC:=hQd (show chk n=8 from hc);clear hc hd hb;go_enter Tryz.func199,Tryz.ntmps199;go_wp2;go_ret;rw[HC.out];exact⟨rfl,rfl⟩
 · rw[hb]at a7 hc;have HC:=hQd (show chk n=9 from hc);clear hc hb a56;go_enter Tryz.func199,Tryz.ntmps199;go_wp2;go_ret;rw[HC.out];exact⟨rfl,rfl⟩
abbrev aBatch (base leader:Int) (a t c:Bool) (last first max prod epoch sq:Int) (ro:Option Addr) (e k:Nat):Value:=
  .agg #[.int .i64 base,.int .i64 leader,.bool a,.bool t,.bool c,.int .i64 last,.int .i64 first,.int .i64 max,.int .i64 prod,.int .i64 epoch,.int .i64 sq,.slice ro e k]
theorem zQD(base leader:Int)(a t c:Bool)(last first max prod epoch sq:Int)(ro:Option Addr)(e k:Nat){W0 w:World}{K:Know}{L:List Res}(h:St W0 w K L):
  Calls Tryz.prog 120 #[aBatch base leader a t c last first max prod epoch sq ro e k] w fun en w'=>en=.returned (.int .i64 (zAA a t c 3))∧St W0 w' K L:=by
 have H:=hQd h;clear h;go_enter Tryz.func120,Tryz.ntmps120;go_wp2
 go_loop [4,15] (fun nv kv=>∃(k:Nat),k≤3∧kv=.int .i64 k∧nv=.int .i64 (zAA a t c k)) (fun _ kv=>3 - (intOf kv).toNat)
 case atStart=>exact⟨0,by decide,rfl,by simp[zAA]⟩
 case round=>
  obtain⟨k,hk,rfl,rfl⟩:=hrel;have e1:zAA true t c 1=bits .or .i64 (zAA true t c 0) 8:=by cases t<;>cases c<;>decide
  have e2:zAA a true c 2=bits .or .i64 (zAA a true c 1) 16:=by cases a<;>cases c<;>decide
  have e3:zAA a t true 3=bits .or .i64 (zAA a t true 2) 32:=by cases a<;>cases t<;>decide
  have f1:zAA false t c 1=zAA false t c 0:=by cases t<;>cases c<;>decide
  have f2:zAA a false c 2=zAA a false c 1:=by cases a<;>cases c<;>decide
  have f3:zAA a t false 3=zAA a t false 2:=by cases a<;>cases t<;>decide
  have E:=hQd (And.intro e1 (And.intro e2 (And.intro e3 (And.intro f1 (And.intro f2 f3)))));clear e1 e2 e3 f1 f2 f3;have i0:∀w:World,(Instr.index 137 (.agg #[.bool a,.bool t,.bool c]) (.int .i64 0)).run Tryz.prog w=.ok (.bool a) w:=fun _=>by kernel_rfl
  have i1:∀w:World,(Instr.index 137 (.agg #[.bool a,.bool t,.bool c]) (.int .i64 1)).run Tryz.prog w=.ok (.bool t) w:=fun _=>by kernel_rfl
  have i2:∀w:World,(Instr.index 137 (.agg #[.bool a,.bool t,.bool c]) (.int .i64 2)).run Tryz.prog w=.ok (.bool c) w:=fun _=>by kernel_rfl
  rcases(by omega:k=0∨k=1∨k=2∨k=3)with h|h|h|h
  · subst h
    cases a
    all_goals
     go_wp2
     go_round
     case rel=>exact⟨1,by decide,rfl,congrArg (Value.int .i64) (by first|exact E.out.2.2.2.1.symm|exact E.out.1.symm)⟩
     case measure=>decide
  · subst h
    cases t
    all_goals
     go_wp2
     go_round
     case rel=>exact⟨2,by decide,rfl,congrArg (Value.int .i64) (by first|exact E.out.2.2.2.2.1.symm|exact E.out.2.1.symm)⟩
     case measure=>decide
  · subst h
    cases c
    all_goals
     go_wp2
     go_round
     case rel=>exact⟨3,by decide,rfl,congrArg (Value.int .i64) (by first|exact E.out.2.2.2.2.2.symm|exact E.out.2.2.1.symm)⟩
     case measure=>decide
  · subst h;go_wp2;go_ret;exact⟨rfl,(H.out.alloc _).alloc _⟩
variable {W0 w:World}{K:Know}{L:List Res}
theorem zq11{p:Prop}(h:p:=by
  rw[if_neg h1,Array.getElem?_setIfInBounds]
  by_cases h2:o=i
  · subst h2;rw[if_pos rfl]
    by_cases h3:o<c.size
    · rw[if_pos h3,if_pos (by omega),Nat.sub_self];rfl
    · rw[if_neg h3,if_neg (by omega),Array.getElem?_eq_none (by omega)]
  · rw[if_neg h2,if_neg (by omega)]):p:=h
theorem zq15{p:Prop}(h:p:=by
  rw[if_pos h1,if_pos (by omega)];obtain⟨k,rfl⟩:∃k,i=o+1+k:=⟨i - (o+1),by omega⟩;rw[show o+1+k - (o+1)=k by omega,show o+1+k - o=k+1 by omega]
  rfl):p:=h
theorem zGJ:∀(vs:List Value) (o:Nat) (c:Array Value) (i:Nat),(zDA c o vs)[i]? =if o≤i∧i<o+vs.length∧i<c.size then vs[i - o]? else c[i]?
  |[],o,c,i=>by
    show c[i]? =_
    rw[if_neg (by simp;omega)]
  |v::r,o,c,i=>by
    show(zDA (c.setIfInBounds o v) (o+1) r)[i]? =_
    rw[zGJ r (o+1) _ i];simp only[Array.size_setIfInBounds,List.length_cons]
    by_cases h1:o+1≤i∧i<o+1+r.length∧i<c.size
    · exact zq15
    · exact zq11
theorem zq13{p:Prop}(h:p:=by
  by_cases h1:i<cs.size
  · rw[if_pos (by simp;omega),Nat.sub_zero,Array.getElem?_toList]
  · rw[if_neg (by simp;omega),Array.getElem?_eq_none (by omega),Array.getElem?_eq_none (by omega)]):p:=h
theorem zD9(c cs:Array Value)(h:c.size=cs.size):zDA c 0 cs.toList=cs:=by
 refine Array.ext_getElem? fun i=> ?_
 rw[zGJ]
 exact zq13
theorem zPt(base leader:Int)(app txn ctl:Bool)(last first maxt prod epoch sq:Int)(q:Option Addr)(n cap:Nat)(h:St W0 w K L):
 Calls Tryz.prog 120 #[.agg #[.int .i64 base,.int .i64 leader,.bool app,.bool txn,.bool ctl,.int .i64 last,.int .i64 first,.int .i64 maxt,.int .i64 prod,.int .i64 epoch,.int .i64 sq,.slice q n cap]] w fun en w'=>en=.returned (.int .i64 (zAA app txn ctl 3))∧St W0 w' K L:=zQD base leader app txn ctl last first maxt prod epoch sq q n cap h
theorem zPq(base leader:Int)(app txn ctl:Bool)(last first maxt prod epoch sq:Int)(l:List (RecS×Value))(q:Option Addr)(cap:Nat)(size:Nat)(hsz:size≤140737488355328)(h:St W0 w K L):
  Calls Tryz.prog 86 #[.agg #[.int .i64 base,.int .i64 leader,.bool app,.bool txn,.bool ctl,.int .i64 last,.int .i64 first,.int .i64 maxt,.int .i64 prod,.int .i64 epoch,.int .i64 sq,.slice q l.length cap],.int .i64 size] w fun en w'=>en=.returned (.agg #[.int .i64 base,.int .i64 (49+size),.int .i64 leader,.int .i64 0,.int .i64 (zAA app txn ctl 3),.int .i64 last,.int .i64 first,.int .i64 maxt,.int .i64 prod,.int .i64 epoch,.int .i64 sq,.int .i64 l.length])∧St W0 w' K L:=by
 have g1:=h.allocRaw #[.int .i64 base,.int .i64 leader,.bool app,.bool txn,.bool ctl,.int .i64 last,.int .i64 first,.int .i64 maxt,.int .i64 prod,.int .i64 epoch,.int .i64 sq,.slice q l.length cap] 30;have g2:=(g1.allocRaw #[.int .i64 0,.int .i64 0,.int .i64 0,.int .i64 0,.int .i64 0,.int .i64 0,.int .i64 0,.int .i64 0,.int .i64 0,.int .i64 0,.int .i64 0,.int .i64 0] 130).p1;obtain⟨hb,hhb⟩:∃b,w.heap.size=b:=⟨_,rfl⟩;obtain⟨rb,hrb⟩:∃b,hb+1=b:=⟨_,rfl⟩;simp only[World.size_alloc,hhb,hrb]at g2;have H:=hQd g2;have w1:IntKind.i64.wrap (49+(size:Int))=49+(size:Int):=IntWalk.i64_in _ (by omega);clear g1 g2 h hsz;go_enter Tryz.func86,Tryz.ntmps86;go_upto_region 1 with (fail);have hs:=H.out.drew;refine wp_region_held_drew (S:=fun w'=>w'.cell? ⟨hb,0,none⟩=some (.int .i64 base)∧w'.cell? ⟨hb,1,none⟩=some (.int .i64 leader)∧w'.cell? ⟨hb,2,none⟩=some (.bool app)∧w'.cell? ⟨hb,3,none⟩=some (.bool txn)∧w'.cell? ⟨hb,4,none⟩=some (.bool ctl)∧w'.cell? ⟨hb,5,none⟩=some (.int .i64 last)∧w'.cell? ⟨hb,6,none⟩=some (.int .i64 first)∧w'.cell? ⟨hb,7,none⟩=some (.int .i64 maxt)∧w'.cell? ⟨hb,8,none⟩=some (.int .i64 prod)∧w'.cell? ⟨hb,9,none⟩=some (.int .i64 epoch)∧w'.cell? ⟨hb,10,none⟩=some (.int .i64 sq)∧w'.cell? ⟨hb,11,none⟩=some (.slice q l.length cap)) (by kernel_rfl) (let ⟨x0,x1,x2,x3,x4,x5,x6,x7,x8,x9,x10,x11,_⟩:=zAa (b:=hb) (hs);⟨x0,x1,x2,x3,x4,x5,x6,x7,x8,x9,x10,x11⟩) (fun hHeld=> ?_);refine tQ 0 ⟨some 5,.fieldAddr 30 (.tmp 2) 0,0,_,_,none⟩ ?_;simp only[Act.put,sA,sB,sC];refine tQ 1 ⟨some 6,.load 3 (.tmp 5),3,_,_,none⟩ ?_;simp only[Act.put,sA,sB,sC];refine tQ 2 ⟨some 7,.move (.tmp 1),3,_,_,none⟩ ?_;simp only[Act.put,sA,sB,sC];refine tQ 3 ⟨some 8,.binOp .add 3 (.const (Value.int IntKind.i64 49)) (.tmp 7) 3,3,_,_,none⟩ ?_;simp only[Act.put,sA,sB,sC];refine tQ 4 ⟨some 9,.fieldAddr 30 (.tmp 2) 1,0,_,_,none⟩ ?_;simp only[Act.put,sA,sB,sC];refine tQ 5 ⟨some 10,.load 3 (.tmp 9),3,_,_,none⟩ ?_;simp only[Act.put,sA,sB,sC];refine tQ 6 ⟨some 11,.load 30 (.tmp 2),30,_,_,none⟩ ?_;simp only[Act.put,sA,sB,sC];refine tQ 8 ⟨some 13,.fieldAddr 30 (.tmp 2) 5,0,_,_,none⟩ ?_;simp only[Act.put,sA,sB,sC];refine tQ 9 ⟨some 14,.load 3 (.tmp 13),3,_,_,none⟩ ?_;simp only[Act.put,sA,sB,sC];refine tQ 10 ⟨some 15,.fieldAddr 30 (.tmp 2) 6,0,_,_,none⟩ ?_;simp only[Act.put,sA,sB,sC];refine tQ 11 ⟨some 16,.load 3 (.tmp 15),3,_,_,none⟩ ?_;simp only[Act.put,sA,sB,sC];refine tQ 12 ⟨some 17,.fieldAddr 30 (.tmp 2) 7,0,_,_,none⟩ ?_;simp only[Act.put,sA,sB,sC];refine tQ 13 ⟨some 18,.load 3 (.tmp 17),3,_,_,none⟩ ?_;simp only[Act.put,sA,sB,sC];refine tQ 14 ⟨some 19,.fieldAddr 30 (.tmp 2) 8,0,_,_,none⟩ ?_;simp only[Act.put,sA,sB,sC];refine tQ 15 ⟨some 20,.load 3 (.tmp 19),3,_,_,none⟩ ?_;simp only[Act.put,sA,sB,sC];refine tQ 16 ⟨some 21,.fieldAddr 30 (.tmp 2) 9,0,_,_,none⟩ ?_;simp only[Act.put,sA,sB,sC];refine tQ 17 ⟨some 22,.load 3 (.tmp 21),3,_,_,none⟩ ?_;simp only[Act.put,sA,sB,sC];refine tQ 18 ⟨some 23,.fieldAddr 30 (.tmp 2) 10,0,_,_,none⟩ ?_;simp only[Act.put,sA,sB,sC];refine tQ 19 ⟨some 24,.load 3 (.tmp 23),3,_,_,none⟩ ?_;simp only[Act.put,sA,sB,sC];refine tQ 20 ⟨some 25,.fieldAddr 30 (.tmp 2) 11,0,_,_,none⟩ ?_;simp only[Act.put,sA,sB,sC];refine tQ 21 ⟨some 26,.load 28 (.tmp 25),28,_,_,none⟩ ?_;simp only[Act.put,sA,sB,sC];refine tQ 22 ⟨some 27,.call {callee:=.builtin .len,args:= #[.tmp 26],argTypes:= #[28]},3,_,_,none⟩ ?_;simp only[Act.put,sA,sB,sC];refine wpAnyH_ready (rs:=[7]) (by kernel_rfl) (by simp) (AllReadyH.cons (o:=⟨some 12,.call {callee:=.value (.func 120),args:= #[.tmp 11],argTypes:= #[30]},3,_,_,none⟩) rfl (fun KK hK=> ?_) AllReadyH.nil);go_simp;go_at_call 120;with_reducible refine(zPt base leader app txn ctl last first maxt prod epoch sq q l.length cap hs).mono ?_;rintro e wq ⟨rfl,hs⟩;refine hK.out _ _ (let ⟨x0,x1,x2,x3,x4,x5,x6,x7,x8,x9,x10,x11,_⟩:=zAa (b:=hb) (hs);⟨x0,x1,x2,x3,x4,x5,x6,x7,x8,x9,x10,x11⟩) (fun hHeld=> ?_);clear hK KK
 try simp only[Act.put,sA,sB,sC]
 refine tQ 23 ⟨some 28,.build 130 #[(0,.tmp 6),(1,.tmp 8),(2,.tmp 10),(4,.tmp 12),(5,.tmp 14),(6,.tmp 16),(7,.tmp 18),(8,.tmp 20),(9,.tmp 22),(10,.tmp 24),(11,.tmp 27)],130,_,_,none⟩ ?_;simp only[Act.put,sA,sB,sC];refine wpAnyH_ready (rs:=[24]) (by kernel_rfl) (by simp) (AllReadyH.cons (o:=⟨none,.store 130 (.tmp 4) (.tmp 28),0,_,_,none⟩) rfl (fun KK hK=> ?_) AllReadyH.nil);have hs:=hs.p1;rw[if_pos (by rfl)];refine wp_store_mid 130 (.tmp 4) (.tmp 28) rfl rb 0 #[.int .i64 base,.int .i64 (49+size),.int .i64 leader,.int .i64 0,.int .i64 (zAA app txn ctl 3),.int .i64 last,.int .i64 first,.int .i64 maxt,.int .i64 prod,.int .i64 epoch,.int .i64 sq,.int .i64 l.length] (by rfl) (by rfl) hs.there (by kernel_rfl) (by simp[Value.oneCell']) ?_;obtain⟨wz,ez,hs⟩:=hs.storeEx #[.int .i64 base,.int .i64 (49+size),.int .i64 leader,.int .i64 0,.int .i64 (zAA app txn ctl 3),.int .i64 last,.int .i64 first,.int .i64 maxt,.int .i64 prod,.int .i64 epoch,.int .i64 sq,.int .i64 l.length];rw[ez];clear ez;refine hK.out _ _ (let ⟨x0,x1,x2,x3,x4,x5,x6,x7,x8,x9,x10,x11,_⟩:=zAa (b:=hb) (hs.p1);⟨x0,x1,x2,x3,x4,x5,x6,x7,x8,x9,x10,x11⟩) (fun hHeld=> ?_);clear hK KK
 try simp only[Act.put]
 refine wpAnyH_done (by kernel_rfl) ?_ _;clear hHeld;rw[zD9]at hs;rotate_left
 · rfl
 have hz:St W0 _ K (.raw rb #[.int .i64 base,.int .i64 (49+size),.int .i64 leader,.int .i64 0,.int .i64 (zAA app txn ctl 3),.int .i64 last,.int .i64 first,.int .i64 maxt,.int .i64 prod,.int .i64 epoch,.int .i64 sq,.int .i64 l.length] 130::_):=hs;go_wp2_with fail;refine bodyPost_ret (zAP rfl _ _ rb [.int .i64 base,.int .i64 (49+size),.int .i64 leader,.int .i64 0,.int .i64 (zAA app txn ctl 3),.int .i64 last,.int .i64 first,.int .i64 maxt,.int .i64 prod,.int .i64 epoch,.int .i64 sq,.int .i64 l.length] _ rfl (zAo hz) Tryz.underlying130 rfl (by kernel_rfl)) rfl ?_;exact⟨rfl,hz.drop.drop⟩
theorem glue{l a:Bs}{n m:Nat}(h:a=(l.drop n).take m):a++l.drop (n+m)=l.drop n:=by
 rw[h,←List.drop_drop,List.take_append_drop]
theorem zJ4{s:Bs}{x:RecS}(h:zBM s=.ok x):recF x=s∧zAV x=0∧x.R∧x.sum≤s.length:=by
 unfold zBM at h
 cases h0:zA7 1 s with
 |error e=>rw[h0]at h;cases h
 |ok a=>
  rw[h0]at h;simp only at h
  by_cases ha:a.1=0
  · rw[if_pos ha]at h
    obtain⟨c,t,rfl⟩:∃c t,s=c::t:=by
     cases s with
     |nil=>cases h0
     |cons c t=>exact⟨c,t,rfl⟩
    have hc:c=0:=by
     have:(.ok (zES c,1):Except Int (Int×Nat))=.ok a:=by rw[←h0];unfold zA7;rw[if_neg (by simp)];rfl
     cases this
     have hn:=c.toNat_lt;have h2:zES c=0:=ha;unfold zES at h2;exact UInt8.toNat_inj.1 (show c.toNat=0 by split at h2<;>omega)
    subst hc
    cases h1:zFc ((0::t:Bs).drop 1)with
    |error e=>rw[h1]at h;cases h
    |ok x1=>
     obtain⟨tm,k⟩:=x1;rw[h1]at h;simp only at h
     cases h2:zCv ((0::t:Bs).drop (1+k))with
     |error e=>rw[h2]at h;cases h
     |ok x2=>
      obtain⟨o,m⟩:=x2;rw[h2]at h;simp only at h
      by_cases ho:o<0
      · rw[if_pos ho]at h;cases h
      rw[if_neg ho]at h
      cases h3:zAq ((0::t:Bs).drop (1+k+m))with
      |error e=>rw[h3]at h;cases h
      |ok x3=>
       obtain⟨kb,ka⟩:=x3;rw[h3]at h;simp only at h
       cases h4:zAq ((0::t:Bs).drop (1+k+m+ka))with
       |error e=>rw[h4]at h;cases h
       |ok x4=>
        obtain⟨vb,va⟩:=x4;rw[h4]at h;simp only at h
        cases h5:zCF ((0::t:Bs).drop (1+k+m+ka+va))with
        |error e=>rw[h5]at h;cases h
        |ok x5=>
         obtain⟨l,ha5⟩:=x5;rw[h5]at h;simp only at h
         by_cases hf:1+k+m+ka+va+ha5=(0::t:Bs).length
         · rw[if_pos hf]at h
           cases h
           obtain⟨g1,_,_,r1,r2⟩:=zMC h1;obtain⟨g2,_,_,r3,r4⟩:=zFe h2;obtain⟨g3,_,b3,c3,_,d3⟩:=zBg h3;obtain⟨g4,_,b4,c4,_,d4⟩:=zBg h4;obtain⟨g5,_,b5,c5,d5⟩:=zLQ h5;refine⟨?_,?_,⟨⟨r1,r2⟩,by constructor<;>simp only<;>omega⟩,?_⟩
           · unfold recF;simp only;have q5:=glue g5;rw[List.drop_eq_nil_of_le (by omega),List.append_nil]at q5;rw[q5,glue g4,glue g3];have q2:encI o++(0::t:Bs).drop (1+k+m)=(0::t:Bs).drop (1+k):=glue g2;have q1:encI tm++(0::t:Bs).drop (1+k)=(0::t:Bs).drop 1:=glue g1;rw[q2,q1]
             rfl
           · unfold zAV RecS.allRight;simp only;rw[if_neg (by omega),c3,c4,c5]
             rfl
           · unfold RecS.sum;simp only;have e3:kb.data.length≤ka:=by split at d3<;>omega
             have e4:vb.data.length≤va:=by split at d4<;>omega
             omega
         · rw[if_neg hf]at h;cases h
  · rw[if_neg ha]at h;cases h
theorem zFx{s:Bs}{x:RecS}{m:Nat}(h:zHB s=.ok (x,m)):encR x=s.take m∧zAV x=0∧x.R∧x.sum≤s.length∧0<m∧m≤s.length:=by
 unfold zHB at h
 cases h1:zAq s with
 |error e=>rw[h1]at h;cases h
 |ok b=>
  obtain⟨⟨n,d⟩,k⟩:=b;rw[h1]at h;simp only at h;obtain⟨g1,g2,g3,_,_,g5⟩:=zBg h1
  cases n with
  |true=>cases h
  |false=>
   simp only[Bool.false_eq_true,if_false]at h
   cases h2:zBM d with
   |error e=>rw[h2]at h;cases h
   |ok y=>
    rw[h2]at h
    cases h
    obtain⟨k1,k2,k3,k4⟩:=zJ4 h2;simp at g5;exact⟨by unfold encR;rw[k1];exact g1,k2,k3,by omega,g2,g3⟩
theorem zDM:∀(l:List HdrS) (N:Nat),hsum l≤N→∀x∈l,x.key.length≤N∧x.val.data.length≤N
  |[],_,_,_,h=>by cases h
  |y::t,N,hh,x,hx=>by
    simp only[hsum,List.map_cons,List.sum_cons]at hh
    rcases List.mem_cons.1 hx with rfl|hx
    · omega
    · exact zDM t N (by simp only[hsum];omega) x hx
theorem zHh:∀(n:Nat) (rows:Bs) (pos:Nat) (rs:List RecS),pos≤rows.length→unp n ⟨rows,pos,0⟩=.ok rs→rs.length=n∧rs.length+pos≤rows.length∧∀x∈rs,x.R∧zAV x=0∧x.sum≤rows.length
  |0,rows,pos,rs,hp,h=>by
    unfold unp at h
    split at h
    · cases h;exact⟨rfl,by simpa using hp,fun x hx=>by cases hx⟩
    · cases h
  |n+1,rows,pos,rs,hp,h=>by
    have h:(if (⟨rows,pos,0⟩:InS).left=0 then .error 10 else if (⟨rows,pos,0⟩:InS).record.2.err=0 then zH6 (⟨rows,pos,0⟩:InS).record.1 (unp n (⟨rows,pos,0⟩:InS).record.2)else .error (⟨rows,pos,0⟩:InS).record.2.err)=.ok rs:=h
    by_cases c1:(⟨rows,pos,0⟩:InS).left=0
    · rw[if_pos c1]at h;cases h
    rw[if_neg c1]at h
    cases hr:zHB (rows.drop pos)with
    |error e=>
      obtain⟨he,q,_,hf⟩:=zFA.err rows pos e hp hr;rw[hf]at h;simp only at h;rw[if_neg he]at h
      cases h
    |ok y=>
      obtain⟨x,m⟩:=y;obtain⟨hpm,hf⟩:=zFA.ok rows pos x m hp hr;rw[hf]at h;simp only[if_true]at h
      cases hu:unp n ⟨rows,pos+m,0⟩with
      |error e=>rw[hu]at h;cases h
      |ok t=>
        rw[hu]at h;have h:Except.ok (x::t)=Except.ok rs:=h;injection h with h;subst h;obtain⟨i1,i2,i3⟩:=zHh n rows (pos+m) t hpm hu;obtain⟨_,j1,j2,j3,j4,j5⟩:=zFx hr;rw[List.length_drop]at j3 j5;refine⟨by simp[i1],by simp only[List.length_cons];omega,fun y hy=> ?_⟩
        rcases List.mem_cons.1 hy with rfl|hy
        · exact⟨j2,j1,by omega⟩
        · exact i3 y hy
theorem zKL{n:Nat}{rows:Bs}{rs:List RecS}{l:List (RecS×Value)}(hu:unp n ⟨rows,0,0⟩=.ok rs)(hl:l.map (·.1)=rs)(hr:rows.length≤1000000):FitB l∧l.length≤1000000:=by
 obtain⟨i1,i2,i3⟩:=zHh n rows 0 rs (Nat.zero_le _) hu
 constructor
 · intro x hx;have hm:x.1∈rs:=by rw[←hl];exact List.mem_map.2 ⟨x,hx,rfl⟩
   obtain⟨a,_,c⟩:=i3 x.1 hm;refine⟨a,fun y hy=> ?_,by omega⟩;have h1:hsum x.1.hdrs≤1000000:=by unfold RecS.sum at c;omega
   have:=zDM x.1.hdrs 1000000 h1 y hy
   omega
 · have:l.length=rs.length:=by rw[←hl,List.length_map]
   omega
def asmB (x:PreS) (said rows:Bs):Except Int BatS:=
  if ((zAp 0#32 (said.drop 21++rows)).toNat:Int)≠x.sum then .error 5
  else if chk x.attr≠0 then .error (chk x.attr)
  else match unp x.count.toNat ⟨rows,0,0⟩with
    | .error e=> .error e
    | .ok rs=>if zAc ⟨x.base,x.leader,zAb x.attr 3,zAb x.attr 4,zAb x.attr 5,x.last,x.first,x.maxt,x.prod,x.epoch,x.seq,rs⟩=0 then .ok ⟨x.base,x.leader,zAb x.attr 3,zAb x.attr 4,zAb x.attr 5,x.last,x.first,x.maxt,x.prod,x.epoch,x.seq,rs⟩else .error (zAc ⟨x.base,x.leader,zAb x.attr 3,zAb x.attr 4,zAb x.attr 5,x.last,x.first,x.maxt,x.prod,x.epoch,x.seq,rs⟩)
theorem zHc(n:Int)(h:St W0 w K L):
 Calls Tryz.prog 201 #[.int .i64 n] w fun en w'=>en=.returned (.tuple #[.bool (zAb n 3),.bool (zAb n 4),.bool (zAb n 5)])∧St W0 w' K L:=(zOp n w).mono fun _ _ hh=>⟨hh.1,hh.2 ▸ h⟩
theorem zCs(n e:Int)(he:chk n=e)(hn:R64 n)(h:St W0 w K L):
 Calls Tryz.prog 199 #[.int .i64 n] w fun en w'=>en=.returned (.int .i64 e)∧St W0 w' K L:=(zMz n hn w).mono fun _ _ hh=>⟨he ▸ hh.1,hh.2 ▸ h⟩
theorem zCB(b:Nat)(i j:InS)(n:Int)(s:Bs)(hx:i.take n=(s,j))(h:St W0 w K (.inp b i::L)):
  Calls Tryz.prog 184 #[zAs b,.int .i64 n] w fun en w'=>en=.returned (.string (bb s))∧St W0 w' K (.inp b j::L):=by
 have:=zPG b i n h;rw[hx]at this;exact this
theorem zM3(b:Nat)(i j:InS)(e:Int)(hx:i.fail e=j)(h:St W0 w K (.inp b i::L)):
  Calls Tryz.prog 158 #[zAs b,.int .i64 e] w fun en w'=>en=.returned (.tuple #[])∧St W0 w' K (.inp b j::L):=by
 subst hx;exact zBT b i e h
theorem zMH:∀(n:Nat) (i:InS) (e:Int),unp n i=.error e→e≠0
  |0,i,e,h=>by
    unfold unp at h
    split at h
    · cases h
    · cases h;decide
  |n+1,i,e,h=>by
    have h:(if i.left=0 then .error 10 else if i.record.2.err=0 then zH6 i.record.1 (unp n i.record.2)else .error i.record.2.err)=.error e:=h
    by_cases c1:i.left=0
    · rw[if_pos c1]at h;cases h;decide
    rw[if_neg c1]at h
    by_cases c2:i.record.2.err=0
    · rw[if_pos c2]at h
      cases hu:unp n i.record.2 with
      |ok t=>rw[hu]at h;cases h
      |error f=>
        rw[hu]at h;have h:Except.error f=Except.error e:=h;injection h with h;subst h;exact zMH n _ _ hu
    · rw[if_neg c2]at h;injection h with h;exact h ▸ c2
theorem zIf{x:PreS}{said rows:Bs}{e:Int}(h:asmB x said rows=.error e):e≠0:=by
 unfold asmB at h
 split at h
 · cases h;decide
 split at h
 · cases h;assumption
 split at h
 · rename_i f hu
   cases h
   exact zMH _ _ _ hu
 · split at h
   · cases h
   · cases h;assumption
theorem zIe{x:PreS}{said rows:Bs}{b:BatS}(h:asmB x said rows=.ok b):((zAp 0#32 (said.drop 21++rows)).toNat:Int)=x.sum∧chk x.attr=0∧∃rs,unp x.count.toNat ⟨rows,0,0⟩=.ok rs∧zAc (⟨x.base,x.leader,zAb x.attr 3,zAb x.attr 4,zAb x.attr 5,x.last,x.first,x.maxt,x.prod,x.epoch,x.seq,rs⟩:BatS)=0∧b=(⟨x.base,x.leader,zAb x.attr 3,zAb x.attr 4,zAb x.attr 5,x.last,x.first,x.maxt,x.prod,x.epoch,x.seq,rs⟩:BatS):=by
 unfold asmB at h
 split at h
 · cases h
 rename_i h1
 split at h
 · cases h
 rename_i h2
 have h1:((zAp 0#32 (said.drop 21++rows)).toNat:Int)=x.sum:=by
   by_cases hh:((zAp 0#32 (said.drop 21++rows)).toNat:Int)=x.sum
   · exact hh
   · exact absurd hh h1
 have h2:chk x.attr=0:=by
   by_cases hh:chk x.attr=0
   · exact hh
   · exact absurd hh h2
 split at h
 · cases h
 · rename_i rs hu
   split at h
   · rename_i hb
     cases h
     exact⟨h1,h2,rs,hu,hb,rfl⟩
   · cases h
theorem zGv(a b:List (Int×Nat)):zAd (a++b)=zAd a++zAd b:=List.flatMap_append
theorem FitsAll.nil:FitsAll []:=fun _ hx=>by cases hx
theorem FitsAll.append{a b:List (Int×Nat)}(h:FitsAll a)(k:FitsAll b):FitsAll (a++b):=fun x hx=>(List.mem_append.1 hx).elim (h x) (k x)
theorem FitsAll.one{n:Int}{z:Nat}(h:fits n z):FitsAll [(n,z)]:=fun x hx=>by simp at hx;subst hx;exact h
theorem zIo(n:Int)(h0:¬n<0)(h1:¬4294967295<n):fits (zAE n) 4:=by
 have e4:half 4=2147483648:=by decide
 unfold fits zAE;rw[if_neg (by omega)];refine⟨by decide,by decide,?_⟩;have:(4:Int).toNat=4:=rfl;rw[this,e4]
 split<;>omega
theorem zJR(n:Int)(h:n<0∨4294967295<n):¬fits (zAE n) 4:=by
 have e:zAE n=4294967296:=if_pos h;rw[e]
 decide
variable {W0 w:World}{K:Know}{L:List Res}
def preX (s:Bs):PreS×Int:=zFL (zBp zAD s)
def zAQ (s:Bs):Except Int PreS:=if s.length<61 then .error 1 else if (preX s).2=2 then(if (preX s).1.len<49 then .error 4 else if (preX s).1.count<0 then .error 10 else .ok (preX s).1)else .error 6
theorem InS.fail_stuck_Pre6{i:InS}(h:i.err≠0)(e:Int):i.fail e=i:=if_neg h
theorem InS.fail_ok0(s:Bs)(p:Nat)(e:Int):(⟨s,p,0⟩:InS).fail e=⟨s,p,e⟩:=rfl
theorem zIN(x:PreS)(m:Int){i:InS}(h:i.err≠0):zIO x m i=i:=by
 unfold zIO;simp only[InS.fail_stuck_Pre6 h,ite_self]
theorem zJ9(s:Bs)(pos:Nat)(hp:pos+61≤s.length):(⟨s,pos,0⟩:InS).pre=match zAQ (s.drop pos)with| .ok x=>(x,⟨s,pos+61,0⟩)| .error e=>(PreS.zero,⟨s,pos+61,e⟩):=by
 have h1:=zNF zAD s pos (by decide) hp;have h2:zAD.sum=61:=rfl;rw[h2]at h1;unfold InS.pre;rw[h1];unfold zAQ preX;rw[if_neg (by rw[List.length_drop];omega)];obtain⟨x,m⟩:=zFL (zBp zAD (s.drop pos));simp only[zIO]
 by_cases hm:m=2
 · rw[if_pos hm,if_pos hm]
   by_cases hl:x.len<49
   · rw[if_pos hl,if_pos hl,InS.fail_ok0,InS.fail_stuck_Pre6 (show(4:Int)≠0 by decide),ite_self,if_neg (show ¬(4:Int)=0 by decide)]
   · rw[if_neg hl,if_neg hl]
     by_cases hc:x.count<0
     · rw[if_pos hc,if_pos hc,InS.fail_ok0,if_neg (show ¬(10:Int)=0 by decide)]
     · rw[if_neg hc,if_neg hc,if_pos rfl]
 · have hs:∀e:Int,(⟨s,pos+61,6⟩:InS).fail e=⟨s,pos+61,6⟩:=fun e=>InS.fail_stuck_Pre6 (show(6:Int)≠0 by decide) e
   rw[if_neg hm,if_neg hm,InS.fail_ok0];simp only[hs,ite_self];rw[if_neg (show ¬(6:Int)=0 by decide)]
theorem zL2(s:Bs)(pos:Nat)(hp:pos≤s.length)(hs:s.length<pos+61):∃q,q≤s.length∧(⟨s,pos,0⟩:InS).pre=(PreS.zero,⟨s,q,1⟩):=by
 obtain⟨q,h1,h2⟩:=zG3 zAD s pos (by decide) hp hs;refine⟨q,h1,?_⟩;unfold InS.pre;rw[h2,zIN _ _ (show(1:Int)≠0 by decide)];simp only;rw[if_neg (by decide)]
theorem zJ3{s:Bs}(h:s.length<61):zAQ s=.error 1:=if_pos h
theorem zFV:∀(l:List Nat) (s:Bs) (n:Nat),l.sum≤n→zBp l (s.take n)=zBp l s
  |[],_,_,_=>rfl
  |k::t,s,n,h=>by
    rw[List.sum_cons]at h;unfold zBp;rw[List.take_take,Nat.min_eq_left (by omega),List.drop_take,zFV t (s.drop k) (n - k) (by omega)]
theorem zBh(s:Bs)(h:61≤s.length):zAQ (s.take 61)=zAQ s:=by
 unfold zAQ preX;rw[zFV zAD s 61 (by decide),List.length_take,Nat.min_eq_left h,if_neg (show ¬61<61 by decide),if_neg (show ¬s.length<61 by omega)]
theorem zDk(s:Bs)(h:s.length≤4): -2147483648≤sInt s∧sInt s<2147483648:=by
 rcases(by omega:s.length=0∨(1≤s.length∧s.length≤4))with h0|h0
 · have:s=[]:=List.length_eq_zero_iff.1 h0;subst this
   decide
 · have h1:=(zM5 s s.length h0.1 (by omega) rfl).2.2;rw[Int.toNat_natCast]at h1
   have h2:half s.length≤2147483648:=by
    rcases(by omega:s.length=1∨s.length=2∨s.length=3∨s.length=4)with h|h|h|h<;>rw[h]<;>decide
   omega
theorem zKa(s:Bs):preX s=(⟨sInt (s.take 8),sInt ((s.drop 8).take 4),sInt ((s.drop 12).take 4),sInt ((s.drop 17).take 4) % 4294967296,sInt ((s.drop 21).take 2),sInt ((s.drop 23).take 4),sInt ((s.drop 27).take 8),sInt ((s.drop 35).take 8),sInt ((s.drop 43).take 8),sInt ((s.drop 51).take 2),sInt ((s.drop 53).take 4),sInt ((s.drop 57).take 4)⟩,sInt ((s.drop 16).take 1)):=by
 unfold preX zAD;simp only[zBp,List.drop_drop,Nat.reduceAdd]
 rfl
theorem zK2(s:Bs): -2147483648≤(preX s).1.len∧(preX s).1.len<2147483648:=by
 rw[zKa];exact zDk _ (by rw[List.length_take];omega)
def zIU (s:Bs):Int×Int:=if s.length<61 then(0,0)else match zAQ s with| .ok x=>(x.len+12,0)| .error e=>(0,e)
theorem zBH{s:Bs}{x:PreS}(h:zAQ s=.ok x):61≤s.length∧(preX s).1=x∧(preX s).2=2∧49≤x.len∧0≤x.count:=by
 unfold zAQ at h
 split at h
 · cases h
 split at h
 · split at h
   · cases h
   · split at h
     · cases h
     · cases h
       exact⟨by omega,rfl,by assumption,by omega,by omega⟩
 · cases h
theorem zDF{s:Bs}{e:Int}(h:zAQ s=.error e):e≠0:=by
 unfold zAQ at h
 split at h
 · cases h;decide
 split at h
 · split at h
   · cases h;decide
   · split at h
     · cases h;decide
     · cases h
 · cases h;decide
theorem zBi(p:Nat)(i j:InS)(x:PreS)(hx:i.pre=(x,j))(h:St W0 w K (.inp p i::L)):
  Calls Tryz.prog 188 #[zAs p] w fun en w'=>en=.returned (.agg #[.int .i64 x.base,.int .i64 x.len,.int .i64 x.leader,.int .i64 x.sum,.int .i64 x.attr,.int .i64 x.last,.int .i64 x.first,.int .i64 x.maxt,.int .i64 x.prod,.int .i64 x.epoch,.int .i64 x.seq,.int .i64 x.count])∧St W0 w' K (.inp p j::L):=by
 have:=zJ8 p i h;rw[hx]at this;exact this
theorem zEj(s:Bs)(hs:s.length<61)(h:St W0 w K L):
  Calls Tryz.prog 166 #[.string (bb s)] w fun en w'=>en=.returned (.tuple #[.int .i64 0,.int .i64 0])∧St W0 w' K L:=by
 have hd:decide ((s.length:Int)<61)=true:=decide_eq_true (by omega);have H:=hQd h;clear h hs;go_enter Tryz.func166,Tryz.ntmps166;go_wp2;go_ret2;exact⟨rfl,H.out⟩
theorem zGs(s:Bs)(x:PreS)(j:InS)(h61:61≤s.length)(hl:s.length≤140737488355328)(hp:(⟨s.take 61,0,0⟩:InS).pre=(x,j))(hj:j.err=0)(hx: -2147483648≤x.len∧x.len<2147483648)(h:St W0 w K L):
  Calls Tryz.prog 166 #[.string (bb s)] w fun en w'=>en=.returned (.tuple #[.int .i64 (x.len+12),.int .i64 0])∧St W0 w' K L:=by
 have hd:decide ((s.length:Int)<61)=false:=decide_eq_false (by omega);have H:=hQd h;have HP:=hQd hp;have HJ:=hQd hj;have HL:=hQd (show(s.take 61).length≤140737488355328 by rw[List.length_take];omega);obtain⟨b1,b2⟩:=hx;clear h hp hj hl;go_enter Tryz.func166,Tryz.ntmps166
 go_wp2_with (first
  |(go_at_call 156;refine(zDj _ HL.out H.out).mono ?_;rintro e wn ⟨bi,rfl,h⟩;replace H:=hQd h;clear h)
  |(go_at_call 188;(with_reducible refine(zBi _ _ j x HP.out H.out).mono ?_);rintro e wn ⟨rfl,h⟩;replace H:=hQd h;clear h;replace H:=hQd (H.out.allocRaw #[.int .i64 x.base,.int .i64 x.len,.int .i64 x.leader,.int .i64 x.sum,.int .i64 x.attr,.int .i64 x.last,.int .i64 x.first,.int .i64 x.maxt,.int .i64 x.prod,.int .i64 x.epoch,.int .i64 x.seq,.int .i64 x.count] 130).p1)
  |(go_at_call 168;(with_reducible refine(zGj _ _ H.out).mono ?_);(repeat first|rw[HJ.out]);rintro e wn ⟨rfl,h⟩;replace H:=hQd h;clear h;have y1:=H.out.p1.rawCell 1;simp at y1))
 go_ret2;exact⟨rfl,H.out.drop.drop⟩
theorem zFK(s:Bs)(x:PreS)(j:InS)(h61:61≤s.length)(hl:s.length≤140737488355328)(hp:(⟨s.take 61,0,0⟩:InS).pre=(x,j))(e:Int)(hj:j.err=e)(he:e≠0)(h:St W0 w K L):
  Calls Tryz.prog 166 #[.string (bb s)] w fun en w'=>en=.returned (.tuple #[.int .i64 0,.int .i64 e])∧St W0 w' K L:=by
 have hd:decide ((s.length:Int)<61)=false:=decide_eq_false (by omega);have H:=hQd h;have HP:=hQd hp;have HJ:=hQd hj;have HL:=hQd (show(s.take 61).length≤140737488355328 by rw[List.length_take];omega);have heb:(e !=0)=true:=by rw[bne_iff_ne];exact he
 clear h hp hj hl he;go_enter Tryz.func166,Tryz.ntmps166
 go_wp2_with (first
  |(go_at_call 156;refine(zDj _ HL.out H.out).mono ?_;rintro e wn ⟨bi,rfl,h⟩;replace H:=hQd h;clear h)
  |(go_at_call 188;(with_reducible refine(zBi _ _ j x HP.out H.out).mono ?_);rintro e wn ⟨rfl,h⟩;replace H:=hQd h;clear h;replace H:=hQd (H.out.allocRaw #[.int .i64 x.base,.int .i64 x.len,.int .i64 x.leader,.int .i64 x.sum,.int .i64 x.attr,.int .i64 x.last,.int .i64 x.first,.int .i64 x.maxt,.int .i64 x.prod,.int .i64 x.epoch,.int .i64 x.seq,.int .i64 x.count] 130).p1)
  |(go_at_call 168;(with_reducible refine(zGj _ _ H.out).mono ?_);(repeat first|rw[HJ.out]);rintro e wn ⟨rfl,h⟩;replace H:=hQd h;clear h;have y1:=H.out.p1.rawCell 1;simp at y1))
 go_ret2;exact⟨rfl,H.out.drop.drop⟩
theorem zA0(s:Bs)(n e:Int)(hp:zIU s=(n,e))(hl:s.length≤140737488355328)(h:St W0 w K L):
   Calls Tryz.prog 166 #[.string (bb s)] w fun en w'=>en=.returned (.tuple #[.int .i64 n,.int .i64 e])∧St W0 w' K L:=by
 unfold zIU at hp
 by_cases h1:s.length<61
 · rw[if_pos h1]at hp
   cases hp
   exact zEj s h1 h
 · rw[if_neg h1]at hp;have h61:(s.take 61).length=61:=by rw[List.length_take];omega
   have hp2:=zJ9 (s.take 61) 0 (by omega);rw[List.drop_zero,zBh s (by omega)]at hp2
   cases hr:zAQ s with
   |ok x=>
    rw[hr]at hp hp2
    cases hp
    have hx:=zK2 s;rw[(zBH hr).2.1]at hx;exact zGs s x _ (by omega) hl hp2 rfl hx h
   |error e'=>
    rw[hr]at hp hp2
    cases hp
    exact zFK s _ _ (by omega) hl hp2 e rfl (zDF hr) h
def zCg (s:Bs):Except Int (BatS×Nat):=match zAQ s with
  | .error e=> .error e
  | .ok x=>if s.length<61+(x.len - 49).toNat then .error 1 else match asmB x (s.take 61) ((s.drop 61).take (x.len - 49).toNat)with
    | .error e=> .error e
    | .ok b=> .ok (b,61+(x.len - 49).toNat)
theorem zGT{s:Bs}{x:PreS}(h:zAQ s=.ok x):(-2147483648≤x.len∧x.len<2147483648)∧49≤x.len∧R64 x.attr∧0≤x.count∧x.count≤2147483647∧x.first≤9223372036854775807:=by
 obtain⟨h1,h2,_,h3,h4⟩:=zBH h;have hl:=zK2 s;rw[h2]at hl;rw[zKa]at h2;have h2:=h2.symm;subst h2;simp only at*;have a:=zCT ((s.drop 21).take 2) (by rw[List.length_take];omega);have b:=zCT ((s.drop 27).take 8) (by rw[List.length_take];omega);have c:=zDk ((s.drop 57).take 4) (by rw[List.length_take];omega);exact⟨hl,h3,a,h4,by omega,by omega⟩
theorem zOS{s:Bs}{e:Int}(h:zCg s=.error e):e≠0:=by
 unfold zCg at h
 split at h
 · rename_i f hp
   cases h
   exact zDF hp
 · split at h
   · cases h;decide
   · split at h
     · rename_i f ha
       cases h
       exact zIf ha
     · cases h
theorem zCU{s:Bs}{b:BatS}{n:Nat}(h:zCg s=.ok (b,n)):∃x,zAQ s=.ok x∧n=61+(x.len - 49).toNat∧n≤s.length∧asmB x (s.take 61) ((s.drop 61).take (x.len - 49).toNat)=.ok b:=by
 unfold zCg at h
 split at h
 · cases h
 · rename_i x hp
   split at h
   · cases h
   · split at h
     · cases h
     · rename_i c ha
       cases h
       exact⟨x,hp,rfl,by omega,ha⟩
end Go.Proofs.YtenojajfacacoaaGreatDoor
