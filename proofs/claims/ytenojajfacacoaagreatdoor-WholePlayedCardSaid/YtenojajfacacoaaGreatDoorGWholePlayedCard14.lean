/- A text. -/
import Derived.Test.YtenojajfacacoaaGreatDoorGWholePlayedCard12
import Derived.Test.YtenojajfacacoaaGreatDoorGWholePlayedCard13
import Derived.Test.YtenojajfacacoaaGreatDoorGWholePlayedCard6
import Derived.RegionTactic
import Derived.WalkMore
import Derived.Deep.RegionHeld3
import Derived.Deep.DeepCutAuto
import Derived.Test.YtenojajfacacoaaGreatDoorGWholePlayedCard7
import Derived.Test.YtenojajfacacoaaGreatDoorGWholePlayedCard9
import Derived.Test.YtenojajfacacoaaGreatDoorGWholePlayedCard8
import Derived.Test.YtenojajfacacoaaGreatDoorGWholePlayedCard11
import Derived.Test.YtenojajfacacoaaGreatDoorGWholePlayedCard10
/- A text. -/
namespace Go.Proofs.YtenojajfacacoaaGreatDoor
open Go.RowKit
set_option maxHeartbeats 16000000
set_option maxRecDepth 100000
theorem zq16{p:Prop}(h:p:=by go_ret;exact⟨rfl,H.out.drop.know (Know.has_left (Know.has_refl _))⟩):p:=h
theorem zP1(lb:List BatR)(hs:∀x∈lb,SmB x)(he:∀x∈lb,zAc x.b=0)(hl8:lb.length≤8)(A0:Bs)(hA0:encB lb=A0)(c:Int)(hc:Rn c)(ch:List Int)(hch:∀x∈ch,Rn x)(hcl:ch.length≤1000){A T:Bs}{bs:List BatS}{pv:Nat}{rest:Bs}{pe ps:Int}(hA:cutA c A0=A)(tk:ToldOk A T bs pv rest pe ps)(qb q:Option Addr)(bcap cap:Nat){W0 w:World}{K:Know}{L:List Res}(hlib:K.has Know.lib)(hkb:K.has (Know.bats (.slice qb lb.length bcap) lb))(hkc:K.has (Know.flat RInt (.slice q ch.length cap) 1 ch))(hAl0:A0.length≤1000000)(h:St W0 w K L):
  Calls Tryz.prog 12 #[.agg #[.slice qb lb.length bcap,.int .i64 c,.slice q ch.length cap]] w fun en w'=>en=.returned (.string (bb T))∧St W0 w' K L:=by
 obtain⟨rb,hrb⟩:∃b,w.heap.size=b:=⟨_,rfl⟩;have g1:=h.allocRaw #[.slice qb lb.length bcap,.int .i64 c,.slice q ch.length cap] 25;rw[hrb]at g1;have z0:=(g1).rawCell 0;have z1:=(g1).rawCell 1;have z2:=(g1).rawCell 2;simp at z0 z1 z2;have H:=hQd g1;have HLIB:=hQd hlib;have HKB:=hQd hkb;have HKC:=hQd hkc;have HTK:=hQd tk;have HE:=hQd he;have HSB:=hQd hs;have HAB:=hQd (show allB lb=(A0,0) by rw[←hA0];exact zPz he);have HFI:=hQd (show ∀x∈lb,x.Fit from fun x hx=>(hs x hx).1);have HSM:=hQd (show ∀x∈lb,zAN (x.l.map (·.1))=true from fun x hx=>(hs x hx).2);have HLL:=hQd (show lb.length≤20 by omega);have HNS:=hQd hch;have HNL:=hQd hcl;have HAL:=hQd (show A.length≤1000000 by have:=tk.len;omega);have HCL:=hQd (show(cutN A ch).length≤1000000 by rw[zH1];omega);have HLI:=hQd (show(lb.length:Int)≤8 by omega);have HA:=hQd hA;have HAL0:=hQd hAl0;unfold Rn at hc;have HRC:=hQd hc;clear h g1 hlib hkb hkc tk he hs hA0 hl8 hch hcl hA hAl0 hc;go_enter Tryz.func12,Tryz.ntmps12;go_wp2_with fail;clear z0 z1 z2;go_loopw [11] (fun iv wr=>∃k:Nat,k≤lb.length∧iv=.int .i64 k∧St W0 wr K (.raw rb #[.slice qb lb.length bcap,.int .i64 c,.slice q ch.length cap] 25::L)) (fun iv _=>lb.length - (intOf iv).toNat)
 case atStart=>exact⟨0,Nat.zero_le _,rfl,H.out⟩
 case round=>
  obtain⟨k,hkl,rfl,hst⟩:=hrel;clear H;have H:=hQd hst;clear hst;have hli:(lb.length:Int)≤8:=HLI.out
  by_cases hk:k<lb.length
  · obtain⟨bk,off,hqq⟩:=zED HKB.out H.out (by omega);subst hqq;obtain⟨x,hx⟩:∃x,lb[k]=x:=⟨_,rfl⟩;have hmem:x∈lb:=hx ▸ List.getElem_mem hk;have hxk:=zB8 HKB.out hmem;have cc:=zCO HKB.out H.out k hk x hx;have hsx:=HSB.out x hmem;have hex:=HE.out x hmem;obtain⟨b,xl,xq,xcap⟩:=x;obtain⟨c0,c1,c2,c3,c4,c5,c6,c7,c8,c9,c10,c11⟩:=cc;have HSX:=hQd hsx;have HE0:=hQd (show zAc b=0 from hex);have HXK:=hQd (show K.has (Know.recs (.slice xq xl.length xcap) xl)from hxk);obtain⟨tb,htb⟩:∃b,wr.heap.size=b:=⟨_,rfl⟩;have g1:=H.out.allocRaw #[.int .i64 b.base,.int .i64 b.leader,.bool b.app,.bool b.txn,.bool b.ctl,.int .i64 b.last,.int .i64 b.first,.int .i64 b.maxt,.int .i64 b.prod,.int .i64 b.epoch,.int .i64 b.seq,.slice xq xl.length xcap] 30;rw[htb]at g1;have y0:=g1.rawCell 0;have y1:=g1.rawCell 1;have y2:=g1.rawCell 2;have y3:=g1.rawCell 3;have y4:=g1.rawCell 4;have y5:=g1.rawCell 5;have y6:=g1.rawCell 6;have y7:=g1.rawCell 7;have y8:=g1.rawCell 8;have y9:=g1.rawCell 9;have y10:=g1.rawCell 10;have y11:=g1.rawCell 11;simp at y0 y1 y2 y3 y4 y5 y6 y7 y8 y9 y10 y11;have hki:(k:Int)<(lb.length:Int):=by omega
    clear H hxk hmem hx hsx hex;have H:=hQd g1;clear g1;go_wp2_with (go_at_call 35;(try clear y0 y1 y2 y3 y4 y5 y6 y7 y8 y9 y10 y11);(with_reducible refine(bchk_b b xl xq xcap 0 HE0.out HSX.out HXK.out H.out).mono ?_);rintro e_ wn ⟨rfl,h⟩;replace H:=hQd h;clear h);go_roundw
    case rel=>exact⟨k+1,hk,by go_num,H.out.drop⟩
    case measure=>first|(simp[intOf];done)|(simp[intOf];omega)
  · have hki:¬(k:Int)<(lb.length:Int):=by omega
    have z0:=(H.out).rawCell 0;have z1:=(H.out).rawCell 1;have z2:=(H.out).rawCell 2;simp at z0 z1 z2;have hal0:(A0.length:Int)≤1000000:=by have:=HAL0.out;omega
    obtain⟨hrc0,hrc1⟩:=HRC.out;have hA:=HA.out;unfold cutA at hA
    by_cases c1:0≤c
    · have d1:decide (0≤c)=true:=decide_eq_true c1
      by_cases c2:c<(A0.length:Int)
      · have d2:decide (c<(A0.length:Int))=true:=decide_eq_true c2;rw[if_pos ⟨c1,c2⟩]at hA;subst hA;have c3:c.toNat≤A0.length:=by omega
        go_wp2_with (first
          |(go_at_call 19;(with_reducible refine(zId lb qb bcap A0 0 HAB.out HFI.out HSM.out HLL.out HKB.out H.out).mono ?_);rintro e_ wn ⟨rfl,h⟩;have z0:=h.rawCell 0;have z1:=h.rawCell 1;have z2:=h.rawCell 2;simp at z0 z1 z2;replace H:=hQd h;clear h)
          |(go_at_call 39;(with_reducible refine(zCD (A0.take c.toNat) ch HAL.out HNS.out HNL.out q cap HKC.out H.out).mono ?_);rintro e_ wn ⟨q2,cap2,rfl,h⟩;replace H:=hQd h;clear h)
          |(go_at_call 38;(with_reducible refine(zDD HTK.out (cutN (A0.take c.toNat) ch) (zCN ch (A0.take c.toNat)) q2 cap2 HCL.out (Know.has_left HLIB.out) (Know.has_right (Know.has_refl _)) H.out).mono ?_);rintro e_ wn ⟨rfl,h⟩;replace H:=hQd h;clear h))
        exact zq16
      · have d2:decide (c<(A0.length:Int))=false:=decide_eq_false c2;rw[if_neg (fun h=>c2 h.2)]at hA;subst hA
        go_wp2_with (first
          |(go_at_call 19;(with_reducible refine(zId lb qb bcap A0 0 HAB.out HFI.out HSM.out HLL.out HKB.out H.out).mono ?_);rintro e_ wn ⟨rfl,h⟩;have z0:=h.rawCell 0;have z1:=h.rawCell 1;have z2:=h.rawCell 2;simp at z0 z1 z2;replace H:=hQd h;clear h)
          |(go_at_call 39;(with_reducible refine(zCD A0 ch HAL.out HNS.out HNL.out q cap HKC.out H.out).mono ?_);rintro e_ wn ⟨q2,cap2,rfl,h⟩;replace H:=hQd h;clear h)
          |(go_at_call 38;(with_reducible refine(zDD HTK.out (cutN A0 ch) (zCN ch A0) q2 cap2 HCL.out (Know.has_left HLIB.out) (Know.has_right (Know.has_refl _)) H.out).mono ?_);rintro e_ wn ⟨rfl,h⟩;replace H:=hQd h;clear h))
        exact zq16
    · have d1:decide (0≤c)=false:=decide_eq_false c1;rw[if_neg (fun h=>c1 h.1)]at hA;subst hA
      go_wp2_with (first
         |(go_at_call 19;(with_reducible refine(zId lb qb bcap A0 0 HAB.out HFI.out HSM.out HLL.out HKB.out H.out).mono ?_);rintro e_ wn ⟨rfl,h⟩;have z0:=h.rawCell 0;have z1:=h.rawCell 1;have z2:=h.rawCell 2;simp at z0 z1 z2;replace H:=hQd h;clear h)
         |(go_at_call 39;(with_reducible refine(zCD A0 ch HAL.out HNS.out HNL.out q cap HKC.out H.out).mono ?_);rintro e_ wn ⟨q2,cap2,rfl,h⟩;replace H:=hQd h;clear h)
         |(go_at_call 38;(with_reducible refine(zDD HTK.out (cutN A0 ch) (zCN ch A0) q2 cap2 HCL.out (Know.has_left HLIB.out) (Know.has_right (Know.has_refl _)) H.out).mono ?_);rintro e_ wn ⟨rfl,h⟩;replace H:=hQd h;clear h))
      exact zq16
variable {W0 w:World}{K:Know}{L:List Res}
theorem zKE{l:List BtR}{vs:List BatS}(hvs:l.map BtR.val=vs)(hv:∀b∈vs,OkV b):∀y∈l.map zA4,SmB y:=fun y hy=>by
  obtain⟨x,hx,rfl⟩:=List.mem_map.1 hy;exact zOy x (hv x.val (by rw[←hvs];exact List.mem_map.2 ⟨x,hx,rfl⟩))
theorem zPo{l:List BtR}{vs:List BatS}(hvs:l.map BtR.val=vs)(he:∀b∈vs,zAc b=0):∀y∈l.map zA4,zAc y.b=0:=fun y hy=>by
  obtain⟨x,hx,rfl⟩:=List.mem_map.1 hy;rw[zDd];exact he x.val (by rw[←hvs];exact List.mem_map.2 ⟨x,hx,rfl⟩)
theorem zLi{l:List BtR}{vs:List BatS}(hvs:l.map BtR.val=vs):encB (l.map zA4)=vs.flatMap BatS.enc:=by rw[zNW,zMN,hvs]
theorem zPk{c:Int}{A:Bs}(h:0≤c):A.take (min c (A.length:Int)).toNat=cutA c A:=by
 unfold cutA
 by_cases h2:c<(A.length:Int)
 · rw[if_pos ⟨h,h2⟩,Int.min_eq_left (by omega)]
 · rw[if_neg (fun h3=>h2 h3.2),Int.min_eq_right (by omega)];exact List.take_length
theorem zPj{c:Int}{A:Bs}(h:¬0≤c):A=cutA c A:=by unfold cutA;rw[if_neg (fun h3=>h h3.1)]
theorem zOL(vs:List BatS)(hv:∀b∈vs,OkV b)(he:∀b∈vs,zAc b=0)(hl8:vs.length≤8)(A0:Bs)(hA0:vs.flatMap BatS.enc=A0)(l:List BtR)(hvs:l.map BtR.val=vs)(c:Int)(hcr:Rn c)(ch:List Int)(hchr:∀v∈ch,Rn v)(hcl:ch.length≤1000){A T:Bs}{bs:List BatS}{pv:Nat}{rest:Bs}{pe ps:Int}(hA:cutA c A0=A)(tk:ToldOk A T bs pv rest pe ps)(qb q:Option Addr)(bcap cap:Nat)(hlib:K.has Know.lib)(hkb:K.has (Know.btrs (.slice qb l.length bcap) l))(hkc:K.has (Know.flat RInt (.slice q ch.length cap) 1 ch))(hAl0:A0.length≤1000000)(h:St W0 w K L):
  Calls Tryz.prog 12 #[.agg #[.slice qb l.length bcap,.int .i64 c,.slice q ch.length cap]] w fun en w'=>en=.returned (.string (bb T))∧St W0 w' K L:=by
 have hkb2:=zJw hkb h;have hle:(l.map zA4).length=l.length:=List.length_map _;rw[←hle]at hkb2 ⊢;have hl9:(l.map zA4).length≤8:=by rw[hle];have h9:=congrArg List.length hvs;rw[List.length_map]at h9;omega
 exact zP1 (l.map zA4) (zKE hvs hv) (zPo hvs he) hl9 A0 ((zLi hvs).trans hA0) c hcr ch hchr hcl hA tk qb q bcap cap hlib hkb2 hkc hAl0 h
theorem zOo(vs:List BatS)(hv:∀b∈vs,OkV b)(hl8:vs.length≤8)(l:List BtR)(hvs:l.map BtR.val=vs)(s:Bs)(e:Int)(hse:allB (l.map zA4)=(s,e))(qb:Option Addr)(bcap:Nat)(hkb:K.has (Know.btrs (.slice qb l.length bcap) l))(h:St W0 w K L):
  Calls Tryz.prog 19 #[.slice qb l.length bcap] w fun en w'=>en=.returned (.tuple #[.string (bb s),.int .i64 e])∧St W0 w' K L:=by
 have hkb2:=zJw hkb h;have hle:(l.map zA4).length=l.length:=List.length_map _;rw[←hle]at hkb2 ⊢;have hl9:(l.map zA4).length≤20:=by rw[hle];have h9:=congrArg List.length hvs;rw[List.length_map]at h9;omega
 have hs:=zKE hvs hv;exact zId (l.map zA4) qb bcap s e hse (fun x hx=>(hs x hx).1) (fun x hx=>(hs x hx).2) hl9 hkb2 h
theorem zNo{A T:Bs}{bs:List BatS}{pv:Nat}{rest:Bs}{pe ps:Int}(tk:ToldOk A T bs pv rest pe ps)(word:Bs)(hw:hexV word=(A,true))(hwl:word.length≤1000000)(hlib:K.has Know.lib)(h:St W0 w K L):
 Calls Tryz.prog 16 #[.string (bb word),.slice none 0 0] w fun en w'=>en=.returned (.string (bb T))∧St W0 w' K L:=zFr tk word hw hwl [] (fun x hx=>by cases hx) (by decide) none 0 hlib (zI9 _) h
variable {W0 w:World}{K:Know}{L:List Res}
theorem zGz(b:BatS)(l:List (RecS×Value))(q:Option Addr)(cap:Nat)(hl:l.map (·.1)=b.recs)(so:MidOk b)(hk:K.has (Know.recs (.slice q l.length cap) l))(h:St W0 w K L):
  Calls Tryz.prog 48 #[.agg #[.int .i64 b.base,.int .i64 b.leader,.bool b.app,.bool b.txn,.bool b.ctl,.int .i64 b.last,.int .i64 b.first,.int .i64 b.maxt,.int .i64 b.prod,.int .i64 b.epoch,.int .i64 b.seq,.slice q l.length cap]] w fun en w'=>en=.returned (.tuple #[.string (bb b.enc),.int .i64 0])∧St W0 w' K L:=by
 have hrow:=so.rows;have hlen:=so.len;have hcr:=b.crc_lt;have hml:l.length=b.recs.length:=by rw[←hl,List.length_map]
 have f0:=BatS.fitsAll so.err so.rng 0 (by decide) (by omega) (by omega);have f1:=BatS.fitsAll so.err so.rng b.crc (by omega) (by omega) (by omega);have r0:=BatS.pre_R so.err so.rng 0 (by decide) (by omega) (by omega);have r1:=BatS.pre_R so.err so.rng b.crc (by omega) (by omega) (by omega);have hmx:b.first≤9223372036854775807:=by have:=so.rng.2.2.2.1.2;omega
 have e0:b.pre 0=(⟨b.base,49+(b.rowsB.length:Int),b.leader,0,zAA b.app b.txn b.ctl 3,b.last,b.first,b.maxt,b.prod,b.epoch,b.seq,(l.length:Int)⟩:PreS):=by unfold BatS.pre;rw[hml]
 have e1:b.pre b.crc=(⟨b.base,49+(b.rowsB.length:Int),b.leader,(b.crc:Int),zAA b.app b.txn b.ctl 3,b.last,b.first,b.maxt,b.prod,b.epoch,b.seq,(l.length:Int)⟩:PreS):=by unfold BatS.pre;rw[hml]
 have i0:=zBL f0;have i1:=zBL f1;have hd0:=b.pre_drop 0;have l0:=zAK (b.pre 0);have l1:=zAK (b.pre b.crc);have he:zAc ⟨b.base,b.leader,b.app,b.txn,b.ctl,b.last,b.first,b.maxt,b.prod,b.epoch,b.seq,l.map (·.1)⟩=0:=by rw[hl];exact so.err
 have hrc:zCw (l.map (·.1))=0:=by rw[hl];exact(zBu so.err).2.2.2
 have hrw:zBb l=b.rowsB:=by rw[zCq,hl];rfl
 have hfb:FitB l:=by
  intro x hx;obtain⟨a,c,d⟩:=so.fit x.1 (by rw[←hl];exact List.mem_map.2 ⟨x,hx,rfl⟩);have:=zDM x.1.hdrs 2000 (by unfold RecS.sum at d;omega);exact⟨a,fun y hy=>by have:=this y hy;omega,by omega⟩
 have hall:zAd (b.pre b.crc).items++b.rowsB=b.enc:=rfl;have hx:(zAp 0#32 ((zAd (b.pre 0).items).drop 21++b.rowsB)).toNat=b.crc:=by rw[hd0];rfl
 rw[e0]at r0 i0;rw[e1]at r1 i1;obtain⟨s0,hs0⟩:∃s,zAd (b.pre 0).items=s:=⟨_,rfl⟩;obtain⟨s1,hs1⟩:∃s,zAd (b.pre b.crc).items=s:=⟨_,rfl⟩;have g0:zAd (⟨b.base,49+(b.rowsB.length:Int),b.leader,0,zAA b.app b.txn b.ctl 3,b.last,b.first,b.maxt,b.prod,b.epoch,b.seq,(l.length:Int)⟩:PreS).items=s0:=e0 ▸ hs0;have g1:zAd (⟨b.base,49+(b.rowsB.length:Int),b.leader,(b.crc:Int),zAA b.app b.txn b.ctl 3,b.last,b.first,b.maxt,b.prod,b.epoch,b.seq,(l.length:Int)⟩:PreS).items=s1:=e1 ▸ hs1;rw[g0]at i0;rw[g1]at i1;rw[hs0]at hx l0;rw[hs1]at hall l1;exact zCr b.base b.leader b.app b.txn b.ctl b.last b.first b.maxt b.prod b.epoch b.seq l q cap he hmx hfb (by omega) b.rowsB s0 s1 b.enc b.crc (zAA b.app b.txn b.ctl 3) hrc hrw (by omega) rfl r0 r1 i0 i1 l0 l1 hx hall hk h
theorem zGf(b:BatS)(s:Bs)(hs:b.enc=s)(l:List (RecS×Value))(q:Option Addr)(cap:Nat)(hl:l.map (·.1)=b.recs)(so:MidOk b)(hk:K.has (Know.recs (.slice q l.length cap) l))(h:St W0 w K L):
  Calls Tryz.prog 48 #[.agg #[.int .i64 b.base,.int .i64 b.leader,.bool b.app,.bool b.txn,.bool b.ctl,.int .i64 b.last,.int .i64 b.first,.int .i64 b.maxt,.int .i64 b.prod,.int .i64 b.epoch,.int .i64 b.seq,.slice q l.length cap]] w fun en w'=>en=.returned (.tuple #[.string (bb s),.int .i64 0])∧St W0 w' K L:=by
 subst hs;exact zGz b l q cap hl so hk h
theorem MidOk.elen{b:BatS}(h:MidOk b):b.enc.length≤2061:=by rw[b.enc_len];have:=h.rows;omega
theorem zLg:∀(l:List BatR),(∀x∈l,MidOk x.b)→(encB l).length≤2061*l.length
  |[],_=>by simp[encB]
  |x::t,h=>by
    have h1:=zLg t (fun y hy=>h y (by simp[hy]));have h2:=(h x (by simp)).elen;have e:encB (x::t)=x.b.enc++encB t:=rfl;rw[e,List.length_append,List.length_cons]
    omega
theorem zKG(l:List BatR)(q:Option Addr)(cap:Nat)(s:Bs)(hs:encB l=s)(hf:∀x∈l,x.l.map (·.1)=x.b.recs∧MidOk x.b)(hll:l.length≤30)(hk:K.has (Know.bats (.slice q l.length cap) l))(h:St W0 w K L):
  Calls Tryz.prog 19 #[.slice q l.length cap] w fun en w'=>en=.returned (.tuple #[.string (bb s),.int .i64 0])∧St W0 w' K L:=by
 have g1:=h.allocOut;obtain⟨po,hpo⟩:∃b,w.heap.size=b:=⟨_,rfl⟩;rw[hpo]at g1;have H:=hQd g1;have HK:=hQd hk;have HFT:=hQd hf;have HLL:=hQd hll;have HSE:=hQd hs;clear h g1 hk hf hll hs;go_enter Tryz.func19,Tryz.ntmps19;go_wp2;go_loopw [6,7,8,11] (fun _ _ _ iv wr=>∃k:Nat,k≤l.length∧iv=.int .i64 k∧St W0 wr K (.out po ⟨encB (l.take k),0⟩::L)) (fun _ _ _ iv _=>l.length - (intOf iv).toNat)
 case atStart=>exact⟨0,Nat.zero_le _,rfl,H.out⟩
 case round=>
  obtain⟨k,hkl,rfl,hst⟩:=hrel;clear H;have H:=hQd hst;clear hst
  by_cases hlt:k<l.length
  · have hl20:(l.length:Int)≤30:=by have:=HLL.out;omega
    have het:=zF5 l k hlt;obtain⟨b,off,hqq⟩:=zED HK.out H.out (by omega);subst hqq;obtain⟨x,hx⟩:∃x,l[k]=x:=⟨_,rfl⟩;have cc:=zCO HK.out H.out k hlt x hx;have hmem:x∈l:=hx ▸ List.getElem_mem hlt;have XF:=hQd (HFT.out x hmem);have XR3:=hQd XF.out.1;have XM:=hQd XF.out.2;have XK:=hQd (zB8 HK.out hmem);obtain⟨c0,c1,c2,c3,c4,c5,c6,c7,c8,c9,c10,c11⟩:=cc;obtain⟨wE,hwE⟩:∃b,wr.heap.size=b:=⟨_,rfl⟩;have hki:(k:Int)<(l.length:Int):=by omega
    have h:=H.out.allocRaw #[.int .i64 x.b.base,.int .i64 x.b.leader,.bool x.b.app,.bool x.b.txn,.bool x.b.ctl,.int .i64 x.b.last,.int .i64 x.b.first,.int .i64 x.b.maxt,.int .i64 x.b.prod,.int .i64 x.b.epoch,.int .i64 x.b.seq,.slice x.q x.l.length x.cap] 30;rw[hwE]at h;clear H;have H:=hQd h;clear h;rw[hx]at het;obtain⟨x0,x1,x2,x3,x4,x5,x6,x7,x8,x9,x10,x11,y0,y1,y2,y3,y4,y5,y6,y7,y8,y9,y10,y11⟩:=zAa (b:=wE) (H.out);obtain⟨s0,hs0⟩:∃s,x.b.enc=s:=⟨_,rfl⟩;have HS:=hQd hs0;rw[hs0]at het
    have OK:=hQd (show(⟨encB (l.take k),0⟩:OutS).ok s0.length by
     have h1:=zLg (l.take k) (fun y hy=>(HFT.out y (List.mem_of_mem_take hy)).2);have h2:=HLL.out;have h3:=XM.out.elen;rw[HS.out]at h3;rw[List.length_take]at h1;unfold OutS.ok;simp only
     omega)
    have EP:=hQd (show(⟨encB (l.take k),0⟩:OutS).put s0=⟨encB (l.take (k+1)),0⟩ by rw[het];rfl);clear het hs0 hx hmem
    go_wp2_with (first
  |(go_at_call 48;clear x0 y0 x1 y1 x2 y2 x3 y3 x4 y4 x5 y5 x6 y6 x7 y7 x8 y8 x9 y9 x10 y10 x11 y11;(with_reducible refine(zGf x.b s0 HS.out x.l _ _ XR3.out XM.out XK.out H.out).mono ?_);rintro e_ wn ⟨rfl,h⟩;replace H:=hQd h;clear h;obtain⟨x0,x1,x2,x3,x4,x5,x6,x7,x8,x9,x10,x11,y0,y1,y2,y3,y4,y5,y6,y7,y8,y9,y10,y11⟩:=zAa (b:=wE) (H.out))
  |(go_at_call 49;(with_reducible refine(zMR po _ _ H.out.p1 OK.out).mono ?_);rw[EP.out];rintro e_ wn ⟨rfl,h⟩;replace H:=hQd h;clear h))
    go_roundw
    case rel=>exact⟨k+1,hlt,by go_num,H.out.p1.drop⟩
    case measure=>first|(simp[intOf];done)|(simp[intOf];omega)
  · obtain rfl:k=l.length:=by omega
    have h:=H.out;rw[List.take_length,HSE.out]at h;clear H;have H:=hQd h;clear h;have ET:=hQd (show(⟨s,0⟩:OutS).text=(s,0)from rfl)
    go_wp2_with (first
  |(go_at_call 50;(with_reducible refine(zHn po _ H.out).mono ?_);rw[ET.out];rintro e_ wn ⟨rfl,h⟩;replace H:=hQd h;clear h))
    go_ret2;exact⟨rfl,H.out.drop⟩
theorem zNt(text:Bs)(hl:text.length≤900000){W0 w:World}{K:Know}{L:List Res}(hlib:K.has Know.lib)(h:St W0 w K L):
  Calls Tryz.prog 41 #[.string (bb text)] w fun en w'=>
    (zBF 0 0 (-1) [] 1 (zAe 10 text)=0∧∃(K':Know) (l:List BtR) (c:Int) (ch:List Int) (vB:Value) (q:Option Addr) (cap:Nat),en=.returned (.tuple #[.agg #[vB,.int .i64 c,.slice q ch.length cap],.int .i64 0])∧K'.has K∧K'.has (Know.btrs vB l)∧K'.has (Know.flat RInt (.slice q ch.length cap) 1 ch)∧l.flatMap btT++(cutT c++chT ch)=text∧ -1≤c∧Rn c∧(∀v∈ch,Rn v)∧(∀x∈l,zBG x)∧St W0 w' K' L)∨
    (∃(bad:Nat) (K':Know),zBF 0 0 (-1) [] 1 (zAe 10 text)=bad∧0<bad∧bad≤900001∧en=.returned (.tuple #[.agg #[.slice none 0 0,.int .i64 0,.slice none 0 0],.int .i64 bad])∧K'.has K∧St W0 w' K' L):=by
 obtain⟨sb,hsb⟩:∃b,w.heap.size=b:=⟨_,rfl⟩;obtain⟨rd,hrd⟩:∃b,sb+1=b:=⟨_,rfl⟩;have g1:=(h.allocRaw #[.slice none 0 0,.int .i64 0,.slice none 0 0] 25).allocRaw #[.slice none 0 0,.int .i64 (-1),.slice none 0 0] 122;simp only[World.size_alloc,hsb,hrd]at g1;have H:=hQd g1;have HLIB:=hQd hlib;clear h g1 hlib;go_enter Tryz.func41,Tryz.ntmps41;go_wp2_with fail;go_loopw [0,5] (fun tv nv wr=>∃(K':Know) (t:Bs) (s:BSt) (c:Int) (ch:List Int) (ln:Nat),tv=.string (bb t)∧nv=.int .i64 ln∧Hid (K'.has K)∧Hid (Upto text t s c ch ln)∧Hid (MemS rd s c ch W0 wr K' (.raw sb #[.slice none 0 0,.int .i64 0,.slice none 0 0] 25::L))) (fun _ nv _=>text.length+2 - (intOf nv).toNat)
 case atStart=>exact⟨K,text,.zero,-1,[],1,rfl,by rfl,hQd (Know.has_refl _),hQd ⟨rfl,by decide,by unfold Rn;decide,(fun v hv=>by cases hv),trivial,Nat.zero_le _,Nat.zero_le _,Nat.zero_le _,Nat.le_refl _,by omega,rfl⟩,hQd ⟨.slice none 0 0,.slice none 0 0,.slice none 0 0,none,0,(((H.out.nilRow 30 12).nilRow 54 7).nilRow 73 3).p3.p3.p3.p3 |>fun h=>by first|exact h|exact(((H.out.nilRow 73 3).p1.nilRow 54 7).p1.nilRow 30 12).p1,trivial,fun w F hh=>⟨none,0,rfl,fun h0=>absurd h0 (Nat.lt_irrefl 0)⟩⟩⟩
 case round=>
  obtain⟨K',t,s,c,ch,ln,rfl,rfl,HKK,HU,HMS⟩:=hrel;clear H;obtain⟨vB,vR,vH,q,cap,hst,hs,hf⟩:=HMS.out;have HS:=hQd hs;have HF:=hQd hf;have HLIB2:=hQd (Know.has_trans HKK.out HLIB.out);have HTL:=hQd (show t.length≤1000000 by have h4:=HU.out.len;omega);clear hs hf HMS
  by_cases ht:t=[]
  · subst ht;obtain⟨qv,cv,hv⟩:=hst.p1.rowAny;subst hv;have H:=hQd hst;have d0:=(hst).rawCell 0;have d1:=(hst).rawCell 1;have d2:=(hst).rawCell 2;simp at d0 d1 d2;have e0:=(hst.p4).rawCell 0;have e1:=(hst.p4).rawCell 1;have e2:=(hst.p4).rawCell 2;simp at e0 e1 e2;have r0:=(hst.p4).rawFree 0;have r1:=(hst.p4).rawFree 1;have r2:=(hst.p4).rawFree 2;clear hst;go_wp2_with fail;have hz:St W0 _ K' (.raw sb #[.slice qv s.n cv,.int .i64 c,.slice q ch.length cap] 25::_):=((H.out.p4.rawSet 0 (.slice qv s.n cv)).rawSet 1 (.int .i64 c)).rawSet 2 (.slice q ch.length cap);refine bodyPost_ret (zAX rfl _ _ sb [.slice qv s.n cv,.int .i64 c,.slice q ch.length cap] _ rfl (zBO hz) Tryz.underlying25 rfl (by kernel_rfl)) rfl ?_;obtain⟨K2,hk2,hc2,h2⟩:=zPL HS.out hz.drop;obtain⟨K3,hk3,hb3,h3⟩:=shutB h2.drop hc2;refine .inl ⟨by rw[←HU.out.rest];rfl,K3,s.close vR vH,c,ch,.slice qv s.n cv,q,cap,rfl,Know.has_trans hk3 (Know.has_trans hk2 HKK.out),hb3,Know.has_trans hk3 (Know.has_trans hk2 HF.out),?_,HU.out.cut,HU.out.cutR,HU.out.chR,zHa s vR vH HU.out.fine,h3⟩;rw[zJp,←HU.out.txt];simp[txtS]
  · have t1:(t==([]:Bs))=false:=by rw[beq_eq_false_iff_ne];exact ht
    have t2:(([]:Bs)==t)=false:=by rw[beq_eq_false_iff_ne];exact fun h=>ht h.symm
    have t3:(t !=([]:Bs))=true:=by simp[bne,t1]
    have HB:=hQd (show ln≤900001∧0<ln by have h4:=HU.out.len;have h5:=HU.out.one;omega);have hlni:(ln:Int)≤900001:=by have:=HB.out;omega
    rcases zN6 10 t with ⟨hp,hcut⟩|⟨i,hi,hp,hcut⟩
    · have HR:=hQd (show zBF 0 0 (-1) [] 1 (zAe 10 text)=ln by rw[←HU.out.rest,hp];exact if_neg ht);obtain⟨line,hline⟩:∃line,t=line:=⟨_,rfl⟩;obtain⟨rest,hrest⟩:∃rest,rest=([]:Bs):=⟨_,rfl⟩;have HCUT:=hQd (show Lib.cut t [10]=(line,rest,false) by rw[hcut,hrest,←hline]);have H:=hQd hst;clear hst hp hcut hline hrest ht;go_wp2_with (go_at_call 80;(try clear z0 z1 z2 y0 y1 y2);(with_reducible refine(zJT t line rest false HCUT.out HTL.out HLIB2.out H.out).mono ?_);rintro e_ wn ⟨rfl,h⟩;have h:=zAt h.drop;have y0:=(h).rawCell 0;have y1:=(h).rawCell 1;have y2:=(h).rawCell 2;simp at y0 y1 y2;have r0:=(h).rawFree 0;have r1:=(h).rawFree 1;have r2:=(h).rawFree 2;replace H:=hQd h;clear h);have hz:St W0 _ _ (.raw sb #[.slice none 0 0,.int .i64 0,.slice none 0 0] 25::_):=((H.out.rawSet 0 (.slice none 0 0)).rawSet 1 (.int .i64 0)).rawSet 2 (.slice none 0 0);refine bodyPost_ret (zAX rfl _ _ sb [.slice none 0 0,.int .i64 0,.slice none 0 0] _ rfl (zBO hz) Tryz.underlying25 rfl (by kernel_rfl)) rfl ?_;exact .inr ⟨ln,K',HR.out,HB.out.2,HB.out.1,rfl,HKK.out,hz.drop⟩
    · obtain⟨line,hline⟩:∃line,t.take i=line:=⟨_,rfl⟩;obtain⟨rest,hrest⟩:∃rest,t.drop (i+1)=rest:=⟨_,rfl⟩;have HCUT:=hQd (show Lib.cut t [10]=(line,rest,true) by rw[hcut,hline,hrest]);obtain⟨w0,r,hw0⟩:=zBB 32 line;obtain⟨nw,hnw⟩:∃nw,(w0::r).length=nw:=⟨_,rfl⟩;have HNW:=hQd (show(w0::r).length=nw from hnw);have HNW2:=hQd (show nw=(w0::r).length from hnw.symm);have HWO:=hQd (show zDc line=(w0::r).map bb by rw[zHe,hw0]);have HLL:=hQd (show line.length≤1000000 by rw[←hline];simp;have:=HTL.out;omega);have HWX:=hQd (show ∀y∈w0::r,y.length≤1000000 from fun y hy=>by have h9:=(zEm 32 line).2 y (by rw[hw0];exact hy);have:=HLL.out;omega);have HWL:=hQd (show(w0::r).length≤1000000 by have h9:=(zEm 32 line).1;rw[hw0]at h9;have h8:line.length≤900000:=(by rw[←hline];simp;have:=HU.out.len;omega);omega);have HBD:=hQd (show s.n≤1000000∧s.m≤1000000∧s.p≤1000000 from by have h1:=HU.out.n;have h2:=HU.out.m;have h3:=HU.out.p;have h4:=HU.out.len;omega);have HLN:=hQd (show ln≤900001 by have h4:=HU.out.len;omega);have H:=hQd hst;clear hst hcut hnw
      cases hno:zAO s.n s.m c ch (w0::r)with
      |none=>
       have HNO:=hQd hno
       have HR:=hQd (show zBF 0 0 (-1) [] 1 (zAe 10 text)=ln by
        rw[←HU.out.rest,hp];obtain⟨q9,r9,e9⟩:=zBB 10 (t.drop (i+1));rw[e9]
        exact zNu _ _ _ _ _ _ _ _ (by rw[hline,hw0];exact hno))
       clear hno hp hline hrest hw0 ht hi
       go_wp2_with (first
  |(go_at_call 80;(try clear z0 z1 z2 y0 y1 y2);(with_reducible refine(zJT t line rest true HCUT.out HTL.out HLIB2.out H.out).mono ?_);rintro e_ wn ⟨rfl,h⟩;replace H:=hQd h;clear h)
  |(go_at_call 82;(with_reducible refine(zIr line (w0::r) nw HNW.out HWO.out HLL.out HLIB2.out H.out).mono ?_);rintro e_ wn ⟨wb,rfl,h⟩;have h:=h.strs;have HKW:=hQd (Know.has_right (a:=K') (Know.has_refl (Know.strw wb 0 (w0::r))));have HLIB3:=hQd (Know.has_left (b:=Know.strw wb 0 (w0::r)) HLIB2.out);have HM:=hQd (show MemS rd s c ch W0 wn (K'.and (Know.strw wb 0 (w0::r))) (.raw sb #[.slice none 0 0,.int .i64 0,.slice none 0 0] 25::L)from⟨vB,vR,vH,q,cap,h,HS.out.mono (Know.has_left (Know.has_refl _)),Know.has_left HF.out⟩);clear h H)
  |(go_at_call 81;(with_reducible refine(zLT rd wb nw s c ch w0 r HNW2.out HWX.out HWL.out HBD.out HNO.out HLIB3.out HKW.out HM.out).mono ?_);rintro e_ wn ⟨K2,rfl,hk2,h⟩;have HK2:=hQd hk2;clear hk2;have y0:=(h).rawCell 0;have y1:=(h).rawCell 1;have y2:=(h).rawCell 2;simp at y0 y1 y2;have r0:=(h).rawFree 0;have r1:=(h).rawFree 1;have r2:=(h).rawFree 2;replace H:=hQd h;clear h))
       have hz:St W0 _ _ (.raw sb #[.slice none 0 0,.int .i64 0,.slice none 0 0] 25::_):=((H.out.rawSet 0 (.slice none 0 0)).rawSet 1 (.int .i64 0)).rawSet 2 (.slice none 0 0);refine bodyPost_ret (zAX rfl _ _ sb [.slice none 0 0,.int .i64 0,.slice none 0 0] _ rfl (zBO hz) Tryz.underlying25 rfl (by kernel_rfl)) rfl ?_;exact .inr ⟨ln,K2,HR.out,HB.out.2,HB.out.1,rfl,Know.has_trans HK2.out (Know.has_left HKK.out),hz.drop⟩
      |some k=>
       have HNO:=hQd hno;have HNX:=hQd (fun vR vH=>HU.out.next hi hp (by rw[hline,hw0];exact hno) (zNs hi hp) vR vH);rw[hrest]at HNX;clear hno hp hline hrest hw0 ht hi
       go_wp2_with (first
  |(go_at_call 80;(try clear z0 z1 z2 y0 y1 y2);(with_reducible refine(zJT t line rest true HCUT.out HTL.out HLIB2.out H.out).mono ?_);rintro e_ wn ⟨rfl,h⟩;replace H:=hQd h;clear h)
  |(go_at_call 82;(with_reducible refine(zIr line (w0::r) nw HNW.out HWO.out HLL.out HLIB2.out H.out).mono ?_);rintro e_ wn ⟨wb,rfl,h⟩;have h:=h.strs;have HKW:=hQd (Know.has_right (a:=K') (Know.has_refl (Know.strw wb 0 (w0::r))));have HLIB3:=hQd (Know.has_left (b:=Know.strw wb 0 (w0::r)) HLIB2.out);have HM:=hQd (show MemS rd s c ch W0 wn (K'.and (Know.strw wb 0 (w0::r))) (.raw sb #[.slice none 0 0,.int .i64 0,.slice none 0 0] 25::L)from⟨vB,vR,vH,q,cap,h,HS.out.mono (Know.has_left (Know.has_refl _)),Know.has_left HF.out⟩);clear h H)
  |(go_at_call 81;(with_reducible refine(zJ6 rd wb nw s c ch w0 r k HNW2.out HWX.out HWL.out HBD.out HNO.out HLIB3.out HKW.out HM.out).mono ?_);rintro e_ wn ⟨K2,vR2,vH2,rfl,hk2,hm2⟩;have HK2:=hQd hk2;have HM2:=hQd hm2;clear hk2 hm2))
       go_roundw
       case rel=>exact⟨K2,rest,_,_,_,ln+1,rfl,by go_num,hQd (Know.has_trans HK2.out (Know.has_left HKK.out)),hQd (HNX.out vR2 vH2),HM2⟩
       case measure=>have:=HB.out;have:=(HNX.out vR2 vH2).len;first|(simp[intOf];done)|(simp[intOf];omega)
variable {W0 w:World}{K:Know}{L:List Res}
theorem zO0(hlib:K.has Know.lib)(h:St W0 w K L):
  Calls Tryz.prog 41 #[.string ⟨#[]⟩] w fun en w'=>en=.returned (.tuple #[.agg #[.slice none 0 0,.int .i64 (-1),.slice none 0 0],.int .i64 0])∧St W0 w' K L:=by
 obtain⟨sb,hsb⟩:∃b,w.heap.size=b:=⟨_,rfl⟩;obtain⟨rd,hrd⟩:∃b,sb+1=b:=⟨_,rfl⟩;have g1:=(h.allocRaw #[.slice none 0 0,.int .i64 0,.slice none 0 0] 25).allocRaw #[.slice none 0 0,.int .i64 (-1),.slice none 0 0] 122;simp only[World.size_alloc,hsb,hrd]at g1;have H:=hQd g1;have HLIB:=hQd hlib;clear h g1 hlib;go_enter Tryz.func41,Tryz.ntmps41;go_wp2_with fail;go_loopw [0,5] (fun tv nv wr=>tv=.string (bb [])∧nv=.int .i64 1∧St W0 wr K (.raw rd #[.slice none 0 0,.int .i64 (-1),.slice none 0 0] 122::.raw sb #[.slice none 0 0,.int .i64 0,.slice none 0 0] 25::L)) (fun _ _ _=>0)
 case atStart=>exact⟨rfl,rfl,H.out⟩
 case round=>
  obtain⟨rfl,rfl,hst⟩:=hrel;clear H;have H:=hQd hst;have d0:=(hst).rawCell 0;have d1:=(hst).rawCell 1;have d2:=(hst).rawCell 2;simp at d0 d1 d2;have e0:=(hst.p1).rawCell 0;have e1:=(hst.p1).rawCell 1;have e2:=(hst.p1).rawCell 2;simp at e0 e1 e2;have r0:=(hst.p1).rawFree 0;have r1:=(hst.p1).rawFree 1;have r2:=(hst.p1).rawFree 2;clear hst;go_wp2_with fail;have hz:St W0 _ K (.raw sb #[.slice none 0 0,.int .i64 (-1),.slice none 0 0] 25::_):=((H.out.p1.rawSet 0 (.slice none 0 0)).rawSet 1 (.int .i64 (-1))).rawSet 2 (.slice none 0 0);refine bodyPost_ret (zAX rfl _ _ sb [.slice none 0 0,.int .i64 (-1),.slice none 0 0] _ rfl (zBO hz) Tryz.underlying25 rfl (by kernel_rfl)) rfl ?_;exact⟨rfl,hz.drop.drop⟩
theorem zOw:ToldOk [] [116,111,116,97,108,32,48,32,48,10,118,97,108,105,100,32,48,32,99,108,101,97,110,10] [] 0 [] 0 0:=by
 refine⟨zKn,rfl,by decide,(fun b hb=>by cases hb),by decide,by unfold Rn;decide,by unfold Rn;decide,?_⟩
 decide+kernel
theorem zPr(h:St W0 w K L):Calls Tryz.prog 19 #[.slice none 0 0] w fun en w'=>en=.returned (.tuple #[.string ⟨#[]⟩,.int .i64 0])∧St W0 w' K L:=zKG [] none 0 [] rfl (fun x hx=>by cases hx) (by decide) (zJF _) h
theorem zMr(h:St W0 w K L):Calls Tryz.prog 39 #[.string ⟨#[]⟩,.slice none 0 0] w fun en w'=>∃(q2:Option Addr) (cap2:Nat),en=.returned (.slice q2 1 cap2)∧St W0 w' (K.and (Know.strs (.slice q2 1 cap2) [[]])) L:=zCD [] [] (by decide) (fun x hx=>by cases hx) (by decide) none 0 (zI9 _) h
theorem zMJ(q:Option Addr)(cap:Nat)(hlib:K.has Know.lib)(hk:K.has (Know.strs (.slice q 1 cap) [[]]))(h:St W0 w K L):Calls Tryz.prog 38 #[.slice q 1 cap] w fun en w'=>en=.returned (.string (bb [116,111,116,97,108,32,48,32,48,10,118,97,108,105,100,32,48,32,99,108,101,97,110,10]))∧St W0 w' K L:=zDD zOw [[]] rfl q cap (by decide) hlib hk h
theorem zOX(hlib:K.has Know.lib)(h:St W0 w K L):
  Calls Tryz.prog 12 #[.agg #[.slice none 0 0,.int .i64 (-1),.slice none 0 0]] w fun en w'=>en=.returned (.string (bb [116,111,116,97,108,32,48,32,48,10,118,97,108,105,100,32,48,32,99,108,101,97,110,10]))∧St W0 w' K L:=by
 obtain⟨rb,hrb⟩:∃b,w.heap.size=b:=⟨_,rfl⟩;have g1:=h.allocRaw #[.slice none 0 0,.int .i64 (-1),.slice none 0 0] 25;rw[hrb]at g1;have z0:=(g1).rawCell 0;have z1:=(g1).rawCell 1;have z2:=(g1).rawCell 2;simp at z0 z1 z2;have H:=hQd g1;have HLIB:=hQd hlib;clear h g1 hlib;go_enter Tryz.func12,Tryz.ntmps12;go_wp2_with fail;clear z0 z1 z2;go_loopw [11] (fun iv wr=>iv=.int .i64 0∧St W0 wr K (.raw rb #[.slice none 0 0,.int .i64 (-1),.slice none 0 0] 25::L)) (fun _ _=>0)
 case atStart=>exact⟨rfl,H.out⟩
 case round=>
  obtain⟨rfl,hst⟩:=hrel;clear H;have H:=hQd hst;have z0:=(hst).rawCell 0;have z1:=(hst).rawCell 1;have z2:=(hst).rawCell 2;simp at z0 z1 z2;clear hst
  go_wp2_with (first
  |(go_at_call 19;(with_reducible refine(zPr H.out).mono ?_);rintro e_ wn ⟨rfl,h⟩;have z0:=(h).rawCell 0;have z1:=(h).rawCell 1;have z2:=(h).rawCell 2;simp at z0 z1 z2;replace H:=hQd h;clear h)
  |(go_at_call 39;(with_reducible refine(zMr H.out).mono ?_);rintro e_ wn ⟨q2,cap2,rfl,h⟩;replace H:=hQd h;clear h)
  |(go_at_call 38;(with_reducible refine(zMJ q2 cap2 (Know.has_left HLIB.out) (Know.has_right (Know.has_refl _)) H.out).mono ?_);rintro e_ wn ⟨rfl,h⟩;replace H:=hQd h;clear h))
  exact zq16
theorem zIw(hlib:K.has Know.lib)(h:St W0 w K L):
  Calls Tryz.prog 14 #[.string ⟨#[]⟩] w fun en w'=>en=.returned (.string ⟨#[116,111,116,97,108,32,48,32,48,10,118,97,108,105,100,32,48,32,99,108,101,97,110,10]⟩)∧St W0 w' K L:=by
 have H:=hQd h;have HLIB:=hQd hlib;clear h hlib;go_enter Tryz.func14,Tryz.ntmps14
 go_wp2_with (first
  |(go_at_call 41;(with_reducible refine(zO0 HLIB.out H.out).mono ?_);rintro e_ wn ⟨rfl,h⟩;obtain⟨xb,hxb⟩:∃y,wn.heap.size=y:=⟨_,rfl⟩;have h:=h.allocRaw #[.slice none 0 0,.int .i64 (-1),.slice none 0 0] 25;rw[hxb]at h;have x0:=(h).rawCell 0;have x1:=(h).rawCell 1;have x2:=(h).rawCell 2;simp at x0 x1 x2;replace H:=hQd h;clear h)
  |(go_at_call 12;(with_reducible refine(zOX HLIB.out H.out).mono ?_);rintro e_ wn ⟨rfl,h⟩;replace H:=hQd h;clear h))
 go_ret;exact⟨rfl,H.out.drop⟩
theorem zKU(b:Nat)(l:Bs)(ws:List Bs)(t:Bs)(wb n cv:Nat)(cs:List Value)(hcs:cs=ws.flatMap zBf)(hn:n=ws.length)(h0:0<n)(hl:ws.length≤1000000)(ht:zAB 32 ws=t)(htl:t.length≤1000000)(hll:l.length≤1000000){W0 w:World}{K:Know}{L:List Res}(h:St W0 w K (.row (.slice (some ⟨wb,0,none⟩) n cv) 9 1 n cs::.gen (sbG b l)::L)):
  Calls Tryz.prog 52 #[.pointer (some ⟨b,0,none⟩),.slice (some ⟨wb,0,none⟩) n cv] w fun en w'=>en=.returned (.tuple #[])∧St W0 w' K (.gen (sbG b (l++(t++[10])))::L):=by
 subst hcs hn;obtain⟨wb3,cv3,hv3,hle3,h10⟩:=h.rowStrs h0;injection hv3 with hv4 hv5 hv6;injection hv4 with hv4;injection hv4 with hv4;subst hv4 hv6;refine(zJW b l ws t wb ws.length cv rfl hle3 hl ht htl hll (Know.has_right (Know.has_refl _)) h10).mono ?_;rintro en w' ⟨rfl,h3⟩;exact⟨rfl,h3.know (Know.has_left (Know.has_refl _))⟩
theorem zLx{l:List BtR}{c:Int}{ch:List Int}(h:l.flatMap btT++(cutT c++chT ch)=[]):l=[]∧c<0∧ch=[]:=by
 have h1:=List.append_eq_nil_iff.1 h;have h2:=List.append_eq_nil_iff.1 h1.2;refine⟨?_,?_,?_⟩
 · cases l with
   |nil=>rfl
   |cons x t=>
    have h3:=h1.1;rw[List.flatMap_cons]at h3;have h4:=(List.append_eq_nil_iff.1 h3).1;unfold btT batL at h4;simp at h4
 · have h3:=h2.1;unfold cutT at h3
   split at h3
   · assumption
   · simp at h3
 · have h3:=h2.2;unfold chT at h3
   split at h3
   · assumption
   · simp at h3
variable {W0 w:World}{K:Know}{L:List Res}
theorem zOJ(b:Nat)(h:St W0 w K (.raw b #[.pointer none,.slice none 0 0] 80::L)):
  Calls Tryz.prog 47 #[.pointer (some ⟨b,0,none⟩)] w fun en w'=>en=.returned (.string (bb []))∧St W0 w' K L:=by
 have h1:=h.drew;have c0:=(h1).rawCell 0;have c1:=(h1).rawCell 1;simp at c0 c1;have hSD:(Builtin.unsafeSliceData_ #[57] 127 #[.slice none 0 0]).run Tryz.prog w.drew=.ok (.pointer none) w.drew:=Lib.run_unsafeSliceData_nil _ _ _ _ _;have hUS:(Builtin.unsafeString_ #[127,3] 9 #[.pointer none,.int .i64 0]).run Tryz.prog w.drew=.ok (.string (bb [])) w.drew:=Lib.run_unsafeString_none _ _ _ _ _;have H:=hQd h1.drop;clear h h1;go_enter Tryz.func47,Tryz.ntmps47;go_wp2
 go_region
 go_wp2;go_ret;exact⟨rfl,H.out⟩
theorem pr_nil(qb q:Option Addr)(bcap cap:Nat)(h:St W0 w K L):
  Calls Tryz.prog 20 #[.agg #[.slice qb 0 bcap,.int .i64 (-1),.slice q 0 cap]] w fun en w'=>en=.returned (.string (bb []))∧St W0 w' K L:=by
 obtain⟨rb,hrb⟩:∃b,w.heap.size=b:=⟨_,rfl⟩;obtain⟨sb,hsb⟩:∃b,rb+1=b:=⟨_,rfl⟩;have g1:=h.allocRaw #[.slice qb 0 bcap,.int .i64 (-1),.slice q 0 cap] 25;rw[hrb]at g1;have g2:=g1.allocRaw #[.pointer none,.slice none 0 0] 80;simp only[World.size_alloc,hrb,hsb]at g2;have z0:=(g2.p1).rawCell 0;have z1:=(g2.p1).rawCell 1;have z2:=(g2.p1).rawCell 2;simp at z0 z1 z2;have H:=hQd g2;clear h g1 g2;go_enter Tryz.func20,Tryz.ntmps20;go_wp2_with fail;go_loopw [9] (fun iv wr=>iv=.int .i64 0∧St W0 wr K (.raw sb #[.pointer none,.slice none 0 0] 80::.raw rb #[.slice qb 0 bcap,.int .i64 (-1),.slice q 0 cap] 25::L)) (fun _ _=>0)
 case atStart=>exact⟨rfl,H.out⟩
 case round=>
  obtain⟨rfl,hst⟩:=hrel;clear H;have H:=hQd hst;clear hst z0 z1 z2;have z0:=(H.out.p1).rawCell 0;have z1:=(H.out.p1).rawCell 1;have z2:=(H.out.p1).rawCell 2;simp at z0 z1 z2;go_wp2_with (go_at_call 47;(with_reducible refine(zOJ sb H.out).mono ?_);rintro e_ wn ⟨rfl,h⟩;replace H:=hQd h;clear h);go_ret;exact⟨rfl,H.out.drop⟩
theorem zq8{p:Prop}(h:p:=by intro w hSw;(try dsimp only at hSw);go_simp;(try simp only[List.getElem?_cons_zero,Option.getD_some]);(try go_simp);try with_reducible rfl):p:=h
theorem zOI(x:BtR)(ob:Nat)(o S:Bs)(xq:Option Addr)(xcap:Nat)(hxv:x.v=.slice xq x.l.length xcap)(hfine:zBG x)(hS:o++btT x=S)(hl:S.length≤1000000){W0 w:World}{K:Know}{L:List Res}(hlib:K.has Know.lib)(hk:K.has (Know.recs x.v x.l))(h:St W0 w K (.gen (sbG ob o)::L)):
  Calls Tryz.prog 51 #[.pointer (some ⟨ob,0,none⟩),.agg #[.int .i64 x.b.base,.int .i64 x.b.leader,.bool x.b.app,.bool x.b.txn,.bool x.b.ctl,.int .i64 x.b.last,.int .i64 x.b.first,.int .i64 x.b.maxt,.int .i64 x.b.prod,.int .i64 x.b.epoch,.int .i64 x.b.seq,.slice xq x.l.length xcap]] w fun en w'=>en=.returned (.tuple #[])∧St W0 w' K (.gen (sbG ob S)::L):=by
 rw[hxv]at hk;have hbr:=hfine.1;have HXF:=hQd hfine.2;have HXK:=hQd hk;have HSL:=hQd hl;have HLIB:=hQd hlib;have e9:=congrArg List.length hS;rw[List.length_append]at e9
 have e8:(batL x.b).length≤(btT x).length∧x.l.length≤(btT x).length:=by
  have h9:=zF0 (fun y:RecS×Value=>recT y.1) x.l (fun h _=>by unfold recT recH;simp);unfold btT;rw[List.length_append]
  omega
 have hol:o.length≤1000000:=by omega
 have HXB:=hQd (show(x.l.length:Int)≤1000000 by omega)
 have eB:∀t,zAB 32 ([98,97,116,99,104]::((batN x.b).map numW++[letW x.b.app x.b.txn x.b.ctl]))=t→t++[10]=batL x.b:=by
  intro t ht;rw[←ht,zA6];exact zNA x.b
 have HEB:=hQd eB
 have hTL:∀t,zAB 32 ([98,97,116,99,104]::((batN x.b).map numW++[letW x.b.app x.b.txn x.b.ctl]))=t→t.length≤1000000:=by
  intro t ht;have h9:=congrArg List.length (eB t ht);rw[List.length_append]at h9
  omega
 have HHS:=hQd hS;have HHTL:=hQd hTL;clear hfine hl hxv hk eB hS e9 e8 hTL;obtain⟨tb,htb⟩:∃b,w.heap.size=b:=⟨_,rfl⟩;obtain⟨lb,hlb⟩:∃b,tb+1=b:=⟨_,rfl⟩;obtain⟨rb9,hrb9⟩:∃b,lb+1=b:=⟨_,rfl⟩;have g1:=h.allocRaw #[.int .i64 x.b.base,.int .i64 x.b.leader,.bool x.b.app,.bool x.b.txn,.bool x.b.ctl,.int .i64 x.b.last,.int .i64 x.b.first,.int .i64 x.b.maxt,.int .i64 x.b.prod,.int .i64 x.b.epoch,.int .i64 x.b.seq,.slice xq x.l.length xcap] 30;rw[htb]at g1;have y0:=g1.rawCell 0;have y1:=g1.rawCell 1;have y2:=g1.rawCell 2;have y3:=g1.rawCell 3;have y4:=g1.rawCell 4;have y5:=g1.rawCell 5;have y6:=g1.rawCell 6;have y7:=g1.rawCell 7;have y8:=g1.rawCell 8;have y9:=g1.rawCell 9;have y10:=g1.rawCell 10;have y11:=g1.rawCell 11;simp at y0 y1 y2 y3 y4 y5 y6 y7 y8 y9 y10 y11;have g2:=g1.allocRaw #[.int .i64 x.b.base,.int .i64 x.b.leader,.int .i64 x.b.last,.int .i64 x.b.first,.int .i64 x.b.maxt,.int .i64 x.b.prod,.int .i64 x.b.epoch,.int .i64 x.b.seq] 135;simp only[World.size_alloc,htb,hlb]at g2
 have g3:=g2.freeze (K':=Know.flat RInt (.slice (some ⟨lb,0,none⟩) 8 8) 1 (batN x.b)) (fun F S1 _ hr=>by
  refine⟨_,_,rfl,fun _=>⟨lb,0,rfl,.inr ⟨(hr.2 lb).2 rfl,zAy hr.1⟩,zAy hr.1,fun i hi=>⟨[.int .i64 (batN x.b)[i]],rfl,rfl,fun f u hu=> ?_⟩⟩⟩
  rcases f with _|f
  · rw[zAx hr.1];simp at hu;subst hu;have hi8:i<8:=hi
    rcases i with _| _| _| _| _| _| _| _|i<;>first|rfl|omega
  · simp at hu)
 have HKI:=hQd (show(K.and (Know.flat RInt (.slice (some ⟨lb,0,none⟩) 8 8) 1 (batN x.b))).has (Know.flat RInt (.slice (some ⟨lb,0,none⟩) (batN x.b).length 8) 1 (batN x.b))from Know.has_right (Know.has_refl _));have HL1:=hQd (show(K.and (Know.flat RInt (.slice (some ⟨lb,0,none⟩) 8 8) 1 (batN x.b))).has Know.lib from Know.has_left hlib);have HN8:=hQd (show 8=(batN x.b).length from rfl);have HN9:=hQd (show(batN x.b).length≤1000000 from by simp[batN]);have HN7:=hQd (show 0<(batN x.b).length from by simp[batN]);have HNR:=hQd (show ∀n∈batN x.b,Rn n from hbr);have HOL:=hQd hol;have H:=hQd g3;clear h g1 g2 g3 hbr hol;go_enter Tryz.func51,Tryz.ntmps51
 go_upto_region 3 with (first
  |(go_at_call 53;have hl0:=H.out.rowLit [.string ⟨#[98,97,116,99,104]⟩] 9 1 1 rfl (by unfold maxLen;omega);simp only[World.size_alloc,htb,hlb,hrb9]at hl0;(with_reducible refine(zDg (some ⟨lb,0,none⟩) 8 8 (batN x.b) HN8.out HN9.out HNR.out HN7.out HL1.out HKI.out hl0).mono ?_);rintro e_ wn ⟨wb,wc,rfl,hwc,h⟩;have HWC:=hQd hwc;clear hwc;replace H:=hQd h;clear h)
  |(at_builtin;refine zBq rfl _ _ 69 rfl 9 Tryz.underlying69 zBD _ _ _ rfl H.out ⟨wb,0,none⟩ 8 wc (((batN x.b).map numW).flatMap zBf) rfl (by rw[zCR];rfl) (zHm (Know.has_right (Know.has_refl _)) H.out) (zEa _) (by unfold maxLen;omega) (by omega) ?_;intro v' w' h;obtain⟨qv,cv,hv⟩:=h.rowAny;subst hv;replace H:=hQd h;clear h))
 have y2:=H.out.p1.rawCell 2;have y3:=H.out.p1.rawCell 3;have y4:=H.out.p1.rawCell 4;simp at y2 y3 y4;obtain⟨lw,hlw⟩:∃lw,letW x.b.app x.b.txn x.b.ctl=lw:=⟨_,rfl⟩;have HLW:=hQd hlw;obtain⟨ws,hws⟩:∃ws,[98,97,116,99,104]::((batN x.b).map numW++[lw])=ws:=⟨_,rfl⟩;have HWS:=hQd hws;have HWN:=hQd (show 10=ws.length by rw[←hws];rfl);obtain⟨t,ht⟩:∃t,zAB 32 ws=t:=⟨_,rfl⟩;have HT:=hQd ht;have HTL:=hQd (show t.length≤1000000 from HHTL.out _ (by rw[hlw,hws];exact ht))
 have HS0:=hQd (show(o++(t++[10]))++(x.l.drop 0).flatMap (fun y:RecS×Value=>recT y.1)=S by
  rw[HEB.out t (by rw[hlw,hws];exact ht),←HHS.out];unfold btT
  rw[List.drop_zero,List.append_assoc])
 clear hlw hws ht
 go_upto_region 4 with (first
  |(go_at_call 89;(try clear y2 y3 y4);(with_reducible refine(zPE x.b.app x.b.txn x.b.ctl H.out).mono ?_);rintro e_ wn ⟨rfl,h⟩;rw[HLW.out];replace H:=hQd h;clear h)
  |(at_builtin;refine zAw rfl _ _ 69 rfl 9 Tryz.underlying69 zBD _ _ _ rfl H.out [.string (bb lw)] 9 rfl rfl (by simp[Value.oneCell']) (by unfold maxLen;omega) (by omega) ?_;intro v' w' h;obtain⟨wb2,cv2,hv⟩:=h.rowSlice (by omega);subst hv;replace H:=hQd h;clear h)
  |(go_at_call 52;have h9:St W0 _ _ (.row (.slice (some ⟨wb2,0,none⟩) (1+8+1) cv2) 9 1 ws.length (ws.flatMap zBf)::_):=(by rw[←HWN.out,←HWS.out];exact H.out);obtain⟨wb3,cv3,hv3,hle3,h10⟩:=h9.rowStrs (by rw[←HWN.out];omega);injection hv3 with hv4 hv5 hv6;injection hv4 with hv4;injection hv4 with hv4;subst hv4;subst hv6;(with_reducible refine(zJW ob o ws t wb2 10 cv2 HWN.out (by have:=HWN.out;omega) (by have:=HWN.out;omega) HT.out HTL.out HOL.out (Know.has_right (Know.has_refl _)) h10.p1).mono ?_);rintro e_ wn ⟨rfl,h⟩;replace H:=hQd h;clear h))
 have h5:=(H.out.know (Know.has_left (Know.has_left (Know.has_left (Know.has_refl _)))):St W0 _ K _);have y11:=h5.p1.rawCell 11;simp at y11;clear H HKI HL1;have H:=hQd h5;clear h5;go_wp2_with fail;clear y11;go_loopw [47] (fun iv wr=>∃(k3:Nat) (E:Bs),k3≤x.l.length∧iv=.int .i64 k3∧Hid (E++(x.l.drop k3).flatMap (fun y:RecS×Value=>recT y.1)=S)∧St W0 wr K (.gen (sbG ob E)::.raw tb #[.int .i64 x.b.base,.int .i64 x.b.leader,.bool x.b.app,.bool x.b.txn,.bool x.b.ctl,.int .i64 x.b.last,.int .i64 x.b.first,.int .i64 x.b.maxt,.int .i64 x.b.prod,.int .i64 x.b.epoch,.int .i64 x.b.seq,.slice xq x.l.length xcap] 30::L)) (fun iv _=>x.l.length - (intOf iv).toNat)
 case atStart=>exact⟨0,_,Nat.zero_le _,rfl,HS0,H.out⟩
 case round=>
  obtain⟨k3,E,hk3',rfl,HE,hst3⟩:=hrel;clear H;have H:=hQd hst3;clear hst3;have hkb3:(x.l.length:Int)≤1000000:=HXB.out
  by_cases hk3:k3<x.l.length
  · obtain⟨eb,eo,hxq⟩:=zCE HXK.out H.out (by omega);subst hxq;obtain⟨⟨r,vh⟩,hy⟩:∃y,x.l[k3]=y:=⟨_,rfl⟩;have hmem:(r,vh)∈x.l:=hy ▸ List.getElem_mem hk3;have hHK0:=zBz HXK.out hmem;obtain⟨hq,hcap,hvh⟩:=zHR hHK0 H.out;simp only at hvh;subst hvh;have cc:=zBA HXK.out H.out k3 hk3 _ hy;simp only[←Nat.add_assoc]at cc;obtain⟨c0,c1,c2,c3,c4,c5,c6⟩:=cc
    try simp only at c0 c1 c2 c3 c4 c5 c6
    obtain⟨d2,hd2⟩:∃t,numW r.time=t:=⟨_,rfl⟩;obtain⟨d4,hd4⟩:∃t,numW r.off=t:=⟨_,rfl⟩;obtain⟨d6,hd6⟩:∃t,zAM r.key=t:=⟨_,rfl⟩;obtain⟨d8,hd8⟩:∃t,zAM r.val=t:=⟨_,rfl⟩;obtain⟨t,ht⟩:∃t,lnR r=t:=⟨_,rfl⟩;obtain⟨R3,hR3⟩:∃R3,(x.l.drop (k3+1)).flatMap (fun y:RecS×Value=>recT y.1)=R3:=⟨_,rfl⟩;have HRF:=hQd (HXF.out _ hmem:zCe r)
    have hU:(E++(t++[10]))++((r.hdrs.drop 0).flatMap hdrT++R3)=S:=by
     rw[←HE.out,zDQ (fun y:RecS×Value=>recT y.1) x.l k3 hk3 _ hy,←ht,zNy,←hR3];simp only[recT,List.drop_zero,List.append_assoc]
    have HUS:=hQd (hQd hU);have h8:=congrArg List.length hU;have h7:=HSL.out;have h9:=zF0 hdrT r.hdrs (fun h _=>by unfold hdrT;simp);rw[List.drop_zero]at h8;simp only[List.length_append,List.length_cons,List.length_nil]at h8;have HHK:=hQd (show K.has (Know.flat RHdr (.slice hq r.hdrs.length hcap) 3 r.hdrs)from hHK0);have HHB:=hQd (show(r.hdrs.length:Int)≤1000000 by omega);have HT:=hQd (show zAB 32 [[114,101,99,111,114,100],d2,d4,d6,d8]=t by rw[zA6,←hd2,←hd4,←hd6,←hd8,←ht];rfl);have HTL:=hQd (show t.length≤1000000 by omega);have HEL:=hQd (show E.length≤1000000 by omega);have HL5:=hQd (show[[114,101,99,111,114,100],d2,d4,d6,d8].length≤1000000 by simp)
    have hlt2:d6.length≤t.length∧d8.length≤t.length:=by
     rw[←ht,←hd6,←hd8];unfold lnR;simp only[List.flatMap_cons,List.flatMap_nil,List.length_append,List.length_cons,List.length_nil]
     omega
    have HR3:=hQd hR3;have HRT:=hQd HRF.out.2.2.2.1;have HRO:=hQd HRF.out.2.2.2.2;have HD2:=hQd hd2;have HD4:=hQd hd4;have HD6:=hQd (show zAM ⟨r.key.null,r.key.data⟩=d6 from hd6);have HD8:=hQd (show zAM ⟨r.val.null,r.val.data⟩=d8 from hd8);have HKL:=hQd (show r.key.data.length≤1000000 by have:=zGc r.key HRF.out.1;rw[hd6]at this;omega);have HVL:=hQd (show r.val.data.length≤1000000 by have:=zGc r.val HRF.out.2.1;rw[hd8]at this;omega);obtain⟨t9,ht9⟩:∃b,wr.heap.size=b:=⟨_,rfl⟩;have g9:=(H.out.allocRaw #[.int .i64 r.time,.int .i64 r.off,.bool r.key.null,.string (bb r.key.data),.bool r.val.null,.string (bb r.val.data),.slice hq r.hdrs.length hcap] 54).p1;rw[ht9]at g9;have KP7:=hQd (show ∀(w':World) (L':List Res),St W0 w' K (.raw t9 #[.int .i64 r.time,.int .i64 r.off,.bool r.key.null,.string (bb r.key.data),.bool r.val.null,.string (bb r.val.data),.slice hq r.hdrs.length hcap] 54::L')→(w'.cell? ⟨t9,0,none⟩=some (.int .i64 r.time)∧w'.cell? ⟨t9,1,none⟩=some (.int .i64 r.off)∧w'.cell? ⟨t9,2,none⟩=some (.bool r.key.null)∧w'.cell? ⟨t9,3,none⟩=some (.string (bb r.key.data))∧w'.cell? ⟨t9,4,none⟩=some (.bool r.val.null)∧w'.cell? ⟨t9,5,none⟩=some (.string (bb r.val.data)))from fun w' L' h'=>⟨h'.rawCell 0,h'.rawCell 1,h'.rawCell 2,h'.rawCell 3,h'.rawCell 4,h'.rawCell 5⟩);have hk3i:(k3:Int)<(x.l.length:Int):=by omega
    clear H hU h8 h7 h9 hlt2 hd2 hd4 hd6 hd8 ht hy hmem hHK0 hR3;have H:=hQd g9;clear g9;go_upto_region 7 with fail;have hs:=H.out.drew;clear H c0 c1 c2 c3 c4 c5 c6;refine wp_region_held_drew (S:=fun w'=>w'.cell? ⟨t9,0,none⟩=some (.int .i64 r.time)∧w'.cell? ⟨t9,1,none⟩=some (.int .i64 r.off)∧w'.cell? ⟨t9,2,none⟩=some (.bool r.key.null)∧w'.cell? ⟨t9,3,none⟩=some (.string (bb r.key.data))∧w'.cell? ⟨t9,4,none⟩=some (.bool r.val.null)∧w'.cell? ⟨t9,5,none⟩=some (.string (bb r.val.data))) (by kernel_rfl) (KP7.out _ _ hs.p1) (fun hHeld=> ?_);refine tQ 0 ⟨some 51,.move (.tmp 0),78,_,_,none⟩ ?_;simp only[Act.put,sA,sB,sC];refine tQ 1 ⟨some 52,.fieldAddr 54 (.tmp 7) 0,0,_,_,none⟩ ?_;simp only[Act.put,sA,sB,sC];refine tQ 2 ⟨some 53,.load 3 (.tmp 52),3,_,_,none⟩ ?_;simp only[Act.put,sA,sB,sC];refine tQ 4 ⟨some 55,.fieldAddr 54 (.tmp 7) 1,0,_,_,none⟩ ?_;simp only[Act.put,sA,sB,sC];refine tQ 5 ⟨some 56,.load 3 (.tmp 55),3,_,_,none⟩ ?_;simp only[Act.put,sA,sB,sC];refine tQ 7 ⟨some 58,.fieldAddr 54 (.tmp 7) 2,0,_,_,none⟩ ?_;simp only[Act.put,sA,sB,sC];refine tQ 8 ⟨some 59,.load 51 (.tmp 58),51,_,_,none⟩ ?_;simp only[Act.put,sA,sB,sC];refine tQ 10 ⟨some 61,.fieldAddr 54 (.tmp 7) 3,0,_,_,none⟩ ?_;simp only[Act.put,sA,sB,sC];refine tQ 11 ⟨some 62,.load 51 (.tmp 61),51,_,_,none⟩ ?_;simp only[Act.put,sA,sB,sC];refine wpAnyH_ready (rs:=[3]) (by kernel_rfl) (by simp) (AllReadyH.cons (o:=⟨some 54,.call {callee:=.value (.func 37),args:= #[.tmp 53],argTypes:= #[3]},9,_,_,none⟩) rfl (fun KK hK=> ?_) AllReadyH.nil);go_simp;go_at_call 37;with_reducible refine(zA8 r.time HRT.out d2 HD2.out HLIB.out hs).mono ?_;rintro e wq ⟨rfl,hs⟩;refine hK.out _ _ (KP7.out _ _ hs.p1) (fun hHeld=> ?_);clear hK KK
    try simp only[Act.put,sA,sB,sC]
    refine wpAnyH_ready (rs:=[6]) (by kernel_rfl) (by simp) (AllReadyH.cons (o:=⟨some 57,.call {callee:=.value (.func 37),args:= #[.tmp 56],argTypes:= #[3]},9,_,_,none⟩) rfl (fun KK hK=> ?_) AllReadyH.nil);go_simp;go_at_call 37;with_reducible refine(zA8 r.off HRO.out d4 HD4.out HLIB.out hs).mono ?_;rintro e wq ⟨rfl,hs⟩;refine hK.out _ _ (KP7.out _ _ hs.p1) (fun hHeld=> ?_);clear hK KK
    try simp only[Act.put,sA,sB,sC]
    refine wpAnyH_ready (rs:=[9]) (by kernel_rfl) (by simp) (AllReadyH.cons (o:=⟨some 60,.call {callee:=.value (.func 90),args:= #[.tmp 59],argTypes:= #[51]},9,_,_,none⟩) rfl (fun KK hK=> ?_) AllReadyH.nil);go_simp;go_at_call 90;with_reducible refine(zDh r.key.null r.key.data d6 HD6.out HKL.out hs).mono ?_;rintro e wq ⟨rfl,hs⟩;refine hK.out _ _ (KP7.out _ _ hs.p1) (fun hHeld=> ?_);clear hK KK
    try simp only[Act.put,sA,sB,sC]
    refine wpAnyH_ready (rs:=[12]) (by kernel_rfl) (by simp) (AllReadyH.cons (o:=⟨some 63,.call {callee:=.value (.func 90),args:= #[.tmp 62],argTypes:= #[51]},9,_,_,none⟩) rfl (fun KK hK=> ?_) AllReadyH.nil);go_simp;go_at_call 90;with_reducible refine(zDh r.val.null r.val.data d8 HD8.out HVL.out hs).mono ?_;rintro e wq ⟨rfl,hs⟩;refine hK.out _ _ (KP7.out _ _ hs.p1) (fun hHeld=> ?_);clear hK KK
    try simp only[Act.put,sA,sB,sC]
    refine wpAnyH_ready (rs:=[13]) (by kernel_rfl) (by simp) (AllReadyH.cons (o:=⟨some 64,.buildSlice 69 5 #[(0,.const (Value.string {data:= #[114,101,99,111,114,100]})),(1,.tmp 54),(2,.tmp 57),(3,.tmp 60),(4,.tmp 63)],69,_,_,none⟩) rfl (fun KK hK=> ?_) AllReadyH.nil);rw[if_pos (by rfl)];refine zBm (zJb _ _ _ _ (by kernel_rfl) (zQz ⟨#[114,101,99,111,114,100]⟩ (bb d2) (bb d4) (bb d6) (bb d8) _)) ?_;obtain⟨wy,nb,ey,eb,hs⟩:=hs.allocEx #[.string ⟨#[114,101,99,111,114,100]⟩,.string (bb d2),.string (bb d4),.string (bb d6),.string (bb d8)] 9;rw[ey,eb];clear ey eb;refine hK.out _ _ (KP7.out _ _ hs.p2) (fun hHeld=> ?_);clear hK KK
    try simp only[Act.put,sA,sB,sC]
    refine wpAnyH_ready (rs:=[14]) (by kernel_rfl) (by simp) (AllReadyH.cons (o:=⟨some 65,.call {callee:=.value (.func 52),args:= #[.tmp 51,.tmp 64],argTypes:= #[78,69]},0,_,_,none⟩) rfl (fun KK hK=> ?_) AllReadyH.nil);go_simp;go_at_call 52;with_reducible refine(zEV ob E [[114,101,99,111,114,100],d2,d4,d6,d8] t nb 5 _ rfl rfl HL5.out HT.out HTL.out HEL.out hs).mono ?_;rintro e wq ⟨rfl,hs⟩;refine hK.out _ _ (KP7.out _ _ hs.p1) (fun hHeld=> ?_);clear hK KK
    try simp only[Act.put,sA,sB,sC]
    refine wpAnyH_done (by kernel_rfl) ?_ _;clear hHeld;have H:=hQd hs;have z6:=hs.p1.rawCell 6;simp at z6;clear hs;go_wp2_with fail;go_loopw [69] (fun iv wr=>∃(k4:Nat) (E4:Bs),k4≤r.hdrs.length∧iv=.int .i64 k4∧Hid (E4++((r.hdrs.drop k4).flatMap hdrT++R3)=S)∧St W0 wr K (.gen (sbG ob E4)::.raw t9 #[.int .i64 r.time,.int .i64 r.off,.bool r.key.null,.string (bb r.key.data),.bool r.val.null,.string (bb r.val.data),.slice hq r.hdrs.length hcap] 54::.raw tb #[.int .i64 x.b.base,.int .i64 x.b.leader,.bool x.b.app,.bool x.b.txn,.bool x.b.ctl,.int .i64 x.b.last,.int .i64 x.b.first,.int .i64 x.b.maxt,.int .i64 x.b.prod,.int .i64 x.b.epoch,.int .i64 x.b.seq,.slice (some ⟨eb,eo,none⟩) x.l.length xcap] 30::L)) (fun iv _=>r.hdrs.length - (intOf iv).toNat)
    case atStart=>exact⟨0,_,Nat.zero_le _,rfl,HUS.out,H.out⟩
    case round=>
     obtain⟨k4,E4,hk4',rfl,HE4,hst4⟩:=hrel;clear H;have H:=hQd hst4;clear hst4;have hkb4:(r.hdrs.length:Int)≤1000000:=HHB.out
     by_cases hk4:k4<r.hdrs.length
     · obtain⟨hb,ho,hhq⟩:=zKl HHK.out H.out (by omega);subst hhq;obtain⟨z,hz⟩:∃z,r.hdrs[k4]=z:=⟨_,rfl⟩;obtain⟨c0,c1,c2⟩:=zIA HHK.out H.out k4 hk4 z hz;obtain⟨d2,hd2⟩:∃t,hexW z.key=t:=⟨_,rfl⟩;obtain⟨d4,hd4⟩:∃t,zAM z.val=t:=⟨_,rfl⟩;obtain⟨t,ht⟩:∃t,lnH z=t:=⟨_,rfl⟩
       have hV:(E4++(t++[10]))++((r.hdrs.drop (k4+1)).flatMap hdrT++R3)=S:=by
         rw[←HE4.out,zDQ hdrT r.hdrs k4 hk4 z hz,←ht,zNz];simp only[List.append_assoc]
       have HVS:=hQd (hQd hV);have h8:=congrArg List.length hV;have h7:=HSL.out;simp only[List.length_append,List.length_cons,List.length_nil]at h8;have hm:=HRF.out.2.2.1 z (hz ▸ List.getElem_mem hk4);have HT:=hQd (show zAB 32 [[104,101,97,100,101,114],d2,d4]=t by rw[zA6,←hd2,←hd4,←ht];rfl);have hlt:=congrArg List.length ht;have HTL:=hQd (show t.length≤1000000 by omega);have HEL:=hQd (show E4.length≤1000000 by omega);have HL3:=hQd (show[[104,101,97,100,101,114],d2,d4].length≤1000000 by simp)
       have hlt2:d2.length≤t.length∧d4.length≤t.length:=by
         rw[←ht,←hd2,←hd4];unfold lnH;simp only[List.flatMap_cons,List.flatMap_nil,List.length_append,List.length_cons,List.length_nil]
         omega
       have HD2:=hQd hd2;have HD4:=hQd (show zAM ⟨z.val.null,z.val.data⟩=d4 from hd4);have HKL:=hQd (show z.key.length≤1000000 by have:=zLb z.key;rw[hd2]at this;omega);have HVL:=hQd (show z.val.data.length≤1000000 by have:=zGc z.val hm;rw[hd4]at this;omega);obtain⟨u9,hu9⟩:∃b,wr.heap.size=b:=⟨_,rfl⟩;have g9:=(H.out.allocRaw #[.string (bb z.key),.bool z.val.null,.string (bb z.val.data)] 73).p1;rw[hu9]at g9;have KP11:=hQd (show ∀(w':World) (L':List Res),St W0 w' K (.raw u9 #[.string (bb z.key),.bool z.val.null,.string (bb z.val.data)] 73::L')→(w'.cell? ⟨u9,0,none⟩=some (.string (bb z.key))∧w'.cell? ⟨u9,1,none⟩=some (.bool z.val.null)∧w'.cell? ⟨u9,2,none⟩=some (.string (bb z.val.data)))from fun w' L' h'=>⟨h'.rawCell 0,h'.rawCell 1,h'.rawCell 2⟩);have hk4i:(k4:Int)<(r.hdrs.length:Int):=by omega
       clear H hV h8 h7 hm hlt hlt2 hd2 hd4 ht hz;have H:=hQd g9;clear g9;go_upto_region 11 with fail;have hs:=H.out.drew;clear H c0 c1 c2;refine wp_region_held_drew (S:=fun w'=>w'.cell? ⟨u9,0,none⟩=some (.string (bb z.key))∧w'.cell? ⟨u9,1,none⟩=some (.bool z.val.null)∧w'.cell? ⟨u9,2,none⟩=some (.string (bb z.val.data))) (by kernel_rfl) (KP11.out _ _ hs.p1) (fun hHeld=> ?_);refine wpAnyH_take (i:=0) (oi:=⟨some 73,.move (.tmp 0),78,_,_,none⟩) (v:=?_) rfl (by kernel_rfl) (by kernel_rfl) (by kernel_rfl) (fun _ _ _ h=>h) (Or.inl ⟨by rfl,?_⟩) (by assumption) ?_;rotate_left
       · exact zq8
       simp only[Act.put,sA,sB,sC];refine wpAnyH_take (i:=1) (oi:=⟨some 74,.fieldAddr 73 (.tmp 9) 0,0,_,_,none⟩) (v:=?_) rfl (by kernel_rfl) (by kernel_rfl) (by kernel_rfl) (fun _ _ _ h=>h) (Or.inl ⟨by rfl,?_⟩) (by assumption) ?_;rotate_left
       · exact zq8
       simp only[Act.put,sA,sB,sC];refine wpAnyH_take (i:=2) (oi:=⟨some 75,.load 9 (.tmp 74),9,_,_,none⟩) (v:=?_) rfl (by kernel_rfl) (by kernel_rfl) (by kernel_rfl) (fun _ _ _ h=>h) (Or.inl ⟨by rfl,?_⟩) (by assumption) ?_;rotate_left
       · exact zq8
       simp only[Act.put,sA,sB,sC];refine wpAnyH_take (i:=4) (oi:=⟨some 77,.fieldAddr 73 (.tmp 9) 1,0,_,_,none⟩) (v:=?_) rfl (by kernel_rfl) (by kernel_rfl) (by kernel_rfl) (fun _ _ _ h=>h) (Or.inl ⟨by rfl,?_⟩) (by assumption) ?_;rotate_left
       · exact zq8
       simp only[Act.put,sA,sB,sC];refine wpAnyH_take (i:=5) (oi:=⟨some 78,.load 51 (.tmp 77),51,_,_,none⟩) (v:=?_) rfl (by kernel_rfl) (by kernel_rfl) (by kernel_rfl) (fun _ _ _ h=>h) (Or.inl ⟨by rfl,?_⟩) (by assumption) ?_;rotate_left
       · exact zq8
       simp only[Act.put,sA,sB,sC];refine wpAnyH_ready (rs:=[3]) (by kernel_rfl) (by simp) (AllReadyH.cons (o:=⟨some 76,.call {callee:=.value (.func 21),args:= #[.tmp 75],argTypes:= #[9]},9,_,_,none⟩) rfl (fun KK hK=> ?_) AllReadyH.nil)
       · go_simp;go_at_call 21;with_reducible refine(zFo z.key d2 HD2.out HKL.out hs).mono ?_;rintro e wq ⟨rfl,hs⟩;refine hK.out _ _ (KP11.out _ _ hs.p1) (fun hHeld=> ?_);clear hK KK
         try simp only[Act.put,sA,sB,sC]
         refine wpAnyH_ready (rs:=[6]) (by kernel_rfl) (by simp) (AllReadyH.cons (o:=⟨some 79,.call {callee:=.value (.func 90),args:= #[.tmp 78],argTypes:= #[51]},9,_,_,none⟩) rfl (fun KK hK=> ?_) AllReadyH.nil)
         · go_simp;go_at_call 90;with_reducible refine(zDh z.val.null z.val.data d4 HD4.out HVL.out hs).mono ?_;rintro e wq ⟨rfl,hs⟩;refine hK.out _ _ (KP11.out _ _ hs.p1) (fun hHeld=> ?_);clear hK KK
           try simp only[Act.put,sA,sB,sC]
           refine wpAnyH_ready (rs:=[7]) (by kernel_rfl) (by simp) (AllReadyH.cons (o:=⟨some 80,.buildSlice 69 3 #[(0,.const (Value.string {data:= #[104,101,97,100,101,114]})),(1,.tmp 76),(2,.tmp 79)],69,_,_,none⟩) rfl (fun KK hK=> ?_) AllReadyH.nil)
           · rw[if_pos (by rfl)];refine zBm (zJc _ _ _ _ (by kernel_rfl) (zQA ⟨#[104,101,97,100,101,114]⟩ (bb d2) (bb d4) _)) ?_;obtain⟨wy,nb,ey,eb,hs⟩:=hs.allocEx #[.string ⟨#[104,101,97,100,101,114]⟩,.string (bb d2),.string (bb d4)] 9;rw[ey,eb];clear ey eb;refine hK.out _ _ (KP11.out _ _ hs.p2) (fun hHeld=> ?_);clear hK KK
             try simp only[Act.put,sA,sB,sC]
             refine wpAnyH_ready (rs:=[8]) (by kernel_rfl) (by simp) (AllReadyH.cons (o:=⟨some 81,.call {callee:=.value (.func 52),args:= #[.tmp 73,.tmp 80],argTypes:= #[78,69]},0,_,_,none⟩) rfl (fun KK hK=> ?_) AllReadyH.nil)
             · go_simp;go_at_call 52;with_reducible refine(zEV ob E4 [[104,101,97,100,101,114],d2,d4] t nb 3 _ rfl rfl HL3.out HT.out HTL.out HEL.out hs).mono ?_;rintro e wq ⟨rfl,hs⟩;refine hK.out _ _ (KP11.out _ _ hs.p1) (fun hHeld=> ?_);clear hK KK
               try simp only[Act.put,sA,sB,sC]
               refine wpAnyH_done (by kernel_rfl) ?_ _;clear hHeld;have hs:=hs.p1.drop;have H:=hQd hs;clear hs;go_wp2_with fail;go_roundw
               case rel=>exact⟨k4+1,_,hk4,by go_num,HVS.out,H.out⟩
               case measure=>first|(simp[intOf];done)|(simp[intOf];omega)
     · have hq4:k4=r.hdrs.length:=by omega
       have HE5:=hQd (show E4++R3=S by have h9:=HE4.out;rw[hq4,List.drop_length]at h9;exact h9);have hk4i:¬((k4:Int)<(r.hdrs.length:Int)):=by omega
       go_wp2_with fail;go_roundw
       case rel=>exact⟨k3+1,E4,hk3,by go_num,hQd (by rw[HR3.out];exact HE5.out),H.out.p1.drop⟩
       case measure=>first|(simp[intOf];done)|(simp[intOf];omega)
  · have hq3:k3=x.l.length:=by omega
    have HE3':=hQd (show E=S by have h9:=HE.out;rw[hq3,List.drop_length]at h9;simpa using h9);have hk3i:¬((k3:Int)<(x.l.length:Int)):=by omega
    go_wp2_with fail;go_end0;exact⟨rfl,by rw[←HE3'.out];exact H.out.p1.drop⟩
theorem zq14{p:Prop}(h:p:=by rw[←ht5];unfold lnK;have h5:=zF0 (fun x:Bs=>32::x) (ch.map numW) (fun h _=>by simp);rw[List.length_map]at h5;rw[List.length_append];exact Nat.le_trans h5 (Nat.le_add_left _ _)):p:=h
theorem zKT(c:Int)(qb q:Option Addr)(bcap cap:Nat)(ch:List Int)(l:List BtR)(S:Bs)(hS:l.flatMap btT++(cutT c++chT ch)=S)(hl:S.length≤1000000)(hcm: -1≤c)(hcr:Rn c)(hchr:∀v∈ch,Rn v)(hfine:∀x∈l,zBG x){W0 w:World}{K:Know}{L:List Res}(hlib:K.has Know.lib)(hkb:K.has (Know.btrs (.slice qb l.length bcap) l))(hkc:K.has (Know.flat RInt (.slice q ch.length cap) 1 ch))(h:St W0 w K L):
   Calls Tryz.prog 20 #[.agg #[.slice qb l.length bcap,.int .i64 c,.slice q ch.length cap]] w fun en w'=>en=.returned (.string (bb S))∧St W0 w' K L:=by
 by_cases hsn:S=[]
 · subst hsn;obtain⟨rfl,h2,rfl⟩:=zLx hS;obtain rfl:c= -1:=by omega
   exact pr_nil qb q bcap cap h
 obtain⟨rb,hrb⟩:∃b,w.heap.size=b:=⟨_,rfl⟩;obtain⟨sb,hsb⟩:∃b,rb+1=b:=⟨_,rfl⟩;have g1:=h.allocRaw #[.slice qb l.length bcap,.int .i64 c,.slice q ch.length cap] 25;rw[hrb]at g1;have g2:=g1.sbNew;simp only[World.size_alloc,hrb,hsb]at g2;have z0:=(g2.p1).rawCell 0;have z1:=(g2.p1).rawCell 1;have z2:=(g2.p1).rawCell 2;simp at z0 z1 z2;have H:=hQd g2;have HSN:=hQd hsn;have HLIB:=hQd hlib;have HKB:=hQd hkb;have HKC:=hQd hkc;have HBF:=hQd hfine;have HSL:=hQd hl;have HCM:=hQd hcm;have HCR:=hQd hcr;have HCHR:=hQd hchr;have HS0:=hQd (show[]++((l.drop 0).flatMap btT++(cutT c++chT ch))=S from hS)
 have HLB:=hQd (show(l.length:Int)≤1000000 by
   have h9:=zF0 btT l (fun h _=>by unfold btT batL;simp);have h8:=congrArg List.length hS;rw[List.length_append]at h8
   omega)
 clear h g1 g2 hsn hlib hkb hkc hfine hl hcm hcr hchr hS;go_enter Tryz.func20,Tryz.ntmps20;go_wp2_with fail;clear z0 z1 z2;go_loopw [9] (fun iv wr=>∃(k:Nat) (E:Bs),k≤l.length∧iv=.int .i64 k∧Hid (E++((l.drop k).flatMap btT++(cutT c++chT ch))=S)∧St W0 wr K (.gen (sbG sb E)::.raw rb #[.slice qb l.length bcap,.int .i64 c,.slice q ch.length cap] 25::L)) (fun iv _=>l.length - (intOf iv).toNat)
 case atStart=>exact⟨0,[],Nat.zero_le _,rfl,HS0,H.out⟩
 case round=>
   obtain⟨k,E,hk',rfl,HE,hst⟩:=hrel;clear H;have H:=hQd hst;clear hst;have z0:=(H.out.p1).rawCell 0;have z1:=(H.out.p1).rawCell 1;have z2:=(H.out.p1).rawCell 2;simp at z0 z1 z2;have hkbi:(l.length:Int)≤1000000:=HLB.out
   by_cases hk:k<l.length
   · obtain⟨bk,off,hqq⟩:=zKl (zB6 HKB.out) H.out (by omega);subst hqq;obtain⟨x,hx⟩:∃x,l[k]=x:=⟨_,rfl⟩;have hmem:x∈l:=hx ▸ List.getElem_mem hk;have hXK:=zDY HKB.out hmem;have HXK0:=hQd hXK;obtain⟨xq,xcap,hxv⟩:=zBZ hXK H.out;have cc:=zGb HKB.out H.out k hk _ hx;rw[hxv]at cc;obtain⟨c0,c1,c2,c3,c4,c5,c6,c7,c8,c9,c10,c11⟩:=cc;obtain⟨E2,hE2⟩:∃E2,E++btT x=E2:=⟨_,rfl⟩
     have hE3:E2++((l.drop (k+1)).flatMap btT++(cutT c++chT ch))=S:=by
       rw[←HE.out,zDQ btT l k hk x hx,←hE2];simp only[List.append_assoc]
     have hEL:=zIg hE3 HSL.out;have HE2:=hQd hE2;have HE3:=hQd (hQd hE3);have HEL:=hQd hEL;have HXV:=hQd hxv;have HXF:=hQd (HBF.out x hmem);obtain⟨tb,htb⟩:∃b,wr.heap.size=b:=⟨_,rfl⟩;have g1:=(H.out.allocRaw #[.int .i64 x.b.base,.int .i64 x.b.leader,.bool x.b.app,.bool x.b.txn,.bool x.b.ctl,.int .i64 x.b.last,.int .i64 x.b.first,.int .i64 x.b.maxt,.int .i64 x.b.prod,.int .i64 x.b.epoch,.int .i64 x.b.seq,.slice xq x.l.length xcap] 30);rw[htb]at g1;have y0:=g1.rawCell 0;have y1:=g1.rawCell 1;have y2:=g1.rawCell 2;have y3:=g1.rawCell 3;have y4:=g1.rawCell 4;have y5:=g1.rawCell 5;have y6:=g1.rawCell 6;have y7:=g1.rawCell 7;have y8:=g1.rawCell 8;have y9:=g1.rawCell 9;have y10:=g1.rawCell 10;have y11:=g1.rawCell 11;simp at y0 y1 y2 y3 y4 y5 y6 y7 y8 y9 y10 y11;have g2:=g1.p1;have hki:(k:Int)<(l.length:Int):=by omega
     clear H hXK hmem hx hE2 hE3 hEL g1 hxv;have H:=hQd g2;clear g2;go_wp2_with (go_at_call 51;(with_reducible refine(zOI x sb E E2 xq xcap HXV.out HXF.out HE2.out HEL.out HLIB.out HXK0.out H.out).mono ?_);rintro e_ wn ⟨rfl,h⟩;replace H:=hQd h;clear h);go_roundw
     case rel=>exact⟨k+1,E2,hk,by go_num,HE3,H.out.p1.drop⟩
     case measure=>first|(simp[intOf];done)|(simp[intOf];omega)
   · have hq1:k=l.length:=by omega
     have HE':=hQd (show E++(cutT c++chT ch)=S by have h9:=HE.out;rw[hq1,List.drop_length]at h9;exact h9);have hki:¬((k:Int)<(l.length:Int)):=by omega
     clear hq1
     by_cases hc0:c= -1
     · have e1:(c== -1)=true:=by rw[hc0];rfl
       have e2:(c != -1)=false:=by rw[hc0];rfl
       have HE2:=hQd (show E++chT ch=S by have h9:=HE'.out;rw[hc0]at h9;simpa [cutT]using h9);clear hc0
       by_cases hch:ch=[]
       · have hcl:ch.length=0:=by rw[hch];rfl
         have hcl2:(ch.length:Int)=0:=by omega
         have hcl3:¬(0:Int)<(ch.length:Int):=by omega
         have hcl4:decide ((0:Int)<(ch.length:Int))=false:=decide_eq_false hcl3;have HES:=hQd (show E=S by have h9:=HE2.out;rw[hch]at h9;simpa [chT]using h9);have HEN:=hQd (show E≠[] by rw[HES.out];exact HSN.out);clear hch hcl hcl2;go_wp2_with (go_at_call 47;(with_reducible refine(zDi sb E HEN.out H.out).mono ?_);rintro e_ wn ⟨rfl,h⟩;replace H:=hQd h;clear h);go_ret;exact⟨by rw[HES.out];rfl,H.out.drop⟩
       · have hcl:0<ch.length:=List.length_pos_iff.2 hch;have hcl2:(0:Int)<(ch.length:Int):=by omega
         have hcl3:decide ((0:Int)<(ch.length:Int))=true:=decide_eq_true hcl2;obtain⟨t5,ht5⟩:∃t,lnK ch=t:=⟨_,rfl⟩
         have h9:E++(t5++[10])=S:=by
          rw[←HE2.out,←ht5];unfold lnK chT zI0;rw[if_neg hch,List.flatMap_map];simp only[List.append_assoc]
         have h8:=congrArg List.length h9;have h7:=HSL.out;simp only[List.length_append,List.length_cons,List.length_nil]at h8
         have h6:ch.length≤t5.length:=by
          exact zq14
         have HE5:=hQd h9;have HT5:=hQd (show zAB 32 ([99,104,117,110,107,115]::ch.map numW)=t5 by rw[zA6,←ht5];rfl);have HTL5:=hQd (show t5.length≤1000000 by omega);have HEL5:=hQd (show E.length≤1000000 by omega);have HCL:=hQd (show ch.length≤1000000 by omega);have HC0:=hQd hcl;have HCN:=hQd (show 1+ch.length=([99,104,117,110,107,115]::ch.map numW:List Bs).length by rw[List.length_cons,List.length_map];omega);have HCP:=hQd (show 0<1+ch.length by omega);have HCW:=hQd (show([99,104,117,110,107,115]::ch.map numW:List Bs).length≤1000000 by rw[List.length_cons,List.length_map];omega);clear hch hcl h9 h8 h7 h6 ht5
         skip
         obtain⟨nb,hnb⟩:∃b,wr.heap.size=b:=⟨_,rfl⟩;have z9:=(H.out.alloc (.cells #[.string ⟨#[99,104,117,110,107,115]⟩] 9 (0,0))).p1.rawCell 2;simp at z9
         go_wp2_with (first
          |(go_at_call 53;have hl0:=H.out.rowLit [.string ⟨#[99,104,117,110,107,115]⟩] 9 1 1 rfl (by unfold maxLen;omega);rw[hnb]at hl0;(with_reducible refine(zDg q ch.length cap ch rfl HCL.out HCHR.out HC0.out HLIB.out HKC.out hl0).mono ?_);rintro e_ wn ⟨wb,wc,rfl,hwc,h⟩;have HWC:=hQd hwc;clear hwc;replace H:=hQd h;clear h)
          |(at_builtin;refine zBq rfl _ _ 69 rfl 9 Tryz.underlying69 zBD _ _ _ rfl H.out ⟨wb,0,none⟩ ch.length wc ((ch.map numW).flatMap zBf) rfl (by rw[zCR,List.length_map,Nat.mul_one]) (zHm (Know.has_right (Know.has_refl _)) H.out) (zEa _) (by have:=HCL.out;unfold maxLen;omega) (by have:=HCL.out;omega) ?_;intro v' w' h;obtain⟨wb2,cv2,hv⟩:=h.rowSlice (by omega);subst hv;have h:=h.know (Know.has_left (Know.has_refl _));replace H:=hQd h;clear h)
          |(go_at_call 52;(with_reducible refine(zKU sb E ([99,104,117,110,107,115]::ch.map numW) t5 wb2 (1+ch.length) cv2 _ rfl HCN.out HCP.out HCW.out HT5.out HTL5.out HEL5.out H.out).mono ?_);rintro e_ wn ⟨rfl,h⟩;rw[HE5.out]at h;replace H:=hQd h;clear h)
          |(go_at_call 47;(with_reducible refine(zDi sb S HSN.out H.out).mono ?_);rintro e_ wn ⟨rfl,h⟩;replace H:=hQd h;clear h))
         go_ret;exact⟨rfl,H.out.drop⟩
     · have e1:(c== -1)=false:=by rw[beq_eq_false_iff_ne];exact hc0
       have e2:(c != -1)=true:=by simp[bne,e1]
       obtain⟨d2,hd2⟩:∃t,numW c=t:=⟨_,rfl⟩;obtain⟨t,ht⟩:∃t,lnC c=t:=⟨_,rfl⟩;obtain⟨E1,hE1⟩:∃E1,E++(t++[10])=E1:=⟨_,rfl⟩
       have h9:E1++chT ch=S:=by
         have hcn:¬c<0:=by have:=HCM.out;omega
         rw[←HE'.out,←hE1,←ht];unfold lnC cutT;rw[if_neg hcn]
         simp
       have h8:=zIg h9 HSL.out;have h7:=congrArg List.length hE1;simp only[List.length_append,List.length_cons,List.length_nil]at h7;have HE2:=hQd h9;have HE1:=hQd hE1;have HD2:=hQd hd2;have HT:=hQd (show zAB 32 [[99,117,116],d2]=t by rw[zA6,←hd2,←ht];rfl);have HTL:=hQd (show t.length≤1000000 by omega);have HEL:=hQd (show E.length≤1000000 by omega);have HL2:=hQd (show[[99,117,116],d2].length≤1000000 by simp);clear hc0 hd2 ht hE1 h9 h8 h7
       by_cases hch:ch=[]
       · have hcl:ch.length=0:=by rw[hch];rfl
         have hcl2:(ch.length:Int)=0:=by omega
         have hcl3:¬(0:Int)<(ch.length:Int):=by omega
         have hcl4:decide ((0:Int)<(ch.length:Int))=false:=decide_eq_false hcl3;have HES:=hQd (show E1=S by have h9:=HE2.out;rw[hch]at h9;simpa [chT]using h9);have HEN:=hQd (show E1≠[] by rw[HES.out];exact HSN.out);clear hch hcl hcl2
         go_wp2_with (first
          |(go_at_call 37;(with_reducible refine(zA8 c HCR.out d2 HD2.out HLIB.out H.out).mono ?_);rintro e_ wn ⟨rfl,h⟩;replace H:=hQd h;clear h)
          |(go_at_call 52;have h0:=H.out.allocRaw #[.string ⟨#[99,117,116]⟩,.string (bb d2)] 9;(with_reducible refine(zEV sb E [[99,117,116],d2] t _ 2 _ rfl rfl HL2.out HT.out HTL.out HEL.out h0).mono ?_);rintro e_ wn ⟨rfl,h⟩;rw[HE1.out]at h;have z2:=h.p1.rawCell 2;simp at z2;replace H:=hQd h;clear h)
          |(go_at_call 47;(with_reducible refine(zDi sb E1 HEN.out H.out).mono ?_);rintro e_ wn ⟨rfl,h⟩;replace H:=hQd h;clear h))
         go_ret;exact⟨by rw[HES.out];rfl,H.out.drop⟩
       · have hcl:0<ch.length:=List.length_pos_iff.2 hch;have hcl2:(0:Int)<(ch.length:Int):=by omega
         have hcl3:decide ((0:Int)<(ch.length:Int))=true:=decide_eq_true hcl2;obtain⟨t5,ht5⟩:∃t,lnK ch=t:=⟨_,rfl⟩
         have h9:E1++(t5++[10])=S:=by
          rw[←HE2.out,←ht5];unfold lnK chT zI0;rw[if_neg hch,List.flatMap_map];simp only[List.append_assoc]
         have h8:=congrArg List.length h9;have h7:=HSL.out;simp only[List.length_append,List.length_cons,List.length_nil]at h8
         have h6:ch.length≤t5.length:=by
          exact zq14
         have HE5:=hQd h9;have HT5:=hQd (show zAB 32 ([99,104,117,110,107,115]::ch.map numW)=t5 by rw[zA6,←ht5];rfl);have HTL5:=hQd (show t5.length≤1000000 by omega);have HEL5:=hQd (show E1.length≤1000000 by omega);have HCL:=hQd (show ch.length≤1000000 by omega);have HC0:=hQd hcl;have HCN:=hQd (show 1+ch.length=([99,104,117,110,107,115]::ch.map numW:List Bs).length by rw[List.length_cons,List.length_map];omega);have HCP:=hQd (show 0<1+ch.length by omega);have HCW:=hQd (show([99,104,117,110,107,115]::ch.map numW:List Bs).length≤1000000 by rw[List.length_cons,List.length_map];omega);clear hch hcl h9 h8 h7 h6 ht5
         go_upto_region 9 with (first
          |(go_at_call 37;(with_reducible refine(zA8 c HCR.out d2 HD2.out HLIB.out H.out).mono ?_);rintro e_ wn ⟨rfl,h⟩;replace H:=hQd h;clear h)
          |(go_at_call 52;have h0:=H.out.allocRaw #[.string ⟨#[99,117,116]⟩,.string (bb d2)] 9;(with_reducible refine(zEV sb E [[99,117,116],d2] t _ 2 _ rfl rfl HL2.out HT.out HTL.out HEL.out h0).mono ?_);rintro e_ wn ⟨rfl,h⟩;rw[HE1.out]at h;have z2:=h.p1.rawCell 2;simp at z2;replace H:=hQd h;clear h))
         obtain⟨nb,hnb⟩:∃b,wn.heap.size=b:=⟨_,rfl⟩;have z9:=(H.out.alloc (.cells #[.string ⟨#[99,104,117,110,107,115]⟩] 9 (0,0))).p1.rawCell 2;simp at z9
         go_wp2_with (first
          |(go_at_call 53;have hl0:=H.out.rowLit [.string ⟨#[99,104,117,110,107,115]⟩] 9 1 1 rfl (by unfold maxLen;omega);rw[hnb]at hl0;(with_reducible refine(zDg q ch.length cap ch rfl HCL.out HCHR.out HC0.out HLIB.out HKC.out hl0).mono ?_);rintro e_ wn ⟨wb,wc,rfl,hwc,h⟩;have HWC:=hQd hwc;clear hwc;replace H:=hQd h;clear h)
          |(at_builtin;refine zBq rfl _ _ 69 rfl 9 Tryz.underlying69 zBD _ _ _ rfl H.out ⟨wb,0,none⟩ ch.length wc ((ch.map numW).flatMap zBf) rfl (by rw[zCR,List.length_map,Nat.mul_one]) (zHm (Know.has_right (Know.has_refl _)) H.out) (zEa _) (by have:=HCL.out;unfold maxLen;omega) (by have:=HCL.out;omega) ?_;intro v' w' h;obtain⟨wb2,cv2,hv⟩:=h.rowSlice (by omega);subst hv;have h:=h.know (Know.has_left (Know.has_refl _));replace H:=hQd h;clear h)
          |(go_at_call 52;(with_reducible refine(zKU sb E1 ([99,104,117,110,107,115]::ch.map numW) t5 wb2 (1+ch.length) cv2 _ rfl HCN.out HCP.out HCW.out HT5.out HTL5.out HEL5.out H.out).mono ?_);rintro e_ wn ⟨rfl,h⟩;rw[HE5.out]at h;replace H:=hQd h;clear h)
          |(go_at_call 47;(with_reducible refine(zDi sb S HSN.out H.out).mono ?_);rintro e_ wn ⟨rfl,h⟩;replace H:=hQd h;clear h))
         go_ret;exact⟨rfl,H.out.drop⟩
def okR (r:RecS):Prop:=oddB r.key=false∧oddB r.val=false∧∀z∈r.hdrs,oddB z.val=false
def okX (x:BtR):Prop:=∀y∈x.l,okR y.1
theorem zQh{l:List BtR}{c:Int}(hc: -1≤c)(h:∀x∈l,okX x):mayP l c:=⟨hc,fun x hx y hy=>h x hx y hy⟩
theorem zKh{l:List BtR}{c:Int}{x:BtR}(hx:x∈l){y:RecS×Value}(hy:y∈x.l)(hn:¬okR y.1):¬mayP l c:=fun h=>hn (h.2 x hx y hy)
theorem zHj{α:Type}{P:α→Prop}{l:List α}{k:Nat}(hk:k<l.length){x:α}(hx:l[k]=x)(h:∀y∈l.take k,P y)(hp:P x):∀y∈l.take (k+1),P y:=by
 intro y hy;rw[List.take_succ_eq_append_getElem hk,hx]at hy
 rcases List.mem_append.1 hy with hy|hy
 · exact h y hy
 · rw[List.mem_singleton.1 hy];exact hp
theorem zHi{α:Type}{P:α→Prop}{l:List α}{k:Nat}(hk:¬k<l.length)(h:∀y∈l.take k,P y):∀y∈l,P y:=by
 rw[List.take_of_length_le (by omega)]at h;exact h
theorem zBx{l:List BtR}{ch:List Int}(h:zBe l ch=true):l.length≤8∧ch.length≤200∧∀x∈l,x.l.length≤12∧∀y∈x.l,y.1.hdrs.length≤6:=by
 unfold zBe at h;simp only[Bool.and_eq_true,decide_eq_true_eq,List.all_eq_true]at h;obtain⟨h1,h2,h3⟩:=h;refine⟨h1,h2,fun x hx=> ?_⟩;have h4:=h3 x hx;unfold zAN at h4;simp only[Bool.and_eq_true,decide_eq_true_eq,List.length_map]at h4;refine⟨h4.1,fun y hy=> ?_⟩;have h5:=zCi _ h4.2 y.1 (List.mem_map.2 ⟨y,hy,rfl⟩);unfold zA5 at h5;simp only[Bool.and_eq_true,decide_eq_true_eq]at h5;exact h5.2.1
theorem zL5(l:List BtR)(c:Int)(ch:List Int)(text:Bs)(ht:l.flatMap btT++(cutT c++chT ch)=text)(hl:text.length≤900000)(hc: -1≤c)(hcr:Rn c)(hchr:∀v∈ch,Rn v)(hf:∀x∈l,zBG x){W0 w:World}{K:Know}{L:List Res}(hlib:K.has Know.lib)(h:St W0 w K L):
   Calls Tryz.prog 41 #[.string (bb text)] w fun en w'=>∃(K':Know) (l':List BtR) (q2 q:Option Addr) (b2 cap:Nat),en=.returned (.tuple #[.agg #[.slice q2 l'.length b2,.int .i64 c,.slice q ch.length cap],.int .i64 0])∧K'.has K∧K'.has (Know.btrs (.slice q2 l'.length b2) l')∧K'.has (Know.flat RInt (.slice q ch.length cap) 1 ch)∧l'.map BtR.val=l.map BtR.val∧St W0 w' K' L:=by
 have hg:=zJU l c ch text ht hc hcr hchr hf;refine(zNt text hl hlib h).mono ?_;rintro en w' (⟨_,K',l',c',ch',vB,q,cap,rfl,h1,h2,h3,h4,h5,h6,h7,h8,h9⟩|⟨bad,K',h1,h2,_⟩)
 · obtain⟨e1,e2,e3⟩:=zLw l l' c c' ch ch' text ht hc hcr hchr hf h4 h5 h6 h7 h8;subst e2 e3;obtain⟨q2,b2,hv⟩:=zHR (zB6 h2) h9;subst hv;exact⟨K',l',q2,q,b2,cap,rfl,h1,h2,h3,e1,h9⟩
 · exact absurd (h1.symm.trans hg) (by omega)
variable {W0 w:World}{K:Know}{L:List Res}
theorem zDl(nl:Bool)(d:Bs)(o:Bool)(ho:oddB ⟨nl,d⟩=o)(h:St W0 w K L):
   Calls Tryz.prog 40 #[.agg #[.bool nl,.string (bb d)]] w fun en w'=>en=.returned (.bool o)∧St W0 w' K L:=by
 subst ho;obtain⟨xb,hxb⟩:∃b,w.heap.size=b:=⟨_,rfl⟩;have g1:=h.allocRaw #[.bool nl,.string (bb d)] 51;rw[hxb]at g1;have c0:=(g1).rawCell 0;have c1:=(g1).rawCell 1;simp at c0 c1;have H:=hQd g1;clear h g1
 cases nl
 · go_enter Tryz.func40,Tryz.ntmps40;go_wp2_with fail;go_ret;exact⟨rfl,H.out.drop⟩
 · by_cases hd:d=[]
   · subst hd;go_enter Tryz.func40,Tryz.ntmps40;go_wp2_with fail;go_ret;exact⟨rfl,H.out.drop⟩
   · have t1:(d==([]:Bs))=false:=by rw[beq_eq_false_iff_ne];exact hd
     have t2:(([]:Bs)==d)=false:=by rw[beq_eq_false_iff_ne];exact fun h=>hd h.symm
     have t3:(d !=([]:Bs))=true:=by simp[bne,t1]
     have HO:=hQd (show oddB ⟨true,d⟩=true by unfold oddB;cases d with|nil=>exact absurd rfl hd|cons _ _=>rfl);clear hd;go_enter Tryz.func40,Tryz.ntmps40;go_wp2_with fail;go_ret;exact⟨by rw[HO.out];rfl,H.out.drop⟩
theorem zPY(vB:Value)(c:Int)(q:Option Addr)(cap:Nat)(ch:List Int)(l:List BtR)(hll:(l.length:Int)≤1000000)(hrl:∀x∈l,(x.l.length:Int)≤1000000)(hhl:∀x∈l,∀y∈x.l,(y.1.hdrs.length:Int)≤1000000)(hkb:K.has (Know.btrs vB l))(h:St W0 w K L):
   Calls Tryz.prog 13 #[.agg #[vB,.int .i64 c,.slice q ch.length cap]] w fun en w'=>∃b,en=.returned (.bool b)∧(b=true↔mayP l c)∧St W0 w' K L:=by
 obtain⟨qb,bcap,hvB⟩:=zHR (zB6 hkb) h;subst hvB;obtain⟨rb,hrb⟩:∃b,w.heap.size=b:=⟨_,rfl⟩;have g1:=h.allocRaw #[.slice qb l.length bcap,.int .i64 c,.slice q ch.length cap] 37;rw[hrb]at g1;have z0:=(g1).rawCell 0;have z1:=(g1).rawCell 1;have z2:=(g1).rawCell 2;simp at z0 z1 z2;have H:=hQd g1;have HKB:=hQd hkb;have HLB:=hQd hll;have HRL:=hQd hrl;have HHL0:=hQd hhl
 by_cases hc1:c< -1
 · have hc2:decide (c< -1)=true:=decide_eq_true hc1;have HNM:=hQd (show ¬mayP l c from fun h=>by have:=h.1;omega);clear h g1 hkb hll hrl hhl;go_enter Tryz.func13,Tryz.ntmps13;go_wp2_with fail;go_ret;exact⟨false,rfl,⟨fun h=>(by cases h),fun h=>absurd h HNM.out⟩,H.out.drop⟩
 have HC:=hQd (show -1≤c by omega);have hc2:decide (c< -1)=false:=decide_eq_false hc1;clear h g1 hkb hll hrl hhl;go_enter Tryz.func13,Tryz.ntmps13;go_wp2_with fail;clear z0 z1 z2;go_loopw [3] (fun iv wr=>∃(k:Nat),k≤l.length∧iv=.int .i64 k∧Hid (∀x∈l.take k,okX x)∧St W0 wr K (.raw rb #[.slice qb l.length bcap,.int .i64 c,.slice q ch.length cap] 37::L)) (fun iv _=>l.length - (intOf iv).toNat)
 case atStart=>exact⟨0,Nat.zero_le _,rfl,hQd (fun z hz=>by cases hz),H.out⟩
 case round=>
   obtain⟨k,hk',rfl,HF1,hst⟩:=hrel;clear H;have H:=hQd hst;clear hst;have z0:=(H.out).rawCell 0;have z1:=(H.out).rawCell 1;have z2:=(H.out).rawCell 2;simp at z0 z1 z2;have hkbi:(l.length:Int)≤1000000:=HLB.out
   by_cases hk:k<l.length
   · obtain⟨bk,off,hqq⟩:=zKl (zB6 HKB.out) H.out (by omega);have HKB':=HKB.out;rw[hqq]at HKB';have HKB2:=hQd HKB';have HQB:=hQd hqq;obtain⟨x,hx⟩:∃x,l[k]=x:=⟨_,rfl⟩;have hmem:x∈l:=hx ▸ List.getElem_mem hk;have HMX:=hQd hmem;have hXK0:=zDY HKB.out hmem;obtain⟨xq,xcap,hxv⟩:=zBZ hXK0 H.out;rw[hxv]at hXK0;have HXV:=hQd hxv;have HXX:=hQd hx;have HXK:=hQd hXK0;have HXB:=hQd (HRL.out x hmem);have HHL:=hQd (HHL0.out x hmem);have hki:(k:Int)<(l.length:Int):=by omega
     clear hx hmem hXK0 hxv HKB' hqq;go_wp2_with fail;clear z0 z1 z2;go_loopw [4] (fun iv wr=>∃(k3:Nat),k3≤x.l.length∧iv=.int .i64 k3∧Hid (∀y∈x.l.take k3,okR y.1)∧St W0 wr K (.raw rb #[.slice qb l.length bcap,.int .i64 c,.slice q ch.length cap] 37::L)) (fun iv _=>x.l.length - (intOf iv).toNat)
     case atStart=>exact⟨0,Nat.zero_le _,rfl,hQd (fun z hz=>by cases hz),H.out⟩
     case round=>
      obtain⟨k3,hk3',rfl,HF3,hst3⟩:=hrel;clear H;have H:=hQd hst3;clear hst3;have z0:=H.out.rawCell 0;simp at z0;rw[HQB.out]at z0;have c11:=(zGb HKB2.out H.out k hk _ HXX.out).2.2.2.2.2.2.2.2.2.2.2;rw[HXV.out]at c11;have hkb3:(x.l.length:Int)≤1000000:=HXB.out
      by_cases hk3:k3<x.l.length
      · obtain⟨eb,eo,hxq⟩:=zCE HXK.out H.out (by omega);rw[hxq]at c11;have HXK':=HXK.out;rw[hxq]at HXK';obtain⟨⟨r,vh⟩,hy⟩:∃y,x.l[k3]=y:=⟨_,rfl⟩;have hmem:(r,vh)∈x.l:=hy ▸ List.getElem_mem hk3;have HMR:=hQd hmem;have hHK0:=zBz HXK.out hmem;obtain⟨hq,hcap,hvh⟩:=zHR hHK0 H.out;simp only at hvh;subst hvh;have cc:=zBA HXK' H.out k3 hk3 _ hy;simp only[←Nat.add_assoc]at cc;obtain⟨c0,c1,c2,c3,c4,c5,c6⟩:=cc;have HHK:=hQd (show K.has (Know.flat RHdr (.slice hq r.hdrs.length hcap) 3 r.hdrs)from hHK0);have HHB:=hQd (show(r.hdrs.length:Int)≤1000000 from HHL.out _ hmem);have HY:=hQd hy;obtain⟨t9,ht9⟩:∃b,wr.heap.size=b:=⟨_,rfl⟩;have g9:=H.out.allocRaw #[.int .i64 r.time,.int .i64 r.off,.bool r.key.null,.string (bb r.key.data),.bool r.val.null,.string (bb r.val.data),.slice hq r.hdrs.length hcap] 54;rw[ht9]at g9;have hk3i:(k3:Int)<(x.l.length:Int):=by omega
        have t1:True:=trivial;have y0:=g9.rawCell 0;have y1:=g9.rawCell 1;have y2:=g9.rawCell 2;have y3:=g9.rawCell 3;have y4:=g9.rawCell 4;have y5:=g9.rawCell 5;have y6:=g9.rawCell 6;simp at y0 y1 y2 y3 y4 y5 y6;clear H hxq HXK' hy hmem hHK0;have H:=hQd g9;clear g9
        cases ho1:oddB r.key with
        |true=>
         have HO1:=hQd (show oddB ⟨r.key.null,r.key.data⟩=true from ho1);have HNM:=hQd (show ¬mayP l c from zKh HMX.out HMR.out (fun h=>by have h9:=h.1;rw[ho1]at h9;cases h9));clear ho1;go_wp2_with (go_at_call 40;have _t:=t1;clear _t;(with_reducible refine(zDl r.key.null r.key.data true HO1.out H.out).mono ?_);rintro e_ wn ⟨rfl,h⟩;have y0:=h.rawCell 0;have y1:=h.rawCell 1;have y2:=h.rawCell 2;have y3:=h.rawCell 3;have y4:=h.rawCell 4;have y5:=h.rawCell 5;have y6:=h.rawCell 6;simp at y0 y1 y2 y3 y4 y5 y6;replace H:=hQd h;clear h;clear t1);go_ret;exact⟨false,rfl,⟨fun h=>(by cases h),fun h=>absurd h HNM.out⟩,H.out.drop.drop⟩
        |false=>
         have HO1:=hQd (show oddB ⟨r.key.null,r.key.data⟩=false from ho1);clear ho1
         cases ho2:oddB r.val with
         |true=>
          have HO2:=hQd (show oddB ⟨r.val.null,r.val.data⟩=true from ho2);have HNM:=hQd (show ¬mayP l c from zKh HMX.out HMR.out (fun h=>by have h9:=h.2.1;rw[ho2]at h9;cases h9));clear ho2
          go_wp2_with (first
        |(go_at_call 40;have _t:=t1;clear _t;(with_reducible refine(zDl r.key.null r.key.data false HO1.out H.out).mono ?_);rintro e_ wn ⟨rfl,h⟩;have y0:=h.rawCell 0;have y1:=h.rawCell 1;have y2:=h.rawCell 2;have y3:=h.rawCell 3;have y4:=h.rawCell 4;have y5:=h.rawCell 5;have y6:=h.rawCell 6;simp at y0 y1 y2 y3 y4 y5 y6;replace H:=hQd h;clear h;clear t1)
        |(go_at_call 40;(with_reducible refine(zDl r.val.null r.val.data true HO2.out H.out).mono ?_);rintro e_ wn ⟨rfl,h⟩;replace H:=hQd h;clear h))
          go_ret;exact⟨false,rfl,⟨fun h=>(by cases h),fun h=>absurd h HNM.out⟩,H.out.drop.drop⟩
         |false=>
          have HO2:=hQd (show oddB ⟨r.val.null,r.val.data⟩=false from ho2);clear ho2
          go_wp2_with (first
        |(go_at_call 40;have _t:=t1;clear _t;(with_reducible refine(zDl r.key.null r.key.data false HO1.out H.out).mono ?_);rintro e_ wn ⟨rfl,h⟩;have y0:=h.rawCell 0;have y1:=h.rawCell 1;have y2:=h.rawCell 2;have y3:=h.rawCell 3;have y4:=h.rawCell 4;have y5:=h.rawCell 5;have y6:=h.rawCell 6;simp at y0 y1 y2 y3 y4 y5 y6;replace H:=hQd h;clear h;clear t1)
        |(go_at_call 40;(with_reducible refine(zDl r.val.null r.val.data false HO2.out H.out).mono ?_);rintro e_ wn ⟨rfl,h⟩;replace H:=hQd h;clear h))
          clear y0 y1 y2 y3 y4 y5 y6 c0 c1 c2 c3 c4 c5 c6 c11 z0;go_loopw [6] (fun iv wr=>∃(k4:Nat),k4≤r.hdrs.length∧iv=.int .i64 k4∧Hid (∀z∈r.hdrs.take k4,oddB z.val=false)∧St W0 wr K (.raw t9 #[.int .i64 r.time,.int .i64 r.off,.bool r.key.null,.string (bb r.key.data),.bool r.val.null,.string (bb r.val.data),.slice hq r.hdrs.length hcap] 54::.raw rb #[.slice qb l.length bcap,.int .i64 c,.slice q ch.length cap] 37::L)) (fun iv _=>r.hdrs.length - (intOf iv).toNat)
          case atStart=>exact⟨0,Nat.zero_le _,rfl,hQd (fun z hz=>by cases hz),H.out⟩
          case round=>
           obtain⟨k4,hk4',rfl,HF4,hst4⟩:=hrel;clear H;have H:=hQd hst4;clear hst4;have z6:=H.out.rawCell 6;simp at z6;have hkb4:(r.hdrs.length:Int)≤1000000:=HHB.out
           by_cases hk4:k4<r.hdrs.length
           · obtain⟨hb,ho,hhq⟩:=zKl HHK.out H.out (by omega);rw[hhq]at z6;have HHK':=HHK.out;rw[hhq]at HHK';obtain⟨z,hz⟩:∃z,r.hdrs[k4]=z:=⟨_,rfl⟩;obtain⟨c0,c1,c2⟩:=zIA HHK' H.out k4 hk4 z hz;have hzm:z∈r.hdrs:=hz ▸ List.getElem_mem hk4;have hk4i:(k4:Int)<(r.hdrs.length:Int):=by omega
             cases hod:oddB z.val with
             |true=>
              have HOD:=hQd (show oddB ⟨z.val.null,z.val.data⟩=true from hod);have HNM:=hQd (show ¬mayP l c from zKh HMX.out HMR.out (fun h=>by have h9:=h.2.2 z hzm;rw[hod]at h9;cases h9));clear hhq HHK' hz hod hzm;go_wp2_with (go_at_call 40;(with_reducible refine(zDl z.val.null z.val.data true HOD.out H.out).mono ?_);rintro e_ wn ⟨rfl,h⟩;replace H:=hQd h;clear h);go_ret;exact⟨false,rfl,⟨fun h=>(by cases h),fun h=>absurd h HNM.out⟩,H.out.drop.drop⟩
             |false=>
              have HOD:=hQd (show oddB ⟨z.val.null,z.val.data⟩=false from hod);have HF5:=hQd (zHj (P:=fun z:HdrS=>oddB z.val=false) hk4 hz HF4.out hod);clear hhq HHK' hz hod hzm;go_wp2_with (go_at_call 40;(with_reducible refine(zDl z.val.null z.val.data false HOD.out H.out).mono ?_);rintro e_ wn ⟨rfl,h⟩;replace H:=hQd h;clear h);go_roundw
              case rel=>exact⟨k4+1,hk4,by go_num,HF5,H.out⟩
              case measure=>first|(simp[intOf];done)|(simp[intOf];omega)
           · have hk4i:¬((k4:Int)<(r.hdrs.length:Int)):=by omega
             have HF5:=hQd (zHj (P:=fun y:RecS×Value=>okR y.1) hk3 HY.out HF3.out ⟨HO1.out,HO2.out,zHi (P:=fun z:HdrS=>oddB z.val=false) hk4 HF4.out⟩);go_wp2_with fail;go_roundw
             case rel=>exact⟨k3+1,hk3,by go_num,HF5,H.out.drop⟩
             case measure=>first|(simp[intOf];done)|(simp[intOf];omega)
      · have hk3i:¬((k3:Int)<(x.l.length:Int)):=by omega
        have HF5:=hQd (zHj (P:=okX) hk HXX.out HF1.out (zHi (P:=fun y:RecS×Value=>okR y.1) hk3 HF3.out));go_wp2_with fail;go_roundw
        case rel=>exact⟨k+1,hk,by go_num,HF5,H.out⟩
        case measure=>first|(simp[intOf];done)|(simp[intOf];omega)
   · have hki:¬((k:Int)<(l.length:Int)):=by omega
     have HM:=hQd (zQh HC.out (zHi (P:=okX) hk HF1.out));go_wp2_with fail;go_ret;exact .inr ⟨rfl,HM.out,H.out.drop⟩
theorem zM7(b:Bool)(vB:Value)(c:Int)(q:Option Addr)(cap:Nat)(ch:List Int)(l:List BtR)(hb:b=true↔mayP l c)(hll:(l.length:Int)≤1000000)(hrl:∀x∈l,(x.l.length:Int)≤1000000)(hhl:∀x∈l,∀y∈x.l,(y.1.hdrs.length:Int)≤1000000)(hkb:K.has (Know.btrs vB l))(h:St W0 w K L):
  Calls Tryz.prog 13 #[.agg #[vB,.int .i64 c,.slice q ch.length cap]] w fun en w'=>en=.returned (.bool b)∧St W0 w' K L:=by
 refine(zPY vB c q cap ch l hll hrl hhl hkb h).mono ?_;rintro en w' ⟨b',rfl,hb',h⟩
 have e:b'=b:=by
  cases b<;>cases b'<;>first|rfl|exact absurd (hb.2 (hb'.1 rfl)) (by decide)|exact absurd (hb'.2 (hb.1 rfl)) (by decide)
 subst e;exact⟨rfl,h⟩
theorem zJZ(vB:Value)(c:Int)(q:Option Addr)(cap:Nat)(ch:List Int)(l:List BtR)(hb:mayP l c)(hll:(l.length:Int)≤1000000)(hrl:∀x∈l,(x.l.length:Int)≤1000000)(hhl:∀x∈l,∀y∈x.l,(y.1.hdrs.length:Int)≤1000000)(hkb:K.has (Know.btrs vB l))(h:St W0 w K L):
 Calls Tryz.prog 13 #[.agg #[vB,.int .i64 c,.slice q ch.length cap]] w fun en w'=>en=.returned (.bool true)∧St W0 w' K L:=zM7 true vB c q cap ch l ⟨fun _=>hb,fun _=>rfl⟩ hll hrl hhl hkb h
theorem zPZ(vB:Value)(c:Int)(q:Option Addr)(cap:Nat)(ch:List Int)(l:List BtR)(hb:¬mayP l c)(hll:(l.length:Int)≤1000000)(hrl:∀x∈l,(x.l.length:Int)≤1000000)(hhl:∀x∈l,∀y∈x.l,(y.1.hdrs.length:Int)≤1000000)(hkb:K.has (Know.btrs vB l))(h:St W0 w K L):
 Calls Tryz.prog 13 #[.agg #[vB,.int .i64 c,.slice q ch.length cap]] w fun en w'=>en=.returned (.bool false)∧St W0 w' K L:=zM7 false vB c q cap ch l ⟨fun h=>(by cases h),fun h=>absurd h hb⟩ hll hrl hhl hkb h
end Go.Proofs.YtenojajfacacoaaGreatDoor
