/- Frames that come in chunks. -/
import Derived.Test.YteldcbljedeeiaaGreatDoorGWholeFramesCard4
import Derived.Test.YteldcbljedeeiaaGreatDoorGWholeFramesCard17
import Derived.RegionTactic
import Derived.Deep.RegionHeld3
import Derived.Deep.DeepCutAuto
import Derived.WalkMore
import Derived.Test.YteldcbljedeeiaaGreatDoorGWholeFramesCard5
import Derived.Test.YteldcbljedeeiaaGreatDoorGWholeFramesCard14
import Derived.Test.YteldcbljedeeiaaGreatDoorCards
import Derived.Test.YteldcbljedeeiaaGreatDoorGWholeFramesCard1
import Derived.OpenShut
import Derived.MakeChecks
import Derived.LaidMore
import Derived.Test.YteldcbljedeeiaaGreatDoorTie
import Derived.Deep.DeepHandedRow
import Derived.SevenTiedAt
/- A text. -/
namespace Go.Proofs.YteldcbljedeeiaaGreatDoor
open Go.RowKit
set_option maxRecDepth 100000
set_option maxHeartbeats 8000000
open Go.Value renaming bool→U, string→Z, slice→V, int→I, pointer→Ja
open Go.Ending renaming returned→Y
open Go.IntKind renaming i64→O
open _root_.Go.Proofs.Tryz renaming prog→Jb
open _root_.Nat renaming zero_le→Jd, add_assoc→Jm
open _root_.List renaming take_succ_eq_append_getElem→Jf, length_cons→Jn, length_append→Jc, append_nil→Jp, length_drop→Jh, drop_drop→Jk, append_assoc→Je, flatMap_cons→Jg, getElem_mem→Ji, length_map→Jj, take→Jl, drop→Jo
set_option maxHeartbeats 8000000
set_option maxRecDepth 100000
theorem zQm(s0:Bs)(ns:List Int)(hs0:s0.length≤9000000)(hns:∀x∈ns,0≤x∧x<256)(hnl:ns.length≤1000)(q:Option Addr)(cap:Nat){W0 w:World}{K:Know}{L:List Res}(hk:K.has (Know.flat RU8 (V q ns.length cap) 1 ns))(h:St W0 w K L):
 Calls Jb 28 #[Z (bb s0),V q ns.length cap] w fun en w'=>∃(q2:Option Addr) (cap2:Nat),en=Y (V q2 (cutS s0 ns).length cap2)∧St W0 w' (K.and (Know.strs (V q2 (cutS s0 ns).length cap2) (cutS s0 ns))) L:=by
 have H:=hQd h;have HK:=hQd hk;have HNS:=hQd hns;have HNL:=hQd hnl;have HS0:=hQd hs0;have hni:(ns.length:Int)≤1000:=by omega
 clear h hk hns hs0 hnl;go_enter Tryz.func28,Tryz.ntmps28;go_wp2;go_loopw [0,5,7,8,11] (fun sv ov _ _ iv wr=>∃(k:Nat) (acc:List Bs) (s:Bs),k≤ns.length∧iv=I O k∧sv=Z (bb s)∧Hid (acc.length=k)∧Hid (acc++cutS s (ns.drop k)=cutS s0 ns)∧Hid (s.length≤s0.length)∧St W0 wr K (.row ov 9 1 acc.length (acc.flatMap zN8)::L)) (fun _ _ _ _ iv _=>ns.length - (intOf iv).toNat)
 case atStart=>exact⟨0,[],s0,Jd _,rfl,rfl,hQd rfl,hQd (by rw[List.drop_zero];rfl),hQd (Nat.le_refl _),H.out.nilRow 9 1⟩
 case round=>
  obtain⟨k,acc,s,hkl,rfl,rfl,HAL,HEQ,HSL,hst⟩:=hrel;clear H;have H:=hQd hst;clear hst;have HAB:=hQd (show acc.length≤1000 by have:=HAL.out;have:=HNL.out;omega);have hsl:(s.length:Int)≤9000000:=by have:=HSL.out;have:=HS0.out;omega
  by_cases hlt:k<ns.length
  ·obtain⟨b0,off,hqq⟩:=zR9 HK.out H.out oM;subst hqq;obtain⟨x,hx⟩:=eX (ns[k]);have c0:=zSR HK.out H.out k hlt x hx;obtain⟨hx0,hx1⟩:=HNS.out x (hx ▸ Ji hlt);have hkn:(k:Int)<(ns.length:Int):=by omega
   have HNX:=hQd (show(acc++[s.take x.toNat])++cutS (s.drop x.toNat) (ns.drop (k+1))=cutS s0 ns by
    rw[←HEQ.out,List.drop_eq_getElem_cons hlt,hx,cutS,Je];rfl)
   have HSD:=hQd (show(s.drop x.toNat).length≤s0.length by rw[Jh];have:=HSL.out;omega);have hwx:IntKind.i64.wrap x=x:=by rw[IntKind.wrap_i64];omega
   by_cases hxs:x≤(s.length:Int)
   ·have hxn:x.toNat≤s.length:=by omega
    have hxt:((x.toNat:Nat):Int)=x:=by omega
    have HDR:=hQd (show Jl (s.length - x.toNat) (s.drop x.toNat)=s.drop x.toNat from List.take_of_length_le (by rw[Jh];exact Nat.le_refl _));clear hx;go_wp2_with fail;have hs:=H.out.drew;refine wp_region_held_drew (S:=fun _=>True) kR trivial (fun hHeld=> ?_);refine tR 0 ?_;refine tR 1 ?_;refine tR 2 ?_;refine tR 3 ?_;refine tR 6 ?_;refine tR 7 ?_;refine tR 8 ?_;refine wR [4] (rC rfl (fun KK hK=> ?_) rN);rw[if_pos (by rfl)];refine zBt (zGT _ _ _ _ kR (zLo (bb (s.take x.toNat)) _)) ?_;obtain⟨wy,bS,ey,eb,hs⟩:=hs.allocEx #[Z (bb (s.take x.toNat))] 9;rw[ey,eb];clear ey eb;refine zK hK (trivial) (fun hHeld=> ?_);clear hK KK
    refine wR [5] (rC rfl (fun KK hK=> ?_) rN);rw[if_pos (by rfl)];refine zGF (.tmp 20) (.tmp 24) 75 rfl 9 Tryz.underlying75 zG2 _ _ _ (by rfl) bS #[Z (bb (s.take x.toNat))] 9 hs (by rfl) rfl (by simp[Value.oneCell']) zq35 (by have:=HAB.out;omega) (fun v' w' h=> ?_);have hs:=h;clear h;refine zK hK (trivial) (fun hHeld=> ?_);clear hK KK
    refine tR 9 ?_;refine tR 10 ?_;refine wpAnyH_done kR ?_ _;clear hHeld;go_wp2_with fail;go_roundw
    case rel=>exact⟨k+1,acc++[s.take x.toNat],s.drop x.toNat,hlt,by go_num,by first|rfl|(rw[HDR.out])|(simp only[HDR.out]),hQd zq44,hQd HNX.out,hQd HSD.out,by rw[Jc,List.flatMap_append];exact hs⟩
    case measure=>first|(simp[intOf];done)|(simp[intOf];omega)
   ·have hxn:s.length≤x.toNat:=by omega
    have HTK:=hQd (show s.take x.toNat=s from List.take_of_length_le hxn);have HDR:=hQd (show s.drop x.toNat=[]from List.drop_of_length_le hxn);clear hx;rw[HTK.out,HDR.out]at HNX;rw[HDR.out]at HSD;go_wp2_with fail;have hs:=H.out.drew;refine wp_region_held_drew (S:=fun _=>True) kR trivial (fun hHeld=> ?_);refine tR 0 ?_;refine tR 1 ?_;refine tR 2 ?_;refine tR 3 ?_;refine tR 6 ?_;refine tR 7 ?_;refine tR 8 ?_;refine wR [4] (rC rfl (fun KK hK=> ?_) rN);rw[if_pos (by rfl)];refine zBt (zGT _ _ _ _ kR (zLo (bb (s)) _)) ?_;obtain⟨wy,bS,ey,eb,hs⟩:=hs.allocEx #[Z (bb (s))] 9;rw[ey,eb];clear ey eb;refine zK hK (trivial) (fun hHeld=> ?_);clear hK KK
    refine wR [5] (rC rfl (fun KK hK=> ?_) rN);rw[if_pos (by rfl)];refine zGF (.tmp 20) (.tmp 24) 75 rfl 9 Tryz.underlying75 zG2 _ _ _ (by rfl) bS #[Z (bb (s))] 9 hs (by rfl) rfl (by simp[Value.oneCell']) zq35 (by have:=HAB.out;omega) (fun v' w' h=> ?_);have hs:=h;clear h;refine zK hK (trivial) (fun hHeld=> ?_);clear hK KK
    refine tR 9 ?_;refine tR 10 ?_;refine wpAnyH_done kR ?_ _;clear hHeld;go_wp2_with fail;go_roundw
    case rel=>exact⟨k+1,acc++[s],[],hlt,by go_num,by first|rfl|simp,hQd zq44,hQd HNX.out,hQd HSD.out,by rw[Jc,List.flatMap_append];exact hs⟩
    case measure=>first|(simp[intOf];done)|(simp[intOf];omega)
  ·obtain rfl:k=ns.length:=by omega
   have HEND:=hQd (show acc++[s]=cutS s0 ns by have:=HEQ.out;rw[List.drop_length]at this;exact this);go_wp2_with (at_builtin;refine zAz rfl _ _ 75 rfl 9 Tryz.underlying75 zG2 _ _ _ rfl H.out [Z (bb s)] 9 rfl rfl (by simp[Value.oneCell']) zq35 (by have:=HAB.out;omega) ?_;intro v' w' h;replace H:=hQd h;clear h);have h3:=H.out;rw[show acc.length+1=(acc++[s]).length by rw[Jc];rfl,show acc.flatMap zN8++[Value.string (bb s)]=(acc++[s]).flatMap zN8 by rw[List.flatMap_append];rfl]at h3;obtain⟨q2,cap2,hv⟩:=h3.rowAny;subst hv;have h4:=h3.freezeTexts;rw[HEND.out]at h4;go_ret;exact⟨q2,cap2,by rw[←HEND.out,Jc];rfl,h4⟩
variable {W0 w:World}{K:Know}{L:List Res}
theorem FrR.ok2{x:FrR}(he:x.err=0):zAq x.hd=0∧x.bE=0:=by
 have hh:zAq x.hd=0:=by
  by_cases hh:zAq x.hd=0
  ·exact hh
  ·unfold FrR.err at he;rw[if_pos hh]at he;exact absurd he hh
 exact⟨hh,by unfold FrR.err at he;rw[if_neg (by simp[hh])]at he;exact he⟩
theorem zMF{x y:FrR}(hx:zAq x.hd=0)(hy:zAq y.hd=0)(h:x.inner=y.inner):x.hd=y.hd∧x.body=y.body:=by
 have a:=zFf x.hd hx x.body;have b:=zFf y.hd hy y.body;have e1:zAl x.hd++x.body=x.inner:=rfl;have e2:zAl y.hd++y.body=y.inner:=rfl;rw[e1,h]at a;rw[e2]at b;rw[a]at b;obtain⟨e,_⟩:=Prod.mk.inj b;refine⟨e,?_⟩;have h2:zAl x.hd++x.body=zAl y.hd++y.body:=h;rw[e]at h2;exact List.append_cancel_left h2
theorem zKe{x y:FrR}(ax:x.Arg)(fx:x.Few)(ex:x.err=0)(ay:y.Arg)(fy:y.Few)(ey:y.err=0)(h:x.inner=y.inner):x.sem=y.sem:=by
 obtain⟨hx,bx⟩:=FrR.ok2 ex;obtain⟨hy,by_⟩:=FrR.ok2 ey;obtain⟨hd,hb⟩:=zMF hx hy h;have hv0:=(zBe _ hx).2.1;have hv:=zBG _ _ hv0;have mx:=FrR.mfit ax fx;have my:=FrR.mfit ay fy;have tx:=FrR.mFitTs ax fx;have ty:=FrR.mFitTs ay fy;obtain⟨k,v,num,u,cs,bn,bd,bt,bp,be,ad,ap,ae,aq,al,acap,ed,ep,ee,ec,mq,ml,mcap,pn,pd,pa,pt,pq,pl,pcap⟩:=x;obtain⟨k',v',num',u',cs',bn',bd',bt',bp',be',ad',ap',ae',aq',al',acap',ed',ep',ee',ec',mq',ml',mcap',pn',pd',pa',pt',pq',pl',pcap'⟩:=y;have hd:(⟨k,v,num,⟨u,cs⟩⟩:HeadS)=⟨k',v',num',⟨u',cs'⟩⟩:=hd;simp only[HeadS.mk.injEq,BlobS.mk.injEq]at hd;obtain⟨rfl,rfl,rfl,rfl,rfl⟩:=hd;simp only at mx my tx ty;have hv0:zAy k v=0:=hv0;have hv:k=0∨(k=22∧v=0)∨(k=22∧v=1)∨(k=24∧v=0)∨(k=26∧v=0)∨k=27:=hv;clear hx hy h ex ey
 rcases hv with rfl|⟨rfl,rfl⟩|⟨rfl,rfl⟩|⟨rfl,rfl⟩|⟨rfl,rfl⟩|rfl
 ·have bX:zA9 ⟨pn,pd⟩ pa pt v pl=0:=bx;have bY:zA9 ⟨pn',pd'⟩ pa' pt' v pl'=0:=by_;have hB:zAR pn pd pa pt pl=zAR pn' pd' pa' pt' pl':=hb;have G:=GoodReq.of bX ax.pf fx.ps fx.pz;have G':=GoodReq.of bY ay.pf fy.ps fy.pz;have q1:=zH1 pn pd pa pt pl G.right G.id (by have:=G.hac;omega) (by have:=G.htm;omega) G.few G.bk;have q2:=zH1 pn' pd' pa' pt' pl' G'.right G'.id (by have:=G'.hac;omega) (by have:=G'.htm;omega) G'.few G'.bk;rw[hB,q2]at q1;simp only[Except.ok.injEq,Prod.mk.injEq,BlobS.mk.injEq]at q1;obtain⟨⟨⟨e1,e2⟩,e3,e4,e5⟩,_⟩:=q1;unfold FrR.sem;simp[e1,e2,e3,e4,e5]
 ·have bX:begE 0 bn bd bt bp be=0:=bx;have bY:begE 0 bn' bd' bt' bp' be'=0:=by_;have hB:encF 2 ⟨bn,bd⟩++zAa bt 4=encF 2 ⟨bn',bd'⟩++zAa bt' 4:=hb;obtain⟨g1,g2,g3⟩:=zCs bX;obtain⟨g1',g2',g3'⟩:=zCs bY;obtain⟨rfl,rfl⟩:=zSQ g3;obtain⟨rfl,rfl⟩:=zSQ g3';obtain⟨i1,h1,h2⟩:=zTy _ [] bn bd bt g1 g2 rfl;obtain⟨i1',h1',h2'⟩:=zTy _ [] bn' bd' bt' g1' g2' rfl;rw[hB,h1']at h1;obtain⟨e1,rfl⟩:=Prod.mk.inj h1;obtain⟨rfl,rfl⟩:=BlobS.mk.inj e1;rw[h2']at h2;obtain⟨rfl,_⟩:=Prod.mk.inj h2
  rfl
 ·have bX:begE 1 bn bd bt bp be=0:=bx;have bY:begE 1 bn' bd' bt' bp' be'=0:=by_;have hB:encF 2 ⟨bn,bd⟩++zAa bt 4++zAa bp 8++zAa be 2=encF 2 ⟨bn',bd'⟩++zAa bt' 4++zAa bp' 8++zAa be' 2:=hb;obtain⟨g1,g2,g3⟩:=zCs bX;obtain⟨g1',g2',g3'⟩:=zCs bY;have g4:=zDS g3;have g4':=zDS g3';obtain⟨i1,i2,i3,h1,h2,h3,h4⟩:=zRd _ [] bn bd bt bp be g1 g2 ⟨g4.1,ax.bp.2⟩ g4.2 rfl;obtain⟨i1',i2',i3',h1',h2',h3',h4'⟩:=zRd _ [] bn' bd' bt' bp' be' g1' g2' ⟨g4'.1,ay.bp.2⟩ g4'.2 rfl;rw[hB,h1']at h1;obtain⟨e1,rfl⟩:=Prod.mk.inj h1;obtain⟨rfl,rfl⟩:=BlobS.mk.inj e1;rw[h2']at h2;obtain⟨rfl,rfl⟩:=Prod.mk.inj h2;rw[h3']at h3;obtain⟨rfl,rfl⟩:=Prod.mk.inj h3;rw[h4']at h4;obtain⟨rfl,_⟩:=Prod.mk.inj h4
  rfl
 ·have bX:addE ad ap ae (al.map (·.1))=0:=bx;have bY:addE ad' ap' ae' (al'.map (·.1))=0:=by_;have hB:encF 2 ⟨false,ad⟩++zAa ap 8++zAa ae 2++zA3 (al.map (·.1))=encF 2 ⟨false,ad'⟩++zAa ap' 8++zAa ae' 2++zA3 (al'.map (·.1)):=hb;have t2:=(zEe fx.al bX).2;have t2':=(zEe fy.al bY).2;have w1:=zDR (zCq (zFr bX).1).2;have w1':=zDR (zCq (zFr bY).1).2;have d1:ad.length≤1000:=fx.ad;have d1':ad'.length≤1000:=fy.ad;have q1:=zTx (encF 2 ⟨false,ad⟩++zAa ap 8++zAa ae 2++zA3 (al.map (·.1))) [] ad ap ae (al.map (·.1)) oM ⟨w1.1,ax.ap.2⟩ w1.2 t2;obtain⟨i1,i2,i3,h1,h2,h3,h4⟩:=q1 rfl;have q1':=zTx (encF 2 ⟨false,ad'⟩++zAa ap' 8++zAa ae' 2++zA3 (al'.map (·.1))) [] ad' ap' ae' (al'.map (·.1)) oM ⟨w1'.1,ay.ap.2⟩ w1'.2 t2';obtain⟨i1',i2',i3',h1',h2',h3',h4'⟩:=q1' rfl;rw[hB,h1']at h1;obtain⟨rfl,rfl⟩:=Prod.mk.inj h1;rw[h2']at h2;obtain⟨rfl,rfl⟩:=Prod.mk.inj h2;rw[h3']at h3;obtain⟨rfl,rfl⟩:=Prod.mk.inj h3;rw[h4']at h4;obtain⟨e4,_⟩:=Prod.mk.inj h4;unfold FrR.sem;simp[e4]
 ·have bX:chkW ed ep ee=0:=bx;have bY:chkW ed' ep' ee'=0:=by_;have hB:encF 2 ⟨false,ed⟩++zAa ep 8++zAa ee 2++encO ec=encF 2 ⟨false,ed'⟩++zAa ep' 8++zAa ee' 2++encO ec':=hb;have w1:=zDR (zCq bX).2;have w1':=zDR (zCq bY).2;have d1:ed.length≤1000:=fx.ed;have d1':ed'.length≤1000:=fy.ed;obtain⟨i1,i2,i3,h1,h2,h3,h4⟩:=zTw _ [] ed ep ee ec oM ⟨w1.1,ax.ep.2⟩ w1.2 rfl;obtain⟨i1',i2',i3',h1',h2',h3',h4'⟩:=zTw _ [] ed' ep' ee' ec' oM ⟨w1'.1,ay.ep.2⟩ w1'.2 rfl;rw[hB,h1']at h1;obtain⟨rfl,rfl⟩:=Prod.mk.inj h1;rw[h2']at h2;obtain⟨rfl,rfl⟩:=Prod.mk.inj h2;rw[h3']at h3;obtain⟨rfl,rfl⟩:=Prod.mk.inj h3;rw[h4']at h4;obtain⟨rfl,_⟩:=Prod.mk.inj h4
  rfl
 ·have bX:zAE v (ml.map MarkR.m)=0:=bx;have bY:zAE v (ml'.map MarkR.m)=0:=by_;have hB:zEz v (ml.map MarkR.m)=zEz v (ml'.map MarkR.m):=hb;have n1:ml.length≤20:=fx.n20;have n2:ml'.length≤20:=fy.n20
  have q1:=(zGH (zEz v (ml.map MarkR.m)) [] v (ml.map MarkR.m) (zPd hv0) bX (fun m hm=>by
   obtain⟨z,hz,rfl⟩:=List.mem_map.1 hm
   exact⟨(mx z hz).2.2,(tx bX z hz).1⟩) (by rw[Jj];omega) rfl).2
  have q2:=(zGH (zEz v (ml'.map MarkR.m)) [] v (ml'.map MarkR.m) (zPd hv0) bY (fun m hm=>by
   obtain⟨z,hz,rfl⟩:=List.mem_map.1 hm
   exact⟨(my z hz).2.2,(ty bY z hz).1⟩) (by rw[Jj];omega) rfl).2
  rw[hB,q2]at q1;obtain⟨e,_⟩:=Prod.mk.inj q1;unfold FrR.sem;simp[e]
theorem zKU{x y:FrR}(ex:x.err=0)(h:x.sem=y.sem):x.inner=y.inner:=by
 obtain⟨hx,_⟩:=FrR.ok2 ex;have hv:=zBG _ _ (zBe _ hx).2.1;obtain⟨k,v,num,u,cs,bn,bd,bt,bp,be,ad,ap,ae,aq,al,acap,ed,ep,ee,ec,mq,ml,mcap,pn,pd,pa,pt,pq,pl,pcap⟩:=x;obtain⟨k',v',num',u',cs',bn',bd',bt',bp',be',ad',ap',ae',aq',al',acap',ed',ep',ee',ec',mq',ml',mcap',pn',pd',pa',pt',pq',pl',pcap'⟩:=y;have hv:k=0∨(k=22∧v=0)∨(k=22∧v=1)∨(k=24∧v=0)∨(k=26∧v=0)∨k=27:=hv;unfold FrR.sem at h;simp only[Prod.mk.injEq]at h;obtain⟨⟨rfl,rfl,rfl,rfl,rfl⟩,h1,h2,h3⟩:=h;clear hx ex
 rcases hv with rfl|⟨rfl,rfl⟩|⟨rfl,rfl⟩|⟨rfl,rfl⟩|⟨rfl,rfl⟩|rfl
 ·simp at h3;obtain⟨rfl,rfl,rfl,rfl,e⟩:=h3;have e2:=zOQ pn pd pa pt e
  show zAl _++zAR pn pd pa pt pl=zAl _++zAR pn pd pa pt pl'
  rw[e2]
  rfl
 ·simp at h1;obtain⟨rfl,rfl,rfl,rfl,rfl⟩:=h1
  rfl
 ·simp at h1;obtain⟨rfl,rfl,rfl,rfl,rfl⟩:=h1
  rfl
 ·simp at h1;obtain⟨rfl,rfl,rfl,e⟩:=h1
  show zAl _++(encF 2 ⟨false,ad⟩++zAa ap 8++zAa ae 2++zA3 (al.map (·.1)))=zAl _++(encF 2 ⟨false,ad⟩++zAa ap 8++zAa ae 2++zA3 (al'.map (·.1)))
  rw[e]
  rfl
 ·simp at h1;obtain⟨rfl,rfl,rfl,rfl⟩:=h1
  rfl
 ·simp at h2
  show zAl _++zEz v (ml.map MarkR.m)=zAl _++zEz v (ml'.map MarkR.m)
  rw[h2]
  rfl
theorem zPo{x y:FrR}(ax:x.Arg)(fx:x.Few)(ex:x.err=0)(ay:y.Arg)(fy:y.Few)(ey:y.err=0)(n:Nat)(hn:n=min x.enc.length y.enc.length):x.enc.take n=y.enc.take n↔x.sem=y.sem:=by
 constructor
 ·intro h;have lx:=x.enc_len;have ly:=y.enc_len;have bx:=FrR.inner_len ax fx (FrR.ok2 ex).1 (FrR.ok2 ex).2;have by_:=FrR.inner_len ay fy (FrR.ok2 ey).1 (FrR.ok2 ey).2;have h4:=congrArg (Jl 4) h;rw[List.take_take,List.take_take,Nat.min_eq_left oM]at h4;have tx:x.enc.take 4=zAa (x.inner.length:Int) 4:=List.take_left' (zAb _ _);have ty:y.enc.take 4=zAa (y.inner.length:Int) 4:=List.take_left' (zAb _ _);rw[tx,ty]at h4;obtain⟨i1,h1⟩:=zJg (s:=zAa (x.inner.length:Int) 4) rfl oM;obtain⟨i2,h2⟩:=zJg (s:=zAa (y.inner.length:Int) 4) rfl oM;rw[h4,h2]at h1;have e:(y.inner.length:Int)=(x.inner.length:Int):=(Prod.mk.inj h1).1;have e2:x.enc.length=n:=by omega
  have e3:y.enc.length=n:=by omega
  rw[←e2,List.take_length,e2,←e3,List.take_length]at h;unfold FrR.enc at h;rw[e]at h;exact zKe ax fx ex ay fy ey (List.append_cancel_left h)
 ·intro h;have e:=zKU ex h;have e2:x.enc=y.enc:=by unfold FrR.enc;rw[e]
  rw[e2]
theorem zQo{x:FrR}(he:x.err=0):x.k=0∨x.k=22∨x.k=24∨x.k=26∨x.k=27:=by
 rcases zBG _ _ (zBe _ (FrR.ok2 he).1).2.1 with h|⟨h,_⟩|⟨h,_⟩|⟨h,_⟩|⟨h,_⟩|h
 ·exact .inl h
 ·exact .inr (.inl h)
 ·exact .inr (.inl h)
 ·exact .inr (.inr (.inl h))
 ·exact .inr (.inr (.inr (.inl h)))
 ·exact .inr (.inr (.inr (.inr h)))
theorem zNy{x y:FrR}(h:y.sem=x.sem)(hk:x.k=0∨x.k=22∨x.k=24∨x.k=26∨x.k=27):y.k=0∨y.k=22∨y.k=24∨y.k=26∨y.k=27:=by
 have e:y.k=x.k:=congrArg (fun s:FrS=>s.1.1) h;rw[e];exact hk
theorem zRr{q:Option Addr}{n cap:Nat}{l:List Bs}(hk:K.has (Know.strs (V q n cap) l))(h:St W0 w K L)(h0:0<l.length):∃b off,q=some ⟨b,off,none⟩:=by
 obtain⟨F,hF,_⟩:=h.get;obtain⟨q2,cap2,hv,hr⟩:=strRows.at (hk _ _ hF);obtain⟨b,off,hq,_⟩:=hr h0;simp at hv;exact⟨b,off,hv.1.trans hq⟩
theorem zN4{b off n cap:Nat}{l:List Bs}(hk:K.has (Know.strs (V (some ⟨b,off,none⟩) n cap) l))(h:St W0 w K L)(i:Nat)(hi:i<l.length)(x:Bs)(hx:l[i]=x):
 w.cell? ⟨b,off+i,none⟩=some (Z (bb x)):=by
 subst hx;obtain⟨F,hF,_⟩:=h.get;obtain⟨q2,cap2,hv,hr⟩:=strRows.at (hk _ _ hF);obtain⟨b2,off2,hq,hc⟩:=hr oM;rw[hq]at hv;simp at hv;obtain⟨⟨rfl,rfl⟩,_,_⟩:=hv;exact hc i hi
theorem zTi(x:FrR)(ha:x.Arg)(hf:x.Few)(he:x.err=0)(hr:K.has Know.reqs)(hk:K.has x.know)(h:St W0 w K L):
 Calls Jb 12 #[.agg x.vals] w fun en w'=>en=Y (.tuple #[Z (bb x.enc),I O 0])∧St W0 w' K L:=by
 have:=zSJ x ha hf hr hk h;rw[he,if_pos rfl]at this;exact this
theorem zMJ(x:FrR)(ha:x.Arg)(hf:x.Few)(hr:K.has Know.reqs)(hk:K.has x.know)(h:St W0 w K L):
 Calls Jb 12 #[.agg x.vals] w fun en w'=>∃(s:Bs) (e:Int),en=Y (.tuple #[Z (bb s),I O e])∧e=x.err∧St W0 w' K L:=by
 refine(zSJ x ha hf hr hk h).mono ?_;rintro en w' ⟨rfl,h⟩;exact⟨_,_,rfl,rfl,h⟩
theorem zBE{ops:Array Oper}{rest:List Oper}{op:Oper}{a:Act}{w:World}{Q:Exit→Act→World→Prop}(hgd:op.guard=none)(p:Operand)(ho:op.op=.load 38 p)(b o:Nat)(hx:a.eval p=Ja (some ⟨b,o,none⟩))(x:FrR)(hc:w.rangeAt b o (zAh x))(h:wpList Jb ops Q rest (a.put op.dst (.agg x.vals)) w):wpList Jb ops Q (op::rest) a w:=
 wpList_load_mid hgd 38 p ho b o hx (zAh x) _ hc Tryz.underlying38 rfl kR h
theorem zLK{ops:Array Oper}{rest:List Oper}{op:Oper}{a:Act}{w:World}{Q:Exit→Act→World→Prop}(hw:Region.wanted op (yielded ops a.tmps)=true)(p:Operand)(ho:op.op=.load 38 p)(b o:Nat)(hx:a.eval p=Ja (some ⟨b,o,none⟩))(x:FrR)(hc:w.rangeAt b o (zAh x))(h:wpList Jb ops Q rest (a.put op.dst (.agg x.vals)) w):wpList Jb ops Q (op::rest) a w:=by
 unfold wpList;rw[if_pos hw];exact .inl (wp_load_mid 38 p ho b o hx (zAh x) _ hc Tryz.underlying38 rfl kR h)
theorem zCu{ops:Array Oper}{S:World→Prop}{op:Oper}{a:Act}(hw:Region.wanted op (yielded ops a.tmps)=true)(p:Operand)(ho:op.op=.load 38 p)(b o:Nat)(hx:a.eval p=Ja (some ⟨b,o,none⟩))(x:FrR)(hS:∀w,S w→w.rangeAt b o (zAh x)):YieldsIf Jb ops S op (.agg x.vals) a:=
 yieldsIf_load_mid hw 38 p ho b o hx (zAh x) _ hS Tryz.underlying38 rfl kR
theorem zNV{ops:Array Oper}{rest:List Oper}{o:Oper}{a:Act}{Q:Exit→Act→World→Prop}(hgd:o.guard=none)(sl x:Operand)
 (ho:o.op=.call {callee:=.builtin .append,args:= #[sl,x],argTypes:= #[70,70]})
 (v:Value)(n:Nat)(xs:List Value)(hs:a.eval sl=v)(hst:St W0 w K (.row v 38 24 n xs::L))(q:Option Addr)(cap:Nat)(lr:List FrR)(hx:a.eval x=V q lr.length cap)(hk:K.has (Know.frs (V q lr.length cap) lr))(hqc:q=none→cap=0)
 (hb:n+lr.length≤1000000)(h:∀v' w',St W0 w' K (.row v' 38 24 (n+lr.length) (xs++lr.flatMap zAh)::L)→wpList Jb ops Q rest (a.put o.dst v') w'):wpList Jb ops Q (o::rest) a w:=by
 by_cases h0:lr=[]
 ·subst h0
  cases q with
  |none=>
   obtain rfl:=hqc rfl;obtain⟨i0,hi,_⟩:=zG3.1;refine wpList_append_own_none hgd sl x 70 ho 0 38 i0 24 Tryz.underlying70 hi v n xs hs hst.rowGet hx (h v w ?_)
   show St W0 w K (.row v 38 24 (n+0) (xs++[])::L)
   rw[Jp];exact hst
  |some ad=>
   exact zDx hgd sl x 70 ho 38 Tryz.underlying70 zG3 v n xs hs hst ad 0 cap [] hx rfl (fun j u hj=>by simp at hj) (fun u hu=>by cases hu) (by simp only[List.length_nil]at hb;unfold maxLen;omega) (by simp only[List.length_nil]at hb;omega) h
 ·obtain⟨b,off,rfl⟩:=frs_at hk hst (List.length_pos_iff.2 h0);exact zDx hgd sl x 70 ho 38 Tryz.underlying70 zG3 v n xs hs hst ⟨b,off,none⟩ lr.length cap (lr.flatMap zAh) hx (zFx lr) (fun j u hj=>zMH hk hst j u hj) (zJo lr) (by unfold maxLen;omega) oM h
open Go.ChangeShapes Go.WideShapes Go.ChangeAt Go.Deep
theorem zIj:Tryz.prog.cellsOf 175=5:=by kernel_rfl
theorem zHe:Tryz.prog.cellsOf 4=1:=by kernel_rfl
theorem zO1:Tryz.prog.bytesOf 175=56:=by kernel_rfl
def QMark (W:World) (x:MarkR):Prop:=(RowsOf (fun _ cs x=>RTop cs x) (· <W.heap.size) W (V x.q x.l.length x.cap) 2 x.l∧∀y∈x.l,QTop W y)∧x.l.map (·.1)=x.m.tops∧FewI x.l∧x.m.R
theorem QMark.start{W:World}{v:Value}{l:List MarkR}(hr:RowsOf (fun _ cs x=>zJQ cs x) (· <W.heap.size) W v 5 l)(h:∀x∈l,QMark W x):St W W (Know.marks v l) []:=St.start ⟨hr,fun x hx=>⟨(h x hx).1.1,fun y hy=>((h x hx).1.2 y hy).1⟩⟩
section
variable {H:Type}{enc:TypeId×Value→H}{w:World}{spare:Nat→Bool}{held:Bool}
theorem zL2:∀n cs y,DataW.trod enc Jb w 0 spare held n 175 cs=some y→zBB 175 y.1→(∀x∈y.2,x.block<w.heap.size)→∃x:MarkR,zJQ cs x∧QMark w x:=by
 intro n cs y hf hl hN;obtain⟨hc,m,hg⟩:=zAA Tryz.underlying175 hf hl hN;rw[zIj]at hc
 match cs,hc with
 |[c0,c1,c2,c3,c4],_=>
  obtain⟨z0,g0,l0,n0⟩:=hg 0 _ rfl;have g0:DataW.trod enc Jb w 0 spare held m 3 (Jl (Tryz.prog.cellsOf 3) (Jo 0 [c0,c1,c2,c3,c4]))=some z0:=g0;rw[zAs]at g0;obtain⟨z1,g1,l1,n1⟩:=hg 1 _ rfl;have g1:DataW.trod enc Jb w 0 spare held m 3 (Jl (Tryz.prog.cellsOf 3) (Jo 1 [c0,c1,c2,c3,c4]))=some z1:=g1;rw[zAs]at g1;obtain⟨z2,g2,l2,n2⟩:=hg 2 _ rfl;have g2:DataW.trod enc Jb w 0 spare held m 4 (Jl (Tryz.prog.cellsOf 4) (Jo 2 [c0,c1,c2,c3,c4]))=some z2:=g2;rw[zHe]at g2;obtain⟨z3,g3,l3,n3⟩:=hg 3 _ rfl;have g3:DataW.trod enc Jb w 0 spare held m 28 (Jl (Tryz.prog.cellsOf 28) (Jo 3 [c0,c1,c2,c3,c4]))=some z3:=g3;rw[zIg]at g3;obtain⟨z4,g4,l4,n4⟩:=hg 4 _ rfl;have g4:DataW.trod enc Jb w 0 spare held m 3 (Jl (Tryz.prog.cellsOf 3) (Jo 4 [c0,c1,c2,c3,c4]))=some z4:=g4;rw[zAs]at g4;obtain⟨x0,e0,r0⟩:=zAk Tryz.underlying3 g0;obtain⟨x1,e1,r1⟩:=zAk Tryz.underlying3 g1;obtain⟨x2,e2⟩:=zB6 Tryz.underlying4 g2;obtain⟨v3,x3,e3,hrq,hm3,_⟩:=zA0 (R:=fun w' cs x=>(fun _ cs x=>RTop cs x) w' cs x∧QTop w x) (N:=w.heap.size) Tryz.underlying28 zHa dD zHS g3 l3 n3 (Nat.le_refl _);obtain⟨hr,hq⟩:=hrq.part;obtain⟨x4,e4,r4⟩:=zAk Tryz.underlying3 g4;simp at e0 e1 e2 e3 e4;subst e0 e1 e2 e3 e4;obtain⟨q,cap,hrv⟩:∃q cap,_=Value.slice q x3.length cap:=by obtain⟨p,cap,hv,_⟩:=hr;exact⟨p,cap,hv⟩
  subst hrv;exact⟨⟨⟨x0,x1,x2,x3.map (·.1),x4⟩,x3,q,cap⟩,rfl,⟨hr,hq⟩,rfl,QTop.few hm3 hq,r0,r1,r4⟩
end
end Go.Proofs.YteldcbljedeeiaaGreatDoor
namespace Go.Proofs.YteldcbljedeeiaaGreatDoor
open Go.RowKit
open Go.Value renaming bool→U, string→Z, slice→V, int→I, pointer→Ja
open Go.Ending renaming returned→Y
open Go.IntKind renaming i64→O
open _root_.Go.Proofs.Tryz renaming prog→Jb
open _root_.Nat renaming zero_le→Jd, add_assoc→Jm
open _root_.List renaming take_succ_eq_append_getElem→Jf, length_cons→Jn, length_append→Jc, append_nil→Jp, length_drop→Jh, drop_drop→Jk, append_assoc→Je, flatMap_cons→Jg, getElem_mem→Ji, length_map→Jj, take→Jl, drop→Jo
set_option maxHeartbeats 8000000
set_option maxRecDepth 100000
open Go.Joins
open Go.ChangeShapes Go.WideShapes Go.ChangeAt Go.Deep
theorem zQ1:Tryz.prog.cellsOf 38=24:=by kernel_rfl
theorem zHd:Tryz.prog.cellsOf 25=5:=by kernel_rfl
theorem zFB:Tryz.prog.cellsOf 27=5:=by kernel_rfl
theorem zIl:Tryz.prog.cellsOf 30=4:=by kernel_rfl
theorem zIk:Tryz.prog.cellsOf 32=4:=by kernel_rfl
theorem zLm:Tryz.prog.cellsOf 33=1:=by kernel_rfl
theorem St.twoF{W:World}{A B:Know}(ha:St W W A [])(hb:St W W B []):St W W (A.and B) []:=by
 obtain⟨F,a,fa⟩:=ha.get;obtain⟨G,b,gb⟩:=hb.get;exact St.start ⟨A.mono _ _ _ a fa,B.mono _ _ _ b gb⟩
section
variable {H:Type}{enc:TypeId×Value→H}{w:World}{spare:Nat→Bool}{held:Bool}
theorem zMD:∀n cs y,DataW.trod enc Tryz.prog w 0 spare held n 25 cs=some y→zBB 25 y.1→(∀x∈y.2,x.block<w.heap.size)→
 ∃(k v num:Int) (u:Bool) (c:Bs),cs=[.int .i64 k,.int .i64 v,.int .i64 num,.bool u,.string (bb c)]∧(-9223372036854775808≤k∧k<9223372036854775808)∧(-9223372036854775808≤v∧v<9223372036854775808)∧(-9223372036854775808≤num∧num<9223372036854775808):=by
 intro n cs y hf hl hN;obtain⟨hc,m,hg⟩:=zAA Tryz.underlying25 hf hl hN;rw[zHd]at hc
 match cs,hc with
 |[c0,c1,c2,c3,c4],_=>
  obtain⟨z0,g0,l0,n0⟩:=hg 0 _ rfl;have g0:DataW.trod enc Tryz.prog w 0 spare held m 3 (List.take (Tryz.prog.cellsOf 3) (List.drop 0 [c0,c1,c2,c3,c4]))=some z0:=g0;rw[zAs]at g0;obtain⟨z1,g1,l1,n1⟩:=hg 1 _ rfl;have g1:DataW.trod enc Tryz.prog w 0 spare held m 3 (List.take (Tryz.prog.cellsOf 3) (List.drop 1 [c0,c1,c2,c3,c4]))=some z1:=g1;rw[zAs]at g1;obtain⟨z2,g2,l2,n2⟩:=hg 2 _ rfl;have g2:DataW.trod enc Tryz.prog w 0 spare held m 3 (List.take (Tryz.prog.cellsOf 3) (List.drop 2 [c0,c1,c2,c3,c4]))=some z2:=g2;rw[zAs]at g2;obtain⟨z3,g3,l3,n3⟩:=hg 3 _ rfl;have g3:DataW.trod enc Tryz.prog w 0 spare held m 23 (List.take (Tryz.prog.cellsOf 23) (List.drop 3 [c0,c1,c2,c3,c4]))=some z3:=g3;rw[zD7]at g3;obtain⟨x0,e0,r0⟩:=zAk Tryz.underlying3 g0;obtain⟨x1,e1,r1⟩:=zAk Tryz.underlying3 g1;obtain⟨x2,e2,r2⟩:=zAk Tryz.underlying3 g2;obtain⟨x3,e3,s3⟩:=zBM _ _ _ g3 l3 n3;simp at e0 e1 e2 e3;obtain⟨e3a,e3b⟩:=e3;subst e0 e1 e2 e3a e3b;exact⟨x0,x1,x2,x3.null,x3.data,rfl,r0,r1,r2⟩
theorem zLx:∀n cs y,DataW.trod enc Tryz.prog w 0 spare held n 27 cs=some y→zBB 27 y.1→(∀x∈y.2,x.block<w.heap.size)→
 ∃(nl:Bool) (d:Bs) (tm p e:Int),cs=[.bool nl,.string (bb d),.int .i64 tm,.int .i64 p,.int .i64 e]∧(-9223372036854775808≤p∧p<9223372036854775808):=by
 intro n cs y hf hl hN;obtain⟨hc,m,hg⟩:=zAA Tryz.underlying27 hf hl hN;rw[zFB]at hc
 match cs,hc with
 |[c0,c1,c2,c3,c4],_=>
  obtain⟨z0,g0,l0,n0⟩:=hg 0 _ rfl;have g0:DataW.trod enc Tryz.prog w 0 spare held m 23 (List.take (Tryz.prog.cellsOf 23) (List.drop 0 [c0,c1,c2,c3,c4]))=some z0:=g0;rw[zD7]at g0;obtain⟨z1,g1,l1,n1⟩:=hg 1 _ rfl;have g1:DataW.trod enc Tryz.prog w 0 spare held m 3 (List.take (Tryz.prog.cellsOf 3) (List.drop 2 [c0,c1,c2,c3,c4]))=some z1:=g1;rw[zAs]at g1;obtain⟨z2,g2,l2,n2⟩:=hg 2 _ rfl;have g2:DataW.trod enc Tryz.prog w 0 spare held m 3 (List.take (Tryz.prog.cellsOf 3) (List.drop 3 [c0,c1,c2,c3,c4]))=some z2:=g2;rw[zAs]at g2;obtain⟨z3,g3,l3,n3⟩:=hg 3 _ rfl;have g3:DataW.trod enc Tryz.prog w 0 spare held m 3 (List.take (Tryz.prog.cellsOf 3) (List.drop 4 [c0,c1,c2,c3,c4]))=some z3:=g3;rw[zAs]at g3;obtain⟨x0,e0,s0⟩:=zBM _ _ _ g0 l0 n0;obtain⟨x1,e1,r1⟩:=zAk Tryz.underlying3 g1;obtain⟨x2,e2,r2⟩:=zAk Tryz.underlying3 g2;obtain⟨x3,e3,r3⟩:=zAk Tryz.underlying3 g3;simp at e0 e1 e2 e3;obtain⟨e0a,e0b⟩:=e0;subst e0a e0b e1 e2 e3;exact⟨x0.null,x0.data,x1,x2,x3,rfl,r2⟩
theorem zOO:∀n cs y,DataW.trod enc Tryz.prog w 0 spare held n 32 cs=some y→zBB 32 y.1→(∀x∈y.2,x.block<w.heap.size)→
 ∃(d:Bs) (p e:Int) (c:Bool),cs=[.string (bb d),.int .i64 p,.int .i64 e,.bool c]∧(-9223372036854775808≤p∧p<9223372036854775808):=by
 intro n cs y hf hl hN;obtain⟨hc,m,hg⟩:=zAA Tryz.underlying32 hf hl hN;rw[zIk]at hc
 match cs,hc with
 |[c0,c1,c2,c3],_=>
  obtain⟨z0,g0,l0,n0⟩:=hg 0 _ rfl;have g0:DataW.trod enc Tryz.prog w 0 spare held m 9 (List.take (Tryz.prog.cellsOf 9) (List.drop 0 [c0,c1,c2,c3]))=some z0:=g0;rw[zFm]at g0;obtain⟨z1,g1,l1,n1⟩:=hg 1 _ rfl;have g1:DataW.trod enc Tryz.prog w 0 spare held m 3 (List.take (Tryz.prog.cellsOf 3) (List.drop 1 [c0,c1,c2,c3]))=some z1:=g1;rw[zAs]at g1;obtain⟨z2,g2,l2,n2⟩:=hg 2 _ rfl;have g2:DataW.trod enc Tryz.prog w 0 spare held m 3 (List.take (Tryz.prog.cellsOf 3) (List.drop 2 [c0,c1,c2,c3]))=some z2:=g2;rw[zAs]at g2;obtain⟨z3,g3,l3,n3⟩:=hg 3 _ rfl;have g3:DataW.trod enc Tryz.prog w 0 spare held m 4 (List.take (Tryz.prog.cellsOf 4) (List.drop 3 [c0,c1,c2,c3]))=some z3:=g3;rw[zHe]at g3;obtain⟨x0,e0,s0⟩:=zCA Tryz.underlying9 g0 l0;obtain⟨x1,e1,r1⟩:=zAk Tryz.underlying3 g1;obtain⟨x2,e2,r2⟩:=zAk Tryz.underlying3 g2;obtain⟨x3,e3⟩:=zB6 Tryz.underlying4 g3;simp at e0 e1 e2 e3;subst e0 e1 e2 e3;exact⟨x0,x1,x2,x3,rfl,r1⟩
theorem zO7:∀n cs y,DataW.trod enc Tryz.prog w 0 spare held n 30 cs=some y→zBB 30 y.1→(∀x∈y.2,x.block<w.heap.size)→
 ∃(d:Bs) (p e:Int) (l:List (TopS×Value)) (rv:Value),cs=[.string (bb d),.int .i64 p,.int .i64 e,rv]∧(-9223372036854775808≤p∧p<9223372036854775808)∧RowsOf (fun _ cs x=>RTop cs x) (· <w.heap.size) w rv 2 l∧l.length*Tryz.prog.bytesOf 173≤140737488351232∧(∀x∈l,QTop w x):=by
 intro n cs y hf hl hN;obtain⟨hc,m,hg⟩:=zAA Tryz.underlying30 hf hl hN;rw[zIl]at hc
 match cs,hc with
 |[c0,c1,c2,c3],_=>
  obtain⟨z0,g0,l0,n0⟩:=hg 0 _ rfl;have g0:DataW.trod enc Tryz.prog w 0 spare held m 9 (List.take (Tryz.prog.cellsOf 9) (List.drop 0 [c0,c1,c2,c3]))=some z0:=g0;rw[zFm]at g0;obtain⟨z1,g1,l1,n1⟩:=hg 1 _ rfl;have g1:DataW.trod enc Tryz.prog w 0 spare held m 3 (List.take (Tryz.prog.cellsOf 3) (List.drop 1 [c0,c1,c2,c3]))=some z1:=g1;rw[zAs]at g1;obtain⟨z2,g2,l2,n2⟩:=hg 2 _ rfl;have g2:DataW.trod enc Tryz.prog w 0 spare held m 3 (List.take (Tryz.prog.cellsOf 3) (List.drop 2 [c0,c1,c2,c3]))=some z2:=g2;rw[zAs]at g2;obtain⟨z3,g3,l3,n3⟩:=hg 3 _ rfl;have g3:DataW.trod enc Tryz.prog w 0 spare held m 28 (List.take (Tryz.prog.cellsOf 28) (List.drop 3 [c0,c1,c2,c3]))=some z3:=g3;rw[zIg]at g3;obtain⟨x0,e0,s0⟩:=zCA Tryz.underlying9 g0 l0;obtain⟨x1,e1,r1⟩:=zAk Tryz.underlying3 g1;obtain⟨x2,e2,r2⟩:=zAk Tryz.underlying3 g2;obtain⟨v3,x3,e3,hrq,hm3,_⟩:=zA0 (R:=fun w' cs x=>(fun _ cs x=>RTop cs x) w' cs x∧QTop w x) (N:=w.heap.size) Tryz.underlying28 zHa dD zHS g3 l3 n3 (Nat.le_refl _);obtain⟨hr,hq⟩:=hrq.part;simp at e0 e1 e2 e3;subst e0 e1 e2 e3;exact⟨x0,x1,x2,x3,_,rfl,r1,hr,hm3,hq⟩
def QFr (W:World) (x:FrR):Prop:=x.Arg∧St W W x.know []
theorem zPG:∀n cs y,DataW.trod enc Tryz.prog w 0 spare held n 38 cs=some y→zBB 38 y.1→(∀x∈y.2,x.block<w.heap.size)→∃x:FrR,RFr cs x∧QFr w x:=by
 intro n cs y hf hl hN;obtain⟨hc,m,hg⟩:=zAA Tryz.underlying38 hf hl hN;rw[zQ1]at hc
 match cs,hc with
 |[c0,c1,c2,c3,c4,c5,c6,c7,c8,c9,c10,c11,c12,c13,c14,c15,c16,c17,c18,c19,c20,c21,c22,c23],_=>
  obtain⟨z0,g0,l0,n0⟩:=hg 0 _ rfl;have g0:DataW.trod enc Tryz.prog w 0 spare held m 25 (List.take (Tryz.prog.cellsOf 25) (List.drop 0 [c0,c1,c2,c3,c4,c5,c6,c7,c8,c9,c10,c11,c12,c13,c14,c15,c16,c17,c18,c19,c20,c21,c22,c23]))=some z0:=g0;rw[zHd]at g0;have g0:DataW.trod enc Tryz.prog w 0 spare held m 25 [c0,c1,c2,c3,c4]=some z0:=g0;obtain⟨k,v,num,u,cs1,e0,r0,r1,r2⟩:=zMD _ _ _ g0 l0 n0;obtain⟨z1,g1,l1,n1⟩:=hg 1 _ rfl;have g1:DataW.trod enc Tryz.prog w 0 spare held m 27 (List.take (Tryz.prog.cellsOf 27) (List.drop 5 [c0,c1,c2,c3,c4,c5,c6,c7,c8,c9,c10,c11,c12,c13,c14,c15,c16,c17,c18,c19,c20,c21,c22,c23]))=some z1:=g1;rw[zFB]at g1;have g1:DataW.trod enc Tryz.prog w 0 spare held m 27 [c5,c6,c7,c8,c9]=some z1:=g1;obtain⟨bn,bd,bt,bp,be,e1,r3⟩:=zLx _ _ _ g1 l1 n1;obtain⟨z2,g2,l2,n2⟩:=hg 2 _ rfl;have g2:DataW.trod enc Tryz.prog w 0 spare held m 30 (List.take (Tryz.prog.cellsOf 30) (List.drop 10 [c0,c1,c2,c3,c4,c5,c6,c7,c8,c9,c10,c11,c12,c13,c14,c15,c16,c17,c18,c19,c20,c21,c22,c23]))=some z2:=g2;rw[zIl]at g2;have g2:DataW.trod enc Tryz.prog w 0 spare held m 30 [c10,c11,c12,c13]=some z2:=g2;obtain⟨ad,ap,ae,al,arv,e2,r4,ahr,ahm,ahq⟩:=zO7 _ _ _ g2 l2 n2;obtain⟨z3,g3,l3,n3⟩:=hg 3 _ rfl;have g3:DataW.trod enc Tryz.prog w 0 spare held m 32 (List.take (Tryz.prog.cellsOf 32) (List.drop 14 [c0,c1,c2,c3,c4,c5,c6,c7,c8,c9,c10,c11,c12,c13,c14,c15,c16,c17,c18,c19,c20,c21,c22,c23]))=some z3:=g3;rw[zIk]at g3;have g3:DataW.trod enc Tryz.prog w 0 spare held m 32 [c14,c15,c16,c17]=some z3:=g3;obtain⟨ed,ep,ee,ec,e3,r5⟩:=zOO _ _ _ g3 l3 n3;obtain⟨z4,g4,l4,n4⟩:=hg 4 _ rfl;have g4:DataW.trod enc Tryz.prog w 0 spare held m 33 (List.take (Tryz.prog.cellsOf 33) (List.drop 18 [c0,c1,c2,c3,c4,c5,c6,c7,c8,c9,c10,c11,c12,c13,c14,c15,c16,c17,c18,c19,c20,c21,c22,c23]))=some z4:=g4;rw[zLm]at g4;have g4:DataW.trod enc Tryz.prog w 0 spare held m 33 [c18]=some z4:=g4;obtain⟨v4,ml,e4,hrq,mhm,_⟩:=zA0 (R:=fun w' cs x=>(fun _ cs x=>zJQ cs x) w' cs x∧QMark w x) (N:=w.heap.size) Tryz.underlying33 zIj dD zL2 g4 l4 n4 (Nat.le_refl _);obtain⟨mhr,mhq⟩:=hrq.part;obtain⟨z5,g5,l5,n5⟩:=hg 5 _ rfl;have g5:DataW.trod enc Tryz.prog w 0 spare held m 36 (List.take (Tryz.prog.cellsOf 36) (List.drop 19 [c0,c1,c2,c3,c4,c5,c6,c7,c8,c9,c10,c11,c12,c13,c14,c15,c16,c17,c18,c19,c20,c21,c22,c23]))=some z5:=g5;rw[zIi]at g5;have g5:DataW.trod enc Tryz.prog w 0 spare held m 36 [c19,c20,c21,c22,c23]=some z5:=g5;obtain⟨pn,pd,pa,pt,pl,prv,e5,hpd,_,_,phr,phm,phq⟩:=zOu _ _ _ g5 l5 n5;simp at e0 e1 e2 e3 e4 e5;obtain⟨rfl,rfl,rfl,rfl,rfl⟩:=e0;obtain⟨rfl,rfl,rfl,rfl,rfl⟩:=e1;obtain⟨rfl,rfl,rfl,rfl⟩:=e2;obtain⟨rfl,rfl,rfl,rfl⟩:=e3;subst e4;obtain⟨rfl,rfl,rfl,rfl,rfl⟩:=e5;have ka:=QTop.start ahr ahq;have km:=QMark.start mhr mhq;have kp:=QPTop.start phr phq;obtain⟨aq,acap,hrv⟩:∃q cap,c13=.slice q al.length cap:=by obtain⟨p,cap,hv,_⟩:=ahr;exact⟨p,cap,hv⟩
  subst hrv;obtain⟨mq,mcap,hrv⟩:∃q cap,c18=.slice q ml.length cap:=by obtain⟨p,cap,hv,_⟩:=mhr;exact⟨p,cap,hv⟩
  subst hrv;obtain⟨pq,pcap,hrv⟩:∃q cap,c23=.slice q pl.length cap:=by obtain⟨p,cap,hv,_⟩:=phr;exact⟨p,cap,hv⟩
  subst hrv;rw[zO1]at mhm;exact⟨⟨k,v,num,u,cs1,bn,bd,bt,bp,be,ad,ap,ae,aq,al,acap,ed,ep,ee,ec,mq,ml,mcap,pn,pd,pa,pt,pq,pl,pcap⟩,rfl,⟨⟨r0,r1,r2⟩,r3,r4,r5,QTop.few ahm ahq,by simp only;omega,fun y hy=>⟨(mhq y hy).2.1,(mhq y hy).2.2.1,(mhq y hy).2.2.2⟩,hpd,phm,zOM phq⟩,(ka.twoF (km.twoF kp))⟩
theorem zQu{r:Reach}{b0:Nat}{v:Value}{d:DataW H}{p:List MemPlace}(hv:Value.okWide Tryz.prog w r b0 38 v)(h:DataW.Trod enc Tryz.prog w 0 spare held 38 v d p)(hl:zBB 38 d)(hN:∀x∈p,x.block<w.heap.size):
 ∃(x:FrR),v=.agg x.vals∧QFr w x:=by
 obtain⟨cs,rfl,hsz⟩:=okWide_struct Tryz.underlying38 hv;obtain⟨fuel,hf⟩:=h;obtain⟨x,ec,hq⟩:=zPG _ _ _ hf hl hN;obtain⟨c⟩:=cs;have ec:c=zAh x:=ec;subst ec;exact⟨x,rfl,hq⟩
end
end Go.Proofs.YteldcbljedeeiaaGreatDoor
namespace Go.Proofs.YteldcbljedeeiaaGreatDoor
open Go.RowKit
open Go.Value renaming bool→U, string→Z, slice→V, int→I, pointer→Ja
open Go.Ending renaming returned→Y
open Go.IntKind renaming i64→O
open _root_.Go.Proofs.Tryz renaming prog→Jb
open _root_.Nat renaming zero_le→Jd, add_assoc→Jm
open _root_.List renaming take_succ_eq_append_getElem→Jf, length_cons→Jn, length_append→Jc, append_nil→Jp, length_drop→Jh, drop_drop→Jk, append_assoc→Je, flatMap_cons→Jg, getElem_mem→Ji, length_map→Jj, take→Jl, drop→Jo
set_option maxHeartbeats 8000000
set_option maxRecDepth 100000
variable {W0 w:World}{K:Know}{L:List Res}
theorem zOD(s0:Bs)(ns:List Int)(cl:List Bs)(hcl:cutS s0 ns=cl)(hs0:s0.length≤9000000)(hns:∀x∈ns,0≤x∧x<256)(hnl:ns.length≤1000)(q:Option Addr)(cap:Nat)(hk:K.has (Know.flat RU8 (V q ns.length cap) 1 ns))(h:St W0 w K L):
 Calls Jb 28 #[Z (bb s0),V q ns.length cap] w fun en w'=>∃(q2:Option Addr) (cap2:Nat),en=Y (V q2 cl.length cap2)∧St W0 w' (K.and (Know.strs (V q2 cl.length cap2) cl)) L:=by
 subst hcl;exact zQm s0 ns hs0 hns hnl q cap hk h
theorem zRw{g cap:Nat}{a b:FrR}(h:St W0 w K (.row (V (some ⟨g,0,none⟩) 2 cap) 38 24 2 (zAh a++zAh b)::L)):w.rangeAt g 0 (zAh a):=fun j v hj=>by
 have hl:j<24:=by have:=(List.getElem?_eq_some_iff.1 hj).1;rwa [zAX]at this
 rw[Nat.zero_add,h.rowCell j oM,List.getElem?_append_left (by rw[zAX];exact hl)];exact hj
theorem zRv{g cap:Nat}{a b:FrR}(h:St W0 w K (.row (V (some ⟨g,0,none⟩) 2 cap) 38 24 2 (zAh a++zAh b)::L)):w.rangeAt g 24 (zAh b):=fun j v hj=>by
 have hl:j<24:=by have:=(List.getElem?_eq_some_iff.1 hj).1;rwa [zAX]at this
 rw[h.rowCell (24+j) oM,List.getElem?_append_right (by rw[zAX];omega),zAX,Nat.add_sub_cancel_left];exact hj
theorem zSP(x y:FrR)(hax:x.Arg)(hay:y.Arg)(ns:List Int)(hns:∀x∈ns,0≤x∧x<256)(q:Option Addr)(cap:Nat){W0 w:World}{K:Know}(hkr:K.has Know.reqs)(hkx:K.has x.know)(hky:K.has y.know)(hkn:K.has (Know.flat RU8 (V q ns.length cap) 1 ns))(h:St W0 w K []):
   Calls Jb 8 #[.agg x.vals,.agg y.vals,V q ns.length cap] w fun en w'=>en=Y (U true)∧Below W0.heap.size W0 w':=by
 obtain⟨b1,hb1⟩:=eX w.heap.size;obtain⟨b2,hb2⟩:=eX (b1+1);have g1:=(h.allocRaw x.vals 38).allocRaw y.vals 38;simp only[World.size_alloc,hb1,hb2]at g1;have H:=hQd g1;have HAX:=hQd hax;have HAY:=hQd hay;have HNS:=hQd hns;have HKR0:=hQd hkr;have HKX0:=hQd hkx;have HKY0:=hQd hky;have HKN0:=hQd hkn;clear h g1 hax hay hns hkr hkx hky hkn;go_enter Tryz.func8,Tryz.ntmps8
 go_upto_region 4 with (first
   |(refine zAd rfl 38 (Operand.tmp 7) (Operand.tmp 22) rfl rf #[I O 0,I O 0,I O 0,U false,Z ⟨#[]⟩,U false,Z ⟨#[]⟩,I O 0,I O 0,I O 0,Z ⟨#[]⟩,I O 0,I O 0,V none 0 0,Z ⟨#[]⟩,I O 0,I O 0,U false,V none 0 0,U false,Z ⟨#[]⟩,I O 0,I O 0,V none 0 0] rfl rfl (H.out) rfl kR zEr ?_;intro wz h;replace H:=hQd h.drop;clear h)
   |(go_at_call 15;(with_reducible refine(zOF HKR0.out H.out).mono ?_);rintro e_ wn ⟨KA,rfl,hkk,h⟩;have HKR:=hQd (Know.has_trans hkk HKR0.out);have HKX:=hQd (Know.has_trans hkk HKX0.out);have HKY:=hQd (Know.has_trans hkk HKY0.out);have HKN:=hQd (Know.has_trans hkk HKN0.out);clear hkk HKR0 HKX0 HKY0 HKN0;obtain⟨rf,hrf⟩:=eX wn.heap.size;have h:=h.allocRaw #[I O 0,I O 0,I O 0,U false,Z ⟨#[]⟩,U false,Z ⟨#[]⟩,I O 0,I O 0,I O 0,Z ⟨#[]⟩,I O 0,I O 0,V none 0 0,Z ⟨#[]⟩,I O 0,I O 0,U false,V none 0 0,U false,Z ⟨#[]⟩,I O 0,I O 0,V none 0 0] 38;rw[hrf]at h;replace H:=hQd h;clear h))
 --1
 go_wp2_with (refine zBE rfl (Operand.tmp 3) rfl b1 0 rfl x (St.range H.out.p1) ?_);refine(zK0 x HAX.out HKX.out H.out).mono ?_;rintro e_ wn ⟨r1,rfl,hr1,h⟩;clear H;have H:=hQd h;clear h
 rcases hr1 with rfl|⟨rfl,hfx⟩
 · go_wp2;go_ret;exact⟨rfl,H.out.below⟩
 go_wp2_with (refine zLK (by rfl) (Operand.tmp 4) rfl b2 0 rfl y (St.range H.out) ?_);refine(zK0 y HAY.out HKY.out H.out).mono ?_;rintro e_ wn ⟨r2,rfl,hr2,h⟩;clear H;have H:=hQd h;clear h
 rcases hr2 with rfl|⟨rfl,hfy⟩
 · go_wp2;go_ret;exact⟨rfl,H.out.below⟩
 have HFX:=hQd hfx;have HFY:=hQd hfy;clear hfx hfy
 by_cases h200:200<ns.length
 · have h2i:(200:Int)<(ns.length:Int):=by omega
   clear h200;go_wp2;go_ret;exact⟨rfl,H.out.below⟩
 have h2i:¬(200:Int)<(ns.length:Int):=by omega
 have HNL:=hQd (show ns.length≤1000 by omega);clear h200
 --2
 by_cases hex:x.err=0
 rotate_left
 · go_upto_region 8 with (first
     |(refine zBE rfl (Operand.tmp 3) rfl b1 0 rfl x (St.range H.out.p1) ?_)
     |(refine zBE rfl (Operand.tmp 4) rfl b2 0 rfl y (St.range H.out) ?_)
     |(go_at_call 12;(with_reducible refine(zMJ x HAX.out HFX.out HKR.out HKX.out H.out).mono ?_);rintro e_ wn ⟨s1,e1,rfl,he1,h⟩;have HV1:=hQd he1;clear he1;replace H:=hQd h;clear h)
     |(go_at_call 12;(with_reducible refine(zMJ y HAY.out HFY.out HKR.out HKY.out H.out).mono ?_);rintro e_ wn ⟨s2,e2,rfl,he2,h⟩;have HV2:=hQd he2;clear he2;replace H:=hQd h;clear h))
   have e1n:(e1==0)=false:=beq_false_of_ne (by rw[HV1.out];exact hex);clear hex;go_wp2;go_ret;exact⟨rfl,H.out.below⟩
 by_cases hey:y.err=0
 rotate_left
 · have HEX:=hQd hex;clear hex
   go_upto_region 8 with (first
     |(refine zBE rfl (Operand.tmp 3) rfl b1 0 rfl x (St.range H.out.p1) ?_)
     |(refine zBE rfl (Operand.tmp 4) rfl b2 0 rfl y (St.range H.out) ?_)
     |(go_at_call 12;(with_reducible refine(zTi x HAX.out HFX.out HEX.out HKR.out HKX.out H.out).zM ?_);clear H;intro wn H)
     |(go_at_call 12;(with_reducible refine(zMJ y HAY.out HFY.out HKR.out HKY.out H.out).mono ?_);rintro e_ wn ⟨s2,e2,rfl,he2,h⟩;have HV2:=hQd he2;clear he2;replace H:=hQd h;clear h))
   have e2n:(e2==0)=false:=beq_false_of_ne (by rw[HV2.out];exact hey);clear hey;go_wp2;go_ret;exact⟨rfl,H.out.below⟩
 have HEX:=hQd hex;have HEY:=hQd hey;clear hex hey;obtain⟨S,hS⟩:=eX x.enc;obtain⟨S2,hS2⟩:=eX y.enc;obtain⟨n,hn⟩:=eX (min S.length S2.length);have hmn:(if S2.length<S.length then(S2.length:Int)else(S.length:Int))=(n:Int):=by split<;>omega
 have hnS:(n:Int)≤(S.length:Int):=by omega
 have hnS2:(n:Int)≤(S2.length:Int):=by omega
 have HN1:=hQd hn;clear hn
 --3
 go_upto_region 10 with (first
   |(refine zBE rfl (Operand.tmp 3) rfl b1 0 rfl x (St.range H.out.p1) ?_)
   |(refine zBE rfl (Operand.tmp 4) rfl b2 0 rfl y (St.range H.out) ?_)
   |(go_at_call 12;(with_reducible refine(zTi x HAX.out HFX.out HEX.out HKR.out HKX.out H.out).mono ?_);rintro e_ wn ⟨rfl,h⟩;rw[hS];replace H:=hQd h;clear h)
   |(go_at_call 12;(with_reducible refine(zTi y HAY.out HFY.out HEY.out HKR.out HKY.out H.out).mono ?_);rintro e_ wn ⟨rfl,h⟩;rw[hS2];replace H:=hQd h;clear h))
 go_upto_region 11 with fail
 try rw[hmn]
 --4
 have HSF:=hQd (show ∀(K':Know) (w':World),St W0 w' K' [.raw b2 y.vals 38,.raw b1 x.vals 38]→w'.rangeAt b1 0 (zAh x)∧w'.rangeAt b2 0 (zAh y)from fun K' w' hh=>⟨St.range hh.p1,St.range hh⟩);have HKIX:=hQd (zQo HEX.out);have HKIY:=hQd (zQo HEY.out)
 obtain⟨r,hr⟩:∃r:Bool,r=true↔x.sem=y.sem:=by
   by_cases hh:x.sem=y.sem
   · exact⟨true,by simp[hh]⟩
   · exact⟨false,by simp[hh]⟩
 have HRS:=hQd hr
 have hre:S.take n=S2.take n↔x.sem=y.sem:=by
   have e:=zPo HAX.out HFX.out HEX.out HAY.out HFY.out HEY.out n (by rw[hS,hS2];exact HN1.out.symm);rw[hS,hS2]at e;exact e
 have hrb:decide (S.take n=S2.take n)=r:=by rw[Bool.eq_iff_iff,decide_eq_true_iff,hr];exact hre
 have hrb2:(S.take n==S2.take n)=r:=by rw[Bool.eq_iff_iff,beq_iff_eq,hr];exact hre
 clear hre;clear hr;have hs:=H.out.drew;clear H;refine wp_region_held_drew (S:=fun w'=>w'.rangeAt b1 0 (zAh x)∧w'.rangeAt b2 0 (zAh y)) kR (HSF.out _ _ hs) (fun hHeld=> ?_);refine tR 0 ?_;refine tR 1 ?_;refine tR 2 ?_;refine tR 3 ?_;refine tR 4 ?_;refine tR 5 ?_;refine tR 6 ?_;refine wpAnyH_take (i:=7) (oi:=⟨some 67,.load 38 (.tmp 3),38,_,_,none⟩) (v:=.agg x.vals) rfl kR kR kR (fun _ _ _ h=>h) (zCu (by rfl) (.tmp 3) rfl b1 0 (by rfl) x (fun w hS=>hS.1)) (by assumption) ?_;simp only[Act.put,sA,sB,sC];refine wpAnyH_take (i:=9) (oi:=⟨some 69,.load 38 (.tmp 4),38,_,_,none⟩) (v:=.agg y.vals) rfl kR kR kR (fun _ _ _ h=>h) (zCu (by rfl) (.tmp 4) rfl b2 0 (by rfl) y (fun w hS=>hS.2)) (by assumption) ?_;simp only[Act.put,sA,sB,sC];refine wR [8] (rC rfl (fun KK hK=> ?_) rN);go_simp;go_at_call 14;refine(zDD x HKIX.out (FrR.fit HAX.out HFX.out) HKX.out hs).mono ?_;rintro e wq ⟨o1,K1,rfl,hm1,hkk1,hf1,hs⟩;refine zK hK (HSF.out _ _ hs) (fun hHeld=> ?_);clear hK KK
 have HM1:=hQd hm1;have HO1:=hQd hf1;have HKY1:=hQd (Know.has_trans hkk1 HKY.out);have HKX1:=hQd (Know.has_trans hkk1 HKX.out);have HKR1:=hQd (Know.has_trans hkk1 HKR.out);have HKN1:=hQd (Know.has_trans hkk1 HKN.out);clear hm1 hf1 hkk1;refine wR [10] (rC rfl (fun KK hK=> ?_) rN);go_simp;go_at_call 14;refine(zDD y HKIY.out (FrR.fit HAY.out HFY.out) HKY1.out hs).mono ?_;rintro e wq ⟨o2,K2,rfl,hm2,hkk2,hf2,hs⟩;refine zK hK (HSF.out _ _ hs) (fun hHeld=> ?_);clear hK KK
 have HM2:=hQd hm2;have HO2:=hQd hf2;have HO1b:=hQd (HO1.out.more hkk2);have HKY2:=hQd (Know.has_trans hkk2 HKY1.out);have HKX2:=hQd (Know.has_trans hkk2 HKX1.out);have HKR2:=hQd (Know.has_trans hkk2 HKR1.out);have HKN2:=hQd (Know.has_trans hkk2 HKN1.out);clear hm2 hf2 hkk2;refine wR [11] (rC rfl (fun KK hK=> ?_) rN);go_simp;go_at_call 17;refine(zDY o1 o2 r (by rw[HM1.out,HM2.out];exact HRS.out) HO1b.out HO2.out hs).mono ?_;rintro e wq ⟨rfl,hs⟩;refine zK hK (HSF.out _ _ hs) (fun hHeld=> ?_);clear hK KK
 refine tR 12 ?_;refine wpAnyH_done kR ?_ _;clear hHeld;have H:=hQd hs;clear hs
 --5
 go_upto_region 15 with (go_at_call 27;(with_reducible refine(zPs H.out).mono ?_);rintro e_ wn ⟨sb,rfl,h⟩;replace H:=hQd h;clear h)
 --6
 obtain⟨cl,hcl⟩:=eX (cutS (S++S2) ns);have hSl:S.length≤400004:=by rw[←hS,FrR.enc_len];have:=FrR.inner_len HAX.out HFX.out (FrR.ok2 HEX.out).1 (FrR.ok2 HEX.out).2;omega
 have hSl2:S2.length≤400004:=by rw[←hS2,FrR.enc_len];have:=FrR.inner_len HAY.out HFY.out (FrR.ok2 HEY.out).1 (FrR.ok2 HEY.out).2;omega
 have hSS:(S++S2).length=S.length+S2.length:=Jc;have HCL:=hQd hcl;have hcll:cl.length=ns.length+1:=by rw[←hcl,zNM]
 have HFL:=hQd (show cl.flatten=S++S2 by rw[←hcl,zLc]);have HSL:=hQd (show(S++S2).length≤9000000 by omega);have HSB:=hQd (show(S++S2).length≤1000000 by omega);have hci:(cl.length:Int)≤1001:=by have:=HNL.out;omega
 have hg0:¬(9223372036854775807<S.length+S2.length):=by omega
 have hbb:bb S++bb S2=bb (S++S2):=zLz _ _;have HXY:=hQd (show[x,y].flatMap FrR.enc=S++S2 by rw[Jg,Jg,List.flatMap_nil,Jp,hS,hS2]);have HXP:=hQd (show 0<x.enc.length by rw[FrR.enc_len];omega)
 have HAL:=hQd (show ∀z∈[x,y],z.Arg∧z.Few∧z.err=0 from fun z hz=>by
   simp only[List.mem_cons,List.not_mem_nil,or_false]at hz
   rcases hz with rfl|rfl
   · exact⟨HAX.out,HFX.out,HEX.out⟩
   · exact⟨HAY.out,HFY.out,HEY.out⟩)
 clear hcl hcll hSl hSl2 hSS;go_wp2_with (go_at_call 28;(with_reducible refine(zOD (S++S2) ns cl HCL.out HSL.out HNS.out HNL.out q cap HKN2.out H.out).mono ?_);rintro e_ wn ⟨qc,capc,rfl,h⟩;replace H:=hQd h;clear h);obtain⟨KC,hKC⟩:=eX (K2.and (Know.strs (V qc cl.length capc) cl));have HKC:=hQd (show KC.has (Know.strs (V qc cl.length capc) cl)from hKC ▸ Know.has_right (Know.has_refl _));have HKK:=hQd (show KC.has K2 from hKC ▸ Know.has_left (Know.has_refl _));rw[hKC]at H;clear hKC
 --7
 go_loopw [15,80] (fun gv iv wr=>∃(k at_:Nat) (r:Bs) (v:Value) (done todo acc:List FrR) (K3:Know),k≤cl.length∧iv=I O k∧Hid ([x,y]=done++todo)∧Hid (acc.map FrR.sem=done.map FrR.sem)∧Hid (∀z∈acc,z.Fit)∧Hid (∀z∈acc,K3.has z.know)∧Hid (r++(cl.drop k).flatten=todo.flatMap FrR.enc)∧Hid (Short todo r)∧Hid (at_+r.length≤(S++S2).length - ((cl.drop k).flatten).length)∧Hid (K3.has KC)∧St W0 wr K3 (.raw sb #[I O ((acc.length:Nat):Int),I O ((at_:Nat):Int),I O ((at_+r.length:Nat):Int),v,I O 0] 87::.row v 5 1 r.length (zAD r)::.row gv 38 24 acc.length (acc.flatMap zAh)::.raw b2 y.vals 38::.raw b1 x.vals 38::[])) (fun _ iv _=>cl.length - (intOf iv).toNat)
 case atStart=>
   exact⟨0,0,[],V none 0 0,[],[x,y],[],KC,Jd _,rfl,hQd rfl,hQd rfl,hQd (fun z hz=>by cases hz),hQd (fun z hz=>by cases hz),hQd (by rw[List.drop_zero,HFL.out,HXY.out];rfl),hQd (fun z t hz=>by cases hz;exact HXP.out),hQd (Jd _),hQd (Know.has_refl _),((H.out.nilRow 38 24).nilRow 5 1).p2⟩
 case round=>
   obtain⟨k,at_,r,v,done,todo,acc,K3,hkl,rfl,HDT,HAS,HAF,HAK,HRT,HSH,HAT,HK3,hst⟩:=hrel;clear H;have H:=hQd hst;clear hst
   --8
   by_cases hlt:k<cl.length
   · obtain⟨b0,off,hqq⟩:=zRr HKC.out (H.out.know HK3.out) oM;subst hqq;obtain⟨c,hc⟩:=eX (cl[k]);have c0:=zN4 HKC.out (H.out.know HK3.out) k hlt c hc;have hkn:(k:Int)<(cl.length:Int):=by omega
     have hdk:cl.drop k=c::cl.drop (k+1):=by rw[List.drop_eq_getElem_cons hlt,hc]
     obtain⟨Tb,hTb⟩:=eX (r++c);have hTl:r.length+c.length=Tb.length:=by rw[←hTb,Jc]
     have hpre2:Tb++(cl.drop (k+1)).flatten=todo.flatMap FrR.enc:=by rw[←HRT.out,hdk,List.flatten_cons,←hTb,Je]
     have hpre:PreF todo Tb:=⟨_,hpre2⟩;obtain⟨rest,e1,e2,e3,e4⟩:=zCK todo Tb hpre;have hwl:=zJR todo Tb hpre;have hfl:((cl.drop k).flatten).length=c.length+((cl.drop (k+1)).flatten).length:=by rw[hdk,List.flatten_cons,Jc]
     have hal:((cl.drop k).flatten).length≤(S++S2).length:=by
      have h1:cl.flatten=(cl.take k).flatten++(cl.drop k).flatten:=by rw[←List.flatten_append,List.take_append_drop]
      have h2:=congrArg List.length h1;rw[Jc,HFL.out]at h2
      omega
     have hat:=HAT.out;have hsb:=HSB.out;have HTB:=hQd hTb;have HPF:=hQd hpre;have HTL:=hQd (show Tb.length≤1000000 by omega);have HTD:=hQd (show ∀z∈todo,z.Arg∧z.Few∧z.err=0 from fun z hz=>HAL.out z (by rw[HDT.out];exact List.mem_append_right _ hz))
     have hacl:acc.length≤2:=by
      have h1:=congrArg List.length HAS.out;have h2:=congrArg List.length HDT.out;rw[Jj,Jj]at h1;rw[Jc]at h2;have h2:2=_:=h2
      omega
     have HBD:=hQd (show acc.length≤1000000000∧at_≤1000000000∧at_+r.length≤1000000000 by omega);have HACL:=hQd hacl;have HKR3:=hQd (Know.has_trans HK3.out (Know.has_trans HKK.out HKR2.out));have HDT2:=hQd (show[x,y]=(done++(whole todo Tb).1)++rest by rw[HDT.out,Je,←e1])
     have HRT2:=hQd (show(whole todo Tb).2++(cl.drop (k+1)).flatten=rest.flatMap FrR.enc by
      have h1:=hpre2
      conv at h1=>lhs;rw[e2]
      conv at h1=>rhs;rw[e1]
      rw[List.flatMap_append,Je]at h1
      exact List.append_cancel_left h1)
     have HSH2:=hQd e4;have HAT2:=hQd (show at_+(Tb.length - (whole todo Tb).2.length)+(whole todo Tb).2.length≤(S++S2).length - ((cl.drop (k+1)).flatten).length by omega);have HCM:=hQd (show at_+r.length+c.length=at_+(Tb.length - (whole todo Tb).2.length)+(whole todo Tb).2.length by omega);have HME:=hQd (show cl.length - (k+1)<cl.length - k by omega);clear hc hdk hTb hTl hpre2 hpre e1 e2 e3 e4 hwl hfl hal hat hsb hacl
     go_wp2_with (first
      |(go_at_call 29;(with_reducible refine(zN6 sb acc.length at_ (at_+r.length) todo HTD.out r c Tb HTB.out HPF.out v HTL.out HBD.out HKR3.out H.out).mono ?_);rintro e_ wn ⟨v',qf,capf,lr,K4,rfl,hqc,hm,hft,h4l,hkk,hkf,h⟩;have HQC:=hQd hqc;have HM:=hQd hm;have HFT:=hQd hft;have H4:=hQd h4l;have HK4:=hQd hkk;have HKF:=hQd hkf;clear hqc hm hft h4l hkk hkf;replace H:=hQd h;clear h)
      |(at_builtin;refine zNV rfl _ _ rfl _ acc.length _ rfl H.out.p2 qf capf lr rfl HKF.out HQC.out (by have:=H4.out;have:=HACL.out;have:=HTL.out;omega) ?_;intro v2 w2 h;have h:=h.p2.p2;replace H:=hQd h;clear h))
     go_roundw
     case rel=>
      exact⟨k+1,at_+(Tb.length - (whole todo Tb).2.length),(whole todo Tb).2,v',done++(whole todo Tb).1,rest,acc++lr,K4,hlt,by go_num,HDT2,hQd (by rw[List.map_append,List.map_append,HAS.out,HM.out]),hQd (fun z hz=>by
       rcases List.mem_append.1 hz with hz|hz
       · exact HAF.out z hz
       · exact HFT.out z hz),hQd (fun z hz=>by
       rcases List.mem_append.1 hz with hz|hz
       · exact Know.has_trans HK4.out (HAK.out z hz)
       · exact zR8 HKF.out hz),HRT2,HSH2,HAT2,hQd (Know.has_trans HK4.out HK3.out),by
       rw[Jc,List.flatMap_append,←HCM.out]
       exact H.out⟩
     case measure=>
      have hme:=HME.out
      first|(simp[intOf];done)|(simp[intOf];omega)
   · obtain rfl:k=cl.length:=by omega
     --9
     cases todo with
     |cons z tl=>
      exfalso
      have h1:=HRT.out;have h2:=HSH.out z tl rfl;rw[List.drop_length,List.flatten_nil,Jp]at h1;have h3:=congrArg List.length h1;rw[Jg,Jc]at h3
      omega
     |nil=>
      have h1:=HRT.out;rw[List.drop_length,List.flatten_nil,Jp]at h1;have hr0:r=[]:=h1;have hdn:[x,y]=done:=by have h2:=HDT.out;rwa [Jp]at h2
      subst hr0 hdn
      match acc,HAS,HAF,HAK,H with
      |[],HAS,_,_,_=>exact absurd HAS.out sM
      |[_],HAS,_,_,_=>exact absurd HAS.out sM
      | _::_::_::_,HAS,_,_,_=>exact absurd HAS.out sM
      |[a0,a1],HAS,HAF,HAK,H=>
      have hsm:a0.sem=x.sem∧a1.sem=y.sem:=by simpa using HAS.out
      have HA0:=hQd hsm.1;have HA1:=hQd hsm.2;have HF0:=hQd (HAF.out a0 sM);have HF1:=hQd (HAF.out a1 sM);have HQ0:=hQd (HAK.out a0 sM);have HQ1:=hQd (HAK.out a1 sM);have HR3:=hQd (Know.has_trans HK3.out HKK.out);have HQX:=hQd (Know.has_trans HR3.out HKX2.out);have HQY:=hQd (Know.has_trans HR3.out HKY2.out);have hab:=HAT.out;have hsb:=HSB.out
      have HAB:=hQd (show 0≤(at_:Int)∧(at_:Int)<4000000000000000000 by
       have:at_+([]:Bs).length≤(S++S2).length - ((cl.drop cl.length).flatten).length:=hab;simp only[List.length_nil]at this
       omega)
      obtain⟨g,capg,hgv⟩:=H.out.p2.rowSlice (Nat.zero_lt_succ _);subst hgv
      have hst:St W0 wr K3 [.raw sb #[I O 2,I O ((at_:Nat):Int),I O ((at_:Nat):Int),v,I O 0] 87,.row v 5 1 0 (zAD []),.row (V (some ⟨g,0,none⟩) 2 capg) 38 24 2 (zAh a0++zAh a1),.raw b2 y.vals 38,.raw b1 x.vals 38]:=by
       have h0:=H.out;simp only[Jg,List.flatMap_nil,Jp]at h0;exact h0
      clear H h1 hsm hab hsb HRT HSH HAT HDT HAS HAF HAK;have H:=hQd hst;clear hst;have HSG:=hQd (show ∀(K':Know) (w':World),St W0 w' K' [.raw sb #[I O 2,I O ((at_:Nat):Int),I O ((at_:Nat):Int),v,I O 0] 87,.row v 5 1 0 (zAD []),.row (V (some ⟨g,0,none⟩) 2 capg) 38 24 2 (zAh a0++zAh a1),.raw b2 y.vals 38,.raw b1 x.vals 38]→w'.rangeAt b1 0 (zAh x)∧w'.rangeAt b2 0 (zAh y)∧w'.rangeAt g 0 (zAh a0)∧w'.rangeAt g 24 (zAh a1)from fun K' w' hh=>⟨St.range hh.p4,St.range hh.p3,zRw hh.p2,zRv hh.p2⟩);go_upto_region 23 with fail
      --10
      have hs:=H.out.drew;clear H;refine wp_region_held_drew (S:=fun w'=>w'.rangeAt b1 0 (zAh x)∧w'.rangeAt b2 0 (zAh y)∧w'.rangeAt g 0 (zAh a0)∧w'.rangeAt g 24 (zAh a1)) kR (HSG.out _ _ hs) (fun hHeld=> ?_);refine tR 0 ?_;refine tR 1 ?_;refine tR 2 ?_;refine tR 3 ?_;refine tR 4 ?_;refine wR [5] (rC rfl (fun KK hK=> ?_) rN);go_simp;go_at_call 35;refine(zLR sb 2 at_ v HAB.out hs).mono ?_;rintro e wq ⟨rfl,hs⟩;refine zK hK (HSG.out _ _ hs) (fun hHeld=> ?_);clear hK KK
      refine tR 6 ?_;refine tR 7 ?_;refine tR 8 ?_;refine tR 9 ?_;refine tR 10 ?_;refine wpAnyH_take (i:=11) (oi:=⟨some 107,.load 38 (.tmp 106),38,_,_,some (8,true)⟩) (v:=.agg a0.vals) rfl kR kR kR (fun _ _ _ h=>h) (zCu (by rfl) (.tmp 106) rfl g 0 (by rfl) a0 (fun w hS=>hS.2.2.1)) (by assumption) ?_;simp only[Act.put,sA,sB,sC];refine wpAnyH_take (i:=13) (oi:=⟨some 109,.load 38 (.tmp 3),38,_,_,some (8,true)⟩) (v:=.agg x.vals) rfl kR kR kR (fun _ _ _ h=>h) (zCu (by rfl) (.tmp 3) rfl b1 0 (by rfl) x (fun w hS=>hS.1)) (by assumption) ?_;simp only[Act.put,sA,sB,sC];refine wR [12] (rC rfl (fun KK hK=> ?_) rN);go_simp;go_at_call 14;refine(zDD a0 (zNy HA0.out HKIX.out) HF0.out HQ0.out hs).mono ?_;rintro e wq ⟨o3,K3,rfl,hm3,hkk3,hf3,hs⟩;refine zK hK (HSG.out _ _ hs) (fun hHeld=> ?_);clear hK KK
      have HM3:=hQd hm3;have HO3:=hQd hf3;have HQ1:=hQd (Know.has_trans hkk3 HQ1.out);have HQX:=hQd (Know.has_trans hkk3 HQX.out);have HQY:=hQd (Know.has_trans hkk3 HQY.out);clear hm3 hf3 hkk3;refine wR [14] (rC rfl (fun KK hK=> ?_) rN);go_simp;go_at_call 14;refine(zDD x HKIX.out (FrR.fit HAX.out HFX.out) HQX.out hs).mono ?_;rintro e wq ⟨o4,K4,rfl,hm4,hkk4,hf4,hs⟩;refine zK hK (HSG.out _ _ hs) (fun hHeld=> ?_);clear hK KK
      have HM4:=hQd hm4;have HO4:=hQd hf4;have HQ1:=hQd (Know.has_trans hkk4 HQ1.out);have HQY:=hQd (Know.has_trans hkk4 HQY.out);have HO3:=hQd (HO3.out.more hkk4);clear hm4 hf4 hkk4;refine wR [15] (rC rfl (fun KK hK=> ?_) rN);go_simp;go_at_call 17;refine(zDY o3 o4 true (by rw[HM3.out,HM4.out,HA0.out];simp) HO3.out HO4.out hs).mono ?_;rintro e wq ⟨rfl,hs⟩;refine zK hK (HSG.out _ _ hs) (fun hHeld=> ?_);clear hK KK
      refine tR 16 ?_;refine tR 17 ?_;refine tR 18 ?_;refine tR 19 ?_;refine wpAnyH_take (i:=20) (oi:=⟨some 116,.load 38 (.tmp 115),38,_,_,some (17,true)⟩) (v:=.agg a1.vals) rfl kR kR kR (fun _ _ _ h=>h) (zCu (by rfl) (.tmp 115) rfl g 24 (by rfl) a1 (fun w hS=>hS.2.2.2)) (by assumption) ?_;simp only[Act.put,sA,sB,sC];refine wpAnyH_take (i:=22) (oi:=⟨some 118,.load 38 (.tmp 4),38,_,_,some (17,true)⟩) (v:=.agg y.vals) rfl kR kR kR (fun _ _ _ h=>h) (zCu (by rfl) (.tmp 4) rfl b2 0 (by rfl) y (fun w hS=>hS.2.1)) (by assumption) ?_;simp only[Act.put,sA,sB,sC];refine wR [21] (rC rfl (fun KK hK=> ?_) rN);go_simp;go_at_call 14;refine(zDD a1 (zNy HA1.out HKIY.out) HF1.out HQ1.out hs).mono ?_;rintro e wq ⟨o5,K5,rfl,hm5,hkk5,hf5,hs⟩;refine zK hK (HSG.out _ _ hs) (fun hHeld=> ?_);clear hK KK
      have HM5:=hQd hm5;have HO5:=hQd hf5;have HQY:=hQd (Know.has_trans hkk5 HQY.out);clear hm5 hf5 hkk5;refine wR [23] (rC rfl (fun KK hK=> ?_) rN);go_simp;go_at_call 14;refine(zDD y HKIY.out (FrR.fit HAY.out HFY.out) HQY.out hs).mono ?_;rintro e wq ⟨o6,K6,rfl,hm6,hkk6,hf6,hs⟩;refine zK hK (HSG.out _ _ hs) (fun hHeld=> ?_);clear hK KK
      have HM6:=hQd hm6;have HO6:=hQd hf6;have HO5:=hQd (HO5.out.more hkk6);clear hm6 hf6 hkk6;refine wR [24] (rC rfl (fun KK hK=> ?_) rN);go_simp;go_at_call 17;refine(zDY o5 o6 true (by rw[HM5.out,HM6.out,HA1.out];simp) HO5.out HO6.out hs).mono ?_;rintro e wq ⟨rfl,hs⟩;refine zK hK (HSG.out _ _ hs) (fun hHeld=> ?_);clear hK KK
      refine tR 25 ?_;refine tR 26 ?_;refine wpAnyH_done kR ?_ _;clear hHeld
      --11
      go_wp2_with fail;go_ret;exact⟨rfl,hs.below⟩
theorem zF0(x y:FrR)(ns:List Int)(v:Value)(W:World)(hx:QFr W x)(hy:QFr W y)(hns:∀x∈ns,0≤x∧x<256)(hr:RowsOf (fun _ cs x=>RU8 cs x) (· <W.heap.size) W v 1 ns)(hq:Know.reqs.p W (· <W.heap.size)):
 Calls Jb 8 #[.agg x.vals,.agg y.vals,v] W fun en w'=>en=Y (U true)∧Below W.heap.size W w':=by
 have h1:St W W (Know.flat RU8 v 1 ns) []:=St.start hr;have h0:St W W Know.reqs []:=St.start hq;obtain⟨q,cap,hv⟩:∃q cap,v=V q ns.length cap:=by obtain⟨p,cap,hv,_⟩:=hr;exact⟨p,cap,hv⟩
 subst hv;have h:=h0.twoF ((hx.2.twoF hy.2).twoF h1);exact zSP x y hx.1 hy.1 ns hns q cap (Know.has_left (Know.has_refl _)) (Know.has_right (Know.has_left (Know.has_left (Know.has_refl _)))) (Know.has_right (Know.has_left (Know.has_right (Know.has_refl _)))) (Know.has_right (Know.has_right (Know.has_refl _))) h
end Go.Proofs.YteldcbljedeeiaaGreatDoor
