/- A text. -/
import Derived.Test.YteldcbljedeeiaaGreatDoorGWholeFramesCard9
import Derived.Test.YteldcbljedeeiaaGreatDoorGWholeFramesCard16
import Derived.Test.YteldcbljedeeiaaGreatDoorGWholeFramesCard4
import Derived.Test.YteldcbljedeeiaaGreatDoorGWholeFramesCard5
import Derived.Test.YteldcbljedeeiaaGreatDoorGWholeFramesCard13
import Derived.Test.YteldcbljedeeiaaGreatDoorGWholeFramesCard14
import Derived.Test.YteldcbljedeeiaaGreatDoorGWholeFramesCard15
import Derived.RegionTactic
import Derived.Deep.RegionHeld3
import Derived.Deep.DeepCutAuto
import Derived.WalkMore
import Derived.BigQuiet
import Derived.Lib.SliceRun
import Derived.Test.YteldcbljedeeiaaGreatDoorGWholeFramesCard7
import Derived.Test.YteldcbljedeeiaaGreatDoorGWholeFramesCard8
import Derived.Test.YteldcbljedeeiaaGreatDoorGWholeFramesCard6
import Derived.ScopeJumps
import Derived.Test.YteldcbljedeeiaaGreatDoorGWholeFramesCard2
import Derived.Test.YteldcbljedeeiaaGreatDoorGWholeFramesCard11
import Derived.Test.YteldcbljedeeiaaGreatDoorGWholeFramesCard3
import Derived.Laws.CopyOwn
import Derived.Laws.AppendOwnNone
import Derived.Test.YteldcbljedeeiaaGreatDoorGWholeFramesCard1
/- A text. -/
namespace Go.Proofs.YteldcbljedeeiaaGreatDoor
open Go.RowKit
set_option maxRecDepth 100000
set_option maxHeartbeats 8000000
open Go.Value renaming bool→U, string→Z, slice→V, int→I, pointer→Ja
open Go.Ending renaming returned→Y
open Go.IntKind renaming i64→O
open _root_.Go.Proofs.Tryz renaming prog→Jb
open _root_.Nat renaming zero_le→Jd, add_assoc→Jm
open _root_.List renaming take_succ_eq_append_getElem→Jf, length_cons→Jn, length_append→Jc, append_nil→Jp, length_drop→Jh, drop_drop→Jk, append_assoc→Je, flatMap_cons→Jg, getElem_mem→Ji, length_map→Jj, take→Jl, drop→Jo
set_option maxHeartbeats 8000000
set_option maxRecDepth 100000
variable {W0 w:World}{K:Know}{L:List Res}
theorem zq2{p:Prop}(h:p:=by
  obtain⟨⟨⟨nm,pl⟩,i3⟩,hi3⟩:∃r,i2.ptop=r:=⟨_,rfl⟩;obtain⟨er,her⟩:=eX i3.err;have HX:=hQd hi3;have HS3:=hQd (show i3.s=i.s by have:=zNs i2;rw[hi3]at this;rw[this];exact HS.out)
  have hstep:(if er=0 then InS.ptopsN (n - (k+1)) (acc.map PTop.pt++[(nm,pl)]) i3 else([],i3))=(ts,j):=by
    have h1:=HP.out;rw[show n - k=(n - (k+1))+1 by omega]at h1;have h2:(if i2.ptop.2.err=0 then InS.ptopsN (n - (k+1)) (acc.map PTop.pt++[i2.ptop.1]) i2.ptop.2 else([],i2.ptop.2))=(ts,j):=h1;rw[hi3]at h2;simp only at h2;rw[her]at h2;exact h2
  have HKN:=hQd (show k≤2147483647 by have:=HNL.out;omega);have hkn:(k:Int)<(n:Int):=by omega
  have HER:=hQd her;clear hi3
  by_cases he0:er=0
  · rw[if_pos he0]at hstep;have HP2:=hQd hstep;subst he0;clear hstep her;go_wp2_with fail;have hs:=H.out.drew;refine wp_region_held_drew (S:=fun _=>True) kR trivial (fun hHeld=> ?_);refine tR 0 ?_;refine tR 2 ?_;refine wR [1,3] (rC rfl (fun KK hK=> ?_) (rC rfl (fun KK hK=> ?_) rN))
    focus
      have z1:=hs.p1.rawCell 4;simp at z1;go_simp;refine zK hK (trivial) (fun hHeld=> ?_);clear hK KK
      clear z1;refine wR [3] (rC rfl (fun KK hK=> ?_) rN);go_simp;go_at_call 175;with_reducible refine(zKy p i2 i3 nm pl HX.out (by rw[HS.out];exact HDL.out) HER.out hs.p2).mono ?_;rintro e wq ⟨q,n2,cap,lr,K3,rfl,hk3,hgd,hs⟩;refine zK hK (trivial) (fun hHeld=> ?_);clear hK KK
      have hs:=hs.p2.p2;refine wR [4] (rC rfl (fun KK hK=> ?_) rN);rw[if_pos (by rfl)];refine zBt (zCW _ _ _ _ kR (zHg (Z (bb nm)) (V q n2 cap) _)) ?_;obtain⟨wy,b2,ey,eb,hs⟩:=hs.allocEx #[Z (bb nm),V q n2 cap] 178;rw[ey,eb];clear ey eb;refine zK hK (trivial) (fun hHeld=> ?_);clear hK KK
    rotate_left
    focus
      go_simp;go_at_call 175;with_reducible refine(zKy p i2 i3 nm pl HX.out (by rw[HS.out];exact HDL.out) HER.out hs.p2).mono ?_;rintro e wq ⟨q,n2,cap,lr,K3,rfl,hk3,hgd,hs⟩;refine zK hK (trivial) (fun hHeld=> ?_);clear hK KK
      have hs:=hs.p2.p2;refine wR [1,4] (rC rfl (fun KK hK=> ?_) (rC rfl (fun KK hK=> ?_) rN))
      focus
       have z1:=hs.p1.rawCell 4;simp at z1;go_simp;refine zK hK (trivial) (fun hHeld=> ?_);clear hK KK
       clear z1;refine wR [4] (rC rfl (fun KK hK=> ?_) rN);rw[if_pos (by rfl)];refine zBt (zCW _ _ _ _ kR (zHg (Z (bb nm)) (V q n2 cap) _)) ?_;obtain⟨wy,b2,ey,eb,hs⟩:=hs.allocEx #[Z (bb nm),V q n2 cap] 178;rw[ey,eb];clear ey eb;refine zK hK (trivial) (fun hHeld=> ?_);clear hK KK
      rotate_left
      focus
       rw[if_pos (by rfl)];refine zBt (zCW _ _ _ _ kR (zHg (Z (bb nm)) (V q n2 cap) _)) ?_;obtain⟨wy,b2,ey,eb,hs⟩:=hs.allocEx #[Z (bb nm),V q n2 cap] 178;rw[ey,eb];clear ey eb;refine zK hK (trivial) (fun hHeld=> ?_);clear hK KK
       refine wR [1] (rC rfl (fun KK hK=> ?_) rN);have z1:=hs.p2.rawCell 4;simp at z1;go_simp;refine zK hK (trivial) (fun hHeld=> ?_);clear hK KK
       clear z1
    all_goals
      refine wR [5] (rC rfl (fun KK hK=> ?_) rN);rw[if_pos (by rfl)];refine zGF (.tmp 21) (.tmp 24) 34 rfl 178 Tryz.underlying34 zQN _ _ _ (by rfl) b2 #[Z (bb nm),V q n2 cap] 178 hs (by rfl) rfl (by simp[Value.oneCell']) (by have:=HKN.out;unfold maxLen;omega) (by have:=HKN.out;omega) (fun v' w' h=> ?_);have hs:=h;clear h;obtain⟨qv,cv,hv⟩:=hs.rowAny;subst hv;refine zK hK (trivial) (fun hHeld=> ?_);clear hK KK
      refine tR 6 ?_;refine wR [7] (rC rfl (fun KK hK=> ?_) rN);have hs:=hs.p1;have q1:=hs.rawFree 4;have z1:=hs.rawCell 4;simp at z1;rw[if_pos (by rfl)];refine zMz (w':=w'.setCell ⟨tb,4,none⟩ (V qv (k+1) cv)) (by go_simp) ?_;obtain⟨wz,ez,hs⟩:=hs.setExP 4 (V qv (k+1) cv);rw[ez];clear ez q1 z1;have hs:=hs.p1;refine hK.out _ _ (trivial) (fun hHeld=> ?_);clear hK KK
      try simp only[Act.put]
      refine wpAnyH_done kR ?_ _;clear hHeld;have HK3:=hQd hk3;clear hk3;replace H:=hQd hs;clear hs;go_wp2_with (go_at_call 22;(try clear y0 y1 y2 y3 y4 w0 w1 w2 w3 w4 v0 v1 v2 v3 v4);(with_reducible refine(zOx p i3 0 HER.out H.out.p2).mono ?_);rintro e_ wn ⟨rfl,h⟩;have h:=h.p2.p2;obtain⟨y0,y1,y2,y3,y4⟩:=uR5 h.p1;obtain⟨w0,w1,w2,w3,w4⟩:=uS5 h.p3;obtain⟨v0,v1,v2,v3,v4⟩:=uR5 h.p3;simp at y0 y1 y2 y3 y4 v0 v1 v2 v3 v4;replace H:=hQd h;clear h);go_roundw
      case rel=>
       obtain⟨hn2,hlb,hkb,hmb⟩:=hgd HER.out;subst hn2;refine⟨k+1,V qv (k+1) cv,xs++[Z (bb nm),V q lr.length cap],i3,acc++[⟨nm,lr,q,cap⟩],K3,hlt,by go_num,?_,?_,?_,?_,?_,?_,?_⟩
       · exact hQd (by rw[Jc,←HAL.out];rfl)
       · exact hQd (by rw[List.flatMap_append,HXS.out];rfl)
       · exact hQd (by rw[List.map_append];have:=HP2.out;rw[←hlb]at this;exact this)
       · exact hQd (Know.has_trans HK3.out HKK.out)
       · exact zq30
       · exact hQd HS3.out
       · exact H.out
      case measure=>first|(simp[intOf];done)|(simp[intOf];omega)
  · rw[if_neg he0]at hstep;exact absurd HG.out (by have e9:i3=j:=congrArg Prod.snd hstep;rw[←e9,her];exact he0)):p:=h
theorem zq22{p:Prop}(h:p:=by refine⟨0,V none 0 0,[],c,[],K,Jd _,rfl,hQd rfl,hQd rfl,hQd HX0.out,hQd (Know.has_refl _),hQd (fun x hx=>by cases hx),hQd HS0.out,?_⟩;exact(H.out.p1.nilRow 178 2)):p:=h
theorem zq26{p:Prop}(h:p:=by have h9:=zKF (M:=i.s.length) n [] c (by rw[hs0];exact Nat.le_refl _) (fun x hx=>by cases hx);rw[h5,List.length_nil]at h9;exact⟨Nat.le_trans h9.1 oM,h9.2⟩):p:=h
theorem zGm(p:Nat)(v:Int)(i i1 i2 i3 c j:InS)(dd:Bs)(ac tm:Int)(n:Nat)(ts:List (Bs×List (Int×List BatS)))(h1:i.fixed 2=(⟨false,dd⟩,i1))(h2:i1.int 2=(ac,i2))(h3:i2.int 4=(tm,i3))(h4:i3.cnt 6=(n,c))(h5:InS.ptopsN n [] c=(ts,j))(hd:i.s.length≤1000000)(hg:j.err=0)(hge:∀lr:List PTop,lr.map PTop.pt=ts→zA9 ⟨false,dd⟩ ac tm v lr=0)(h:St W0 w K (.inp p i::L)):
 Calls Jb 118 #[zAe p,I O v] w fun en w'=>∃(q:Option Addr) (cap:Nat) (lr:List PTop) (K2:Know),K2.has K∧lr.map PTop.pt=ts∧(∀x∈lr,CkT x)∧lr.length≤1000000∧en=Y (.agg #[U false,Z (bb dd),I O ac,I O tm,V q lr.length cap])∧K2.has (Know.ptops (V q lr.length cap) lr)∧St W0 w' K2 (.inp p j::L):=by
 have s1:i1.s=i.s:=by have:=(zBw i 2).1;rw[h1]at this;exact this
 have s2:i2.s=i1.s:=by have:=zCe i1 2;rw[h2]at this;exact this
 have s3:i3.s=i2.s:=by have:=zCe i2 4;rw[h3]at this;exact this
 have s4:c.s=i3.s:=by have:=zG7 i3 6;rw[h4]at this;exact this
 have hs0:c.s=i.s:=by rw[s4,s3,s2,s1]
 have hn9:n≤1000000:=by have h9:=zJC i3 6 dD;rw[h4,s3,s2,s1]at h9;exact Nat.le_trans h9 hd
 have hok:ts.length≤1000000∧∀x∈ts,PtOk i.s.length x:=by
  exact zq26
 have hdd:dd.length≤140737488355328:=by have h9:=(zBw i 2).2;rw[h1]at h9;have h9:dd.length≤i.s.length:=h9;omega
 obtain⟨rb,hrb⟩:=eX w.heap.size;obtain⟨tb,htb⟩:=eX (rb+1);have g1:=((h.allocRaw #[U false,Z ⟨#[]⟩,I O 0,I O 0,V none 0 0] 36).allocRaw #[U false,Z ⟨#[]⟩,I O 0,I O 0,V none 0 0] 36).p2;simp only[World.size_alloc,hrb,htb]at g1;have H:=hQd g1;have H1:=hQd h1;have H2:=hQd h2;have H3:=hQd h3;have H4:=hQd h4;have HX0:=hQd h5;have HG:=hQd hg;have HGE:=hQd hge;have HS0:=hQd hs0;have HDL:=hQd hd;have HOK:=hQd hok;have HDD:=hQd hdd;have HNL:=hQd hn9;have hni:(n:Int)≤1000000:=by omega
 clear hg hge h g1 h1 h2 h3 h4 h5 hd hs0 hok hdd hn9 s1 s2 s3 s4;go_enter Tryz.func118,Tryz.ntmps118
 go_wp2_with (first
  |(go_at_call 117;(try clear x0 x1 x2 x3);(with_reducible refine(zI5 p i i1 2 false dd H1.out H.out).mono ?_);rintro e_ wn ⟨rfl,h⟩;have h:=h.p1;have x0:=h.rawFree 0;have x1:=h.rawCell 0;have x2:=h.rawFree 1;have x3:=h.rawCell 1;simp at x1 x3;have h:=(show St W0 ((wn.setCell ⟨tb,0,none⟩ (U false)).setCell ⟨tb,1,none⟩ (Z (bb dd))) K (.inp p i1::.raw tb #[U false,Z (bb dd),I O 0,I O 0,V none 0 0] 36::.raw rb #[U false,Z ⟨#[]⟩,I O 0,I O 0,V none 0 0] 36::L)from((h.rawSet 0 (U false)).rawSet 1 (Z (bb dd))).p1);replace H:=hQd h;clear h)
  |(go_at_call 66;(try clear x0 x1 x2 x3);(with_reducible refine(zMy p i1 i2 ac 2 H2.out H.out).mono ?_);rintro e_ wn ⟨rfl,h⟩;have h:=h.p1;have x0:=h.rawFree 2;have x1:=h.rawCell 2;simp at x1;have h:=(show St W0 (wn.setCell ⟨tb,2,none⟩ (I O ac)) K (.inp p i2::.raw tb #[U false,Z (bb dd),I O ac,I O 0,V none 0 0] 36::.raw rb #[U false,Z ⟨#[]⟩,I O 0,I O 0,V none 0 0] 36::L)from(h.rawSet 2 (I O ac)).p1);replace H:=hQd h;clear h)
  |(go_at_call 66;(try clear x0 x1 x2 x3);(with_reducible refine(zMy p i2 i3 tm 4 H3.out H.out).mono ?_);rintro e_ wn ⟨rfl,h⟩;have h:=h.p1;have x0:=h.rawFree 3;have x1:=h.rawCell 3;simp at x1;have h:=(show St W0 (wn.setCell ⟨tb,3,none⟩ (I O tm)) K (.inp p i3::.raw tb #[U false,Z (bb dd),I O ac,I O tm,V none 0 0] 36::.raw rb #[U false,Z ⟨#[]⟩,I O 0,I O 0,V none 0 0] 36::L)from(h.rawSet 3 (I O tm)).p1);replace H:=hQd h;clear h)
  |(go_at_call 174;(try clear x0 x1 x2 x3);(with_reducible refine(zRP p i3 c 6 n 6 rfl H4.out H.out).zM ?_);clear H;intro wn H))
 go_loopw [18] (fun iv wr=>∃(k:Nat) (v:Value) (xs:List Value) (i2:InS) (acc:List PTop) (K2:Know),k≤n∧iv=I O k∧Hid (k=acc.length)∧Hid (xs=acc.flatMap zE8)∧Hid (InS.ptopsN (n - k) (acc.map PTop.pt) i2=(ts,j))∧Hid (K2.has K)∧Hid (∀x∈acc,K2.has (Know.pparts (V x.q x.l.length x.cap) x.l)∧∀y∈x.l,∀z∈y.l,z.l.map (·.1)=z.b.recs)∧Hid (i2.s=i.s)∧St W0 wr K2 (.row v 178 2 k xs::.raw tb #[U false,Z (bb dd),I O ac,I O tm,v] 36::.inp p i2::.raw rb #[U false,Z ⟨#[]⟩,I O 0,I O 0,V none 0 0] 36::L)) (fun iv _=>n - (intOf iv).toNat)
 case atStart=>
  exact zq22
 case round=>
  obtain⟨k,v9,xs,i2,acc,K2,hk,rfl,HAL,HXS,HP,HKK,HALL,HS,hst⟩:=hrel;clear H;obtain⟨qv0,cv0,hv0⟩:=hst.rowAny;subst hv0;have H:=hQd hst;clear hst
  by_cases hlt:k<n
  ·exact zq2
  ·obtain rfl:k=n:=by omega
   have hp:=HP.out;rw[Nat.sub_self]at hp;have hp:(acc.map PTop.pt,i2)=(ts,j):=hp;simp only[Prod.mk.injEq]at hp;obtain⟨hpl,rfl⟩:=hp;have HPL:=hQd hpl;have HLL:=hQd (show acc.length≤1000000 by have h9:=HOK.out.1;rw[←hpl,Jj]at h9;exact h9);have HCK:=hQd (show ∀x∈acc,CkT x from fun x hx=>zSL HDL.out x (HOK.out.2 x.pt (by rw[←hpl];exact List.mem_map_of_mem hx)) (HALL.out x hx).2);have HOT:=hQd (show ∀x∈acc,PtOk i.s.length x.pt∧∀y∈x.l,∀z∈y.l,z.l.map (·.1)=z.b.recs from fun x hx=>⟨HOK.out.2 x.pt (by rw[←hpl];exact List.mem_map_of_mem hx),(HALL.out x hx).2⟩);clear hpl;obtain⟨er,her⟩:=eX i2.err;have HER:=hQd her
   by_cases he0:er=0
   ·subst he0;clear her;have hf:=H.out.freezeTopsK HAL.out HXS.out (fun x hx=>(HALL.out x hx).1);have HK9:=hQd (show(K2.and (Know.ptops (V qv0 k cv0) acc)).has (Know.ptops (V qv0 k cv0) acc)from Know.has_right (Know.has_refl _));have HK8:=hQd (show(K2.and (Know.ptops (V qv0 k cv0) acc)).has K from Know.has_trans (Know.has_left (Know.has_refl _)) HKK.out);clear H;have H:=hQd hf;clear hf;obtain⟨e,he⟩:=eX (zA9 ⟨false,dd⟩ ac tm v acc);have HE:=hQd he
    by_cases h0:e=0
    ·subst h0;clear he
     go_wp2_with (first
  |(go_at_call 22;(try clear y0 y1 y2 y3 y4 w0 w1 w2 w3 w4 v0 v1 v2 v3 v4);(with_reducible refine(zOx p i2 0 HER.out H.out.p1).mono ?_);rintro e_ wn ⟨rfl,h⟩;have h:=h.p1;obtain⟨y0,y1,y2,y3,y4⟩:=uR5 h;obtain⟨w0,w1,w2,w3,w4⟩:=uS5 h.p2;obtain⟨v0,v1,v2,v3,v4⟩:=uR5 h.p2;simp at y0 y1 y2 y3 y4 v0 v1 v2 v3 v4;replace H:=hQd h;clear h)
  |(go_at_call 152;(try clear y0 y1 y2 y3 y4 w0 w1 w2 w3 w4 v0 v1 v2 v3 v4);(with_reducible refine(zGs false dd ac tm v acc qv0 cv0 k HAL.out HDD.out HCK.out (Nat.le_trans HLL.out dD) 0 HE.out HK9.out H.out).mono ?_);rintro e_ wn ⟨rfl,h⟩;obtain⟨y0,y1,y2,y3,y4⟩:=uR5 h;obtain⟨w0,w1,w2,w3,w4⟩:=uS5 h.p2;obtain⟨v0,v1,v2,v3,v4⟩:=uR5 h.p2;simp at y0 y1 y2 y3 y4 v0 v1 v2 v3 v4;replace H:=hQd h;clear h))
     have hz:St W0 _ _ (.raw rb #[U false,Z (bb dd),I O ac,I O tm,V qv0 k cv0] 36::_):=St.sets5P _ _ _ _ _ H.out.p2;refine bodyPost_ret (zBr rfl _ _ rb [U false,Z (bb dd),I O ac,I O tm,V qv0 k cv0] _ rfl (zDd hz) Tryz.underlying36 rfl kR) rfl ?_;have hn:=HAL.out;subst hn;exact⟨qv0,cv0,acc,_,HK8.out,HPL.out,HCK.out,HLL.out,rfl,HK9.out,hz.drop.drop⟩
    ·exact absurd (he.symm.trans (HGE.out acc HPL.out)) h0
   ·exact absurd (her.symm.trans HG.out) he0
theorem zHw(p:Nat)(v:Int)(i i1 i2 i3 c j:InS)(dd:Bs)(ac tm:Int)(n:Nat)(ts:List (Bs×List (Int×List BatS)))(h1:i.fixed 2=(⟨true,dd⟩,i1))(h2:i1.int 2=(ac,i2))(h3:i2.int 4=(tm,i3))(h4:i3.cnt 6=(n,c))(h5:InS.ptopsN n [] c=(ts,j))(hd:i.s.length≤1000000)(hg:j.err=0)(hge:∀lr:List PTop,lr.map PTop.pt=ts→zA9 ⟨true,dd⟩ ac tm v lr=0)(h:St W0 w K (.inp p i::L)):
 Calls Jb 118 #[zAe p,I O v] w fun en w'=>∃(q:Option Addr) (cap:Nat) (lr:List PTop) (K2:Know),K2.has K∧lr.map PTop.pt=ts∧(∀x∈lr,CkT x)∧lr.length≤1000000∧en=Y (.agg #[U true,Z (bb dd),I O ac,I O tm,V q lr.length cap])∧K2.has (Know.ptops (V q lr.length cap) lr)∧St W0 w' K2 (.inp p j::L):=by
 have s1:i1.s=i.s:=by have:=(zBw i 2).1;rw[h1]at this;exact this
 have s2:i2.s=i1.s:=by have:=zCe i1 2;rw[h2]at this;exact this
 have s3:i3.s=i2.s:=by have:=zCe i2 4;rw[h3]at this;exact this
 have s4:c.s=i3.s:=by have:=zG7 i3 6;rw[h4]at this;exact this
 have hs0:c.s=i.s:=by rw[s4,s3,s2,s1]
 have hn9:n≤1000000:=by have h9:=zJC i3 6 dD;rw[h4,s3,s2,s1]at h9;exact Nat.le_trans h9 hd
 have hok:ts.length≤1000000∧∀x∈ts,PtOk i.s.length x:=by
  exact zq26
 have hdd:dd.length≤140737488355328:=by have h9:=(zBw i 2).2;rw[h1]at h9;have h9:dd.length≤i.s.length:=h9;omega
 obtain⟨rb,hrb⟩:=eX w.heap.size;obtain⟨tb,htb⟩:=eX (rb+1);have g1:=((h.allocRaw #[U false,Z ⟨#[]⟩,I O 0,I O 0,V none 0 0] 36).allocRaw #[U false,Z ⟨#[]⟩,I O 0,I O 0,V none 0 0] 36).p2;simp only[World.size_alloc,hrb,htb]at g1;have H:=hQd g1;have H1:=hQd h1;have H2:=hQd h2;have H3:=hQd h3;have H4:=hQd h4;have HX0:=hQd h5;have HG:=hQd hg;have HGE:=hQd hge;have HS0:=hQd hs0;have HDL:=hQd hd;have HOK:=hQd hok;have HDD:=hQd hdd;have HNL:=hQd hn9;have hni:(n:Int)≤1000000:=by omega
 clear hg hge h g1 h1 h2 h3 h4 h5 hd hs0 hok hdd hn9 s1 s2 s3 s4;go_enter Tryz.func118,Tryz.ntmps118
 go_wp2_with (first
  |(go_at_call 117;(try clear x0 x1 x2 x3);(with_reducible refine(zI5 p i i1 2 true dd H1.out H.out).mono ?_);rintro e_ wn ⟨rfl,h⟩;have h:=h.p1;have x0:=h.rawFree 0;have x1:=h.rawCell 0;have x2:=h.rawFree 1;have x3:=h.rawCell 1;simp at x1 x3;have h:=(show St W0 ((wn.setCell ⟨tb,0,none⟩ (U true)).setCell ⟨tb,1,none⟩ (Z (bb dd))) K (.inp p i1::.raw tb #[U true,Z (bb dd),I O 0,I O 0,V none 0 0] 36::.raw rb #[U false,Z ⟨#[]⟩,I O 0,I O 0,V none 0 0] 36::L)from((h.rawSet 0 (U true)).rawSet 1 (Z (bb dd))).p1);replace H:=hQd h;clear h)
  |(go_at_call 66;(try clear x0 x1 x2 x3);(with_reducible refine(zMy p i1 i2 ac 2 H2.out H.out).mono ?_);rintro e_ wn ⟨rfl,h⟩;have h:=h.p1;have x0:=h.rawFree 2;have x1:=h.rawCell 2;simp at x1;have h:=(show St W0 (wn.setCell ⟨tb,2,none⟩ (I O ac)) K (.inp p i2::.raw tb #[U true,Z (bb dd),I O ac,I O 0,V none 0 0] 36::.raw rb #[U false,Z ⟨#[]⟩,I O 0,I O 0,V none 0 0] 36::L)from(h.rawSet 2 (I O ac)).p1);replace H:=hQd h;clear h)
  |(go_at_call 66;(try clear x0 x1 x2 x3);(with_reducible refine(zMy p i2 i3 tm 4 H3.out H.out).mono ?_);rintro e_ wn ⟨rfl,h⟩;have h:=h.p1;have x0:=h.rawFree 3;have x1:=h.rawCell 3;simp at x1;have h:=(show St W0 (wn.setCell ⟨tb,3,none⟩ (I O tm)) K (.inp p i3::.raw tb #[U true,Z (bb dd),I O ac,I O tm,V none 0 0] 36::.raw rb #[U false,Z ⟨#[]⟩,I O 0,I O 0,V none 0 0] 36::L)from(h.rawSet 3 (I O tm)).p1);replace H:=hQd h;clear h)
  |(go_at_call 174;(try clear x0 x1 x2 x3);(with_reducible refine(zRP p i3 c 6 n 6 rfl H4.out H.out).zM ?_);clear H;intro wn H))
 go_loopw [18] (fun iv wr=>∃(k:Nat) (v:Value) (xs:List Value) (i2:InS) (acc:List PTop) (K2:Know),k≤n∧iv=I O k∧Hid (k=acc.length)∧Hid (xs=acc.flatMap zE8)∧Hid (InS.ptopsN (n - k) (acc.map PTop.pt) i2=(ts,j))∧Hid (K2.has K)∧Hid (∀x∈acc,K2.has (Know.pparts (V x.q x.l.length x.cap) x.l)∧∀y∈x.l,∀z∈y.l,z.l.map (·.1)=z.b.recs)∧Hid (i2.s=i.s)∧St W0 wr K2 (.row v 178 2 k xs::.raw tb #[U true,Z (bb dd),I O ac,I O tm,v] 36::.inp p i2::.raw rb #[U false,Z ⟨#[]⟩,I O 0,I O 0,V none 0 0] 36::L)) (fun iv _=>n - (intOf iv).toNat)
 case atStart=>
  exact zq22
 case round=>
  obtain⟨k,v9,xs,i2,acc,K2,hk,rfl,HAL,HXS,HP,HKK,HALL,HS,hst⟩:=hrel;clear H;obtain⟨qv0,cv0,hv0⟩:=hst.rowAny;subst hv0;have H:=hQd hst;clear hst
  by_cases hlt:k<n
  ·exact zq2
  ·obtain rfl:k=n:=by omega
   have hp:=HP.out;rw[Nat.sub_self]at hp;have hp:(acc.map PTop.pt,i2)=(ts,j):=hp;simp only[Prod.mk.injEq]at hp;obtain⟨hpl,rfl⟩:=hp;have HPL:=hQd hpl;have HLL:=hQd (show acc.length≤1000000 by have h9:=HOK.out.1;rw[←hpl,Jj]at h9;exact h9);have HCK:=hQd (show ∀x∈acc,CkT x from fun x hx=>zSL HDL.out x (HOK.out.2 x.pt (by rw[←hpl];exact List.mem_map_of_mem hx)) (HALL.out x hx).2);have HOT:=hQd (show ∀x∈acc,PtOk i.s.length x.pt∧∀y∈x.l,∀z∈y.l,z.l.map (·.1)=z.b.recs from fun x hx=>⟨HOK.out.2 x.pt (by rw[←hpl];exact List.mem_map_of_mem hx),(HALL.out x hx).2⟩);clear hpl;obtain⟨er,her⟩:=eX i2.err;have HER:=hQd her
   by_cases he0:er=0
   ·subst he0;clear her;have hf:=H.out.freezeTopsK HAL.out HXS.out (fun x hx=>(HALL.out x hx).1);have HK9:=hQd (show(K2.and (Know.ptops (V qv0 k cv0) acc)).has (Know.ptops (V qv0 k cv0) acc)from Know.has_right (Know.has_refl _));have HK8:=hQd (show(K2.and (Know.ptops (V qv0 k cv0) acc)).has K from Know.has_trans (Know.has_left (Know.has_refl _)) HKK.out);clear H;have H:=hQd hf;clear hf;obtain⟨e,he⟩:=eX (zA9 ⟨true,dd⟩ ac tm v acc);have HE:=hQd he
    by_cases h0:e=0
    ·subst h0;clear he
     go_wp2_with (first
  |(go_at_call 22;(try clear y0 y1 y2 y3 y4 w0 w1 w2 w3 w4 v0 v1 v2 v3 v4);(with_reducible refine(zOx p i2 0 HER.out H.out.p1).mono ?_);rintro e_ wn ⟨rfl,h⟩;have h:=h.p1;obtain⟨y0,y1,y2,y3,y4⟩:=uR5 h;obtain⟨w0,w1,w2,w3,w4⟩:=uS5 h.p2;obtain⟨v0,v1,v2,v3,v4⟩:=uR5 h.p2;simp at y0 y1 y2 y3 y4 v0 v1 v2 v3 v4;replace H:=hQd h;clear h)
  |(go_at_call 152;(try clear y0 y1 y2 y3 y4 w0 w1 w2 w3 w4 v0 v1 v2 v3 v4);(with_reducible refine(zGs true dd ac tm v acc qv0 cv0 k HAL.out HDD.out HCK.out (Nat.le_trans HLL.out dD) 0 HE.out HK9.out H.out).mono ?_);rintro e_ wn ⟨rfl,h⟩;obtain⟨y0,y1,y2,y3,y4⟩:=uR5 h;obtain⟨w0,w1,w2,w3,w4⟩:=uS5 h.p2;obtain⟨v0,v1,v2,v3,v4⟩:=uR5 h.p2;simp at y0 y1 y2 y3 y4 v0 v1 v2 v3 v4;replace H:=hQd h;clear h))
     have hz:St W0 _ _ (.raw rb #[U true,Z (bb dd),I O ac,I O tm,V qv0 k cv0] 36::_):=St.sets5P _ _ _ _ _ H.out.p2;refine bodyPost_ret (zBr rfl _ _ rb [U true,Z (bb dd),I O ac,I O tm,V qv0 k cv0] _ rfl (zDd hz) Tryz.underlying36 rfl kR) rfl ?_;have hn:=HAL.out;subst hn;exact⟨qv0,cv0,acc,_,HK8.out,HPL.out,HCK.out,HLL.out,rfl,HK9.out,hz.drop.drop⟩
    ·exact absurd (he.symm.trans (HGE.out acc HPL.out)) h0
   ·exact absurd (her.symm.trans HG.out) he0
theorem zFf(h:HeadS)(hh:zAq h=0)(r:Bs):(⟨zAl h++r,0,0⟩:InS).head=(h,⟨zAl h++r,(zAl h).length,0⟩):=by
 have h1:=zRG.ok (zAl h++r) 0 h (zAl h).length (Jd _) (by rw[List.drop_zero];exact zMo h hh r);have h2:=h1.2;rw[Nat.zero_add]at h2;exact h2
variable {W0 w:World}{K:Know}{L:List Res}
theorem zTn{l:List PTop}(h:∀x∈l,CkT x):∀x∈l,EqT x:=fun x hx=>
  ⟨(h x hx).len,fun y hy=>⟨((h x hx).parts y hy).len,fun z hz=>by
    have c:=((h x hx).parts y hy).bats z hz
    exact⟨c.len,c.recs,fun v hv=>by have:=zNf (c.fit v hv).2.2;omega⟩⟩⟩
def FrR.IsF (x:FrR) (K2:Know) (X:Array Value):Prop:=∃y:FrR,X=y.vals∧y.sem=x.sem∧y.Fit∧K2.has y.know
theorem rdB_ok(x:FrR)(ha:x.Arg)(hf:x.Few)(hh:zAq x.hd=0)(he:x.bE=0)(bi rf:Nat)(h:St W0 w K (.inp bi ⟨x.inner,(zAl x.hd).length,0⟩::.raw rf #[I O x.k,I O x.v,I O x.num,U x.u,Z (bb x.cs),U false,Z ⟨#[]⟩,I O 0,I O 0,I O 0,Z ⟨#[]⟩,I O 0,I O 0,V none 0 0,Z ⟨#[]⟩,I O 0,I O 0,U false,V none 0 0,U false,Z ⟨#[]⟩,I O 0,I O 0,V none 0 0] 38::L)):
 Calls Jb 69 #[zAe bi,Ja (some ⟨rf,0,none⟩)] w fun en w'=>en=Y (.tuple #[])∧∃(x5 x6 x7 x8 x9 x10 x11 x12 x13 x14 x15 x16 x17 x18 x19 x20 x21 x22 x23:Value) (K2:Know),K2.has K∧(#[I O x.k,I O x.v,I O x.num,U x.u,Z (bb x.cs),x5,x6,x7,x8,x9,x10,x11,x12,x13,x14,x15,x16,x17,x18,x19,x20,x21,x22,x23]:Array Value).all (fun z=>z.oneCell')=true∧x.IsF K2 #[I O x.k,I O x.v,I O x.num,U x.u,Z (bb x.cs),x5,x6,x7,x8,x9,x10,x11,x12,x13,x14,x15,x16,x17,x18,x19,x20,x21,x22,x23]∧St W0 w' K2 (.inp bi ⟨x.inner,x.inner.length,0⟩::.raw rf #[I O x.k,I O x.v,I O x.num,U x.u,Z (bb x.cs),x5,x6,x7,x8,x9,x10,x11,x12,x13,x14,x15,x16,x17,x18,x19,x20,x21,x22,x23] 38::L):=by
 have hv0:=(zBe _ hh).2.1;have hv:=zBG _ _ hv0;have hin:=FrR.inner_len ha hf hh he;have hmf:=FrR.mfit ha hf;have hmt:=FrR.mFitTs ha hf;obtain⟨S,hS⟩:=eX x.inner;obtain⟨A,hA⟩:=eX (zAl x.hd);have hSA:S=A++x.body:=by rw[←hS,←hA];rfl
 rw[hS]at hin h ⊢;rw[hA]at h;clear hA hS;obtain⟨k,v,num,u,cs,bn,bd,bt,bp,be,ad,ap,ae,aq,al,acap,ed,ep,ee,ec,mq,ml,mcap,pn,pd,pa,pt,pq,pl,pcap⟩:=x;simp only at hmf hmt;have hv0:zAy k v=0:=hv0;have hv:k=0∨(k=22∧v=0)∨(k=22∧v=1)∨(k=24∧v=0)∨(k=26∧v=0)∨k=27:=hv;have hbp:bp<9223372036854775808:=ha.bp.2;have hap:ap<9223372036854775808:=ha.ap.2;have hep:ep<9223372036854775808:=ha.ep.2;have had:ad.length≤1000:=hf.ad;have hbd:bd.length≤1000:=hf.bd;have hed:ed.length≤1000:=hf.ed;have hn20:ml.length≤20:=hf.n20
 rcases hv with rfl|⟨rfl,rfl⟩|⟨rfl,rfl⟩|⟨rfl,rfl⟩|⟨rfl,rfl⟩|rfl
 ·have he:zA9 ⟨pn,pd⟩ pa pt v pl=0:=he;have hSA:S=A++(zAR pn pd pa pt pl):=by rw[hSA];unfold FrR.body;simp only;rw[if_pos dD]
  have G:=GoodReq.of he ha.pf hf.ps hf.pz;have hac:=G.hac;have htm:=G.htm;obtain⟨i1,i2,i3,c,n,h1,h2,h3,h4,h5⟩:=zS2 S A pn pd pa pt pl G.right G.id oM oM G.few G.bk hSA;have hE:∀lr:List PTop,lr.map PTop.pt=pl.map PTop.pt→zA9 ⟨pn,pd⟩ pa pt v lr=0:=fun lr h=>(zQI _ pa pt v h).trans he
  refine(zP2 bi rf ⟨S,A.length,0⟩ ⟨S,S.length,0⟩ v num u cs (fun a b c d q n cap K2=>pn=a∧pd=b∧pa=c∧pt=d∧∃lr:List PTop,n=lr.length∧lr.map PTop.pt=pl.map PTop.pt∧(∀x∈lr,CkT x)∧lr.length≤1000000∧K2.has K∧K2.has (Know.ptops (V q lr.length cap) lr)) (fun w9 L9 h9=>by
   cases pn with
   |false=>refine(zGm bi v _ i1 i2 i3 c _ pd pa pt n _ h1 h2 h3 h4 h5 (by simp only;omega) rfl hE h9).mono ?_;rintro en w' ⟨q,cap,lr,K2,a,b,c,d,e,f,g⟩;exact⟨false,pd,pa,pt,q,lr.length,cap,K2,e,⟨rfl,rfl,rfl,rfl,lr,rfl,b,c,d,a,f⟩,g⟩
   |true=>refine(zHw bi v _ i1 i2 i3 c _ pd pa pt n _ h1 h2 h3 h4 h5 (by simp only;omega) rfl hE h9).mono ?_;rintro en w' ⟨q,cap,lr,K2,a,b,c,d,e,f,g⟩;exact⟨true,pd,pa,pt,q,lr.length,cap,K2,e,⟨rfl,rfl,rfl,rfl,lr,rfl,b,c,d,a,f⟩,g⟩) h).mono ?_
  rintro en w' ⟨rfl,_,_,_,_,q,_,cap,K2,⟨rfl,rfl,rfl,rfl,lr,rfl,hm,hck,hll,hkk,hk2⟩,h⟩;exact⟨rfl,U false,Z ⟨#[]⟩,I O 0,I O 0,I O 0,Z ⟨#[]⟩,I O 0,I O 0,V none 0 0,Z ⟨#[]⟩,I O 0,I O 0,U false,V none 0 0,U pn,Z (bb pd),I O pa,I O pt,V q lr.length cap,K2,hkk,by simp[Value.oneCell'],⟨⟨0,v,num,u,cs,false,[],0,0,0,[],0,0,none,[],0,[],0,0,false,none,[],0,pn,pd,pa,pt,q,lr,cap⟩,rfl,by unfold FrR.sem;simp only[hm];rfl,⟨zB3,fun y hy=>(by cases hy),Jd _,zTn hck,by simp only;omega⟩,Know.has_and (zBv _) (Know.has_and (zAZ _) hk2)⟩,h⟩
 ·have he:begE 0 bn bd bt bp be=0:=he;have hSA:S=A++(encF 2 ⟨bn,bd⟩++zAa bt 4):=by rw[hSA];unfold FrR.body;simp only;rw[if_neg dD,if_pos dD,if_neg dD]
  obtain⟨g1,g2,g3⟩:=zCs he;obtain⟨rfl,rfl⟩:=zSQ g3;obtain⟨i1,h1,h2⟩:=zTy S A bn bd bt g1 g2 hSA;refine(zP3 bi rf ⟨S,A.length,0⟩ ⟨S,S.length,0⟩ 0 num u cs (fun a b c d e K2=>bn=a∧bd=b∧bt=c∧ -1=d∧ -1=e∧K=K2) (fun w L h=>by refine(zKA bi _ i1 _ bn bd bt h1 h2 rfl he oM h).mono ?_;rintro en w' ⟨a,b⟩;exact⟨bn,bd,bt,-1,-1,K,a,⟨rfl,rfl,rfl,rfl,rfl,rfl⟩,b⟩) h).mono ?_;rintro en w' ⟨rfl,_,_,_,_,_,_,⟨rfl,rfl,rfl,rfl,rfl,rfl⟩,h⟩;exact⟨rfl,U bn,Z (bb bd),I O bt,I O (-1),I O (-1),Z ⟨#[]⟩,I O 0,I O 0,V none 0 0,Z ⟨#[]⟩,I O 0,I O 0,U false,V none 0 0,U false,Z ⟨#[]⟩,I O 0,I O 0,V none 0 0,_,Know.has_refl _,by simp[Value.oneCell'],⟨⟨22,0,num,u,cs,bn,bd,bt,(-1),(-1),[],0,0,none,[],0,[],0,0,false,none,[],0,false,[],0,0,none,[],0⟩,rfl,rfl,⟨zB3,fun y hy=>(by cases hy),Jd _,fun y hy=>(by cases hy),Jd _⟩,Know.has_and (zBv _) (Know.has_and (zAZ _) (zBs _))⟩,h⟩
 ·have he:begE 1 bn bd bt bp be=0:=he;have hSA:S=A++(encF 2 ⟨bn,bd⟩++zAa bt 4++zAa bp 8++zAa be 2):=by rw[hSA];unfold FrR.body;simp only;rw[if_neg dD,if_pos dD,if_pos dD]
  obtain⟨g1,g2,g3⟩:=zCs he;have g4:=zDS g3;obtain⟨i1,i2,i3,h1,h2,h3,h4⟩:=zRd S A bn bd bt bp be g1 g2 ⟨g4.1,hbp⟩ g4.2 hSA;refine(zP3 bi rf ⟨S,A.length,0⟩ ⟨S,S.length,0⟩ 1 num u cs (fun a b c d e K2=>bn=a∧bd=b∧bt=c∧bp=d∧be=e∧K=K2) (fun w L h=>by refine(zKz bi _ i1 i2 i3 _ bn bd bt bp be h1 h2 h3 h4 rfl he oM h).mono ?_;rintro en w' ⟨a,b⟩;exact⟨bn,bd,bt,bp,be,K,a,⟨rfl,rfl,rfl,rfl,rfl,rfl⟩,b⟩) h).mono ?_;rintro en w' ⟨rfl,_,_,_,_,_,_,⟨rfl,rfl,rfl,rfl,rfl,rfl⟩,h⟩;exact⟨rfl,U bn,Z (bb bd),I O bt,I O bp,I O be,Z ⟨#[]⟩,I O 0,I O 0,V none 0 0,Z ⟨#[]⟩,I O 0,I O 0,U false,V none 0 0,U false,Z ⟨#[]⟩,I O 0,I O 0,V none 0 0,_,Know.has_refl _,by simp[Value.oneCell'],⟨⟨22,1,num,u,cs,bn,bd,bt,bp,be,[],0,0,none,[],0,[],0,0,false,none,[],0,false,[],0,0,none,[],0⟩,rfl,rfl,⟨zB3,fun y hy=>(by cases hy),Jd _,fun y hy=>(by cases hy),Jd _⟩,Know.has_and (zBv _) (Know.has_and (zAZ _) (zBs _))⟩,h⟩
 ·have he:addE ad ap ae (al.map (·.1))=0:=he;have hSA:S=A++(encF 2 ⟨false,ad⟩++zAa ap 8++zAa ae 2++zA3 (al.map (·.1))):=by rw[hSA];unfold FrR.body;simp only;rw[if_neg dD,if_neg dD,if_pos dD]
  have g1:=(zFr he).1;obtain⟨t1,t2⟩:=zEe hf.al he;have g2:=(zDR (zCq g1).2);have q24:=zTx S A ad ap ae (al.map (·.1)) oM ⟨g2.1,hap⟩ ⟨g2.2.1,g2.2.2⟩ t2;obtain⟨i1,i2,i3,h1,h2,h3,h4⟩:=q24 hSA;refine(zS0 bi rf ⟨S,A.length,0⟩ ⟨S,S.length,0⟩ 0 num u cs (fun a b c q n cap K2=>ad=a∧ap=b∧ae=c∧∃lr:List (TopS×Value),n=lr.length∧lr.map (·.1)=al.map (·.1)∧K2=K.and (Know.tops (V q lr.length cap) lr)) (fun w L h=>by refine(zMm bi _ i1 i2 i3 _ ad ap ae _ h1 h2 h3 h4 rfl he oM (zSI t1) h).mono ?_;rintro en w' ⟨q,cap,lr,a,b,c⟩;exact⟨ad,ap,ae,q,lr.length,cap,_,a,⟨rfl,rfl,rfl,lr,rfl,b,rfl⟩,c⟩) h).mono ?_;rintro en w' ⟨rfl,_,_,_,q,_,cap,_,⟨rfl,rfl,rfl,lr,rfl,hm,rfl⟩,h⟩;exact⟨rfl,U false,Z ⟨#[]⟩,I O 0,I O 0,I O 0,Z (bb ad),I O ap,I O ae,V q lr.length cap,Z ⟨#[]⟩,I O 0,I O 0,U false,V none 0 0,U false,Z ⟨#[]⟩,I O 0,I O 0,V none 0 0,_,Know.has_left (Know.has_refl _),by simp[Value.oneCell'],⟨⟨24,0,num,u,cs,false,[],0,0,0,ad,ap,ae,q,lr,cap,[],0,0,false,none,[],0,false,[],0,0,none,[],0⟩,rfl,by unfold FrR.sem;simp only[hm];rfl,⟨zR2 hm ha.al.len,fun y hy=>(by cases hy),Jd _,fun y hy=>(by cases hy),Jd _⟩,Know.has_and (Know.has_right (Know.has_refl _)) (Know.has_and (zAZ _) (zBs _))⟩,h⟩
 ·have he:chkW ed ep ee=0:=he;have hSA:S=A++(encF 2 ⟨false,ed⟩++zAa ep 8++zAa ee 2++encO ec):=by rw[hSA];unfold FrR.body;simp only;rw[if_neg dD,if_neg dD,if_neg dD,if_pos dD]
  have g2:=(zDR (zCq he).2);obtain⟨i1,i2,i3,h1,h2,h3,h4⟩:=zTw S A ed ep ee ec oM ⟨g2.1,hep⟩ ⟨g2.2.1,g2.2.2⟩ hSA;refine(zSZ bi rf ⟨S,A.length,0⟩ ⟨S,S.length,0⟩ 0 num u cs (fun a b c d K2=>ed=a∧ep=b∧ee=c∧ec=d∧K=K2) (fun w L h=>by refine(zMl bi _ i1 i2 i3 _ ed ep ee ec h1 h2 h3 h4 rfl he oM h).mono ?_;rintro en w' ⟨a,b⟩;exact⟨ed,ep,ee,ec,K,a,⟨rfl,rfl,rfl,rfl,rfl⟩,b⟩) h).mono ?_;rintro en w' ⟨rfl,_,_,_,_,_,⟨rfl,rfl,rfl,rfl,rfl⟩,h⟩;exact⟨rfl,U false,Z ⟨#[]⟩,I O 0,I O 0,I O 0,Z ⟨#[]⟩,I O 0,I O 0,V none 0 0,Z (bb ed),I O ep,I O ee,U ec,V none 0 0,U false,Z ⟨#[]⟩,I O 0,I O 0,V none 0 0,_,Know.has_refl _,by simp[Value.oneCell'],⟨⟨26,0,num,u,cs,false,[],0,0,0,[],0,0,none,[],0,ed,ep,ee,ec,none,[],0,false,[],0,0,none,[],0⟩,rfl,rfl,⟨zB3,fun y hy=>(by cases hy),Jd _,fun y hy=>(by cases hy),Jd _⟩,Know.has_and (zBv _) (Know.has_and (zAZ _) (zBs _))⟩,h⟩
 ·have he:zAE v (ml.map MarkR.m)=0:=he;have hSA:S=A++(zEz v (ml.map MarkR.m)):=by rw[hSA];unfold FrR.body;simp only;rw[if_neg dD,if_neg dD,if_neg dD,if_neg dD]
  obtain⟨h1,h2⟩:=zGH S A v (ml.map MarkR.m) (zPd hv0) he (fun m hm=>by
   obtain⟨y,hy,rfl⟩:=List.mem_map.1 hm
   exact⟨(hmf y hy).2.2,(hmt he y hy).1⟩) (by rw[Jj];omega) hSA
  have hmm:∀m∈(InS.marksN v ((⟨S,A.length,0⟩:InS).cnt 15).1 [] ((⟨S,A.length,0⟩:InS).cnt 15).2).1,m.R∧FewL m.tops:=by
   rw[h1];intro m hm;obtain⟨y,hy,rfl⟩:=List.mem_map.1 hm;exact⟨(hmf y hy).2.2,by rw[←(hmf y hy).1];exact zSI (hmf y hy).2.1⟩
  refine(zSY bi rf ⟨S,A.length,0⟩ ⟨S,S.length,0⟩ v num u cs (fun q n cap K2=>∃lr:List MarkR,n=lr.length∧lr.map MarkR.m=ml.map MarkR.m∧(∀x∈lr,x.Fit)∧K2=K.and (Know.marks (V q lr.length cap) lr)) (fun w L h=>by refine(zKO bi v _ _ _ h2 hmm (by rw[h1,Jj];omega) h).mono ?_;rintro en w' ⟨q,cap,lr,a,b,c,d⟩;exact⟨q,lr.length,cap,_,a,⟨lr,rfl,b,c,rfl⟩,d⟩) h).mono ?_;rintro en w' ⟨rfl,q,_,cap,_,⟨lr,rfl,hm,hft,rfl⟩,h⟩;have hl:lr.length=ml.length:=by have:=congrArg List.length hm;simpa using this
  exact⟨rfl,U false,Z ⟨#[]⟩,I O 0,I O 0,I O 0,Z ⟨#[]⟩,I O 0,I O 0,V none 0 0,Z ⟨#[]⟩,I O 0,I O 0,U false,V q lr.length cap,U false,Z ⟨#[]⟩,I O 0,I O 0,V none 0 0,_,Know.has_left (Know.has_refl _),by simp[Value.oneCell'],⟨⟨27,v,num,u,cs,false,[],0,0,0,[],0,0,none,[],0,[],0,0,false,q,lr,cap,false,[],0,0,none,[],0⟩,rfl,by unfold FrR.sem;simp only[hm];rfl,⟨zB3,hft,by simp only;omega,fun y hy=>(by cases hy),Jd _⟩,Know.has_and (zBv _) (Know.has_and (Know.has_right (Know.has_refl _)) (zBs _))⟩,h⟩
theorem zFA(s:Bs):(⟨s,s.length,0⟩:InS).close=⟨s,s.length,0⟩:=by
 unfold InS.close;rw[if_neg (show ¬0<InS.left ⟨s,s.length,0⟩ by unfold InS.left;simp only;omega)]
theorem zTj(x:FrR)(ha:x.Arg)(hf:x.Few)(he:x.err=0)(hk:K.has Know.reqs)(h:St W0 w K L):
 Calls Jb 15 #[Z (bb x.enc)] w fun en w'=>∃(y:FrR) (K2:Know),en=Y (.tuple #[.agg y.vals,I O 0])∧K2.has K∧y.vals.all (fun z=>z.oneCell')=true∧y.sem=x.sem∧y.Fit∧K2.has y.know∧St W0 w' K2 L:=by
 have hh:zAq x.hd=0:=by
  by_cases hh:zAq x.hd=0
  ·exact hh
  ·unfold FrR.err at he;rw[if_pos hh]at he;exact absurd he hh
 have hb:x.bE=0:=by unfold FrR.err at he;rw[if_neg (by simp[hh])]at he;exact he
 have hin:=FrR.inner_len ha hf hh hb;obtain⟨S,hS⟩:=eX x.enc;have hS2:S=zAa (x.inner.length:Int) 4++x.inner:=hS.symm;have hSl:S.length=4+x.inner.length:=by rw[←hS];exact x.enc_len
 rw[hS]
 have h1:(⟨S,0,0⟩:InS).int 4=((x.inner.length:Int),⟨S,4,0⟩):=by
  have:=zAG S [] x.inner (x.inner.length:Int) 4 dD dD (zC3 _ oM) (by rw[List.nil_append];exact hS2);rw[List.nil_append,zAb]at this;exact this
 have h2:(⟨S,4,0⟩:InS).take (x.inner.length:Int)=(x.inner,⟨S,S.length,0⟩):=by
  unfold InS.take
  rw[if_neg sM,if_neg oM,if_neg (by
   show ¬((S.length - 4:Nat):Int)<(x.inner.length:Int)
   omega)]
  have hd:S.drop 4=x.inner:=by
   rw[hS2];have:=List.drop_left (l₁:=zAa (x.inner.length:Int) 4) (l₂:=x.inner);rw[zAb]at this;exact this
  show((S.drop 4).take ((x.inner.length:Int)).toNat,(⟨S,4+((x.inner.length:Int)).toNat,0⟩:InS))=_
  rw[hd,Int.toNat_natCast,List.take_length,hSl]
 have h3:(⟨x.inner,0,0⟩:InS).head=(⟨x.k,x.v,x.num,⟨x.u,x.cs⟩⟩,⟨x.inner,(zAl x.hd).length,0⟩):=zFf x.hd hh x.body;refine(zQw S oM ⟨S,S.length,0⟩ ⟨S,S.length,0⟩ (zFA S) rfl (fun K2 X=>x.IsF K2 X) (fun w L b h=>zOG b S x.inner x.inner.length ⟨S,4,0⟩ ⟨S,S.length,0⟩ ⟨x.inner,(zAl x.hd).length,0⟩ ⟨x.inner,x.inner.length,0⟩ ⟨x.inner,x.inner.length,0⟩ x.k x.v x.num x.u x.cs h1 h2 h3 oM (zFA _) (fun K2 X=>x.IsF K2 X) (fun w L bi rf h=>(rdB_ok x ha hf hh hb bi rf h).mono ?_) hk h rfl rfl rfl) h).mono ?_
 ·rintro en w' ⟨rfl,x5,x6,x7,x8,x9,x10,x11,x12,x13,x14,x15,x16,x17,x18,x19,x20,x21,x22,x23,K2,g1,g2,g3,g4⟩;exact⟨rfl,x5,x6,x7,x8,x9,x10,x11,x12,x13,x14,x15,x16,x17,x18,x19,x20,x21,x22,x23,K2,g1,g2,fun _=>g3,g4⟩
 ·rintro en w' ⟨x0,x1,x2,x3,x4,x5,x6,x7,x8,x9,x10,x11,x12,x13,x14,x15,x16,x17,x18,x19,x20,x21,x22,x23,K2,rfl,hkk,ho,⟨y,hy,g1,g2,g3⟩,h⟩;rw[hy]at ho ⊢;exact⟨y,K2,rfl,hkk,ho,g1,g2,g3,h⟩
variable {W0 w:World}{K:Know}{L:List Res}
theorem zJg{s:Bs}{n:Nat}(hs:s=zAa (n:Int) 4)(hn:n≤1000000):∃i1,(⟨s,0,0⟩:InS).int 4=((n:Int),i1):=by
 have:=zAG s [] [] (n:Int) 4 dD dD (zC3 _ oM) (by rw[List.nil_append,Jp];exact hs);exact⟨_,this⟩
theorem zGS{v0:Value}{s0:Bs}(p:Option Addr)(m c:Nat)(h4:m<4)(h:St W0 w K (.row v0 5 1 s0.length (zAD s0)::L)):
 Calls Jb 127 #[V p m c] w fun en w'=>en=Y (.tuple #[.agg #[I O 0,I O 0,I O 0,U false,Z ⟨#[]⟩,U false,Z ⟨#[]⟩,I O 0,I O 0,I O 0,Z ⟨#[]⟩,I O 0,I O 0,V none 0 0,Z ⟨#[]⟩,I O 0,I O 0,U false,V none 0 0,U false,Z ⟨#[]⟩,I O 0,I O 0,V none 0 0],I O 0,I O 0])∧St W0 w' K (.row v0 5 1 s0.length (zAD s0)::L):=by
 obtain⟨r2,hr2⟩:=eX w.heap.size;have g0:=h.allocRaw #[I O 0,I O 0,I O 0,U false,Z ⟨#[]⟩,U false,Z ⟨#[]⟩,I O 0,I O 0,I O 0,Z ⟨#[]⟩,I O 0,I O 0,V none 0 0,Z ⟨#[]⟩,I O 0,I O 0,U false,V none 0 0,U false,Z ⟨#[]⟩,I O 0,I O 0,V none 0 0] 38;rw[hr2]at g0;have H:=hQd g0;have hm:(m:Int)<4:=by omega
 clear h g0 h4;go_enter Tryz.func127,Tryz.ntmps127;go_wp2_with (refine zAd rfl 38 (Operand.tmp 2) (Operand.tmp 12) rfl r2 #[I O 0,I O 0,I O 0,U false,Z ⟨#[]⟩,U false,Z ⟨#[]⟩,I O 0,I O 0,I O 0,Z ⟨#[]⟩,I O 0,I O 0,V none 0 0,Z ⟨#[]⟩,I O 0,I O 0,U false,V none 0 0,U false,Z ⟨#[]⟩,I O 0,I O 0,V none 0 0] rfl rfl (H.out) rfl kR zEr ?_;intro wz h;replace H:=hQd h;clear h)
 (try simp only[Exit.inBlock,Exit.then])
 refine bodyPost_ret (zCP rfl _ _ r2 [I O 0,I O 0,I O 0,U false,Z ⟨#[]⟩,U false,Z ⟨#[]⟩,I O 0,I O 0,I O 0,Z ⟨#[]⟩,I O 0,I O 0,V none 0 0,Z ⟨#[]⟩,I O 0,I O 0,U false,V none 0 0,U false,Z ⟨#[]⟩,I O 0,I O 0,V none 0 0] _ rfl (St.range H.out) Tryz.underlying38 rfl kR) rfl ?_;exact⟨rfl,H.out.drop⟩
theorem zOL{v0:Value}{s0:Bs}(ad:Addr)(m c:Nat)(R:Bs)(hmR:m=R.length)(n:Nat)(hc:R.length≤c)(hcv:∀(W0 w:World) (K:Know) (L:List Res),St W0 w K (.row v0 5 1 s0.length (zAD s0)::L)→∀k,k≤R.length→∀c',(convert 72 9 (V (some ad) k c')).run Jb w=.ok (Z (bb (R.take k))) w)(h4:4≤R.length)(ht:R.take 4=zAa (n:Int) 4)(hn:n≤1000000)(hlt:R.length<4+n)(h:St W0 w K (.row v0 5 1 s0.length (zAD s0)::L)):
 Calls Jb 127 #[V (some ad) m c] w fun en w'=>en=Y (.tuple #[.agg #[I O 0,I O 0,I O 0,U false,Z ⟨#[]⟩,U false,Z ⟨#[]⟩,I O 0,I O 0,I O 0,Z ⟨#[]⟩,I O 0,I O 0,V none 0 0,Z ⟨#[]⟩,I O 0,I O 0,U false,V none 0 0,U false,Z ⟨#[]⟩,I O 0,I O 0,V none 0 0],I O 0,I O 0])∧St W0 w' K (.row v0 5 1 s0.length (zAD s0)::L):=by
 obtain⟨r2,hr2⟩:=eX w.heap.size;have g0:=h.allocRaw #[I O 0,I O 0,I O 0,U false,Z ⟨#[]⟩,U false,Z ⟨#[]⟩,I O 0,I O 0,I O 0,Z ⟨#[]⟩,I O 0,I O 0,V none 0 0,Z ⟨#[]⟩,I O 0,I O 0,U false,V none 0 0,U false,Z ⟨#[]⟩,I O 0,I O 0,V none 0 0] 38;rw[hr2]at g0;subst hmR;have hcw:=hcv _ _ _ _ g0.p1 4 h4;have H:=hQd g0;obtain⟨i1,hi1⟩:=zJg ht hn;obtain⟨sz,hsz⟩:=eX (4+n);have HI1:=hQd hi1;have HL4:=hQd (show(R.take 4).length≤140737488355328 by rw[List.length_take];omega);have hm:¬(R.length:Int)<4:=by omega
 have hm4:(4:Int)≤(c:Int):=by omega
 have hn0:¬(n:Int)<0:=by omega
 have hn1:¬(16777216:Int)<(n:Int):=by omega
 have hws:IntKind.i64.wrap ((4:Int)+(n:Int))=(sz:Int):=by rw[IntKind.wrap_i64];omega
 have his:(4:Int)+(n:Int)=(sz:Int):=by omega
 have hls:(R.length:Int)<(sz:Int):=by omega
 clear h g0 h4 hcv ht hn hi1 hlt hc;go_enter Tryz.func127,Tryz.ntmps127
 go_wp2_with (first
  |(refine zAd rfl 38 (Operand.tmp 2) (Operand.tmp 31) rfl r2 #[I O 0,I O 0,I O 0,U false,Z ⟨#[]⟩,U false,Z ⟨#[]⟩,I O 0,I O 0,I O 0,Z ⟨#[]⟩,I O 0,I O 0,V none 0 0,Z ⟨#[]⟩,I O 0,I O 0,U false,V none 0 0,U false,Z ⟨#[]⟩,I O 0,I O 0,V none 0 0] rfl rfl (H.out) rfl kR zEr ?_;intro wz h;replace H:=hQd h;clear h)
  |(go_at_call 19;(with_reducible refine(zEh (R.take 4) HL4.out H.out).mono ?_);rintro e_ wn ⟨bi,rfl,h⟩;replace H:=hQd h;clear h)
  |(go_at_call 66;(with_reducible refine(zBZ bi _ i1 4 (n:Int) HI1.out H.out).mono ?_);rintro e_ wn ⟨rfl,h⟩;have h:=h.drop;replace H:=hQd h;clear h))
 (try simp only[Exit.inBlock,Exit.then])
 refine bodyPost_ret (zCP rfl _ _ r2 [I O 0,I O 0,I O 0,U false,Z ⟨#[]⟩,U false,Z ⟨#[]⟩,I O 0,I O 0,I O 0,Z ⟨#[]⟩,I O 0,I O 0,V none 0 0,Z ⟨#[]⟩,I O 0,I O 0,U false,V none 0 0,U false,Z ⟨#[]⟩,I O 0,I O 0,V none 0 0] _ rfl (St.range H.out) Tryz.underlying38 rfl kR) rfl ?_;exact⟨rfl,H.out.drop⟩
theorem zOK{v0:Value}{s0:Bs}(ad:Addr)(m c:Nat)(R:Bs)(hmR:m=R.length)(x:FrR)(ha:x.Arg)(hf:x.Few)(he:x.err=0)(n:Nat)(hne:x.inner.length=n)(hc:R.length≤c)(hcv:∀(W0 w:World) (K:Know) (L:List Res),St W0 w K (.row v0 5 1 s0.length (zAD s0)::L)→∀k,k≤R.length→∀c',(convert 72 9 (V (some ad) k c')).run Jb w=.ok (Z (bb (R.take k))) w)(hn:n≤1000000)(hle:4+n≤R.length)(hp:R.take (4+n)=x.enc)(hk:K.has Know.reqs)(h:St W0 w K (.row v0 5 1 s0.length (zAD s0)::L)):
 Calls Jb 127 #[V (some ad) m c] w fun en w'=>∃(y:FrR) (K2:Know),en=Y (.tuple #[.agg y.vals,I O ((4+n:Nat):Int),I O 0])∧y.sem=x.sem∧y.Fit∧K2.has K∧K2.has y.know∧St W0 w' K2 (.row v0 5 1 s0.length (zAD s0)::L):=by
 obtain⟨r2,hr2⟩:=eX w.heap.size;have g0:=h.allocRaw #[I O 0,I O 0,I O 0,U false,Z ⟨#[]⟩,U false,Z ⟨#[]⟩,I O 0,I O 0,I O 0,Z ⟨#[]⟩,I O 0,I O 0,V none 0 0,Z ⟨#[]⟩,I O 0,I O 0,U false,V none 0 0,U false,Z ⟨#[]⟩,I O 0,I O 0,V none 0 0] 38;rw[hr2]at g0;subst hmR;have hcw:=hcv _ _ _ _ g0.p1 4 oM;have H:=hQd g0
 have ht:R.take 4=zAa (n:Int) 4:=by
  have e:=congrArg (Jl 4) hp;rw[List.take_take,Nat.min_eq_left oM]at e;rw[e];unfold FrR.enc;rw[hne];exact List.take_left' (zAb _ _)
 obtain⟨i1,hi1⟩:=zJg ht hn;obtain⟨sz,hsz⟩:=eX (4+n);rw[hsz]at hp hle ⊢;have HI1:=hQd hi1;have HL4:=hQd (show(R.take 4).length≤140737488355328 by rw[List.length_take];omega);have hm:¬(R.length:Int)<4:=by omega
 have hm4:(4:Int)≤(c:Int):=by omega
 have hn0:¬(n:Int)<0:=by omega
 have hn1:¬(16777216:Int)<(n:Int):=by omega
 have hws:IntKind.i64.wrap ((4:Int)+(n:Int))=(sz:Int):=by rw[IntKind.wrap_i64];omega
 have his:(4:Int)+(n:Int)=(sz:Int):=by omega
 have hls:¬(R.length:Int)<(sz:Int):=by omega
 have hlc:(sz:Int)≤(c:Int):=by omega
 have HCV:=hQd hcv;have HSZ:=hQd hle;have HP:=hQd hp;have HA:=hQd ha;have HF:=hQd hf;have HE:=hQd he;have HK:=hQd hk;clear h g0 hcv ht hn hi1 hle hc hp ha hf he hk hne;go_enter Tryz.func127,Tryz.ntmps127
 go_upto_region 10 with (first
  |(refine zAd rfl 38 (Operand.tmp 7) (Operand.tmp 38) rfl rf y.vals rfl rfl (H.out) rfl kR (zFi y) ?_;intro wz h;replace H:=hQd h;clear h)
  |(go_at_call 19;(with_reducible refine(zEh (R.take 4) HL4.out H.out).mono ?_);rintro e_ wn ⟨bi,rfl,h⟩;replace H:=hQd h;clear h)
  |(go_at_call 66;(with_reducible refine(zBZ bi _ i1 4 (n:Int) HI1.out H.out).mono ?_);rintro e_ wn ⟨rfl,h⟩;have h:=h.drop;have hcx:=HCV.out _ _ _ _ h.p1 sz HSZ.out;rw[HP.out]at hcx;replace H:=hQd h;clear h)
  |(go_at_call 15;(with_reducible refine(zTj x HA.out HF.out HE.out HK.out H.out).mono ?_);rintro e_ wn ⟨y,K2,rfl,hkk,_,hy,hyf,hyk,h⟩;have HKK:=hQd hkk;have HYS:=hQd hy;have HYF:=hQd hyf;have HYK:=hQd hyk;clear hkk hy hyf hyk;obtain⟨rf,hrf⟩:=eX wn.heap.size;have h:=h.allocRaw #[I O 0,I O 0,I O 0,U false,Z ⟨#[]⟩,U false,Z ⟨#[]⟩,I O 0,I O 0,I O 0,Z ⟨#[]⟩,I O 0,I O 0,V none 0 0,Z ⟨#[]⟩,I O 0,I O 0,U false,V none 0 0,U false,Z ⟨#[]⟩,I O 0,I O 0,V none 0 0] 38;rw[hrf]at h;replace H:=hQd h;clear h))
 refine wp_region_lit ?_;refine wpList_load_mid rfl 38 (Operand.tmp 7) rfl rf 0 rfl (zAh y) _ (St.range H.out) Tryz.underlying38 rfl kR ?_;simp only[Act.put,sA,sB,sC];go_wp2_with (refine zAd rfl 38 (Operand.tmp 2) (Operand.tmp 40) rfl r2 (zAh y).toArray rfl rfl (H.out.p1) rfl kR (zFi y) ?_;intro wz h;replace H:=hQd h;clear h)
 (try simp only[Exit.inBlock,Exit.then])
 refine bodyPost_ret (zCP rfl _ _ r2 (zAh y) _ rfl (St.range H.out) Tryz.underlying38 rfl kR) rfl ?_;exact⟨y,K2,rfl,HYS.out,HYF.out,HKK.out,HYK.out,H.out.drop.drop⟩
def PreF (xs:List FrR) (T:Bs):Prop:=∃M,T++M=xs.flatMap FrR.enc
def whole:List FrR→Bs→List FrR×Bs
 |[],T=>([],T)
 |x::t,T=>if x.enc.length≤T.length then(x::(whole t (T.drop x.enc.length)).1,(whole t (T.drop x.enc.length)).2)else([],T)
theorem zEQ{x:FrR}{t:List FrR}{T:Bs}(h:x.enc.length≤T.length):whole (x::t) T=(x::(whole t (T.drop x.enc.length)).1,(whole t (T.drop x.enc.length)).2):=if_pos h
theorem zER{x:FrR}{t:List FrR}{T:Bs}(h:¬x.enc.length≤T.length):whole (x::t) T=([],T):=if_neg h
theorem PreF.none{T:Bs}(h:PreF [] T):T=[]:=by
 obtain⟨M,h⟩:=h;exact(List.append_eq_nil_iff.1 h).1
theorem PreF.head{x:FrR}{t:List FrR}{T:Bs}(h:PreF (x::t) T)(hl:x.enc.length≤T.length):T.take x.enc.length=x.enc∧PreF t (T.drop x.enc.length):=by
 obtain⟨M,h⟩:=h;rw[Jg]at h;have h1:=congrArg (Jl x.enc.length) h;rw[List.take_append_of_le_length hl,List.take_left]at h1;have h2:=congrArg (Jo x.enc.length) h;rw[List.drop_append_of_le_length hl,List.drop_left]at h2;exact⟨h1,M,h2⟩
theorem PreF.four{x:FrR}{t:List FrR}{T:Bs}(h:PreF (x::t) T)(hl:4≤T.length):T.take 4=zAa (x.inner.length:Int) 4:=by
 obtain⟨M,h⟩:=h;rw[Jg]at h;have h1:=congrArg (Jl 4) h;rw[List.take_append_of_le_length hl]at h1;rw[h1];unfold FrR.enc;rw[Je];exact List.take_left' (zAb _ _)
def Short (xs:List FrR) (T:Bs):Prop:=∀x t,xs=x::t→T.length<x.enc.length
theorem zCK:∀(xs:List FrR) (T:Bs),PreF xs T→∃rest,xs=(whole xs T).1++rest∧T=(whole xs T).1.flatMap FrR.enc++(whole xs T).2∧PreF rest (whole xs T).2∧Short rest (whole xs T).2
 |[],T,h=>⟨[],rfl,rfl,h,fun x t hx=>by cases hx⟩
 |x::t,T,h=>by
  by_cases hl:x.enc.length≤T.length
  ·obtain⟨g1,g2⟩:=h.head hl;obtain⟨rest,e1,e2,e3,e4⟩:=zCK t _ g2;rw[zEQ hl];refine⟨rest,?_,?_,e3,e4⟩
   ·show x::t=x::_++rest
    rw[List.cons_append,←e1]
   ·show T=(x::_).flatMap FrR.enc++_
    rw[Jg,Je,←e2]
    conv=>lhs;rw[←List.take_append_drop x.enc.length T,g1]
  ·rw[zER hl];exact⟨x::t,rfl,rfl,h,fun y s hy=>by cases hy;show T.length< _;omega⟩
theorem zJR(xs:List FrR)(T:Bs)(h:PreF xs T):(whole xs T).2.length≤T.length:=by
 obtain⟨_,_,h2,_⟩:=zCK xs T h;have:=congrArg List.length h2;rw[Jc]at this
 omega
theorem zLS(xs:List FrR)(T:Bs)(at_:Nat)(acc:List FrR){v lv:Value}{W0 w:World}{K K2:Know}{L:List Res}(hw:(whole xs T).1.map FrR.sem=acc.map FrR.sem∧(whole xs T).2=T.drop at_∧at_≤T.length)(hac:4*acc.length≤at_)(hft:∀y∈acc,y.Fit)(hkk:K2.has K)(hka:∀y∈acc,K2.has y.know)(h:St W0 w K2 (.row v 5 1 T.length (zAD T)::.row lv 38 24 acc.length (acc.flatMap zAh)::L)):∃(q:Option Addr) (cap:Nat) (lr:List FrR) (K2:Know),(Ending.returned (.tuple #[lv,I O at_,I O 0]):Ending)=Y (.tuple #[V q lr.length cap,I O ((T.length - (whole xs T).2.length:Nat):Int),I O 0])∧(q=none→cap=0)∧lr.map FrR.sem=(whole xs T).1.map FrR.sem∧(∀y∈lr,y.Fit)∧4*lr.length≤T.length∧K2.has K∧K2.has (Know.frs (V q lr.length cap) lr)∧St W0 w K2 (.row v 5 1 T.length (zAD T)::L):=by
 have hform:∃q cap,lv=V q acc.length cap∧(q=none→cap=0):=by
  rcases h.p1.rowGet.2 with ⟨e1,e2⟩|⟨g2,cap2,_,e1,_⟩
  ·exact⟨none,0,by rw[e1,e2],fun _=>rfl⟩
  ·exact⟨_,cap2,e1,fun hh=>by cases hh⟩
 obtain⟨q,cap,rfl,hqc⟩:=hform;have hf:=h.p1.freezeFrs hka;refine⟨q,cap,acc,_,?_,hqc,hw.1.symm,hft,oM,Know.has_trans (Know.has_left (Know.has_refl _)) hkk,Know.has_right (Know.has_refl _),hf⟩;have e:T.length - (T.drop at_).length=at_:=by rw[Jh];omega
 rw[hw.2.1,e]
theorem zq7{p:Prop}(h:p:=by
  go_wp2_with (first
    |(refine zAd rfl 38 (Operand.tmp 7) (Operand.tmp 15) rfl rf #[I O 0,I O 0,I O 0,U false,Z ⟨#[]⟩,U false,Z ⟨#[]⟩,I O 0,I O 0,I O 0,Z ⟨#[]⟩,I O 0,I O 0,V none 0 0,Z ⟨#[]⟩,I O 0,I O 0,U false,V none 0 0,U false,Z ⟨#[]⟩,I O 0,I O 0,V none 0 0] rfl rfl (H.out) rfl kR zEr ?_;intro wz h;replace H:=hQd h.drop;clear h)
    |(go_at_call 127;(with_reducible refine(zGS _ _ _ H4.out H.out).mono ?_);rintro e_ wn ⟨rfl,h⟩;obtain⟨rf,hrf⟩:=eX wn.heap.size;have h:=h.allocRaw #[I O 0,I O 0,I O 0,U false,Z ⟨#[]⟩,U false,Z ⟨#[]⟩,I O 0,I O 0,I O 0,Z ⟨#[]⟩,I O 0,I O 0,V none 0 0,Z ⟨#[]⟩,I O 0,I O 0,U false,V none 0 0,U false,Z ⟨#[]⟩,I O 0,I O 0,V none 0 0] 38;rw[hrf]at h;replace H:=hQd h;clear h))
  go_ret3;exact zLS xs T at_ acc HW.out HAC.out HFT.out HKK.out HKA.out H.out):p:=h
theorem zPt(xs:List FrR)(hxs:∀x∈xs,x.Arg∧x.Few∧x.err=0)(T:Bs)(hT:PreF xs T)(hl:T.length≤1000000)(v:Value){W0 w:World}{K:Know}{L:List Res}(hk:K.has Know.reqs)(h:St W0 w K (.row v 5 1 T.length (zAD T)::L)):
  Calls Jb 76 #[v] w fun en w'=>∃(q:Option Addr) (cap:Nat) (lr:List FrR) (K2:Know),en=Y (.tuple #[V q lr.length cap,I O ((T.length - (whole xs T).2.length:Nat):Int),I O 0])∧(q=none→cap=0)∧lr.map FrR.sem=(whole xs T).1.map FrR.sem∧(∀y∈lr,y.Fit)∧4*lr.length≤T.length∧K2.has K∧K2.has (Know.frs (V q lr.length cap) lr)∧St W0 w' K2 (.row v 5 1 T.length (zAD T)::L):=by
 have H:=hQd h;have HK:=hQd hk;have HXS:=hQd hxs;have HT:=hQd hT;have HTL:=hQd hl;clear h hk hxs hT hl;go_enter Tryz.func76,Tryz.ntmps76;go_wp2;go_loopw [5,6] (fun lv av wr=>∃(at_:Nat) (acc todo:List FrR) (K2:Know),av=I O at_∧Hid (at_≤T.length)∧Hid ((whole xs T).1.map FrR.sem=acc.map FrR.sem++(whole todo (T.drop at_)).1.map FrR.sem)∧Hid ((whole xs T).2=(whole todo (T.drop at_)).2)∧Hid (PreF todo (T.drop at_))∧Hid (∀x∈todo,x.Arg∧x.Few∧x.err=0)∧Hid (4*acc.length≤at_)∧Hid (∀y∈acc,y.Fit)∧Hid (K2.has K)∧Hid (∀y∈acc,K2.has y.know)∧St W0 wr K2 (.row v 5 1 T.length (zAD T)::.row lv 38 24 acc.length (acc.flatMap zAh)::L)) (fun _ av _=>T.length - (intOf av).toNat)
 case atStart=>exact⟨0,[],xs,K,rfl,hQd (Jd _),hQd rfl,hQd rfl,hQd HT.out,hQd HXS.out,hQd (Nat.le_refl _),hQd (fun y hy=>by cases hy),hQd (Know.has_refl _),hQd (fun y hy=>by cases hy),(H.out.nilRow 38 24).p1⟩
 case round=>
  obtain⟨at_,acc,todo,K2,rfl,HAT,HW1,HW2,HPT,HTD,HAC,HFT,HKK,HKA,hst⟩:=hrel;clear H;have H:=hQd hst;have hat:=HAT.out;have htl:=HTL.out;have hti:(T.length:Int)≤1000000:=by omega
  have hai:(at_:Int)≤(T.length:Int):=by omega
  obtain⟨R,hR⟩:=eX (T.drop at_);have hRl:R.length=T.length - at_:=by rw[←hR,Jh]
  have fin:(whole todo (T.drop at_))=([],T.drop at_)→(whole xs T).1.map FrR.sem=acc.map FrR.sem∧(whole xs T).2=T.drop at_∧at_≤T.length:=fun e=>⟨by rw[HW1.out,e];simp,by rw[HW2.out,e],hat⟩
  have fin0:R.length<4→whole todo (T.drop at_)=([],T.drop at_):=fun h4=>by
    cases todo with
    |nil=>rfl
    |cons x t=>exact zER (by rw[hR,x.enc_len];omega)
  rcases hst.rowGet.2 with ⟨hvn,hn0⟩|⟨g,cv,cur,hvs,_,_,hcv,_⟩
  · obtain rfl:at_=0:=by omega
    subst hvn;have H4:=hQd (show 0<4 by decide);have HW:=hQd (fin (fin0 oM));clear hst fin fin0 hR hRl HW1 HW2 HPT HTD hat htl
    go_wp2_with (first
      |(refine zAd rfl 38 (Operand.tmp 7) (Operand.tmp 15) rfl rf #[I O 0,I O 0,I O 0,U false,Z ⟨#[]⟩,U false,Z ⟨#[]⟩,I O 0,I O 0,I O 0,Z ⟨#[]⟩,I O 0,I O 0,V none 0 0,Z ⟨#[]⟩,I O 0,I O 0,U false,V none 0 0,U false,Z ⟨#[]⟩,I O 0,I O 0,V none 0 0] rfl rfl (H.out) rfl kR zEr ?_;intro wz h;replace H:=hQd h.drop;clear h)
      |(go_at_call 127;(with_reducible refine(zGS _ _ _ H4.out H.out).mono ?_);rintro e_ wn ⟨rfl,h⟩;obtain⟨rf,hrf⟩:=eX wn.heap.size;have h:=h.allocRaw #[I O 0,I O 0,I O 0,U false,Z ⟨#[]⟩,U false,Z ⟨#[]⟩,I O 0,I O 0,I O 0,Z ⟨#[]⟩,I O 0,I O 0,V none 0 0,Z ⟨#[]⟩,I O 0,I O 0,U false,V none 0 0,U false,Z ⟨#[]⟩,I O 0,I O 0,V none 0 0] 38;rw[hrf]at h;replace H:=hQd h;clear h))
    go_ret3;exact zLS xs T 0 acc HW.out HAC.out HFT.out HKK.out HKA.out H.out
  · subst hvs;have htc:(T.length:Int)≤(cv:Int):=by omega
    have hac:(at_:Int)≤(cv:Int):=by omega
    by_cases hca:cv=at_
    · have H4:=hQd (show 0<4 by decide);have HW:=hQd (fin (fin0 oM));have hca2:T.length=at_:=by omega
      clear hst fin fin0 hR hRl HW1 HW2 HPT HTD hat htl
      exact zq7
    · have hcvR:∀(W0 w:World) (K:Know) (L:List Res),St W0 w K (.row (V (some ⟨g,0,none⟩) T.length cv) 5 1 T.length (zAD T)::L)→∀k,k≤R.length→∀c',(convert 72 9 (V (some ⟨g,at_,none⟩) k c')).run Jb w=.ok (Z (bb (R.take k))) w:=fun W0 w K L hh k hk c'=>by
        rw[←hR];exact hh.rowTextAt at_ k c' rfl oM
      by_cases h4:R.length<4
      · have H4:=hQd (show T.length - at_<4 by omega);have HW:=hQd (fin (fin0 h4));clear hst fin fin0 hR hRl HW1 HW2 HPT HTD hat htl hcvR h4
        exact zq7
      cases todo with
      |nil=>
        have:=HPT.out.none;rw[hR]at this;rw[this]at h4;exact absurd dD h4
      |cons x t=>
        have hpre:=HPT.out;rw[hR]at hpre;obtain⟨hA,hF,hE⟩:=HTD.out x sM
        have hin:x.inner.length≤1000000:=by
          have hh:zAq x.hd=0:=by
           by_cases hh:zAq x.hd=0
           · exact hh
           · unfold FrR.err at hE;rw[if_pos hh]at hE;exact absurd hE hh
          have hb:x.bE=0:=by unfold FrR.err at hE;rw[if_neg (by simp[hh])]at hE;exact hE
          have:=FrR.inner_len hA hF hh hb
          omega
        have hel:=x.enc_len;obtain⟨n,hn⟩:=eX x.inner.length
        by_cases hle:x.enc.length≤R.length
        · obtain⟨hp1,hp2⟩:=hpre.head hle;obtain⟨an,han⟩:=eX (at_+(4+n))
          have HW3:=hQd (show(whole xs T).1.map FrR.sem=(acc.map FrR.sem++[x.sem])++(whole t (T.drop an)).1.map FrR.sem by
           rw[HW1.out,zEQ (by rw[hR];exact hle),List.map_cons,Jk,hel,hn,han];simp)
          have HW4:=hQd (show(whole xs T).2=(whole t (T.drop an)).2 by
           rw[HW2.out,zEQ (by rw[hR];exact hle),Jk,hel,hn,han])
          have HPT2:=hQd (show PreF t (T.drop an) by
           rw[←hR,Jk,hel,hn,han]at hp2;exact hp2)
          have HTD2:=hQd (show ∀y∈t,y.Arg∧y.Few∧y.err=0 from fun y hy=>HTD.out y (by simp[hy]));have HMR:=hQd (show T.length - at_=R.length from hRl.symm);have HRC:=hQd (show R.length≤cv - at_ by omega);have HCR:=hQd hcvR;have HNE:=hQd hn;have HNB:=hQd (show n≤1000000 by omega);have HLE:=hQd (show 4+n≤R.length by omega);have HP:=hQd (show R.take (4+n)=x.enc by rw[←hn,←hel];exact hp1);have HA:=hQd hA;have HF:=hQd hF;have HE:=hQd hE;have HK2:=hQd (Know.has_trans HKK.out HK.out);have HAN:=hQd (show an≤T.length by omega);have HA4:=hQd (show 4*(acc.length+1)≤an by have:=HAC.out;omega);have HAB:=hQd (show acc.length≤250000 by have:=HAC.out;omega);have HME:=hQd (show T.length - an<T.length - at_ by omega);have hwz:wrap64 ((at_:Int)+(4+(n:Int)))=(an:Int):=by rw[IntWalk.wrap64_in _ oM];omega
          have g0n:(((4+n:Nat):Int)==0)=false:=by rw[beq_eq_false_iff_ne];omega
          clear hst fin fin0 hR hRl HW1 HW2 HPT HTD hat htl hcvR h4 hpre hA hF hE hin hel hn hle hp1 hp2 han
          go_wp2_with (first
           |(refine wpList_load_mid rfl 38 (Operand.tmp 7) rfl rf 0 rfl (zAh y) _ (St.range H.out) Tryz.underlying38 rfl kR ?_)
           |(refine zO8 rfl (Operand.tmp 28) rfl y rfl ?_)
           |(refine zAd rfl 38 (Operand.tmp 7) (Operand.tmp 15) rfl rf y.vals rfl rfl (H.out) rfl kR (zFi y) ?_;intro wz h;replace H:=hQd h;clear h)
           |(go_at_call 127;(with_reducible refine(zOK _ _ _ R HMR.out x HA.out HF.out HE.out n HNE.out HRC.out HCR.out HNB.out HLE.out HP.out HK2.out H.out).mono ?_);rintro e_ wn ⟨y,K3,rfl,hys,hyf,hkk3,hyk,h⟩;have HYS:=hQd hys;have HYF:=hQd hyf;have HK3:=hQd hkk3;have HYK:=hQd hyk;clear hys hyf hkk3 hyk;obtain⟨rf,hrf⟩:=eX wn.heap.size;have h:=h.allocRaw #[I O 0,I O 0,I O 0,U false,Z ⟨#[]⟩,U false,Z ⟨#[]⟩,I O 0,I O 0,I O 0,Z ⟨#[]⟩,I O 0,I O 0,V none 0 0,Z ⟨#[]⟩,I O 0,I O 0,U false,V none 0 0,U false,Z ⟨#[]⟩,I O 0,I O 0,V none 0 0] 38;rw[hrf]at h;replace H:=hQd h;clear h)
           |(at_builtin;refine zAz rfl _ _ 70 rfl 38 Tryz.underlying70 zG3 _ _ _ rfl H.out.p2 (zAh y) 38 rfl rfl (zGN y) zq35 (by have:=HAB.out;omega) ?_;intro v' w' h;have h:=h.p1.drop.p1;replace H:=hQd h;clear h))
          go_roundw
          case rel=>
           exact⟨an,acc++[y],t,K3,by first|exact congrArg (Value.int .i64) hwz|go_num,HAN,hQd (by rw[List.map_append,List.map_cons,HYS.out,List.map_nil];exact HW3.out),HW4,HPT2,HTD2,hQd (by rw[Jc];exact HA4.out),hQd (fun z hz=>by
            rcases List.mem_append.1 hz with hz|hz
            · exact HFT.out z hz
            · rw[List.mem_singleton.1 hz];exact HYF.out),hQd (Know.has_trans HK3.out HKK.out),hQd (fun z hz=>by
            rcases List.mem_append.1 hz with hz|hz
            · exact Know.has_trans HK3.out (HKA.out z hz)
            · rw[List.mem_singleton.1 hz];exact HYK.out),by rw[Jc,List.flatMap_append,Jg,List.flatMap_nil,Jp];exact H.out⟩
          case measure=>
           have hme:=HME.out;rw[hwz]
           show T.length - ((an:Int)).toNat<T.length - ((at_:Int)).toNat
           rw[Int.toNat_natCast,Int.toNat_natCast];exact hme
        · have HW:=hQd (fin (zER (by rw[hR];exact hle)));have HMR:=hQd (show T.length - at_=R.length from hRl.symm);have HRC:=hQd (show R.length≤cv - at_ by omega);have HCR:=hQd hcvR;have HN4:=hQd (show 4≤R.length by omega);have HT4:=hQd (show R.take 4=zAa (n:Int) 4 by rw[←hn];exact hpre.four oM);have HNB:=hQd (show n≤1000000 by omega);have HLT:=hQd (show R.length<4+n by omega);clear hst fin fin0 hR hRl HW1 HW2 HPT HTD hat htl hcvR h4 hpre hA hF hE hin hel hn hle
          go_wp2_with (first
           |(refine zAd rfl 38 (Operand.tmp 7) (Operand.tmp 15) rfl rf #[I O 0,I O 0,I O 0,U false,Z ⟨#[]⟩,U false,Z ⟨#[]⟩,I O 0,I O 0,I O 0,Z ⟨#[]⟩,I O 0,I O 0,V none 0 0,Z ⟨#[]⟩,I O 0,I O 0,U false,V none 0 0,U false,Z ⟨#[]⟩,I O 0,I O 0,V none 0 0] rfl rfl (H.out) rfl kR zEr ?_;intro wz h;replace H:=hQd h.drop;clear h)
           |(go_at_call 127;(with_reducible refine(zOL _ _ _ R HMR.out n HRC.out HCR.out HN4.out HT4.out HNB.out HLT.out H.out).mono ?_);rintro e_ wn ⟨rfl,h⟩;obtain⟨rf,hrf⟩:=eX wn.heap.size;have h:=h.allocRaw #[I O 0,I O 0,I O 0,U false,Z ⟨#[]⟩,U false,Z ⟨#[]⟩,I O 0,I O 0,I O 0,Z ⟨#[]⟩,I O 0,I O 0,V none 0 0,Z ⟨#[]⟩,I O 0,I O 0,U false,V none 0 0,U false,Z ⟨#[]⟩,I O 0,I O 0,V none 0 0] 38;rw[hrf]at h;replace H:=hQd h;clear h))
          go_ret3;exact zLS xs T at_ acc HW.out HAC.out HFT.out HKK.out HKA.out H.out
variable {W0 w:World}{K:Know}{L:List Res}
theorem zSh(w:World)(a:Option Addr)(l c:Nat):(binOp .eql 72 (V a l c) (V none 0 0)).run Jb w=.ok (U a.isNone) w:=Lib.run_eql_slice_nil w _ _ a l c 0 0 Tryz.underlying72
theorem zO3(s:Bs):∀v∈zAD s,v.oneCell'=true:=by
 intro v hv;unfold zAD at hv;obtain⟨b,_,rfl⟩:=List.mem_map.1 hv
 rfl
theorem zPs(h:St W0 w K L):
 Calls Jb 27 #[] w fun en w'=>∃sb,en=Y (Ja (some ⟨sb,0,none⟩))∧St W0 w' K (.raw sb #[I O 0,I O 0,I O 0,V none 0 0,I O 0] 87::L):=by
 have g1:=h.allocRaw #[I O 0,I O 0,I O 0,V none 0 0,I O 0] 87;have H:=hQd g1;clear h g1;go_enter Tryz.func27,Tryz.ntmps27;go_wp2;go_ret;exact⟨_,rfl,H.out⟩
theorem zN5(sb:Nat)(m a c d:Int)(v:Value)(e:Int)(hd:c - a=d)(hc:0≤c∧c<4000000000000000000)(ha:0≤a∧a<4000000000000000000)(h:St W0 w K (.raw sb #[I O m,I O a,I O c,v,I O e] 87::L)):
 Calls Jb 34 #[Ja (some ⟨sb,0,none⟩)] w fun en w'=>en=Y (I O d)∧St W0 w' K (.raw sb #[I O m,I O a,I O c,v,I O e] 87::L):=by
 have c1:=h.rawCell 1;have c2:=h.rawCell 2;simp at c1 c2;have HDW:=hQd (show -9223372036854775808≤d∧d≤9223372036854775807 by omega);have H:=hQd h;clear h hc ha;go_enter Tryz.func34,Tryz.ntmps34;go_wp2
 go_quiet (fail)
 (try go_wp2)
 go_ret;exact⟨by show Ending.returned (I O (wrap64 d))=_;rw[IntWalk.wrap64_in d HDW.out],H.out.drewN _⟩
theorem zLR(sb:Nat)(m a:Int)(v:Value)(ha:0≤a∧a<4000000000000000000)(h:St W0 w K (.raw sb #[I O m,I O a,I O a,v,I O 0] 87::L)):
 Calls Jb 35 #[Ja (some ⟨sb,0,none⟩)] w fun en w'=>en=Y (I O 0)∧St W0 w' K (.raw sb #[I O m,I O a,I O a,v,I O 0] 87::L):=by
 have c4:=h.rawCell 4;simp at c4;have H:=hQd h;have HA:=hQd ha;clear h ha;go_enter Tryz.func35,Tryz.ntmps35;go_wp2_with (go_at_call 34;clear c4;(with_reducible refine(zN5 sb m a a 0 v 0 oM HA.out HA.out H.out).mono ?_);rintro e_ wn ⟨rfl,h⟩;have c4:=h.rawCell 4;simp at c4;replace H:=hQd h;clear h);go_ret;exact⟨rfl,H.out⟩
theorem zHf{v0:Value}{s0:Bs}(ad:Addr)(m c:Nat)(R:Bs)(hm:m=R.length)(hr:R.length≤1000000)(hcl:∀(W0 w:World) (K:Know) (L:List Res),St W0 w K (.row v0 5 1 s0.length (zAD s0)::L)→∀j u,(zAD R)[j]? =some u→w.cell? (ad.add j)=some u)(h:St W0 w K (.row v0 5 1 s0.length (zAD s0)::L)):
 Calls Jb 77 #[V (some ad) m c] w fun en w'=>∃v',en=Y v'∧St W0 w' K (.row v' 5 1 R.length (zAD R)::.row v0 5 1 s0.length (zAD s0)::L):=by
 subst hm;have hbn:∀w,(binOp .eql 72 (V (some ad) R.length c) (V none 0 0)).run Jb w=.ok (U false) w:=fun w=>zSh w (some ad) R.length c
 have H:=hQd h;have HC:=hQd hcl;have HR:=hQd hr;clear h hcl hr;go_enter Tryz.func77,Tryz.ntmps77;go_wp2_with (at_builtin;refine zDx rfl _ _ 72 rfl 5 Tryz.underlying72 zTq _ 0 [] rfl (H.out.rowLit [] 5 1 0 rfl dD) ad R.length c (zAD R) rfl (by rw[zFC];omega) (HC.out _ _ _ _ (H.out.rowLit [] 5 1 0 rfl dD).p1) (zO3 R) (by have:=HR.out;unfold maxLen;omega) (by have:=HR.out;omega) ?_;intro v' w' h;rw[Nat.zero_add,List.nil_append]at h;replace H:=hQd h;clear h);go_ret;exact⟨_,rfl,H.out⟩
variable {W0 w:World}{K:Know}{L:List Res}
theorem zHO(xs:List FrR)(hxs:∀x∈xs,x.Arg∧x.Few∧x.err=0)(T:Bs)(hT:PreF xs T)(hl:T.length≤1000000)(v:Value)(sz:Nat)(hsz:T.length - (whole xs T).2.length=sz)(hk:K.has Know.reqs)(h:St W0 w K (.row v 5 1 T.length (zAD T)::L)):
 Calls Jb 76 #[v] w fun en w'=>∃(q:Option Addr) (cap:Nat) (lr:List FrR) (K2:Know),en=Y (.tuple #[V q lr.length cap,I O sz,I O 0])∧(q=none→cap=0)∧lr.map FrR.sem=(whole xs T).1.map FrR.sem∧(∀y∈lr,y.Fit)∧4*lr.length≤T.length∧K2.has K∧K2.has (Know.frs (V q lr.length cap) lr)∧St W0 w' K2 (.row v 5 1 T.length (zAD T)::L):=by
 subst hsz;exact zPt xs hxs T hT hl v hk h
theorem zN6(sb many at_ came:Nat)(xs:List FrR)(hxs:∀x∈xs,x.Arg∧x.Few∧x.err=0)(r c T:Bs)(hT:r++c=T)(hP:PreF xs T)(v:Value)(hl:T.length≤1000000)(hb:many≤1000000000∧at_≤1000000000∧came≤1000000000)(hk:K.has Know.reqs)(h:St W0 w K (.raw sb #[I O many,I O at_,I O came,v,I O 0] 87::.row v 5 1 r.length (zAD r)::L)):
 Calls Jb 29 #[Ja (some ⟨sb,0,none⟩),Z (bb c)] w fun en w'=>∃(v':Value) (q:Option Addr) (cap:Nat) (lr:List FrR) (K2:Know),en=Y (.tuple #[V q lr.length cap,I O 0])∧(q=none→cap=0)∧lr.map FrR.sem=(whole xs T).1.map FrR.sem∧(∀y∈lr,y.Fit)∧4*lr.length≤T.length∧K2.has K∧K2.has (Know.frs (V q lr.length cap) lr)∧St W0 w' K2 (.raw sb #[I O ((many+lr.length:Nat):Int),I O ((at_+(T.length - (whole xs T).2.length):Nat):Int),I O ((came+c.length:Nat):Int),v',I O 0] 87::.row v' 5 1 (whole xs T).2.length (zAD (whole xs T).2)::L):=by
 have hrc:r.length+c.length=T.length:=by rw[←hT,Jc]
 have hsp:T=(whole xs T).1.flatMap FrR.enc++(whole xs T).2:=by obtain⟨rest,_,hq,_,_⟩:=zCK xs T hP;exact hq
 obtain⟨sz,hsz⟩:=eX (T.length - (whole xs T).2.length);have hle:=zJR xs T hP
 have hdr:T.drop sz=(whole xs T).2:=by
  have e:sz=((whole xs T).1.flatMap FrR.enc).length:=by have:=congrArg List.length hsp;rw[Jc]at this;omega
  rw[e]
  conv=>lhs;arg 2;rw[hsp]
  exact List.drop_left
 obtain⟨c0,c1,c2,c3,c4⟩:=uR5 h;have f2:=h.rawFree 2;simp at c0 c1 c2 c3 c4;obtain⟨cm,hcm⟩:=eX (came+c.length);have hci:(came:Int)+(c.length:Int)=(cm:Int):=by omega
 have hcz:wrap64 (cm:Int)=(cm:Int):=IntWalk.wrap64_in _ oM;obtain⟨an,han⟩:=eX (at_+sz);have hni:(at_:Int)+(sz:Int)=(an:Int):=by omega
 have hnz:wrap64 (an:Int)=(an:Int):=IntWalk.wrap64_in _ oM;have H:=hQd h;have HK:=hQd hk;have HXS:=hQd hxs;have HPF:=hQd hP;have HT:=hQd hT;have HTL:=hQd hl;have HB:=hQd hb;have HRC:=hQd (show r.length+c.length≤1000000 by omega);have HSZ:=hQd hsz;have HDR:=hQd hdr;have HCM:=hQd hcm;have HAN:=hQd han;have HLE:=hQd hle;rw[hsz,hcm,han]
 by_cases hz:sz=0
 ·have hzi:¬0<(sz:Int):=by omega
  have HD0:=hQd (show(whole xs T).2=T by rw[←hdr,hz,List.drop_zero]);clear h hk hxs hP hT hl hb hrc hsp hsz hle hdr hcm han hz;go_enter Tryz.func29,Tryz.ntmps29
  go_wp2_with (first
   |(at_builtin;refine zD8 rfl _ _ rfl v r.length r c rfl rfl ((H.out.rawSet 2 (I O cm)).p1) rfl (by have:=HRC.out;omega) ?_;intro v' w1 h;rw[HT.out]at h;obtain⟨pv,cv,hpv⟩:=h.rowAny;subst hpv;have e0:=h.p1.rawCell 0;have q0:=h.p1.rawFree 0;have e1:=h.p1.rawCell 1;have q1:=h.p1.rawFree 1;have e2:=h.p1.rawCell 2;have q2:=h.p1.rawFree 2;have e3:=h.p1.rawCell 3;have q3:=h.p1.rawFree 3;have e4:=h.p1.rawCell 4;have q4:=h.p1.rawFree 4;simp at e0 e1 e2 e3 e4;have h:=(show St W0 (w1.setCell ⟨sb,3,none⟩ (V pv T.length cv)) K (.raw sb #[I O many,I O at_,I O cm,V pv T.length cv,I O 0] 87::.row (V pv T.length cv) 5 1 T.length (zAD T)::L)from h.p1.rawSet 3 (V pv T.length cv));replace H:=hQd h;clear h)
   |(go_at_call 76;(with_reducible refine(zHO xs HXS.out T HPF.out HTL.out _ sz HSZ.out HK.out H.out.p1).mono ?_);rintro e_ wn ⟨q,cap,lr,K2,rfl,hqc,hm,hft,h4l,hkk,hk2,h⟩;clear e0 e1 e2 e3 e4 q0 q1 q2 q3 q4;have e0:=h.p1.rawCell 0;have q0:=h.p1.rawFree 0;have e1:=h.p1.rawCell 1;have q1:=h.p1.rawFree 1;have e2:=h.p1.rawCell 2;have q2:=h.p1.rawFree 2;have e3:=h.p1.rawCell 3;have q3:=h.p1.rawFree 3;have e4:=h.p1.rawCell 4;have q4:=h.p1.rawFree 4;simp at e0 e1 e2 e3 e4;have HQC:=hQd hqc;have HM:=hQd hm;have HFT:=hQd hft;have H4:=hQd h4l;have HKK:=hQd hkk;have HK2:=hQd hk2;obtain⟨mn,hmn⟩:=eX (many+lr.length);have hmi:(many:Int)+(lr.length:Int)=(mn:Int):=oM;have hmz:wrap64 (mn:Int)=(mn:Int):=(by have h1:=HB.out;have h2:=HTL.out;exact IntWalk.wrap64_in _ oM);have HMN:=hQd hmn;clear hqc hm hft h4l hkk hk2 hmn;replace H:=hQd h.p1;clear h))
  go_ret2
  exact⟨_,q,cap,lr,K2,rfl,HQC.out,HM.out,HFT.out,H4.out,HKK.out,HK2.out,by
   have z:=(H.out.rawSet 0 (I O mn)).rawSet 1 (I O an);rw[HMN.out,HD0.out]
   exact z⟩
 ·have hzi:0<(sz:Int):=by omega
  have HT0:=hQd (show 0<T.length by omega);have HSL:=hQd (show sz≤T.length by omega);have HWL:=hQd (show T.length - sz=(whole xs T).2.length by omega);clear h hk hxs hP hT hl hb hrc hsp hsz hle hdr hcm han hz;go_enter Tryz.func29,Tryz.ntmps29
  go_upto_region 9 with (first
   |(at_builtin;refine zD8 rfl _ _ rfl v r.length r c rfl rfl ((H.out.rawSet 2 (I O cm)).p1) rfl (by have:=HRC.out;omega) ?_;intro v' w1 h;rw[HT.out]at h;obtain⟨g,cv,hpv⟩:=h.rowSlice HT0.out;subst hpv;have e0:=h.p1.rawCell 0;have q0:=h.p1.rawFree 0;have e1:=h.p1.rawCell 1;have q1:=h.p1.rawFree 1;have e2:=h.p1.rawCell 2;have q2:=h.p1.rawFree 2;have e3:=h.p1.rawCell 3;have q3:=h.p1.rawFree 3;have e4:=h.p1.rawCell 4;have q4:=h.p1.rawFree 4;simp at e0 e1 e2 e3 e4;have h:=(show St W0 (w1.setCell ⟨sb,3,none⟩ (V (some ⟨g,0,none⟩) T.length cv)) K (.raw sb #[I O many,I O at_,I O cm,V (some ⟨g,0,none⟩) T.length cv,I O 0] 87::.row (V (some ⟨g,0,none⟩) T.length cv) 5 1 T.length (zAD T)::L)from h.p1.rawSet 3 (V (some ⟨g,0,none⟩) T.length cv));replace H:=hQd h;clear h)
   |(go_at_call 76;(with_reducible refine(zHO xs HXS.out T HPF.out HTL.out _ sz HSZ.out HK.out H.out.p1).mono ?_);rintro e_ wn ⟨q,cap,lr,K2,rfl,hqc,hm,hft,h4l,hkk,hk2,h⟩;clear e0 e1 e2 e3 e4 q0 q1 q2 q3 q4;have e0:=h.p1.rawCell 0;have q0:=h.p1.rawFree 0;have e1:=h.p1.rawCell 1;have q1:=h.p1.rawFree 1;have e2:=h.p1.rawCell 2;have q2:=h.p1.rawFree 2;have e3:=h.p1.rawCell 3;have q3:=h.p1.rawFree 3;have e4:=h.p1.rawCell 4;have q4:=h.p1.rawFree 4;simp at e0 e1 e2 e3 e4;have HQC:=hQd hqc;have HM:=hQd hm;have HFT:=hQd hft;have H4:=hQd h4l;have HKK:=hQd hkk;have HK2:=hQd hk2;obtain⟨mn,hmn⟩:=eX (many+lr.length);have hmi:(many:Int)+(lr.length:Int)=(mn:Int):=oM;have hmz:wrap64 (mn:Int)=(mn:Int):=(by have h1:=HB.out;have h2:=HTL.out;exact IntWalk.wrap64_in _ oM);have HMN:=hQd hmn;clear hqc hm hft h4l hkk hk2 hmn;replace H:=hQd h.p1;clear h))
  rcases H.out.p1.rowGet.2 with ⟨_,hn0⟩|⟨g2,cv2,cur,hvs,_,_,hcv,_⟩
  ·exact absurd hn0 (by have:=HT0.out;omega)
  obtain⟨rfl,rfl⟩:g=g2∧cv=cv2:=by simpa using hvs
  have hai:(sz:Int)≤(T.length:Int):=by have:=HSL.out;omega
  have htc:(T.length:Int)≤(cv:Int):=by omega
  have hac:(sz:Int)≤(cv:Int):=by omega
  by_cases hca:cv=sz
  ·have HW0:=hQd (show(whole xs T).2=[]from List.eq_nil_of_length_eq_zero (by have:=HWL.out;omega));have hca2:T.length=sz:=by have:=HSL.out;omega
   clear hcv;go_wp2_with (go_at_call 77;(with_reducible refine(zHf _ 0 _ [] rfl (Jd _) (fun W0 w K L _ j u hj=>by simp[zAD]at hj) (((H.out.rawSet 0 (I O mn)).rawSet 1 (I O an)).p1)).mono ?_);rintro e_ wn ⟨v2,rfl,h⟩;simp only[List.length_nil]at h;obtain⟨pw,cw,hpw⟩:=h.rowAny;subst hpw;have e3:=h.p2.rawCell 3;have q3:=h.p2.rawFree 3;simp at e3;have h:=h.p2.rawSet 3 (V pw 0 cw);replace H:=hQd h;clear h);go_ret2;exact⟨_,q,cap,lr,K2,rfl,HQC.out,HM.out,HFT.out,H4.out,HKK.out,HK2.out,by rw[HMN.out,HW0.out];exact H.out.p2.drop⟩
  ·have HCL:=hQd (show ∀(W0 w:World) (K:Know) (L:List Res),St W0 w K (.row (V (some ⟨g,0,none⟩) T.length cv) 5 1 T.length (zAD T)::L)→∀j u,(zAD (whole xs T).2)[j]? =some u→w.cell? ((⟨g,sz,none⟩:Addr).add j)=some u from fun W0 w K L hh j u hj=>by
    have hj2:j<T.length - sz:=by have:=(List.getElem?_eq_some_iff.1 hj).1;rw[zFC]at this;have:=HWL.out;omega
    have ha:(⟨g,sz,none⟩:Addr).add j=⟨g,sz+j,none⟩:=Addr.add_mid g sz j;rw[ha,hh.rowCell (sz+j) oM,←List.getElem?_drop,←hj,←HDR.out];unfold zAD
    rw[List.map_drop])
   have HWB:=hQd (show(whole xs T).2.length≤1000000 by have:=HTL.out;have:=HLE.out;omega);clear hcv;go_wp2_with (go_at_call 77;(with_reducible refine(zHf _ _ _ (whole xs T).2 HWL.out HWB.out HCL.out (((H.out.rawSet 0 (I O mn)).rawSet 1 (I O an)).p1)).mono ?_);rintro e_ wn ⟨v2,rfl,h⟩;obtain⟨pw,cw,hpw⟩:=h.rowAny;subst hpw;have e3:=h.p2.rawCell 3;have q3:=h.p2.rawFree 3;simp at e3;have h:=h.p2.rawSet 3 (V pw (whole xs T).2.length cw);replace H:=hQd h;clear h);go_ret2;exact⟨_,q,cap,lr,K2,rfl,HQC.out,HM.out,HFT.out,H4.out,HKK.out,HK2.out,by rw[HMN.out];exact H.out.p2.drop⟩
variable {W0 w:World}{K:Know}{L:List Res}
theorem zPX(p:Nat)(v:Int)(i:InS)(e:Int)(he:i.err=e)(h0:e≠0)(h:St W0 w K (.inp p i::L)):
 Calls Jb 118 #[zAe p,I O v] w fun en w'=>en=Y (.agg #[U false,Z ⟨#[]⟩,I O 0,I O 0,V none 0 0])∧St W0 w' K (.inp p i::L):=by
 have hs:i.err≠0:=by rw[he];exact h0
 have h1:i.fixed 2=(⟨false,[]⟩,i):=(zAN 2 dD dD).stuck i hs;have h2:i.int 2=(0,i):=(zAW 2 dD dD).stuck i hs;have h3:i.int 4=(0,i):=(zAW 4 dD dD).stuck i hs;have h4:i.cnt 6=(0,i):=(zBq 6 dD).stuck i hs;obtain⟨rb,hrb⟩:=eX w.heap.size;obtain⟨tb,htb⟩:=eX (rb+1);have g1:=((h.allocRaw #[U false,Z ⟨#[]⟩,I O 0,I O 0,V none 0 0] 36).allocRaw #[U false,Z ⟨#[]⟩,I O 0,I O 0,V none 0 0] 36).p2;simp only[World.size_alloc,hrb,htb]at g1;have e0:(e==0)=false:=beq_false_of_ne h0;have H:=hQd g1;have H1:=hQd h1;have H2:=hQd h2;have H3:=hQd h3;have H4:=hQd h4;have HE:=hQd he;clear h g1 h1 h2 h3 h4 he hs h0;go_enter Tryz.func118,Tryz.ntmps118
 go_wp2_with (first
  |(go_at_call 117;(with_reducible refine(zI5 p i i 2 false [] H1.out H.out).mono ?_);rintro e_ wn ⟨rfl,h⟩;have c0:=h.p1.rawCell 0;have f0:=h.p1.rawFree 0;have c1:=h.p1.rawCell 1;have f1:=h.p1.rawFree 1;simp at c0 c1;have h:=(show St W0 ((wn.setCell ⟨tb,0,none⟩ (U false)).setCell ⟨tb,1,none⟩ (Z (bb []))) K (.inp p i::.raw tb #[U false,Z ⟨#[]⟩,I O 0,I O 0,V none 0 0] 36::.raw rb #[U false,Z ⟨#[]⟩,I O 0,I O 0,V none 0 0] 36::L)from((h.p1.rawSet 0 (U false)).rawSet 1 (Z (bb []))).p1);replace H:=hQd h;clear h)
  |(go_at_call 66;(with_reducible refine(zMy p i i 0 2 H2.out H.out).mono ?_);rintro e_ wn ⟨rfl,h⟩;have c2:=h.p1.rawCell 2;have f2:=h.p1.rawFree 2;simp at c2;have h:=(show St W0 (wn.setCell ⟨tb,2,none⟩ (I O 0)) K (.inp p i::.raw tb #[U false,Z ⟨#[]⟩,I O 0,I O 0,V none 0 0] 36::.raw rb #[U false,Z ⟨#[]⟩,I O 0,I O 0,V none 0 0] 36::L)from(h.p1.rawSet 2 (I O 0)).p1);replace H:=hQd h;clear h)
  |(go_at_call 66;(with_reducible refine(zMy p i i 0 4 H3.out H.out).mono ?_);rintro e_ wn ⟨rfl,h⟩;have c3:=h.p1.rawCell 3;have f3:=h.p1.rawFree 3;simp at c3;have h:=(show St W0 (wn.setCell ⟨tb,3,none⟩ (I O 0)) K (.inp p i::.raw tb #[U false,Z ⟨#[]⟩,I O 0,I O 0,V none 0 0] 36::.raw rb #[U false,Z ⟨#[]⟩,I O 0,I O 0,V none 0 0] 36::L)from(h.p1.rawSet 3 (I O 0)).p1);replace H:=hQd h;clear h)
  |(go_at_call 174;(with_reducible refine(zRP p i i 6 0 6 rfl H4.out H.out).zM ?_);clear H;intro wn H))
 go_loopw [18] (fun iv wr=>iv=I O 0∧St W0 wr K (.inp p i::.raw tb #[U false,Z ⟨#[]⟩,I O 0,I O 0,V none 0 0] 36::.raw rb #[U false,Z ⟨#[]⟩,I O 0,I O 0,V none 0 0] 36::L)) (fun _ _=>0)
 case atStart=>exact⟨rfl,H.out⟩
 case round=>
  obtain⟨rfl,hst⟩:=hrel;clear H;have H:=hQd hst;clear hst;go_wp2_with (go_at_call 22;(with_reducible refine(zHR p i e HE.out H.out).mono ?_);rintro e_ wn ⟨rfl,h⟩;obtain⟨c0,c1,c2,c3,c4⟩:=uR5 h.p2;obtain⟨f0,f1,f2,f3,f4⟩:=uS5 h.p2;simp at c0 c1 c2 c3 c4;replace H:=hQd h;clear h);have hz:St W0 _ _ (.raw rb #[U false,Z ⟨#[]⟩,I O 0,I O 0,V none 0 0] 36::.inp p i::.raw tb #[U false,Z ⟨#[]⟩,I O 0,I O 0,V none 0 0] 36::L):=(((((H.out.p2.rawSet 0 _).rawSet 1 _).rawSet 2 _).rawSet 3 _).rawSet 4 _);refine bodyPost_ret (zAO rfl _ _ rb [U false,Z ⟨#[]⟩,I O 0,I O 0,V none 0 0] _ rfl (zBR hz) Tryz.underlying36 rfl kR) rfl ?_;exact⟨rfl,hz.drop.p1.drop⟩
theorem zOF(hk:K.has Know.reqs)(h:St W0 w K L):
  Calls Jb 15 #[Z ⟨#[]⟩] w fun en w'=>∃K2:Know,en=Y (.tuple #[.agg #[I O 0,I O 0,I O 0,U false,Z ⟨#[]⟩,U false,Z ⟨#[]⟩,I O 0,I O 0,I O 0,Z ⟨#[]⟩,I O 0,I O 0,V none 0 0,Z ⟨#[]⟩,I O 0,I O 0,U false,V none 0 0,U false,Z ⟨#[]⟩,I O 0,I O 0,V none 0 0],I O 1])∧K2.has K∧St W0 w' K2 L:=by
 have h1:(⟨[],0,0⟩:InS).int 4=(0,⟨[],0,1⟩):=by rfl
 have h2:(⟨[],0,1⟩:InS).take 0=([],⟨[],0,1⟩):=by rfl
 have h3:(⟨[],0,0⟩:InS).head=(⟨0,0,0,⟨false,[]⟩⟩,⟨[],0,1⟩):=by rfl
 have hr:=fun(w:World) (L:List Res) (b:Nat) (h:St W0 w K (.inp b ⟨[],0,0⟩::L))=>(zMI b [] [] 0 ⟨[],0,1⟩ ⟨[],0,1⟩ ⟨[],0,1⟩ ⟨[],0,1⟩ ⟨[],0,1⟩ 0 0 0 false [] h1 h2 h3 (Jd _) rfl (fun _ _=>True) (fun w L bi rf h=>by
  refine(zP2 bi rf ⟨[],0,1⟩ ⟨[],0,1⟩ 0 0 false [] (fun a b c d q n cap K2=>false=a∧[]=b∧0=c∧0=d∧none=q∧0=n∧0=cap∧K=K2) (fun w9 L9 h9=>by
   refine(zPX bi 0 ⟨[],0,1⟩ 1 rfl dD h9).mono ?_;rintro en w' ⟨rfl,h⟩
   exact⟨false,[],0,0,none,0,0,K,rfl,⟨rfl,rfl,rfl,rfl,rfl,rfl,rfl,rfl⟩,h⟩) h).mono ?_
  rintro en w' ⟨rfl,_,_,_,_,_,_,_,_,⟨rfl,rfl,rfl,rfl,rfl,rfl,rfl,rfl⟩,h⟩
  exact⟨rfl,U false,Z ⟨#[]⟩,I O 0,I O 0,I O 0,Z ⟨#[]⟩,I O 0,I O 0,V none 0 0,Z ⟨#[]⟩,I O 0,I O 0,U false,V none 0 0,U false,Z ⟨#[]⟩,I O 0,I O 0,V none 0 0,K,Know.has_refl _,by simp[Value.oneCell'],fun _=>trivial,h⟩) hk h 1 rfl dD ⟨[],0,1⟩ rfl 1 rfl dD).mono (fun en w' hh=>by
    obtain⟨K2,e,hkk,h⟩:=hh
    exact(⟨I O 0,I O 0,I O 0,U false,Z ⟨#[]⟩,U false,Z ⟨#[]⟩,I O 0,I O 0,I O 0,Z ⟨#[]⟩,I O 0,I O 0,V none 0 0,Z ⟨#[]⟩,I O 0,I O 0,U false,V none 0 0,U false,Z ⟨#[]⟩,I O 0,I O 0,V none 0 0,K2,e,hkk,zEr,trivial,h⟩:∃(x0 x1 x2 x3 x4 x5 x6 x7 x8 x9 x10 x11 x12 x13 x14 x15 x16 x17 x18 x19 x20 x21 x22 x23:Value) (K2:Know),en=Y (.agg #[x0,x1,x2,x3,x4,x5,x6,x7,x8,x9,x10,x11,x12,x13,x14,x15,x16,x17,x18,x19,x20,x21,x22,x23])∧K2.has K∧(#[x0,x1,x2,x3,x4,x5,x6,x7,x8,x9,x10,x11,x12,x13,x14,x15,x16,x17,x18,x19,x20,x21,x22,x23]:Array Value).all (fun z=>z.oneCell')=true∧(fun(_:Know) (_:Array Value)=>True) K2 #[x0,x1,x2,x3,x4,x5,x6,x7,x8,x9,x10,x11,x12,x13,x14,x15,x16,x17,x18,x19,x20,x21,x22,x23]∧St W0 w' K2 (.inp b ⟨[],0,1⟩::L)))
 refine(zOH [] (Jd _) ⟨[],0,1⟩ ⟨[],0,1⟩ rfl 1 rfl dD (fun _ _=>True) hr h).mono ?_;rintro en w' ⟨K2,rfl,hkk,h⟩;exact⟨K2,rfl,hkk,h⟩
open Go
end Go.Proofs.YteldcbljedeeiaaGreatDoor
namespace Go.Proofs.YteldcbljedeeiaaGreatDoor
open Go.RowKit
open Go.Value renaming bool→U, string→Z, slice→V, int→I, pointer→Ja
open Go.Ending renaming returned→Y
open Go.IntKind renaming i64→O
open _root_.Go.Proofs.Tryz renaming prog→Jb
open _root_.Nat renaming zero_le→Jd, add_assoc→Jm
open _root_.List renaming take_succ_eq_append_getElem→Jf, length_cons→Jn, length_append→Jc, append_nil→Jp, length_drop→Jh, drop_drop→Jk, append_assoc→Je, flatMap_cons→Jg, getElem_mem→Ji, length_map→Jj, take→Jl, drop→Jo
structure EndS where
 n1:Int
 n2:Int
 n3:Int
 n4:Int
 n5:Int
def EndS.R (x:EndS):Prop:=Rn x.n1∧Rn x.n2∧Rn x.n3∧Rn x.n4∧Rn x.n5
structure Good1 (x:BatR):Prop where
 so:SmallOk x.b
 recs:x.l.map (·.1)=x.b.recs
 len:x.b.enc.length≤14000
 told:x.b.ctl=true→(endOf x.b).2.2.2.2.2=true
variable {W0 w:World}{K:Know}{L:List Res}
theorem zG2:zCJ Jb 9 (Z ⟨#[]⟩) 1 16:=zAT kR rfl dD
def RU8 (cs:List Value) (x:Int):Prop:=cs=[.int .u8 x]
theorem zQY:Tryz.prog.cellsOf 5=1:=by kernel_rfl
theorem zR9{α:Type}{R:List Value→α→Prop}{sz n cap:Nat}{q:Option Addr}{l:List α}(hk:K.has (Know.flat R (V q n cap) sz l))(h:St W0 w K L)(h0:0<l.length):∃b off,q=some ⟨b,off,none⟩:=by
 exact zq28
theorem zSR{b off n cap:Nat}{l:List Int}(hk:K.has (Know.flat RU8 (V (some ⟨b,off,none⟩) n cap) 1 l))(h:St W0 w K L)(i:Nat)(hi:i<l.length)(x:Int)(hx:l[i]=x):w.cell? ⟨b,off+i,none⟩=some (.int .u8 x):=by
 subst hx;obtain⟨F,hF,_⟩:=h.get;obtain⟨q2,cap2,hv,hr⟩:=(hk _ _ hF).at;obtain⟨b2,off2,hq,hc⟩:=hr oM;rw[hq]at hv;simp at hv;obtain⟨⟨rfl,rfl⟩,_,_⟩:=hv;obtain⟨cs,_,hR,hcs⟩:=hc i hi;unfold RU8 at hR;subst hR;have:=hcs 0 _ rfl
 simpa using this
section
variable {H:Type}{enc:TypeId×Value→H}{w:World}{spare:Nat→Bool}{held:Bool}
open Go.ChangeShapes Go.WideShapes Go.ChangeAt Go.Deep
theorem zPD{N:Nat}:∀n cs y,DataW.trod enc Jb w 0 spare held n 5 cs=some y→zBB 5 y.1→(∀x∈y.2,x.block<N)→∃x:Int,RU8 cs x∧(0≤x∧x<256):=fun n cs y h _ _=>by
 obtain⟨x,e,_,q⟩:=DataW.trod_int Tryz.underlying5 h;exact⟨x,e,wf_u8 q⟩
end
def cutS (s:Bs):List Int→List Bs
 |[]=>[s]
 |n::t=>s.take n.toNat::cutS (s.drop n.toNat) t
theorem zLc:∀(ns:List Int) (s:Bs),(cutS s ns).flatten=s
 |[],s=>by simp[cutS]
 |n::t,s=>by rw[cutS,List.flatten_cons,zLc t,List.take_append_drop]
theorem zNM:∀(ns:List Int) (s:Bs),(cutS s ns).length=ns.length+1
 |[],s=>rfl
 |n::t,s=>by rw[cutS,Jn,zNM t,Jn]
theorem zLo(s:ByteArray)(w:World):(Instr.buildSlice 75 1 #[(0,Z s)]).run Jb w=.ok (V (some ⟨w.heap.size,0,none⟩) 1 1) (w.alloc (.cells #[Z s] 9 (0,0))):=by go_simp
theorem zGT{o:Oper}{ρ:Operand→Value}(ps:Array (Nat×Value))(v:Value)(w w':World)(ho:execOp ρ o=(do pure (Next.value (←Instr.buildSlice 75 1 ps))))(hb:(Instr.buildSlice 75 1 ps).run Jb w=.ok v w'):(execOp ρ o).run Jb w=.ok (.value v) w':=by
 rw[ho];simp[hb]
def zN8 (s:Bs):List Value:=[Z (bb s)]
theorem St.freezeTexts{v:Value}{T:TypeId}{l:List Bs}(h:St W0 w K (.row v T 1 l.length (l.flatMap zN8)::L)):St W0 w (K.and (Know.strs v l)) L:=by
 refine h.freeze fun F S1 _ h1=> ?_
 obtain⟨⟨g1,g2⟩,g3⟩:=h1
 rcases g2 with ⟨rfl,h0⟩|⟨g,cap,cur,rfl,_,hg,hn,hcm,hcs,htake⟩
 ·exact⟨none,0,by rw[h0],fun hh=>absurd hh oM⟩
 ·have hS:S1 g:=(g3 g).2 rfl;have hlt:=zBi hg;refine⟨_,cap,rfl,fun _=>⟨g,0,rfl,.inr ⟨hS,hlt⟩,hlt,fun i hi=> ?_⟩⟩;refine⟨[Z (bb l[i])],rfl,rfl,fun q u hu=> ?_⟩;have hq:q<1:=(List.getElem?_eq_some_iff.1 hu).1;obtain rfl:q=0:=by omega
  rw[zAK hg,Nat.zero_add]
  have e:(l.flatMap zN8)[i*1+0]? =some u:=by
   rw[zCg l zN8 1 (fun x hx=>rfl) i hi 0 dD];exact hu
  rw[←htake,List.getElem?_take_of_lt oM]at e
  simpa using e
end Go.Proofs.YteldcbljedeeiaaGreatDoor
