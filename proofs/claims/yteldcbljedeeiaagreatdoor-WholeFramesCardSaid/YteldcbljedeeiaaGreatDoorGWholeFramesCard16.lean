/- A text. -/
import Derived.Test.YteldcbljedeeiaaGreatDoorGWholeFramesCard4
import Derived.Test.YteldcbljedeeiaaGreatDoorGWholeFramesCard14
import Derived.Test.YteldcbljedeeiaaGreatDoorGWholeFramesCard15
import Derived.Test.YteldcbljedeeiaaGreatDoorGWholeFramesCard10
import Derived.Test.YteldcbljedeeiaaGreatDoorGWholeFramesCard6
import Derived.Handy
import Derived.Test.YteldcbljedeeiaaGreatDoorGWholeFramesCard13
import Derived.Test.YteldcbljedeeiaaGreatDoorGWholeFramesCard5
import Derived.RegionTactic
import Derived.Deep.RegionHeld3
import Derived.Deep.DeepCutAuto
import Derived.WalkMore
import Derived.Test.YteldcbljedeeiaaGreatDoorGWholeFramesCard7
import Derived.Test.YteldcbljedeeiaaGreatDoorGWholeFramesCard9
import Derived.Test.YteldcbljedeeiaaGreatDoorGWholeFramesCard8
/- A text. -/
namespace Go.Proofs.YteldcbljedeeiaaGreatDoor
open Go.RowKit
set_option maxRecDepth 100000
set_option maxHeartbeats 8000000
open Go.Value renaming bool→U, string→Z, slice→V, int→I, pointer→Ja
open Go.Ending renaming returned→Y
open Go.IntKind renaming i64→O
open _root_.Go.Proofs.Tryz renaming prog→Jb
open _root_.Nat renaming zero_le→Jd, add_assoc→Jm
open _root_.List renaming take_succ_eq_append_getElem→Jf, length_cons→Jn, length_append→Jc, append_nil→Jp, length_drop→Jh, drop_drop→Jk, append_assoc→Je, flatMap_cons→Jg, getElem_mem→Ji, length_map→Jj, take→Jl, drop→Jo
set_option maxRecDepth 100000
variable {W0 w:World}{K:Know}{L:List Res}
theorem zGZ(h:HeadS):(zAl h).length=10+h.cli.data.length:=by
 unfold zAl encF;rw[Jc,Jc,Jc,Jc,zAb,zAb,zAb,zAb]
 omega
theorem zEe{l:List (TopS×Value)}(h:few (l.map (·.1))=1){p e:Int}{d:Bs}(he:addE d p e (l.map (·.1))=0):FewT l∧zC7 (l.map (·.1)):=⟨zQA (zFj h),zGR l (zQA (zFj h)) (zNo (zFr he).2)⟩
theorem FrR.mFitTs{x:FrR}(ha:x.Arg)(hf:x.Few)(he:zAE x.v (x.ml.map MarkR.m)=0):∀y∈x.ml,zC7 y.m.tops∧(encM x.v y.m).length≤2000:=fun y hy=>by
 have h0:=(zCS he).2 y.m (List.mem_map_of_mem hy);have hri:=zNo (zJe (show mErr x.v y.m.prod y.m.epoch y.m.tops y.m.coord=0 from h0)).2.2.2;have hF:=FrR.mfit ha hf y hy;have h1:=zGR y.l hF.2.1 (by rw[hF.1];exact hri);rw[hF.1]at h1;exact⟨h1,zMR x.v y.m (hf.tw y hy)⟩
theorem wrB_ok(x:FrR)(ha:x.Arg)(hf:x.Few)(hh:zAq x.hd=0)(he:x.bE=0)(po:Nat)(hk:K.has x.know)(h:St W0 w K (.out po ⟨zAl x.hd,0⟩::L)):
 Calls Jb 48 #[zAc po,.agg x.vals] w fun en w'=>en=Y (.tuple #[])∧St W0 w' K (.out po ⟨x.inner,0⟩::L):=by
 have hv:=zBG _ _ (zBe _ hh).2.1;have k1:=FrR.k1 hk;have k2:=FrR.k2 hk;have k3:=FrR.k3 hk;have hhl:(zAl x.hd).length≤2000:=by rw[zGZ];have:x.hd.cli.data.length≤1000:=hf.cs;omega
 have hck:=FrR.pck ha hf;have hmf:=FrR.mfit ha hf;have hmt:=FrR.mFitTs ha hf;obtain⟨k,v,num,u,cs,bn,bd,bt,bp,be,ad,ap,ae,aq,al,acap,ed,ep,ee,ec,mq,ml,mcap,pn,pd,pa,pt,pq,pl,pcap⟩:=x;simp only at k1 k2 k3 hck hmf hmt;have hv:k=0∨(k=22∧v=0)∨(k=22∧v=1)∨(k=24∧v=0)∨(k=26∧v=0)∨k=27:=hv;have hpd:pd.length≤140737488351232:=ha.pd;have hbp:bp<9223372036854775808:=ha.bp.2;have hap:ap<9223372036854775808:=ha.ap.2;have hep:ep<9223372036854775808:=ha.ep.2;have hed:ed.length≤1000:=hf.ed
 rcases hv with rfl|⟨rfl,rfl⟩|⟨rfl,rfl⟩|⟨rfl,rfl⟩|⟨rfl,rfl⟩|rfl
 ·have he:zA9 ⟨pn,pd⟩ pa pt v pl=0:=he;have G:=GoodReq.of he ha.pf hf.ps hf.pz;have hac:=G.hac;have hgl:=G.len;exact zIq po _ ⟨_,0⟩ v num u cs pn pd pa pt pq pl.length pcap (U bn) (Z (bb bd)) (I O bt) (I O bp) (I O be) (Z (bb ad)) (I O ap) (I O ae) (V aq al.length acap) (Z (bb ed)) (I O ep) (I O ee) (U ec) (V mq ml.length mcap) (fun w L h=>zI0 po _ pn pd pa pt v pl pq pcap oM hck G.few he _ rfl (by show(zAl _++zAR pn pd pa pt pl).length≤9000000;rw[Jc];omega) G.right G.id oM G.htm G.put k3 h) h
 ·have he:begE 0 bn bd bt bp be=0:=he;exact zEU po _ ⟨_,0⟩ 0 num u cs bn bd bt bp be (Z (bb ad)) (I O ap) (I O ae) (V aq al.length acap) (Z (bb ed)) (I O ep) (I O ee) (U ec) (V mq ml.length mcap) (U pn) (Z (bb pd)) (I O pa) (I O pt) (V pq pl.length pcap) (fun w L h=>zJJ po _ _ _ bn bd bt bp be rfl (by rw[Je];rfl) he hbp oM h) h
 ·have he:begE 1 bn bd bt bp be=0:=he;exact zEU po _ ⟨_,0⟩ 1 num u cs bn bd bt bp be (Z (bb ad)) (I O ap) (I O ae) (V aq al.length acap) (Z (bb ed)) (I O ep) (I O ee) (U ec) (V mq ml.length mcap) (U pn) (Z (bb pd)) (I O pa) (I O pt) (V pq pl.length pcap) (fun w L h=>zJI po _ _ _ _ _ bn bd bt bp be rfl rfl rfl (by show _=zAl _++(encF 2 ⟨bn,bd⟩++zAa bt 4++zAa bp 8++zAa be 2);simp only[Je];rfl) he hbp oM h) h
 ·have he:addE ad ap ae (al.map (·.1))=0:=he;obtain⟨t1,t2⟩:=zEe hf.al he;exact zIt po _ ⟨_,0⟩ 0 num u cs ad ap ae aq al.length acap (U bn) (Z (bb bd)) (I O bt) (I O bp) (I O be) (Z (bb ed)) (I O ep) (I O ee) (U ec) (V mq ml.length mcap) (U pn) (Z (bb pd)) (I O pa) (I O pt) (V pq pl.length pcap) (fun w L h=>zLF po _ _ _ _ _ ad ap ae al aq acap rfl rfl rfl (by show _=zAl _++(encF 2 ⟨false,ad⟩++zAa ap 8++zAa ae 2++zA3 (al.map (·.1)));simp only[Je];rfl) he hap oM t1 t2 k1 h) h
 ·have he:chkW ed ep ee=0:=he;exact zIs po _ ⟨_,0⟩ 0 num u cs ed ep ee ec (U bn) (Z (bb bd)) (I O bt) (I O bp) (I O be) (Z (bb ad)) (I O ap) (I O ae) (V aq al.length acap) (V mq ml.length mcap) (U pn) (Z (bb pd)) (I O pa) (I O pt) (V pq pl.length pcap) (fun w L h=>zK7 po _ _ _ _ _ ed ep ee ec rfl rfl rfl (by show _=zAl _++(encF 2 ⟨false,ed⟩++zAa ep 8++zAa ee 2++encO ec);simp only[Je];rfl) he oM hep oM h) h
 ·have he:zAE v (ml.map MarkR.m)=0:=he;exact zIr po _ ⟨_,0⟩ v num u cs mq ml.length mcap (U bn) (Z (bb bd)) (I O bt) (I O bp) (I O be) (Z (bb ad)) (I O ap) (I O ae) (V aq al.length acap) (Z (bb ed)) (I O ep) (I O ee) (U ec) (U pn) (Z (bb pd)) (I O pa) (I O pt) (V pq pl.length pcap) (fun w L h=>zJc po _ _ v ml mq mcap rfl he hmf (hmt he) hf.n20 oM k2 h) h
theorem zSO(x:FrR)(ha:x.Arg)(hf:x.Few)(hh:zAq x.hd=0)(e:Int)(he:x.bE=e)(h0:e≠0)(po:Nat)(hk:K.has x.know)(h:St W0 w K (.out po ⟨zAl x.hd,0⟩::L)):
 Calls Jb 48 #[zAc po,.agg x.vals] w fun en w'=>en=Y (.tuple #[])∧St W0 w' K (.out po ⟨zAl x.hd,e⟩::L):=by
 have hv:=zBG _ _ (zBe _ hh).2.1;have k1:=FrR.k1 hk;have k2:=FrR.k2 hk;have k3:=FrR.k3 hk;have hck:=FrR.pck ha hf;have hmf:=FrR.mfit ha hf;obtain⟨k,v,num,u,cs,bn,bd,bt,bp,be,ad,ap,ae,aq,al,acap,ed,ep,ee,ec,mq,ml,mcap,pn,pd,pa,pt,pq,pl,pcap⟩:=x;simp only at k1 k2 k3 hck hmf;have hv:k=0∨(k=22∧v=0)∨(k=22∧v=1)∨(k=24∧v=0)∨(k=26∧v=0)∨k=27:=hv;have hpd:pd.length≤140737488351232:=ha.pd;have hpl:pl.length≤3518437208780:=ha.pl;have hbd:bd.length≤1000:=hf.bd;have had:ad.length≤1000:=hf.ad;have hed:ed.length≤1000:=hf.ed;have hn20:ml.length≤20:=hf.n20;have beg:k=22→begE v bn bd bt bp be=e→Calls Jb 48 #[zAc po,.agg (FrR.vals ⟨22,v,num,u,cs,bn,bd,bt,bp,be,ad,ap,ae,aq,al,acap,ed,ep,ee,ec,mq,ml,mcap,pn,pd,pa,pt,pq,pl,pcap⟩)] w fun en w'=>en=Y (.tuple #[])∧St W0 w' K (.out po ⟨zAl ⟨k,v,num,⟨u,cs⟩⟩,e⟩::L):=fun _ he=>zEU po _ ⟨_,e⟩ v num u cs bn bd bt bp be (Z (bb ad)) (I O ap) (I O ae) (V aq al.length acap) (Z (bb ed)) (I O ep) (I O ee) (U ec) (V mq ml.length mcap) (U pn) (Z (bb pd)) (I O pa) (I O pt) (V pq pl.length pcap) (fun w L h=>zJK po _ e v bn bd bt bp be he h0 oM h) h
 rcases hv with rfl|⟨rfl,rfl⟩|⟨rfl,rfl⟩|⟨rfl,rfl⟩|⟨rfl,rfl⟩|rfl
 ·exact zIq po _ ⟨_,e⟩ v num u cs pn pd pa pt pq pl.length pcap (U bn) (Z (bb bd)) (I O bt) (I O bp) (I O be) (Z (bb ad)) (I O ap) (I O ae) (V aq al.length acap) (Z (bb ed)) (I O ep) (I O ee) (U ec) (V mq ml.length mcap) (fun w L h=>zHz po _ pn pd pa pt v pl pq pcap oM hck oM e he h0 k3 h) h
 ·exact beg rfl he
 ·exact beg rfl he
 ·exact zIt po _ ⟨_,e⟩ 0 num u cs ad ap ae aq al.length acap (U bn) (Z (bb bd)) (I O bt) (I O bp) (I O be) (Z (bb ed)) (I O ep) (I O ee) (U ec) (V mq ml.length mcap) (U pn) (Z (bb pd)) (I O pa) (I O pt) (V pq pl.length pcap) (fun w L h=>zJP po _ e ad ap ae al aq acap he h0 oM (zQA (zFj hf.al)) k1 h) h
 ·exact zIs po _ ⟨_,e⟩ 0 num u cs ed ep ee ec (U bn) (Z (bb bd)) (I O bt) (I O bp) (I O be) (Z (bb ad)) (I O ap) (I O ae) (V aq al.length acap) (V mq ml.length mcap) (U pn) (Z (bb pd)) (I O pa) (I O pt) (V pq pl.length pcap) (fun w L h=>zJq po _ e ed ep ee ec he h0 oM h) h
 ·exact zIr po _ ⟨_,e⟩ v num u cs mq ml.length mcap (U bn) (Z (bb bd)) (I O bt) (I O bp) (I O be) (Z (bb ad)) (I O ap) (I O ae) (V aq al.length acap) (Z (bb ed)) (I O ep) (I O ee) (U ec) (U pn) (Z (bb pd)) (I O pa) (I O pt) (V pq pl.length pcap) (fun w L h=>zHB po _ e v ml mq mcap he h0 hmf oM k2 h) h
theorem wrB_st(x:FrR)(ha:x.Arg)(hf:x.Few)(o:OutS)(hs:o.err≠0)(ho:o.ok 1000000)(po:Nat)(hk:K.has x.know)(h:St W0 w K (.out po o::L)):
 Calls Jb 48 #[zAc po,.agg x.vals] w fun en w'=>en=Y (.tuple #[])∧St W0 w' K (.out po o::L):=by
 have k1:=FrR.k1 hk;have k2:=FrR.k2 hk;have k3:=FrR.k3 hk;have hck:=FrR.pck ha hf;have hmf:=FrR.mfit ha hf;have hmt:=FrR.mFitTs ha hf;obtain⟨k,v,num,u,cs,bn,bd,bt,bp,be,ad,ap,ae,aq,al,acap,ed,ep,ee,ec,mq,ml,mcap,pn,pd,pa,pt,pq,pl,pcap⟩:=x;simp only at k1 k2 k3 hck hmf hmt;have hpd:pd.length≤140737488351232:=ha.pd;have hpl:pl.length≤3518437208780:=ha.pl;have hbd:bd.length≤1000:=hf.bd;have had:ad.length≤1000:=hf.ad;have hed:ed.length≤1000:=hf.ed;have hn20:ml.length≤20:=hf.n20;have hbp:bp<9223372036854775808:=ha.bp.2;have hap:ap<9223372036854775808:=ha.ap.2;have hep:ep<9223372036854775808:=ha.ep.2
 by_cases h1:k=0
 ·subst h1
  by_cases he:zA9 ⟨pn,pd⟩ pa pt v pl=0
  ·have G:=GoodReq.of he ha.pf hf.ps hf.pz;have hac:=G.hac;exact zIq po _ _ v num u cs pn pd pa pt pq pl.length pcap (U bn) (Z (bb bd)) (I O bt) (I O bp) (I O be) (Z (bb ad)) (I O ap) (I O ae) (V aq al.length acap) (Z (bb ed)) (I O ep) (I O ee) (U ec) (V mq ml.length mcap) (fun w L h=>zIZ po _ pn pd pa pt v pl pq pcap hs ho oM hck G.few he G.id oM G.htm (fun y hy=>(G.put y hy).toW) k3 h) h
  ·exact zIq po _ _ v num u cs pn pd pa pt pq pl.length pcap (U bn) (Z (bb bd)) (I O bt) (I O bp) (I O be) (Z (bb ad)) (I O ap) (I O ae) (V aq al.length acap) (Z (bb ed)) (I O ep) (I O ee) (U ec) (V mq ml.length mcap) (fun w L h=>zHy po _ pn pd pa pt v pl pq pcap hs oM hck oM _ rfl he k3 h) h
 by_cases h2:k=22
 ·subst h2
  by_cases he:begE v bn bd bt bp be=0
  ·by_cases hv:v=1
   ·subst hv;exact zEU po _ _ 1 num u cs bn bd bt bp be (Z (bb ad)) (I O ap) (I O ae) (V aq al.length acap) (Z (bb ed)) (I O ep) (I O ee) (U ec) (V mq ml.length mcap) (U pn) (Z (bb pd)) (I O pa) (I O pt) (V pq pl.length pcap) (fun w L h=>zJH po _ bn bd bt bp be hs ho oM he hbp h) h
   ·exact zEU po _ _ v num u cs bn bd bt bp be (Z (bb ad)) (I O ap) (I O ae) (V aq al.length acap) (Z (bb ed)) (I O ep) (I O ee) (U ec) (V mq ml.length mcap) (U pn) (Z (bb pd)) (I O pa) (I O pt) (V pq pl.length pcap) (fun w L h=>zJF po _ v hv bn bd bt bp be hs ho oM he hbp h) h
  ·exact zEU po _ _ v num u cs bn bd bt bp be (Z (bb ad)) (I O ap) (I O ae) (V aq al.length acap) (Z (bb ed)) (I O ep) (I O ee) (U ec) (V mq ml.length mcap) (U pn) (Z (bb pd)) (I O pa) (I O pt) (V pq pl.length pcap) (fun w L h=>zJG po _ _ v bn bd bt bp be hs rfl he oM h) h
 by_cases h3:k=24
 ·subst h3
  by_cases he:addE ad ap ae (al.map (·.1))=0
  ·obtain⟨t1,t2⟩:=zEe hf.al he;exact zIt po _ _ v num u cs ad ap ae aq al.length acap (U bn) (Z (bb bd)) (I O bt) (I O bp) (I O be) (Z (bb ed)) (I O ep) (I O ee) (U ec) (V mq ml.length mcap) (U pn) (Z (bb pd)) (I O pa) (I O pt) (V pq pl.length pcap) (fun w L h=>zLE po _ ad ap ae al aq acap hs ho he hap t1 t2 k1 h) h
  ·exact zIt po _ _ v num u cs ad ap ae aq al.length acap (U bn) (Z (bb bd)) (I O bt) (I O bp) (I O be) (Z (bb ed)) (I O ep) (I O ee) (U ec) (V mq ml.length mcap) (U pn) (Z (bb pd)) (I O pa) (I O pt) (V pq pl.length pcap) (fun w L h=>zJO po _ _ ad ap ae al aq acap hs rfl he oM (zQA (zFj hf.al)) k1 h) h
 by_cases h4:k=26
 ·subst h4
  by_cases he:chkW ed ep ee=0
  ·exact zIs po _ _ v num u cs ed ep ee ec (U bn) (Z (bb bd)) (I O bt) (I O bp) (I O be) (Z (bb ad)) (I O ap) (I O ae) (V aq al.length acap) (V mq ml.length mcap) (U pn) (Z (bb pd)) (I O pa) (I O pt) (V pq pl.length pcap) (fun w L h=>zK6 po _ ed ep ee ec hs ho he hep h) h
  ·exact zIs po _ _ v num u cs ed ep ee ec (U bn) (Z (bb bd)) (I O bt) (I O bp) (I O be) (Z (bb ad)) (I O ap) (I O ae) (V aq al.length acap) (V mq ml.length mcap) (U pn) (Z (bb pd)) (I O pa) (I O pt) (V pq pl.length pcap) (fun w L h=>zJp po _ _ ed ep ee ec hs rfl he oM h) h
 by_cases h5:k=27
 ·subst h5
  by_cases he:zAE v (ml.map MarkR.m)=0
  ·exact zIr po _ _ v num u cs mq ml.length mcap (U bn) (Z (bb bd)) (I O bt) (I O bp) (I O be) (Z (bb ad)) (I O ap) (I O ae) (V aq al.length acap) (Z (bb ed)) (I O ep) (I O ee) (U ec) (U pn) (Z (bb pd)) (I O pa) (I O pt) (V pq pl.length pcap) (fun w L h=>zJb po _ v ml mq mcap hs ho he hmf (fun y hy=>(hmt he y hy).1) oM k2 h) h
  ·exact zIr po _ _ v num u cs mq ml.length mcap (U bn) (Z (bb bd)) (I O bt) (I O bp) (I O be) (Z (bb ad)) (I O ap) (I O ae) (V aq al.length acap) (Z (bb ed)) (I O ep) (I O ee) (U ec) (U pn) (Z (bb pd)) (I O pa) (I O pt) (V pq pl.length pcap) (fun w L h=>zHA po _ _ v ml mq mcap hs rfl he hmf oM k2 h) h
 exact zRi po o k h1 h2 h3 h4 h5 (I O v) (I O num) (U u) (Z (bb cs)) (U bn) (Z (bb bd)) (I O bt) (I O bp) (I O be) (Z (bb ad)) (I O ap) (I O ae) (V aq al.length acap) (Z (bb ed)) (I O ep) (I O ee) (U ec) (V mq ml.length mcap) (U pn) (Z (bb pd)) (I O pa) (I O pt) (V pq pl.length pcap) h
theorem FrR.inner_len{x:FrR}(ha:x.Arg)(hf:x.Few)(hh:zAq x.hd=0)(he:x.bE=0):x.inner.length≤400000:=by
 have hv:=zBG _ _ (zBe _ hh).2.1;have hhl:(zAl x.hd).length≤1010:=by rw[zGZ];have:x.hd.cli.data.length≤1000:=hf.cs;omega
 have hmt:=FrR.mFitTs ha hf;unfold FrR.inner;rw[Jc];have lF:∀(nl:Bool) (d:Bs),(encF 2 ⟨nl,d⟩).length=2+d.length:=fun nl d=>by unfold encF;rw[Jc,zAb]
 have lB:∀(n:Int) (k:Nat),(zAa n k).length=k:=zAb
 have hb:x.body.length≤300000:=by
  obtain⟨k,v,num,u,cs,bn,bd,bt,bp,be,ad,ap,ae,aq,al,acap,ed,ep,ee,ec,mq,ml,mcap,pn,pd,pa,pt,pq,pl,pcap⟩:=x;simp only at hmt;have hv:k=0∨(k=22∧v=0)∨(k=22∧v=1)∨(k=24∧v=0)∨(k=26∧v=0)∨k=27:=hv;have hbd:bd.length≤1000:=hf.bd;have had:ad.length≤1000:=hf.ad;have hed:ed.length≤1000:=hf.ed;have hn20:ml.length≤20:=hf.n20
  rcases hv with rfl|⟨rfl,rfl⟩|⟨rfl,rfl⟩|⟨rfl,rfl⟩|⟨rfl,rfl⟩|rfl
  ·exact(GoodReq.of he ha.pf hf.ps hf.pz).len
  ·show(encF 2 ⟨bn,bd⟩++zAa bt 4).length≤_
   rw[Jc,lF,lB];omega
  ·show(encF 2 ⟨bn,bd⟩++zAa bt 4++zAa bp 8++zAa be 2).length≤_
   rw[Jc,Jc,Jc,lF,lB,lB,lB];omega
  ·show(encF 2 ⟨false,ad⟩++zAa ap 8++zAa ae 2++zA3 (al.map (·.1))).length≤_
   have:=zFj hf.al;rw[Jc,Jc,Jc,lF,lB,lB,zIe];simp only at this
   omega
  ·show(encF 2 ⟨false,ed⟩++zAa ep 8++zAa ee 2++encO ec).length≤_
   rw[Jc,Jc,Jc,lF,lB,lB,zJt];omega
  ·show(zEz v (ml.map MarkR.m)).length≤_
   have he:zAE v (ml.map MarkR.m)=0:=he
   have:=zMv v (ml.map MarkR.m) (ml.map MarkR.m).length (Nat.le_refl _) (by rw[Jj];exact hn20) (fun m hm=>by
    obtain⟨y,hy,rfl⟩:=List.mem_map.1 hm
    exact(hmt he y hy).2)
   rw[zNu]at this
   omega
 omega
theorem zSJ(x:FrR)(ha:x.Arg)(hf:x.Few)(hr:K.has Know.reqs)(hk:K.has x.know)(h:St W0 w K L):
 Calls Jb 12 #[.agg x.vals] w fun en w'=>en=Y (.tuple #[Z (bb (if x.err=0 then x.enc else[])),I O x.err])∧St W0 w' K L:=by
 have AS:∀s,∀e,s=(if x.err=0 then x.enc else[])→e=x.err→∀{en:Ending}{w':World},(en=Y (.tuple #[Z (bb s),I O e])∧St W0 w' K L)→(en=Y (.tuple #[Z (bb (if x.err=0 then x.enc else[])),I O x.err])∧St W0 w' K L):=fun s e h1 h2 _ _ h=>by rw[←h1,←h2];exact h
 by_cases hh:zAq x.hd=0
 ·have ee:x.err=x.bE:=by unfold FrR.err;rw[if_neg (by simp[hh])]
  by_cases he:x.bE=0
  ·have hl:=FrR.inner_len ha hf hh he;exact(zQv x.k x.v x.num x.u x.cs (U x.bn) (Z (bb x.bd)) (I O x.bt) (I O x.bp) (I O x.be) (Z (bb x.ad)) (I O x.ap) (I O x.ae) (V x.aq x.al.length x.acap) (Z (bb x.ed)) (I O x.ep) (I O x.ee) (U x.ec) (V x.mq x.ml.length x.mcap) (U x.pn) (Z (bb x.pd)) (I O x.pa) (I O x.pt) (V x.pq x.pl.length x.pcap) x.inner x.enc hh rfl oM hr (fun po w L h=>wrB_ok x ha hf hh he po hk h) h).mono fun _ _ hz=>AS _ _ (by rw[ee,he,if_pos rfl]) (by rw[ee,he]) hz
  ·exact(zEw x.k x.v x.num x.u x.cs (U x.bn) (Z (bb x.bd)) (I O x.bt) (I O x.bp) (I O x.be) (Z (bb x.ad)) (I O x.ap) (I O x.ae) (V x.aq x.al.length x.acap) (Z (bb x.ed)) (I O x.ep) (I O x.ee) (U x.ec) (V x.mq x.ml.length x.mcap) (U x.pn) (Z (bb x.pd)) (I O x.pa) (I O x.pt) (V x.pq x.pl.length x.pcap) ⟨zAl x.hd,0⟩ ⟨zAl x.hd,x.bE⟩ x.bE (zBe _ hh).1 ha.head rfl he hr (fun po w L h=>zSO x ha hf hh x.bE rfl he po hk h) h).mono fun _ _ hz=>AS [] x.bE (by rw[ee,if_neg he]) ee.symm hz
 ·have ee:x.err=zAq x.hd:=by unfold FrR.err;rw[if_pos hh]
  exact(zEw x.k x.v x.num x.u x.cs (U x.bn) (Z (bb x.bd)) (I O x.bt) (I O x.bp) (I O x.be) (Z (bb x.ad)) (I O x.ap) (I O x.ae) (V x.aq x.al.length x.acap) (Z (bb x.ed)) (I O x.ep) (I O x.ee) (U x.ec) (V x.mq x.ml.length x.mcap) (U x.pn) (Z (bb x.pd)) (I O x.pa) (I O x.pt) (V x.pq x.pl.length x.pcap) ⟨[],zAq x.hd⟩ ⟨[],zAq x.hd⟩ (zAq x.hd) (zNA _ hh) ha.head rfl hh hr (fun po w L h=>wrB_st x ha hf _ hh (by unfold OutS.ok;simp) po hk h) h).mono fun _ _ hz=>AS [] _ (by rw[ee,if_neg hh]) ee.symm hz
set_option maxHeartbeats 8000000
theorem zMm(b:Nat)(i i1 i2 i3 i4:InS)(d:Bs)(p e:Int)(tl:List TopS)(h1:i.text=(d,i1))(h2:i1.int 8=(p,i2))(h3:i2.int 2=(e,i3))(h4:i3.tops=(tl,i4))(hi:i4.err=0)(hr:addE d p e tl=0)(hl:d.length≤140737488355328)(hf:FewL tl){W0 w:World}{K:Know}{L:List Res}(h:St W0 w K (.inp b i::L)):
 Calls Jb 120 #[zAe b] w fun en w'=>∃(q:Option Addr) (cap:Nat) (lr:List (TopS×Value)),en=Y (.agg #[Z (bb d),I O p,I O e,V q lr.length cap])∧lr.map (·.1)=tl∧St W0 w' (K.and (Know.tops (V q lr.length cap) lr)) (.inp b i4::L):=by
 obtain⟨rb,hrb⟩:=eX w.heap.size;obtain⟨eb,heb⟩:=eX (rb+1);have g1:=(h.allocRaw #[Z ⟨#[]⟩,I O 0,I O 0,V none 0 0] 30).allocRaw #[Z ⟨#[]⟩,I O 0,I O 0,V none 0 0] 30;simp only[World.size_alloc,hrb,heb]at g1;have H:=hQd g1.p2;have H1:=hQd h1;have H2:=hQd h2;have H3:=hQd h3;have H4:=hQd h4;have HI:=hQd hi;have HR:=hQd hr;have HL:=hQd hl;have HFL:=hQd hf;have HT:=hQd (show((0:Int)==0)=true by rfl);have HJ:=hQd (show(if (0:Int)=0 then i4 else i4.fail 0)=i4 by rfl);clear h g1 h1 h2 h3 h4 hi hr hl hf;go_enter Tryz.func120,Tryz.ntmps120
 go_wp2_with (first
  |(go_at_call 87;(with_reducible refine(zDJ b _ _ d H1.out H.out).mono ?_);rintro e_ wn ⟨rfl,h⟩;have f0:=h.p1.rawFree 0;have g0:=h.p1.rawCell 0;simp at g0;have h:=(show St W0 (wn.setCell ⟨eb,0,none⟩ (Z (bb d))) K (.inp b i1::.raw eb #[Z (bb d),I O 0,I O 0,V none 0 0] 30::.raw rb #[Z ⟨#[]⟩,I O 0,I O 0,V none 0 0] 30::L)from(h.p1.rawSet 0 (Z (bb d))).p1);replace H:=hQd h;clear h)
  |(go_at_call 176;(with_reducible refine(zCo b _ _ _ p e H2.out H3.out H.out).mono ?_);rintro e_ wn ⟨rfl,h⟩;have f1:=h.p1.rawFree 1;have g1:=h.p1.rawCell 1;simp at g1;have f2:=h.p1.rawFree 2;have g2:=h.p1.rawCell 2;simp at g2;have h:=(show St W0 ((wn.setCell ⟨eb,1,none⟩ (I O p)).setCell ⟨eb,2,none⟩ (I O e)) K (.inp b i3::.raw eb #[Z (bb d),I O p,I O e,V none 0 0] 30::.raw rb #[Z ⟨#[]⟩,I O 0,I O 0,V none 0 0] 30::L)from((h.p1.rawSet 1 (I O p)).rawSet 2 (I O e)).p1);replace H:=hQd h;clear h)
  |(go_at_call 145;(with_reducible refine(zEW b _ _ tl H4.out H.out).mono ?_);rintro e_ wn ⟨v_,lr,rfl,hlr,h⟩;obtain⟨q,cap,rfl⟩:=zF2 (Know.has_right (Know.has_refl _)) h;have HLR:=hQd hlr;clear hlr;have f3:=h.p1.rawFree 3;have g3:=h.p1.rawCell 3;simp at g3;have h:=(show St W0 (wn.setCell ⟨eb,3,none⟩ (V q lr.length cap)) (K.and (Know.tops (V q lr.length cap) lr)) (.inp b i4::.raw eb #[Z (bb d),I O p,I O e,V q lr.length cap] 30::.raw rb #[Z ⟨#[]⟩,I O 0,I O 0,V none 0 0] 30::L)from(h.p1.rawSet 3 (V q lr.length cap)).p1);obtain⟨c0,c1,c2,c3⟩:=uR4 h.p1;simp at c0 c1 c2 c3;replace H:=hQd h;clear h)
  |(go_at_call 177;clear c0 c1 c2 c3;(with_reducible refine(zNW b i4 d p e lr q cap (by rw[HLR.out];exact HR.out) HL.out (zQB (by rw[HLR.out];exact HFL.out)) HI.out (Know.has_right (Know.has_refl _)) H.out).mono ?_);rintro e_ wn ⟨rfl,h⟩;have c0:=h.p1.rawCell 0;have d0:=h.p2.rawCell 0;have r0:=h.p2.rawFree 0;have c1:=h.p1.rawCell 1;have d1:=h.p2.rawCell 1;have r1:=h.p2.rawFree 1;have c2:=h.p1.rawCell 2;have d2:=h.p2.rawCell 2;have r2:=h.p2.rawFree 2;have c3:=h.p1.rawCell 3;have d3:=h.p2.rawCell 3;have r3:=h.p2.rawFree 3;simp at c0 d0 c1 d1 c2 d2 c3 d3;replace H:=hQd h;clear h))
 have hz:St W0 _ _ (.raw rb #[Z (bb d),I O p,I O e,V q lr.length cap] 30::.inp b i4::.raw eb #[Z (bb d),I O p,I O e,V q lr.length cap] 30::L):=((((H.out.p2.rawSet 0 _).rawSet 1 _).rawSet 2 _).rawSet 3 _);refine bodyPost_ret (zAO rfl _ _ rb [Z (bb d),I O p,I O e,V q lr.length cap] _ rfl (zBR hz) Tryz.underlying30 rfl kR) rfl ?_;exact⟨q,cap,lr,rfl,HLR.out,hz.drop.p1.drop⟩
set_option maxHeartbeats 8000000
variable {W0 w:World}{K:Know}{L:List Res}
theorem zO9(b:Nat)(i:InS)(id:Bs)(p e:Int)(c:Bool)(hi:i.err=0)(hr:chkW id p e=0)(hl:id.length≤140737488355328)(h:St W0 w K (.inp b i::L)):
 Calls Jb 177 #[zAe b,.iface 32 (.agg #[Z (bb id),I O p,I O e,U c])] w fun en w'=>en=Y (U true)∧St W0 w' K (.inp b i::L):=by
 have H:=hQd h;have HI:=hQd hi;have HR:=hQd hr;have HL:=hQd hl;clear h hi hr hl;go_enter Tryz.func177,Tryz.ntmps177
 go_wp2_with (first
  |(go_at_call 22;(with_reducible refine(zCx b _ _ HI.out H.out).zM ?_);clear H;intro wn H)
  |(go_at_call 159;(with_reducible refine(zGU id p e c _ HR.out HL.out H.out).zM ?_);clear H;intro wn H))
 go_ret;exact⟨rfl,H.out⟩
theorem zMl(b:Nat)(i i1 i2 i3 i4:InS)(id:Bs)(p e:Int)(c:Bool)(h1:i.text=(id,i1))(h2:i1.int 8=(p,i2))(h3:i2.int 2=(e,i3))(h4:i3.boolP=(c,i4))(hi:i4.err=0)(hr:chkW id p e=0)(hl:id.length≤140737488355328)(h:St W0 w K (.inp b i::L)):
 Calls Jb 121 #[zAe b] w fun en w'=>en=Y (.agg #[Z (bb id),I O p,I O e,U c])∧St W0 w' K (.inp b i4::L):=by
 obtain⟨rb,hrb⟩:=eX w.heap.size;obtain⟨eb,heb⟩:=eX (rb+1);have g1:=(h.allocRaw #[Z ⟨#[]⟩,I O 0,I O 0,U false] 32).allocRaw #[Z ⟨#[]⟩,I O 0,I O 0,U false] 32;simp only[World.size_alloc,hrb,heb]at g1;have H:=hQd g1.p2;have H1:=hQd h1;have H2:=hQd h2;have H3:=hQd h3;have H4:=hQd h4;have HI:=hQd hi;have HR:=hQd hr;have HL:=hQd hl;clear h g1 h1 h2 h3 h4 hi hr hl;go_enter Tryz.func121,Tryz.ntmps121
 go_wp2_with (first
  |(go_at_call 87;(with_reducible refine(zDJ b _ _ id H1.out H.out).mono ?_);rintro e_ wn ⟨rfl,h⟩;have f0:=h.p1.rawFree 0;have g0:=h.p1.rawCell 0;simp at g0;have h:=(show St W0 (wn.setCell ⟨eb,0,none⟩ (Z (bb id))) K (.inp b i1::.raw eb #[Z (bb id),I O 0,I O 0,U false] 32::.raw rb #[Z ⟨#[]⟩,I O 0,I O 0,U false] 32::L)from(h.p1.rawSet 0 (Z (bb id))).p1);replace H:=hQd h;clear h)
  |(go_at_call 176;(with_reducible refine(zCo b _ _ _ p e H2.out H3.out H.out).mono ?_);rintro e_ wn ⟨rfl,h⟩;have f1:=h.p1.rawFree 1;have g1:=h.p1.rawCell 1;simp at g1;have f2:=h.p1.rawFree 2;have g2:=h.p1.rawCell 2;simp at g2;have h:=(show St W0 ((wn.setCell ⟨eb,1,none⟩ (I O p)).setCell ⟨eb,2,none⟩ (I O e)) K (.inp b i3::.raw eb #[Z (bb id),I O p,I O e,U false] 32::.raw rb #[Z ⟨#[]⟩,I O 0,I O 0,U false] 32::L)from((h.p1.rawSet 1 (I O p)).rawSet 2 (I O e)).p1);replace H:=hQd h;clear h)
  |(go_at_call 178;(with_reducible refine(zPC b _ _ c H4.out H.out).mono ?_);rintro e_ wn ⟨rfl,h⟩;have f3:=h.p1.rawFree 3;have g3:=h.p1.rawCell 3;simp at g3;have h:=(show St W0 (wn.setCell ⟨eb,3,none⟩ (U c)) K (.inp b i4::.raw eb #[Z (bb id),I O p,I O e,U c] 32::.raw rb #[Z ⟨#[]⟩,I O 0,I O 0,U false] 32::L)from(h.p1.rawSet 3 (U c)).p1);obtain⟨c0,c1,c2,c3⟩:=uR4 h.p1;simp at c0 c1 c2 c3;replace H:=hQd h;clear h)
  |(go_at_call 177;(with_reducible refine(zO9 b i4 id p e c HI.out HR.out HL.out H.out).mono ?_);rintro e_ wn ⟨rfl,h⟩;have c0:=h.p1.rawCell 0;have d0:=h.p2.rawCell 0;have r0:=h.p2.rawFree 0;have c1:=h.p1.rawCell 1;have d1:=h.p2.rawCell 1;have r1:=h.p2.rawFree 1;have c2:=h.p1.rawCell 2;have d2:=h.p2.rawCell 2;have r2:=h.p2.rawFree 2;have c3:=h.p1.rawCell 3;have d3:=h.p2.rawCell 3;have r3:=h.p2.rawFree 3;simp at c0 c1 c2 c3 d0 d1 d2 d3;replace H:=hQd h;clear h))
 have hz:St W0 _ _ (.raw rb #[Z (bb id),I O p,I O e,U c] 32::.inp b i4::.raw eb #[Z (bb id),I O p,I O e,U c] 32::L):=((((H.out.p2).rawSet 0 _).rawSet 1 _).rawSet 2 _).rawSet 3 _;refine bodyPost_ret (zAO rfl _ _ rb [Z (bb id),I O p,I O e,U c] _ rfl (zBR hz) Tryz.underlying32 rfl kR) rfl ?_;exact⟨rfl,hz.drop.p1.drop⟩
variable {W0 w:World}{K:Know}{L:List Res}
theorem zOz(b:Nat)(i i1 i2 i3 i4 i5:InS)(p e:Int)(c:Bool)(tl:List TopS)(co:Int)(h1:i.int 8=(p,i1))(h2:i1.int 2=(e,i2))(h3:i2.boolP=(c,i3))(h4:i3.tops=(tl,i4))(h5:i4.int 4=(co,i5))(h:St W0 w K (.inp b i::L)):
 Calls Jb 179 #[zAe b,I O 1] w fun en w'=>∃(q:Option Addr) (cap:Nat) (lr:List (TopS×Value)),en=Y (.agg #[I O p,I O e,U c,V q lr.length cap,I O co])∧lr.map (·.1)=tl∧St W0 w' (K.and (Know.tops (V q lr.length cap) lr)) (.inp b i5::L):=by
 obtain⟨rb,hrb⟩:=eX w.heap.size;obtain⟨eb,heb⟩:=eX (rb+1);have g1:=(h.allocRaw #[I O 0,I O 0,U false,V none 0 0,I O 0] 175).allocRaw #[I O 0,I O 0,U false,V none 0 0,I O 0] 175;simp only[World.size_alloc,hrb,heb]at g1;have H:=hQd g1.p2;have H1:=hQd h1;have H2:=hQd h2;have H3:=hQd h3;have H4:=hQd h4;have H5:=hQd h5;clear h g1 h1 h2 h3 h4 h5;go_enter Tryz.func179,Tryz.ntmps179
 go_wp2_with (first
  |(go_at_call 66;(with_reducible refine(zCw b i i1 p 8 H1.out H.out).mono ?_);rintro e_ wn ⟨rfl,h⟩;have f0:=h.p1.rawFree 0;have g0:=h.p1.rawCell 0;simp at g0;have h:=(show St W0 (wn.setCell ⟨eb,0,none⟩ (I O p)) K (.inp b i1::.raw eb #[I O p,I O 0,U false,V none 0 0,I O 0] 175::.raw rb #[I O 0,I O 0,U false,V none 0 0,I O 0] 175::L)from(h.p1.rawSet 0 (I O p)).p1);replace H:=hQd h;clear h)
  |(go_at_call 66;(with_reducible refine(zCw b i1 i2 e 2 H2.out H.out).mono ?_);rintro e_ wn ⟨rfl,h⟩;have f1:=h.p1.rawFree 1;have g1:=h.p1.rawCell 1;simp at g1;have h:=(show St W0 (wn.setCell ⟨eb,1,none⟩ (I O e)) K (.inp b i2::.raw eb #[I O p,I O e,U false,V none 0 0,I O 0] 175::.raw rb #[I O 0,I O 0,U false,V none 0 0,I O 0] 175::L)from(h.p1.rawSet 1 (I O e)).p1);replace H:=hQd h;clear h)
  |(go_at_call 178;(with_reducible refine(zPC b i2 i3 c H3.out H.out).mono ?_);rintro e_ wn ⟨rfl,h⟩;have f2:=h.p1.rawFree 2;have g2:=h.p1.rawCell 2;simp at g2;have h:=(show St W0 (wn.setCell ⟨eb,2,none⟩ (U c)) K (.inp b i3::.raw eb #[I O p,I O e,U c,V none 0 0,I O 0] 175::.raw rb #[I O 0,I O 0,U false,V none 0 0,I O 0] 175::L)from(h.p1.rawSet 2 (U c)).p1);replace H:=hQd h;clear h)
  |(go_at_call 145;(with_reducible refine(zEW b i3 i4 tl H4.out H.out).mono ?_);rintro e_ wn ⟨v_,lr,rfl,hlr,h⟩;obtain⟨q,cap,rfl⟩:=zF2 (Know.has_right (Know.has_refl _)) h;have HLR:=hQd hlr;clear hlr;have f3:=h.p1.rawFree 3;have g3:=h.p1.rawCell 3;simp at g3;have h:=(show St W0 (wn.setCell ⟨eb,3,none⟩ (V q lr.length cap)) (K.and (Know.tops (V q lr.length cap) lr)) (.inp b i4::.raw eb #[I O p,I O e,U c,V q lr.length cap,I O 0] 175::.raw rb #[I O 0,I O 0,U false,V none 0 0,I O 0] 175::L)from(h.p1.rawSet 3 (V q lr.length cap)).p1);replace H:=hQd h;clear h)
  |(go_at_call 66;(with_reducible refine(zCw b i4 i5 co 4 H5.out H.out).mono ?_);rintro e_ wn ⟨rfl,h⟩;have f4:=h.p1.rawFree 4;have g4:=h.p1.rawCell 4;simp at g4;have h:=(show St W0 (wn.setCell ⟨eb,4,none⟩ (I O co)) (K.and (Know.tops (V q lr.length cap) lr)) (.inp b i5::.raw eb #[I O p,I O e,U c,V q lr.length cap,I O co] 175::.raw rb #[I O 0,I O 0,U false,V none 0 0,I O 0] 175::L)from(h.p1.rawSet 4 (I O co)).p1);have c0:=h.p1.rawCell 0;have d0:=h.p2.rawCell 0;have r0:=h.p2.rawFree 0;have c1:=h.p1.rawCell 1;have d1:=h.p2.rawCell 1;have r1:=h.p2.rawFree 1;have c2:=h.p1.rawCell 2;have d2:=h.p2.rawCell 2;have r2:=h.p2.rawFree 2;have c3:=h.p1.rawCell 3;have d3:=h.p2.rawCell 3;have r3:=h.p2.rawFree 3;have c4:=h.p1.rawCell 4;have d4:=h.p2.rawCell 4;have r4:=h.p2.rawFree 4;simp at c0 d0 c1 d1 c2 d2 c3 d3 c4 d4;replace H:=hQd h;clear h))
 have hz:St W0 _ _ (.raw rb #[I O p,I O e,U c,V q lr.length cap,I O co] 175::.inp b i5::.raw eb #[I O p,I O e,U c,V q lr.length cap,I O co] 175::L):=(((((H.out.p2.rawSet 0 _).rawSet 1 _).rawSet 2 _).rawSet 3 _).rawSet 4 _);refine bodyPost_ret (zAO rfl _ _ rb [I O p,I O e,U c,V q lr.length cap,I O co] _ rfl (zBR hz) Tryz.underlying175 rfl kR) rfl ?_;exact⟨q,cap,lr,rfl,HLR.out,hz.drop.p1.drop⟩
theorem zOA(b:Nat)(v:Int)(hv:v≠1)(i i1 i2 i3 i4:InS)(p e:Int)(c:Bool)(tl:List TopS)(h1:i.int 8=(p,i1))(h2:i1.int 2=(e,i2))(h3:i2.boolP=(c,i3))(h4:i3.tops=(tl,i4))(h:St W0 w K (.inp b i::L)):
 Calls Jb 179 #[zAe b,I O v] w fun en w'=>∃(q:Option Addr) (cap:Nat) (lr:List (TopS×Value)),en=Y (.agg #[I O p,I O e,U c,V q lr.length cap,I O 0])∧lr.map (·.1)=tl∧St W0 w' (K.and (Know.tops (V q lr.length cap) lr)) (.inp b i4::L):=by
 obtain⟨rb,hrb⟩:=eX w.heap.size;obtain⟨eb,heb⟩:=eX (rb+1);have g1:=(h.allocRaw #[I O 0,I O 0,U false,V none 0 0,I O 0] 175).allocRaw #[I O 0,I O 0,U false,V none 0 0,I O 0] 175;simp only[World.size_alloc,hrb,heb]at g1;have H:=hQd g1.p2;have H1:=hQd h1;have H2:=hQd h2;have H3:=hQd h3;have H4:=hQd h4;have gv:(v==1)=false:=by rw[beq_eq_false_iff_ne];exact hv
 clear h g1 h1 h2 h3 h4 hv;go_enter Tryz.func179,Tryz.ntmps179
 go_wp2_with (first
  |(go_at_call 66;(with_reducible refine(zCw b i i1 p 8 H1.out H.out).mono ?_);rintro e_ wn ⟨rfl,h⟩;have f0:=h.p1.rawFree 0;have g0:=h.p1.rawCell 0;simp at g0;have h:=(show St W0 (wn.setCell ⟨eb,0,none⟩ (I O p)) K (.inp b i1::.raw eb #[I O p,I O 0,U false,V none 0 0,I O 0] 175::.raw rb #[I O 0,I O 0,U false,V none 0 0,I O 0] 175::L)from(h.p1.rawSet 0 (I O p)).p1);replace H:=hQd h;clear h)
  |(go_at_call 66;(with_reducible refine(zCw b i1 i2 e 2 H2.out H.out).mono ?_);rintro e_ wn ⟨rfl,h⟩;have f1:=h.p1.rawFree 1;have g1:=h.p1.rawCell 1;simp at g1;have h:=(show St W0 (wn.setCell ⟨eb,1,none⟩ (I O e)) K (.inp b i2::.raw eb #[I O p,I O e,U false,V none 0 0,I O 0] 175::.raw rb #[I O 0,I O 0,U false,V none 0 0,I O 0] 175::L)from(h.p1.rawSet 1 (I O e)).p1);replace H:=hQd h;clear h)
  |(go_at_call 178;(with_reducible refine(zPC b i2 i3 c H3.out H.out).mono ?_);rintro e_ wn ⟨rfl,h⟩;have f2:=h.p1.rawFree 2;have g2:=h.p1.rawCell 2;simp at g2;have h:=(show St W0 (wn.setCell ⟨eb,2,none⟩ (U c)) K (.inp b i3::.raw eb #[I O p,I O e,U c,V none 0 0,I O 0] 175::.raw rb #[I O 0,I O 0,U false,V none 0 0,I O 0] 175::L)from(h.p1.rawSet 2 (U c)).p1);replace H:=hQd h;clear h)
  |(go_at_call 145;(with_reducible refine(zEW b i3 i4 tl H4.out H.out).mono ?_);rintro e_ wn ⟨v_,lr,rfl,hlr,h⟩;obtain⟨q,cap,rfl⟩:=zF2 (Know.has_right (Know.has_refl _)) h;have HLR:=hQd hlr;clear hlr;have f3:=h.p1.rawFree 3;have g3:=h.p1.rawCell 3;simp at g3;have h:=(show St W0 (wn.setCell ⟨eb,3,none⟩ (V q lr.length cap)) (K.and (Know.tops (V q lr.length cap) lr)) (.inp b i4::.raw eb #[I O p,I O e,U c,V q lr.length cap,I O 0] 175::.raw rb #[I O 0,I O 0,U false,V none 0 0,I O 0] 175::L)from(h.p1.rawSet 3 (V q lr.length cap)).p1);have c0:=h.p1.rawCell 0;have d0:=h.p2.rawCell 0;have r0:=h.p2.rawFree 0;have c1:=h.p1.rawCell 1;have d1:=h.p2.rawCell 1;have r1:=h.p2.rawFree 1;have c2:=h.p1.rawCell 2;have d2:=h.p2.rawCell 2;have r2:=h.p2.rawFree 2;have c3:=h.p1.rawCell 3;have d3:=h.p2.rawCell 3;have r3:=h.p2.rawFree 3;have c4:=h.p1.rawCell 4;have d4:=h.p2.rawCell 4;have r4:=h.p2.rawFree 4;simp at c0 d0 c1 d1 c2 d2 c3 d3 c4 d4;replace H:=hQd h;clear h))
 have hz:St W0 _ _ (.raw rb #[I O p,I O e,U c,V q lr.length cap,I O 0] 175::.inp b i4::.raw eb #[I O p,I O e,U c,V q lr.length cap,I O 0] 175::L):=(((((H.out.p2.rawSet 0 _).rawSet 1 _).rawSet 2 _).rawSet 3 _).rawSet 4 _);refine bodyPost_ret (zAO rfl _ _ rb [I O p,I O e,U c,V q lr.length cap,I O 0] _ rfl (zBR hz) Tryz.underlying175 rfl kR) rfl ?_;exact⟨q,cap,lr,rfl,HLR.out,hz.drop.p1.drop⟩
variable {W0 w:World}{K:Know}{L:List Res}
theorem zH7(b:Nat)(v:Int)(i j:InS)(m:MarkS)(hx:i.mark1 v=(m,j))(h:St W0 w K (.inp b i::L)):
 Calls Jb 179 #[zAe b,I O v] w fun en w'=>∃(q:Option Addr) (cap:Nat) (lr:List (TopS×Value)),en=Y (.agg #[I O m.prod,I O m.epoch,U m.commit,V q lr.length cap,I O m.coord])∧lr.map (·.1)=m.tops∧St W0 w' (K.and (Know.tops (V q lr.length cap) lr)) (.inp b j::L):=by
 obtain⟨⟨p,i1⟩,h1⟩:∃r,i.int 8=r:=⟨_,rfl⟩;obtain⟨⟨e,i2⟩,h2⟩:∃r,i1.int 2=r:=⟨_,rfl⟩;obtain⟨⟨c,i3⟩,h3⟩:∃r,i2.boolP=r:=⟨_,rfl⟩;obtain⟨⟨tl,i4⟩,h4⟩:∃r,i3.tops=r:=⟨_,rfl⟩;unfold InS.mark1 at hx;rw[h1]at hx;simp only at hx;rw[h2]at hx;simp only at hx;rw[h3]at hx;simp only at hx;rw[h4]at hx;simp only at hx
 by_cases hv:v=1
 ·subst hv;rw[if_pos rfl]at hx;obtain⟨⟨co,i5⟩,h5⟩:∃r,i4.int 4=r:=⟨_,rfl⟩;rw[h5]at hx;simp only[Prod.mk.injEq]at hx;obtain⟨rfl,rfl⟩:=hx;exact zOz b i i1 i2 i3 i4 i5 p e c tl co h1 h2 h3 h4 h5 h
 ·rw[if_neg hv]at hx;simp only[Prod.mk.injEq]at hx;obtain⟨rfl,rfl⟩:=hx;exact zOA b v hv i i1 i2 i3 i4 p e c tl h1 h2 h3 h4 h
theorem zKO(b:Nat)(v:Int)(i j:InS)(l:List MarkS)(hx:i.marks v=(l,j))(hl:∀m∈(InS.marksN v (i.cnt 15).1 [] (i.cnt 15).2).1,m.R∧FewL m.tops)(hln:(InS.marksN v (i.cnt 15).1 [] (i.cnt 15).2).1.length≤1000000)(h:St W0 w K (.inp b i::L)):
  Calls Jb 122 #[zAe b,I O v] w fun en w'=>∃(q:Option Addr) (cap:Nat) (lr:List MarkR),en=Y (V q lr.length cap)∧lr.map MarkR.m=l∧(∀x∈lr,x.Fit)∧St W0 w' (K.and (Know.marks (V q lr.length cap) lr)) (.inp b j::L):=by
 obtain⟨⟨n,c⟩,hc⟩:∃r,i.cnt 15=r:=⟨_,rfl⟩;have hnl:=(zJB i 15).2;rw[hc]at hnl hl hln;obtain⟨⟨lf,jf⟩,hN⟩:∃r,InS.marksN v n [] c=r:=⟨_,rfl⟩
 have hx2:(if jf.err=0 then(if zAE v lf=0 then(lf,jf)else([],jf.fail (zAE v lf)))else([],jf))=(l,j):=by
  rw[←hx];unfold InS.marks;rw[hc];simp only;rw[hN]
 simp only at hl hln;rw[hN]at hl hln;have HC:=hQd hc;have HN:=hQd hN;have HX:=hQd hx2;have HLL:=hQd hl;have HLN:=hQd hln;have HNL:=hQd hnl;have H:=hQd h;have hni:(n:Int)≤2147483647:=by simp only at hnl;omega
 clear h hx hc hx2 hnl hN hl hln;go_enter Tryz.func122,Tryz.ntmps122;go_wp2_with (go_at_call 174;(with_reducible refine(zPB b i c 15 n 15 rfl HC.out H.out).zM ?_);clear H;intro wn H);go_loopw [5,9] (fun lv iv wr=>∃(k:Nat) (i2:InS) (acc:List MarkR) (K2:Know),k≤n∧iv=I O k∧Hid (acc.length=k)∧Hid (InS.marksN v (n - k) (acc.map MarkR.m) i2=(lf,jf))∧Hid (K2.has K)∧Hid (∀x∈acc,K2.has (Know.tops (V x.q x.l.length x.cap) x.l))∧Hid (∀x∈acc,x.l.map (·.1)=x.m.tops)∧St W0 wr K2 (.row lv 175 5 acc.length (acc.flatMap zQi)::.inp b i2::L)) (fun _ iv _=>n - (intOf iv).toNat)
 case atStart=>exact⟨0,c,[],K,Jd _,rfl,hQd rfl,hQd HN.out,hQd (Know.has_refl _),hQd (fun x hx=>by cases hx),hQd (fun x hx=>by cases hx),H.out.nilRow 175 5⟩
 case round=>
  obtain⟨k,i2,acc,K2,hk,rfl,HAL,HP,HKK,HALL,HTL,hst⟩:=hrel;clear H;have H:=hQd hst;clear hst
  by_cases hlt:k<n
  · obtain⟨⟨⟨p,e,c,tl,co⟩,i3⟩,hi3⟩:∃r,i2.mark1 v=r:=⟨_,rfl⟩;obtain⟨er,her⟩:=eX i3.err;have HM:=hQd hi3;have HER:=hQd her
    have hstep:(if er=0 then InS.marksN v (n - (k+1)) (acc.map MarkR.m++[⟨p,e,c,tl,co⟩]) i3 else([],i3))=(lf,jf):=by
      have h1:=HP.out;rw[show n - k=(n - (k+1))+1 by omega]at h1;have h2:(if (i2.mark1 v).2.err=0 then InS.marksN v (n - (k+1)) (acc.map MarkR.m++[(i2.mark1 v).1]) (i2.mark1 v).2 else([],(i2.mark1 v).2))=(lf,jf):=h1;rw[hi3]at h2;simp only at h2;rw[her]at h2;exact h2
    have HAB:=hQd (show acc.length≤2147483647 by have:=HAL.out;have:=HNL.out;omega);have hkn:(k:Int)<(n:Int):=by omega
    clear hi3 her
    by_cases he0:er=0
    · rw[if_pos he0]at hstep;have HP2:=hQd hstep;subst he0;clear hstep
      go_wp2_with (first
  |(go_at_call 179;(with_reducible refine(zH7 b v i2 i3 ⟨p,e,c,tl,co⟩ HM.out H.out.p1).mono ?_);rintro e_ wn ⟨xq,xcap,xl,rfl,hxl,h⟩;have HXL:=hQd hxl;clear hxl;have h:=h.p1;replace H:=hQd h;clear h)
  |(at_builtin;refine zAz rfl _ _ 33 rfl 175 Tryz.underlying33 zQR _ _ _ rfl H.out [I O p,I O e,U c,V xq xl.length xcap,I O co] 175 rfl rfl (by simp[Value.oneCell']) zq35 (by have:=HAB.out;omega) ?_;intro v' w' h;have h:=h.p1;replace H:=hQd h;clear h)
  |(go_at_call 22;(with_reducible refine(zCx b _ _ HER.out H.out).mono ?_);rintro e_ wn ⟨rfl,h⟩;have h:=h.p1;replace H:=hQd h;clear h))
      go_roundw
      case rel=>exact⟨k+1,i3,acc++[⟨⟨p,e,c,tl,co⟩,xl,xq,xcap⟩],K2.and (Know.tops (V xq xl.length xcap) xl),hlt,by go_num,hQd zq44,hQd (by rw[List.map_append];exact HP2.out),hQd (Know.has_trans (Know.has_left (Know.has_refl _)) HKK.out),hQd (fun x hx=>by
        rcases List.mem_append.1 hx with hx|hx
        · exact Know.has_left (HALL.out x hx)
        · rw[List.mem_singleton.1 hx];exact Know.has_right (Know.has_refl _)),hQd (fun x hx=>by
        rcases List.mem_append.1 hx with hx|hx
        · exact HTL.out x hx
        · rw[List.mem_singleton.1 hx];exact HXL.out),by rw[Jc,List.flatMap_append];exact H.out⟩
      case measure=>first|(simp[intOf];done)|(simp[intOf];omega)
    · rw[if_neg he0]at hstep;simp only[Prod.mk.injEq]at hstep;obtain⟨hlf,hjf⟩:=hstep;have hx:=HX.out;rw[←hjf,HER.out,if_neg he0]at hx;simp only[Prod.mk.injEq]at hx;obtain⟨hl0,hj0⟩:=hx;have gz:(er==0)=false:=by rw[beq_eq_false_iff_ne];exact he0
      have gz3:(er !=0)=true:=by simp[bne,gz]
      have HL0:=hQd hl0;have HJ0:=hQd hj0;clear he0 hlf hjf hl0 hj0
      go_wp2_with (first
  |(go_at_call 179;(with_reducible refine(zH7 b v i2 i3 ⟨p,e,c,tl,co⟩ HM.out H.out.p1).mono ?_);rintro e_ wn ⟨xq,xcap,xl,rfl,hxl,h⟩;have HXL:=hQd hxl;clear hxl;have h:=h.p1;replace H:=hQd h;clear h)
  |(at_builtin;refine zAz rfl _ _ 33 rfl 175 Tryz.underlying33 zQR _ _ _ rfl H.out [I O p,I O e,U c,V xq xl.length xcap,I O co] 175 rfl rfl (by simp[Value.oneCell']) zq35 (by have:=HAB.out;omega) ?_;intro v' w' h;have h:=h.p1;replace H:=hQd h;clear h)
  |(go_at_call 22;(with_reducible refine(zCx b _ _ HER.out H.out).zM ?_);clear H;intro wn H))
      go_ret;exact⟨none,0,[],rfl,HL0.out,(fun x hx=>by cases hx),by rw[←HJ0.out];exact(H.out.p1.drop).know (Know.has_and (Know.has_trans (Know.has_left (Know.has_refl _)) HKK.out) (zAZ _))⟩
  · obtain rfl:k=n:=by omega
    have hp:=HP.out;rw[Nat.sub_self]at hp;have hp:(acc.map MarkR.m,i2)=(lf,jf):=hp;simp only[Prod.mk.injEq]at hp;obtain⟨rfl,rfl⟩:=hp;obtain⟨er,her⟩:=eX i2.err;have HER:=hQd her;have hx:=HX.out;rw[her]at hx;have HFIT:=hQd (show ∀x∈acc,x.Fit from fun x hx=>⟨HTL.out x hx,zQB (by rw[HTL.out x hx];exact(HLL.out x.m (List.mem_map_of_mem hx)).2),(HLL.out x.m (List.mem_map_of_mem hx)).1⟩);have HAN:=hQd (show acc.length≤1000000 by have:=HLN.out;rwa [Jj]at this);have hf:=H.out.freezeMarks HALL.out;have hf:=hf.know (K':=K.and (Know.marks _ acc)) (fun w F hh=>⟨HKK.out _ _ hh.1,hh.2⟩);obtain⟨q,cap,rfl⟩:=zH6 (Know.has_right (Know.has_refl _)) hf;clear H;have H:=hQd hf;clear hf
    by_cases he0:er=0
    · subst he0;rw[if_pos rfl]at hx;obtain⟨r,hr⟩:=eX (zAE v (acc.map MarkR.m));have HR:=hQd hr;rw[hr]at hx
      by_cases h0:r=0
      · subst h0;rw[if_pos rfl]at hx;simp only[Prod.mk.injEq]at hx;obtain⟨hl0,hj0⟩:=hx;have HL0:=hQd hl0;have HJ0:=hQd hj0;clear hl0 hj0 hr her
        go_wp2_with (first
  |(go_at_call 161;(with_reducible refine(zBJ v acc q cap _ HR.out HFIT.out HAN.out (Know.has_right (Know.has_refl _)) H.out).zM ?_);clear H;intro wn H)
  |(go_at_call 22;(with_reducible refine(zCx b _ _ HER.out H.out).zM ?_);clear H;intro wn H))
        go_ret;exact⟨q,cap,acc,rfl,HL0.out,HFIT.out,by rw[←HJ0.out];exact H.out⟩
      · rw[if_neg h0]at hx;simp only[Prod.mk.injEq]at hx;obtain⟨hl0,hj0⟩:=hx;have HL0:=hQd hl0;have HJ0:=hQd hj0;have HER2:=hQd (show j.err=r by rw[←hj0];unfold InS.fail;rw[if_pos her]);have gz:(r==0)=false:=by rw[beq_eq_false_iff_ne];exact h0
        have gz3:(r !=0)=true:=by simp[bne,gz]
        clear hl0 hj0 hr her h0
        go_wp2_with (first
  |(go_at_call 161;(with_reducible refine(zBJ v acc q cap _ HR.out HFIT.out HAN.out (Know.has_right (Know.has_refl _)) H.out).zM ?_);clear H;intro wn H)
  |(go_at_call 70;(with_reducible refine(zPy b _ _ _ HJ0.out H.out).zM ?_);clear H;intro wn H)
  |(go_at_call 22;(with_reducible refine(zCx b _ _ HER.out H.out).zM ?_);clear H;intro wn H)
  |(go_at_call 22;(with_reducible refine(zCx b _ _ HER2.out H.out).zM ?_);clear H;intro wn H))
        go_ret;exact⟨none,0,[],rfl,HL0.out,(fun x hx=>by cases hx),H.out.know (Know.has_and (Know.has_left (Know.has_refl _)) (zAZ _))⟩
    · rw[if_neg he0]at hx;simp only[Prod.mk.injEq]at hx;obtain⟨hl0,hj0⟩:=hx;have gz:(er==0)=false:=by rw[beq_eq_false_iff_ne];exact he0
      have gz3:(er !=0)=true:=by simp[bne,gz]
      have HL0:=hQd hl0;have HJ0:=hQd hj0;clear he0 hl0 hj0 her
      go_wp2_with (first
  |(go_at_call 22;(with_reducible refine(zCx b _ _ HER.out H.out).zM ?_);clear H;intro wn H))
      go_ret;exact⟨none,0,[],rfl,HL0.out,(fun x hx=>by cases hx),by rw[←HJ0.out];exact H.out.know (Know.has_and (Know.has_left (Know.has_refl _)) (zAZ _))⟩
variable {W0 w:World}{K:Know}{L:List Res}
theorem zEr:(#[I O 0,I O 0,I O 0,U false,Z ⟨#[]⟩,U false,Z ⟨#[]⟩,I O 0,I O 0,I O 0,Z ⟨#[]⟩,I O 0,I O 0,V none 0 0,Z ⟨#[]⟩,I O 0,I O 0,U false,V none 0 0,U false,Z ⟨#[]⟩,I O 0,I O 0,V none 0 0]:Array Value).all (fun z=>z.oneCell')=true:=by simp[Value.oneCell']
theorem zOG(b:Nat)(s t:Bs)(n:Int)(i1 i2 J1 J2 J3:InS)(a v num:Int)(u:Bool)(cs:Bs)(h1:(⟨s,0,0⟩:InS).int 4=(n,i1))(h2:i1.take n=(t,i2))(h3:(⟨t,0,0⟩:InS).head=(⟨a,v,num,⟨u,cs⟩⟩,J1))(htl:t.length≤1000000)(hc:J2.close=J3)(P:Know→Array Value→Prop)(hb:∀(w:World) (L:List Res) (bi rf:Nat),St W0 w K (.inp bi J1::.raw rf #[I O a,I O v,I O num,U u,Z (bb cs),U false,Z ⟨#[]⟩,I O 0,I O 0,I O 0,Z ⟨#[]⟩,I O 0,I O 0,V none 0 0,Z ⟨#[]⟩,I O 0,I O 0,U false,V none 0 0,U false,Z ⟨#[]⟩,I O 0,I O 0,V none 0 0] 38::L)→Calls Jb 69 #[zAe bi,Ja (some ⟨rf,0,none⟩)] w fun en w'=>en=Y (.tuple #[])∧∃(x5 x6 x7 x8 x9 x10 x11 x12 x13 x14 x15 x16 x17 x18 x19 x20 x21 x22 x23:Value) (K2:Know),K2.has K∧(#[I O a,I O v,I O num,U u,Z (bb cs),x5,x6,x7,x8,x9,x10,x11,x12,x13,x14,x15,x16,x17,x18,x19,x20,x21,x22,x23]:Array Value).all (fun z=>z.oneCell')=true∧(J2.err=0→P K2 #[I O a,I O v,I O num,U u,Z (bb cs),x5,x6,x7,x8,x9,x10,x11,x12,x13,x14,x15,x16,x17,x18,x19,x20,x21,x22,x23])∧St W0 w' K2 (.inp bi J2::.raw rf #[I O a,I O v,I O num,U u,Z (bb cs),x5,x6,x7,x8,x9,x10,x11,x12,x13,x14,x15,x16,x17,x18,x19,x20,x21,x22,x23] 38::L))(hk:K.has Know.reqs)(h:St W0 w K (.inp b ⟨s,0,0⟩::L))(hc3:J3.err=0)(he5:i2.err=0)(hj0:J2.err=0):
 Calls Jb 20 #[zAe b] w fun en w'=>∃(x0 x1 x2 x3 x4 x5 x6 x7 x8 x9 x10 x11 x12 x13 x14 x15 x16 x17 x18 x19 x20 x21 x22 x23:Value) (K2:Know),en=Y (.agg #[x0,x1,x2,x3,x4,x5,x6,x7,x8,x9,x10,x11,x12,x13,x14,x15,x16,x17,x18,x19,x20,x21,x22,x23])∧K2.has K∧(#[x0,x1,x2,x3,x4,x5,x6,x7,x8,x9,x10,x11,x12,x13,x14,x15,x16,x17,x18,x19,x20,x21,x22,x23]:Array Value).all (fun z=>z.oneCell')=true∧P K2 #[x0,x1,x2,x3,x4,x5,x6,x7,x8,x9,x10,x11,x12,x13,x14,x15,x16,x17,x18,x19,x20,x21,x22,x23]∧St W0 w' K2 (.inp b i2::L):=by
 obtain⟨r2,hr2⟩:=eX w.heap.size;have g1:=(h.allocRaw #[I O 0,I O 0,I O 0,U false,Z ⟨#[]⟩,U false,Z ⟨#[]⟩,I O 0,I O 0,I O 0,Z ⟨#[]⟩,I O 0,I O 0,V none 0 0,Z ⟨#[]⟩,I O 0,I O 0,U false,V none 0 0,U false,Z ⟨#[]⟩,I O 0,I O 0,V none 0 0] 38).p1;rw[hr2]at g1;have H:=hQd g1;have HE1:=hQd h1;have HE2:=hQd h2;have HE3:=hQd h3;have HTL:=hQd (show t.length≤140737488355328 by omega);have HC:=hQd hc;have HB:=hQd hb;have HK:=hQd hk;have HC3:=hQd hc3;have HE5:=hQd he5;have HJ0:=hQd hj0;clear h g1 h1 h2 h3 htl hc hb hk hc3 he5 hj0;go_enter Tryz.func20,Tryz.ntmps20
 go_upto_region 10 with (first
  |(refine zAd rfl 38 (Operand.tmp 5) (Operand.tmp 15) rfl rf #[I O a,I O v,I O num,U u,Z (bb cs),U false,Z ⟨#[]⟩,I O 0,I O 0,I O 0,Z ⟨#[]⟩,I O 0,I O 0,V none 0 0,Z ⟨#[]⟩,I O 0,I O 0,U false,V none 0 0,U false,Z ⟨#[]⟩,I O 0,I O 0,V none 0 0] rfl rfl (H.out) rfl kR (by simp[Value.oneCell']) ?_;intro wz h;replace H:=hQd h.p1;clear h)
  |(go_at_call 66;(with_reducible refine(zBZ b _ i1 4 n HE1.out H.out).zM ?_);clear H;intro wn H)
  |(go_at_call 67;(with_reducible refine(zIJ b i1 i2 n t HE2.out H.out).zM ?_);clear H;intro wn H)
  |(go_at_call 19;(with_reducible refine(zEh t HTL.out H.out).mono ?_);rintro e_ wn ⟨bi,rfl,h⟩;replace H:=hQd h;clear h)
  |(go_at_call 68;(with_reducible refine(zKn bi ⟨t,0,0⟩ J1 a v num u cs HE3.out HK.out H.out).mono ?_);rintro e_ wn ⟨rfl,h⟩;obtain⟨rf,hrf⟩:=eX wn.heap.size;have h:=h.allocRaw #[I O 0,I O 0,I O 0,U false,Z ⟨#[]⟩,U false,Z ⟨#[]⟩,I O 0,I O 0,I O 0,Z ⟨#[]⟩,I O 0,I O 0,V none 0 0,Z ⟨#[]⟩,I O 0,I O 0,U false,V none 0 0,U false,Z ⟨#[]⟩,I O 0,I O 0,V none 0 0] 38;rw[hrf]at h;replace H:=hQd h;clear h)
  |(go_at_call 69;(with_reducible refine(HB.out _ _ bi rf H.out).mono ?_);rintro e_ wn ⟨rfl,x5,x6,x7,x8,x9,x10,x11,x12,x13,x14,x15,x16,x17,x18,x19,x20,x21,x22,x23,K2,hkk,ho,hp,h⟩;have HKK:=hQd hkk;have HOO:=hQd ho;have HPP:=hQd hp;clear hkk ho hp;replace H:=hQd h;clear h)
  |(go_at_call 25;(with_reducible refine(zFO bi J2 J3 0 HC.out HC3.out H.out).zM ?_);clear H;intro wn H)
  |(go_at_call 22;(with_reducible refine(zHR b i2 0 HE5.out H.out.p2).mono ?_);rintro e_ wn ⟨rfl,h⟩;replace H:=hQd h.p3;clear h))
 refine wp_region_lit ?_;refine wpList_load_mid rfl 38 (Operand.tmp 5) rfl rf 0 rfl [I O a,I O v,I O num,U u,Z (bb cs),x5,x6,x7,x8,x9,x10,x11,x12,x13,x14,x15,x16,x17,x18,x19,x20,x21,x22,x23] _ (St.range H.out.p3) Tryz.underlying38 rfl kR ?_;refine zAd rfl 38 (Operand.tmp 2) (Operand.tmp 29) rfl r2 #[I O a,I O v,I O num,U u,Z (bb cs),x5,x6,x7,x8,x9,x10,x11,x12,x13,x14,x15,x16,x17,x18,x19,x20,x21,x22,x23] rfl rfl (H.out) rfl kR (HOO.out) ?_;intro wz h;replace H:=hQd h;clear h;simp only[Act.put,sA,sB,sC];go_wp2;refine bodyPost_ret (zAw rfl _ _ r2 [I O a,I O v,I O num,U u,Z (bb cs),x5,x6,x7,x8,x9,x10,x11,x12,x13,x14,x15,x16,x17,x18,x19,x20,x21,x22,x23] _ rfl (St.range H.out) Tryz.underlying38 rfl kR) rfl ?_;exact⟨_,_,_,_,_,_,_,_,_,_,_,_,_,_,_,_,_,_,_,_,_,_,_,_,K2,rfl,HKK.out,HOO.out,HPP.out HJ0.out,H.out.drop.p1.drop.p1.drop⟩
theorem zMI(b:Nat)(s t:Bs)(n:Int)(i1 i2 J1 J2 J3:InS)(a v num:Int)(u:Bool)(cs:Bs)(h1:(⟨s,0,0⟩:InS).int 4=(n,i1))(h2:i1.take n=(t,i2))(h3:(⟨t,0,0⟩:InS).head=(⟨a,v,num,⟨u,cs⟩⟩,J1))(htl:t.length≤1000000)(hc:J2.close=J3)(P:Know→Array Value→Prop)(hb:∀(w:World) (L:List Res) (bi rf:Nat),St W0 w K (.inp bi J1::.raw rf #[I O a,I O v,I O num,U u,Z (bb cs),U false,Z ⟨#[]⟩,I O 0,I O 0,I O 0,Z ⟨#[]⟩,I O 0,I O 0,V none 0 0,Z ⟨#[]⟩,I O 0,I O 0,U false,V none 0 0,U false,Z ⟨#[]⟩,I O 0,I O 0,V none 0 0] 38::L)→Calls Jb 69 #[zAe bi,Ja (some ⟨rf,0,none⟩)] w fun en w'=>en=Y (.tuple #[])∧∃(x5 x6 x7 x8 x9 x10 x11 x12 x13 x14 x15 x16 x17 x18 x19 x20 x21 x22 x23:Value) (K2:Know),K2.has K∧(#[I O a,I O v,I O num,U u,Z (bb cs),x5,x6,x7,x8,x9,x10,x11,x12,x13,x14,x15,x16,x17,x18,x19,x20,x21,x22,x23]:Array Value).all (fun z=>z.oneCell')=true∧(J2.err=0→P K2 #[I O a,I O v,I O num,U u,Z (bb cs),x5,x6,x7,x8,x9,x10,x11,x12,x13,x14,x15,x16,x17,x18,x19,x20,x21,x22,x23])∧St W0 w' K2 (.inp bi J2::.raw rf #[I O a,I O v,I O num,U u,Z (bb cs),x5,x6,x7,x8,x9,x10,x11,x12,x13,x14,x15,x16,x17,x18,x19,x20,x21,x22,x23] 38::L))(hk:K.has Know.reqs)(h:St W0 w K (.inp b ⟨s,0,0⟩::L))(e3:Int)(hc3:J3.err=e3)(hn3:e3≠0)(i3:InS)(hf:i2.fail e3=i3)(er:Int)(he5:i3.err=er)(hnr:er≠0):
 Calls Jb 20 #[zAe b] w fun en w'=>∃K2:Know,en=Y (.agg #[I O 0,I O 0,I O 0,U false,Z ⟨#[]⟩,U false,Z ⟨#[]⟩,I O 0,I O 0,I O 0,Z ⟨#[]⟩,I O 0,I O 0,V none 0 0,Z ⟨#[]⟩,I O 0,I O 0,U false,V none 0 0,U false,Z ⟨#[]⟩,I O 0,I O 0,V none 0 0])∧K2.has K∧St W0 w' K2 (.inp b i3::L):=by
 obtain⟨r2,hr2⟩:=eX w.heap.size;have g1:=(h.allocRaw #[I O 0,I O 0,I O 0,U false,Z ⟨#[]⟩,U false,Z ⟨#[]⟩,I O 0,I O 0,I O 0,Z ⟨#[]⟩,I O 0,I O 0,V none 0 0,Z ⟨#[]⟩,I O 0,I O 0,U false,V none 0 0,U false,Z ⟨#[]⟩,I O 0,I O 0,V none 0 0] 38).p1;rw[hr2]at g1;have H:=hQd g1;have HE1:=hQd h1;have HE2:=hQd h2;have HE3:=hQd h3;have HTL:=hQd (show t.length≤140737488355328 by omega);have HC:=hQd hc;have HB:=hQd hb;have HK:=hQd hk;have gz:(e3==0)=false:=by rw[beq_eq_false_iff_ne];exact hn3
 have gr:(er==0)=false:=by rw[beq_eq_false_iff_ne];exact hnr
 have HC3:=hQd hc3;have HF:=hQd hf;have HE5:=hQd he5;clear h g1 h1 h2 h3 htl hc hb hk hc3 he5 hf hn3 hnr;go_enter Tryz.func20,Tryz.ntmps20
 go_upto_region 9 with (first
  |(refine zAd rfl 38 (Operand.tmp 5) (Operand.tmp 15) rfl rf #[I O a,I O v,I O num,U u,Z (bb cs),U false,Z ⟨#[]⟩,I O 0,I O 0,I O 0,Z ⟨#[]⟩,I O 0,I O 0,V none 0 0,Z ⟨#[]⟩,I O 0,I O 0,U false,V none 0 0,U false,Z ⟨#[]⟩,I O 0,I O 0,V none 0 0] rfl rfl (H.out) rfl kR (by simp[Value.oneCell']) ?_;intro wz h;replace H:=hQd h.p1;clear h)
  |(go_at_call 66;(with_reducible refine(zBZ b _ i1 4 n HE1.out H.out).zM ?_);clear H;intro wn H)
  |(go_at_call 67;(with_reducible refine(zIJ b i1 i2 n t HE2.out H.out).zM ?_);clear H;intro wn H)
  |(go_at_call 19;(with_reducible refine(zEh t HTL.out H.out).mono ?_);rintro e_ wn ⟨bi,rfl,h⟩;replace H:=hQd h;clear h)
  |(go_at_call 68;(with_reducible refine(zKn bi ⟨t,0,0⟩ J1 a v num u cs HE3.out HK.out H.out).mono ?_);rintro e_ wn ⟨rfl,h⟩;obtain⟨rf,hrf⟩:=eX wn.heap.size;have h:=h.allocRaw #[I O 0,I O 0,I O 0,U false,Z ⟨#[]⟩,U false,Z ⟨#[]⟩,I O 0,I O 0,I O 0,Z ⟨#[]⟩,I O 0,I O 0,V none 0 0,Z ⟨#[]⟩,I O 0,I O 0,U false,V none 0 0,U false,Z ⟨#[]⟩,I O 0,I O 0,V none 0 0] 38;rw[hrf]at h;replace H:=hQd h;clear h)
  |(go_at_call 69;(with_reducible refine(HB.out _ _ bi rf H.out).mono ?_);rintro e_ wn ⟨rfl,x5,x6,x7,x8,x9,x10,x11,x12,x13,x14,x15,x16,x17,x18,x19,x20,x21,x22,x23,K2,hkk,ho,hp,h⟩;have HKK:=hQd hkk;have HOO:=hQd ho;have HPP:=hQd hp;clear hkk ho hp;replace H:=hQd h;clear h)
  |(go_at_call 25;(with_reducible refine(zFO bi J2 J3 e3 HC.out HC3.out H.out).zM ?_);clear H;intro wn H)
  |(go_at_call 70;(with_reducible refine(zSW b i2 i3 e3 HF.out H.out.p2).zM ?_);clear H;intro wn H)
  |(go_at_call 22;(with_reducible refine(zHR b i3 er HE5.out H.out).mono ?_);rintro e_ wn ⟨rfl,h⟩;replace H:=hQd h.p3;clear h))
 go_wp2_with (first
  |(refine zAd rfl 38 (Operand.tmp 2) (Operand.tmp 28) rfl r2 #[I O 0,I O 0,I O 0,U false,Z ⟨#[]⟩,U false,Z ⟨#[]⟩,I O 0,I O 0,I O 0,Z ⟨#[]⟩,I O 0,I O 0,V none 0 0,Z ⟨#[]⟩,I O 0,I O 0,U false,V none 0 0,U false,Z ⟨#[]⟩,I O 0,I O 0,V none 0 0] rfl rfl (H.out) rfl kR (zEr) ?_;intro wz h;replace H:=hQd h;clear h))
 refine bodyPost_ret (zAw rfl _ _ r2 [I O 0,I O 0,I O 0,U false,Z ⟨#[]⟩,U false,Z ⟨#[]⟩,I O 0,I O 0,I O 0,Z ⟨#[]⟩,I O 0,I O 0,V none 0 0,Z ⟨#[]⟩,I O 0,I O 0,U false,V none 0 0,U false,Z ⟨#[]⟩,I O 0,I O 0,V none 0 0] _ rfl (St.range H.out) Tryz.underlying38 rfl kR) rfl ?_;exact⟨K2,rfl,HKK.out,H.out.drop.p1.drop.p1.drop⟩
variable {W0 w:World}{K:Know}{L:List Res}
theorem zQw(s:Bs)(hs:s.length≤1000000)(j c:InS)(hc:j.close=c)(hce:c.err=0)(P:Know→Array Value→Prop)(hr:∀(w:World) (L:List Res) (b:Nat),St W0 w K (.inp b ⟨s,0,0⟩::L)→Calls Jb 20 #[zAe b] w fun en w'=>∃(x0 x1 x2 x3 x4 x5 x6 x7 x8 x9 x10 x11 x12 x13 x14 x15 x16 x17 x18 x19 x20 x21 x22 x23:Value) (K2:Know),en=Y (.agg #[x0,x1,x2,x3,x4,x5,x6,x7,x8,x9,x10,x11,x12,x13,x14,x15,x16,x17,x18,x19,x20,x21,x22,x23])∧K2.has K∧(#[x0,x1,x2,x3,x4,x5,x6,x7,x8,x9,x10,x11,x12,x13,x14,x15,x16,x17,x18,x19,x20,x21,x22,x23]:Array Value).all (fun z=>z.oneCell')=true∧P K2 #[x0,x1,x2,x3,x4,x5,x6,x7,x8,x9,x10,x11,x12,x13,x14,x15,x16,x17,x18,x19,x20,x21,x22,x23]∧St W0 w' K2 (.inp b j::L))(h:St W0 w K L):
 Calls Jb 15 #[Z (bb s)] w fun en w'=>∃(x0 x1 x2 x3 x4 x5 x6 x7 x8 x9 x10 x11 x12 x13 x14 x15 x16 x17 x18 x19 x20 x21 x22 x23:Value) (K2:Know),en=Y (.tuple #[.agg #[x0,x1,x2,x3,x4,x5,x6,x7,x8,x9,x10,x11,x12,x13,x14,x15,x16,x17,x18,x19,x20,x21,x22,x23],I O 0])∧K2.has K∧(#[x0,x1,x2,x3,x4,x5,x6,x7,x8,x9,x10,x11,x12,x13,x14,x15,x16,x17,x18,x19,x20,x21,x22,x23]:Array Value).all (fun z=>z.oneCell')=true∧P K2 #[x0,x1,x2,x3,x4,x5,x6,x7,x8,x9,x10,x11,x12,x13,x14,x15,x16,x17,x18,x19,x20,x21,x22,x23]∧St W0 w' K2 L:=by
 obtain⟨r2,hr2⟩:=eX w.heap.size;have g1:=h.allocRaw #[I O 0,I O 0,I O 0,U false,Z ⟨#[]⟩,U false,Z ⟨#[]⟩,I O 0,I O 0,I O 0,Z ⟨#[]⟩,I O 0,I O 0,V none 0 0,Z ⟨#[]⟩,I O 0,I O 0,U false,V none 0 0,U false,Z ⟨#[]⟩,I O 0,I O 0,V none 0 0] 38;rw[hr2]at g1;have H:=hQd g1;have HSL:=hQd (show s.length≤140737488355328 by omega);have HC:=hQd hc;have HCE:=hQd hce;have HR:=hQd hr;clear h g1 hs hc hce hr;go_enter Tryz.func15,Tryz.ntmps15
 go_upto_region 6 with (first
  |(refine zAd rfl 38 (Operand.tmp 5) (Operand.tmp 10) rfl rf #[x0,x1,x2,x3,x4,x5,x6,x7,x8,x9,x10,x11,x12,x13,x14,x15,x16,x17,x18,x19,x20,x21,x22,x23] rfl rfl (H.out) rfl kR (HOO.out) ?_;intro wz h;replace H:=hQd h;clear h)
  |(go_at_call 19;(with_reducible refine(zEh s HSL.out H.out).mono ?_);rintro e_ wn ⟨b,rfl,h⟩;replace H:=hQd h;clear h)
  |(go_at_call 20;(with_reducible refine(HR.out _ _ b H.out).mono ?_);rintro e_ wn ⟨x0,x1,x2,x3,x4,x5,x6,x7,x8,x9,x10,x11,x12,x13,x14,x15,x16,x17,x18,x19,x20,x21,x22,x23,K2,rfl,hkk,ho,hp,h⟩;have HKK:=hQd hkk;have HOO:=hQd ho;have HPP:=hQd hp;clear hkk ho hp;obtain⟨rf,hrf⟩:=eX wn.heap.size;have h:=h.allocRaw #[I O 0,I O 0,I O 0,U false,Z ⟨#[]⟩,U false,Z ⟨#[]⟩,I O 0,I O 0,I O 0,Z ⟨#[]⟩,I O 0,I O 0,V none 0 0,Z ⟨#[]⟩,I O 0,I O 0,U false,V none 0 0,U false,Z ⟨#[]⟩,I O 0,I O 0,V none 0 0] 38;rw[hrf]at h;replace H:=hQd h;clear h)
  |(go_at_call 25;(with_reducible refine(zFO b j c 0 HC.out HCE.out H.out.p1).mono ?_);rintro e_ wn ⟨rfl,h⟩;replace H:=hQd h.p2;clear h))
 refine wp_region_lit ?_;refine wpList_load_mid rfl 38 (Operand.tmp 5) rfl rf 0 rfl [x0,x1,x2,x3,x4,x5,x6,x7,x8,x9,x10,x11,x12,x13,x14,x15,x16,x17,x18,x19,x20,x21,x22,x23] _ (St.range H.out.p2) Tryz.underlying38 rfl kR ?_;refine zAd rfl 38 (Operand.tmp 2) (Operand.tmp 17) rfl r2 #[x0,x1,x2,x3,x4,x5,x6,x7,x8,x9,x10,x11,x12,x13,x14,x15,x16,x17,x18,x19,x20,x21,x22,x23] rfl rfl (H.out) rfl kR (HOO.out) ?_;intro wz h;replace H:=hQd h;clear h;simp only[Act.put,sA,sB,sC];go_wp2;refine bodyPost_ret (zAC rfl _ _ r2 [x0,x1,x2,x3,x4,x5,x6,x7,x8,x9,x10,x11,x12,x13,x14,x15,x16,x17,x18,x19,x20,x21,x22,x23] _ rfl (St.range H.out) Tryz.underlying38 rfl kR) rfl ?_;exact⟨_,_,_,_,_,_,_,_,_,_,_,_,_,_,_,_,_,_,_,_,_,_,_,_,K2,rfl,HKK.out,HOO.out,HPP.out,H.out.drop.drop.drop⟩
theorem zOH(s:Bs)(hs:s.length≤1000000)(j c:InS)(hc:j.close=c)(e:Int)(hce:c.err=e)(hne:e≠0)(P:Know→Array Value→Prop)(hr:∀(w:World) (L:List Res) (b:Nat),St W0 w K (.inp b ⟨s,0,0⟩::L)→Calls Jb 20 #[zAe b] w fun en w'=>∃(x0 x1 x2 x3 x4 x5 x6 x7 x8 x9 x10 x11 x12 x13 x14 x15 x16 x17 x18 x19 x20 x21 x22 x23:Value) (K2:Know),en=Y (.agg #[x0,x1,x2,x3,x4,x5,x6,x7,x8,x9,x10,x11,x12,x13,x14,x15,x16,x17,x18,x19,x20,x21,x22,x23])∧K2.has K∧(#[x0,x1,x2,x3,x4,x5,x6,x7,x8,x9,x10,x11,x12,x13,x14,x15,x16,x17,x18,x19,x20,x21,x22,x23]:Array Value).all (fun z=>z.oneCell')=true∧P K2 #[x0,x1,x2,x3,x4,x5,x6,x7,x8,x9,x10,x11,x12,x13,x14,x15,x16,x17,x18,x19,x20,x21,x22,x23]∧St W0 w' K2 (.inp b j::L))(h:St W0 w K L):
 Calls Jb 15 #[Z (bb s)] w fun en w'=>∃K2:Know,en=Y (.tuple #[.agg #[I O 0,I O 0,I O 0,U false,Z ⟨#[]⟩,U false,Z ⟨#[]⟩,I O 0,I O 0,I O 0,Z ⟨#[]⟩,I O 0,I O 0,V none 0 0,Z ⟨#[]⟩,I O 0,I O 0,U false,V none 0 0,U false,Z ⟨#[]⟩,I O 0,I O 0,V none 0 0],I O e])∧K2.has K∧St W0 w' K2 L:=by
 obtain⟨r2,hr2⟩:=eX w.heap.size;have g1:=h.allocRaw #[I O 0,I O 0,I O 0,U false,Z ⟨#[]⟩,U false,Z ⟨#[]⟩,I O 0,I O 0,I O 0,Z ⟨#[]⟩,I O 0,I O 0,V none 0 0,Z ⟨#[]⟩,I O 0,I O 0,U false,V none 0 0,U false,Z ⟨#[]⟩,I O 0,I O 0,V none 0 0] 38;rw[hr2]at g1;have H:=hQd g1;have HSL:=hQd (show s.length≤140737488355328 by omega);have HC:=hQd hc;have HCE:=hQd hce;have HR:=hQd hr;have gz:(e==0)=false:=by rw[beq_eq_false_iff_ne];exact hne
 clear h g1 hs hc hce hr hne;go_enter Tryz.func15,Tryz.ntmps15
 go_upto_region 5 with (first
  |(refine zAd rfl 38 (Operand.tmp 5) (Operand.tmp 10) rfl rf #[x0,x1,x2,x3,x4,x5,x6,x7,x8,x9,x10,x11,x12,x13,x14,x15,x16,x17,x18,x19,x20,x21,x22,x23] rfl rfl (H.out) rfl kR (HOO.out) ?_;intro wz h;replace H:=hQd h;clear h)
  |(go_at_call 19;(with_reducible refine(zEh s HSL.out H.out).mono ?_);rintro e_ wn ⟨b,rfl,h⟩;replace H:=hQd h;clear h)
  |(go_at_call 20;(with_reducible refine(HR.out _ _ b H.out).mono ?_);rintro e_ wn ⟨x0,x1,x2,x3,x4,x5,x6,x7,x8,x9,x10,x11,x12,x13,x14,x15,x16,x17,x18,x19,x20,x21,x22,x23,K2,rfl,hkk,ho,hp,h⟩;have HKK:=hQd hkk;have HOO:=hQd ho;have HPP:=hQd hp;clear hkk ho hp;obtain⟨rf,hrf⟩:=eX wn.heap.size;have h:=h.allocRaw #[I O 0,I O 0,I O 0,U false,Z ⟨#[]⟩,U false,Z ⟨#[]⟩,I O 0,I O 0,I O 0,Z ⟨#[]⟩,I O 0,I O 0,V none 0 0,Z ⟨#[]⟩,I O 0,I O 0,U false,V none 0 0,U false,Z ⟨#[]⟩,I O 0,I O 0,V none 0 0] 38;rw[hrf]at h;replace H:=hQd h;clear h)
  |(go_at_call 25;(with_reducible refine(zFO b j c e HC.out HCE.out H.out.p1).mono ?_);rintro e_ wn ⟨rfl,h⟩;replace H:=hQd h.p2;clear h))
 go_wp2_with (first
  |(refine zAd rfl 38 (Operand.tmp 2) (Operand.tmp 15) rfl r2 #[I O 0,I O 0,I O 0,U false,Z ⟨#[]⟩,U false,Z ⟨#[]⟩,I O 0,I O 0,I O 0,Z ⟨#[]⟩,I O 0,I O 0,V none 0 0,Z ⟨#[]⟩,I O 0,I O 0,U false,V none 0 0,U false,Z ⟨#[]⟩,I O 0,I O 0,V none 0 0] rfl rfl (H.out) rfl kR (zEr) ?_;intro wz h;replace H:=hQd h;clear h))
 refine bodyPost_ret (zAC rfl _ _ r2 [I O 0,I O 0,I O 0,U false,Z ⟨#[]⟩,U false,Z ⟨#[]⟩,I O 0,I O 0,I O 0,Z ⟨#[]⟩,I O 0,I O 0,V none 0 0,Z ⟨#[]⟩,I O 0,I O 0,U false,V none 0 0,U false,Z ⟨#[]⟩,I O 0,I O 0,V none 0 0] _ rfl (St.range H.out) Tryz.underlying38 rfl kR) rfl ?_;exact⟨K2,rfl,HKK.out,H.out.drop.drop.drop⟩
variable {W0 w:World}{K:Know}{L:List Res}
theorem zEH_Prd11G(b:BatS)(sl:Value)(w:World):(Instr.buildSlice 179 1 #[(0,.agg #[I O b.base,I O b.leader,U b.app,U b.txn,U b.ctl,I O b.last,I O b.first,I O b.maxt,I O b.prod,I O b.epoch,I O b.seq,sl])]).run Jb w=.ok (V (some ⟨w.heap.size,0,none⟩) 1 1) (w.alloc (.cells #[I O b.base,I O b.leader,U b.app,U b.txn,U b.ctl,I O b.last,I O b.first,I O b.maxt,I O b.prod,I O b.epoch,I O b.seq,sl] 101 (0,0))):=by go_simp
theorem zCX_Prd11G{o:Oper}{ρ:Operand→Value}(ps:Array (Nat×Value))(v:Value)(w w':World)(ho:execOp ρ o=(do pure (Next.value (←Instr.buildSlice 179 1 ps))))(hb:(Instr.buildSlice 179 1 ps).run Jb w=.ok v w'):(execOp ρ o).run Jb w=.ok (.value v) w':=by
 rw[ho];simp[hb]
theorem zMk(p:Nat)(i i1 i2 i3 j:InS)(a:Int)(d:Bs)(l:List BatS)(h1:i.int 4=(a,i1))(h2:i1.fixed 4=(⟨false,d⟩,i2))(h3:i2=i3)(hj:(match zCt d with| .ok l=>((a,l),i3)| .error e=>((a,[]),i3.fail e))=((a,l),j))(hd:d.length≤1000000)(hg:j.err=0)(h:St W0 w K (.inp p i::L)):
  Calls Jb 226 #[zAe p] w fun en w'=>∃(q:Option Addr) (n cap:Nat) (lr:List BatR) (K2:Know),en=Y (.agg #[I O a,V q n cap])∧K2.has K∧(j.err=0→n=lr.length∧lr.map BatR.b=l∧K2.has (Know.bats (V q n cap) lr)∧∀x∈lr,x.l.map (·.1)=x.b.recs)∧St W0 w' K2 (.inp p j::L):=by
 obtain⟨rb,hrb⟩:=eX w.heap.size;obtain⟨pb,hpb⟩:=eX (rb+1);have g1:=((h.allocRaw #[I O 0,V none 0 0] 181).allocRaw #[I O 0,V none 0 0] 181).p2;simp only[World.size_alloc,hrb,hpb]at g1;have H:=hQd g1;have H1:=hQd h1;have H2:=hQd h2;have H3:=hQd h3;have HJ:=hQd hj;have HG:=hQd hg;have HDL:=hQd hd;have HDM:=hQd (show d.length≤140737488355328 by omega);have hdi:(d.length:Int)≤1000000:=by omega
 clear h g1 h1 h2 h3 hj hd hg;go_enter Tryz.func226,Tryz.ntmps226
 go_wp2_with (first
  |(go_at_call 66;(with_reducible refine(zMy p i i1 a 4 H1.out H.out).mono ?_);rintro e_ wn ⟨rfl,h⟩;have h:=h.p1;have x0:=h.rawFree 0;have x1:=h.rawCell 0;simp at x1;have h:=(show St W0 (wn.setCell ⟨pb,0,none⟩ (I O a)) K (.inp p i1::.raw pb #[I O a,V none 0 0] 181::.raw rb #[I O 0,V none 0 0] 181::L)from(h.rawSet 0 (I O a)).p1);replace H:=hQd h;clear h)
  |(go_at_call 117;(with_reducible refine(zI5 p i1 i2 4 false d H2.out H.out).mono ?_);rintro e_ wn ⟨rfl,h⟩;obtain⟨qb,hqb⟩:=eX wn.heap.size;have h:=h.allocRaw #[U false,Z (bb d)] 23;rw[hqb]at h;obtain⟨x2,x3⟩:=uR2 h;simp at x2 x3;replace H:=hQd h;clear h)
  |(go_at_call 19;clear x2 x3;(with_reducible refine(zEh d HDM.out H.out.drop).mono ?_);rintro e_ wn ⟨bi,rfl,h⟩;rw[H3.out]at h;replace H:=hQd h;clear h))
 go_loopw [19] (fun _ wr=>∃(v:Value) (n:Nat) (xs:List Value) (pos:Nat) (er:Int) (K2:Know),Hid (K2.has K)∧Hid (PartJ K2 d n xs pos er)∧St W0 wr K2 (.row v 101 12 n xs::.raw pb #[I O a,v] 181::.inp bi ⟨d,pos,er⟩::.raw rb #[I O 0,V none 0 0] 181::.inp p i3::L)) (fun _ wr=>PInM bi d.length wr)
 case atStart=>
  refine⟨V none 0 0,0,[],0,0,K,hQd (Know.has_refl _),hQd (.inl ⟨rfl,Jd _,oM,[],rfl,rfl,by rw[List.drop_zero];exact zRN _,fun x hx=>(by cases hx),fun x hx=>(by cases hx)⟩),?_⟩;have h9:=H.out;exact(h9.p1.p3.p2.p3.nilRow 101 12)
 case round=>
  obtain⟨v,n,xs,pos,er,K2,HKK,HPJ,hst⟩:=hrel;clear H;obtain⟨qv0,cv0,hv0⟩:=hst.rowAny;subst hv0;have HMS:=hQd (pinM (n:=d.length) hst.p2);have H:=hQd hst;clear hst;obtain⟨lf,hlf⟩:=eX ((⟨d,pos,er⟩:InS).left);have HLF:=hQd hlf
  rcases HPJ.out with ⟨er0,hpd,hnb,acc,hn,hxs,hpre,hrec,hmp⟩|⟨he0,hbe⟩
  · subst er0;subst hxs;have hlf2:d.length - pos=lf:=hlf;have HREC:=hQd hrec;have HMP:=hQd hmp;have HPD:=hQd hpd;have HNB:=hQd (show n≤1000000 by omega)
    by_cases hz:lf=0
    · subst hz;have hR:d.drop pos=[]:=List.drop_of_length_le oM;rw[hR,zEK]at hpre;have hpre:Except.ok (acc.map BatR.b++[])=zCt d:=hpre
      have HB:=hQd (show acc.map BatR.b=l∧i3=j by
       have hj:=HJ.out;rw[←hpre]at hj;simp only[Jp,Prod.mk.injEq,true_and]at hj
       exact hj)
      have HN:=hQd hn;clear hlf hlf2 hpd hnb hn hpre hrec hmp hR
      go_wp2_with (first
  |(go_at_call 75;(with_reducible refine(zSG bi _ _ HLF.out H.out.p2).mono ?_);rintro e_ wn ⟨rfl,h⟩;have h:=h.p2.p2;replace H:=hQd h;clear h)
  |(go_at_call 22;(try clear y0 y1 w0 w1 v0 v1);(with_reducible refine(zOx bi _ 0 rfl H.out.p2).mono ?_);rintro e_ wn ⟨rfl,h⟩;have h:=h.p2.p2;obtain⟨y0,y1⟩:=uR2 h.p1;obtain⟨w0,w1⟩:=uS2 h.p3;obtain⟨v0,v1⟩:=uR2 h.p3;simp at y0 y1 v0 v1;replace H:=hQd h;clear h))
      have hz:St W0 _ _ (.raw rb #[I O a,V qv0 n cv0] 181::_):=((H.out.p3.rawSet 0 (I O a)).rawSet 1 (V qv0 n cv0));refine bodyPost_ret (zBr rfl _ _ rb [I O a,V qv0 n cv0] _ rfl (zDd hz) Tryz.underlying181 rfl kR) rfl ?_;have hr:=hz.drop;have hn:=HN.out;subst hn;have hf:=hr.freezeBatsP HREC.out;obtain⟨hl9,hj9⟩:=HB.out;subst hj9;exact⟨qv0,_,cv0,acc,K2.and (Know.bats (V qv0 acc.length cv0) acc),rfl,Know.has_trans (Know.has_left (Know.has_refl _)) HKK.out,fun _=>⟨rfl,hl9,Know.has_right (Know.has_refl _),HMP.out⟩,hf.drop.drop⟩
    · have hlp:(0:Int)<(lf:Int):=by omega
      have hR0:d.drop pos≠[]:=by intro hh;have:=congrArg List.length hh;rw[Jh,List.length_nil]at this;omega
      cases hrb2:zBI (d.drop pos)with
      |error e=>
       have hbe:zCt d=.error e:=by rw[←hpre,zQ8 hR0 hrb2];rfl
       exact absurd HG.out (zML (by have hj:=HJ.out;rw[hbe]at hj;exact congrArg Prod.snd hj) (zNq hrb2))
      |ok y=>
       obtain⟨b,n2⟩:=y;obtain⟨xp,_,hn61,hnl,_⟩:=zCj hrb2;rw[Jh]at hnl;have HRB:=hQd hrb2;have HN2:=hQd (show 61≤n2 by omega);have HPN:=hQd (show pos+n2≤d.length by omega)
       have HNX:=hQd (show ∀(q:Option Addr) (l:List (RecS×Value)) (cap:Nat),l.map (·.1)=b.recs→PartJ (K2.and (Know.recs (V q l.length cap) l)) d (n+1) (acc.flatMap zI4++[I O b.base,I O b.leader,U b.app,U b.txn,U b.ctl,I O b.last,I O b.first,I O b.maxt,I O b.prod,I O b.epoch,I O b.seq,V q l.length cap]) (pos+n2) 0 from fun q l cap hl=> .inl ⟨rfl,oM,oM,acc++[⟨b,l,q,cap⟩],by rw[Jc,hn];rfl,by rw[List.flatMap_append];rfl,by
        rw[List.map_append]
        show preB (acc.map BatR.b++[b]) _=_
        rw[zQb,←Jk,←zNP hR0 hrb2]
        exact hpre,fun x hx=>by
        rcases List.mem_append.1 hx with hx|hx
        · exact Know.has_left (hrec x hx)
        · rw[List.mem_singleton.1 hx];exact Know.has_right (Know.has_refl _),fun x hx=>by
        rcases List.mem_append.1 hx with hx|hx
        · exact hmp x hx
        · rw[List.mem_singleton.1 hx];exact hl⟩)
       clear hlf hlf2 hpd hnb hn hpre hrec hmp hR0 hrb2 hz hn61 hnl
       go_wp2_with (first
  |(go_at_call 75;(with_reducible refine(zSG bi _ _ HLF.out H.out.p2).mono ?_);rintro e_ wn ⟨rfl,h⟩;have h:=h.p2.p2;replace H:=hQd h;clear h)
  |(go_at_call 22;(try clear y0 y1 w0 w1 v0 v1);(with_reducible refine(zOx bi _ 0 rfl H.out.p2).mono ?_);rintro e_ wn ⟨rfl,h⟩;have h:=h.p2.p2;obtain⟨y0,y1⟩:=uR2 h.p1;obtain⟨w0,w1⟩:=uS2 h.p3;obtain⟨v0,v1⟩:=uR2 h.p3;simp at y0 y1 v0 v1;replace H:=hQd h;clear h))
       have hs:=H.out.drew;refine wp_region_held_drew (S:=fun _=>True) kR trivial (fun hHeld=> ?_);refine tR 0 ?_;refine tR 2 ?_;refine wR [1,3] (rC rfl (fun KK hK=> ?_) (rC rfl (fun KK hK=> ?_) rN))
       focus
        have z1:=hs.p1.rawCell 1;simp at z1;go_simp;refine zK hK (trivial) (fun hHeld=> ?_);clear hK KK
        clear z1;refine wR [3] (rC rfl (fun KK hK=> ?_) rN);go_simp;go_at_call 81;with_reducible refine(zEL bi d pos HDL.out HPD.out b n2 HRB.out hs.p2).mono ?_;rintro e wq ⟨q,l,cap,rfl,hlr,hs⟩;refine zK hK (trivial) (fun hHeld=> ?_);clear hK KK
        have hs:=hs.p2.p2;have HLR:=hQd hlr;clear hlr;refine wR [4] (rC rfl (fun KK hK=> ?_) rN);rw[if_pos (by rfl)];refine zBt (zCX_Prd11G _ _ _ _ kR (zEH_Prd11G b (V q l.length cap) _)) ?_;obtain⟨wy,b2,ey,eb,hs⟩:=hs.allocEx #[I O b.base,I O b.leader,U b.app,U b.txn,U b.ctl,I O b.last,I O b.first,I O b.maxt,I O b.prod,I O b.epoch,I O b.seq,V q l.length cap] 101;rw[ey,eb];clear ey eb;refine zK hK (trivial) (fun hHeld=> ?_);clear hK KK
       rotate_left
       focus
        go_simp;go_at_call 81;with_reducible refine(zEL bi d pos HDL.out HPD.out b n2 HRB.out hs.p2).mono ?_;rintro e wq ⟨q,l,cap,rfl,hlr,hs⟩;refine zK hK (trivial) (fun hHeld=> ?_);clear hK KK
        have hs:=hs.p2.p2;have HLR:=hQd hlr;clear hlr;refine wR [1,4] (rC rfl (fun KK hK=> ?_) (rC rfl (fun KK hK=> ?_) rN))
        focus
         have z1:=hs.p1.rawCell 1;simp at z1;go_simp;refine zK hK (trivial) (fun hHeld=> ?_);clear hK KK
         clear z1;refine wR [4] (rC rfl (fun KK hK=> ?_) rN);rw[if_pos (by rfl)];refine zBt (zCX_Prd11G _ _ _ _ kR (zEH_Prd11G b (V q l.length cap) _)) ?_;obtain⟨wy,b2,ey,eb,hs⟩:=hs.allocEx #[I O b.base,I O b.leader,U b.app,U b.txn,U b.ctl,I O b.last,I O b.first,I O b.maxt,I O b.prod,I O b.epoch,I O b.seq,V q l.length cap] 101;rw[ey,eb];clear ey eb;refine zK hK (trivial) (fun hHeld=> ?_);clear hK KK
        rotate_left
        focus
         rw[if_pos (by rfl)];refine zBt (zCX_Prd11G _ _ _ _ kR (zEH_Prd11G b (V q l.length cap) _)) ?_;obtain⟨wy,b2,ey,eb,hs⟩:=hs.allocEx #[I O b.base,I O b.leader,U b.app,U b.txn,U b.ctl,I O b.last,I O b.first,I O b.maxt,I O b.prod,I O b.epoch,I O b.seq,V q l.length cap] 101;rw[ey,eb];clear ey eb;refine zK hK (trivial) (fun hHeld=> ?_);clear hK KK
         refine wR [1] (rC rfl (fun KK hK=> ?_) rN);have z1:=hs.p2.rawCell 1;simp at z1;go_simp;refine zK hK (trivial) (fun hHeld=> ?_);clear hK KK
         clear z1
       all_goals
        refine wR [5] (rC rfl (fun KK hK=> ?_) rN);rw[if_pos (by rfl)];refine zGF (.tmp 28) (.tmp 31) 179 rfl 101 Tryz.underlying179 zQT _ _ _ (by rfl) b2 #[I O b.base,I O b.leader,U b.app,U b.txn,U b.ctl,I O b.last,I O b.first,I O b.maxt,I O b.prod,I O b.epoch,I O b.seq,V q l.length cap] 101 hs (by rfl) rfl (by simp[Value.oneCell']) (by have:=HNB.out;unfold maxLen;omega) (by have:=HNB.out;omega) (fun v' w' h=> ?_);have hs:=h;clear h;obtain⟨qv,cv,hv⟩:=hs.rowAny;subst hv;refine zK hK (trivial) (fun hHeld=> ?_);clear hK KK
        refine tR 6 ?_;refine wR [7] (rC rfl (fun KK hK=> ?_) rN);have hs:=hs.p1;have q1:=hs.rawFree 1;have z1:=hs.rawCell 1;simp at z1;rw[if_pos (by rfl)];refine zMz (w':=w'.setCell ⟨pb,1,none⟩ (V qv (n+1) cv)) (by go_simp) ?_;obtain⟨wz,ez,hs⟩:=hs.setExP 1 (V qv (n+1) cv);rw[ez];clear ez q1 z1;have hs:=hs.p1;refine hK.out _ _ (trivial) (fun hHeld=> ?_);clear hK KK
        try simp only[Act.put]
        refine wpAnyH_done kR ?_ _;clear hHeld;go_wp2_with fail;go_roundw
        case rel=>
         refine⟨V qv (n+1) cv,n+1,acc.flatMap zI4++[I O b.base,I O b.leader,U b.app,U b.txn,U b.ctl,I O b.last,I O b.first,I O b.maxt,I O b.prod,I O b.epoch,I O b.seq,V q l.length cap],pos+n2,0,K2.and (Know.recs (V q l.length cap) l),?_,?_,?_⟩
         · exact hQd (Know.has_trans (Know.has_left (Know.has_refl _)) HKK.out)
         · exact hQd (HNX.out q l cap HLR.out)
         · exact hs
        case measure=>
         rw[pinM hs.p2,HMS.out];have:=HN2.out;have:=HPN.out
         show(if (0:Int)≠0 then 0 else d.length+1 - (pos+n2))<if (0:Int)≠0 then 0 else d.length+1 - pos
         rw[if_neg sM,if_neg sM]
         omega
  · exact absurd HG.out (zML (by have hj:=HJ.out;rw[hbe]at hj;exact congrArg Prod.snd hj) he0)
theorem zQE{i:InS}{e:Int}(h:i.err≠0):(i.fail e).err≠0:=by unfold InS.fail;rw[if_neg h];exact h
theorem zHW(p:Nat)(i j:InS)(a:Int)(l:List BatS)(hx:i.ppart=((a,l),j))(hd:(((i.int 4).2.fixed 4).1.data).length≤1000000)(hg:j.err=0)(h:St W0 w K (.inp p i::L)):
 Calls Jb 226 #[zAe p] w fun en w'=>∃(q:Option Addr) (n cap:Nat) (lr:List BatR) (K2:Know),en=Y (.agg #[I O a,V q n cap])∧K2.has K∧(j.err=0→n=lr.length∧lr.map BatR.b=l∧K2.has (Know.bats (V q n cap) lr)∧∀x∈lr,x.l.map (·.1)=x.b.recs)∧St W0 w' K2 (.inp p j::L):=by
 obtain⟨⟨a1,i1⟩,h1⟩:∃r,i.int 4=r:=⟨_,rfl⟩;obtain⟨⟨⟨nu,d⟩,i2⟩,h2⟩:∃r,i1.fixed 4=r:=⟨_,rfl⟩;unfold InS.ppart at hx;rw[h1]at hx hd;simp only at hx hd;rw[h2]at hx hd;simp only at hx hd
 have ha:a1=a:=by
  revert hx
  cases zCt d<;>intro hx<;>simp only[Prod.mk.injEq]at hx<;>exact hx.1.1
 subst ha
 cases nu with
 |true=>
  rw[if_pos rfl]at hx;have h4:(i2.fail 4).err≠0:=zML rfl dD
  exfalso
  revert hx
  cases zCt d with
  |ok l2=>intro hx;have e:i2.fail 4=j:=congrArg Prod.snd hx;rw[e]at h4;exact h4 hg
  |error e2=>intro hx;have e:(i2.fail 4).fail e2=j:=congrArg Prod.snd hx;have h5:=zQE (e:=e2) h4;rw[e]at h5;exact h5 hg
 |false=>exact zMk p i i1 i2 _ j a1 d l h1 h2 rfl (by rw[if_neg sM]at hx;exact hx) hd hg h
theorem zEG_Prd12G(a:Int)(sl:Value)(w:World):(Instr.buildSlice 176 1 #[(0,.agg #[I O a,sl])]).run Jb w=.ok (V (some ⟨w.heap.size,0,none⟩) 1 1) (w.alloc (.cells #[I O a,sl] 181 (0,0))):=by go_simp
theorem zB4_Prd12G{o:Oper}{ρ:Operand→Value}(ps:Array (Nat×Value))(v:Value)(w w':World)(ho:execOp ρ o=(do pure (Next.value (←Instr.buildSlice 176 1 ps))))(hb:(Instr.buildSlice 176 1 ps).run Jb w=.ok v w'):(execOp ρ o).run Jb w=.ok (.value v) w':=by
 rw[ho];simp[hb]
theorem zq30{p:Prop}(h:p:=by
  exact hQd (fun x hx=>by
  rcases List.mem_append.1 hx with hx|hx
  · exact⟨Know.has_trans HK3.out (HALL.out x hx).1,(HALL.out x hx).2⟩
  · rw[List.mem_singleton.1 hx];exact⟨hkb,hmb⟩)):p:=h
theorem zKy(p:Nat)(i j:InS)(nm:Bs)(ps:List (Int×List BatS))(hx:i.ptop=((nm,ps),j))(hd:i.s.length≤1000000)(hg:j.err=0){W0 w:World}{K:Know}{L:List Res}(h:St W0 w K (.inp p i::L)):
 Calls Jb 175 #[zAe p] w fun en w'=>∃(q:Option Addr) (n cap:Nat) (lr:List PartR) (K2:Know),en=Y (.agg #[Z (bb nm),V q n cap])∧K2.has K∧(j.err=0→n=lr.length∧lr.map PartR.pb=ps∧K2.has (Know.pparts (V q n cap) lr)∧∀x∈lr,∀y∈x.l,y.l.map (·.1)=y.b.recs)∧St W0 w' K2 (.inp p j::L):=by
 obtain⟨⟨n1,i1⟩,h1⟩:∃r,i.text=r:=⟨_,rfl⟩;obtain⟨⟨n,c⟩,h2⟩:∃r,i1.cnt 8=r:=⟨_,rfl⟩;have hs0:c.s=i.s:=by have:=zG7 i1 8;rw[h2]at this;rw[this];have:=zID i;rw[h1]at this;exact this
 have hnl:=zLh i1 8;rw[h2]at hnl
 have hx2:n1=nm∧InS.ppartsN n [] c=(ps,j):=by
  unfold InS.ptop at hx;rw[h1]at hx;simp only at hx;rw[h2]at hx;simp only[Prod.mk.injEq]at hx;exact⟨hx.1.1,Prod.ext hx.1.2 hx.2⟩
 obtain⟨rfl,hx2⟩:=hx2;obtain⟨rb,hrb⟩:=eX w.heap.size;obtain⟨tb,htb⟩:=eX (rb+1);have g1:=((h.allocRaw #[Z ⟨#[]⟩,V none 0 0] 178).allocRaw #[Z ⟨#[]⟩,V none 0 0] 178).p2;simp only[World.size_alloc,hrb,htb]at g1;have H:=hQd g1;have H1:=hQd h1;have H2:=hQd h2;have HX0:=hQd hx2;have HG:=hQd hg;have HS0:=hQd hs0;have HDL:=hQd hd;have HNL:=hQd (show n≤2147483647 from hnl.2);have hni:(n:Int)≤2147483647:=by have:=HNL.out;omega
 clear hg h g1 h1 h2 hx hx2 hd hnl hs0;go_enter Tryz.func175,Tryz.ntmps175
 go_wp2_with (first
  |(go_at_call 87;(with_reducible refine(p_text p i i1 _ H1.out H.out).mono ?_);rintro e_ wn ⟨rfl,h⟩;have h:=h.p1;have x0:=h.rawFree 0;have x1:=h.rawCell 0;simp at x1;have h:=(show St W0 (wn.setCell ⟨tb,0,none⟩ (Z (bb n1))) K (.inp p i1::.raw tb #[Z (bb n1),V none 0 0] 178::.raw rb #[Z ⟨#[]⟩,V none 0 0] 178::L)from(h.rawSet 0 (Z (bb n1))).p1);replace H:=hQd h;clear h)
  |(go_at_call 174;(with_reducible refine(zRP p i1 c 8 n 8 rfl H2.out H.out).zM ?_);clear H;intro wn H))
 go_loopw [9] (fun iv wr=>∃(k:Nat) (v:Value) (xs:List Value) (i2:InS) (acc:List PartR) (K2:Know),k≤n∧iv=I O k∧Hid (k=acc.length)∧Hid (xs=acc.flatMap zNv)∧Hid (InS.ppartsN (n - k) (acc.map PartR.pb) i2=(ps,j))∧Hid (K2.has K)∧Hid (∀x∈acc,K2.has (Know.bats (V x.q x.l.length x.cap) x.l)∧∀y∈x.l,y.l.map (·.1)=y.b.recs)∧Hid (i2.s=i.s)∧St W0 wr K2 (.row v 181 2 k xs::.raw tb #[Z (bb n1),v] 178::.inp p i2::.raw rb #[Z ⟨#[]⟩,V none 0 0] 178::L)) (fun iv _=>n - (intOf iv).toNat)
 case atStart=>
  refine⟨0,V none 0 0,[],c,[],K,Jd _,rfl,hQd rfl,hQd rfl,hQd HX0.out,hQd (Know.has_refl _),hQd (fun x hx=>by cases hx),hQd HS0.out,?_⟩;exact(H.out.p1.nilRow 181 2)
 case round=>
  obtain⟨k,v,xs,i2,acc,K2,hk,rfl,HAL,HXS,HP,HKK,HALL,HS,hst⟩:=hrel;clear H;obtain⟨qv0,cv0,hv0⟩:=hst.rowAny;subst hv0;obtain⟨y0,y1⟩:=uR2 hst.p1;obtain⟨w0,w1⟩:=uS2 hst.p3;obtain⟨v0,v1⟩:=uR2 hst.p3;simp at y0 y1 v0 v1;have H:=hQd hst;clear hst
  by_cases hlt:k<n
  ·clear y0 y1 w0 w1 v0 v1;obtain⟨⟨⟨a,bl⟩,i3⟩,hi3⟩:∃r,i2.ppart=r:=⟨_,rfl⟩;obtain⟨er,her⟩:=eX i3.err;have HX:=hQd hi3;have HS3:=hQd (show i3.s=i.s by have:=zEo i2;rw[hi3]at this;rw[this];exact HS.out)
   have hstep:(if er=0 then InS.ppartsN (n - (k+1)) (acc.map PartR.pb++[(a,bl)]) i3 else([],i3))=(ps,j):=by
    have h1:=HP.out;rw[show n - k=(n - (k+1))+1 by omega]at h1;have h2:(if i2.ppart.2.err=0 then InS.ppartsN (n - (k+1)) (acc.map PartR.pb++[i2.ppart.1]) i2.ppart.2 else([],i2.ppart.2))=(ps,j):=h1;rw[hi3]at h2;simp only at h2;rw[her]at h2;exact h2
   have HKN:=hQd (show k≤2147483647 by have:=HNL.out;omega);have hkn:(k:Int)<(n:Int):=by omega
   have HER:=hQd her;clear hi3
   by_cases he0:er=0
   ·rw[if_pos he0]at hstep;have HP2:=hQd hstep;subst he0;clear hstep her;go_wp2_with fail;have hs:=H.out.drew;refine wp_region_held_drew (S:=fun _=>True) kR trivial (fun hHeld=> ?_);refine tR 0 ?_;refine tR 2 ?_;refine wR [1,3] (rC rfl (fun KK hK=> ?_) (rC rfl (fun KK hK=> ?_) rN))
    focus
     have z1:=hs.p1.rawCell 1;simp at z1;go_simp;refine zK hK (trivial) (fun hHeld=> ?_);clear hK KK
     clear z1;refine wR [3] (rC rfl (fun KK hK=> ?_) rN);go_simp;go_at_call 226;with_reducible refine(zHW p i2 i3 a bl HX.out (Nat.le_trans (zFb _) (by rw[HS.out];exact HDL.out)) HER.out hs.p2).mono ?_;rintro e wq ⟨q,n2,cap,lr,K3,rfl,hk3,hgd,hs⟩;refine zK hK (trivial) (fun hHeld=> ?_);clear hK KK
     have hs:=hs.p2.p2;refine wR [4] (rC rfl (fun KK hK=> ?_) rN);rw[if_pos (by rfl)];refine zBt (zB4_Prd12G _ _ _ _ kR (zEG_Prd12G a (V q n2 cap) _)) ?_;obtain⟨wy,b2,ey,eb,hs⟩:=hs.allocEx #[I O a,V q n2 cap] 181;rw[ey,eb];clear ey eb;refine zK hK (trivial) (fun hHeld=> ?_);clear hK KK
    rotate_left
    focus
     go_simp;go_at_call 226;with_reducible refine(zHW p i2 i3 a bl HX.out (Nat.le_trans (zFb _) (by rw[HS.out];exact HDL.out)) HER.out hs.p2).mono ?_;rintro e wq ⟨q,n2,cap,lr,K3,rfl,hk3,hgd,hs⟩;refine zK hK (trivial) (fun hHeld=> ?_);clear hK KK
     have hs:=hs.p2.p2;refine wR [1,4] (rC rfl (fun KK hK=> ?_) (rC rfl (fun KK hK=> ?_) rN))
     focus
      have z1:=hs.p1.rawCell 1;simp at z1;go_simp;refine zK hK (trivial) (fun hHeld=> ?_);clear hK KK
      clear z1;refine wR [4] (rC rfl (fun KK hK=> ?_) rN);rw[if_pos (by rfl)];refine zBt (zB4_Prd12G _ _ _ _ kR (zEG_Prd12G a (V q n2 cap) _)) ?_;obtain⟨wy,b2,ey,eb,hs⟩:=hs.allocEx #[I O a,V q n2 cap] 181;rw[ey,eb];clear ey eb;refine zK hK (trivial) (fun hHeld=> ?_);clear hK KK
     rotate_left
     focus
      rw[if_pos (by rfl)];refine zBt (zB4_Prd12G _ _ _ _ kR (zEG_Prd12G a (V q n2 cap) _)) ?_;obtain⟨wy,b2,ey,eb,hs⟩:=hs.allocEx #[I O a,V q n2 cap] 181;rw[ey,eb];clear ey eb;refine zK hK (trivial) (fun hHeld=> ?_);clear hK KK
      refine wR [1] (rC rfl (fun KK hK=> ?_) rN);have z1:=hs.p2.rawCell 1;simp at z1;go_simp;refine zK hK (trivial) (fun hHeld=> ?_);clear hK KK
      clear z1
    all_goals
     refine wR [5] (rC rfl (fun KK hK=> ?_) rN);rw[if_pos (by rfl)];refine zGF (.tmp 12) (.tmp 15) 176 rfl 181 Tryz.underlying176 zOS _ _ _ (by rfl) b2 #[I O a,V q n2 cap] 181 hs (by rfl) rfl (by simp[Value.oneCell']) (by have:=HKN.out;unfold maxLen;omega) (by have:=HKN.out;omega) (fun v' w' h=> ?_);have hs:=h;clear h;obtain⟨qv,cv,hv⟩:=hs.rowAny;subst hv;refine zK hK (trivial) (fun hHeld=> ?_);clear hK KK
     refine tR 6 ?_;refine wR [7] (rC rfl (fun KK hK=> ?_) rN);have hs:=hs.p1;have q1:=hs.rawFree 1;have z1:=hs.rawCell 1;simp at z1;rw[if_pos (by rfl)];refine zMz (w':=w'.setCell ⟨tb,1,none⟩ (V qv (k+1) cv)) (by go_simp) ?_;obtain⟨wz,ez,hs⟩:=hs.setExP 1 (V qv (k+1) cv);rw[ez];clear ez q1 z1;have hs:=hs.p1;refine hK.out _ _ (trivial) (fun hHeld=> ?_);clear hK KK
     try simp only[Act.put]
     refine wpAnyH_done kR ?_ _;clear hHeld;have HK3:=hQd hk3;clear hk3;replace H:=hQd hs;clear hs;go_wp2_with (go_at_call 22;(try clear y0 y1 w0 w1 v0 v1);(with_reducible refine(zOx p i3 0 HER.out H.out.p2).mono ?_);rintro e_ wn ⟨rfl,h⟩;have h:=h.p2.p2;obtain⟨y0,y1⟩:=uR2 h.p1;obtain⟨w0,w1⟩:=uS2 h.p3;obtain⟨v0,v1⟩:=uR2 h.p3;simp at y0 y1 v0 v1;replace H:=hQd h;clear h);go_roundw
     case rel=>
      obtain⟨hn2,hlb,hkb,hmb⟩:=hgd HER.out;subst hn2;refine⟨k+1,V qv (k+1) cv,xs++[I O a,V q lr.length cap],i3,acc++[⟨a,lr,q,cap⟩],K3,hlt,by go_num,?_,?_,?_,?_,?_,?_,?_⟩
      ·exact hQd (by rw[Jc,←HAL.out];rfl)
      ·exact hQd (by rw[List.flatMap_append,HXS.out];rfl)
      ·exact hQd (by rw[List.map_append];have:=HP2.out;rw[←hlb]at this;exact this)
      ·exact hQd (Know.has_trans HK3.out HKK.out)
      ·exact zq30
      ·exact hQd HS3.out
      ·exact H.out
     case measure=>first|(simp[intOf];done)|(simp[intOf];omega)
   ·rw[if_neg he0]at hstep;exact absurd HG.out (by have e9:i3=j:=congrArg Prod.snd hstep;rw[←e9,her];exact he0)
  ·obtain rfl:k=n:=by omega
   have hp:=HP.out;rw[Nat.sub_self]at hp;have hp:(acc.map PartR.pb,i2)=(ps,j):=hp;simp only[Prod.mk.injEq]at hp;obtain⟨hpl,rfl⟩:=hp;have HPL:=hQd hpl;clear hpl;go_wp2;have hz:St W0 _ _ (.raw rb #[Z (bb n1),V qv0 k cv0] 178::_):=((H.out.p3.rawSet 0 (Z (bb n1))).rawSet 1 (V qv0 k cv0));refine bodyPost_ret (zBr rfl _ _ rb [Z (bb n1),V qv0 k cv0] _ rfl (zDd hz) Tryz.underlying178 rfl kR) rfl ?_;have hr:=hz.drop;have hn:=HAL.out;have hxs:=HXS.out;subst hn;subst hxs;have hf:=hr.freezeParts (fun x hx=>(HALL.out x hx).1);exact⟨qv0,_,cv0,acc,K2.and (Know.pparts (V qv0 acc.length cv0) acc),rfl,Know.has_trans (Know.has_left (Know.has_refl _)) HKK.out,fun _=>⟨rfl,HPL.out,Know.has_right (Know.has_refl _),fun x hx=>(HALL.out x hx).2⟩,hf.drop⟩
end Go.Proofs.YteldcbljedeeiaaGreatDoor
