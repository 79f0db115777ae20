/- A text. -/
import Derived.Test.YteldcbljedeeiaaGreatDoorGWholeFramesCard5
import Derived.Test.YteldcbljedeeiaaGreatDoorGWholeFramesCard12
import Derived.RegionTactic
import Derived.Deep.RegionHeld3
import Derived.Deep.DeepCutAuto
import Derived.WalkMore
import Derived.Test.YteldcbljedeeiaaGreatDoorGWholeFramesCard4
import Derived.Test.YteldcbljedeeiaaGreatDoorGWholeFramesCard10
import Derived.Test.YteldcbljedeeiaaGreatDoorGWholeFramesCard2
import Derived.Test.YteldcbljedeeiaaGreatDoorGWholeFramesCard3
import Derived.Test.YteldcbljedeeiaaGreatDoorGWholeFramesCard9
import Derived.Test.YteldcbljedeeiaaGreatDoorGWholeFramesCard8
import Derived.Test.YteldcbljedeeiaaGreatDoorGWholeFramesCard7
import Derived.Deep.OwnRows
import Derived.IntWalk
import Derived.Test.YteldcbljedeeiaaGreatDoorGWholeFramesCard6
/- A text. -/
namespace Go.Proofs.YteldcbljedeeiaaGreatDoor
open Go.RowKit
set_option maxRecDepth 100000
set_option maxHeartbeats 8000000
open Go.Value renaming bool→U, string→Z, slice→V, int→I, pointer→Ja
open Go.Ending renaming returned→Y
open Go.IntKind renaming i64→O
open _root_.Go.Proofs.Tryz renaming prog→Jb
open _root_.Nat renaming zero_le→Jd, add_assoc→Jm
open _root_.List renaming take_succ_eq_append_getElem→Jf, length_cons→Jn, length_append→Jc, append_nil→Jp, length_drop→Jh, drop_drop→Jk, append_assoc→Je, flatMap_cons→Jg, getElem_mem→Ji, length_map→Jj, take→Jl, drop→Jo
set_option maxHeartbeats 8000000
set_option maxRecDepth 100000
variable {W0 w:World}{K:Know}{L:List Res}
theorem zSe(k:Int)(v num:Int)(u:Bool)(cs:Bs)(bn:Bool)(bd:Bs)(bt bp be:Int)(ad:Bs)(ap ae:Int)(aq:Option Addr)(al:List (TopS×Value))(acap:Nat)(ed:Bs)(ep ee:Int)(ec:Bool)(mq:Option Addr)(ml:List MarkR)(mcap:Nat)(pn:Bool)(pd:Bs)(pa pt:Int)(pq:Option Addr)(pl:List PTop)(pcap:Nat)(g_cs:1000<(cs.length:Int))(h:St W0 w K L):
 Calls Jb 11 #[.agg #[I O k,I O v,I O num,U u,Z (bb cs),U bn,Z (bb bd),I O bt,I O bp,I O be,Z (bb ad),I O ap,I O ae,V aq al.length acap,Z (bb ed),I O ep,I O ee,U ec,V mq ml.length mcap,U pn,Z (bb pd),I O pa,I O pt,V pq pl.length pcap]] w fun en w'=>en=Y (I O 0)∧St W0 w' K L:=by
 obtain⟨ab,hab_⟩:=eX w.heap.size;have g1:=h.allocRaw #[I O k,I O v,I O num,U u,Z (bb cs),U bn,Z (bb bd),I O bt,I O bp,I O be,Z (bb ad),I O ap,I O ae,V aq al.length acap,Z (bb ed),I O ep,I O ee,U ec,V mq ml.length mcap,U pn,Z (bb pd),I O pa,I O pt,V pq pl.length pcap] 38;rw[hab_]at g1;have z4:=g1.rawCell 4;have z6:=g1.rawCell 6;have z10:=g1.rawCell 10;have z13:=g1.rawCell 13;have z14:=g1.rawCell 14;have z18:=g1.rawCell 18;have z19:=g1.rawCell 19;have z20:=g1.rawCell 20;have z21:=g1.rawCell 21;have z22:=g1.rawCell 22;have z23:=g1.rawCell 23;simp at z4 z6 z10 z13 z14 z18 z19 z20 z21 z22 z23;have H:=hQd g1;clear h g1;go_enter Tryz.func11,Tryz.ntmps11;go_wp2;go_ret;exact⟨rfl,H.out.drop⟩
theorem zSf(k:Int)(v num:Int)(u:Bool)(cs:Bs)(bn:Bool)(bd:Bs)(bt bp be:Int)(ad:Bs)(ap ae:Int)(aq:Option Addr)(al:List (TopS×Value))(acap:Nat)(ed:Bs)(ep ee:Int)(ec:Bool)(mq:Option Addr)(ml:List MarkR)(mcap:Nat)(pn:Bool)(pd:Bs)(pa pt:Int)(pq:Option Addr)(pl:List PTop)(pcap:Nat)(g_cs:¬1000<(cs.length:Int))(g_bd:1000<(bd.length:Int))(h:St W0 w K L):
 Calls Jb 11 #[.agg #[I O k,I O v,I O num,U u,Z (bb cs),U bn,Z (bb bd),I O bt,I O bp,I O be,Z (bb ad),I O ap,I O ae,V aq al.length acap,Z (bb ed),I O ep,I O ee,U ec,V mq ml.length mcap,U pn,Z (bb pd),I O pa,I O pt,V pq pl.length pcap]] w fun en w'=>en=Y (I O 0)∧St W0 w' K L:=by
 obtain⟨ab,hab_⟩:=eX w.heap.size;have g1:=h.allocRaw #[I O k,I O v,I O num,U u,Z (bb cs),U bn,Z (bb bd),I O bt,I O bp,I O be,Z (bb ad),I O ap,I O ae,V aq al.length acap,Z (bb ed),I O ep,I O ee,U ec,V mq ml.length mcap,U pn,Z (bb pd),I O pa,I O pt,V pq pl.length pcap] 38;rw[hab_]at g1;have z4:=g1.rawCell 4;have z6:=g1.rawCell 6;have z10:=g1.rawCell 10;have z13:=g1.rawCell 13;have z14:=g1.rawCell 14;have z18:=g1.rawCell 18;have z19:=g1.rawCell 19;have z20:=g1.rawCell 20;have z21:=g1.rawCell 21;have z22:=g1.rawCell 22;have z23:=g1.rawCell 23;simp at z4 z6 z10 z13 z14 z18 z19 z20 z21 z22 z23;have H:=hQd g1;clear h g1;go_enter Tryz.func11,Tryz.ntmps11;go_wp2;go_ret;exact⟨rfl,H.out.drop⟩
theorem zSg(k:Int)(v num:Int)(u:Bool)(cs:Bs)(bn:Bool)(bd:Bs)(bt bp be:Int)(ad:Bs)(ap ae:Int)(aq:Option Addr)(al:List (TopS×Value))(acap:Nat)(ed:Bs)(ep ee:Int)(ec:Bool)(mq:Option Addr)(ml:List MarkR)(mcap:Nat)(pn:Bool)(pd:Bs)(pa pt:Int)(pq:Option Addr)(pl:List PTop)(pcap:Nat)(g_cs:¬1000<(cs.length:Int))(g_bd:¬1000<(bd.length:Int))(g_ad:1000<(ad.length:Int))(h:St W0 w K L):
 Calls Jb 11 #[.agg #[I O k,I O v,I O num,U u,Z (bb cs),U bn,Z (bb bd),I O bt,I O bp,I O be,Z (bb ad),I O ap,I O ae,V aq al.length acap,Z (bb ed),I O ep,I O ee,U ec,V mq ml.length mcap,U pn,Z (bb pd),I O pa,I O pt,V pq pl.length pcap]] w fun en w'=>en=Y (I O 0)∧St W0 w' K L:=by
 obtain⟨ab,hab_⟩:=eX w.heap.size;have g1:=h.allocRaw #[I O k,I O v,I O num,U u,Z (bb cs),U bn,Z (bb bd),I O bt,I O bp,I O be,Z (bb ad),I O ap,I O ae,V aq al.length acap,Z (bb ed),I O ep,I O ee,U ec,V mq ml.length mcap,U pn,Z (bb pd),I O pa,I O pt,V pq pl.length pcap] 38;rw[hab_]at g1;have z4:=g1.rawCell 4;have z6:=g1.rawCell 6;have z10:=g1.rawCell 10;have z13:=g1.rawCell 13;have z14:=g1.rawCell 14;have z18:=g1.rawCell 18;have z19:=g1.rawCell 19;have z20:=g1.rawCell 20;have z21:=g1.rawCell 21;have z22:=g1.rawCell 22;have z23:=g1.rawCell 23;simp at z4 z6 z10 z13 z14 z18 z19 z20 z21 z22 z23;have H:=hQd g1;clear h g1;go_enter Tryz.func11,Tryz.ntmps11;go_wp2;go_ret;exact⟨rfl,H.out.drop⟩
theorem zSd(k:Int)(v num:Int)(u:Bool)(cs:Bs)(bn:Bool)(bd:Bs)(bt bp be:Int)(ad:Bs)(ap ae:Int)(aq:Option Addr)(al:List (TopS×Value))(acap:Nat)(ed:Bs)(ep ee:Int)(ec:Bool)(mq:Option Addr)(ml:List MarkR)(mcap:Nat)(pn:Bool)(pd:Bs)(pa pt:Int)(pq:Option Addr)(pl:List PTop)(pcap:Nat)(g_cs:¬1000<(cs.length:Int))(g_bd:¬1000<(bd.length:Int))(g_ad:¬1000<(ad.length:Int))(g_ed:1000<(ed.length:Int))(h:St W0 w K L):
 Calls Jb 11 #[.agg #[I O k,I O v,I O num,U u,Z (bb cs),U bn,Z (bb bd),I O bt,I O bp,I O be,Z (bb ad),I O ap,I O ae,V aq al.length acap,Z (bb ed),I O ep,I O ee,U ec,V mq ml.length mcap,U pn,Z (bb pd),I O pa,I O pt,V pq pl.length pcap]] w fun en w'=>en=Y (I O 0)∧St W0 w' K L:=by
 obtain⟨ab,hab_⟩:=eX w.heap.size;have g1:=h.allocRaw #[I O k,I O v,I O num,U u,Z (bb cs),U bn,Z (bb bd),I O bt,I O bp,I O be,Z (bb ad),I O ap,I O ae,V aq al.length acap,Z (bb ed),I O ep,I O ee,U ec,V mq ml.length mcap,U pn,Z (bb pd),I O pa,I O pt,V pq pl.length pcap] 38;rw[hab_]at g1;have z4:=g1.rawCell 4;have z6:=g1.rawCell 6;have z10:=g1.rawCell 10;have z13:=g1.rawCell 13;have z14:=g1.rawCell 14;have z18:=g1.rawCell 18;have z19:=g1.rawCell 19;have z20:=g1.rawCell 20;have z21:=g1.rawCell 21;have z22:=g1.rawCell 22;have z23:=g1.rawCell 23;simp at z4 z6 z10 z13 z14 z18 z19 z20 z21 z22 z23;have H:=hQd g1;clear h g1;go_enter Tryz.func11,Tryz.ntmps11;go_wp2;go_ret;exact⟨rfl,H.out.drop⟩
theorem zTf(k:Int)(v num:Int)(u:Bool)(cs:Bs)(bn:Bool)(bd:Bs)(bt bp be:Int)(ad:Bs)(ap ae:Int)(aq:Option Addr)(al:List (TopS×Value))(acap:Nat)(ed:Bs)(ep ee:Int)(ec:Bool)(mq:Option Addr)(ml:List MarkR)(mcap:Nat)(pn:Bool)(pd:Bs)(pa pt:Int)(pq:Option Addr)(pl:List PTop)(pcap:Nat)(g_cs:¬1000<(cs.length:Int))(g_bd:¬1000<(bd.length:Int))(g_ad:¬1000<(ad.length:Int))(g_ed:¬1000<(ed.length:Int))(r1:few (al.map (·.1))=0)(_:cs.length≤140737488351232)(_:bd.length≤140737488351232)(_:ad.length≤140737488351232)(_:ed.length≤140737488351232)(hal:al.length≤140737488351232)(hab:∀x∈al,x.1.name.length≤140737488351232∧x.1.parts.length≤17592186043904)(hml:ml.length≤140737488351232)(hmb:∀x∈ml,x.l.map (·.1)=x.m.tops∧x.l.length≤140737488351232∧∀y∈x.l,y.1.name.length≤140737488351232∧y.1.parts.length≤17592186043904)(hpd:pd.length≤140737488351232)(hpl:pl.length≤3518437208780)(hpf:∀x∈pl,FewT20 x)(k1:K.has (Know.tops (V aq al.length acap) al))(k2:K.has (Know.marks (V mq ml.length mcap) ml))(k3:K.has (Know.ptops (V pq pl.length pcap) pl))(h:St W0 w K L):
 Calls Jb 11 #[.agg #[I O k,I O v,I O num,U u,Z (bb cs),U bn,Z (bb bd),I O bt,I O bp,I O be,Z (bb ad),I O ap,I O ae,V aq al.length acap,Z (bb ed),I O ep,I O ee,U ec,V mq ml.length mcap,U pn,Z (bb pd),I O pa,I O pt,V pq pl.length pcap]] w fun en w'=>en=Y (I O 0)∧St W0 w' K L:=by
 obtain⟨ab,hab_⟩:=eX w.heap.size;have g1:=h.allocRaw #[I O k,I O v,I O num,U u,Z (bb cs),U bn,Z (bb bd),I O bt,I O bp,I O be,Z (bb ad),I O ap,I O ae,V aq al.length acap,Z (bb ed),I O ep,I O ee,U ec,V mq ml.length mcap,U pn,Z (bb pd),I O pa,I O pt,V pq pl.length pcap] 38;rw[hab_]at g1;have z4:=g1.rawCell 4;have z6:=g1.rawCell 6;have z10:=g1.rawCell 10;have z13:=g1.rawCell 13;have z14:=g1.rawCell 14;have z18:=g1.rawCell 18;have z19:=g1.rawCell 19;have z20:=g1.rawCell 20;have z21:=g1.rawCell 21;have z22:=g1.rawCell 22;have z23:=g1.rawCell 23;simp at z4 z6 z10 z13 z14 z18 z19 z20 z21 z22 z23;have H:=hQd g1;have HAL:=hQd hal;have HAB:=hQd hab;have HML:=hQd hml;have HMB:=hQd hmb;have HPD:=hQd hpd;have HPL:=hQd hpl;have HPF:=hQd hpf;have K1:=hQd k1;have K2:=hQd k2;have K3:=hQd k3;clear hal hab hml hmb hpd hpl hpf k1 k2 k3;have HR1:=hQd r1;clear r1;clear h g1;go_enter Tryz.func11,Tryz.ntmps11
 go_wp2_with (first
  |(go_at_call 44;clear z4 z6 z10 z13 z14 z18 z19 z20 z21 z22 z23;(with_reducible refine(zDf al aq acap HAL.out HAB.out _ HR1.out K1.out H.out).mono ?_);rintro e_ wn ⟨rfl,h⟩;have z4:=h.rawCell 4;have z6:=h.rawCell 6;have z10:=h.rawCell 10;have z13:=h.rawCell 13;have z14:=h.rawCell 14;have z18:=h.rawCell 18;have z19:=h.rawCell 19;have z20:=h.rawCell 20;have z21:=h.rawCell 21;have z22:=h.rawCell 22;have z23:=h.rawCell 23;simp at z4 z6 z10 z13 z14 z18 z19 z20 z21 z22 z23;replace H:=hQd h;clear h))
 go_ret;exact⟨rfl,H.out.drop⟩
theorem zTh(k:Int)(v num:Int)(u:Bool)(cs:Bs)(bn:Bool)(bd:Bs)(bt bp be:Int)(ad:Bs)(ap ae:Int)(aq:Option Addr)(al:List (TopS×Value))(acap:Nat)(ed:Bs)(ep ee:Int)(ec:Bool)(mq:Option Addr)(ml:List MarkR)(mcap:Nat)(pn:Bool)(pd:Bs)(pa pt:Int)(pq:Option Addr)(pl:List PTop)(pcap:Nat)(g_cs:¬1000<(cs.length:Int))(g_bd:¬1000<(bd.length:Int))(g_ad:¬1000<(ad.length:Int))(g_ed:¬1000<(ed.length:Int))(r1:few (al.map (·.1))=1)(r2:zHC (ml.map MarkR.m)=0)(_:cs.length≤140737488351232)(_:bd.length≤140737488351232)(_:ad.length≤140737488351232)(_:ed.length≤140737488351232)(hal:al.length≤140737488351232)(hab:∀x∈al,x.1.name.length≤140737488351232∧x.1.parts.length≤17592186043904)(hml:ml.length≤140737488351232)(hmb:∀x∈ml,x.l.map (·.1)=x.m.tops∧x.l.length≤140737488351232∧∀y∈x.l,y.1.name.length≤140737488351232∧y.1.parts.length≤17592186043904)(hpd:pd.length≤140737488351232)(hpl:pl.length≤3518437208780)(hpf:∀x∈pl,FewT20 x)(k1:K.has (Know.tops (V aq al.length acap) al))(k2:K.has (Know.marks (V mq ml.length mcap) ml))(k3:K.has (Know.ptops (V pq pl.length pcap) pl))(h:St W0 w K L):
 Calls Jb 11 #[.agg #[I O k,I O v,I O num,U u,Z (bb cs),U bn,Z (bb bd),I O bt,I O bp,I O be,Z (bb ad),I O ap,I O ae,V aq al.length acap,Z (bb ed),I O ep,I O ee,U ec,V mq ml.length mcap,U pn,Z (bb pd),I O pa,I O pt,V pq pl.length pcap]] w fun en w'=>en=Y (I O 0)∧St W0 w' K L:=by
 obtain⟨ab,hab_⟩:=eX w.heap.size;have g1:=h.allocRaw #[I O k,I O v,I O num,U u,Z (bb cs),U bn,Z (bb bd),I O bt,I O bp,I O be,Z (bb ad),I O ap,I O ae,V aq al.length acap,Z (bb ed),I O ep,I O ee,U ec,V mq ml.length mcap,U pn,Z (bb pd),I O pa,I O pt,V pq pl.length pcap] 38;rw[hab_]at g1;have z4:=g1.rawCell 4;have z6:=g1.rawCell 6;have z10:=g1.rawCell 10;have z13:=g1.rawCell 13;have z14:=g1.rawCell 14;have z18:=g1.rawCell 18;have z19:=g1.rawCell 19;have z20:=g1.rawCell 20;have z21:=g1.rawCell 21;have z22:=g1.rawCell 22;have z23:=g1.rawCell 23;simp at z4 z6 z10 z13 z14 z18 z19 z20 z21 z22 z23;have H:=hQd g1;have HAL:=hQd hal;have HAB:=hQd hab;have HML:=hQd hml;have HMB:=hQd hmb;have HPD:=hQd hpd;have HPL:=hQd hpl;have HPF:=hQd hpf;have K1:=hQd k1;have K2:=hQd k2;have K3:=hQd k3;clear hal hab hml hmb hpd hpl hpf k1 k2 k3;have HR1:=hQd r1;have HR2:=hQd r2;clear r1 r2;clear h g1;go_enter Tryz.func11,Tryz.ntmps11
 go_wp2_with (first
  |(go_at_call 44;clear z4 z6 z10 z13 z14 z18 z19 z20 z21 z22 z23;(with_reducible refine(zDf al aq acap HAL.out HAB.out _ HR1.out K1.out H.out).mono ?_);rintro e_ wn ⟨rfl,h⟩;have z4:=h.rawCell 4;have z6:=h.rawCell 6;have z10:=h.rawCell 10;have z13:=h.rawCell 13;have z14:=h.rawCell 14;have z18:=h.rawCell 18;have z19:=h.rawCell 19;have z20:=h.rawCell 20;have z21:=h.rawCell 21;have z22:=h.rawCell 22;have z23:=h.rawCell 23;simp at z4 z6 z10 z13 z14 z18 z19 z20 z21 z22 z23;replace H:=hQd h;clear h)
  |(go_at_call 45;clear z4 z6 z10 z13 z14 z18 z19 z20 z21 z22 z23;(with_reducible refine(zKQ ml mq mcap HML.out HMB.out _ HR2.out K2.out H.out).mono ?_);rintro e_ wn ⟨rfl,h⟩;have z4:=h.rawCell 4;have z6:=h.rawCell 6;have z10:=h.rawCell 10;have z13:=h.rawCell 13;have z14:=h.rawCell 14;have z18:=h.rawCell 18;have z19:=h.rawCell 19;have z20:=h.rawCell 20;have z21:=h.rawCell 21;have z22:=h.rawCell 22;have z23:=h.rawCell 23;simp at z4 z6 z10 z13 z14 z18 z19 z20 z21 z22 z23;replace H:=hQd h;clear h))
 go_ret;exact⟨rfl,H.out.drop⟩
theorem zTg(k:Int)(v num:Int)(u:Bool)(cs:Bs)(bn:Bool)(bd:Bs)(bt bp be:Int)(ad:Bs)(ap ae:Int)(aq:Option Addr)(al:List (TopS×Value))(acap:Nat)(ed:Bs)(ep ee:Int)(ec:Bool)(mq:Option Addr)(ml:List MarkR)(mcap:Nat)(pn:Bool)(pd:Bs)(pa pt:Int)(pq:Option Addr)(pl:List PTop)(pcap:Nat)(g_cs:¬1000<(cs.length:Int))(g_bd:¬1000<(bd.length:Int))(g_ad:¬1000<(ad.length:Int))(g_ed:¬1000<(ed.length:Int))(r1:few (al.map (·.1))=1)(r2:zHC (ml.map MarkR.m)=1)(_:cs.length≤140737488351232)(_:bd.length≤140737488351232)(_:ad.length≤140737488351232)(_:ed.length≤140737488351232)(hal:al.length≤140737488351232)(hab:∀x∈al,x.1.name.length≤140737488351232∧x.1.parts.length≤17592186043904)(hml:ml.length≤140737488351232)(hmb:∀x∈ml,x.l.map (·.1)=x.m.tops∧x.l.length≤140737488351232∧∀y∈x.l,y.1.name.length≤140737488351232∧y.1.parts.length≤17592186043904)(hpd:pd.length≤140737488351232)(hpl:pl.length≤3518437208780)(hpf:∀x∈pl,FewT20 x)(k1:K.has (Know.tops (V aq al.length acap) al))(k2:K.has (Know.marks (V mq ml.length mcap) ml))(k3:K.has (Know.ptops (V pq pl.length pcap) pl))(h:St W0 w K L):
 Calls Jb 11 #[.agg #[I O k,I O v,I O num,U u,Z (bb cs),U bn,Z (bb bd),I O bt,I O bp,I O be,Z (bb ad),I O ap,I O ae,V aq al.length acap,Z (bb ed),I O ep,I O ee,U ec,V mq ml.length mcap,U pn,Z (bb pd),I O pa,I O pt,V pq pl.length pcap]] w fun en w'=>∃r:Int,en=Y (I O r)∧FewR pd.length pl r∧St W0 w' K L:=by
 obtain⟨ab,hab_⟩:=eX w.heap.size;have g1:=h.allocRaw #[I O k,I O v,I O num,U u,Z (bb cs),U bn,Z (bb bd),I O bt,I O bp,I O be,Z (bb ad),I O ap,I O ae,V aq al.length acap,Z (bb ed),I O ep,I O ee,U ec,V mq ml.length mcap,U pn,Z (bb pd),I O pa,I O pt,V pq pl.length pcap] 38;rw[hab_]at g1;have z4:=g1.rawCell 4;have z6:=g1.rawCell 6;have z10:=g1.rawCell 10;have z13:=g1.rawCell 13;have z14:=g1.rawCell 14;have z18:=g1.rawCell 18;have z19:=g1.rawCell 19;have z20:=g1.rawCell 20;have z21:=g1.rawCell 21;have z22:=g1.rawCell 22;have z23:=g1.rawCell 23;simp at z4 z6 z10 z13 z14 z18 z19 z20 z21 z22 z23;have H:=hQd g1;have HAL:=hQd hal;have HAB:=hQd hab;have HML:=hQd hml;have HMB:=hQd hmb;have HPD:=hQd hpd;have HPL:=hQd hpl;have HPF:=hQd hpf;have K1:=hQd k1;have K2:=hQd k2;have K3:=hQd k3;clear hal hab hml hmb hpd hpl hpf k1 k2 k3;have HR1:=hQd r1;have HR2:=hQd r2;clear r1 r2;clear h g1;go_enter Tryz.func11,Tryz.ntmps11
 go_upto_if 49 with (first
  |(go_at_call 44;clear z4 z6 z10 z13 z14 z18 z19 z20 z21 z22 z23;(with_reducible refine(zDf al aq acap HAL.out HAB.out _ HR1.out K1.out H.out).mono ?_);rintro e_ wn ⟨rfl,h⟩;have z4:=h.rawCell 4;have z6:=h.rawCell 6;have z10:=h.rawCell 10;have z13:=h.rawCell 13;have z14:=h.rawCell 14;have z18:=h.rawCell 18;have z19:=h.rawCell 19;have z20:=h.rawCell 20;have z21:=h.rawCell 21;have z22:=h.rawCell 22;have z23:=h.rawCell 23;simp at z4 z6 z10 z13 z14 z18 z19 z20 z21 z22 z23;replace H:=hQd h;clear h)
  |(go_at_call 45;clear z4 z6 z10 z13 z14 z18 z19 z20 z21 z22 z23;(with_reducible refine(zKQ ml mq mcap HML.out HMB.out _ HR2.out K2.out H.out).mono ?_);rintro e_ wn ⟨rfl,h⟩;have z4:=h.rawCell 4;have z6:=h.rawCell 6;have z10:=h.rawCell 10;have z13:=h.rawCell 13;have z14:=h.rawCell 14;have z18:=h.rawCell 18;have z19:=h.rawCell 19;have z20:=h.rawCell 20;have z21:=h.rawCell 21;have z22:=h.rawCell 22;have z23:=h.rawCell 23;simp at z4 z6 z10 z13 z14 z18 z19 z20 z21 z22 z23;replace H:=hQd h;clear h)
  |(go_at_call 46;clear z4 z6 z10 z13 z14 z18 z19 z20 z21 z22 z23;(with_reducible refine(few20 pn pd pa pt pl pq pcap HPD.out HPL.out HPF.out K3.out H.out).mono ?_);rintro e_ wn ⟨r3,rfl,hr3,h⟩;have HR3:=hQd hr3;clear hr3;have z4:=h.rawCell 4;have z6:=h.rawCell 6;have z10:=h.rawCell 10;have z13:=h.rawCell 13;have z14:=h.rawCell 14;have z18:=h.rawCell 18;have z19:=h.rawCell 19;have z20:=h.rawCell 20;have z21:=h.rawCell 21;have z22:=h.rawCell 22;have z23:=h.rawCell 23;simp at z4 z6 z10 z13 z14 z18 z19 z20 z21 z22 z23;replace H:=hQd h;clear h))
 have hr3:=HR3.out
 rcases hr3 with h0|⟨h0,h1⟩
 ·subst h0;go_wp2;go_ret;exact⟨0,rfl,HR3.out,H.out.drop⟩
 ·subst h0;go_wp2;go_ret;exact⟨1,rfl,HR3.out,H.out.drop⟩
theorem zEi(n:Int)(k:Nat)(h1:1≤k)(hf:fits n k)(R:Bs):zAJ k (zAa n k++R)=.ok (n,k):=by
 unfold zAJ;have h4:=zAb n k;have hfit:=hf.2.2;rw[Int.toNat_natCast]at hfit;have h5:=(zAB n k h1).2 hfit;rw[if_neg zq40,List.take_append_of_le_length oM,List.take_of_length_le oM,h5]
theorem zCD(each n:Nat)(X:Bs)(he:0<each)(hn:n<2147483648)(hl:each*n≤X.length):cntP each (zAa n 4++X)=.ok (n,4):=by
 have h4:=zAb (n:Int) 4;have h5:sInt (zAa (n:Int) 4)=n:=(zAB n 4 dD).2 (zC1 n oM).2.2;have h6:(zAa (n:Int) 4++X).take 4=zAa (n:Int) 4:=by rw[List.take_append_of_le_length oM,List.take_of_length_le oM]
 unfold cntP
 rw[h6,h5,if_neg zq40,if_neg oM,if_neg (by
  rw[Jc,h4];have e:((4+X.length:Nat):Int) - 4=(X.length:Int):=by omega
  rw[e]
  have h7:(n:Int)≤(X.length:Int) / (each:Int):=by
   rw[Int.le_ediv_iff_mul_le oM];have h8:(n:Int)*(each:Int)=((each*n:Nat):Int):=by rw[Nat.mul_comm];exact(Int.natCast_mul _ _).symm
   omega
  omega)]
 simp
theorem zIb:∀(l:List Int) (R:Bs),(∀n∈l,-2147483648≤n∧n<2147483648)→zKT l.length (be4s l++R)=l
 |[],R,_=>rfl
 |n::l,R,h=>by
  have h4:=zAb n 4;have h5:sInt (zAa n 4)=n:=(zAB n 4 dD).2 (zC1 n (h n sM)).2.2
  have e:be4s (n::l)++R=zAa n 4++(be4s l++R):=by
   show(List.flatMap _ (n::l))++R=_
   rw[Jg,Je]
   rfl
  show sInt ((be4s (n::l)++R).take 4)::zKT l.length ((be4s (n::l)++R).drop 4)=n::l
  rw[e,List.take_append_of_le_length oM,List.take_of_length_le oM,h5,List.drop_append_of_le_length oM,List.drop_of_length_le oM,List.nil_append,zIb l R (fun m hm=>h m (by simp[hm]))]
theorem zMx(l:List Int)(hn:l.length≤1000000)(h:∀n∈l,-2147483648≤n∧n<2147483648)(R:Bs):zFw (zAa l.length 4++be4s l++R)=.ok (l,(zAa l.length 4++be4s l).length):=by
 unfold zFw;rw[Je,zCD 4 l.length _ dD oM (by rw[Jc,zEJ];omega)];simp only;have h4:=zAb (l.length:Int) 4;rw[List.drop_append_of_le_length oM,List.drop_of_length_le oM,List.nil_append,zIb l R h,Jc,h4,zEJ]
theorem zEY(d:Bs)(hd:d.length≤32767)(R:Bs):zF4 (encF 2 ⟨false,d⟩++R)=.ok (d,(encF 2 ⟨false,d⟩).length):=by
 unfold zF4;rw[zA4 2 ⟨false,d⟩ (by simp[BlobS.right]) (zC2 _ (by simp[BlobS.len];omega)) R]
 simp
theorem zPn(t:TopS)(h:t.Fit)(R:Bs):topP (encT t++R)=.ok (t,(encT t).length):=by
 obtain⟨nm,ps⟩:=t;obtain⟨h1,h2,h3⟩:=h;unfold topP encT;simp only;rw[Je,zEY nm h1];simp only;rw[List.drop_append_of_le_length oM,List.drop_of_length_le oM,List.nil_append,zMx ps h2 h3];simp only[Jc]
theorem zJZ:∀(l:List TopS) (R:Bs),(∀t∈l,t.Fit)→topN l.length (l.flatMap encT++R)=.ok (l,(l.flatMap encT).length)
 |[],R,_=>rfl
 |t::l,R,h=>by
  have e:(t::l).flatMap encT++R=encT t++(l.flatMap encT++R):=by rw[Jg,Je]
  rw[e]
  show topN (l.length+1) (encT t++(l.flatMap encT++R))=_
  unfold topN;rw[zPn t (h t sM)];simp only;rw[List.drop_append_of_le_length oM,List.drop_of_length_le oM,List.nil_append,zJZ l R (fun m hm=>h m (by simp[hm]))];simp only[Jg,Jc]
theorem zOI(l:List TopS):6*l.length≤(l.flatMap encT).length:=by
 induction l with
 |nil=>simp
 |cons x m ih=>rw[Jg,Jc,Jn,zJs];omega
theorem zN1(l:List TopS)(h:zC7 l)(R:Bs):zPk (zA3 l++R)=.ok (l,(zA3 l).length):=by
 have h4:=zAb (l.length:Int) 4;have hn:=h.1;have hl:=zOI l;unfold zPk zA3;rw[Je,zCD 6 l.length _ dD oM zq40];simp only;rw[List.drop_append_of_le_length oM,List.drop_of_length_le oM,List.nil_append,zJZ l R h.2];simp only[Jc,h4]
theorem zB9{α:Type}{f:InS→α×InS}{p:Bs→Except Int (α×Nat)}{d:α}(h:Rds f p d)(S A X R:Bs)(hS:S=A++X++R)(a:α)(k:Nat)(hk:X.length=k)(hp:p (X++R)=.ok (a,k)):f ⟨S,A.length,0⟩=(a,⟨S,(A++X).length,0⟩):=by
 subst hS;have h2:=(h.ok (A++X++R) A.length a k sM (by rw[Je,List.drop_append_of_le_length oM,List.drop_of_length_le oM,List.nil_append];exact hp)).2;rw[h2,Jc,hk]
theorem zAG(S A R:Bs)(n:Int)(k:Nat)(h1:1≤k)(h8:k≤8)(hf:fits n k)(hS:S=A++zAa n k++R):(⟨S,A.length,0⟩:InS).int k=(n,⟨S,(A++zAa n k).length,0⟩):=
 zB9 (zAW k h1 h8) S A _ R hS n k (zAb n k) (zEi n k h1 hf R)
theorem zSQ{p e:Int}(h:was 0 p e=true):p= -1∧e= -1:=by
 unfold was at h;rw[Bool.or_eq_true,Bool.and_eq_true,Bool.and_eq_true,beq_iff_eq,beq_iff_eq]at h
 rcases h with h|⟨h1,_⟩
 ·exact h
 ·simp at h1
theorem zJt(c:Bool):(encO c).length=1:=rfl
theorem zQK(c:Bool):encO c=zAa (if c then 1 else 0) 1:=by cases c<;>rfl
theorem zGP(S A R:Bs)(nl:Bool)(d:Bs)(h:idOk nl d=true)(hS:S=A++encF 2 ⟨nl,d⟩++R):(⟨S,A.length,0⟩:InS).fixed 2=(⟨nl,d⟩,⟨S,(A++encF 2 ⟨nl,d⟩).length,0⟩):=by
 obtain⟨_,h2,h3⟩:=zEt h;exact zB9 (zAN 2 dD dD) S A _ R hS ⟨nl,d⟩ _ rfl (zA4 2 ⟨nl,d⟩ h2 h3 R)
theorem zHN(S A R:Bs)(d:Bs)(h:d.length≤32767)(hS:S=A++encF 2 ⟨false,d⟩++R):(⟨S,A.length,0⟩:InS).text=(d,⟨S,(A++encF 2 ⟨false,d⟩).length,0⟩):=
 zB9 zCO S A _ R hS d _ rfl (zEY d h R)
theorem zHL(S A R:Bs)(l:List TopS)(h:zC7 l)(hS:S=A++zA3 l++R):(⟨S,A.length,0⟩:InS).tops=(l,⟨S,(A++zA3 l).length,0⟩):=
 zB9 zRF S A _ R hS l _ rfl (zN1 l h R)
theorem zIm(S A R:Bs)(c:Bool)(hS:S=A++encO c++R):(⟨S,A.length,0⟩:InS).boolP=(c,⟨S,(A++encO c).length,0⟩):=by
 have h:=zAG S A R (if c then 1 else 0) 1 dD dD (vfits1 _ (by cases c<;>decide)) (by rw[←zQK];exact hS);have h2:(⟨S,A.length,0⟩:InS).int 1=(if c then 1 else 0,⟨S,(A++encO c).length,0⟩):=by rw[zQK];exact h
 unfold InS.boolP;rw[h2]
 cases c<;>rfl
theorem Rds.back{α:Type}{f:InS→α×InS}{p:Bs→Except Int (α×Nat)}{d:α}(h:Rds f p d){i j:InS}{a:α}(hf:f i=(a,j))(he:j.err=0):i.err=0:=by
 by_cases h0:i.err=0
 ·exact h0
 ·exfalso
  rw[h.stuck i h0]at hf
  cases hf
  exact h0 he
def InS.mark1 (v:Int) (i:InS):MarkS×InS:=
 let a:=i.int 8
 let b:=a.2.int 2
 let c:=b.2.boolP
 let t:=c.2.tops
 if v=1 then(⟨a.1,b.1,c.1,t.1,(t.2.int 4).1⟩,(t.2.int 4).2)else(⟨a.1,b.1,c.1,t.1,0⟩,t.2)
def InS.marksN (v:Int):Nat→List MarkS→InS→List MarkS×InS
 |0,acc,i=>(acc,i)
 |n+1,acc,i=>if (i.mark1 v).2.err=0 then InS.marksN v n (acc++[(i.mark1 v).1]) (i.mark1 v).2 else([],(i.mark1 v).2)
def InS.marks (v:Int) (i:InS):List MarkS×InS:=
 let r:=InS.marksN v (i.cnt 15).1 [] (i.cnt 15).2
 if r.2.err=0 then(if zAE v r.1=0 then r else([],r.2.fail (zAE v r.1)))else([],r.2)
theorem zq41{p:Prop}(h:p:=by rw[hS];simp only[Je];rfl):p:=h
theorem zOB(S A R:Bs)(v:Int)(m:MarkS)(hv:v=0∨v=1)(he:m.err v=0)(hR:m.R)(hf:zC7 m.tops)(hS:S=A++encM v m++R):(⟨S,A.length,0⟩:InS).mark1 v=(m,⟨S,(A++encM v m).length,0⟩):=by
 obtain⟨p,e,c,tl,co⟩:=m;obtain⟨hw,hco,hvc,_⟩:=zJe (show mErr v p e tl co=0 from he);have hwt:=zDR hw;have hp:=hR.1;simp only at hp hf;unfold encM at hS ⊢;simp only at hS ⊢;have a:=zAG S A (zAa e 2++encO c++zA3 tl++(if v=1 then zAa co (4:Int).toNat else[])++R) p 8 dD dD (zFs p oM) zq41;have b:=zAG S (A++zAa p 8) (encO c++zA3 tl++(if v=1 then zAa co (4:Int).toNat else[])++R) e 2 dD dD (zC2 e oM) zq41;have d:=zIm S (A++zAa p 8++zAa e 2) (zA3 tl++(if v=1 then zAa co (4:Int).toNat else[])++R) c zq41;have f:=zHL S (A++zAa p 8++zAa e 2++encO c) ((if v=1 then zAa co (4:Int).toNat else[])++R) tl hf zq41;unfold InS.mark1;rw[show((⟨S,A.length,0⟩:InS).int 8)=_ from a];simp only;rw[show((⟨S,(A++zAa p 8).length,0⟩:InS).int 2)=_ from b];simp only;rw[d];simp only;rw[f];simp only
 rcases hv with rfl|rfl
 ·have h0:co=0:=by
   by_cases h:co=0
   ·exact h
   ·exact absurd ⟨rfl,h⟩ hvc
  subst h0;rw[if_neg dD,if_neg dD,Jp];simp only[Je]
  rfl
 ·rw[if_pos rfl,if_pos rfl]at*;have g:=zAG S (A++zAa p 8++zAa e 2++encO c++zA3 tl) R co 4 dD dD (zC1 co oM) zq41;rw[show((⟨S,(A++zAa p 8++zAa e 2++encO c++zA3 tl).length,0⟩:InS).int 4)=_ from g];simp only[Je]
  rfl
theorem zGG(S:Bs)(v:Int)(hv:v=0∨v=1):∀(l:List MarkS) (A R:Bs) (acc:List MarkS),(∀m∈l,m.err v=0∧m.R∧zC7 m.tops)→S=A++l.flatMap (encM v)++R→InS.marksN v l.length acc ⟨S,A.length,0⟩=(acc++l,⟨S,(A++l.flatMap (encM v)).length,0⟩)
 |[],A,R,acc,_,_=>by
  rw[List.flatMap_nil,Jp,Jp]
  rfl
 |m::t,A,R,acc,h,hS=>by
  have hm:=h m sM;have s1:=zOB S A (t.flatMap (encM v)++R) v m hv hm.1 hm.2.1 hm.2.2 (by rw[hS,Jg];simp only[Je]);have s2:=zGG S v hv t (A++encM v m) R (acc++[m]) (fun x hx=>h x (by simp[hx])) (by rw[hS,Jg];simp only[Je])
  show(if ((⟨S,A.length,0⟩:InS).mark1 v).2.err=0 then InS.marksN v t.length (acc++[((⟨S,A.length,0⟩:InS).mark1 v).1]) ((⟨S,A.length,0⟩:InS).mark1 v).2 else([],((⟨S,A.length,0⟩:InS).mark1 v).2))=_
  rw[s1];simp only;rw[if_pos trivial,s2,Jg];simp only[Je,List.singleton_append]
theorem zOR(v:Int)(m:MarkS):15≤(encM v m).length:=by
 have h8:=zAb m.prod (8:Int).toNat;have h2:=zAb m.epoch (2:Int).toNat;have h4:=zAb (m.tops.length:Int) 4;have h1:=zJt m.commit;unfold encM zA3;rw[Jc,Jc,Jc,Jc,Jc,h8,h2,h4,h1]
 show 15≤8+2+1+(4+_)+_
 omega
theorem zMQ(v:Int)(l:List MarkS):15*l.length≤(l.flatMap (encM v)).length:=by
 induction l with
 |nil=>simp
 |cons x t ih=>have:=zOR v x;rw[Jg,Jc,Jn];omega
def InS.On (s:Bs) (i:InS):Prop:=(i.err≠0∧i.s=s)∨∃p,p≤s.length∧i=⟨s,p,0⟩
def Got (s:Bs) (i j:InS) (x:Bs):Prop:=j.On s∧(j.err=0→∃p q,i=⟨s,p,0⟩∧j=⟨s,q,0⟩∧p≤q∧q≤s.length∧s.take p++x=s.take q)
theorem Got.trans{s:Bs}{i j k:InS}{x y:Bs}(h1:Got s i j x)(h2:Got s j k y):Got s i k (x++y):=by
 refine⟨h2.1,fun h0=> ?_⟩;obtain⟨p,q,rfl,rfl,g1,g2,g3⟩:=h2.2 h0;obtain⟨p',q',rfl,e,f1,f2,f3⟩:=h1.2 rfl;obtain rfl:p=q':=(InS.mk.inj e).2.1;exact⟨p',q,rfl,rfl,oM,g2,by rw[←Je,f3,g3]⟩
theorem Got.zero{s:Bs}{i j:InS}{x:Bs}(h:Got s i j x)(h0:j.err=0):i.err=0:=by
 obtain⟨p,q,rfl,_⟩:=h.2 h0
 rfl
theorem Got.len{s:Bs}{i j:InS}{x:Bs}(h:Got s i j x)(h0:j.err=0):x.length≤s.length:=by
 obtain⟨p,q,_,_,g1,g2,g3⟩:=h.2 h0;have:=congrArg List.length g3;rw[Jc,List.length_take,List.length_take]at this
 omega
theorem On.text{s:Bs}{i:InS}(h:i.On s):i.s=s:=by
 rcases h with h|⟨p,_,rfl⟩
 ·exact h.2
 ·rfl
theorem On.zero{s:Bs}{i:InS}(h:i.On s)(h0:i.err=0):∃p,p≤s.length∧i=⟨s,p,0⟩:=by
 rcases h with h|h
 ·exact absurd h0 h.1
 ·exact h
abbrev zRg:=Int×List BatS
abbrev TopV:=Bs×List zRg
theorem zNR:∀(f:Nat) (s:Bs) (e:Int),zDM f s=.error e→e≠0
 |0,s,e,h=>by cases h
 |f+1,s,e,h=>by
  have h:(if s=[]then Except.ok []else match zBI s with
   | .error e=>Except.error e
   | .ok y=>zFJ y.1 (zDM f (s.drop y.2)))=.error e:=h
  by_cases c:s=[]
  ·rw[if_pos c]at h;cases h
  ·rw[if_neg c]at h
   cases hr:zBI s with
   |error e2=>rw[hr]at h;cases h;exact zNq hr
   |ok y=>
    rw[hr]at h;have h:zFJ y.1 (zDM f (s.drop y.2))=.error e:=h
    cases ht:zDM f (s.drop y.2)with
    |error e2=>rw[ht]at h;have h:Except.error e2=Except.error e:=h;cases h;exact zNR f _ e ht
    |ok t=>rw[ht]at h;cases h
theorem zSr{s:Bs}{e:Int}(h:zCt s=.error e):e≠0:=zNR _ _ _ h
def zEp (s:Bs):Except Int (zRg×Nat):=
  if s.length<4 then .error 1 else match zAI 4 (s.drop 4)with
  | .error e=> .error e
  | .ok x=>if x.1.null then .error 4 else match zCt x.1.data with
    | .error e=> .error e
    | .ok l=> .ok ((sInt (s.take 4),l),4+x.2)
def zDe:Nat→Bs→Except Int (List zRg×Nat)
  |0,_=> .ok ([],0)
  |n+1,s=>match zEp s with
    | .error e=> .error e
    | .ok x=>match zDe n (s.drop x.2)with
      | .error e=> .error e
      | .ok y=> .ok (x.1::y.1,x.2+y.2)
def zIX (s:Bs):Except Int (TopV×Nat):=match zF4 s with
  | .error e=> .error e
  | .ok x=>match cntP 8 (s.drop x.2)with
    | .error e=> .error e
    | .ok n=>match zDe n.1 (s.drop (x.2+4))with
      | .error e=> .error e
      | .ok y=> .ok ((x.1,y.1),x.2+4+y.2)
def zIY:Nat→Bs→Except Int (List TopV×Nat)
  |0,_=> .ok ([],0)
  |n+1,s=>match zIX s with
    | .error e=> .error e
    | .ok x=>match zIY n (s.drop x.2)with
      | .error e=> .error e
      | .ok y=> .ok (x.1::y.1,x.2+y.2)
def preqP (s:Bs):Except Int ((BlobS×Int×Int×List TopV)×Nat):=match zAI 2 s with
  | .error e=> .error e
  | .ok b=>if (s.drop b.2).length<6 then .error 1 else match cntP 6 (s.drop (b.2+6))with
    | .error e=> .error e
    | .ok n=>match zIY n.1 (s.drop (b.2+10))with
      | .error e=> .error e
      | .ok y=> .ok ((b.1,sInt ((s.drop b.2).take 2),sInt ((s.drop (b.2+2)).take 4),y.1),b.2+10+y.2)
theorem zIL{k:Nat}{s:Bs}{x:BlobS×Nat}(h:zAI k s=.ok x)(hn:x.1.null=true):x.1.data=[]:=by
 exact zq23
theorem ppartA{s:Bs}{pos:Nat}{x:zRg}{m:Nat}(hp:pos≤s.length)(h:zEp (s.drop pos)=.ok (x,m)):pos+m≤s.length∧(⟨s,pos,0⟩:InS).ppart=(x,⟨s,pos+m,0⟩):=by
 unfold zEp at h
 by_cases h4:(s.drop pos).length<4
 ·rw[if_pos h4]at h;cases h
 rw[if_neg h4]at h;obtain⟨g1,g2⟩:=zGM s pos hp oM;rw[Jk]at h
 cases hr:zAI 4 (s.drop (pos+4))with
 |error e=>rw[hr]at h;cases h
 |ok b=>
  rw[hr]at h;obtain⟨g3,g4⟩:=(zAN 4 dD dD).ok s (pos+4) b.1 b.2 g1 hr;have g4:(⟨s,pos+4,0⟩:InS).fixed 4=(b.1,⟨s,pos+4+b.2,0⟩):=g4
  (try simp only at h)
  cases hn:b.1.null with
  |true=>rw[hn,if_pos rfl]at h;cases h
  |false=>
   rw[hn,if_neg dD]at h
   cases hb:zCt b.1.data with
   |error e=>rw[hb]at h;cases h
   |ok l=>
    rw[hb]at h
    cases h
    refine⟨oM,?_⟩;unfold InS.ppart;simp only[g2,g4,hn,hb];rw[Jm]
    rfl
theorem ppartB{s:Bs}{pos:Nat}{e:Int}(hp:pos≤s.length)(h:zEp (s.drop pos)=.error e):e≠0∧∃q,q≤s.length∧(⟨s,pos,0⟩:InS).ppart.2=⟨s,q,e⟩:=by
 unfold zEp at h
 by_cases h4:(s.drop pos).length<4
 ·rw[if_pos h4]at h
  cases h
  obtain⟨q,g1,g2⟩:=zIc s pos hp h4;have g3:(⟨s,q,1⟩:InS).fixed 4=(⟨false,[]⟩,⟨s,q,1⟩):=(zAN 4 dD dD).stuck ⟨s,q,1⟩ (by show(1:Int)≠0;decide);refine⟨dD,q,g1,?_⟩;unfold InS.ppart;simp only[g2,g3,zEK]
  rfl
 rw[if_neg h4]at h;obtain⟨g1,g2⟩:=zGM s pos hp oM;rw[Jk]at h
 cases hr:zAI 4 (s.drop (pos+4))with
 |error e2=>
  rw[hr]at h
  cases h
  obtain⟨g3,q,g4,g5⟩:=(zAN 4 dD dD).err s (pos+4) e g1 hr;refine⟨g3,q,g4,?_⟩;have g5:(⟨s,pos+4,0⟩:InS).fixed 4=(⟨false,[]⟩,⟨s,q,e⟩):=g5;unfold InS.ppart;simp only[g2,g5,zEK]
  rfl
 |ok b=>
  rw[hr]at h;obtain⟨g3,g4⟩:=(zAN 4 dD dD).ok s (pos+4) b.1 b.2 g1 hr;have g4:(⟨s,pos+4,0⟩:InS).fixed 4=(b.1,⟨s,pos+4+b.2,0⟩):=g4
  (try simp only at h)
  cases hn:b.1.null with
  |true=>
   rw[hn,if_pos rfl]at h
   cases h
   refine⟨dD,pos+4+b.2,g3,?_⟩;unfold InS.ppart;simp only[g2,g4,hn,if_true,zIL hr hn,zEK]
   rfl
  |false=>
   rw[hn,if_neg dD]at h
   cases hb:zCt b.1.data with
   |error e2=>
    rw[hb]at h
    cases h
    refine⟨zSr hb,pos+4+b.2,g3,?_⟩;unfold InS.ppart;simp only[g2,g4,hn,hb]
    rfl
   |ok l=>rw[hb]at h;cases h
theorem zFa:∀(n:Nat) (acc:List zRg) (s:Bs) (pos:Nat),pos≤s.length→
 (∀t k,zDe n (s.drop pos)=.ok (t,k)→pos+k≤s.length∧InS.ppartsN n acc ⟨s,pos,0⟩=(acc++t,⟨s,pos+k,0⟩))∧
 (∀e,zDe n (s.drop pos)=.error e→e≠0∧∃q,q≤s.length∧InS.ppartsN n acc ⟨s,pos,0⟩=([],⟨s,q,e⟩))
 |0,acc,s,pos,hp=>⟨fun t k h=>(by cases h;simp[InS.ppartsN];exact hp),fun e h=>(by cases h)⟩
 |n+1,acc,s,pos,hp=>by
  unfold zDe InS.ppartsN
  cases h1:zEp (s.drop pos)with
  |error e1=>
   refine⟨fun t k h=>(by cases h),fun e h=> ?_⟩
   cases h
   obtain⟨g1,q,g2,g3⟩:=ppartB hp h1;refine⟨g1,q,g2,?_⟩;rw[g3,if_neg g1]
  |ok x=>
   obtain⟨g1,g2⟩:=ppartA hp h1;have ih:=zFa n (acc++[x.1]) s (pos+x.2) g1;rw[g2];simp only[if_true];rw[Jk];refine⟨fun t k h=> ?_,fun e h=> ?_⟩
   ·cases h2:zDe n (s.drop (pos+x.2))with
    |error e2=>rw[h2]at h;cases h
    |ok y=>
     exact zq17
   ·cases h2:zDe n (s.drop (pos+x.2))with
    |error e2=>
     rw[h2]at h
     cases h
     exact ih.2 e h2
    |ok y=>rw[h2]at h;cases h
theorem ptopA{s:Bs}{pos:Nat}{x:TopV}{m:Nat}(hp:pos≤s.length)(h:zIX (s.drop pos)=.ok (x,m)):pos+m≤s.length∧(⟨s,pos,0⟩:InS).ptop=(x,⟨s,pos+m,0⟩):=by
 unfold zIX at h
 cases h1:zF4 (s.drop pos)with
 |error e1=>rw[h1]at h;cases h
 |ok t=>
  rw[h1]at h;obtain⟨g1,g2⟩:=zCO.ok s pos t.1 t.2 hp h1;simp only[Jk]at h
  cases h2:cntP 8 (s.drop (pos+t.2))with
  |error e2=>rw[h2]at h;cases h
  |ok c=>
   rw[h2]at h;obtain⟨g3,g4⟩:=(zBq 8 dD).ok s (pos+t.2) c.1 c.2 g1 h2;obtain⟨c1,_,_,_⟩:=zG8 dD h2;have g4:(⟨s,pos+t.2,0⟩:InS).cnt 8=(c.1,⟨s,pos+t.2+c.2,0⟩):=g4
   (try simp only at h)
   rw[c1]at g3 g4
   cases h3:zDe c.1 (s.drop (pos+(t.2+4)))with
   |error e3=>rw[h3]at h;cases h
   |ok y=>
    rw[h3]at h
    cases h
    rw[←Jm]at h3;obtain⟨a,b⟩:=(zFa c.1 [] s (pos+t.2+4) g3).1 y.1 y.2 h3;refine⟨oM,?_⟩;unfold InS.ptop;rw[g2];simp only[g4,b,List.nil_append];rw[show pos+(t.2+4+y.2)=pos+t.2+4+y.2 by omega]
theorem ptopB{s:Bs}{pos:Nat}{e:Int}(hp:pos≤s.length)(h:zIX (s.drop pos)=.error e):e≠0∧∃q,q≤s.length∧(⟨s,pos,0⟩:InS).ptop.2=⟨s,q,e⟩:=by
 unfold zIX at h
 cases h1:zF4 (s.drop pos)with
 |error e1=>
  rw[h1]at h
  cases h
  obtain⟨g1,q,g2,g3⟩:=zCO.err s pos e hp h1;have g4:(⟨s,q,e⟩:InS).cnt 8=(0,⟨s,q,e⟩):=(zBq 8 dD).stuck ⟨s,q,e⟩ g1;refine⟨g1,q,g2,?_⟩;unfold InS.ptop;rw[g3];simp only[g4]
  rfl
 |ok t=>
  rw[h1]at h;obtain⟨g1,g2⟩:=zCO.ok s pos t.1 t.2 hp h1;simp only[Jk]at h
  cases h2:cntP 8 (s.drop (pos+t.2))with
  |error e2=>
   rw[h2]at h
   cases h
   obtain⟨g3,q,g4,g5⟩:=(zBq 8 dD).err s (pos+t.2) e g1 h2;have g5:(⟨s,pos+t.2,0⟩:InS).cnt 8=(0,⟨s,q,e⟩):=g5;refine⟨g3,q,g4,?_⟩;unfold InS.ptop;rw[g2];simp only[g5]
   rfl
  |ok c=>
   rw[h2]at h;obtain⟨g3,g4⟩:=(zBq 8 dD).ok s (pos+t.2) c.1 c.2 g1 h2;obtain⟨c1,_,_,_⟩:=zG8 dD h2;have g4:(⟨s,pos+t.2,0⟩:InS).cnt 8=(c.1,⟨s,pos+t.2+c.2,0⟩):=g4
   (try simp only at h)
   rw[c1]at g3 g4
   cases h3:zDe c.1 (s.drop (pos+(t.2+4)))with
   |error e3=>
    rw[h3]at h
    cases h
    rw[←Jm]at h3;obtain⟨g5,q,g6,g7⟩:=(zFa c.1 [] s (pos+t.2+4) g3).2 e h3;refine⟨g5,q,g6,?_⟩;unfold InS.ptop;rw[g2];simp only[g4,g7]
   |ok y=>rw[h3]at h;cases h
theorem zKG:∀(n:Nat) (acc:List TopV) (s:Bs) (pos:Nat),pos≤s.length→
 (∀t k,zIY n (s.drop pos)=.ok (t,k)→pos+k≤s.length∧InS.ptopsN n acc ⟨s,pos,0⟩=(acc++t,⟨s,pos+k,0⟩))∧
 (∀e,zIY n (s.drop pos)=.error e→e≠0∧∃q,q≤s.length∧InS.ptopsN n acc ⟨s,pos,0⟩=([],⟨s,q,e⟩))
 |0,acc,s,pos,hp=>⟨fun t k h=>(by cases h;simp[InS.ptopsN];exact hp),fun e h=>(by cases h)⟩
 |n+1,acc,s,pos,hp=>by
  unfold zIY InS.ptopsN
  cases h1:zIX (s.drop pos)with
  |error e1=>
   refine⟨fun t k h=>(by cases h),fun e h=> ?_⟩
   cases h
   obtain⟨g1,q,g2,g3⟩:=ptopB hp h1;refine⟨g1,q,g2,?_⟩;rw[g3,if_neg g1]
  |ok x=>
   obtain⟨g1,g2⟩:=ptopA hp h1;have ih:=zKG n (acc++[x.1]) s (pos+x.2) g1;rw[g2];simp only[if_true];rw[Jk];refine⟨fun t k h=> ?_,fun e h=> ?_⟩
   ·cases h2:zIY n (s.drop (pos+x.2))with
    |error e2=>rw[h2]at h;cases h
    |ok y=>
     exact zq17
   ·cases h2:zIY n (s.drop (pos+x.2))with
    |error e2=>
     rw[h2]at h
     cases h
     exact ih.2 e h2
    |ok y=>rw[h2]at h;cases h
def ReqI (i:InS) (b:BlobS) (ac tm:Int) (ts:List TopV) (j:InS):Prop:=
 ∃(i1 i2 i3 c:InS) (n:Nat),i.fixed 2=(b,i1)∧i1.int 2=(ac,i2)∧i2.int 4=(tm,i3)∧i3.cnt 6=(n,c)∧InS.ptopsN n [] c=(ts,j)
set_option maxHeartbeats 8000000
theorem zRH(po:Nat)(e e2:Bs)(idx:Int)(l:List BatR)(q:Option Addr)(cap:Nat)(hp:PutP ⟨idx,l,q,cap⟩)(he:e++zAv ⟨idx,l,q,cap⟩=e2)(hel:e.length≤10000000){W0 w:World}{K:Know}{L:List Res}(hk:K.has (Know.bats (V q l.length cap) l))(h:St W0 w K (.out po ⟨e,0⟩::L)):
 Calls Jb 153 #[zAc po,.agg #[I O idx,V q l.length cap]] w fun en w'=>en=Y (.tuple #[])∧St W0 w' K (.out po ⟨e2,0⟩::L):=by
 obtain⟨rb,hrb⟩:=eX w.heap.size;have g1:=(h.allocRaw #[I O idx,V q l.length cap] 181).p1;rw[hrb]at g1;obtain⟨y0,y1⟩:=uR2 g1.p1;simp at y0 y1;obtain⟨s,hs⟩:=eX (encB l);obtain⟨e1,he1⟩:=eX (e++zAa idx (4:Int).toNat);have hsl:s.length≤280000:=by rw[←hs];exact hp.len
 have H:=hQd g1;have HK:=hQd hk;have HSE:=hQd (show allB l=(s,0) by rw[zLD hp.err,hs]);have HFT:=hQd (show ∀x∈l,x.Fit from hp.fit);have HSM:=hQd (show ∀x∈l,zBj (x.l.map (·.1))=true from hp.small);have HLL:=hQd (show l.length≤20 from hp.few);have HE1:=hQd he1;have HF4:=hQd (zC3 idx (by have h1:0≤idx∧idx≤2147483647:=hp.idx;omega));have HR8:=hQd (show -9223372036854775808≤idx∧idx<9223372036854775808 by have h1:0≤idx∧idx≤2147483647:=hp.idx;omega);have HL0:=hQd (show e.length≤100000000000000 by omega);have HL1:=hQd (show e1.length≤100000000000000 by rw[←he1,Jc,zAb];show e.length+4≤_;omega)
 have HE2:=hQd (show e1++encF 4 ⟨false,s⟩=e2 by
  rw[←he1,←he,Je,←hs]
  rfl)
 have HSL:=hQd (show s.length≤100000000 by omega);clear h g1 hk hp he he1 hel hs hsl;go_enter Tryz.func153,Tryz.ntmps153
 go_wp2_with (first
  |(go_at_call 208;clear y0 y1;(with_reducible refine(zRb l q cap s 0 HSE.out HFT.out HSM.out HLL.out HK.out H.out).mono ?_);rintro e_ wn ⟨rfl,h⟩;obtain⟨y0,y1⟩:=uR2 h.p1;simp at y0 y1;replace H:=hQd h;clear h)
  |(go_at_call 50;(with_reducible refine(zE9 po e e1 idx 4 HE1.out HF4.out HR8.out HL0.out H.out).zM ?_);clear H;intro wn H)
  |(go_at_call 144;(with_reducible refine(zNw s H.out).zM ?_);clear H;intro wn H)
  |(go_at_call 96;(with_reducible refine(zKJ po e1 e2 s HE2.out HSL.out HL1.out H.out).zM ?_);clear H;intro wn H))
 go_end0;exact⟨rfl,H.out.p1.drop⟩
variable {W0 w:World}{K:Know}{L:List Res}
theorem zHz(po:Nat)(o:Bs)(nl:Bool)(dd:Bs)(ac tm v:Int)(l:List PTop)(q:Option Addr)(cap:Nat)(hdd:dd.length≤140737488355328)(hf:∀x∈l,CkT x)(hll:l.length≤4398046511104)(e:Int)(he:zA9 ⟨nl,dd⟩ ac tm v l=e)(h0:e≠0)(hk:K.has (Know.ptops (V q l.length cap) l))(h:St W0 w K (.out po ⟨o,0⟩::L)):
 Calls Jb 97 #[.agg #[U nl,Z (bb dd),I O ac,I O tm,V q l.length cap],zAc po,I O v] w fun en w'=>en=Y (.tuple #[])∧St W0 w' K (.out po ⟨o,e⟩::L):=by
 obtain⟨rb,hrb⟩:=eX w.heap.size;have g1:=(h.allocRaw #[U nl,Z (bb dd),I O ac,I O tm,V q l.length cap] 36).p1;rw[hrb]at g1;obtain⟨z0,z1,z2,z3,z4⟩:=uR5 g1.p1;simp at z0 z1 z2 z3 z4;have H:=hQd g1;have HK:=hQd hk;have HCF:=hQd hf;have HLL:=hQd hll;have HDD:=hQd hdd;have HER:=hQd he;have e1:(e==0)=false:=by rw[beq_eq_false_iff_ne];exact h0
 have e3:(e !=0)=true:=by simp[bne,e1]
 clear h g1 hk hf hll hdd he h0;go_enter Tryz.func97,Tryz.ntmps97
 go_wp2_with (first
  |(go_at_call 152;clear z0 z1 z2 z3 z4;(with_reducible refine(zCz nl dd ac tm v l q cap HDD.out HCF.out HLL.out e HER.out HK.out H.out).mono ?_);rintro e_ wn ⟨rfl,h⟩;obtain⟨z0,z1,z2,z3,z4⟩:=uR5 h.p1;simp at z0 z1 z2 z3 z4;replace H:=hQd h;clear h)
  |(go_at_call 95;(with_reducible refine(zRJ po o e H.out).zM ?_);clear H;intro wn H))
 (try simp only[Exit.inBlock,Exit.then]);refine bodyPost_ret (results_none rfl _ _ _) rfl ?_
 exact⟨rfl,H.out.p1.drop⟩
theorem zI0(po:Nat)(o:Bs)(nl:Bool)(dd:Bs)(ac tm v:Int)(l:List PTop)(q:Option Addr)(cap:Nat)(hdd:dd.length≤140737488355328)(hf:∀x∈l,CkT x)(hll:l.length≤1000000)(he:zA9 ⟨nl,dd⟩ ac tm v l=0)(o2:Bs)(hs:o++zAR nl dd ac tm l=o2)(h2:o2.length≤9000000)(hrt:(⟨nl,dd⟩:BlobS).right=true)(hd2:dd.length≤32767)(hac: -32768≤ac∧ac<32768)(htm:0≤tm∧tm<2147483648)(hpt:∀x∈l,PutT x)(hk:K.has (Know.ptops (V q l.length cap) l))(h:St W0 w K (.out po ⟨o,0⟩::L)):
  Calls Jb 97 #[.agg #[U nl,Z (bb dd),I O ac,I O tm,V q l.length cap],zAc po,I O v] w fun en w'=>en=Y (.tuple #[])∧St W0 w' K (.out po ⟨o2,0⟩::L):=by
 obtain⟨rb,hrb⟩:=eX w.heap.size;have g1:=(h.allocRaw #[U nl,Z (bb dd),I O ac,I O tm,V q l.length cap] 36).p1;rw[hrb]at g1;obtain⟨z0,z1,z2,z3,z4⟩:=uR5 g1.p1;simp at z0 z1 z2 z3 z4;have H:=hQd g1;have HK:=hQd hk;have HCF:=hQd hf;have HLL:=hQd hll;have HDD:=hQd hdd;have HER:=hQd he;obtain⟨A1,hA1⟩:=eX (o++encF 2 ⟨nl,dd⟩);obtain⟨A2,hA2⟩:=eX (A1++zAa ac (2:Int).toNat);obtain⟨A3,hA3⟩:=eX (A2++zAa tm (4:Int).toNat);obtain⟨A4,hA4⟩:=eX (A3++zAa (l.length:Int) (4:Int).toNat)
 have hR:A4++(l.drop 0).flatMap zAg=o2:=by
  rw[←hs,←hA4,←hA3,←hA2,←hA1,List.drop_zero];unfold zAR;simp only[Je]
 have l4:=zBd hR h2;have l3:=zBd hA4 l4;have l2:=zBd hA3 l3;have l1:=zBd hA2 l2;have l0:=zBd hA1 l1;have HA1:=hQd hA1;have HA2:=hQd hA2;have HA3:=hQd hA3;have HA4:=hQd hA4;have HR:=hQd hR;have HO2:=hQd h2;have L0:=hQd (show o.length≤100000000000000 by omega);have L1:=hQd (show A1.length≤100000000000000 by omega);have L2:=hQd (show A2.length≤100000000000000 by omega);have L3:=hQd (show A3.length≤100000000000000 by omega);have HRT:=hQd hrt;have HD2:=hQd hd2;have FA:=hQd (zFv ac hac);have FT:=hQd (zC3 tm oM);have FL:=hQd (zC3 (l.length:Int) oM);have RA:=hQd (show -9223372036854775808≤ac∧ac<9223372036854775808 by omega);have RT:=hQd (show -9223372036854775808≤tm∧tm<9223372036854775808 by omega);have RL:=hQd (show -9223372036854775808≤(l.length:Int)∧(l.length:Int)<9223372036854775808 by omega);have HPT:=hQd hpt;have hni:(l.length:Int)≤4398046511104:=by omega
 clear h g1 hk hf hll hdd he hs h2 hrt hd2 hac htm hpt hA1 hA2 hA3 hA4 hR l4 l3 l2 l1 l0;go_enter Tryz.func97,Tryz.ntmps97
 go_wp2_with (first
  |(go_at_call 152;clear z0 z1 z2 z3 z4;(with_reducible refine(zCz nl dd ac tm v l q cap HDD.out HCF.out (Nat.le_trans HLL.out dD) 0 HER.out HK.out H.out).mono ?_);rintro e_ wn ⟨rfl,h⟩;obtain⟨z0,z1,z2,z3,z4⟩:=uR5 h.p1;simp at z0 z1 z2 z3 z4;replace H:=hQd h;clear h)
  |(go_at_call 96;clear z0 z1 z2 z3 z4;(with_reducible refine(zKK po o A1 nl dd HA1.out HRT.out HD2.out L0.out H.out).mono ?_);rintro e_ wn ⟨rfl,h⟩;obtain⟨z0,z1,z2,z3,z4⟩:=uR5 h.p1;simp at z0 z1 z2 z3 z4;replace H:=hQd h;clear h)
  |(go_at_call 50;clear z0 z1 z2 z3 z4;(with_reducible refine(zE9 po A1 A2 ac 2 HA2.out FA.out RA.out L1.out H.out).mono ?_);rintro e_ wn ⟨rfl,h⟩;obtain⟨z0,z1,z2,z3,z4⟩:=uR5 h.p1;simp at z0 z1 z2 z3 z4;replace H:=hQd h;clear h)
  |(go_at_call 50;clear z0 z1 z2 z3 z4;(with_reducible refine(zE9 po A2 A3 tm 4 HA3.out FT.out RT.out L2.out H.out).mono ?_);rintro e_ wn ⟨rfl,h⟩;obtain⟨z0,z1,z2,z3,z4⟩:=uR5 h.p1;simp at z0 z1 z2 z3 z4;replace H:=hQd h;clear h)
  |(go_at_call 50;clear z0 z1 z2 z3 z4;(with_reducible refine(zE9 po A3 A4 l.length 4 HA4.out FL.out RL.out L3.out H.out).mono ?_);rintro e_ wn ⟨rfl,h⟩;obtain⟨z0,z1,z2,z3,z4⟩:=uR5 h.p1;simp at z0 z1 z2 z3 z4;replace H:=hQd h;clear h))
 clear z0 z1 z2 z3 z4;go_loopw [39] (fun iv wr=>∃(k:Nat) (E:Bs),k≤l.length∧iv=I O k∧Hid (E++(l.drop k).flatMap zAg=o2)∧St W0 wr K (.out po ⟨E,0⟩::.raw rb #[U nl,Z (bb dd),I O ac,I O tm,V q l.length cap] 36::L)) (fun iv _=>l.length - (intOf iv).toNat)
 case atStart=>exact⟨0,A4,Jd _,rfl,HR,H.out⟩
 case round=>
  obtain⟨k,E,hkl,rfl,HE,hst⟩:=hrel;clear H HR;have H:=hQd hst;clear hst
  by_cases hlt:k<l.length
  · obtain⟨bk,off,hqq⟩:=zCk HK.out H.out oM;obtain⟨x,hx⟩:=eX (l[k]);have hmem:x∈l:=hx ▸ Ji hlt;have hpx:=HPT.out x hmem;have HK':=HK.out;rw[hqq]at HK';obtain⟨c0,c1⟩:=zBl HK' H.out k hlt x hx;have HXK0:=zA7 HK.out hmem;have he:=HE.out;rw[zNE zAg l k hlt x hx]at he;have hkn:(k:Int)<(l.length:Int):=by omega
    obtain⟨nm,xl,xq,xcap⟩:=x;simp only at c0 c1 HXK0;obtain⟨B1,hB1⟩:=eX (E++encF 2 ⟨false,nm⟩);obtain⟨B2,hB2⟩:=eX (B1++zAa (xl.length:Int) (4:Int).toNat)
    have hI:B2++((xl.drop 0).flatMap zAv++(l.drop (k+1)).flatMap zAg)=o2:=by
     rw[←he,←hB2,←hB1,List.drop_zero];unfold zAg;simp only[Je]
    have hxl:xl.length≤100000:=hpx.few;have hxi:(xl.length:Int)≤100000:=by omega
    have l2:=zBd hI HO2.out;have l1:=zBd hB2 l2;have l0:=zBd hB1 l1;have HB1:=hQd hB1;have HB2:=hQd hB2;have HI:=hQd hI;have HNM:=hQd (show nm.length≤32767 from hpx.name);have M0:=hQd (show E.length≤100000000000000 by omega);have M1:=hQd (show B1.length≤100000000000000 by omega);have FX:=hQd (zC3 (xl.length:Int) oM);have RX:=hQd (show -9223372036854775808≤(xl.length:Int)∧(xl.length:Int)<9223372036854775808 by omega);have HXK:=hQd HXK0;have HPP:=hQd (show ∀y∈xl,PutP y from hpx.parts);subst hqq;clear hx hmem hpx HK' HXK0 he hxl hB1 hB2 hI l2 l1 l0
    go_wp2_with (first
  |(go_at_call 89;(with_reducible refine(zOw po E B1 nm HB1.out HNM.out M0.out ((H.out.allocRaw #[Z (bb nm),V xq xl.length xcap] 178).p1)).mono ?_);rintro e_ wn ⟨rfl,h⟩;obtain⟨y0,y1⟩:=uR2 h.p1;simp at y0 y1;replace H:=hQd h;clear h)
  |(go_at_call 50;clear y0 y1;(with_reducible refine(zE9 po B1 B2 xl.length 4 HB2.out FX.out RX.out M1.out H.out).mono ?_);rintro e_ wn ⟨rfl,h⟩;have y1:=h.p1.rawCell 1;simp at y1;replace H:=hQd h;clear h))
    clear y1;go_loopw [55] (fun jv wr=>∃(j:Nat) (G:Bs),j≤xl.length∧jv=I O j∧Hid (G++((xl.drop j).flatMap zAv++(l.drop (k+1)).flatMap zAg)=o2)∧St W0 wr K (.out po ⟨G,0⟩::.raw rb #[U nl,Z (bb dd),I O ac,I O tm,V (some ⟨bk,off,none⟩) l.length cap] 36::L)) (fun jv _=>xl.length - (intOf jv).toNat)
    case atStart=>exact⟨0,B2,Jd _,rfl,HI,H.out.p1.drop⟩
    case round=>
     obtain⟨j,G,hjl,rfl,HG,hst⟩:=hrel;clear H HI c0 c1;have H:=hQd hst;clear hst
     by_cases hjt:j<xl.length
     · obtain⟨pk,poff,hpq⟩:=zBW HXK.out H.out oM;subst hpq;obtain⟨y,hy⟩:=eX (xl[j]);have hmem:y∈xl:=hy ▸ Ji hjt;have hpy:=HPP.out y hmem;obtain⟨d0,d1⟩:=zA8 HXK.out H.out j hjt y hy;have HYK0:=zBh HXK.out hmem;have hg:=HG.out;rw[zNE zAv xl j hjt y hy]at hg;have hjn:(j:Int)<(xl.length:Int):=by omega
       obtain⟨yi,yl,yq,ycap⟩:=y;simp only at d0 d1 HYK0;obtain⟨G2,hG2⟩:=eX (G++zAv ⟨yi,yl,yq,ycap⟩)
       have hI:G2++((xl.drop (j+1)).flatMap zAv++(l.drop (k+1)).flatMap zAg)=o2:=by
        rw[←hg,←hG2];simp only[Je]
       have l1:=zBd hI HO2.out;have l0:=zBd hG2 l1;have HYK:=hQd HYK0;have HPY:=hQd hpy;have HG2:=hQd hG2;have HI2:=hQd hI;have M2:=hQd (show G.length≤10000000 by omega);clear hy hmem hpy HYK0 hg hG2 hI l1 l0;go_wp2_with (go_at_call 153;(with_reducible refine(zRH po G G2 yi yl yq ycap HPY.out HG2.out M2.out HYK.out ((H.out.allocRaw #[I O yi,V yq yl.length ycap] 181).p1)).mono ?_);rintro e_ wn ⟨rfl,h⟩;have h:=h.p1.drop;replace H:=hQd h;clear h);go_roundw
       case rel=>
        refine⟨j+1,G2,hjt,by go_num,HI2,?_⟩;exact H.out
       case measure=>first|(simp[intOf];done)|(simp[intOf];omega)
     · obtain rfl:j=xl.length:=by omega
       have HE2:=hQd (show G++(l.drop (k+1)).flatMap zAg=o2 by have hg:=HG.out;rw[List.drop_length]at hg;exact hg);go_wp2_with fail;go_roundw
       case rel=>
        refine⟨k+1,G,hlt,by go_num,HE2,?_⟩;exact H.out
       case measure=>first|(simp[intOf];done)|(simp[intOf];omega)
  · obtain rfl:k=l.length:=by omega
    have he:=HE.out;rw[List.drop_length,List.flatMap_nil,Jp]at he;subst he;go_wp2_with fail;go_end0;exact⟨rfl,H.out.p1.drop⟩
def pw (n:Nat):Bool:=decide (n∈[28,27,26,25,23,22,20,19,18,14,13,11,10,9,8,6,0])
def inner (m:List Bool) (i:Nat):Nat→List Bool
 |0=>m
 |k+1=>(inner m i k).set (i+(k+1)) ((inner m i k).getD (i+(k+1)) false ^^ pw (31 - k))
def zSC:Nat→List Bool→List Bool
 |0,m=>m
 |k+1,m=>(zSC k m).set k (!(zSC k m).getD k false)
theorem inner_len(m:List Bool)(i k:Nat):(inner m i k).length=m.length:=by
 induction k with
 |zero=>rfl
 |succ k ih=>show(List.set _ _ _).length=_;rw[List.length_set,ih]
theorem zSu(a:Int)(h:chk a=0):zAY (zAi a 3) (zAi a 4) (zAi a 5) 3=a∧(zAi a 5=true→zAi a 4=true):=by
 have hr:0≤a∧a≤63:=by
  unfold chk at h
  split at h
  ·cases h
  ·split at h
   ·cases h
   ·rename_i _ h2
    simp only[Bool.or_eq_true,decide_eq_true_eq,not_or]at h2
    omega
 have key:∀k:Fin 64,chk (k.val:Int)=0→zAY (zAi k.val 3) (zAi k.val 4) (zAi k.val 5) 3=k.val∧(zAi k.val 5=true→zAi k.val 4=true):=by decide
 have:=key ⟨a.toNat,oM⟩;simp only at this;rw[show((a.toNat:Nat):Int)=a by omega]at this;exact this h
theorem zJ5(v:Int)(h: -2147483648≤v∧v<2147483648):zAL (v % 4294967296)=v:=by
 unfold zAL;rw[if_neg oM]
 split<;>omega
theorem zOv{s:Bs}(h:61≤s.length)(h2:(preX s).2=2):zAt (preX s).1.items=s.take 61:=by
 have e:=zId zAQ s h;have hs:zAQ.sum=61:=rfl;rw[hs]at e;rw[←e];have h4:=zDX ((s.drop 17).take 4) (by rw[List.length_take];omega);have h5:=zJ5 _ h4
 have e2:zBD zAQ s=[sInt (s.take 8),sInt ((s.drop 8).take 4),sInt ((s.drop 12).take 4),sInt ((s.drop 16).take 1),sInt ((s.drop 17).take 4),sInt ((s.drop 21).take 2),sInt ((s.drop 23).take 4),sInt ((s.drop 27).take 8),sInt ((s.drop 35).take 8),sInt ((s.drop 43).take 8),sInt ((s.drop 51).take 2),sInt ((s.drop 53).take 4),sInt ((s.drop 57).take 4)]:=by
  unfold zAQ;simp only[zBD,Jk,Nat.reduceAdd]
 unfold preX at h2 ⊢;rw[e2]at h2 ⊢;have h3:sInt ((s.drop 16).take 1)=2:=h2;rw[h3]
 show zAt (PreS.items ⟨_,_,_,sInt ((s.drop 17).take 4) % 4294967296,_,_,_,_,_,_,_,_⟩)=_
 unfold PreS.items;simp only[h5]
 rfl
theorem zPj:∀(n:Nat) (rows:Bs) (pos:Nat) (rs:List RecS),pos≤rows.length→unp n ⟨rows,pos,0⟩=.ok rs→rows.drop pos=rs.flatMap encR
 |0,rows,pos,rs,hp,h=>by
  have h:(if (⟨rows,pos,0⟩:InS).left=0 then Except.ok []else Except.error (10:Int))=Except.ok rs:=h
  by_cases c1:(⟨rows,pos,0⟩:InS).left=0
  ·rw[if_pos c1]at h
   cases h
   have c2:rows.length - pos=0:=c1;rw[List.drop_of_length_le oM]
   rfl
  ·rw[if_neg c1]at h;cases h
 |n+1,rows,pos,rs,hp,h=>by
  have h:(if (⟨rows,pos,0⟩:InS).left=0 then .error 10 else if (⟨rows,pos,0⟩:InS).record.2.err=0 then zLg (⟨rows,pos,0⟩:InS).record.1 (unp n (⟨rows,pos,0⟩:InS).record.2)else .error (⟨rows,pos,0⟩:InS).record.2.err)=.ok rs:=h
  by_cases c1:(⟨rows,pos,0⟩:InS).left=0
  ·rw[if_pos c1]at h;cases h
  rw[if_neg c1]at h
  cases hr:zIV (rows.drop pos)with
  |error e=>
   obtain⟨he,q,_,hf⟩:=zGq.err rows pos e hp hr;rw[hf]at h;simp only at h;rw[if_neg he]at h
   cases h
  |ok y=>
   obtain⟨x,m⟩:=y;obtain⟨hpm,hf⟩:=zGq.ok rows pos x m hp hr;rw[hf]at h;simp only[if_true]at h
   cases hu:unp n ⟨rows,pos+m,0⟩with
   |error e=>rw[hu]at h;cases h
   |ok t=>
    rw[hu]at h;have h:Except.ok (x::t)=Except.ok rs:=h;injection h with h;subst h;have i1:=zPj n rows (pos+m) t hpm hu;have j1:=(zGn hr).1;rw[Jg,←i1,j1,←Jk,List.take_append_drop]
theorem zP1{s:Bs}{b:BatS}{n:Nat}(h:zBI s=.ok (b,n)):b.enc=s.take n∧zAj b=0∧b.rowsB.length≤s.length∧b.recs.length≤s.length∧∀x∈b.recs,x.R∧zA5 x=0∧x.sum≤s.length:=by
 obtain⟨x,hp,hn,hns,ha⟩:=zCj h;obtain⟨p1,p2,p3,p4,p5⟩:=zEl hp;obtain⟨a1,a2,rs,a3,a4,a5⟩:=zJN ha;obtain⟨k,hk⟩:=eX ((x.len - 49).toNat);rw[hk]at hn a1 a3;obtain⟨rows,hrw⟩:=eX ((s.drop 61).take k);rw[hrw]at a1 a3;have hrl:rows.length=k:=by rw[←hrw,List.length_take,Jh];omega
 have u1:=zPj _ _ _ _ (Jd _) a3;obtain⟨u2,u3,u4⟩:=zLN _ _ _ _ (Jd _) a3;rw[List.drop_zero]at u1;have hrb:b.rowsB=rows:=by rw[u1,a5];rfl
 have hrc:b.recs=rs:=by rw[a5]
 obtain⟨at1,at2⟩:=zSu x.attr a2
 have hpre:b.pre x.sum=x:=by
  unfold BatS.pre;rw[hrb,hrc,hrl,u2];rw[a5];simp only;rw[at1,show 49+((k:Nat):Int)=x.len by omega,show((x.count.toNat:Nat):Int)=x.count by omega]
 have hby:=zOv p1 p3
 rw[p2]at hby
 have hbk:(s.take 61).drop 21=b.back:=by rw[←hby,←hpre,b.pre_drop]
 have hcr:(b.crc:Int)=x.sum:=by
  unfold BatS.crc;rw[←hbk,hrb];exact a1
 refine⟨?_,by rw[a5];exact a4,by rw[hrb,hrl];omega,by rw[hrc];omega,fun y hy=> ?_⟩
 ·unfold BatS.enc;rw[hcr,hpre,hby,hrb,←hrw,hn,List.take_add]
 ·rw[hrc]at hy;obtain⟨v1,v2,v3⟩:=u4 y hy;exact⟨v1,v2,oM⟩
theorem zS4{s:Bs}{x:PreS}(h:zC6 s=.ok x):Rn x.base∧Rn x.leader∧Rn x.last∧Rn x.first∧Rn x.maxt∧Rn x.prod∧Rn x.epoch∧Rn x.seq:=by
 obtain⟨h1,h2,_,h3,h4⟩:=zEl h;rw[zMu]at h2;have h2:=h2.symm;subst h2;have r:∀(k m:Nat),m≤8→Rn (sInt ((s.drop k).take m)):=fun k m hm=>zDB _ (by rw[List.length_take];omega)
 exact⟨r 0 8 dD,r 12 4 dD,r 23 4 dD,r 27 8 dD,r 35 8 dD,r 43 8 dD,r 51 2 dD,r 53 4 dD⟩
structure MidOk (b:BatS):Prop where
 fit:∀x∈b.recs,x.R∧zA5 x=0∧x.sum≤2000
 len:b.recs.length≤1000
 err:zAj b=0
 rng:b.R
 rows:b.rowsB.length≤2000
theorem zNm:∀(l:List RecS),2*l.length≤(l.flatMap encR).length
 |[]=>by simp
 |x::t=>by
  have h1:=zNm t
  have h2:2≤(encR x).length:=by
   have h3:=zJr x.key;have h4:2≤(recF x).length:=by unfold recF;simp only[Jc,Jn,List.length_nil];omega
   show 2≤(putU _++recF x).length
   rw[Jc]
   omega
  rw[Jg,Jc,Jn]
  omega
theorem MidOk.of{s:Bs}{b:BatS}{n:Nat}(h:zBI s=.ok (b,n))(hl:s.length≤1500):MidOk b:=by
 obtain⟨h1,h2,h3,h4,h5⟩:=zP1 h;obtain⟨x,hp,_,_,ha⟩:=zCj h;obtain⟨_,_,rs,_,_,hb⟩:=zJN ha;have hr:=zS4 hp;have h6:=zNm b.recs;have h7:(b.recs.flatMap encR).length=b.rowsB.length:=rfl;refine⟨fun y hy=> ?_,oM,h2,?_,oM⟩
 ·obtain⟨v1,v2,v3⟩:=h5 y hy;exact⟨v1,v2,oM⟩
 ·rw[hb];exact hr
structure EncOk (b:BatS):Prop where
 rows:b.rowsB.length≤400000
 len:b.recs.length≤1000
 err:zAj b=0
 rng:b.R
 recs:∀x∈b.recs,x.R∧zA5 x=0∧x.sum≤1000000
theorem EncOk.mid{b:BatS}(h:MidOk b):EncOk b:=⟨by have:=h.rows;omega,h.len,h.err,h.rng,fun x hx=>⟨(h.fit x hx).1,(h.fit x hx).2.1,by have:=(h.fit x hx).2.2;omega⟩⟩
theorem EncOk.small{b:BatS}(h:SmallOk b):EncOk b:=⟨h.rows,by have:=h.len;omega,h.err,h.rng,h.recs⟩
def PTop.ts (x:PTop):TopS:=⟨x.name,x.l.map PartR.idx⟩
structure WrP (x:PartR):Prop where
 idx: -9223372036854775808≤x.idx∧x.idx<9223372036854775808
 bats:∀z∈x.l,z.l.map (·.1)=z.b.recs∧EncOk z.b
structure WrT (x:PTop):Prop where
 name:x.name.length≤32767
 parts:∀y∈x.l,WrP y
theorem zMO(x:PartR):8≤(zAv x).length:=by
 unfold zAv encF;simp only[Jc];have h1:(zAa x.idx (4:Int).toNat).length=4:=zAb _ _;have h2:∀n,(zAa n 4).length=4:=fun n=>zAb _ _
 rw[h1,h2]
 omega
theorem zFy:∀(l:List PartR),8*l.length≤(l.flatMap zAv).length
 |[]=>by simp
 |x::t=>by
  have h:=zFy t;have h2:=zMO x;rw[Jg,Jc,Jn]
  omega
structure BkP (x:PartR):Prop where
 idx: -2147483648≤x.idx∧x.idx<2147483648
 len:(encB x.l).length≤2000000
 bats:∀z∈x.l,SmallOk z.b
structure BkT (x:PTop):Prop where
 name:x.name.length≤32767
 len:x.l.length≤1000000
 parts:∀y∈x.l,BkP y
theorem enc_ne(b:BatS):b.enc≠[]:=by
 intro h;have h2:=b.enc_len;rw[h,List.length_nil]at h2
 omega
theorem zIp:∀(l:List BatR),(∀z∈l,SmallOk z.b)→zCt (encB l)=.ok (l.map BatR.b)
 |[],_=>rfl
 |x::t,h=>by
  have e:encB (x::t)=x.b.enc++encB t:=rfl;have hb:=(h x sM).back (encB t);have hne:x.b.enc++encB t≠[]:=fun hh=>enc_ne x.b (List.append_eq_nil_iff.1 hh).1
  rw[e,zNP hne hb,List.drop_left,zIp t (fun z hz=>h z (by simp[hz]))]
  rfl
theorem zMw(x:PartR)(h:BkP x)(R:Bs):zEp (zAv x++R)=.ok (x.pb,(zAv x).length):=by
 have e:zAv x++R=zAa x.idx 4++(encF 4 ⟨false,encB x.l⟩++R):=by unfold zAv;rw[Je];rfl
 have l4:(zAa x.idx 4).length=4:=zAb _ _;have hi:=zEi x.idx 4 dD (zC3 x.idx h.idx) (encF 4 ⟨false,encB x.l⟩++R);unfold zAJ at hi;have hf:=zA4 4 ⟨false,encB x.l⟩ rfl (zC3 _ (by show -2147483648≤((encB x.l).length:Int)∧((encB x.l).length:Int)<2147483648;have:=h.len;omega)) R;have hlen:¬(zAa x.idx 4++(encF 4 ⟨false,encB x.l⟩++R)).length<4:=by rw[Jc,l4];omega
 have hll:(zAv x).length=4+(encF 4 ⟨false,encB x.l⟩).length:=by unfold zAv;rw[Jc];exact congrArg (· +_) l4
 unfold zEp;rw[e,if_neg hlen];rw[if_neg hlen]at hi;have hd:(zAa x.idx 4++(encF 4 ⟨false,encB x.l⟩++R)).drop 4=encF 4 ⟨false,encB x.l⟩++R:=List.drop_left' l4;rw[hd,hf];simp only[Bool.false_eq_true,if_false,zIp x.l h.bats];have hi2:sInt ((zAa x.idx 4++(encF 4 ⟨false,encB x.l⟩++R)).take 4)=x.idx:=by injection hi with hi;exact congrArg Prod.fst hi
 rw[hi2,hll]
 rfl
theorem zGE:∀(l:List PartR),(∀y∈l,BkP y)→∀R:Bs,zDe l.length (l.flatMap zAv++R)=.ok (l.map PartR.pb,(l.flatMap zAv).length)
  |[],_,_=>rfl
  |x::t,h,R=>by
    have e:(x::t).flatMap zAv++R=zAv x++(t.flatMap zAv++R):=by rw[Jg,Je]
    show(match zEp ((x::t).flatMap zAv++R)with
      | .error e=>Except.error e
      | .ok y=>match zDe t.length (((x::t).flatMap zAv++R).drop y.2)with
        | .error e=>Except.error e
        | .ok z=>Except.ok (y.1::z.1,y.2+z.2))=_
    rw[e,zMw x (h x sM)];simp only[List.drop_left];rw[zGE t (fun y hy=>h y (by simp[hy])) R];simp only[List.map_cons,Jg,Jc]
theorem zOt(x:PTop)(h:BkT x)(R:Bs):zIX (zAg x++R)=.ok (x.pt,(zAg x).length):=by
 have e:zAg x++R=encF 2 ⟨false,x.name⟩++(zAa (x.l.length:Int) 4++(x.l.flatMap zAv++R)):=by unfold zAg;simp only[Je];rfl
 have hll:(zAg x).length=(encF 2 ⟨false,x.name⟩).length+4+(x.l.flatMap zAv).length:=by
  unfold zAg;rw[Jc,Jc];exact congrArg (fun n=>(encF 2 ⟨false,x.name⟩).length+n+_) (zAb _ _)
 have hc:=zCD 8 x.l.length (x.l.flatMap zAv++R) dD (by have:=h.len;omega) (by have:=zFy x.l;rw[Jc];omega);unfold zIX;rw[e,zEY x.name h.name];simp only[List.drop_left];rw[hc];simp only
 have hd:(encF 2 ⟨false,x.name⟩++(zAa (x.l.length:Int) 4++(x.l.flatMap zAv++R))).drop ((encF 2 ⟨false,x.name⟩).length+4)=x.l.flatMap zAv++R:=by
  rw[←Jk,List.drop_left];exact List.drop_left' (zAb _ _)
 rw[hd,zGE x.l h.parts R];simp only[hll]
 rfl
theorem zE7:∀(l:List PTop),(∀y∈l,BkT y)→∀R:Bs,zIY l.length (l.flatMap zAg++R)=.ok (l.map PTop.pt,(l.flatMap zAg).length)
  |[],_,_=>rfl
  |x::t,h,R=>by
    have e:(x::t).flatMap zAg++R=zAg x++(t.flatMap zAg++R):=by rw[Jg,Je]
    show(match zIX ((x::t).flatMap zAg++R)with
      | .error e=>Except.error e
      | .ok y=>match zIY t.length (((x::t).flatMap zAg++R).drop y.2)with
        | .error e=>Except.error e
        | .ok z=>Except.ok (y.1::z.1,y.2+z.2))=_
    rw[e,zOt x (h x sM)];simp only[List.drop_left];rw[zE7 t (fun y hy=>h y (by simp[hy])) R];simp only[List.map_cons,Jg,Jc]
theorem zMP(x:PTop):6≤(zAg x).length:=by
 unfold zAg encF;simp only[Jc];have h1:(zAa (x.l.length:Int) (4:Int).toNat).length=4:=zAb _ _;have h2:∀n,(zAa n 2).length=2:=fun n=>zAb _ _
 rw[h1,h2]
 omega
theorem zDq:∀(l:List PTop),6*l.length≤(l.flatMap zAg).length
 |[]=>by simp
 |x::t=>by
  have h:=zDq t;have h2:=zMP x;rw[Jg,Jc,Jn]
  omega
theorem zH1(nl:Bool)(dd:Bs)(ac tm:Int)(l:List PTop)(hr:(⟨nl,dd⟩:BlobS).right=true)(hd:dd.length≤32767)(ha: -32768≤ac∧ac<32768)(ht: -2147483648≤tm∧tm<2147483648)(hl:l.length≤1000000)(h:∀x∈l,BkT x):preqP (zAR nl dd ac tm l)=.ok ((⟨nl,dd⟩,ac,tm,l.map PTop.pt),(zAR nl dd ac tm l).length):=by
 have e:zAR nl dd ac tm l=encF 2 ⟨nl,dd⟩++(zAa ac 2++(zAa tm 4++(zAa (l.length:Int) 4++l.flatMap zAg))):=by unfold zAR;simp only[Je];rfl
 have l2:(zAa ac 2).length=2:=zAb _ _;have l4:(zAa tm 4).length=4:=zAb _ _;have l5:(zAa (l.length:Int) 4).length=4:=zAb _ _;have hlen:(zAR nl dd ac tm l).length=(encF 2 ⟨nl,dd⟩).length+10+(l.flatMap zAg).length:=by rw[e];simp only[Jc,l2,l4,l5];omega
 have hfl:fits (⟨nl,dd⟩:BlobS).len 2:=by
  apply zFv
  unfold BlobS.len
  cases nl<;>simp<;>omega
 have hf:=zA4 2 ⟨nl,dd⟩ hr hfl (zAa ac 2++(zAa tm 4++(zAa (l.length:Int) 4++l.flatMap zAg)));have hc:=zCD 6 l.length (l.flatMap zAg) dD oM (zDq l);have h1:=zEi ac 2 dD (zFv ac ha) (zAa tm 4++(zAa (l.length:Int) 4++l.flatMap zAg));have h2:=zEi tm 4 dD (zC3 tm ht) (zAa (l.length:Int) 4++l.flatMap zAg);unfold zAJ at h1 h2;rw[if_neg (by rw[Jc,l2];omega)]at h1;rw[if_neg (by rw[Jc,l4];omega)]at h2;have h1:sInt ((zAa ac 2++(zAa tm 4++(zAa (l.length:Int) 4++l.flatMap zAg))).take 2)=ac:=by injection h1 with h1;exact congrArg Prod.fst h1
 have h2:sInt ((zAa tm 4++(zAa (l.length:Int) 4++l.flatMap zAg)).take 4)=tm:=by injection h2 with h2;exact congrArg Prod.fst h2
 have d2:(zAa ac 2++(zAa tm 4++(zAa (l.length:Int) 4++l.flatMap zAg))).drop 2=zAa tm 4++(zAa (l.length:Int) 4++l.flatMap zAg):=List.drop_left' l2
 have d6:(zAa ac 2++(zAa tm 4++(zAa (l.length:Int) 4++l.flatMap zAg))).drop 6=zAa (l.length:Int) 4++l.flatMap zAg:=by
  rw[show(6:Nat)=2+4 from rfl,←Jk,d2];exact List.drop_left' l4
 have d10:(zAa ac 2++(zAa tm 4++(zAa (l.length:Int) 4++l.flatMap zAg))).drop 10=l.flatMap zAg:=by
  rw[show(10:Nat)=6+4 from rfl,←Jk,d6];exact List.drop_left' l5
 have hn:=zE7 l h [];rw[Jp]at hn;unfold preqP;rw[hlen,e,hf];simp only[←Jk,List.drop_left];rw[d2,d6,d10,hc];rw[if_neg (by simp only[Jc,l2,l4,l5];omega)];simp only;rw[hn,h1,h2]
structure CkB (x:BatR):Prop where
 ck:CkR x
 base:Rn x.b.base
structure CkP2 (x:PartR):Prop where
 len:x.l.length≤4398046511104
 bats:∀y∈x.l,CkB y
structure CkT2 (x:PTop):Prop where
 len:x.l.length≤4398046511104
 parts:∀y∈x.l,CkP2 y
theorem zNn:∀(l m:List PartR),l.map PartR.pb=m.map PartR.pb→∀a,zEj a l=zEj a m
 |[],[],_,_=>rfl
 |[],_::_,h,_=>by cases h
 | _::_,[],h,_=>by cases h
 |x::t,y::u,h,a=>by
  simp only[List.map_cons,List.cons.injEq]at h;have e:x.idx=y.idx:=congrArg Prod.fst h.1;rw[zDC,zDC,e,zNn t u h.2]
theorem zQJ(txn:Bool):∀(l m:List BatR),l.map BatR.b=m.map BatR.b→zDo txn l=zDo txn m
 |[],[],_=>rfl
 |[],_::_,h=>by cases h
 | _::_,[],h=>by cases h
 |x::t,y::u,h=>by
  simp only[List.map_cons,List.cons.injEq]at h;rw[zDI,zDI,h.1,zQJ txn t u h.2]
theorem pb_len{l m:List BatR}(h:l.map BatR.b=m.map BatR.b):l.length=m.length:=by have:=congrArg List.length h;simpa using this
theorem zNG(txn:Bool)(v:Int):∀(l m:List PartR),l.map PartR.pb=m.map PartR.pb→zDn txn v l=zDn txn v m
 |[],[],_=>rfl
 |[],_::_,h=>by cases h
 | _::_,[],h=>by cases h
 |x::t,y::u,h=>by
  simp only[List.map_cons,List.cons.injEq]at h;have e:x.l.map BatR.b=y.l.map BatR.b:=congrArg Prod.snd h.1;rw[zDG,zDG,pb_len e,zQJ txn _ _ e,zNG txn v t u h.2]
theorem zQd{l m:List PartR}(h:l.map PartR.pb=m.map PartR.pb):l.length=m.length:=by have:=congrArg List.length h;simpa using this
theorem zQH:∀(l m:List PTop),l.map PTop.pt=m.map PTop.pt→∀a,errT a l=errT a m
 |[],[],_,_=>rfl
 |[],_::_,h,_=>by cases h
 | _::_,[],h,_=>by cases h
 |x::t,y::u,h,a=>by
  simp only[List.map_cons,List.cons.injEq]at h;have e1:x.name=y.name:=congrArg Prod.fst h.1;have e2:x.l.map PartR.pb=y.l.map PartR.pb:=congrArg Prod.snd h.1;rw[zEy,zEy,e1,zQd e2,zNn _ _ e2,zQH t u h.2]
theorem zNH(txn:Bool)(v:Int):∀(l m:List PTop),l.map PTop.pt=m.map PTop.pt→zD4 txn v l=zD4 txn v m
 |[],[],_=>rfl
 |[],_::_,h=>by cases h
 | _::_,[],h=>by cases h
 |x::t,y::u,h=>by
  simp only[List.map_cons,List.cons.injEq]at h;have e2:x.l.map PartR.pb=y.l.map PartR.pb:=congrArg Prod.snd h.1;rw[zDH,zDH,zNG txn v _ _ e2,zNH txn v t u h.2]
theorem zQc{l m:List PTop}(h:l.map PTop.pt=m.map PTop.pt):l.length=m.length:=by have:=congrArg List.length h;simpa using this
theorem zQI(id:BlobS)(ac tm v:Int){l m:List PTop}(h:l.map PTop.pt=m.map PTop.pt):zA9 id ac tm v l=zA9 id ac tm v m:=by
 unfold zA9 zBx;rw[zQH l m h,zNH _ v l m h,zQc h]
theorem zSK:∀(l m:List BatR),l.map BatR.b=m.map BatR.b→encB l=encB m
 |[],[],_=>rfl
 |[],_::_,h=>by cases h
 | _::_,[],h=>by cases h
 |x::t,y::u,h=>by
  simp only[List.map_cons,List.cons.injEq]at h;rw[zG0,zG0,h.1,zSK t u h.2]
theorem zGV:∀(l m:List PartR),l.map PartR.pb=m.map PartR.pb→l.flatMap zAv=m.flatMap zAv
 |[],[],_=>rfl
 |[],_::_,h=>by cases h
 | _::_,[],h=>by cases h
 |x::t,y::u,h=>by
  simp only[List.map_cons,List.cons.injEq]at h;have e1:x.idx=y.idx:=congrArg Prod.fst h.1;have e2:x.l.map BatR.b=y.l.map BatR.b:=congrArg Prod.snd h.1;rw[Jg,Jg,zGV t u h.2];unfold zAv;rw[e1,zSK _ _ e2]
theorem zGX:∀(l m:List PTop),l.map PTop.pt=m.map PTop.pt→l.flatMap zAg=m.flatMap zAg
 |[],[],_=>rfl
 |[],_::_,h=>by cases h
 | _::_,[],h=>by cases h
 |x::t,y::u,h=>by
  simp only[List.map_cons,List.cons.injEq]at h;have e1:x.name=y.name:=congrArg Prod.fst h.1;have e2:x.l.map PartR.pb=y.l.map PartR.pb:=congrArg Prod.snd h.1;rw[Jg,Jg,zGX t u h.2];unfold zAg;rw[e1,zQd e2,zGV _ _ e2]
theorem zOQ(nl:Bool)(dd:Bs)(ac tm:Int){l m:List PTop}(h:l.map PTop.pt=m.map PTop.pt):zAR nl dd ac tm l=zAR nl dd ac tm m:=by
 unfold zAR;rw[zQc h,zGX l m h]
theorem zQy{z:BatR}(hf:z.Fit)(hs:zBj (z.l.map (·.1))=true):CkB z:=⟨⟨hf.2.2,hf.1.2.2.2.1.2 |>fun h=>by omega,FitW.fit hf.2.1 hs,by have:=zDA hs;omega⟩,hf.1.1⟩
theorem zTe{l:List PTop}(hf:∀x∈l,FewT20 x)(hs:∀x∈l,SmT x):∀x∈l,CkT x∧CkT2 x:=fun x hx=>
 ⟨⟨Nat.le_trans (hf x hx).name dD,(hf x hx).len,fun y hy=>⟨Nat.le_trans ((hf x hx).parts y hy).len dD,fun z hz=>(zQy (((hf x hx).parts y hy).fit z hz) (hs x hx y hy z hz)).ck⟩⟩,
  ⟨(hf x hx).len,fun y hy=>⟨Nat.le_trans ((hf x hx).parts y hy).len dD,fun z hz=>zQy (((hf x hx).parts y hy).fit z hz) (hs x hx y hy z hz)⟩⟩⟩
theorem zJ7:∀(l:List PTop) (x:PTop),x∈l→x.name.length+10+zCv x.l≤zBU l
 |[],_,h=>by cases h
 |y::t,x,h=>by
  simp only[zBU]
  rcases List.mem_cons.1 h with rfl|h
  ·omega
  ·have:=zJ7 t x h;omega
theorem zKa:∀(l:List PartR) (y:PartR),y∈l→10+100*y.l.length≤zCv l
 |[],_,h=>by cases h
 |z::t,y,h=>by
  simp only[zCv]
  rcases List.mem_cons.1 h with rfl|h
  ·omega
  ·have:=zKa t y h;omega
theorem zJ8:∀(l:List PTop),10*l.length≤zBU l
 |[]=>by simp[zBU]
 |x::t=>by have:=zJ8 t;simp only[zBU,Jn];omega
theorem zKb:∀(l:List PartR),10*l.length≤zCv l
 |[]=>by simp[zCv]
 |x::t=>by have:=zKb t;simp only[zCv,Jn];omega
theorem zNF:∀(l:List PTop) (a:Bs),errT a l=0→∀x∈l,x.l.length≠0∧zAu x.name=true∧zEj (-1) x.l=true
 |[],_,_,_,hx=>by cases hx
 |y::t,a,h,x,hx=>by
  rw[zEy]at h
  by_cases h0:y.l.length=0
  ·rw[if_pos h0]at h;cases h
  rw[if_neg h0]at h
  by_cases hb:(zAu y.name && Op.bytesLess a y.name && zEj (-1) y.l)=true
  ·rw[if_pos hb]at h;simp only[Bool.and_eq_true]at hb
   rcases List.mem_cons.1 hx with rfl|hx
   ·exact⟨h0,hb.1.1,hb.2⟩
   ·exact zNF t y.name h x hx
  ·rw[if_neg hb]at h;cases h
theorem zKk:∀(l:List PartR) (a:Int),zEj a l=true→∀y∈l,a<y.idx∧y.idx≤2147483647
 |[],_,_,_,hy=>by cases hy
 |z::t,a,h,y,hy=>by
  rw[zDC]at h;simp only[Bool.and_eq_true,decide_eq_true_eq]at h
  rcases List.mem_cons.1 hy with rfl|hy
  ·exact h.1
  ·have:=zKk t z.idx h.2 y hy;omega
theorem zK3(txn:Bool):∀(l:List BatR),zDo txn l=0→∀z∈l,zAj z.b=0
 |[],_,_,hz=>by cases hz
 |y::t,h,z,hz=>by
  rw[zDI]at h;obtain⟨be,hbe⟩:=eX (zAj y.b);rw[hbe]at h
  by_cases h0:be=0
  ·rw[if_neg (fun hh=>hh h0)]at h
   by_cases h1:y.b.ctl=true
   ·rw[if_pos h1]at h;exact absurd h dD
   rw[if_neg h1]at h
   by_cases h2:y.b.txn≠txn
   ·rw[if_pos h2]at h;exact absurd h dD
   rw[if_neg h2]at h
   rcases List.mem_cons.1 hz with hz|hz
   ·rw[hz];exact hbe.trans h0
   ·exact zK3 txn t h z hz
  ·rw[if_pos h0]at h;exact absurd h h0
theorem zK1(txn:Bool)(v:Int):∀(l:List PartR),zDn txn v l=0→∀y∈l,zDo txn y.l=0
 |[],_,_,hx=>by cases hx
 |y::t,h,x,hx=>by
  rw[zDG]at h
  by_cases h0:y.l.length=0∨(v=3∧1<y.l.length)
  ·rw[if_pos h0]at h;cases h
  rw[if_neg h0]at h
  by_cases h1:zDo txn y.l=0
  ·rw[if_neg (by simp[h1])]at h
   rcases List.mem_cons.1 hx with rfl|hx
   ·exact h1
   ·exact zK1 txn v t h x hx
  ·rw[if_pos h1]at h;exact absurd h h1
theorem zK2(txn:Bool)(v:Int):∀(l:List PTop),zD4 txn v l=0→∀x∈l,zDn txn v x.l=0
 |[],_,_,hx=>by cases hx
 |y::t,h,x,hx=>by
  rw[zDH]at h
  by_cases h1:zDn txn v y.l=0
  ·rw[if_neg (by simp[h1])]at h
   rcases List.mem_cons.1 hx with rfl|hx
   ·exact h1
   ·exact zK2 txn v t h x hx
  ·rw[if_pos h1]at h;exact absurd h h1
theorem zK4:∀(l:List BatR),(∀z∈l,zAj z.b=0)→errB l=0
 |[],_=>rfl
 |x::t,h=>by
  show(if zAj x.b=0 then errB t else zAj x.b)=0
  rw[if_pos (h x sM)];exact zK4 t (fun z hz=>h z (by simp[hz]))
theorem zGW:∀(l:List PartR),(∀y∈l,(encB y.l).length≤14000*y.l.length)→(l.flatMap zAv).length≤140*zCv l
 |[],_=>by simp[zCv]
 |x::t,h=>by
  have h1:=zGW t (fun y hy=>h y (by simp[hy]));have h2:=h x sM
  have h3:(zAv x).length=8+(encB x.l).length:=by
   unfold zAv encF;simp only[Jc];have g1:(zAa x.idx (4:Int).toNat).length=4:=zAb _ _;have g2:∀n,(zAa n 4).length=4:=fun n=>zAb _ _
   rw[g1,g2]
   omega
  rw[Jg,Jc,h3];simp only[zCv]
  omega
theorem zGY:∀(l:List PTop),(∀x∈l,∀y∈x.l,(encB y.l).length≤14000*y.l.length)→(l.flatMap zAg).length≤140*zBU l
 |[],_=>by simp[zBU]
 |x::t,h=>by
  have h1:=zGY t (fun y hy=>h y (by simp[hy]));have h2:=zGW x.l (h x sM)
  have h3:(zAg x).length=6+x.name.length+(x.l.flatMap zAv).length:=by
   unfold zAg encF;simp only[Jc];have g1:(zAa (x.l.length:Int) (4:Int).toNat).length=4:=zAb _ _;have g2:∀n,(zAa n 2).length=2:=fun n=>zAb _ _
   rw[g1,g2]
   omega
  rw[Jg,Jc,h3];simp only[zBU]
  omega
theorem zK9:∀(l:List BatR),(∀x∈l,x.b.enc.length≤14000)→(encB l).length≤14000*l.length
 |[],_=>by simp[encB]
 |x::t,h=>by
  have h1:=zK9 t (fun y hy=>h y (by simp[hy]));have h2:=h x sM;rw[zG0,Jc,Jn]
  omega
structure GoodReq (nl:Bool) (dd:Bs) (ac tm:Int) (l:List PTop):Prop where
 right:(⟨nl,dd⟩:BlobS).right=true
 id:dd.length≤32767
 hac: -1≤ac∧ac≤1
 htm:0≤tm∧tm<2147483648
 few:l.length≤1000000
 put:∀x∈l,PutT x
 wr:∀x∈l,WrT x
 bk:∀x∈l,BkT x
 len:(zAR nl dd ac tm l).length≤300000
theorem GoodReq.of{nl:Bool}{dd:Bs}{ac tm v:Int}{l:List PTop}(he:zA9 ⟨nl,dd⟩ ac tm v l=0)(hf:∀x∈l,FewT20 x)(hs:∀x∈l,SmT x)(hz:∀j,j≤l.length→AllP (l.take j)→j=0∨dd.length+zBU (l.take j)≤2000):GoodReq nl dd ac tm l:=by
 unfold zA9 at he
 by_cases h1:(⟨nl,dd⟩:BlobS).right=false∨((⟨nl,dd⟩:BlobS).null=false∧zAu (⟨nl,dd⟩:BlobS).data=false)
 ·rw[if_pos h1]at he;cases he
 rw[if_neg h1]at he
 by_cases h2:ac< -1∨1<ac∨tm<0∨2147483647<tm
 ·rw[if_pos h2]at he;cases he
 rw[if_neg h2]at he
 by_cases h3:zBx l=0
 rotate_left
 ·rw[if_pos h3]at he;exact absurd he h3
 rw[if_neg (by simp[h3])]at he;have hr:(⟨nl,dd⟩:BlobS).right=true:=by cases hh:(⟨nl,dd⟩:BlobS).right with|true=>rfl|false=>exact absurd (.inl hh) h1
 have h0:l.length≠0:=fun hh=>by unfold zBx at h3;rw[if_pos hh]at h3;cases h3
 have ht:errT [] l=0:=by unfold zBx at h3;rw[if_neg h0]at h3;exact h3
 have hT:=zNF l [] ht
 have hsz:dd.length+zBU l≤2000:=by
  rcases hz l.length (Nat.le_refl _) (by rw[List.take_length];exact fun x hx=>(hT x hx).1)with h|h
  ·exact absurd h h0
  ·rwa [List.take_length]at h
 have hP:=zK2 (!nl) v l he;have hbat:∀x∈l,∀y∈x.l,∀z∈y.l,zAj z.b=0:=fun x hx y hy z hz=>zK3 _ y.l (zK1 _ _ x.l (hP x hx) y hy) z hz
 have hfit:∀x∈l,∀y∈x.l,∀z∈y.l,z.Fit:=fun x hx y hy z hz=>((hf x hx).parts y hy).fit z hz
 have hlen:∀x∈l,x.name.length≤2000∧x.l.length≤200∧∀y∈x.l,y.l.length≤20:=fun x hx=>by
  have g1:=zJ7 l x hx;have g2:=zKb x.l;refine⟨oM,oM,fun y hy=> ?_⟩;have g3:=zKa x.l y hy
  omega
 have hput:∀x∈l,PutT x:=fun x hx=>⟨by have:=(hlen x hx).1;omega,by have:=(hlen x hx).2.1;omega,fun y hy=>
  ⟨(hlen x hx).2.2 y hy,hfit x hx y hy,fun z hz=>hs x hx y hy z hz,zK4 y.l (hbat x hx y hy),by have:=zKk x.l (-1) (hT x hx).2.2 y hy;omega⟩⟩
 have hso:∀x∈l,∀y∈x.l,∀z∈y.l,SmallOk z.b:=fun x hx y hy z hz=>BatR.small (hfit x hx y hy z hz) (hs x hx y hy z hz) (hbat x hx y hy z hz)
 have hl14:=zGY l (fun x hx y hy=>zK9 y.l (fun z hz=>BatR.elen (hfit x hx y hy z hz) (hs x hx y hy z hz)));have hl10:=zJ8 l;refine⟨hr,oM,oM,oM,oM,hput,fun x hx=>⟨by have:=(hlen x hx).1;omega,fun y hy=>⟨by have:=((hput x hx).parts y hy).idx;omega,fun z hz=>⟨(hfit x hx y hy z hz).2.2,EncOk.small (hso x hx y hy z hz)⟩⟩⟩,fun x hx=>⟨by have:=(hlen x hx).1;omega,by have:=(hlen x hx).2.1;omega,fun y hy=>⟨by have:=((hput x hx).parts y hy).idx;omega,by have:=((hput x hx).parts y hy).len;omega,hso x hx y hy⟩⟩,?_⟩
 have e:(zAR nl dd ac tm l).length=12+dd.length+(l.flatMap zAg).length:=by
  unfold zAR encF;simp only[Jc];have g1:(zAa (l.length:Int) (4:Int).toNat).length=4:=zAb _ _;have g2:∀n,(zAa n 2).length=2:=fun n=>zAb _ _
  have g3:(zAa tm (4:Int).toNat).length=4:=zAb _ _;have g4:(zAa ac (2:Int).toNat).length=2:=zAb _ _;rw[g1,g2,g3,g4]
  omega
 rw[e]
 omega
structure LawOk (nl:Bool) (x:BatR):Prop where
 mid:MidOk x.b
 recs:x.l.map (·.1)=x.b.recs
 ctl:x.b.ctl=false
 txn:x.b.txn= !nl
theorem MidOk.elen{b:BatS}(h:MidOk b):b.enc.length≤2061:=by rw[b.enc_len];have:=h.rows;omega
theorem zNJ:∀(l:List BatR),(∀x∈l,MidOk x.b)→(encB l).length≤2061*l.length
 |[],_=>by simp[encB]
 |x::t,h=>by
  have h1:=zNJ t (fun y hy=>h y (by simp[hy]));have h2:=(h x sM).elen;have e:encB (x::t)=x.b.enc++encB t:=rfl;rw[e,Jc,Jn]
  omega
structure PutPM (x:PartR):Prop where
 few:x.l.length≤30
 fit:∀y∈x.l,y.l.map (·.1)=y.b.recs∧MidOk y.b
 idx:0≤x.idx∧x.idx≤2147483647
structure PutTM (x:PTop):Prop where
 name:x.name.length≤32767
 few:x.l.length≤100000
 parts:∀y∈x.l,PutPM y
theorem PutPM.len{x:PartR}(h:PutPM x):(encB x.l).length≤280000:=by
 have h1:=zNJ x.l (fun y hy=>(h.fit y hy).2);have:=h.few
 omega
end Go.Proofs.YteldcbljedeeiaaGreatDoor
