/- A text. -/
import Derived.Test.YtnnnglklgofabaaGreatGProduceReads3
import Derived.Deep.RegionHeld3
import Derived.Test.YtnnnglklgofabaaGreatGProduceReads2
/- A text. -/
namespace Go.Proofs.YtnnnglklgofabaaGreat
open Go.RowKit
set_option maxHeartbeats 1000000
set_option maxRecDepth 100000
variable {W0 w:World}{K:Know}{L:List Res}
theorem raw7{b:Nat}{T:TypeId}{v0 v1 v2 v3 v4 v5 v6:Value}(h:St W0 w K (.raw b #[v0,v1,v2,v3,v4,v5,v6] T::L)):
 w.cell? ⟨b,0,none⟩=some v0∧w.cell? ⟨b,1,none⟩=some v1∧w.cell? ⟨b,2,none⟩=some v2∧w.cell? ⟨b,3,none⟩=some v3∧w.cell? ⟨b,4,none⟩=some v4∧w.cell? ⟨b,5,none⟩=some v5∧w.cell? ⟨b,6,none⟩=some v6∧
 w.frozen? ⟨b,0,none⟩=false∧w.frozen? ⟨b,1,none⟩=false∧w.frozen? ⟨b,2,none⟩=false∧w.frozen? ⟨b,3,none⟩=false∧w.frozen? ⟨b,4,none⟩=false∧w.frozen? ⟨b,5,none⟩=false∧w.frozen? ⟨b,6,none⟩=false:=
 ⟨h.rawCell 0,h.rawCell 1,h.rawCell 2,h.rawCell 3,h.rawCell 4,h.rawCell 5,h.rawCell 6,h.rawFree 0,h.rawFree 1,h.rawFree 2,h.rawFree 3,h.rawFree 4,h.rawFree 5,h.rawFree 6⟩
def zC5 (x:BlobS):List Value:=[.bool x.null,.string (bb x.data)]
theorem zPp:zEd Tryz.prog 23 (.agg #[.bool false,.string ⟨#[]⟩]) 2 24:=zBT (by kernel_rfl) rfl dD
def zCT (x:RecS):List BlobS:=x.key::x.val::x.hdrs.map HdrS.val
theorem zJf(x:RecS):(zCT x).all BlobS.right=x.allRight:=by
 unfold zCT RecS.allRight zBP;rw[List.all_cons,List.all_cons,List.all_map,Bool.and_assoc]
 rfl
theorem zN5(l:List BlobS)(k:Nat)(h:k<l.length):(l.flatMap zC5)[k*2]? =some (.bool l[k].null)∧(l.flatMap zC5)[k*2+1]? =some (.string (bb l[k].data)):=by
 have h0:=zCG l zC5 2 (fun _ _=>rfl) k h 0 dD;have h1:=zCG l zC5 2 (fun _ _=>rfl) k h 1 dD;rw[Nat.add_zero]at h0;exact⟨h0,h1⟩
theorem zJ3(g cap n:Nat)(l:List BlobS)(hn:n=l.length)(hl:l.length≤9223372036854775807)(h:St W0 w K (.row (.slice (some ⟨g,0,none⟩) n cap) 23 2 n (l.flatMap zC5)::L)):
 Calls Tryz.prog 151 #[.slice (some ⟨g,0,none⟩) n cap] w fun en w'=>en=.returned (.bool (l.all BlobS.right))∧St W0 w' K (.row (.slice (some ⟨g,0,none⟩) n cap) 23 2 n (l.flatMap zC5)::L):=by
 subst hn;have H:=hQd h;obtain⟨r,hr⟩:∃r,l.all BlobS.right=r:=⟨_,rfl⟩;have HR:=hQd hr;rw[hr];clear h hr;go_enter Tryz.func151,Tryz.ntmps151;go_wp2;go_loopw [7] (fun iv wr=>∃k:Nat,k≤l.length∧iv=.int .i64 k∧(l.take k).all BlobS.right=true∧St W0 wr K (.row (.slice (some ⟨g,0,none⟩) l.length cap) 23 2 l.length (l.flatMap zC5)::L)) (fun iv _=>l.length - (intOf iv).toNat)
 case atStart=>exact⟨0,Nat.zero_le _,rfl,rfl,H.out⟩
 case round=>
  obtain⟨k,hk,rfl,hall,hst⟩:=hrel;have HALL:=hQd hall;clear hall
  by_cases hlt:k<l.length
  ·obtain⟨e0,e1⟩:=zN5 l k hlt;have c0:=(hst.rowCell (k*2) oM).trans e0;have c1:=(hst.rowCell (k*2+1) oM).trans e1;have hnx:(l.take (k+1)).all BlobS.right=(l[k]'hlt).right:=by rw[List.take_succ_eq_append_getElem hlt,List.all_append,HALL.out];simp
   have hno:(l[k]'hlt).right=false→l.all BlobS.right=false:=by
    intro h;rw[List.all_eq_false];exact⟨_,List.getElem_mem hlt,by rw[h];decide⟩
   obtain⟨x,hx⟩:∃x,l[k]'hlt=x:=⟨_,rfl⟩;rw[hx]at c0 c1 hnx hno;have HX:=hQd (And.intro hnx hno);have H:=hQd hst;clear hst e0 e1 hx hnx hno
   cases hxr:x.right
   all_goals
    have ER:=hQd hxr;clear hxr;go_wp2_with (go_at_call 37;refine(zFl x (H.out.alloc _)).mono ?_;rw[ER.out];rintro e wn ⟨rfl,h⟩;replace H:=hQd h;clear h)
   ·go_ret;exact⟨zAB (by rw[←HR.out];exact(HX.out.2 ER.out).symm),H.out⟩
   ·go_roundw
    case rel=>exact⟨k+1,hlt,by go_num,by rw[HX.out.1,ER.out],H.out⟩
    case measure=>first|(simp[intOf];done)|(simp[intOf];omega)
  ·have hke:k=l.length:=by omega
   subst hke;rw[List.take_length]at HALL;go_wp2;go_ret;exact⟨zAB (by rw[←HR.out];exact HALL.out.symm),hst⟩
theorem zOI(x:RecS)(v:Value)(hl:x.hdrs.length≤1000000)(hk:K.has (Know.flat RHdr v 3 x.hdrs))(h:St W0 w K L):
 Calls Tryz.prog 152 #[.agg #[.int .i64 x.time,.int .i64 x.off,.bool x.key.null,.string (bb x.key.data),.bool x.val.null,.string (bb x.val.data),v]] w fun en w'=>∃g cap,en=.returned (.slice (some ⟨g,0,none⟩) (zCT x).length cap)∧St W0 w' K (.row (.slice (some ⟨g,0,none⟩) (zCT x).length cap) 23 2 (zCT x).length ((zCT x).flatMap zC5)::L):=by
 obtain⟨q,cap,rfl⟩:=zAq hk h;have h0:=(h.allocRaw #[.int .i64 x.time,.int .i64 x.off,.bool x.key.null,.string (bb x.key.data),.bool x.val.null,.string (bb x.val.data),.slice q x.hdrs.length cap] 119).rowLit (zC5 x.key++zC5 x.val) 23 2 2 rfl dD;have H:=hQd h0;have HK:=hQd hk;clear h hk h0;go_enter Tryz.func152,Tryz.ntmps152;go_wp2;have H2:=hQd ((H.out.p1.drop).cast (L':=.row (.slice (some ⟨w.heap.size+1,0,none⟩) 2 2) 23 2 [x.key,x.val].length ([x.key,x.val].flatMap zC5)::L) (by rw[World.size_alloc];rfl));clear H;go_loopw [3,14] (fun lv iv wr=>∃(k:Nat) (acc:List BlobS),k≤x.hdrs.length∧iv=.int .i64 k∧acc=x.key::x.val::(x.hdrs.take k).map HdrS.val∧St W0 wr K (.row lv 23 2 acc.length (acc.flatMap zC5)::L)) (fun _ iv _=>x.hdrs.length - (intOf iv).toNat)
 case atStart=>exact⟨0,_,Nat.zero_le _,rfl,by rw[List.take_zero];rfl,H2.out⟩
 case round=>
  obtain⟨k,acc,hk,rfl,hacc,hst⟩:=hrel;have HACC:=hQd hacc;have H:=hQd hst;have hlen:acc.length=k+2:=by rw[hacc];simp;omega
  have HLEN:=hQd hlen;clear hacc hlen H2
  by_cases hlt:k<x.hdrs.length
  ·obtain⟨b,off,hq,yq⟩:=zC0 HK.out hst k hlt;subst hq;clear yq;obtain⟨y,hy⟩:∃y,x.hdrs[k]'hlt=y:=⟨_,rfl⟩;obtain⟨c0,c1,c2,_⟩:=zCZ HK.out hlt hy hst;have HY:=hQd (show acc++[y.val]=x.key::x.val::(x.hdrs.take (k+1)).map HdrS.val by rw[HACC.out,List.take_succ_eq_append_getElem hlt,hy];simp);clear hst hy;go_wp2_with (at_builtin;refine zAw rfl _ _ 207 rfl 23 Tryz.underlying207 zPp _ _ _ rfl (H.out.alloc _) [.bool y.val.null,.string (bb y.val.data)] 23 (by rw[World.size_alloc];rfl) rfl (by simp[Value.oneCell']) (by have:=HLEN.out;unfold maxLen;omega) (by have:=HLEN.out;omega) ?_;intro v' w' h;replace H:=hQd h;clear h);go_roundw
   case rel=>exact⟨k+1,acc++[y.val],hlt,by go_num,HY.out,H.out.cast (by simp[zC5])⟩
   case measure=>first|(simp[intOf];done)|(simp[intOf];omega)
  ·have hke:k=x.hdrs.length:=by omega
   subst hke;rw[List.take_length]at HACC;have hb:acc=zCT x:=HACC.out;subst hb;obtain⟨g,cp,hv⟩:=hst.rowSlice (by unfold zCT;simp);subst hv;clear hst;go_wp2;go_ret;exact⟨g,cp,rfl,H.out⟩
theorem zEm(x:RecS)(v:Value)(e:Int)(he:zBc x=e)(hl:x.hdrs.length≤1000000)(hk:K.has (Know.flat RHdr v 3 x.hdrs))(h:St W0 w K L):
 Calls Tryz.prog 122 #[.agg #[.int .i64 x.time,.int .i64 x.off,.bool x.key.null,.string (bb x.key.data),.bool x.val.null,.string (bb x.val.data),v]] w fun en w'=>en=.returned (.int .i64 e)∧St W0 w' K L:=by
 have H:=hQd (h.allocRaw #[.int .i64 x.time,.int .i64 x.off,.bool x.key.null,.string (bb x.key.data),.bool x.val.null,.string (bb x.val.data),v] 119);have HK:=hQd hk;have HL:=hQd hl;have hlb:(zCT x).length≤9223372036854775807:=by unfold zCT;simp;omega
 have HLB:=hQd hlb;clear h hk hl hlb;unfold zBc at he
 by_cases h1:x.off<0
 ·rw[if_pos (.inl h1)]at he;subst he;go_enter Tryz.func122,Tryz.ntmps122;go_wp2;go_ret;exact⟨rfl,H.out.drop⟩
 by_cases h2:2147483647<x.off
 ·rw[if_pos (.inr h2)]at he;subst he;go_enter Tryz.func122,Tryz.ntmps122;go_wp2;go_ret;exact⟨rfl,H.out.drop⟩
 rw[if_neg oM]at he
 cases hr:x.allRight
 all_goals
  rw[hr]at he;have ER:=hQd ((zJf x).trans hr);clear hr
  first|(simp only[if_true]at he)|(simp only[Bool.false_eq_true,if_false]at he)
  subst he;go_enter Tryz.func122,Tryz.ntmps122
  go_wp2_with (first
   |(go_at_call 152;refine(zOI x v HL.out HK.out H.out).mono ?_;rintro e wn ⟨g,cap,rfl,h⟩;replace H:=hQd h;clear h)
   |(go_at_call 151;refine(zJ3 g cap _ _ rfl HLB.out H.out).mono ?_;rw[ER.out];rintro e wn ⟨rfl,h⟩;replace H:=hQd h;clear h))
  go_ret;exact⟨rfl,H.out.drop.drop⟩
set_option maxHeartbeats 8000000
variable {W0 w:World}{K:Know}{L:List Res}
theorem zMG(a b:Bs):(⟨a,0⟩:OutS).put b=⟨a++b,0⟩:=rfl
theorem zIB(p:Nat)(x:RecS)(v:Value)(hx:x.R)(ho:zBc x=0)(hs:x.sum≤1000000)(hk:K.has (Know.flat RHdr v 3 x.hdrs))(h:St W0 w K (.out p ⟨[],0⟩::L)):
 Calls Tryz.prog 155 #[zAO p,.agg #[.int .i64 x.time,.int .i64 x.off,.bool x.key.null,.string (bb x.key.data),.bool x.val.null,.string (bb x.val.data),v]] w fun en w'=>en=.returned (.tuple #[])∧St W0 w' K (.out p ⟨recF x,0⟩::L):=by
 have H:=hQd (h.allocRaw #[.int .i64 x.time,.int .i64 x.off,.bool x.key.null,.string (bb x.key.data),.bool x.val.null,.string (bb x.val.data),v] 119).p1;have HK:=hQd hk;obtain⟨ho,hr⟩:=zHR ho;have hle:=zE7 x hx hs;unfold RecS.allRight at hr;rw[Bool.and_eq_true,Bool.and_eq_true]at hr;have hsm:=hs;unfold RecS.sum at hsm;have hsl:=zCQ x.hdrs;have HT:=hQd hx.1;have HO:=hQd hx.2;obtain⟨s2,h2⟩:∃s,[0]++encI x.time=s:=⟨_,rfl⟩;obtain⟨s3,h3⟩:∃s,s2++encI x.off=s:=⟨_,rfl⟩;obtain⟨s4,h4⟩:∃s,s3++encV x.key=s:=⟨_,rfl⟩;obtain⟨s5,h5⟩:∃s,s4++encV x.val=s:=⟨_,rfl⟩;have h6:s5++zDo x.hdrs=recF x:=by rw[←h5,←h4,←h3,←h2];unfold recF;simp only[List.append_assoc]
 obtain⟨s6,hs6⟩:∃s,recF x=s:=⟨_,rfl⟩;rw[hs6]at h6 hle ⊢;have l6:=congrArg List.length h6;have l5:=congrArg List.length h5;have l4:=congrArg List.length h4;have l3:=congrArg List.length h3;have l2:=congrArg List.length h2;simp only[List.length_append,List.length_cons,List.length_nil]at l2 l3 l4 l5 l6;have E1:=hQd (show(⟨[],0⟩:OutS).put [0]=⟨[0],0⟩from rfl);have E2:=hQd (show(⟨[0],0⟩:OutS).putLong x.time=⟨s2,0⟩from by rw[←h2];rfl);have E3:=hQd (show(⟨s2,0⟩:OutS).putInt x.off=⟨s3,0⟩from by rw[zHV oM oM,zMG,h3]);have E4:=hQd (show(⟨s3,0⟩:OutS).putVaried x.key=⟨s4,0⟩from by rw[zBo hr.1.1 oM,zMG,h4]);have E5:=hQd (show(⟨s4,0⟩:OutS).putVaried x.val=⟨s5,0⟩from by rw[zBo hr.1.2 oM,zMG,h5]);have E6:=hQd (show(⟨s5,0⟩:OutS).putHdrs x.hdrs=⟨s6,0⟩from by rw[zIJ hr.2 oM,zMG,h6]);have K1:=hQd (show(⟨[0],0⟩:OutS).ok 16 by unfold OutS.ok;simp);have K2:=hQd (show(⟨s2,0⟩:OutS).ok 16 by unfold OutS.ok;simp only;omega);have K3:=hQd (show(⟨s3,0⟩:OutS).ok (x.key.data.length+16) by unfold OutS.ok;simp only;omega);have K4:=hQd (show(⟨s4,0⟩:OutS).ok (x.val.data.length+16) by unfold OutS.ok;simp only;omega);have K5:=hQd (show(⟨s5,0⟩:OutS).ok (hsize x.hdrs+16) by unfold OutS.ok;simp only;omega);have HLL:=hQd (show x.hdrs.length≤140737488355328 by omega);have t1:True:=trivial;have t2:True:=trivial;have t3:True:=trivial;have t4:True:=trivial;have t5:True:=trivial;have t6:True:=trivial;clear h hk hx ho hr hs hle hsm hsl h2 h3 h4 h5 h6 hs6 l2 l3 l4 l5 l6;go_enter Tryz.func155,Tryz.ntmps155
 go_wp2_with (first
  |(go_at_call 67;have _t:=t1;clear _t;refine(zQ8 _ _ 0 H.out (by unfold OutS.ok;decide)).mono ?_;rw[E1.out];rintro e wn ⟨rfl,h⟩;replace H:=hQd h;clear h t1;obtain⟨c0,c1,c2,c3,c4,c5,c6,f0,f1,f2,f3,f4,f5,f6⟩:=raw7 (b:=w.heap.size) H.out.p1)
  |(go_at_call 175;have _t:=t2;clear _t;refine(zNi _ _ _ HT.out H.out K1.out).mono ?_;rw[E2.out];rintro e wn ⟨rfl,h⟩;replace H:=hQd h;clear h t2;obtain⟨c0,c1,c2,c3,c4,c5,c6,f0,f1,f2,f3,f4,f5,f6⟩:=raw7 (b:=w.heap.size) H.out.p1)
  |(go_at_call 176;have _t:=t3;clear _t;refine(zGb _ _ _ HO.out H.out K2.out).mono ?_;rw[E3.out];rintro e wn ⟨rfl,h⟩;replace H:=hQd h;clear h t3;obtain⟨c0,c1,c2,c3,c4,c5,c6,f0,f1,f2,f3,f4,f5,f6⟩:=raw7 (b:=w.heap.size) H.out.p1)
  |(go_at_call 177;have _t:=t4;clear _t;refine(zCb _ _ x.key H.out K3.out).mono ?_;rw[E4.out];rintro e wn ⟨rfl,h⟩;replace H:=hQd h;clear h t4;obtain⟨c0,c1,c2,c3,c4,c5,c6,f0,f1,f2,f3,f4,f5,f6⟩:=raw7 (b:=w.heap.size) H.out.p1)
  |(go_at_call 177;have _t:=t5;clear _t;refine(zCb _ _ x.val H.out K4.out).mono ?_;rw[E5.out];rintro e wn ⟨rfl,h⟩;replace H:=hQd h;clear h t5;obtain⟨c0,c1,c2,c3,c4,c5,c6,f0,f1,f2,f3,f4,f5,f6⟩:=raw7 (b:=w.heap.size) H.out.p1)
  |(go_at_call 178;have _t:=t6;clear _t;refine(zKx _ _ _ x.hdrs HLL.out HK.out H.out K5.out).mono ?_;rw[E6.out];rintro e wn ⟨rfl,h⟩;replace H:=hQd h;clear h t6;obtain⟨c0,c1,c2,c3,c4,c5,c6,f0,f1,f2,f3,f4,f5,f6⟩:=raw7 (b:=w.heap.size) H.out.p1))
 go_end0;exact⟨rfl,H.out.p1.drop⟩
theorem zNy(x:RecS)(v:Value)(he:zBc x=0)(hl:x.hdrs.length≤1000000)(hk:K.has (Know.flat RHdr v 3 x.hdrs))(h:St W0 w K L):
 Calls Tryz.prog 122 #[.agg #[.int .i64 x.time,.int .i64 x.off,.bool x.key.null,.string (bb x.key.data),.bool x.val.null,.string (bb x.val.data),v]] w fun en w'=>en=.returned (.int .i64 0)∧St W0 w' K L:=zEm x v 0 he hl hk h
theorem zOH(p:Nat)(o o':OutS)(x:RecS)(v:Value)(hx:x.R)(hs:x.sum≤1000000)(hoo:o.putRec x=o')(hro:o.ok 40000000)(hk:K.has (Know.flat RHdr v 3 x.hdrs))(h:St W0 w K (.out p o::L)):
 Calls Tryz.prog 125 #[zAO p,.agg #[.int .i64 x.time,.int .i64 x.off,.bool x.key.null,.string (bb x.key.data),.bool x.val.null,.string (bb x.val.data),v]] w fun en w'=>en=.returned (.tuple #[])∧St W0 w' K (.out p o'::L):=by
 have H:=hQd (h.allocRaw #[.int .i64 x.time,.int .i64 x.off,.bool x.key.null,.string (bb x.key.data),.bool x.val.null,.string (bb x.val.data),v] 119).p1;have HK:=hQd hk;have HL:=hQd (show x.hdrs.length≤1000000 by have:=zCQ x.hdrs;unfold RecS.sum at hs;omega);unfold OutS.putRec at hoo
 by_cases he:zBc x=0
 ·rw[if_pos he]at hoo;have hle:=zE7 x hx hs;have HX:=hQd hx;have HE:=hQd he;have HS:=hQd hs;have ET:=hQd (show(⟨recF x,0⟩:OutS).text=(recF x,0)from rfl);have EP:=hQd (show o.putName (recF x)=o' by unfold OutS.putName;rw[zBo rfl (by simp only;omega)];exact hoo);have KO:=hQd (show o.ok ((recF x).length+16)from OutS.ok_mono hro oM);obtain⟨s,hsd⟩:∃s,recF x=s:=⟨_,rfl⟩;rw[hsd]at ET EP KO;have HSD:=hQd hsd;clear h hk he hoo hle hx hs hro hsd;go_enter Tryz.func125,Tryz.ntmps125
  go_wp2_with (first
   |(go_at_call 122;refine(zNy x v HE.out HL.out HK.out H.out).mono ?_;rintro e wn ⟨rfl,h⟩;replace H:=hQd h;have HA:=hQd (h.p1.allocOut);clear h;obtain⟨c0,c1,c2,c3,c4,c5,c6,f0,f1,f2,f3,f4,f5,f6⟩:=raw7 (b:=w.heap.size) HA.out.p1)
   |(go_at_call 155;refine(zIB _ x v HX.out HE.out HS.out HK.out HA.out).mono ?_;rw[HSD.out];rintro e wn ⟨rfl,h⟩;replace H:=hQd h;clear h)
   |(go_at_call 9;refine(zIp _ _ H.out).mono ?_;rw[ET.out];rintro e wn ⟨rfl,h⟩;replace H:=hQd h.p2;clear h)
   |(go_at_call 156;refine(zFB _ _ s H.out KO.out).mono ?_;rw[EP.out];rintro e wn ⟨rfl,h⟩;replace H:=hQd h;clear h))
  go_end0;exact⟨rfl,H.out.p2.drop.p1.drop⟩
 ·rw[if_neg he]at hoo;obtain⟨e,hee⟩:∃e,zBc x=e:=⟨_,rfl⟩;rw[hee]at he hoo;have hb:(e !=0)=true:=by rw[bne_iff_ne];exact he
  have HE:=hQd hee;have EF:=hQd hoo;clear h hk he hoo hx hs hro hee;go_enter Tryz.func125,Tryz.ntmps125
  go_wp2_with (first
   |(go_at_call 122;refine(zEm x v e HE.out HL.out HK.out H.out).zM ?_;clear H;intro wn H)
   |(go_at_call 30;refine(zIq _ _ _ H.out).mono ?_;rw[EF.out];rintro e wn ⟨rfl,h⟩;replace H:=hQd h;clear h))
  refine bodyPost_ret (results_none rfl _ _ _) rfl ⟨rfl,H.out.p1.drop⟩
variable {W0 w:World}{K:Know}{L:List Res}
theorem St.raw_ne{a b:Nat}{c c':Array Value}{T T':TypeId}(h:St W0 w K (.raw a c T::.raw b c' T'::L)):¬(a=b):=by
 rintro rfl;obtain⟨_,S,F,⟨S1,S2,h1,⟨S3,S4,h3,_,_,e3⟩,d1,_⟩,_⟩:=h;exact d1 a ((h1.2 a).2 rfl) ((e3 a).2 (.inl ((h3.2 a).2 rfl)))
theorem St.set1{r:Res}{b j:Nat}{c:Array Value}{T:TypeId}{v:Value}(h:St W0 w K (r::.raw b c T::L)):St W0 (w.setCell ⟨b,j,none⟩ v) K (r::.raw b (c.setIfInBounds j v) T::L):=(h.p1.rawSet j v).p1
theorem zq68{p:Prop}(h:p:=by simp[results,Tryz.results186,go_sem,qc0,qc1,qc2,qc3,qc4,qc5,qc6]):p:=h
theorem zID(p:Nat)(i i1 i2 i3 i4 i5 i6:InS)(a t o:Int)(kb vb:BlobS)(hs:List HdrS)(e0:i.int 1=(a,i1))(ha:(a !=0)=false)(e1:i1.vlong=(t,i2))(e2:i2.vint=(o,i3))(ho:¬o<0)(e4:i3.varied=(kb,i4))(e5:i4.varied=(vb,i5))(e6:i5.hdrs=(hs,i6))(h:St W0 w K (.inp p i::L)):
 Calls Tryz.prog 186 #[zAu p] w fun en w'=>∃v,en=.returned (.agg #[.int .i64 t,.int .i64 o,.bool kb.null,.string (bb kb.data),.bool vb.null,.string (bb vb.data),v])∧St W0 w' (K.and (Know.flat RHdr v 3 hs)) (.inp p i6::L):=by
 have h0:=(h.allocRaw #[.int .i64 0,.int .i64 0,.bool false,.string ⟨#[]⟩,.bool false,.string ⟨#[]⟩,.slice none 0 0] 119).p1;obtain⟨wA,hwA⟩:∃b,w.heap.size=b:=⟨_,rfl⟩;rw[hwA]at h0;have H:=hQd h0;have E0:=hQd e0;have E1:=hQd e1;have E2:=hQd e2;have E4:=hQd e4;have E5:=hQd e5;have E6:=hQd e6;have t0:True:=trivial;have t1:True:=trivial;have t2:True:=trivial;have t3:True:=trivial;have t4:True:=trivial;have t5:True:=trivial;have t6:True:=trivial;clear h h0 e0 e1 e2 e4 e5 e6;go_enter Tryz.func186,Tryz.ntmps186
 go_wp2_with (first
  |(go_at_call 44;have _t:=t0;clear _t;refine(zCO _ i 1 H.out).mono ?_;rw[E0.out];rintro e wn ⟨rfl,h⟩;replace H:=hQd (show St W0 wn K (.inp p i1::.raw wA #[.int .i64 0,.int .i64 0,.bool false,.string ⟨#[]⟩,.bool false,.string ⟨#[]⟩,.slice none 0 0] 119::L)from h);clear h t0;obtain⟨wB,hwB⟩:∃b,wn.heap.size=b:=⟨_,rfl⟩;have HB:=H.out.allocRaw #[.int .i64 0,.int .i64 0,.bool false,.string ⟨#[]⟩,.bool false,.string ⟨#[]⟩,.slice none 0 0] 119;rw[hwB]at HB;have HB:=hQd HB.p1)
  |(go_at_call 188;have _t:=t2;clear _t;refine(zIl _ i1 HB.out).mono ?_;rw[E1.out];rintro e wn ⟨rfl,h⟩;replace H:=hQd (show St W0 wn (K) (.inp p i2::.raw wB #[.int .i64 0,.int .i64 0,.bool false,.string ⟨#[]⟩,.bool false,.string ⟨#[]⟩,.slice none 0 0] 119::.raw wA #[.int .i64 0,.int .i64 0,.bool false,.string ⟨#[]⟩,.bool false,.string ⟨#[]⟩,.slice none 0 0] 119::L)from h);clear h t2;obtain⟨yc0,yc1,yc2,yc3,yc4,yc5,yc6,yf0,yf1,yf2,yf3,yf4,yf5,yf6⟩:=raw7 (H.out.p1))
  |(go_at_call 189;have _t:=t3;clear _t;refine(zGc _ i2 (St.set1 H.out)).mono ?_;rw[E2.out];rintro e wn ⟨rfl,h⟩;replace H:=hQd (show St W0 wn (K) (.inp p i3::.raw wB #[.int .i64 t,.int .i64 0,.bool false,.string ⟨#[]⟩,.bool false,.string ⟨#[]⟩,.slice none 0 0] 119::.raw wA #[.int .i64 0,.int .i64 0,.bool false,.string ⟨#[]⟩,.bool false,.string ⟨#[]⟩,.slice none 0 0] 119::L)from h);clear h t3;obtain⟨yc0,yc1,yc2,yc3,yc4,yc5,yc6,yf0,yf1,yf2,yf3,yf4,yf5,yf6⟩:=raw7 (H.out.p1))
  |(go_at_call 187;have _t:=t5;clear _t;refine(zA6 _ i3 (St.set1 H.out)).mono ?_;rw[E4.out];rintro e wn ⟨rfl,h⟩;replace H:=hQd (show St W0 wn (K) (.inp p i4::.raw wB #[.int .i64 t,.int .i64 o,.bool false,.string ⟨#[]⟩,.bool false,.string ⟨#[]⟩,.slice none 0 0] 119::.raw wA #[.int .i64 0,.int .i64 0,.bool false,.string ⟨#[]⟩,.bool false,.string ⟨#[]⟩,.slice none 0 0] 119::L)from h);clear h t5;obtain⟨yc0,yc1,yc2,yc3,yc4,yc5,yc6,yf0,yf1,yf2,yf3,yf4,yf5,yf6⟩:=raw7 (H.out.p1);unfold bv)
  |(go_at_call 187;have _t:=t6;clear _t;refine(zA6 _ i4 (St.set1 (St.set1 H.out))).mono ?_;rw[E5.out];rintro e wn ⟨rfl,h⟩;replace H:=hQd (show St W0 wn (K) (.inp p i5::.raw wB #[.int .i64 t,.int .i64 o,.bool kb.null,.string (bb kb.data),.bool false,.string ⟨#[]⟩,.slice none 0 0] 119::.raw wA #[.int .i64 0,.int .i64 0,.bool false,.string ⟨#[]⟩,.bool false,.string ⟨#[]⟩,.slice none 0 0] 119::L)from h);clear h t6;obtain⟨yc0,yc1,yc2,yc3,yc4,yc5,yc6,yf0,yf1,yf2,yf3,yf4,yf5,yf6⟩:=raw7 (H.out.p1);unfold bv)
  |(go_at_call 190;refine(zDh _ i5 (St.set1 (St.set1 H.out))).mono ?_;rw[E6.out];rintro e wn ⟨v,rfl,h⟩;obtain⟨q6,cap6,hv6⟩:=zAq (Know.has_right (Know.has_refl _)) h;subst hv6;replace H:=hQd (show St W0 wn (K.and (Know.flat RHdr (.slice q6 hs.length cap6) 3 hs)) (.inp p i6::.raw wB #[.int .i64 t,.int .i64 o,.bool kb.null,.string (bb kb.data),.bool vb.null,.string (bb vb.data),.slice none 0 0] 119::.raw wA #[.int .i64 0,.int .i64 0,.bool false,.string ⟨#[]⟩,.bool false,.string ⟨#[]⟩,.slice none 0 0] 119::L)from h);clear h;obtain⟨yc0,yc1,yc2,yc3,yc4,yc5,yc6,yf0,yf1,yf2,yf3,yf4,yf5,yf6⟩:=raw7 (H.out.p1);obtain⟨qc0,qc1,qc2,qc3,qc4,qc5,qc6,qf0,qf1,qf2,qf3,qf4,qf5,qf6⟩:=raw7 (H.out.p2);have hne1:¬(wB=wA):=H.out.drop.raw_ne;have hne2:¬(wA=wB):=(fun e=>hne1 e.symm)))
 refine bodyPost_ret (v:=.agg #[.int .i64 t,.int .i64 o,.bool kb.null,.string (bb kb.data),.bool vb.null,.string (bb vb.data),.slice q6 hs.length cap6]) zq68 rfl ⟨.slice q6 hs.length cap6,rfl,?_⟩;exact(((((((((H.out.p1.rawSet 6 (.slice q6 hs.length cap6)).p2).rawSet 0 _).rawSet 1 _).rawSet 2 _).rawSet 3 _).rawSet 4 _).rawSet 5 _).rawSet 6 _).drop.drop
theorem zIC(p:Nat)(i i1 i2 i3 j3 i4 i5 i6:InS)(a t o:Int)(kb vb:BlobS)(hs:List HdrS)(e0:i.int 1=(a,i1))(ha:(a !=0)=false)(e1:i1.vlong=(t,i2))(e2:i2.vint=(o,i3))(ho:o<0)(ej3:i3.fail 11=j3)(e4:j3.varied=(kb,i4))(e5:i4.varied=(vb,i5))(e6:i5.hdrs=(hs,i6))(h:St W0 w K (.inp p i::L)):
 Calls Tryz.prog 186 #[zAu p] w fun en w'=>∃v,en=.returned (.agg #[.int .i64 t,.int .i64 o,.bool kb.null,.string (bb kb.data),.bool vb.null,.string (bb vb.data),v])∧St W0 w' (K.and (Know.flat RHdr v 3 hs)) (.inp p i6::L):=by
 have h0:=(h.allocRaw #[.int .i64 0,.int .i64 0,.bool false,.string ⟨#[]⟩,.bool false,.string ⟨#[]⟩,.slice none 0 0] 119).p1;obtain⟨wA,hwA⟩:∃b,w.heap.size=b:=⟨_,rfl⟩;rw[hwA]at h0;have H:=hQd h0;have E0:=hQd e0;have E1:=hQd e1;have E2:=hQd e2;have E4:=hQd e4;have E5:=hQd e5;have E6:=hQd e6;have EJ3:=hQd ej3;have t0:True:=trivial;have t1:True:=trivial;have t2:True:=trivial;have t3:True:=trivial;have t4:True:=trivial;have t5:True:=trivial;have t6:True:=trivial;clear h h0 e0 e1 e2 e4 e5 e6 ej3;go_enter Tryz.func186,Tryz.ntmps186
 go_wp2_with (first
  |(go_at_call 44;have _t:=t0;clear _t;refine(zCO _ i 1 H.out).mono ?_;rw[E0.out];rintro e wn ⟨rfl,h⟩;replace H:=hQd (show St W0 wn K (.inp p i1::.raw wA #[.int .i64 0,.int .i64 0,.bool false,.string ⟨#[]⟩,.bool false,.string ⟨#[]⟩,.slice none 0 0] 119::L)from h);clear h t0;obtain⟨wB,hwB⟩:∃b,wn.heap.size=b:=⟨_,rfl⟩;have HB:=H.out.allocRaw #[.int .i64 0,.int .i64 0,.bool false,.string ⟨#[]⟩,.bool false,.string ⟨#[]⟩,.slice none 0 0] 119;rw[hwB]at HB;have HB:=hQd HB.p1)
  |(go_at_call 188;have _t:=t2;clear _t;refine(zIl _ i1 HB.out).mono ?_;rw[E1.out];rintro e wn ⟨rfl,h⟩;replace H:=hQd (show St W0 wn (K) (.inp p i2::.raw wB #[.int .i64 0,.int .i64 0,.bool false,.string ⟨#[]⟩,.bool false,.string ⟨#[]⟩,.slice none 0 0] 119::.raw wA #[.int .i64 0,.int .i64 0,.bool false,.string ⟨#[]⟩,.bool false,.string ⟨#[]⟩,.slice none 0 0] 119::L)from h);clear h t2;obtain⟨yc0,yc1,yc2,yc3,yc4,yc5,yc6,yf0,yf1,yf2,yf3,yf4,yf5,yf6⟩:=raw7 (H.out.p1))
  |(go_at_call 189;have _t:=t3;clear _t;refine(zGc _ i2 (St.set1 H.out)).mono ?_;rw[E2.out];rintro e wn ⟨rfl,h⟩;replace H:=hQd (show St W0 wn (K) (.inp p i3::.raw wB #[.int .i64 t,.int .i64 0,.bool false,.string ⟨#[]⟩,.bool false,.string ⟨#[]⟩,.slice none 0 0] 119::.raw wA #[.int .i64 0,.int .i64 0,.bool false,.string ⟨#[]⟩,.bool false,.string ⟨#[]⟩,.slice none 0 0] 119::L)from h);clear h t3;obtain⟨yc0,yc1,yc2,yc3,yc4,yc5,yc6,yf0,yf1,yf2,yf3,yf4,yf5,yf6⟩:=raw7 (H.out.p1))
  |(go_at_call 47;have _t:=t4;clear _t;refine(zCz _ i3 11 (St.set1 H.out)).mono ?_;rw[EJ3.out];rintro e wn ⟨rfl,h⟩;replace H:=hQd (show St W0 wn (K) (.inp p j3::.raw wB #[.int .i64 t,.int .i64 o,.bool false,.string ⟨#[]⟩,.bool false,.string ⟨#[]⟩,.slice none 0 0] 119::.raw wA #[.int .i64 0,.int .i64 0,.bool false,.string ⟨#[]⟩,.bool false,.string ⟨#[]⟩,.slice none 0 0] 119::L)from h);clear h t4;obtain⟨yc0,yc1,yc2,yc3,yc4,yc5,yc6,yf0,yf1,yf2,yf3,yf4,yf5,yf6⟩:=raw7 (H.out.p1);have HX:=H)
  |(go_at_call 187;have _t:=t5;clear _t;refine(zA6 _ j3 H.out).mono ?_;rw[E4.out];rintro e wn ⟨rfl,h⟩;replace H:=hQd (show St W0 wn (K) (.inp p i4::.raw wB #[.int .i64 t,.int .i64 o,.bool false,.string ⟨#[]⟩,.bool false,.string ⟨#[]⟩,.slice none 0 0] 119::.raw wA #[.int .i64 0,.int .i64 0,.bool false,.string ⟨#[]⟩,.bool false,.string ⟨#[]⟩,.slice none 0 0] 119::L)from h);clear h t5;obtain⟨yc0,yc1,yc2,yc3,yc4,yc5,yc6,yf0,yf1,yf2,yf3,yf4,yf5,yf6⟩:=raw7 (H.out.p1);unfold bv)
  |(go_at_call 187;have _t:=t6;clear _t;refine(zA6 _ i4 (St.set1 (St.set1 H.out))).mono ?_;rw[E5.out];rintro e wn ⟨rfl,h⟩;replace H:=hQd (show St W0 wn (K) (.inp p i5::.raw wB #[.int .i64 t,.int .i64 o,.bool kb.null,.string (bb kb.data),.bool false,.string ⟨#[]⟩,.slice none 0 0] 119::.raw wA #[.int .i64 0,.int .i64 0,.bool false,.string ⟨#[]⟩,.bool false,.string ⟨#[]⟩,.slice none 0 0] 119::L)from h);clear h t6;obtain⟨yc0,yc1,yc2,yc3,yc4,yc5,yc6,yf0,yf1,yf2,yf3,yf4,yf5,yf6⟩:=raw7 (H.out.p1);unfold bv)
  |(go_at_call 190;refine(zDh _ i5 (St.set1 (St.set1 H.out))).mono ?_;rw[E6.out];rintro e wn ⟨v,rfl,h⟩;obtain⟨q6,cap6,hv6⟩:=zAq (Know.has_right (Know.has_refl _)) h;subst hv6;replace H:=hQd (show St W0 wn (K.and (Know.flat RHdr (.slice q6 hs.length cap6) 3 hs)) (.inp p i6::.raw wB #[.int .i64 t,.int .i64 o,.bool kb.null,.string (bb kb.data),.bool vb.null,.string (bb vb.data),.slice none 0 0] 119::.raw wA #[.int .i64 0,.int .i64 0,.bool false,.string ⟨#[]⟩,.bool false,.string ⟨#[]⟩,.slice none 0 0] 119::L)from h);clear h;obtain⟨yc0,yc1,yc2,yc3,yc4,yc5,yc6,yf0,yf1,yf2,yf3,yf4,yf5,yf6⟩:=raw7 (H.out.p1);obtain⟨qc0,qc1,qc2,qc3,qc4,qc5,qc6,qf0,qf1,qf2,qf3,qf4,qf5,qf6⟩:=raw7 (H.out.p2);have hne1:¬(wB=wA):=H.out.drop.raw_ne;have hne2:¬(wA=wB):=(fun e=>hne1 e.symm)))
 refine bodyPost_ret (v:=.agg #[.int .i64 t,.int .i64 o,.bool kb.null,.string (bb kb.data),.bool vb.null,.string (bb vb.data),.slice q6 hs.length cap6]) zq68 rfl ⟨.slice q6 hs.length cap6,rfl,?_⟩;exact(((((((((H.out.p1.rawSet 6 (.slice q6 hs.length cap6)).p2).rawSet 0 _).rawSet 1 _).rawSet 2 _).rawSet 3 _).rawSet 4 _).rawSet 5 _).rawSet 6 _).drop.drop
theorem zIF(p:Nat)(i i1 j1 i2 i3 i4 i5 i6:InS)(a t o:Int)(kb vb:BlobS)(hs:List HdrS)(e0:i.int 1=(a,i1))(ha:(a !=0)=true)(ej1:i1.fail 8=j1)(e1:j1.vlong=(t,i2))(e2:i2.vint=(o,i3))(ho:¬o<0)(e4:i3.varied=(kb,i4))(e5:i4.varied=(vb,i5))(e6:i5.hdrs=(hs,i6))(h:St W0 w K (.inp p i::L)):
 Calls Tryz.prog 186 #[zAu p] w fun en w'=>∃v,en=.returned (.agg #[.int .i64 t,.int .i64 o,.bool kb.null,.string (bb kb.data),.bool vb.null,.string (bb vb.data),v])∧St W0 w' (K.and (Know.flat RHdr v 3 hs)) (.inp p i6::L):=by
 have h0:=(h.allocRaw #[.int .i64 0,.int .i64 0,.bool false,.string ⟨#[]⟩,.bool false,.string ⟨#[]⟩,.slice none 0 0] 119).p1;obtain⟨wA,hwA⟩:∃b,w.heap.size=b:=⟨_,rfl⟩;rw[hwA]at h0;have H:=hQd h0;have E0:=hQd e0;have E1:=hQd e1;have E2:=hQd e2;have E4:=hQd e4;have E5:=hQd e5;have E6:=hQd e6;have EJ1:=hQd ej1;have t0:True:=trivial;have t1:True:=trivial;have t2:True:=trivial;have t3:True:=trivial;have t4:True:=trivial;have t5:True:=trivial;have t6:True:=trivial;clear h h0 e0 e1 e2 e4 e5 e6 ej1;go_enter Tryz.func186,Tryz.ntmps186
 go_wp2_with (first
  |(go_at_call 44;have _t:=t0;clear _t;refine(zCO _ i 1 H.out).mono ?_;rw[E0.out];rintro e wn ⟨rfl,h⟩;replace H:=hQd (show St W0 wn K (.inp p i1::.raw wA #[.int .i64 0,.int .i64 0,.bool false,.string ⟨#[]⟩,.bool false,.string ⟨#[]⟩,.slice none 0 0] 119::L)from h);clear h t0;skip)
  |(go_at_call 47;have _t:=t1;clear _t;refine(zCz _ i1 8 H.out).mono ?_;rw[EJ1.out];rintro e wn ⟨rfl,h⟩;replace H:=hQd (show St W0 wn K (.inp p j1::.raw wA #[.int .i64 0,.int .i64 0,.bool false,.string ⟨#[]⟩,.bool false,.string ⟨#[]⟩,.slice none 0 0] 119::L)from h);clear h t1;obtain⟨wB,hwB⟩:∃b,wn.heap.size=b:=⟨_,rfl⟩;have HB:=H.out.allocRaw #[.int .i64 0,.int .i64 0,.bool false,.string ⟨#[]⟩,.bool false,.string ⟨#[]⟩,.slice none 0 0] 119;rw[hwB]at HB;have HB:=hQd HB.p1)
  |(go_at_call 188;have _t:=t2;clear _t;refine(zIl _ j1 HB.out).mono ?_;rw[E1.out];rintro e wn ⟨rfl,h⟩;replace H:=hQd (show St W0 wn (K) (.inp p i2::.raw wB #[.int .i64 0,.int .i64 0,.bool false,.string ⟨#[]⟩,.bool false,.string ⟨#[]⟩,.slice none 0 0] 119::.raw wA #[.int .i64 0,.int .i64 0,.bool false,.string ⟨#[]⟩,.bool false,.string ⟨#[]⟩,.slice none 0 0] 119::L)from h);clear h t2;obtain⟨yc0,yc1,yc2,yc3,yc4,yc5,yc6,yf0,yf1,yf2,yf3,yf4,yf5,yf6⟩:=raw7 (H.out.p1))
  |(go_at_call 189;have _t:=t3;clear _t;refine(zGc _ i2 (St.set1 H.out)).mono ?_;rw[E2.out];rintro e wn ⟨rfl,h⟩;replace H:=hQd (show St W0 wn (K) (.inp p i3::.raw wB #[.int .i64 t,.int .i64 0,.bool false,.string ⟨#[]⟩,.bool false,.string ⟨#[]⟩,.slice none 0 0] 119::.raw wA #[.int .i64 0,.int .i64 0,.bool false,.string ⟨#[]⟩,.bool false,.string ⟨#[]⟩,.slice none 0 0] 119::L)from h);clear h t3;obtain⟨yc0,yc1,yc2,yc3,yc4,yc5,yc6,yf0,yf1,yf2,yf3,yf4,yf5,yf6⟩:=raw7 (H.out.p1))
  |(go_at_call 187;have _t:=t5;clear _t;refine(zA6 _ i3 (St.set1 H.out)).mono ?_;rw[E4.out];rintro e wn ⟨rfl,h⟩;replace H:=hQd (show St W0 wn (K) (.inp p i4::.raw wB #[.int .i64 t,.int .i64 o,.bool false,.string ⟨#[]⟩,.bool false,.string ⟨#[]⟩,.slice none 0 0] 119::.raw wA #[.int .i64 0,.int .i64 0,.bool false,.string ⟨#[]⟩,.bool false,.string ⟨#[]⟩,.slice none 0 0] 119::L)from h);clear h t5;obtain⟨yc0,yc1,yc2,yc3,yc4,yc5,yc6,yf0,yf1,yf2,yf3,yf4,yf5,yf6⟩:=raw7 (H.out.p1);unfold bv)
  |(go_at_call 187;have _t:=t6;clear _t;refine(zA6 _ i4 (St.set1 (St.set1 H.out))).mono ?_;rw[E5.out];rintro e wn ⟨rfl,h⟩;replace H:=hQd (show St W0 wn (K) (.inp p i5::.raw wB #[.int .i64 t,.int .i64 o,.bool kb.null,.string (bb kb.data),.bool false,.string ⟨#[]⟩,.slice none 0 0] 119::.raw wA #[.int .i64 0,.int .i64 0,.bool false,.string ⟨#[]⟩,.bool false,.string ⟨#[]⟩,.slice none 0 0] 119::L)from h);clear h t6;obtain⟨yc0,yc1,yc2,yc3,yc4,yc5,yc6,yf0,yf1,yf2,yf3,yf4,yf5,yf6⟩:=raw7 (H.out.p1);unfold bv)
  |(go_at_call 190;refine(zDh _ i5 (St.set1 (St.set1 H.out))).mono ?_;rw[E6.out];rintro e wn ⟨v,rfl,h⟩;obtain⟨q6,cap6,hv6⟩:=zAq (Know.has_right (Know.has_refl _)) h;subst hv6;replace H:=hQd (show St W0 wn (K.and (Know.flat RHdr (.slice q6 hs.length cap6) 3 hs)) (.inp p i6::.raw wB #[.int .i64 t,.int .i64 o,.bool kb.null,.string (bb kb.data),.bool vb.null,.string (bb vb.data),.slice none 0 0] 119::.raw wA #[.int .i64 0,.int .i64 0,.bool false,.string ⟨#[]⟩,.bool false,.string ⟨#[]⟩,.slice none 0 0] 119::L)from h);clear h;obtain⟨yc0,yc1,yc2,yc3,yc4,yc5,yc6,yf0,yf1,yf2,yf3,yf4,yf5,yf6⟩:=raw7 (H.out.p1);obtain⟨qc0,qc1,qc2,qc3,qc4,qc5,qc6,qf0,qf1,qf2,qf3,qf4,qf5,qf6⟩:=raw7 (H.out.p2);have hne1:¬(wB=wA):=H.out.drop.raw_ne;have hne2:¬(wA=wB):=(fun e=>hne1 e.symm)))
 refine bodyPost_ret (v:=.agg #[.int .i64 t,.int .i64 o,.bool kb.null,.string (bb kb.data),.bool vb.null,.string (bb vb.data),.slice q6 hs.length cap6]) zq68 rfl ⟨.slice q6 hs.length cap6,rfl,?_⟩;exact(((((((((H.out.p1.rawSet 6 (.slice q6 hs.length cap6)).p2).rawSet 0 _).rawSet 1 _).rawSet 2 _).rawSet 3 _).rawSet 4 _).rawSet 5 _).rawSet 6 _).drop.drop
theorem zIE(p:Nat)(i i1 j1 i2 i3 j3 i4 i5 i6:InS)(a t o:Int)(kb vb:BlobS)(hs:List HdrS)(e0:i.int 1=(a,i1))(ha:(a !=0)=true)(ej1:i1.fail 8=j1)(e1:j1.vlong=(t,i2))(e2:i2.vint=(o,i3))(ho:o<0)(ej3:i3.fail 11=j3)(e4:j3.varied=(kb,i4))(e5:i4.varied=(vb,i5))(e6:i5.hdrs=(hs,i6))(h:St W0 w K (.inp p i::L)):
 Calls Tryz.prog 186 #[zAu p] w fun en w'=>∃v,en=.returned (.agg #[.int .i64 t,.int .i64 o,.bool kb.null,.string (bb kb.data),.bool vb.null,.string (bb vb.data),v])∧St W0 w' (K.and (Know.flat RHdr v 3 hs)) (.inp p i6::L):=by
 have h0:=(h.allocRaw #[.int .i64 0,.int .i64 0,.bool false,.string ⟨#[]⟩,.bool false,.string ⟨#[]⟩,.slice none 0 0] 119).p1;obtain⟨wA,hwA⟩:∃b,w.heap.size=b:=⟨_,rfl⟩;rw[hwA]at h0;have H:=hQd h0;have E0:=hQd e0;have E1:=hQd e1;have E2:=hQd e2;have E4:=hQd e4;have E5:=hQd e5;have E6:=hQd e6;have EJ1:=hQd ej1;have EJ3:=hQd ej3;have t0:True:=trivial;have t1:True:=trivial;have t2:True:=trivial;have t3:True:=trivial;have t4:True:=trivial;have t5:True:=trivial;have t6:True:=trivial;clear h h0 e0 e1 e2 e4 e5 e6 ej1 ej3;go_enter Tryz.func186,Tryz.ntmps186
 go_wp2_with (first
  |(go_at_call 44;have _t:=t0;clear _t;refine(zCO _ i 1 H.out).mono ?_;rw[E0.out];rintro e wn ⟨rfl,h⟩;replace H:=hQd (show St W0 wn K (.inp p i1::.raw wA #[.int .i64 0,.int .i64 0,.bool false,.string ⟨#[]⟩,.bool false,.string ⟨#[]⟩,.slice none 0 0] 119::L)from h);clear h t0;skip)
  |(go_at_call 47;have _t:=t1;clear _t;refine(zCz _ i1 8 H.out).mono ?_;rw[EJ1.out];rintro e wn ⟨rfl,h⟩;replace H:=hQd (show St W0 wn K (.inp p j1::.raw wA #[.int .i64 0,.int .i64 0,.bool false,.string ⟨#[]⟩,.bool false,.string ⟨#[]⟩,.slice none 0 0] 119::L)from h);clear h t1;obtain⟨wB,hwB⟩:∃b,wn.heap.size=b:=⟨_,rfl⟩;have HB:=H.out.allocRaw #[.int .i64 0,.int .i64 0,.bool false,.string ⟨#[]⟩,.bool false,.string ⟨#[]⟩,.slice none 0 0] 119;rw[hwB]at HB;have HB:=hQd HB.p1)
  |(go_at_call 188;have _t:=t2;clear _t;refine(zIl _ j1 HB.out).mono ?_;rw[E1.out];rintro e wn ⟨rfl,h⟩;replace H:=hQd (show St W0 wn (K) (.inp p i2::.raw wB #[.int .i64 0,.int .i64 0,.bool false,.string ⟨#[]⟩,.bool false,.string ⟨#[]⟩,.slice none 0 0] 119::.raw wA #[.int .i64 0,.int .i64 0,.bool false,.string ⟨#[]⟩,.bool false,.string ⟨#[]⟩,.slice none 0 0] 119::L)from h);clear h t2;obtain⟨yc0,yc1,yc2,yc3,yc4,yc5,yc6,yf0,yf1,yf2,yf3,yf4,yf5,yf6⟩:=raw7 (H.out.p1))
  |(go_at_call 189;have _t:=t3;clear _t;refine(zGc _ i2 (St.set1 H.out)).mono ?_;rw[E2.out];rintro e wn ⟨rfl,h⟩;replace H:=hQd (show St W0 wn (K) (.inp p i3::.raw wB #[.int .i64 t,.int .i64 0,.bool false,.string ⟨#[]⟩,.bool false,.string ⟨#[]⟩,.slice none 0 0] 119::.raw wA #[.int .i64 0,.int .i64 0,.bool false,.string ⟨#[]⟩,.bool false,.string ⟨#[]⟩,.slice none 0 0] 119::L)from h);clear h t3;obtain⟨yc0,yc1,yc2,yc3,yc4,yc5,yc6,yf0,yf1,yf2,yf3,yf4,yf5,yf6⟩:=raw7 (H.out.p1))
  |(go_at_call 47;have _t:=t4;clear _t;refine(zCz _ i3 11 (St.set1 H.out)).mono ?_;rw[EJ3.out];rintro e wn ⟨rfl,h⟩;replace H:=hQd (show St W0 wn (K) (.inp p j3::.raw wB #[.int .i64 t,.int .i64 o,.bool false,.string ⟨#[]⟩,.bool false,.string ⟨#[]⟩,.slice none 0 0] 119::.raw wA #[.int .i64 0,.int .i64 0,.bool false,.string ⟨#[]⟩,.bool false,.string ⟨#[]⟩,.slice none 0 0] 119::L)from h);clear h t4;obtain⟨yc0,yc1,yc2,yc3,yc4,yc5,yc6,yf0,yf1,yf2,yf3,yf4,yf5,yf6⟩:=raw7 (H.out.p1);have HX:=H)
  |(go_at_call 187;have _t:=t5;clear _t;refine(zA6 _ j3 H.out).mono ?_;rw[E4.out];rintro e wn ⟨rfl,h⟩;replace H:=hQd (show St W0 wn (K) (.inp p i4::.raw wB #[.int .i64 t,.int .i64 o,.bool false,.string ⟨#[]⟩,.bool false,.string ⟨#[]⟩,.slice none 0 0] 119::.raw wA #[.int .i64 0,.int .i64 0,.bool false,.string ⟨#[]⟩,.bool false,.string ⟨#[]⟩,.slice none 0 0] 119::L)from h);clear h t5;obtain⟨yc0,yc1,yc2,yc3,yc4,yc5,yc6,yf0,yf1,yf2,yf3,yf4,yf5,yf6⟩:=raw7 (H.out.p1);unfold bv)
  |(go_at_call 187;have _t:=t6;clear _t;refine(zA6 _ i4 (St.set1 (St.set1 H.out))).mono ?_;rw[E5.out];rintro e wn ⟨rfl,h⟩;replace H:=hQd (show St W0 wn (K) (.inp p i5::.raw wB #[.int .i64 t,.int .i64 o,.bool kb.null,.string (bb kb.data),.bool false,.string ⟨#[]⟩,.slice none 0 0] 119::.raw wA #[.int .i64 0,.int .i64 0,.bool false,.string ⟨#[]⟩,.bool false,.string ⟨#[]⟩,.slice none 0 0] 119::L)from h);clear h t6;obtain⟨yc0,yc1,yc2,yc3,yc4,yc5,yc6,yf0,yf1,yf2,yf3,yf4,yf5,yf6⟩:=raw7 (H.out.p1);unfold bv)
  |(go_at_call 190;refine(zDh _ i5 (St.set1 (St.set1 H.out))).mono ?_;rw[E6.out];rintro e wn ⟨v,rfl,h⟩;obtain⟨q6,cap6,hv6⟩:=zAq (Know.has_right (Know.has_refl _)) h;subst hv6;replace H:=hQd (show St W0 wn (K.and (Know.flat RHdr (.slice q6 hs.length cap6) 3 hs)) (.inp p i6::.raw wB #[.int .i64 t,.int .i64 o,.bool kb.null,.string (bb kb.data),.bool vb.null,.string (bb vb.data),.slice none 0 0] 119::.raw wA #[.int .i64 0,.int .i64 0,.bool false,.string ⟨#[]⟩,.bool false,.string ⟨#[]⟩,.slice none 0 0] 119::L)from h);clear h;obtain⟨yc0,yc1,yc2,yc3,yc4,yc5,yc6,yf0,yf1,yf2,yf3,yf4,yf5,yf6⟩:=raw7 (H.out.p1);obtain⟨qc0,qc1,qc2,qc3,qc4,qc5,qc6,qf0,qf1,qf2,qf3,qf4,qf5,qf6⟩:=raw7 (H.out.p2);have hne1:¬(wB=wA):=H.out.drop.raw_ne;have hne2:¬(wA=wB):=(fun e=>hne1 e.symm)))
 refine bodyPost_ret (v:=.agg #[.int .i64 t,.int .i64 o,.bool kb.null,.string (bb kb.data),.bool vb.null,.string (bb vb.data),.slice q6 hs.length cap6]) zq68 rfl ⟨.slice q6 hs.length cap6,rfl,?_⟩;exact(((((((((H.out.p1.rawSet 6 (.slice q6 hs.length cap6)).p2).rawSet 0 _).rawSet 1 _).rawSet 2 _).rawSet 3 _).rawSet 4 _).rawSet 5 _).rawSet 6 _).drop.drop
theorem zE6(p:Nat)(i:InS)(h:St W0 w K (.inp p i::L)):
 Calls Tryz.prog 186 #[zAu p] w fun en w'=>∃v,en=.returned (.agg #[.int .i64 i.recFields.1.time,.int .i64 i.recFields.1.off,.bool i.recFields.1.key.null,.string (bb i.recFields.1.key.data),.bool i.recFields.1.val.null,.string (bb i.recFields.1.val.data),v])∧St W0 w' (K.and (Know.flat RHdr v 3 i.recFields.1.hdrs)) (.inp p i.recFields.2::L):=by
 obtain⟨⟨a,i1⟩,e0⟩:∃z,i.int 1=z:=⟨_,rfl⟩;unfold InS.recFields;rw[e0];simp only
 by_cases ha:a=0
 ·rw[if_pos ha];unfold InS.recTime InS.recOff
  by_cases ho:i1.vlong.2.vint.1<0
  ·rw[if_pos ho];exact zIC p i _ _ _ _ _ _ _ a _ _ _ _ _ e0 (by rw[ha];rfl) rfl rfl ho rfl rfl rfl rfl h
  ·rw[if_neg ho];exact zID p i _ _ _ _ _ _ a _ _ _ _ _ e0 (by rw[ha];rfl) rfl rfl ho rfl rfl rfl h
 ·rw[if_neg ha];unfold InS.recTime InS.recOff
  by_cases ho:(i1.fail 8).vlong.2.vint.1<0
  ·rw[if_pos ho];exact zIE p i _ _ _ _ _ _ _ _ a _ _ _ _ _ e0 (bne_iff_ne.2 ha) rfl rfl rfl ho rfl rfl rfl rfl h
  ·rw[if_neg ho];exact zIF p i _ _ _ _ _ _ _ a _ _ _ _ _ e0 (bne_iff_ne.2 ha) rfl rfl rfl ho rfl rfl rfl h
variable {W0 w:World}{K:Know}{L:List Res}
theorem zq73{p:Prop}(h:p:=by simp[results,Tryz.results181,go_sem,ac0,ac1,ac2,ac3,ac4,ac5,ac6]):p:=h
theorem zLA(p:Nat)(i i1 k c:InS)(nm:Bs)(x:RecS)(hn:i.name=(nm,i1))(hx:(⟨nm,0,0⟩:InS).recFields=(x,k))(hc:k.close=c)(hl:nm.length≤140737488355328)(he:c.err=0)(hj:i1.err=0)(h:St W0 w K (.inp p i::L)):
 Calls Tryz.prog 181 #[zAu p] w fun en w'=>∃v,en=.returned (.agg #[.int .i64 x.time,.int .i64 x.off,.bool x.key.null,.string (bb x.key.data),.bool x.val.null,.string (bb x.val.data),v])∧St W0 w' (K.and (Know.flat RHdr v 3 x.hdrs)) (.inp p i1::L):=by
 have h0:=(h.allocRaw #[.int .i64 0,.int .i64 0,.bool false,.string ⟨#[]⟩,.bool false,.string ⟨#[]⟩,.slice none 0 0] 119).p1;obtain⟨wA,hwA⟩:∃b,w.heap.size=b:=⟨_,rfl⟩;rw[hwA]at h0;have H:=hQd h0;have EN:=hQd hn;have EX:=hQd hx;have EC:=hQd hc;have HL:=hQd hl;have HE:=hQd he;have HJ:=hQd hj
 skip
 clear h h0 hn hx hc hl he hj;go_enter Tryz.func181,Tryz.ntmps181
 go_wp2_with (first
  |(go_at_call 185;refine(zEK _ i H.out).mono ?_;rw[EN.out];rintro e wn ⟨rfl,h⟩;replace H:=hQd h;clear h)
  |(go_at_call 14;refine(zEi nm HL.out H.out).mono ?_;rintro e wn ⟨bi,rfl,h⟩;replace H:=hQd h;clear h)
  |(go_at_call 186;refine(zE6 _ _ H.out).mono ?_;rw[EX.out];rintro e wn ⟨v6,rfl,h⟩;obtain⟨q6,cap6,hv6⟩:=zAq (Know.has_right (Know.has_refl _)) h;subst hv6;obtain⟨wB,hwB⟩:∃b,wn.heap.size=b:=⟨_,rfl⟩;have h:=h.allocRaw #[.int .i64 x.time,.int .i64 x.off,.bool x.key.null,.string (bb x.key.data),.bool x.val.null,.string (bb x.val.data),.slice q6 x.hdrs.length cap6] 119;rw[hwB]at h;replace H:=hQd (show St W0 _ (K.and (Know.flat RHdr (.slice q6 x.hdrs.length cap6) 3 x.hdrs)) (.raw wB #[.int .i64 x.time,.int .i64 x.off,.bool x.key.null,.string (bb x.key.data),.bool x.val.null,.string (bb x.val.data),.slice q6 x.hdrs.length cap6] 119::.inp bi k::.inp p i1::.raw wA #[.int .i64 0,.int .i64 0,.bool false,.string ⟨#[]⟩,.bool false,.string ⟨#[]⟩,.slice none 0 0] 119::L)from h);clear h)
  |(go_at_call 18;refine(zGf _ k H.out.p1).mono ?_;rw[EC.out,HE.out];rintro e wn ⟨rfl,h⟩;replace H:=hQd h.p2;clear h)
  |(go_at_call 20;refine(zIr _ i1 H.out).mono ?_;rw[HJ.out];rintro e wn ⟨rfl,h⟩;replace H:=hQd h;clear h;(first|(obtain⟨ac0,ac1,ac2,ac3,ac4,ac5,ac6,af0,af1,af2,af3,af4,af5,af6⟩:=raw7 (b:=wA) H.out)|(obtain⟨ac0,ac1,ac2,ac3,ac4,ac5,ac6,af0,af1,af2,af3,af4,af5,af6⟩:=raw7 (b:=wA) H.out.p1)|(obtain⟨ac0,ac1,ac2,ac3,ac4,ac5,ac6,af0,af1,af2,af3,af4,af5,af6⟩:=raw7 (b:=wA) H.out.p2)|(obtain⟨ac0,ac1,ac2,ac3,ac4,ac5,ac6,af0,af1,af2,af3,af4,af5,af6⟩:=raw7 (b:=wA) H.out.p3));(first|(obtain⟨bc0,bc1,bc2,bc3,bc4,bc5,bc6,bf0,bf1,bf2,bf3,bf4,bf5,bf6⟩:=raw7 (b:=wB) H.out)|(obtain⟨bc0,bc1,bc2,bc3,bc4,bc5,bc6,bf0,bf1,bf2,bf3,bf4,bf5,bf6⟩:=raw7 (b:=wB) H.out.p1)|(obtain⟨bc0,bc1,bc2,bc3,bc4,bc5,bc6,bf0,bf1,bf2,bf3,bf4,bf5,bf6⟩:=raw7 (b:=wB) H.out.p2)|(obtain⟨bc0,bc1,bc2,bc3,bc4,bc5,bc6,bf0,bf1,bf2,bf3,bf4,bf5,bf6⟩:=raw7 (b:=wB) H.out.p3))))
 refine bodyPost_ret (v:=.agg #[.int .i64 x.time,.int .i64 x.off,.bool x.key.null,.string (bb x.key.data),.bool x.val.null,.string (bb x.val.data),.slice q6 x.hdrs.length cap6]) zq73 rfl ⟨.slice q6 x.hdrs.length cap6,rfl,?_⟩;exact((((((((H.out.p3).rawSet 0 _).rawSet 1 _).rawSet 2 _).rawSet 3 _).rawSet 4 _).rawSet 5 _).rawSet 6 _).drop.p1.drop.p1.drop
theorem zJ2(p:Nat)(i i1 k c:InS)(nm:Bs)(x:RecS)(hn:i.name=(nm,i1))(hx:(⟨nm,0,0⟩:InS).recFields=(x,k))(hc:k.close=c)(hl:nm.length≤140737488355328)(he:c.err=0)(f:Int)(hj:i1.err=f)(hf:(f !=0)=true)(h:St W0 w K (.inp p i::L)):
 Calls Tryz.prog 181 #[zAu p] w fun en w'=>en=.returned (.agg #[.int .i64 0,.int .i64 0,.bool false,.string ⟨#[]⟩,.bool false,.string ⟨#[]⟩,.slice none 0 0])∧St W0 w' K (.inp p i1::L):=by
 have h0:=(h.allocRaw #[.int .i64 0,.int .i64 0,.bool false,.string ⟨#[]⟩,.bool false,.string ⟨#[]⟩,.slice none 0 0] 119).p1;obtain⟨wA,hwA⟩:∃b,w.heap.size=b:=⟨_,rfl⟩;rw[hwA]at h0;have H:=hQd h0;have EN:=hQd hn;have EX:=hQd hx;have EC:=hQd hc;have HL:=hQd hl;have HE:=hQd he;have HJ:=hQd hj
 skip
 clear h h0 hn hx hc hl he hj;go_enter Tryz.func181,Tryz.ntmps181
 go_wp2_with (first
  |(go_at_call 185;refine(zEK _ i H.out).mono ?_;rw[EN.out];rintro e wn ⟨rfl,h⟩;replace H:=hQd h;clear h)
  |(go_at_call 14;refine(zEi nm HL.out H.out).mono ?_;rintro e wn ⟨bi,rfl,h⟩;replace H:=hQd h;clear h)
  |(go_at_call 186;refine(zE6 _ _ H.out).mono ?_;rw[EX.out];rintro e wn ⟨v6,rfl,h⟩;obtain⟨q6,cap6,hv6⟩:=zAq (Know.has_right (Know.has_refl _)) h;subst hv6;obtain⟨wB,hwB⟩:∃b,wn.heap.size=b:=⟨_,rfl⟩;have h:=h.allocRaw #[.int .i64 x.time,.int .i64 x.off,.bool x.key.null,.string (bb x.key.data),.bool x.val.null,.string (bb x.val.data),.slice q6 x.hdrs.length cap6] 119;rw[hwB]at h;replace H:=hQd (show St W0 _ (K.and (Know.flat RHdr (.slice q6 x.hdrs.length cap6) 3 x.hdrs)) (.raw wB #[.int .i64 x.time,.int .i64 x.off,.bool x.key.null,.string (bb x.key.data),.bool x.val.null,.string (bb x.val.data),.slice q6 x.hdrs.length cap6] 119::.inp bi k::.inp p i1::.raw wA #[.int .i64 0,.int .i64 0,.bool false,.string ⟨#[]⟩,.bool false,.string ⟨#[]⟩,.slice none 0 0] 119::L)from h);clear h)
  |(go_at_call 18;refine(zGf _ k H.out.p1).mono ?_;rw[EC.out,HE.out];rintro e wn ⟨rfl,h⟩;replace H:=hQd h.p2;clear h)
  |(go_at_call 20;refine(zIr _ i1 H.out).mono ?_;rw[HJ.out];rintro e wn ⟨rfl,h⟩;replace H:=hQd h;clear h;(first|(obtain⟨ac0,ac1,ac2,ac3,ac4,ac5,ac6,af0,af1,af2,af3,af4,af5,af6⟩:=raw7 (b:=wA) H.out)|(obtain⟨ac0,ac1,ac2,ac3,ac4,ac5,ac6,af0,af1,af2,af3,af4,af5,af6⟩:=raw7 (b:=wA) H.out.p1)|(obtain⟨ac0,ac1,ac2,ac3,ac4,ac5,ac6,af0,af1,af2,af3,af4,af5,af6⟩:=raw7 (b:=wA) H.out.p2)|(obtain⟨ac0,ac1,ac2,ac3,ac4,ac5,ac6,af0,af1,af2,af3,af4,af5,af6⟩:=raw7 (b:=wA) H.out.p3));(first|(obtain⟨bc0,bc1,bc2,bc3,bc4,bc5,bc6,bf0,bf1,bf2,bf3,bf4,bf5,bf6⟩:=raw7 (b:=wB) H.out)|(obtain⟨bc0,bc1,bc2,bc3,bc4,bc5,bc6,bf0,bf1,bf2,bf3,bf4,bf5,bf6⟩:=raw7 (b:=wB) H.out.p1)|(obtain⟨bc0,bc1,bc2,bc3,bc4,bc5,bc6,bf0,bf1,bf2,bf3,bf4,bf5,bf6⟩:=raw7 (b:=wB) H.out.p2)|(obtain⟨bc0,bc1,bc2,bc3,bc4,bc5,bc6,bf0,bf1,bf2,bf3,bf4,bf5,bf6⟩:=raw7 (b:=wB) H.out.p3))))
 refine bodyPost_ret (v:=.agg #[.int .i64 0,.int .i64 0,.bool false,.string ⟨#[]⟩,.bool false,.string ⟨#[]⟩,.slice none 0 0]) zq73 rfl ⟨rfl,?_⟩;exact(((((((((H.out.p3).rawSet 0 _).rawSet 1 _).rawSet 2 _).rawSet 3 _).rawSet 4 _).rawSet 5 _).rawSet 6 _).drop.p1.drop.p1.drop).know (Know.has_left (Know.has_refl _))
theorem zHA(p:Nat)(i i1 k c:InS)(nm:Bs)(x:RecS)(hn:i.name=(nm,i1))(hx:(⟨nm,0,0⟩:InS).recFields=(x,k))(hc:k.close=c)(hl:nm.length≤140737488355328)(e:Int)(he:c.err=e)(hen:(e !=0)=true)(j:InS)(hjj:i1.fail e=j)(f:Int)(hj:j.err=f)(hf:(f !=0)=true)(h:St W0 w K (.inp p i::L)):
 Calls Tryz.prog 181 #[zAu p] w fun en w'=>en=.returned (.agg #[.int .i64 0,.int .i64 0,.bool false,.string ⟨#[]⟩,.bool false,.string ⟨#[]⟩,.slice none 0 0])∧St W0 w' K (.inp p j::L):=by
 have h0:=(h.allocRaw #[.int .i64 0,.int .i64 0,.bool false,.string ⟨#[]⟩,.bool false,.string ⟨#[]⟩,.slice none 0 0] 119).p1;obtain⟨wA,hwA⟩:∃b,w.heap.size=b:=⟨_,rfl⟩;rw[hwA]at h0;have H:=hQd h0;have EN:=hQd hn;have EX:=hQd hx;have EC:=hQd hc;have HL:=hQd hl;have HE:=hQd he;have HJ:=hQd hj;have EJ:=hQd hjj;clear h h0 hn hx hc hl he hj hjj;go_enter Tryz.func181,Tryz.ntmps181
 go_wp2_with (first
  |(go_at_call 185;refine(zEK _ i H.out).mono ?_;rw[EN.out];rintro e wn ⟨rfl,h⟩;replace H:=hQd h;clear h)
  |(go_at_call 14;refine(zEi nm HL.out H.out).mono ?_;rintro e wn ⟨bi,rfl,h⟩;replace H:=hQd h;clear h)
  |(go_at_call 186;refine(zE6 _ _ H.out).mono ?_;rw[EX.out];rintro e wn ⟨v6,rfl,h⟩;obtain⟨q6,cap6,hv6⟩:=zAq (Know.has_right (Know.has_refl _)) h;subst hv6;obtain⟨wB,hwB⟩:∃b,wn.heap.size=b:=⟨_,rfl⟩;have h:=h.allocRaw #[.int .i64 x.time,.int .i64 x.off,.bool x.key.null,.string (bb x.key.data),.bool x.val.null,.string (bb x.val.data),.slice q6 x.hdrs.length cap6] 119;rw[hwB]at h;replace H:=hQd (show St W0 _ (K.and (Know.flat RHdr (.slice q6 x.hdrs.length cap6) 3 x.hdrs)) (.raw wB #[.int .i64 x.time,.int .i64 x.off,.bool x.key.null,.string (bb x.key.data),.bool x.val.null,.string (bb x.val.data),.slice q6 x.hdrs.length cap6] 119::.inp bi k::.inp p i1::.raw wA #[.int .i64 0,.int .i64 0,.bool false,.string ⟨#[]⟩,.bool false,.string ⟨#[]⟩,.slice none 0 0] 119::L)from h);clear h)
  |(go_at_call 18;refine(zGf _ k H.out.p1).mono ?_;rw[EC.out,HE.out];rintro e wn ⟨rfl,h⟩;replace H:=hQd h.p2;clear h)
  |(go_at_call 47;refine(zCz _ i1 _ H.out).mono ?_;rw[EJ.out];rintro e wn ⟨rfl,h⟩;replace H:=hQd h;clear h)
  |(go_at_call 20;refine(zIr _ j H.out).mono ?_;rw[HJ.out];rintro e wn ⟨rfl,h⟩;replace H:=hQd h;clear h;(first|(obtain⟨ac0,ac1,ac2,ac3,ac4,ac5,ac6,af0,af1,af2,af3,af4,af5,af6⟩:=raw7 (b:=wA) H.out)|(obtain⟨ac0,ac1,ac2,ac3,ac4,ac5,ac6,af0,af1,af2,af3,af4,af5,af6⟩:=raw7 (b:=wA) H.out.p1)|(obtain⟨ac0,ac1,ac2,ac3,ac4,ac5,ac6,af0,af1,af2,af3,af4,af5,af6⟩:=raw7 (b:=wA) H.out.p2)|(obtain⟨ac0,ac1,ac2,ac3,ac4,ac5,ac6,af0,af1,af2,af3,af4,af5,af6⟩:=raw7 (b:=wA) H.out.p3));(first|(obtain⟨bc0,bc1,bc2,bc3,bc4,bc5,bc6,bf0,bf1,bf2,bf3,bf4,bf5,bf6⟩:=raw7 (b:=wB) H.out)|(obtain⟨bc0,bc1,bc2,bc3,bc4,bc5,bc6,bf0,bf1,bf2,bf3,bf4,bf5,bf6⟩:=raw7 (b:=wB) H.out.p1)|(obtain⟨bc0,bc1,bc2,bc3,bc4,bc5,bc6,bf0,bf1,bf2,bf3,bf4,bf5,bf6⟩:=raw7 (b:=wB) H.out.p2)|(obtain⟨bc0,bc1,bc2,bc3,bc4,bc5,bc6,bf0,bf1,bf2,bf3,bf4,bf5,bf6⟩:=raw7 (b:=wB) H.out.p3))))
 refine bodyPost_ret (v:=.agg #[.int .i64 0,.int .i64 0,.bool false,.string ⟨#[]⟩,.bool false,.string ⟨#[]⟩,.slice none 0 0]) zq73 rfl ⟨rfl,?_⟩;exact(((((((((H.out.p3).rawSet 0 _).rawSet 1 _).rawSet 2 _).rawSet 3 _).rawSet 4 _).rawSet 5 _).rawSet 6 _).drop.p1.drop.p1.drop).know (Know.has_left (Know.has_refl _))
theorem zQp(i:InS)(h:i.ok):i.name.1.length≤i.s.length:=by
 by_cases he:i.err=0
 ·obtain⟨s,pos,err⟩:=i;simp only at he;subst he;have hp:pos≤s.length:=h.1
  show(InS.varied ⟨s,pos,0⟩).1.data.length≤s.length
  cases hv:zAh (s.drop pos)with
  |ok b=>
   obtain⟨g1,g2⟩:=zAt.ok s pos b.1 b.2 hp hv;obtain⟨_,_,_,_,_,o⟩:=zAN hv;rw[g2];simp only
   split at o<;>omega
  |error e=>
   obtain⟨_,q,_,g⟩:=zAt.err s pos e hp hv;rw[g]
   simp
 ·rw[zFa he];simp
theorem zPX(p:Nat)(i:InS)(h:St W0 w K (.inp p i::L)):
 Calls Tryz.prog 181 #[zAu p] w fun en w'=>∃v,en=.returned (.agg #[.int .i64 i.record.1.time,.int .i64 i.record.1.off,.bool i.record.1.key.null,.string (bb i.record.1.key.data),.bool i.record.1.val.null,.string (bb i.record.1.val.data),v])∧St W0 w' (K.and (Know.flat RHdr v 3 i.record.1.hdrs)) (.inp p i.record.2::L):=by
 have hok:=h.inpGet.2;have hnl:=zQp i hok;have hsl:=hok.2;obtain⟨⟨nm,i1⟩,hn⟩:∃z,i.name=z:=⟨_,rfl⟩;rw[hn]at hnl;simp only at hnl;obtain⟨⟨x,k⟩,hx⟩:∃z,(⟨nm,0,0⟩:InS).recFields=z:=⟨_,rfl⟩;have hz:∀(K':Know),K'.has (K'.and (Know.flat RHdr (.slice none 0 0) 3 [])):=fun K'=>zIX _ _ _
 unfold InS.record InS.recJ recD;rw[hn];simp only;rw[hx];simp only
 by_cases he:k.close.err=0
 ·rw[if_pos he]
  by_cases hj:i1.err=0
  ·rw[if_pos hj];exact zLA p i i1 k _ nm x hn hx rfl oM he hj h
  ·rw[if_neg hj];exact(zJ2 p i i1 k _ nm x hn hx rfl oM he _ rfl (bne_iff_ne.2 hj) h).mono fun en w' hh=>⟨_,hh.1,hh.2.know (hz K)⟩
 ·rw[if_neg he];have hj:(i1.fail k.close.err).err≠0:=by unfold InS.fail;split;exact he;assumption
  rw[if_neg hj];exact(zHA p i i1 k _ nm x hn hx rfl oM _ rfl (bne_iff_ne.2 he) _ rfl _ rfl (bne_iff_ne.2 hj) h).mono fun en w' hh=>⟨_,hh.1,hh.2.know (hz K)⟩
variable {W0 w:World}{K:Know}{L:List Res}
theorem zC2{a b:RecS}(h:¬a=b){r:Bool}(hr:decide (a=b)=r):r=false:=by rw[←hr];exact decide_eq_false h
theorem zq19{p:Prop}(h:p:=by rw[show r=false from HR.out];clear hn hr;go_enter Tryz.func116,Tryz.ntmps116;go_wp2;go_ret;exact⟨rfl,H.out.drop.drop⟩):p:=h
theorem zq72{p:Prop}(h:p:=by intro h;cases h;exact hn rfl):p:=h
theorem zNu(t1 o1 t2 o2:Int)(n1 m1 n2 m2:Bool)(d1 f1 d2 f2:Bs)(l1 l2:List HdrS)(va vb:Value)(r:Bool)(hr:decide ((⟨t1,o1,⟨n1,d1⟩,⟨m1,f1⟩,l1⟩:RecS)=⟨t2,o2,⟨n2,d2⟩,⟨m2,f2⟩,l2⟩)=r)(hl1:l1.length≤9223372036854775807)(hl2:l2.length≤9223372036854775807)(hka:K.has (Know.flat RHdr va 3 l1))(hkb:K.has (Know.flat RHdr vb 3 l2))(h:St W0 w K L):
 Calls Tryz.prog 116 #[.agg #[.int .i64 t1,.int .i64 o1,.bool n1,.string (bb d1),.bool m1,.string (bb f1),va],.agg #[.int .i64 t2,.int .i64 o2,.bool n2,.string (bb d2),.bool m2,.string (bb f2),vb]] w fun en w'=>en=.returned (.bool r)∧St W0 w' K L:=by
 have h0:=(h.allocRaw #[.int .i64 t1,.int .i64 o1,.bool n1,.string (bb d1),.bool m1,.string (bb f1),va] 119).allocRaw #[.int .i64 t2,.int .i64 o2,.bool n2,.string (bb d2),.bool m2,.string (bb f2),vb] 119;rw[World.size_alloc]at h0;have H:=hQd h0;have HA:=hQd hka;have HB:=hQd hkb;have HL1:=hQd hl1;have HL2:=hQd hl2;clear h h0 hka hkb hl1 hl2
 by_cases hn:t1=t2
 rotate_left
 ·have HR:=hQd (show r=false from zC2 zq72 hr);have hb:(t1==t2)=false:=by simpa using hn
  exact zq19
 subst hn
 by_cases hn:o1=o2
 rotate_left
 ·have HR:=hQd (show r=false from zC2 zq72 hr);have hb:(o1==o2)=false:=by simpa using hn
  exact zq19
 subst hn
 by_cases hn:n1=n2
 rotate_left
 ·have HR:=hQd (show r=false from zC2 zq72 hr);have hb:(n1==n2)=false:=by simpa using hn
  exact zq19
 subst hn
 by_cases hn:d1=d2
 rotate_left
 ·have HR:=hQd (show r=false from zC2 zq72 hr);have hb:(d1==d2)=false:=by simpa using hn
  exact zq19
 subst hn
 by_cases hn:m1=m2
 rotate_left
 ·have HR:=hQd (show r=false from zC2 zq72 hr);have hb:(m1==m2)=false:=by simpa using hn
  exact zq19
 subst hn
 by_cases hn:f1=f2
 rotate_left
 ·have HR:=hQd (show r=false from zC2 zq72 hr);have hb:(f1==f2)=false:=by simpa using hn
  exact zq19
 subst hn;have HD:=hQd (show decide (l1=l2)=r by rw[←hr];exact decide_eq_decide.mpr ⟨fun h=>by rw[h],fun h=>by cases h;rfl⟩);clear hr;go_enter Tryz.func116,Tryz.ntmps116;go_wp2_with (go_at_call 145;refine(zNv va vb l1 l2 HL1.out HL2.out HA.out HB.out H.out).mono ?_;rw[HD.out];rintro e wn ⟨rfl,h⟩;replace H:=hQd h;clear h);go_ret;exact⟨rfl,H.out.drop.drop⟩
theorem zGv(a b:RecS)(va vb:Value)(r:Bool)(hr:decide (a=b)=r)(hl1:a.hdrs.length≤9223372036854775807)(hl2:b.hdrs.length≤9223372036854775807)(hka:K.has (Know.flat RHdr va 3 a.hdrs))(hkb:K.has (Know.flat RHdr vb 3 b.hdrs))(h:St W0 w K L):
 Calls Tryz.prog 116 #[.agg #[.int .i64 a.time,.int .i64 a.off,.bool a.key.null,.string (bb a.key.data),.bool a.val.null,.string (bb a.val.data),va],.agg #[.int .i64 b.time,.int .i64 b.off,.bool b.key.null,.string (bb b.key.data),.bool b.val.null,.string (bb b.val.data),vb]] w fun en w'=>en=.returned (.bool r)∧St W0 w' K L:=
 zNu a.time a.off b.time b.off a.key.null a.val.null b.key.null b.val.null a.key.data a.val.data b.key.data b.val.data a.hdrs b.hdrs va vb r hr hl1 hl2 hka hkb h
def Fit (n:Nat):Prop:=n≤140737488351232
def HFit (l:List HdrS):Prop:=∀x∈l,x.key.length≤140737488351232∧x.val.data.length≤140737488351232
def smallN (l:List HdrS):Int:=if hsum l≤1000 then 1 else 0
variable {W0 w:World}{K:Know}{L:List Res}
theorem zGI(p:Nat)(i:InS)(x:RecS)(k:InS)(hx:i.record=(x,k))(h:St W0 w K (.inp p i::L)):
 Calls Tryz.prog 181 #[zAu p] w fun en w'=>∃v,en=.returned (.agg #[.int .i64 x.time,.int .i64 x.off,.bool x.key.null,.string (bb x.key.data),.bool x.val.null,.string (bb x.val.data),v])∧St W0 w' (K.and (Know.flat RHdr v 3 x.hdrs)) (.inp p k::L):=by
 have h1:=zPX p i h;rw[hx]at h1;exact h1
theorem zJU(n:Bool)(d:Bs)(r:Bool)(hr:(⟨n,d⟩:BlobS).right=r)(h:St W0 w K L):
 Calls Tryz.prog 133 #[.agg #[.bool n,.string (bb d)]] w fun en w'=>en=.returned (.bool (!r))∧St W0 w' K L:=by
 have hr:(n && !d.isEmpty)= !r:=by
  unfold BlobS.right at hr
  cases n<;>cases r<;>cases d<;>simp_all
 have H:=hQd (h.alloc (.cells #[.bool n,.string (bb d)] 23));clear h
 cases n<;>cases d
 all_goals
  have HR:=hQd hr;clear hr;go_enter Tryz.func133,Tryz.ntmps133;go_wp2;go_ret;exact⟨zAB HR.out,H.out⟩
def badR (a b c:Bool):Int:=if a && b && c then 0 else 4
theorem zGw(x:RecS)(v:Value)(e:Int)(he:zBc x=e)(hl:x.hdrs.length≤9223372036854775807)(hk:K.has (Know.flat RHdr v 3 x.hdrs))(h:St W0 w K L):
 Calls Tryz.prog 102 #[.agg #[.int .i64 x.time,.int .i64 x.off,.bool x.key.null,.string (bb x.key.data),.bool x.val.null,.string (bb x.val.data),v]] w fun en w'=>en=.returned (.int .i64 e)∧St W0 w' K L:=by
 obtain⟨wA,hwA⟩:∃b,w.heap.size=b:=⟨_,rfl⟩;have h0:=h.allocRaw #[.int .i64 x.time,.int .i64 x.off,.bool x.key.null,.string (bb x.key.data),.bool x.val.null,.string (bb x.val.data),v] 119;rw[hwA]at h0;have H:=hQd h0;have HK:=hQd hk;have HL:=hQd hl;clear h hk hl h0;unfold zBc at he
 by_cases h1:x.off<0
 ·rw[if_pos (.inl h1)]at he;subst he;go_enter Tryz.func102,Tryz.ntmps102;go_wp2;go_ret;exact⟨rfl,H.out.drop⟩
 by_cases h2:2147483647<x.off
 ·rw[if_pos (.inr h2)]at he;subst he;go_enter Tryz.func102,Tryz.ntmps102;go_wp2;go_ret;exact⟨rfl,H.out.drop⟩
 rw[if_neg oM]at he;have he:badR x.key.right x.val.right (zBP x.hdrs)=e:=he;obtain⟨r1,hr1⟩:∃r,x.key.right=r:=⟨_,rfl⟩;obtain⟨r2,hr2⟩:∃r,x.val.right=r:=⟨_,rfl⟩;obtain⟨r3,hr3⟩:∃r,zBP x.hdrs=r:=⟨_,rfl⟩;rw[hr1,hr2,hr3]at he;have E1:=hQd hr1;have E2:=hQd hr2;have E3:=hQd hr3;clear hr1 hr2 hr3;have t1:True:=trivial;have t2:True:=trivial;obtain⟨ac0,ac1,ac2,ac3,ac4,ac5,ac6,af0,af1,af2,af3,af4,af5,af6⟩:=raw7 (b:=wA) H.out
 cases r1<;>cases r2<;>cases r3
 all_goals
  subst he;go_enter Tryz.func102,Tryz.ntmps102
  go_wp2_with (first
   |(go_at_call 133;have _t:=t1;clear _t;refine(zJU _ _ _ E1.out H.out).mono ?_;rintro e wn ⟨rfl,h⟩;replace H:=hQd h;clear h t1;(first|(obtain⟨ac0,ac1,ac2,ac3,ac4,ac5,ac6,af0,af1,af2,af3,af4,af5,af6⟩:=raw7 (b:=wA) H.out)|(obtain⟨ac0,ac1,ac2,ac3,ac4,ac5,ac6,af0,af1,af2,af3,af4,af5,af6⟩:=raw7 (b:=wA) H.out.p1)|(obtain⟨ac0,ac1,ac2,ac3,ac4,ac5,ac6,af0,af1,af2,af3,af4,af5,af6⟩:=raw7 (b:=wA) H.out.p2)|(obtain⟨ac0,ac1,ac2,ac3,ac4,ac5,ac6,af0,af1,af2,af3,af4,af5,af6⟩:=raw7 (b:=wA) H.out.p3)))
   |(go_at_call 133;have _t:=t2;clear _t;refine(zJU _ _ _ E2.out H.out).mono ?_;rintro e wn ⟨rfl,h⟩;replace H:=hQd h;clear h t2;(first|(obtain⟨ac0,ac1,ac2,ac3,ac4,ac5,ac6,af0,af1,af2,af3,af4,af5,af6⟩:=raw7 (b:=wA) H.out)|(obtain⟨ac0,ac1,ac2,ac3,ac4,ac5,ac6,af0,af1,af2,af3,af4,af5,af6⟩:=raw7 (b:=wA) H.out.p1)|(obtain⟨ac0,ac1,ac2,ac3,ac4,ac5,ac6,af0,af1,af2,af3,af4,af5,af6⟩:=raw7 (b:=wA) H.out.p2)|(obtain⟨ac0,ac1,ac2,ac3,ac4,ac5,ac6,af0,af1,af2,af3,af4,af5,af6⟩:=raw7 (b:=wA) H.out.p3)))
   |(go_at_call 134;refine(zLx v x.hdrs HL.out HK.out H.out).mono ?_;rw[E3.out];rintro e wn ⟨rfl,h⟩;replace H:=hQd h;clear h))
  go_ret;exact⟨rfl,H.out.drop⟩
def smallR (x:RecS):Int:=if 500<x.key.data.length∨500<x.val.data.length then 0 else smallN x.hdrs
theorem zF2{l a r:Bs}{n:Nat}(h:l.drop n=a++r):l.drop (n+a.length)=r:=by rw[←List.drop_drop,h,List.drop_left]
theorem zJ6(x:RecS)(hx:x.R)(ho:zBc x=0)(hs:x.sum≤1000000):zAK (recF x)=.ok x:=by
 obtain⟨ho,hr⟩:=zHR ho;unfold RecS.allRight at hr;rw[Bool.and_eq_true,Bool.and_eq_true]at hr;unfold RecS.sum at hs;have d1:(recF x).drop 1=encI x.time++(encI x.off++(encV x.key++(encV x.val++zDo x.hdrs))):=rfl;have d2:=zF2 d1;have d3:=zF2 d2;have d4:=zF2 d3;have d5:=zF2 d4
 have h0:zAI 1 (recF x)=.ok (0,1):=by
  unfold zAI;rw[if_neg (by unfold recF;simp)]
  rfl
 have h1:zCg ((recF x).drop 1)=.ok (x.time,(encI x.time).length):=by rw[d1];exact zJl _ hx.1.1 hx.1.2 _
 have h2:zBf ((recF x).drop (1+(encI x.time).length))=.ok (x.off,(encI x.off).length):=by rw[d2];exact zF8 _ oM oM _
 have h3:=zBt x.key hr.1.1 oM (encV x.val++zDo x.hdrs);have h4:=zBt x.val hr.1.2 oM (zDo x.hdrs);have h5':=zLD x.hdrs [] hr.2 oM;rw[List.append_nil]at h5';have h5:zAQ ((recF x).drop (1+(encI x.time).length+(encI x.off).length+(encV x.key).length+(encV x.val).length))=.ok (x.hdrs,(zDo x.hdrs).length):=by rw[d5];exact h5'
 rw[←d3]at h3;rw[←d4]at h4
 have hl:1+(encI x.time).length+(encI x.off).length+(encV x.key).length+(encV x.val).length+(zDo x.hdrs).length=(recF x).length:=by
  unfold recF;simp only[List.length_append,List.length_cons,List.length_nil]
  omega
 unfold zAK;rw[h0];simp only[if_true];rw[h1];simp only;rw[h2];simp only;rw[if_neg oM,h3];simp only;rw[h4];simp only;rw[h5];simp only;rw[if_pos hl]
def Know.all {α:Type}(l:List α) (k:α→Know):Know:=⟨fun w F=>∀x∈l,(k x).p w F,fun w w' F h hs hk x hx=>(k x).keep w w' F (h x hx) hs hk,fun w F F' h hs x hx=>(k x).mono w F F' (h x hx) hs⟩
def RRec (cs:List Value) (x:RecS×Value):Prop:=cs=[.int .i64 x.1.time,.int .i64 x.1.off,.bool x.1.key.null,.string (bb x.1.key.data),.bool x.1.val.null,.string (bb x.1.val.data),x.2]
def zGN (x:RecS×Value):List Value:=[.int .i64 x.1.time,.int .i64 x.1.off,.bool x.1.key.null,.string (bb x.1.key.data),.bool x.1.val.null,.string (bb x.1.val.data),x.2]
def Know.recs (v:Value) (l:List (RecS×Value)):Know:=(Know.flat RRec v 7 l).and (Know.all l fun x=>Know.flat RHdr x.2 3 x.1.hdrs)
theorem zGH{K:Know}{v:Value}{l:List (RecS×Value)}(h:K.has (Know.recs v l)):K.has (Know.flat RRec v 7 l):=fun w F x=>(h w F x).1
theorem zBn{K:Know}{v:Value}{l:List (RecS×Value)}(h:K.has (Know.recs v l)){x:RecS×Value}(hx:x∈l):K.has (Know.flat RHdr x.2 3 x.1.hdrs):=fun w F y=>(h w F y).2 x hx
theorem zJ1{v:Value}{l:List (RecS×Value)}(hk:K.has (Know.recs v l))(h:St W0 w K L):∃q cap,v=.slice q l.length cap:=by
 obtain⟨F,hF,_⟩:=h.get;obtain⟨q,cap,hv,_⟩:=(zGH hk _ _ hF).at;exact⟨q,cap,hv⟩
theorem zCB{q:Option Addr}{n cap:Nat}{l:List (RecS×Value)}(hk:K.has (Know.recs (.slice q n cap) l))(h:St W0 w K L)(h0:0<l.length):∃b off,q=some ⟨b,off,none⟩:=by
 obtain⟨F,hF,_⟩:=h.get;obtain⟨q2,cap2,hv,hr⟩:=(zGH hk _ _ hF).at;obtain⟨b,off,hq,_⟩:=hr h0;simp at hv;exact⟨b,off,hv.1.trans hq⟩
theorem zA2{b off n cap:Nat}{l:List (RecS×Value)}(hk:K.has (Know.recs (.slice (some ⟨b,off,none⟩) n cap) l))(h:St W0 w K L)(i:Nat)(hi:i<l.length)(x:RecS×Value)(hx:l[i]=x):
 w.cell? ⟨b,off+(i*7),none⟩=some (.int .i64 x.1.time)∧w.cell? ⟨b,off+(i*7+1),none⟩=some (.int .i64 x.1.off)∧w.cell? ⟨b,off+(i*7+2),none⟩=some (.bool x.1.key.null)∧w.cell? ⟨b,off+(i*7+3),none⟩=some (.string (bb x.1.key.data))∧w.cell? ⟨b,off+(i*7+4),none⟩=some (.bool x.1.val.null)∧w.cell? ⟨b,off+(i*7+5),none⟩=some (.string (bb x.1.val.data))∧w.cell? ⟨b,off+(i*7+6),none⟩=some (x.2):=by
 subst hx;obtain⟨F,hF,_⟩:=h.get;obtain⟨q2,cap2,hv,hr⟩:=(zGH hk _ _ hF).at;obtain⟨b2,off2,hq,hc⟩:=hr oM;rw[hq]at hv;simp at hv;obtain⟨⟨rfl,rfl⟩,_,_⟩:=hv;obtain⟨cs,_,hR,hcs⟩:=hc i hi;unfold RRec at hR;subst hR;exact⟨hcs 0 _ rfl,hcs 1 _ rfl,hcs 2 _ rfl,hcs 3 _ rfl,hcs 4 _ rfl,hcs 5 _ rfl,hcs 6 _ rfl⟩
def zBa (l:List (RecS×Value)):Bs:=l.flatMap fun x=>encR x.1
theorem zL2(l:List (RecS×Value))(x:RecS×Value):zBa (l++[x])=zBa l++encR x.1:=by unfold zBa;simp
theorem zHi(l:List (RecS×Value))(k:Nat)(h:k<l.length):zBa (l.take (k+1))=zBa (l.take k)++encR l[k].1:=by rw[List.take_succ_eq_append_getElem h,zL2]
theorem zNA(x:RecS)(hx:x.R)(ho:zBc x=0)(hs:x.sum≤1000000)(r:Bs):zCj (encR x++r)=.ok (x,(encR x).length):=by
 have hle:=zE7 x hx hs;have h1:=zBt ⟨false,recF x⟩ rfl (by simp only;omega) r;unfold zCj encR;rw[h1];simp only[Bool.false_eq_true,if_false];rw[zJ6 x hx ho hs]
theorem zDR:zEd Tryz.prog 119 (.agg #[.int .i64 0,.int .i64 0,.bool false,.string ⟨#[]⟩,.bool false,.string ⟨#[]⟩,.slice none 0 0]) 7 88:=zBT (by kernel_rfl) rfl dD
def zEF (x:RecS) (r:Except Int (List RecS)):Except Int (List RecS):=match r with| .ok t=> .ok (x::t)| .error e=> .error e
def unp:Nat→InS→Except Int (List RecS)
 |0,i=>if i.left=0 then .ok []else .error 10
 |n+1,i=>if i.left=0 then .error 10 else if i.record.2.err=0 then zEF i.record.1 (unp n i.record.2)else .error i.record.2.err
def preU (acc:List RecS) (r:Except Int (List RecS)):Except Int (List RecS):=match r with| .ok t=> .ok (acc++t)| .error e=> .error e
theorem zEr(r:Except Int (List RecS)):preU [] r=r:=by cases r<;>rfl
theorem zDw(acc:List RecS)(x:RecS)(r:Except Int (List RecS)):preU (acc++[x]) r=preU acc (zEF x r):=by
 cases r with
 |error e=>rfl
 |ok t=>simp[preU,zEF]
theorem zEX(p:Nat)(i:InS)(n:Nat)(hx:i.left=n)(h:St W0 w K (.inp p i::L)):
 Calls Tryz.prog 52 #[zAu p] w fun en w'=>en=.returned (.int .i64 n)∧St W0 w' K (.inp p i::L):=by
 subst hx;exact zMx p i h
theorem zDq(p:Nat)(i:InS)(e:Int)(hx:i.err=e)(h:St W0 w K (.inp p i::L)):
 Calls Tryz.prog 20 #[zAu p] w fun en w'=>en=.returned (.int .i64 e)∧St W0 w' K (.inp p i::L):=by
 subst hx;exact zIr p i h
def zCU (k:Nat) (ok:Int→Bool) (e:Int) (s:Bs):Int×Int:=
 if s.length<2 then(0,1)else if sInt (s.take 2)≠0 then(0,7)else if s.length<2+k then(0,1)
 else if ok (sInt ((s.drop 2).take k))=false then(0,e)else if 2+k<s.length then(0,2)else(sInt ((s.drop 2).take k),0)
def verA (s:Bs):Int×InS:=(⟨s,0,0⟩:InS).int 2
def verI (s:Bs):InS:=if (verA s).1=0 then(verA s).2 else(verA s).2.fail 7
def verJ (k:Nat) (ok:Int→Bool) (e:Int) (s:Bs):InS:=if ok ((verI s).int k).1=true then((verI s).int k).2 else((verI s).int k).2.fail e
def verD (k:Nat) (ok:Int→Bool) (e:Int) (s:Bs):Int×Int:=if (verJ k ok e s).close.err=0 then(((verI s).int k).1,0)else(0,(verJ k ok e s).close.err)
theorem zKT{i:InS}(h:i.err≠0):i.close=i:=by
 unfold InS.close
 split
 ·exact if_neg h
 ·rfl
theorem zFO{k:Nat}{ok:Int→Bool}{e x:Int}{s:Bs}(hx:x≠0)(h:(verJ k ok e s).err=x):verD k ok e s=(0,x):=by
 subst h;unfold verD;rw[zKT hx,if_neg hx]
theorem zHK{k:Nat}{ok:Int→Bool}{e x:Int}{s:Bs}(h1:1≤k)(h8:k≤8)(hx:x≠0)(h:(verI s).err=x):(verJ k ok e s).err=x:=by
 subst h;have h2:(verI s).int k=(0,verI s):=(zBl k h1 h8).stuck (verI s) hx;unfold verJ;rw[h2]
 split
 ·rfl
 ·rw[show(verI s).fail e=verI s from if_neg hx]
theorem zOc(k:Nat)(ok:Int→Bool)(e:Int)(h1:1≤k)(h8:k≤8)(he:e≠0)(s:Bs):verD k ok e s=zCU k ok e s:=by
 have hi:=zBl 2 dD dD;have hk:=zBl k h1 h8;unfold zCU
 by_cases c1:s.length<2
 ·rw[if_pos c1];obtain⟨_,q,_,h3⟩:=hi.err s 0 1 (Nat.zero_le _) (by simp[zAI,c1]);have h4:verA s=(0,⟨s,q,1⟩):=h3;refine zFO dD (zHK h1 h8 dD ?_);unfold verI;rw[h4]
  rfl
 rw[if_neg c1];obtain⟨_,h3⟩:=hi.ok s 0 (sInt (s.take 2)) 2 (Nat.zero_le _) (by simp[zAI,c1]);have h4:verA s=(sInt (s.take 2),⟨s,2,0⟩):=h3
 by_cases c2:sInt (s.take 2)≠0
 ·rw[if_pos c2];refine zFO dD (zHK h1 h8 dD ?_);unfold verI;rw[h4,if_neg c2]
  rfl
 rw[if_neg c2];have hI:verI s=⟨s,2,0⟩:=by unfold verI;rw[h4,if_pos (by simpa using c2)]
 by_cases c3:s.length<2+k
 ·rw[if_pos c3];obtain⟨_,q,_,h7⟩:=hk.err s 2 1 oM (by unfold zAI;rw[if_pos (by rw[List.length_drop];omega)]);have h7:(verI s).int k=(0,⟨s,q,1⟩):=by rw[hI];exact h7
  refine zFO dD ?_;unfold verJ;rw[h7]
  split
  ·rfl
  ·rfl
 rw[if_neg c3];obtain⟨_,h7⟩:=hk.ok s 2 (sInt ((s.drop 2).take k)) k oM (by unfold zAI;rw[if_neg (by rw[List.length_drop];omega)]);have h7:(verI s).int k=(sInt ((s.drop 2).take k),⟨s,2+k,0⟩):=by rw[hI];exact h7
 by_cases c4:ok (sInt ((s.drop 2).take k))=false
 ·rw[if_pos c4];refine zFO he ?_;unfold verJ;rw[h7];rw[if_neg (by rw[c4];decide)]
  rfl
 rw[if_neg c4];have hJ:verJ k ok e s=⟨s,2+k,0⟩:=by unfold verJ;rw[h7,if_pos (by simpa using c4)]
 by_cases c5:2+k<s.length
 ·have hc:(⟨s,2+k,0⟩:InS).close=⟨s,2+k,2⟩:=by
   unfold InS.close;rw[if_pos (show 0<(⟨s,2+k,0⟩:InS).left by simp only[InS.left];omega)]
   rfl
  unfold verD;rw[if_pos c5,hJ,hc,if_neg (by simp only;decide)]
 ·have hc:(⟨s,2+k,0⟩:InS).close=⟨s,2+k,0⟩:=by
   unfold InS.close;rw[if_neg (show ¬0<(⟨s,2+k,0⟩:InS).left by simp only[InS.left];omega)]
  unfold verD;rw[if_neg c5,hJ,hc,if_pos rfl,h7]
def way (n:Int):Bool:=n==0||n==1
def zCN (n:Int):Bool:=decide (0≤n)
variable {W0 w:World}{K:Know}{L:List Res}
theorem zPs(n:Int)(h:St W0 w K L):
 Calls Tryz.prog 173 #[.int .i64 n] w fun en w'=>en=.returned (.bool (way n))∧St W0 w' K L:=by
 have H:=hQd h;clear h
 by_cases h0:n=0
 ·subst h0;go_enter Tryz.func173,Tryz.ntmps173;go_wp2;go_ret;exact⟨rfl,H.out⟩
 have e0:(n==0)=false:=by simpa using h0
 go_enter Tryz.func173,Tryz.ntmps173;go_wp2;go_ret;exact⟨zAB (by unfold way;rw[e0];rfl),H.out⟩
theorem zPr(n:Int)(h:St W0 w K L):
 Calls Tryz.prog 174 #[.int .i64 n] w fun en w'=>en=.returned (.bool (zCN n))∧St W0 w' K L:=by
 have H:=hQd h;clear h;go_enter Tryz.func174,Tryz.ntmps174;go_wp2;go_ret;exact⟨zAB (by unfold zCN;rfl),H.out⟩
theorem zKR(s:Bs)(r:Int×Int)(hr:zCU 2 way 12 s=r)(hs:s.length≤140737488355328)(h:St W0 w K L):
 Calls Tryz.prog 172 #[.string (bb s),.int .i64 2,.func (.func 173) #[] #[],.int .i64 12] w fun en w'=>en=.returned (.tuple #[.int .i64 r.1,.int .i64 r.2])∧St W0 w' K L:=by
 have hrd:verD 2 way 12 s=r:=(zOc 2 way 12 dD dD dD s).trans hr;have H:=hQd h;have HS:=hQd hs;clear h hs hr;obtain⟨a,ha⟩:∃a,verA s=a:=⟨_,rfl⟩;have hI:verI s=if a.1=0 then a.2 else a.2.fail 7:=by unfold verI;rw[ha]
 obtain⟨i,hi⟩:∃i,verI s=i:=⟨_,rfl⟩;rw[hi]at hI;obtain⟨t,ht⟩:∃t,i.int 2=t:=⟨_,rfl⟩;have hJ:verJ 2 way 12 s=if way t.1=true then t.2 else t.2.fail 12:=by unfold verJ;rw[hi];show(if way (i.int 2).1=true then(i.int 2).2 else(i.int 2).2.fail 12)=_;rw[ht]
 obtain⟨j,hj⟩:∃j,verJ 2 way 12 s=j:=⟨_,rfl⟩
 have hD:(if j.close.err=0 then(t.1,0)else(0,j.close.err))=r:=by
  rw[←hrd,←hj,←ht,←hi];rfl
 rw[hj]at hJ;obtain⟨c,hc⟩:∃c,j.close=c:=⟨_,rfl⟩;rw[hc]at hD;have EA:=hQd (show(⟨s,0,0⟩:InS).int 2=a from ha);have ET:=hQd ht;have EC:=hQd hc;obtain⟨o,ho⟩:∃o,way t.1=o:=⟨_,rfl⟩;rw[ho]at hJ;have EO:=hQd ho;clear ha hi ht hj hc ho hrd
 by_cases h1:a.1=0<;>cases o<;>by_cases h3:c.err=0
 all_goals
  first|rw[if_pos h1]at hI|rw[if_neg h1]at hI
  first|rw[if_pos rfl]at hJ|rw[if_neg dD]at hJ
  first|rw[if_pos h3]at hD|rw[if_neg h3]at hD
  subst hD;have b1:(a.1 !=0)=decide (a.1≠0):=by by_cases h:a.1=0<;>simp[h]
  have b3:(c.err !=0)=decide (c.err≠0):=by by_cases h:c.err=0<;>simp[h]
  first|rw[decide_eq_true h1]at b1|rw[decide_eq_false (not_not_intro h1)]at b1
  first|rw[decide_eq_true h3]at b3|rw[decide_eq_false (not_not_intro h3)]at b3
  have EI:=hQd hI.symm;have EJ:=hQd hJ.symm;clear h1 h3 hI hJ;go_enter Tryz.func172,Tryz.ntmps172
  go_wp2_with (first
   |(go_at_call 14;refine(zEi s HS.out stQ).mono ?_;rintro e wn ⟨bi,rfl,h⟩;replace H:=hQd h;clear h)
   |(go_at_call 44;refine(zCO _ _ _ stQ).mono ?_;(repeat first|rw[EA.out]|rw[ET.out]);rintro e wn ⟨rfl,h⟩;replace H:=hQd h;clear h;(try rw[EI.out]at H);(try rw[EJ.out]at H))
   |(go_at_call 47;refine(zCz _ _ _ stQ).mono ?_;(repeat first|rw[EI.out]|rw[EJ.out]);rintro e wn ⟨rfl,h⟩;replace H:=hQd h;clear h)
   |(go_at_call 173;refine(zPs _ H.out).mono ?_;rw[EO.out];rintro e wn ⟨rfl,h⟩;replace H:=hQd h;clear h)
   |(go_at_call 18;refine(zGf _ _ stQ).mono ?_;(repeat first|rw[EC.out]);rintro e wn ⟨rfl,h⟩;replace H:=hQd h;clear h))
  go_ret2;exact⟨rfl,H.out.drop⟩
theorem zKQ(s:Bs)(r:Int×Int)(hr:zCU 4 zCN 11 s=r)(hs:s.length≤140737488355328)(h:St W0 w K L):
 Calls Tryz.prog 172 #[.string (bb s),.int .i64 4,.func (.func 174) #[] #[],.int .i64 11] w fun en w'=>en=.returned (.tuple #[.int .i64 r.1,.int .i64 r.2])∧St W0 w' K L:=by
 have hrd:verD 4 zCN 11 s=r:=(zOc 4 zCN 11 dD dD dD s).trans hr;have H:=hQd h;have HS:=hQd hs;clear h hs hr;obtain⟨a,ha⟩:∃a,verA s=a:=⟨_,rfl⟩;have hI:verI s=if a.1=0 then a.2 else a.2.fail 7:=by unfold verI;rw[ha]
 obtain⟨i,hi⟩:∃i,verI s=i:=⟨_,rfl⟩;rw[hi]at hI;obtain⟨t,ht⟩:∃t,i.int 4=t:=⟨_,rfl⟩;have hJ:verJ 4 zCN 11 s=if zCN t.1=true then t.2 else t.2.fail 11:=by unfold verJ;rw[hi];show(if zCN (i.int 4).1=true then(i.int 4).2 else(i.int 4).2.fail 11)=_;rw[ht]
 obtain⟨j,hj⟩:∃j,verJ 4 zCN 11 s=j:=⟨_,rfl⟩
 have hD:(if j.close.err=0 then(t.1,0)else(0,j.close.err))=r:=by
  rw[←hrd,←hj,←ht,←hi];rfl
 rw[hj]at hJ;obtain⟨c,hc⟩:∃c,j.close=c:=⟨_,rfl⟩;rw[hc]at hD;have EA:=hQd (show(⟨s,0,0⟩:InS).int 2=a from ha);have ET:=hQd ht;have EC:=hQd hc;obtain⟨o,ho⟩:∃o,zCN t.1=o:=⟨_,rfl⟩;rw[ho]at hJ;have EO:=hQd ho;clear ha hi ht hj hc ho hrd
 by_cases h1:a.1=0<;>cases o<;>by_cases h3:c.err=0
 all_goals
  first|rw[if_pos h1]at hI|rw[if_neg h1]at hI
  first|rw[if_pos rfl]at hJ|rw[if_neg dD]at hJ
  first|rw[if_pos h3]at hD|rw[if_neg h3]at hD
  subst hD;have b1:(a.1 !=0)=decide (a.1≠0):=by by_cases h:a.1=0<;>simp[h]
  have b3:(c.err !=0)=decide (c.err≠0):=by by_cases h:c.err=0<;>simp[h]
  first|rw[decide_eq_true h1]at b1|rw[decide_eq_false (not_not_intro h1)]at b1
  first|rw[decide_eq_true h3]at b3|rw[decide_eq_false (not_not_intro h3)]at b3
  have EI:=hQd hI.symm;have EJ:=hQd hJ.symm;clear h1 h3 hI hJ;go_enter Tryz.func172,Tryz.ntmps172
  go_wp2_with (first
   |(go_at_call 14;refine(zEi s HS.out stQ).mono ?_;rintro e wn ⟨bi,rfl,h⟩;replace H:=hQd h;clear h)
   |(go_at_call 44;refine(zCO _ _ _ stQ).mono ?_;(repeat first|rw[EA.out]|rw[ET.out]);rintro e wn ⟨rfl,h⟩;replace H:=hQd h;clear h;(try rw[EI.out]at H);(try rw[EJ.out]at H))
   |(go_at_call 47;refine(zCz _ _ _ stQ).mono ?_;(repeat first|rw[EI.out]|rw[EJ.out]);rintro e wn ⟨rfl,h⟩;replace H:=hQd h;clear h)
   |(go_at_call 174;refine(zPr _ H.out).mono ?_;rw[EO.out];rintro e wn ⟨rfl,h⟩;replace H:=hQd h;clear h)
   |(go_at_call 18;refine(zGf _ _ stQ).mono ?_;(repeat first|rw[EC.out]);rintro e wn ⟨rfl,h⟩;replace H:=hQd h;clear h))
  go_ret2;exact⟨rfl,H.out.drop⟩
theorem zEb(s:Bs)(r:Int×Int)(hr:zCU 2 way 12 s=r)(hs:s.length≤140737488355328)(h:St W0 w K L):
 Calls Tryz.prog 153 #[.string (bb s)] w fun en w'=>en=.returned (.tuple #[.int .i64 r.1,.int .i64 r.2])∧St W0 w' K L:=by
 have H:=hQd h;have HS:=hQd hs;have HR:=hQd hr;clear h hs hr;go_enter Tryz.func153,Tryz.ntmps153;go_wp2_with ((go_at_call 172;refine(zKR s r HR.out HS.out stQ).zM ?_;clear H;intro wn H));go_ret2;exact⟨rfl,H.out⟩
theorem zED(s:Bs)(r:Int×Int)(hr:zCU 4 zCN 11 s=r)(hs:s.length≤140737488355328)(h:St W0 w K L):
 Calls Tryz.prog 154 #[.string (bb s)] w fun en w'=>en=.returned (.tuple #[.int .i64 r.1,.int .i64 r.2])∧St W0 w' K L:=by
 have H:=hQd h;have HS:=hQd hs;have HR:=hQd hr;clear h hs hr;go_enter Tryz.func154,Tryz.ntmps154;go_wp2_with ((go_at_call 172;refine(zKQ s r HR.out HS.out stQ).zM ?_;clear H;intro wn H));go_ret2;exact⟨rfl,H.out⟩
variable {W0 w:World}{K:Know}{L:List Res}
theorem zq10{p:Prop}(h:p:=by
  go_wp2_with (first
   |(go_at_call 54;(with_reducible refine(zFs (s.take 2) HT.out H.out).mono ?_);rw[E1.out];rintro e wn ⟨rfl,h⟩;replace H:=hQd h;clear h)
   |(go_at_call 54;(with_reducible refine(zFs ((s.drop 2).take 2) HT2.out H.out).mono ?_);rw[E2.out];rintro e wn ⟨rfl,h⟩;replace H:=hQd h;clear h))
  go_ret2;exact⟨rfl,H.out⟩):p:=h
theorem zDd(s:Bs)(r:Int×Int)(hr:zCU 2 way 12 s=r)(hs:s.length≤140737488355328)(h:St W0 w K L):
 Calls Tryz.prog 135 #[.string (bb s)] w fun en w'=>en=.returned (.tuple #[.int .i64 r.1,.int .i64 r.2])∧St W0 w' K L:=by
 have H:=hQd h;have HS:=hQd hs;have HT:=hQd (show(s.take 2).length≤8 by rw[List.length_take];omega);have HT2:=hQd (show((s.drop 2).take 2).length≤8 by rw[List.length_take];omega);obtain⟨v1,hv1⟩:∃v,sInt (s.take 2)=v:=⟨_,rfl⟩;obtain⟨v2,hv2⟩:∃v,sInt ((s.drop 2).take 2)=v:=⟨_,rfl⟩;unfold zCU at hr;rw[hv1,hv2]at hr;have E1:=hQd hv1;have E2:=hQd hv2;clear h hs hv1 hv2
 by_cases c1:s.length<2
 ·rw[if_pos c1]at hr;subst hr;go_enter Tryz.func135,Tryz.ntmps135
  exact zq10
 rw[if_neg c1]at hr
 by_cases c2:v1≠0
 ·rw[if_pos c2]at hr;subst hr;have d2:(v1 !=0)=true:=by simpa using c2
  go_enter Tryz.func135,Tryz.ntmps135
  exact zq10
 rw[if_neg c2]at hr;have d2:(v1 !=0)=false:=by simpa using c2
 clear c2
 by_cases c3:s.length<2+2
 ·rw[if_pos c3]at hr;subst hr;have c3':s.length<4:=c3;clear c3;go_enter Tryz.func135,Tryz.ntmps135
  exact zq10
 rw[if_neg c3]at hr;have c3':¬s.length<4:=c3;clear c3
 by_cases c4:way v2=false
 ·rw[if_pos c4]at hr;subst hr;have n0:(v2 !=0)=true∧(v2 !=1)=true:=(by unfold way at c4;simpa using c4);obtain⟨n0,n1⟩:=n0;clear c4;go_enter Tryz.func135,Tryz.ntmps135
  exact zq10
 rw[if_neg c4]at hr
 by_cases c5:2+2<s.length
 ·rw[if_pos c5]at hr;subst hr;have c5':4<s.length:=c5;clear c5;have hv2:v2=0∨v2=1:=(by unfold way at c4;simp at c4;omega);clear c4;rcases hv2 with rfl|rfl
  all_goals
   go_enter Tryz.func135,Tryz.ntmps135
   exact zq10
 rw[if_neg c5]at hr;subst hr;have c5':¬4<s.length:=c5;clear c5;have hv2:v2=0∨v2=1:=(by unfold way at c4;simp at c4;omega);clear c4;rcases hv2 with rfl|rfl
 all_goals
  go_enter Tryz.func135,Tryz.ntmps135
  exact zq10
theorem zq18{p:Prop}(h:p:=by
  go_wp2_with (first
   |(go_at_call 54;(with_reducible refine(zFs (s.take 2) HT.out H.out).mono ?_);rw[E1.out];rintro e wn ⟨rfl,h⟩;replace H:=hQd h;clear h)
   |(go_at_call 54;(with_reducible refine(zFs ((s.drop 2).take 4) HT2.out H.out).mono ?_);rw[E2.out];rintro e wn ⟨rfl,h⟩;replace H:=hQd h;clear h))
  go_ret2;exact⟨rfl,H.out⟩):p:=h
theorem zq23{p:Prop}(h:p:=by
  go_wp2_with (first
   |(go_at_call 54;(with_reducible refine(zFs (s.take 2) HT.out H.out).mono ?_);rw[E1.out];rintro e wn ⟨rfl,h⟩;replace H:=hQd h;clear h))
  go_ret2;exact⟨rfl,H.out⟩):p:=h
theorem zDs(s:Bs)(r:Int×Int)(hr:zCU 4 zCN 11 s=r)(hs:s.length≤140737488355328)(h:St W0 w K L):
 Calls Tryz.prog 136 #[.string (bb s)] w fun en w'=>en=.returned (.tuple #[.int .i64 r.1,.int .i64 r.2])∧St W0 w' K L:=by
 have H:=hQd h;have HS:=hQd hs;have HT:=hQd (show(s.take 2).length≤8 by rw[List.length_take];omega);have HT2:=hQd (show((s.drop 2).take 4).length≤8 by rw[List.length_take];omega);obtain⟨v1,hv1⟩:∃v,sInt (s.take 2)=v:=⟨_,rfl⟩;obtain⟨v2,hv2⟩:∃v,sInt ((s.drop 2).take 4)=v:=⟨_,rfl⟩;unfold zCU at hr;rw[hv1,hv2]at hr;have E1:=hQd hv1;have E2:=hQd hv2;clear h hs hv1 hv2
 by_cases c1:s.length<2
 ·rw[if_pos c1]at hr;subst hr;go_enter Tryz.func136,Tryz.ntmps136
  exact zq23
 rw[if_neg c1]at hr
 by_cases c2:v1≠0
 ·rw[if_pos c2]at hr;subst hr;have d2:(v1 !=0)=true:=by simpa using c2
  go_enter Tryz.func136,Tryz.ntmps136
  exact zq23
 rw[if_neg c2]at hr;have d2:(v1 !=0)=false:=by simpa using c2
 clear c2
 by_cases c3:s.length<2+4
 ·rw[if_pos c3]at hr;subst hr;have c3':s.length<6:=c3;clear c3;go_enter Tryz.func136,Tryz.ntmps136
  exact zq23
 rw[if_neg c3]at hr;have c3':¬s.length<6:=c3;clear c3
 by_cases c4:zCN v2=false
 ·rw[if_pos c4]at hr;subst hr;have n0:v2<0:=(by unfold zCN at c4;simpa using c4);clear c4;go_enter Tryz.func136,Tryz.ntmps136
  exact zq18
 rw[if_neg c4]at hr
 by_cases c5:2+4<s.length
 ·rw[if_pos c5]at hr;subst hr;have c5':6<s.length:=c5;clear c5;have n0:¬v2<0:=(by unfold zCN at c4;simpa using c4);clear c4
  all_goals
   go_enter Tryz.func136,Tryz.ntmps136
   exact zq18
 rw[if_neg c5]at hr;subst hr;have c5':¬6<s.length:=c5;clear c5;have n0:¬v2<0:=(by unfold zCN at c4;simpa using c4);clear c4
 all_goals
  go_enter Tryz.func136,Tryz.ntmps136
  exact zq18
variable {W0 w:World}{K:Know}{L:List Res}
def zEc (n1 n2:Bool) (d1 d2:Bs) (many o:Int):Int×Int×Int:=
 if n1=true∨n2=true∨many≠0∨o≠0 then(0,0,12)
 else if (zCU 2 way 12 d1).2≠0 then(0,0,(zCU 2 way 12 d1).2)
 else if (zCU 4 zCN 11 d2).2≠0 then(0,0,(zCU 4 zCN 11 d2).2)
 else((zCU 2 way 12 d1).1,(zCU 4 zCN 11 d2).1,0)
theorem zMW(t o:Int)(n1 n2:Bool)(d1 d2:Bs)(q:Option Addr)(ln cap:Nat)(r:Int×Int×Int)(hr:zEc n1 n2 d1 d2 ln o=r)(hd1:d1.length≤140737488355328)(hd2:d2.length≤140737488355328)(h:St W0 w K L):
 Calls Tryz.prog 123 #[.agg #[.int .i64 t,.int .i64 o,.bool n1,.string (bb d1),.bool n2,.string (bb d2),(.slice q ln cap)]] w fun en w'=>en=.returned (.tuple #[.int .i64 r.1,.int .i64 r.2.1,.int .i64 r.2.2])∧St W0 w' K L:=by
 have h0:=h.allocRaw #[.int .i64 t,.int .i64 o,.bool n1,.string (bb d1),.bool n2,.string (bb d2),(.slice q ln cap)] 119;obtain⟨wA,hwA⟩:∃b,w.heap.size=b:=⟨_,rfl⟩;rw[hwA]at h0;have H:=hQd h0;have HD1:=hQd hd1;have HD2:=hQd hd2;obtain⟨ac0,ac1,ac2,ac3,ac4,ac5,ac6,af0,af1,af2,af3,af4,af5,af6⟩:=raw7 (b:=wA) (H.out);clear h h0 hd1 hd2;unfold zEc at hr
 by_cases g1:n1=true
 ·rw[if_pos (.inl g1)]at hr;subst hr g1;go_enter Tryz.func123,Tryz.ntmps123;go_wp2;go_ret3;exact⟨rfl,H.out.drop⟩
 by_cases g2:n2=true
 ·rw[if_pos (.inr (.inl g2))]at hr;subst hr g2;obtain rfl:n1=false:=by simpa using g1
  clear g1;go_enter Tryz.func123,Tryz.ntmps123;go_wp2;go_ret3;exact⟨rfl,H.out.drop⟩
 obtain rfl:n1=false:=by simpa using g1
 obtain rfl:n2=false:=by simpa using g2
 clear g1 g2
 by_cases g3:(ln:Int)≠0
 ·rw[if_pos (.inr (.inr (.inl g3)))]at hr;subst hr;have b1:((ln:Int) !=0)=true:=by simpa using g3
  have b2:decide (0<ln)=true:=decide_eq_true oM;have b3:decide ((0:Int)<ln)=true:=decide_eq_true oM;have b4:0<ln:=by omega
  clear g3;go_enter Tryz.func123,Tryz.ntmps123;go_wp2;go_ret3;exact⟨rfl,H.out.drop⟩
 obtain rfl:ln=0:=by omega
 clear g3
 by_cases g4:o≠0
 ·rw[if_pos (.inr (.inr (.inr g4)))]at hr;subst hr;have b1:(o !=0)=true:=by simpa using g4
  clear g4;go_enter Tryz.func123,Tryz.ntmps123;go_wp2;go_ret3;exact⟨rfl,H.out.drop⟩
 obtain rfl:o=0:=by simpa using g4
 clear g4;rw[if_neg (by simp)]at hr;obtain⟨a,ha⟩:∃a,zCU 2 way 12 d1=a:=⟨_,rfl⟩;obtain⟨b,hb⟩:∃b,zCU 4 zCN 11 d2=b:=⟨_,rfl⟩;rw[ha,hb]at hr;have EA:=hQd ha;have EB:=hQd hb;clear ha hb
 by_cases g5:a.2≠0
 ·rw[if_pos g5]at hr;subst hr;have b1:(a.2 !=0)=true:=by simpa using g5
  clear g5;go_enter Tryz.func123,Tryz.ntmps123
  go_wp2_with (first
   |(go_at_call 153;refine(zEb d1 a EA.out HD1.out H.out).zM ?_;clear H;intro wn H;obtain⟨ac0,ac1,ac2,ac3,ac4,ac5,ac6,af0,af1,af2,af3,af4,af5,af6⟩:=raw7 (b:=wA) (H.out)))
  go_ret3;exact⟨rfl,H.out.drop⟩
 rw[if_neg g5]at hr;have b1:(a.2 !=0)=false:=by simpa using g5
 clear g5
 by_cases g6:b.2≠0
 ·rw[if_pos g6]at hr;subst hr;have b2:(b.2 !=0)=true:=by simpa using g6
  clear g6;go_enter Tryz.func123,Tryz.ntmps123
  go_wp2_with (first
   |(go_at_call 153;refine(zEb d1 a EA.out HD1.out H.out).zM ?_;clear H;intro wn H;obtain⟨ac0,ac1,ac2,ac3,ac4,ac5,ac6,af0,af1,af2,af3,af4,af5,af6⟩:=raw7 (b:=wA) (H.out))
   |(go_at_call 154;refine(zED d2 b EB.out HD2.out H.out).zM ?_;clear H;intro wn H;obtain⟨ac0,ac1,ac2,ac3,ac4,ac5,ac6,af0,af1,af2,af3,af4,af5,af6⟩:=raw7 (b:=wA) (H.out)))
  go_ret3;exact⟨rfl,H.out.drop⟩
 rw[if_neg g6]at hr;subst hr;have b2:(b.2 !=0)=false:=by simpa using g6
 clear g6;go_enter Tryz.func123,Tryz.ntmps123
 go_wp2_with (first
  |(go_at_call 153;refine(zEb d1 a EA.out HD1.out H.out).zM ?_;clear H;intro wn H;obtain⟨ac0,ac1,ac2,ac3,ac4,ac5,ac6,af0,af1,af2,af3,af4,af5,af6⟩:=raw7 (b:=wA) (H.out))
  |(go_at_call 154;refine(zED d2 b EB.out HD2.out H.out).zM ?_;clear H;intro wn H;obtain⟨ac0,ac1,ac2,ac3,ac4,ac5,ac6,af0,af1,af2,af3,af4,af5,af6⟩:=raw7 (b:=wA) (H.out)))
 go_ret3;exact⟨rfl,H.out.drop⟩
theorem zHP(t o:Int)(n1 n2:Bool)(d1 d2:Bs)(q:Option Addr)(ln cap:Nat)(r:Int×Int×Int)(hr:zEc n1 n2 d1 d2 ln o=r)(hd1:d1.length≤140737488355328)(hd2:d2.length≤140737488355328)(h:St W0 w K L):
 Calls Tryz.prog 103 #[.agg #[.int .i64 t,.int .i64 o,.bool n1,.string (bb d1),.bool n2,.string (bb d2),(.slice q ln cap)]] w fun en w'=>en=.returned (.tuple #[.int .i64 r.1,.int .i64 r.2.1,.int .i64 r.2.2])∧St W0 w' K L:=by
 have h0:=h.allocRaw #[.int .i64 t,.int .i64 o,.bool n1,.string (bb d1),.bool n2,.string (bb d2),(.slice q ln cap)] 119;obtain⟨wA,hwA⟩:∃b,w.heap.size=b:=⟨_,rfl⟩;rw[hwA]at h0;have H:=hQd h0;have HD1:=hQd hd1;have HD2:=hQd hd2;obtain⟨ac0,ac1,ac2,ac3,ac4,ac5,ac6,af0,af1,af2,af3,af4,af5,af6⟩:=raw7 (b:=wA) (H.out);clear h h0 hd1 hd2;unfold zEc at hr
 by_cases g1:n1=true
 ·rw[if_pos (.inl g1)]at hr;subst hr g1;go_enter Tryz.func103,Tryz.ntmps103;go_wp2;go_ret3;exact⟨rfl,H.out.drop⟩
 by_cases g2:n2=true
 ·rw[if_pos (.inr (.inl g2))]at hr;subst hr g2;obtain rfl:n1=false:=by simpa using g1
  clear g1;go_enter Tryz.func103,Tryz.ntmps103;go_wp2;go_ret3;exact⟨rfl,H.out.drop⟩
 obtain rfl:n1=false:=by simpa using g1
 obtain rfl:n2=false:=by simpa using g2
 clear g1 g2
 by_cases g3:(ln:Int)≠0
 ·rw[if_pos (.inr (.inr (.inl g3)))]at hr;subst hr;have b1:((ln:Int) !=0)=true:=by simpa using g3
  have b2:decide (0<ln)=true:=decide_eq_true oM;have b3:decide ((0:Int)<ln)=true:=decide_eq_true oM;have b4:0<ln:=by omega
  clear g3;go_enter Tryz.func103,Tryz.ntmps103;go_wp2;go_ret3;exact⟨rfl,H.out.drop⟩
 obtain rfl:ln=0:=by omega
 clear g3
 by_cases g4:o≠0
 ·rw[if_pos (.inr (.inr (.inr g4)))]at hr;subst hr;have b1:(o !=0)=true:=by simpa using g4
  clear g4;go_enter Tryz.func103,Tryz.ntmps103;go_wp2;go_ret3;exact⟨rfl,H.out.drop⟩
 obtain rfl:o=0:=by simpa using g4
 clear g4;rw[if_neg (by simp)]at hr;obtain⟨a,ha⟩:∃a,zCU 2 way 12 d1=a:=⟨_,rfl⟩;obtain⟨b,hb⟩:∃b,zCU 4 zCN 11 d2=b:=⟨_,rfl⟩;rw[ha,hb]at hr;have EA:=hQd ha;have EB:=hQd hb;clear ha hb
 by_cases g5:a.2≠0
 ·rw[if_pos g5]at hr;subst hr;have b1:(a.2 !=0)=true:=by simpa using g5
  clear g5;go_enter Tryz.func103,Tryz.ntmps103
  go_wp2_with (first
   |(go_at_call 135;refine(zDd d1 a EA.out HD1.out H.out).zM ?_;clear H;intro wn H;obtain⟨ac0,ac1,ac2,ac3,ac4,ac5,ac6,af0,af1,af2,af3,af4,af5,af6⟩:=raw7 (b:=wA) (H.out)))
  go_ret3;exact⟨rfl,H.out.drop⟩
 rw[if_neg g5]at hr;have b1:(a.2 !=0)=false:=by simpa using g5
 clear g5
 by_cases g6:b.2≠0
 ·rw[if_pos g6]at hr;subst hr;have b2:(b.2 !=0)=true:=by simpa using g6
  clear g6;go_enter Tryz.func103,Tryz.ntmps103
  go_wp2_with (first
   |(go_at_call 135;refine(zDd d1 a EA.out HD1.out H.out).zM ?_;clear H;intro wn H;obtain⟨ac0,ac1,ac2,ac3,ac4,ac5,ac6,af0,af1,af2,af3,af4,af5,af6⟩:=raw7 (b:=wA) (H.out))
   |(go_at_call 136;refine(zDs d2 b EB.out HD2.out H.out).zM ?_;clear H;intro wn H;obtain⟨ac0,ac1,ac2,ac3,ac4,ac5,ac6,af0,af1,af2,af3,af4,af5,af6⟩:=raw7 (b:=wA) (H.out)))
  go_ret3;exact⟨rfl,H.out.drop⟩
 rw[if_neg g6]at hr;subst hr;have b2:(b.2 !=0)=false:=by simpa using g6
 clear g6;go_enter Tryz.func103,Tryz.ntmps103
 go_wp2_with (first
  |(go_at_call 135;refine(zDd d1 a EA.out HD1.out H.out).zM ?_;clear H;intro wn H;obtain⟨ac0,ac1,ac2,ac3,ac4,ac5,ac6,af0,af1,af2,af3,af4,af5,af6⟩:=raw7 (b:=wA) (H.out))
  |(go_at_call 136;refine(zDs d2 b EB.out HD2.out H.out).zM ?_;clear H;intro wn H;obtain⟨ac0,ac1,ac2,ac3,ac4,ac5,ac6,af0,af1,af2,af3,af4,af5,af6⟩:=raw7 (b:=wA) (H.out)))
 go_ret3;exact⟨rfl,H.out.drop⟩
structure BatS where
 base:Int
 leader:Int
 app:Bool
 txn:Bool
 ctl:Bool
 last:Int
 first:Int
 maxt:Int
 prod:Int
 epoch:Int
 seq:Int
 recs:List RecS
deriving DecidableEq
def BatS.zero:BatS:=⟨0,0,false,false,false,0,0,0,0,0,0,[]⟩
def Rn (n:Int):Prop:= -9223372036854775808≤n∧n<9223372036854775808
def BatS.R (b:BatS):Prop:=Rn b.base∧Rn b.leader∧Rn b.last∧Rn b.first∧Rn b.maxt∧Rn b.prod∧Rn b.epoch∧Rn b.seq
def BatS.placed (b:BatS):Bool:=decide (0≤b.base∧(-1≤b.leader∧b.leader≤2147483647)∧(0≤b.last∧b.last≤2147483647)∧b.base≤9223372036854775807 - b.last∧0≤b.first∧0≤b.maxt)
def BatS.signed (b:BatS):Bool:=
 if b.prod= -1 then decide (b.epoch= -1∧b.seq= -1∧b.txn=false)
 else if b.prod<0∨¬(0≤b.epoch∧b.epoch≤32767)then false
 else if b.ctl then decide (b.seq= -1)
 else decide (0≤b.seq∧b.seq≤2147483647)
def zE2 (first last:Int):List RecS→Int→Int→Except Int Int
 |[],_,g=> .ok g
 |r::t,ah,g=>if r.off≤ah∨last<r.off then .error 13 else if r.time< -first∨9223372036854775807 - first<r.time then .error 11 else zE2 first last t r.off (max g (first+r.time))
def zOp (app:Bool) (maxt:Int) (r:Except Int Int):Int:=match r with
 | .error e=>e
 | .ok g=>if app=false∧maxt≠g then 11 else 0
def BatS.rows (b:BatS):Int:=zOp b.app b.maxt (zE2 b.first b.last b.recs (-1) b.first)
def zCW:List RecS→Int
 |[]=>0
 |r::t=>if zBc r=0 then zCW t else zBc r
def zHl (r:RecS):Int×Int×Int:=zEc r.key.null r.val.null r.key.data r.val.data r.hdrs.length r.off
def BatS.ends (b:BatS):Int:=match b.recs with|[]=>0|r::_=>(zHl r).2.2
def zAl (b:BatS):Int:=
 if b.placed=false then 11
 else if b.ctl=true∧b.txn=false then 8
 else if b.signed=false then 11
 else if b.ctl=true∧b.recs.length≠1 then 10
 else if zCW b.recs≠0 then zCW b.recs
 else if b.ctl=true∧b.ends≠0 then b.ends
 else b.rows
def FitB (l:List (RecS×Value)):Prop:=∀x∈l,x.1.R∧HFit x.1.hdrs∧x.1.sum≤1000000
theorem zIm{x:RecS}(h:x.sum≤1000000):x.hdrs.length≤1000000:=by have:=zCQ x.hdrs;unfold RecS.sum at h;omega
theorem zMq{x:RecS}(h:x.sum≤1000000):x.key.data.length≤140737488355328∧x.val.data.length≤140737488355328:=by unfold RecS.sum at h;omega
theorem zCH(l:List (RecS×Value))(k:Nat)(h:k<l.length)(x:RecS)(hx:l[k].1=x):(l.map (·.1)).drop k=x::(l.map (·.1)).drop (k+1):=by
 subst hx;rw[List.drop_eq_getElem_cons (by simpa using h),List.getElem_map]
theorem zE1(first last:Int)(r:RecS)(t:List RecS)(ah g:Int):zE2 first last (r::t) ah g=if r.off≤ah∨last<r.off then .error 13 else if r.time< -first∨9223372036854775807 - first<r.time then .error 11 else zE2 first last t r.off (max g (first+r.time)):=rfl
end Go.Proofs.YtnnnglklgofabaaGreat
