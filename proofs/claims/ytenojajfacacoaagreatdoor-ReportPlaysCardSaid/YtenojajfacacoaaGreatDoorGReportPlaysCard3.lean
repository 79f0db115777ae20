/- A text. -/
import Derived.Test.YtenojajfacacoaaGreatDoorGReportPlaysCard2
import Derived.Deep.RegionHeld3
import Derived.Deep.DeepCutAuto
/- A text. -/
namespace Go.Proofs.YtenojajfacacoaaGreatDoor
open Go.RowKit
open Go.Value renaming bool→U, string→Z, slice→Ja, int→I, pointer→Jc
open Go.Ending renaming returned→Jb
open _root_.Nat renaming le_refl→Jo, zero_le→Ji, add_assoc→Jm
open Go.IntKind renaming i64→O
open _root_.Go.Proofs.Tryz renaming prog→Jd
open _root_.List renaming length_cons→Jg, take_of_length_le→Jj, length_take→Jk, length_append→Je, length→Jh, take→Jq, getElem_mem→Jp, length_drop→Jf, length_nil→Jl, length_map→Jn
set_option maxHeartbeats 8000000
set_option maxRecDepth 100000
variable {W0 w:World}{K:Know}{L:List Res}
theorem zRf(n:Int)(h:St W0 w K L):
 Calls Jd 130 #[I O n] w fun en w'=>en=Jb (U (way n))∧St W0 w' K L:=by
 have H:=hQd h;clear h
 by_cases h0:n=0
 ·subst h0;go_enter Tryz.func130,Tryz.ntmps130;go_wp2;go_ret;exact⟨rfl,H.out⟩
 have e0:(n==0)=false:=by simpa using h0
 go_enter Tryz.func130,Tryz.ntmps130;go_wp2;go_ret;exact⟨zBD (by unfold way;rw[e0];rfl),H.out⟩
theorem zRe(n:Int)(h:St W0 w K L):
 Calls Jd 131 #[I O n] w fun en w'=>en=Jb (U (zCI n))∧St W0 w' K L:=by
 have H:=hQd h;clear h;go_enter Tryz.func131,Tryz.ntmps131;go_wp2;go_ret;exact⟨zBD (by unfold zCI;rfl),H.out⟩
theorem zLy(s:Bs)(r:Int×Int)(hr:zCn 2 way 12 s=r)(hs:s.length≤140737488355328)(h:St W0 w K L):
 Calls Jd 129 #[Z (bb s),I O 2,.func (.func 130) #[] #[],I O 12] w fun en w'=>en=Jb (.tuple #[I O r.1,I O r.2])∧St W0 w' K L:=by
 have hrd:verD 2 way 12 s=r:=(zPi 2 way 12 dD dD dD s).trans hr;have H:=hQd h;have HS:=hQd hs;clear h hs hr;obtain⟨a,ha⟩:=eX (verA s);have hI:verI s=if a.1=0 then a.2 else a.2.fail 7:=by unfold verI;rw[ha]
 obtain⟨i,hi⟩:=eX (verI s);rw[hi]at hI;obtain⟨t,ht⟩:=eX (i.int 2);have hJ:verJ 2 way 12 s=if way t.1=true then t.2 else t.2.fail 12:=by unfold verJ;rw[hi];show(if way (i.int 2).1=true then(i.int 2).2 else(i.int 2).2.fail 12)=_;rw[ht]
 obtain⟨j,hj⟩:=eX (verJ 2 way 12 s)
 have hD:(if j.close.err=0 then(t.1,0)else(0,j.close.err))=r:=by
  rw[←hrd,←hj,←ht,←hi];rfl
 rw[hj]at hJ;obtain⟨c,hc⟩:=eX j.close;rw[hc]at hD;have EA:=hQd (show(⟨s,0,0⟩:InS).int 2=a from ha);have ET:=hQd ht;have EC:=hQd hc;obtain⟨o,ho⟩:=eX (way t.1);rw[ho]at hJ;have EO:=hQd ho;clear ha hi ht hj hc ho hrd
 by_cases h1:a.1=0<;>cases o<;>by_cases h3:c.err=0
 all_goals
  first|rw[if_pos h1]at hI|rw[if_neg h1]at hI
  first|rw[if_pos rfl]at hJ|rw[if_neg dD]at hJ
  first|rw[if_pos h3]at hD|rw[if_neg h3]at hD
  subst hD;have b1:(a.1 !=0)=decide (a.1≠0):=by by_cases h:a.1=0<;>simp[h]
  have b3:(c.err !=0)=decide (c.err≠0):=by by_cases h:c.err=0<;>simp[h]
  first|rw[decide_eq_true h1]at b1|rw[decide_eq_false (not_not_intro h1)]at b1
  first|rw[decide_eq_true h3]at b3|rw[decide_eq_false (not_not_intro h3)]at b3
  have EI:=hQd hI.symm;have EJ:=hQd hJ.symm;clear h1 h3 hI hJ;go_enter Tryz.func129,Tryz.ntmps129
  go_wp2_with (first
   |(go_at_call 156;refine(zEo s HS.out stQ).mono ?_;rintro e wn ⟨bi,rfl,h⟩;replace H:=hQd h;clear h)
   |(go_at_call 157;refine(zDb _ _ _ stQ).mono ?_;(repeat first|rw[EA.out]|rw[ET.out]);rintro e wn ⟨rfl,h⟩;replace H:=hQd h;clear h;(try rw[EI.out]at H);(try rw[EJ.out]at H))
   |(go_at_call 158;refine(zCJ _ _ _ stQ).mono ?_;(repeat first|rw[EI.out]|rw[EJ.out]);rintro e wn ⟨rfl,h⟩;replace H:=hQd h;clear h)
   |(go_at_call 130;refine(zRf _ H.out).mono ?_;rw[EO.out];rintro e wn ⟨rfl,h⟩;replace H:=hQd h;clear h)
   |(go_at_call 159;refine(zGQ _ _ stQ).mono ?_;(repeat first|rw[EC.out]);rintro e wn ⟨rfl,h⟩;replace H:=hQd h;clear h))
  go_ret2;exact⟨rfl,H.out.drop⟩
theorem zLx(s:Bs)(r:Int×Int)(hr:zCn 4 zCI 11 s=r)(hs:s.length≤140737488355328)(h:St W0 w K L):
 Calls Jd 129 #[Z (bb s),I O 4,.func (.func 131) #[] #[],I O 11] w fun en w'=>en=Jb (.tuple #[I O r.1,I O r.2])∧St W0 w' K L:=by
 have hrd:verD 4 zCI 11 s=r:=(zPi 4 zCI 11 dD dD dD s).trans hr;have H:=hQd h;have HS:=hQd hs;clear h hs hr;obtain⟨a,ha⟩:=eX (verA s);have hI:verI s=if a.1=0 then a.2 else a.2.fail 7:=by unfold verI;rw[ha]
 obtain⟨i,hi⟩:=eX (verI s);rw[hi]at hI;obtain⟨t,ht⟩:=eX (i.int 4);have hJ:verJ 4 zCI 11 s=if zCI t.1=true then t.2 else t.2.fail 11:=by unfold verJ;rw[hi];show(if zCI (i.int 4).1=true then(i.int 4).2 else(i.int 4).2.fail 11)=_;rw[ht]
 obtain⟨j,hj⟩:=eX (verJ 4 zCI 11 s)
 have hD:(if j.close.err=0 then(t.1,0)else(0,j.close.err))=r:=by
  rw[←hrd,←hj,←ht,←hi];rfl
 rw[hj]at hJ;obtain⟨c,hc⟩:=eX j.close;rw[hc]at hD;have EA:=hQd (show(⟨s,0,0⟩:InS).int 2=a from ha);have ET:=hQd ht;have EC:=hQd hc;obtain⟨o,ho⟩:=eX (zCI t.1);rw[ho]at hJ;have EO:=hQd ho;clear ha hi ht hj hc ho hrd
 by_cases h1:a.1=0<;>cases o<;>by_cases h3:c.err=0
 all_goals
  first|rw[if_pos h1]at hI|rw[if_neg h1]at hI
  first|rw[if_pos rfl]at hJ|rw[if_neg dD]at hJ
  first|rw[if_pos h3]at hD|rw[if_neg h3]at hD
  subst hD;have b1:(a.1 !=0)=decide (a.1≠0):=by by_cases h:a.1=0<;>simp[h]
  have b3:(c.err !=0)=decide (c.err≠0):=by by_cases h:c.err=0<;>simp[h]
  first|rw[decide_eq_true h1]at b1|rw[decide_eq_false (not_not_intro h1)]at b1
  first|rw[decide_eq_true h3]at b3|rw[decide_eq_false (not_not_intro h3)]at b3
  have EI:=hQd hI.symm;have EJ:=hQd hJ.symm;clear h1 h3 hI hJ;go_enter Tryz.func129,Tryz.ntmps129
  go_wp2_with (first
   |(go_at_call 156;refine(zEo s HS.out stQ).mono ?_;rintro e wn ⟨bi,rfl,h⟩;replace H:=hQd h;clear h)
   |(go_at_call 157;refine(zDb _ _ _ stQ).mono ?_;(repeat first|rw[EA.out]|rw[ET.out]);rintro e wn ⟨rfl,h⟩;replace H:=hQd h;clear h;(try rw[EI.out]at H);(try rw[EJ.out]at H))
   |(go_at_call 158;refine(zCJ _ _ _ stQ).mono ?_;(repeat first|rw[EI.out]|rw[EJ.out]);rintro e wn ⟨rfl,h⟩;replace H:=hQd h;clear h)
   |(go_at_call 131;refine(zRe _ H.out).mono ?_;rw[EO.out];rintro e wn ⟨rfl,h⟩;replace H:=hQd h;clear h)
   |(go_at_call 159;refine(zGQ _ _ stQ).mono ?_;(repeat first|rw[EC.out]);rintro e wn ⟨rfl,h⟩;replace H:=hQd h;clear h))
  go_ret2;exact⟨rfl,H.out.drop⟩
theorem zEA(s:Bs)(r:Int×Int)(hr:zCn 2 way 12 s=r)(hs:s.length≤140737488355328)(h:St W0 w K L):
 Calls Jd 101 #[Z (bb s)] w fun en w'=>en=Jb (.tuple #[I O r.1,I O r.2])∧St W0 w' K L:=by
 have H:=hQd h;have HS:=hQd hs;have HR:=hQd hr;clear h hs hr;go_enter Tryz.func101,Tryz.ntmps101;go_wp2_with ((go_at_call 129;refine(zLy s r HR.out HS.out stQ).zM ?_;clear H;intro wn H));go_ret2;exact⟨rfl,H.out⟩
theorem zE5(s:Bs)(r:Int×Int)(hr:zCn 4 zCI 11 s=r)(hs:s.length≤140737488355328)(h:St W0 w K L):
 Calls Jd 102 #[Z (bb s)] w fun en w'=>en=Jb (.tuple #[I O r.1,I O r.2])∧St W0 w' K L:=by
 have H:=hQd h;have HS:=hQd hs;have HR:=hQd hr;clear h hs hr;go_enter Tryz.func102,Tryz.ntmps102;go_wp2_with ((go_at_call 129;refine(zLx s r HR.out HS.out stQ).zM ?_;clear H;intro wn H));go_ret2;exact⟨rfl,H.out⟩
variable {W0 w:World}{K:Know}{L:List Res}
theorem zq11{p:Prop}(h:p:=by
  go_wp2_with (first
   |(go_at_call 91;(with_reducible refine(zIu (s.take 2) HT.out H.out).mono ?_);rw[E1.out];rintro e wn ⟨rfl,h⟩;replace H:=hQd h;clear h)
   |(go_at_call 91;(with_reducible refine(zIu ((s.drop 2).take 2) HT2.out H.out).mono ?_);rw[E2.out];rintro e wn ⟨rfl,h⟩;replace H:=hQd h;clear h))
  go_ret2;exact⟨rfl,H.out⟩):p:=h
theorem zDf(s:Bs)(r:Int×Int)(hr:zCn 2 way 12 s=r)(hs:s.length≤140737488355328)(h:St W0 w K L):
 Calls Jd 56 #[Z (bb s)] w fun en w'=>en=Jb (.tuple #[I O r.1,I O r.2])∧St W0 w' K L:=by
 have H:=hQd h;have HS:=hQd hs;have HT:=hQd (show(s.take 2).length≤8 by rw[Jk];omega);have HT2:=hQd (show((s.drop 2).take 2).length≤8 by rw[Jk];omega);obtain⟨v1,hv1⟩:=eX (sInt (s.take 2));obtain⟨v2,hv2⟩:=eX (sInt ((s.drop 2).take 2));unfold zCn at hr;rw[hv1,hv2]at hr;have E1:=hQd hv1;have E2:=hQd hv2;clear h hs hv1 hv2
 by_cases c1:s.length<2
 ·rw[if_pos c1]at hr;subst hr;go_enter Tryz.func56,Tryz.ntmps56
  exact zq11
 rw[if_neg c1]at hr
 by_cases c2:v1≠0
 ·rw[if_pos c2]at hr;subst hr;have d2:(v1 !=0)=true:=by simpa using c2
  go_enter Tryz.func56,Tryz.ntmps56
  exact zq11
 rw[if_neg c2]at hr;have d2:(v1 !=0)=false:=by simpa using c2
 clear c2
 by_cases c3:s.length<2+2
 ·rw[if_pos c3]at hr;subst hr;have c3':s.length<4:=c3;clear c3;go_enter Tryz.func56,Tryz.ntmps56
  exact zq11
 rw[if_neg c3]at hr;have c3':¬s.length<4:=c3;clear c3
 by_cases c4:way v2=false
 ·rw[if_pos c4]at hr;subst hr;have n0:(v2 !=0)=true∧(v2 !=1)=true:=(by unfold way at c4;simpa using c4);obtain⟨n0,n1⟩:=n0;clear c4;go_enter Tryz.func56,Tryz.ntmps56
  exact zq11
 rw[if_neg c4]at hr
 by_cases c5:2+2<s.length
 ·rw[if_pos c5]at hr;subst hr;have c5':4<s.length:=c5;clear c5;have hv2:v2=0∨v2=1:=(by unfold way at c4;simp at c4;omega);clear c4;rcases hv2 with rfl|rfl
  all_goals
   go_enter Tryz.func56,Tryz.ntmps56
   exact zq11
 rw[if_neg c5]at hr;subst hr;have c5':¬4<s.length:=c5;clear c5;have hv2:v2=0∨v2=1:=(by unfold way at c4;simp at c4;omega);clear c4;rcases hv2 with rfl|rfl
 all_goals
  go_enter Tryz.func56,Tryz.ntmps56
  exact zq11
theorem zq13{p:Prop}(h:p:=by
  go_wp2_with (first
   |(go_at_call 91;(with_reducible refine(zIu (s.take 2) HT.out H.out).mono ?_);rw[E1.out];rintro e wn ⟨rfl,h⟩;replace H:=hQd h;clear h)
   |(go_at_call 91;(with_reducible refine(zIu ((s.drop 2).take 4) HT2.out H.out).mono ?_);rw[E2.out];rintro e wn ⟨rfl,h⟩;replace H:=hQd h;clear h))
  go_ret2;exact⟨rfl,H.out⟩):p:=h
theorem zq15{p:Prop}(h:p:=by
  go_wp2_with (first
   |(go_at_call 91;(with_reducible refine(zIu (s.take 2) HT.out H.out).mono ?_);rw[E1.out];rintro e wn ⟨rfl,h⟩;replace H:=hQd h;clear h))
  go_ret2;exact⟨rfl,H.out⟩):p:=h
theorem zDF(s:Bs)(r:Int×Int)(hr:zCn 4 zCI 11 s=r)(hs:s.length≤140737488355328)(h:St W0 w K L):
 Calls Jd 57 #[Z (bb s)] w fun en w'=>en=Jb (.tuple #[I O r.1,I O r.2])∧St W0 w' K L:=by
 have H:=hQd h;have HS:=hQd hs;have HT:=hQd (show(s.take 2).length≤8 by rw[Jk];omega);have HT2:=hQd (show((s.drop 2).take 4).length≤8 by rw[Jk];omega);obtain⟨v1,hv1⟩:=eX (sInt (s.take 2));obtain⟨v2,hv2⟩:=eX (sInt ((s.drop 2).take 4));unfold zCn at hr;rw[hv1,hv2]at hr;have E1:=hQd hv1;have E2:=hQd hv2;clear h hs hv1 hv2
 by_cases c1:s.length<2
 ·rw[if_pos c1]at hr;subst hr;go_enter Tryz.func57,Tryz.ntmps57
  exact zq15
 rw[if_neg c1]at hr
 by_cases c2:v1≠0
 ·rw[if_pos c2]at hr;subst hr;have d2:(v1 !=0)=true:=by simpa using c2
  go_enter Tryz.func57,Tryz.ntmps57
  exact zq15
 rw[if_neg c2]at hr;have d2:(v1 !=0)=false:=by simpa using c2
 clear c2
 by_cases c3:s.length<2+4
 ·rw[if_pos c3]at hr;subst hr;have c3':s.length<6:=c3;clear c3;go_enter Tryz.func57,Tryz.ntmps57
  exact zq15
 rw[if_neg c3]at hr;have c3':¬s.length<6:=c3;clear c3
 by_cases c4:zCI v2=false
 ·rw[if_pos c4]at hr;subst hr;have n0:v2<0:=(by unfold zCI at c4;simpa using c4);clear c4;go_enter Tryz.func57,Tryz.ntmps57
  exact zq13
 rw[if_neg c4]at hr
 by_cases c5:2+4<s.length
 ·rw[if_pos c5]at hr;subst hr;have c5':6<s.length:=c5;clear c5;have n0:¬v2<0:=(by unfold zCI at c4;simpa using c4);clear c4
  all_goals
   go_enter Tryz.func57,Tryz.ntmps57
   exact zq13
 rw[if_neg c5]at hr;subst hr;have c5':¬6<s.length:=c5;clear c5;have n0:¬v2<0:=(by unfold zCI at c4;simpa using c4);clear c4
 all_goals
  go_enter Tryz.func57,Tryz.ntmps57
  exact zq13
variable {W0 w:World}{K:Know}{L:List Res}
def FlatRows {α:Type}(R:List Value→α→Prop) (F:Nat→Prop) (w:World) (v:Value) (sz:Nat) (l:List α):Prop:=RowsOf (fun _ cs x=>R cs x) F w v sz l
theorem zQR{α:Type}{R:List Value→α→Prop}{F:Nat→Prop}{w w':World}{v:Value}{sz:Nat}{l:List α}(h:FlatRows R F w v sz l)(hs:w.heap.size≤w'.heap.size)(hk:∀k,k<w.heap.size→F k→w'.heap[k]? =w.heap[k]?):FlatRows R F w' v sz l:=by
 obtain⟨p,cap,rfl,h⟩:=h;refine⟨p,cap,rfl,fun h0=> ?_⟩;obtain⟨b,off,rfl,hb,hlt,hc⟩:=h h0;refine⟨b,off,rfl,hb,Nat.lt_of_lt_of_le hlt hs,fun i hi=> ?_⟩;obtain⟨cs,h1,h2,h3⟩:=hc i hi;exact⟨cs,h1,h2,fun f u hu=>(World.cell?_of_block (w:=w) (a:=⟨b,off+(i*sz+f),none⟩) (hk b hlt hb)).trans (h3 f u hu)⟩
def Know.flat {α:Type}(R:List Value→α→Prop) (v:Value) (sz:Nat) (l:List α):Know:=⟨fun w F=>FlatRows R F w v sz l,fun _ _ _ h hs hk=>zQR h hs hk,fun _ _ _ h hs=>RowsOf.mono h (fun _ _ h=>hs _ h) (fun _ _ h=>h)⟩
theorem FlatRows.at{α:Type}{R:List Value→α→Prop}{F:Nat→Prop}{w:World}{v:Value}{sz:Nat}{l:List α}(h:FlatRows R F w v sz l):
 ∃p cap,v=Ja p l.length cap∧(0<l.length→∃b off,p=some ⟨b,off,none⟩∧∀i (h:i<l.length),∃cs,cs.length=sz∧R cs l[i]∧∀f u,cs[f]? =some u→w.cell? ⟨b,off+(i*sz+f),none⟩=some u):=by
 obtain⟨p,cap,rfl,h⟩:=h;refine⟨p,cap,rfl,fun h0=> ?_⟩;obtain⟨b,off,rfl,_,_,hc⟩:=h h0;exact⟨b,off,rfl,hc⟩
theorem zBJ{α:Type}:∀(l:List α) (f:α→List Value) (sz:Nat),(∀x∈l,(f x).length=sz)→∀(i:Nat) (hi:i<l.length) (q:Nat),q<sz→(l.flatMap f)[i*sz+q]? =(f l[i])[q]?
 |[],_,_,_,i,hi,_,_=>by simp at hi
 |x::t,f,sz,h,0,_,q,hq=>by
  rw[List.flatMap_cons,Nat.zero_mul,Nat.zero_add,List.getElem?_append_left (by rw[h x sM];exact hq)]
  rfl
 |x::t,f,sz,h,i+1,hi,q,hq=>by
  have hx:=h x sM;rw[List.flatMap_cons,List.getElem?_append_right (by rw[hx,Nat.add_mul];omega),hx,show(i+1)*sz+q - sz=i*sz+q by rw[Nat.add_mul];omega];exact zBJ t f sz (fun y hy=>h y (by simp[hy])) i (by simpa using hi) q hq
theorem St.freezeRow{α:Type}{R:List Value→α→Prop}{v:Value}{T:TypeId}{sz:Nat}{l:List α}{f:α→List Value}(h:St W0 w K (.row v T sz l.length (l.flatMap f)::L))(hf:∀x∈l,(f x).length=sz∧R (f x) x):
 St W0 w (K.and (Know.flat R v sz l)) L:=by
 refine h.freeze fun F S1 _ h1=> ?_
 obtain⟨⟨g1,g2⟩,g3⟩:=h1
 rcases g2 with ⟨rfl,h0⟩|⟨g,cap,cur,rfl,_,hg,hn,hcm,hcs,htake⟩
 ·exact⟨none,0,by rw[h0],fun hh=>absurd hh oM⟩
 ·have hS:S1 g:=(g3 g).2 rfl;have hlt:=zA1 hg;refine⟨_,cap,rfl,fun _=>⟨g,0,rfl,.inr ⟨hS,hlt⟩,hlt,fun i hi=> ?_⟩⟩;obtain⟨h2,h3⟩:=hf l[i] (Jp hi);refine⟨f l[i],h2,h3,fun q u hu=> ?_⟩;rw[zAO hg,Nat.zero_add];have hq:q<sz:=by rw[←h2];exact(List.getElem?_eq_some_iff.1 hu).1
  have e:(l.flatMap f)[i*sz+q]? =some u:=by
   rw[zBJ l f sz (fun x hx=>(hf x hx).1) i hi q hq];exact hu
  rw[←htake,List.getElem?_take_of_lt (by have:=Nat.mul_le_mul_right sz (show i+1≤l.length by omega);rw[Nat.add_mul,Nat.one_mul]at this;omega)]at e
  simpa using e
structure HdrS where
 key:Bs
 val:BlobS
deriving DecidableEq
def RHdr (cs:List Value) (h:HdrS):Prop:=cs=[Z (bb h.key),U h.val.null,Z (bb h.val.data)]
def hcells (h:HdrS):List Value:=[Z (bb h.key),U h.val.null,Z (bb h.val.data)]
def HdrS.size (h:HdrS):Nat:=h.key.length+h.val.data.length+32
def hsize (l:List HdrS):Nat:=(l.map HdrS.size).sum
def OutS.putHdr (o:OutS) (h:HdrS):OutS:=(o.putName h.key).putVaried h.val
def OutS.putHdrs (o:OutS) (l:List HdrS):OutS:=l.foldl OutS.putHdr (o.putInt l.length)
theorem OutS.len_putVaried(o:OutS)(b:BlobS)(h:b.data.length≤140737488355328):(o.putVaried b).bytes.length≤o.bytes.length+(b.data.length+16):=by
 unfold OutS.putVaried OutS.putData;have h1:=o.len_putInt b.len (b.len_range h)
 split
 ·have:=(o.putInt b.len).len_put b.data;omega
 ·have:=((o.putInt b.len).fail 4).len_put b.data;rw[OutS.len_fail]at this
  omega
theorem OutS.len_putHdr(o:OutS)(h:HdrS)(hl:h.size≤140737488355328):(o.putHdr h).bytes.length≤o.bytes.length+h.size:=by
 unfold HdrS.size at*;have h1:=o.len_putVaried ⟨false,h.key⟩ (by simp only;omega);have h2:=(o.putName h.key).len_putVaried h.val oM;unfold OutS.putHdr;unfold OutS.putName at*;simp only at h1
 omega
theorem zHE(l:List HdrS)(k:Nat)(h:k<l.length):hsize (l.take k)+l[k].size≤hsize l:=by
 have h1:hsize l=hsize (l.take k)+hsize (l.drop k):=by
  unfold hsize;rw[←List.sum_append,←List.map_append,List.take_append_drop]
 have h2:hsize (l.drop k)=l[k].size+hsize (l.drop (k+1)):=by
  unfold hsize;rw[List.drop_eq_getElem_cons h]
  rfl
 omega
theorem OutS.len_hdrs:∀(l:List HdrS) (o:OutS),hsize l≤140737488355328→(l.foldl OutS.putHdr o).bytes.length≤o.bytes.length+hsize l
 |[],o,_=>by simp[hsize]
 |h::t,o,hl=>by
  have e:hsize (h::t)=h.size+hsize t:=rfl;have h1:=o.len_putHdr h oM;have h2:=OutS.len_hdrs t (o.putHdr h) oM
  show(t.foldl OutS.putHdr (o.putHdr h)).bytes.length≤_
  omega
theorem zLh(p:Nat)(o:OutS)(v:Value)(l:List HdrS)(hl:l.length≤140737488355328)(hk:K.has (Know.flat RHdr v 3 l))(h:St W0 w K (.out p o::L))(hr:o.ok (hsize l+16)):
 Calls Jd 181 #[zBh p,v] w fun en w'=>en=Jb (.tuple #[])∧St W0 w' K (.out p (o.putHdrs l)::L):=by
 have H:=hQd h;have HR:=hQd hr;have HK:=hQd hk;have HL:=hQd (show -9223372036854775808≤(l.length:Int)∧(l.length:Int)<9223372036854775808 by omega);obtain⟨F,hF,_⟩:=h.get;obtain⟨q,cap,rfl,_⟩:=(hk _ _ hF).at;clear h hk hr hF;go_enter Tryz.func181,Tryz.ntmps181;go_wp2_with (go_at_call 179;refine(zGI _ _ _ HL.out stQ (OutS.ok_mono HR.out oM)).zM ?_;clear H;intro wn H);go_loopw [12] (fun iv wr=>∃(k:Nat) (oo:OutS),k≤l.length∧iv=I O k∧(l.take k).foldl OutS.putHdr (o.putInt l.length)=oo∧St W0 wr K (.out p oo::L)) (fun iv _=>l.length - (intOf iv).toNat)
 case atStart=>exact⟨0,o.putInt l.length,Ji _,rfl,by rw[List.take_zero,List.foldl_nil],H.out⟩
 case round=>
  obtain⟨k,oo,hk,rfl,hoo,hst⟩:=hrel
  by_cases hlt:k<l.length
  ·obtain⟨F2,hF2,_⟩:=hst.get;obtain⟨q2,cap2,hv2,hrow⟩:=(HK.out _ _ hF2).at;obtain⟨b,off,hq,hcells⟩:=hrow oM;obtain rfl:q=some ⟨b,off,none⟩:=by simp at hv2;rw[hv2.1,hq]
   obtain⟨cs,_,hR,hc⟩:=hcells k hlt;unfold RHdr at hR;subst hR;have c0:=hc 0 _ rfl;have c1:=hc 1 _ rfl;have c2:=hc 2 _ rfl;rw[Nat.add_zero]at c0;rw[←Jm]at c1 c2;have hnn:(l.take (k+1)).foldl OutS.putHdr (o.putInt l.length)=((l.take k).foldl OutS.putHdr (o.putInt l.length)).putHdr l[k]:=by rw[List.take_succ_eq_append_getElem hlt,List.foldl_append];rfl
   have hsz:=zHE l k hlt;have hro:=HR.out;have hpi:=o.len_putInt l.length HL.out;have hlen:=OutS.len_hdrs (l.take k) (o.putInt l.length) (by unfold OutS.ok at hro;omega);obtain⟨x,hx⟩:=eX (l[k]'hlt);rw[hoo]at hnn hlen;rw[hx]at hnn hsz c0 c1 c2;have HN:=hQd hnn;have HRO:=hQd (show oo.ok x.size by unfold OutS.ok at*;omega);have H:=hQd (hst.allocRaw #[Z (bb x.key),U x.val.null,Z (bb x.val.data)] 73);clear hst hF2 hrow hcells hc hv2 hq hsz hro hpi hlen hoo hx hnn
   go_wp2_with (first
    |(go_at_call 147;refine(zGb _ _ x.key stQ (OutS.ok_mono HRO.out (by unfold HdrS.size;omega))).zM ?_;clear H;intro wn H;have zc0:=H.out.cellOf (b:=wr.heap.size) (c:= #[Z (bb x.key),U x.val.null,Z (bb x.val.data)]) (T:=73) sM 0;have zc1:=H.out.cellOf (b:=wr.heap.size) (c:= #[Z (bb x.key),U x.val.null,Z (bb x.val.data)]) (T:=73) sM 1;have zc2:=H.out.cellOf (b:=wr.heap.size) (c:= #[Z (bb x.key),U x.val.null,Z (bb x.val.data)]) (T:=73) sM 2;simp at zc0 zc1 zc2)
    |(go_at_call 180;refine(zB9 _ _ x.val stQ (by have h1:=HRO.out;have h2:=oo.len_putVaried ⟨false,x.key⟩ (by simp only;unfold OutS.ok HdrS.size at h1;omega);unfold OutS.ok HdrS.size at*;unfold OutS.putName;simp only at h2 ⊢;omega)).zM ?_;clear H;intro wn H))
   go_roundw
   case rel=>exact⟨k+1,_,hlt,by go_num,HN.out,H.out.p1.drop⟩
   case measure=>first|(simp[intOf];done)|(simp[intOf];omega)
  ·have hk:k=l.length:=by omega
   subst hk;rw[List.take_length]at hoo;have HOO:=hQd hoo;have HST:=hQd hst;clear hst hoo;go_wp2;go_end0;exact⟨rfl,HST.out.cast (by rw[←HOO.out];rfl)⟩
theorem zNN:zEg Jd 73 (.agg #[Z ⟨#[]⟩,U false,Z ⟨#[]⟩]) 3 40:=zB8 kR rfl dD
def InS.hdrLoop:Nat→List HdrS→InS→List HdrS×InS
 |0,acc,i=>(acc,i)
 |n+1,acc,i=>
  if i.name.2.varied.2.err=0 then InS.hdrLoop n (acc++[⟨i.name.1,i.name.2.varied.1⟩]) i.name.2.varied.2
  else([],i.name.2.varied.2)
def InS.hdrHead (i:InS):InS:=if i.vint.1<0 then i.vint.2.fail 4 else if (i.vint.2.left:Int)<2*i.vint.1 then i.vint.2.fail 1 else i.vint.2
def InS.hdrs (i:InS):List HdrS×InS:=InS.hdrLoop i.vint.1.toNat [] i.hdrHead
theorem zJL{α:Type}(R:List Value→α→Prop)(sz:Nat)(K:Know):K.has (K.and (Know.flat R (Ja none 0 0) sz [])):=fun _ _ h=>⟨h,none,0,rfl,fun h=>absurd h sM⟩
theorem zq27{p:Prop}(h:p:=by have HKE:=hQd hke;clear hke hk;go_wp2;go_ret;refine⟨_,rfl,?_⟩;have h1:=HLOOP.out;rw[HKE.out]at h1;rw[←h1];exact HST.out.freezeRow (fun x _=>⟨rfl,rfl⟩)):p:=h
theorem zDo(p:Nat)(i:InS){W0 w:World}{K:Know}{L:List Res}(h:St W0 w K (.inp p i::L)):
 Calls Jd 219 #[zAD p] w fun en w'=>∃v,en=Jb v∧St W0 w' (K.and (Know.flat RHdr v 3 i.hdrs.1)) (.inp p i.hdrs.2::L):=by
 have H:=hQd h;have hv:=i.vint_range;obtain⟨a,ha⟩:=eX i.vint;obtain⟨j,hj⟩:=eX i.hdrHead;have hjj:j=if a.1<0 then a.2.fail 4 else if (a.2.left:Int)<2*a.1 then a.2.fail 1 else a.2:=by rw[←hj,←ha];rfl
 have hH:i.hdrs=InS.hdrLoop a.1.toNat [] j:=by unfold InS.hdrs;rw[hj,ha]
 rw[ha]at hv;rw[hH];have EA:=hQd ha;clear h ha hj hH;obtain⟨n,c⟩:=a;simp only at hv hjj ⊢
 by_cases h1:n<0
 ·rw[if_pos h1]at hjj;subst hjj;go_enter Tryz.func219,Tryz.ntmps219
  go_wp2_with (first
   |(go_at_call 218;refine(zGJ _ _ stQ).mono ?_;(repeat first|rw[EA.out]);rintro e wn ⟨rfl,h⟩;replace H:=hQd h;clear h)
   |(go_at_call 185;refine(zPJ _ _ stQ).zM ?_;clear H;intro wn H)
   |(go_at_call 158;refine(zCJ _ _ _ stQ).zM ?_;clear H;intro wn H))
  go_loopw [4,20] (fun lv kv wr=>∃(k:Nat) (i':InS) (acc:List HdrS),k≤n.toNat∧kv=I O k∧acc.length=k∧InS.hdrLoop (n.toNat - k) acc i'=InS.hdrLoop n.toNat [] _∧St W0 wr K (.row lv 73 3 acc.length (acc.flatMap hcells)::.inp p i'::L)) (fun _ kv _=>n.toNat - (intOf kv).toNat)
  case atStart=>exact⟨0,_,[],Ji _,rfl,rfl,rfl,H.out.nilRow 73 3⟩
  case round=>
   obtain⟨k,i',acc,hk,rfl,hacc,hloop,hst⟩:=hrel;have HACC:=hQd hacc;have HLOOP:=hQd hloop;have HST:=hQd hst;have HK:=hQd (show k≤2147483648 by omega);clear hacc hloop hst;have hke:n.toNat - k=0:=by omega
   have hlt:¬(k:Int)<n:=by omega
   exact zq27
 by_cases h2:(c.left:Int)<2*n
 all_goals
  rw[if_neg h1]at hjj
  first|rw[if_pos h2]at hjj|rw[if_neg h2]at hjj
  subst hjj;go_enter Tryz.func219,Tryz.ntmps219
  go_wp2_with (first
   |(go_at_call 218;refine(zGJ _ _ stQ).mono ?_;(repeat first|rw[EA.out]);rintro e wn ⟨rfl,h⟩;replace H:=hQd h;clear h)
   |(go_at_call 185;refine(zPJ _ _ stQ).zM ?_;clear H;intro wn H)
   |(go_at_call 158;refine(zCJ _ _ _ stQ).zM ?_;clear H;intro wn H))
  go_loopw [4,20] (fun lv kv wr=>∃(k:Nat) (i':InS) (acc:List HdrS),k≤n.toNat∧kv=I O k∧acc.length=k∧InS.hdrLoop (n.toNat - k) acc i'=InS.hdrLoop n.toNat [] _∧St W0 wr K (.row lv 73 3 acc.length (acc.flatMap hcells)::.inp p i'::L)) (fun _ kv _=>n.toNat - (intOf kv).toNat)
  case atStart=>exact⟨0,_,[],Ji _,rfl,rfl,rfl,H.out.nilRow 73 3⟩
  case round=>
   obtain⟨k,i',acc,hk,rfl,hacc,hloop,hst⟩:=hrel;have HACC:=hQd hacc;have HLOOP:=hQd hloop;have HST:=hQd hst;have HK:=hQd (show k≤2147483648 by omega);clear hacc hloop hst
   by_cases hlt:(k:Int)<n
   ·have hstep:n.toNat - k=(n.toNat - (k+1))+1:=by omega
    have HSTEP:=hQd hstep;obtain⟨x,hx⟩:=eX i'.name;obtain⟨y,hy⟩:=eX x.2.varied;have EX:=hQd hx;have EY:=hQd hy;have HLN:InS.hdrLoop ((n.toNat - (k+1))+1) acc i'=if y.2.err=0 then InS.hdrLoop (n.toNat - (k+1)) (acc++[⟨x.1,y.1⟩]) y.2 else([],y.2):=by simp only[InS.hdrLoop,hx,hy]
    replace HLN:=hQd HLN;have H:=HST;clear hstep hx hy hk HST
    by_cases he:y.2.err=0
    all_goals
     have hb:(y.2.err !=0)=decide (y.2.err≠0):=by by_cases h:y.2.err=0<;>simp[h]
     first|rw[decide_eq_true he]at hb|rw[decide_eq_false (not_not_intro he)]at hb
     have HE:=hQd he;clear he
     go_wp2_with (first
      |(go_at_call 211;refine(zE9 _ _ stQ).mono ?_;(repeat first|rw[EX.out]);rintro e wn ⟨rfl,h⟩;replace H:=hQd h;clear h)
      |(go_at_call 216;refine(zA7 _ _ stQ).mono ?_;(repeat first|rw[EY.out]);rintro e wn ⟨rfl,h⟩;replace H:=hQd h;clear h;unfold bv)
      |(go_at_call 168;refine(zH3 _ _ stQ).zM ?_;clear H;intro wn H)
      |(at_builtin;refine zAC rfl _ _ 52 rfl 73 Tryz.underlying52 zNN _ _ _ rfl H.out.p1 [Z (bb x.1),U y.1.null,Z (bb y.1.data)] 73 rfl rfl (by simp[Value.oneCell']) (by have:=HACC.out;have:=HK.out;unfold maxLen;omega) (by have:=HACC.out;have:=HK.out;omega) ?_;intro v' w' h;replace H:=hQd h;clear h))
    ·go_roundw
     case rel=>
      refine⟨k+1,y.2,acc++[⟨x.1,y.1⟩],oM,by go_num,by simp[HACC.out],?_,?_⟩
      ·have h1:=HLOOP.out;rw[HSTEP.out,HLN.out,if_pos HE.out]at h1;exact h1
      ·refine H.out.p1.cast ?_;simp[hcells]
     case measure=>first|(simp[intOf];done)|(simp[intOf];omega)
    ·go_ret;refine⟨Ja none 0 0,rfl,?_⟩;have h1:=HLOOP.out;rw[HSTEP.out,HLN.out,if_neg HE.out]at h1;rw[←h1];exact(H.out.p1.drop).know (zJL _ _ _)
   ·have hke:n.toNat - k=0:=by omega
    exact zq27
theorem zDM{l:List HdrS}{q:Option Addr}{cap:Nat}(hk:K.has (Know.flat RHdr (Ja q l.length cap) 3 l))(h:St W0 w K L)(i:Nat)(hi:i<l.length):
 ∃b off,q=some ⟨b,off,none⟩∧w.cell? ⟨b,off+i*3,none⟩=some (Z (bb (l[i]'hi).key))∧w.cell? ⟨b,off+i*3+1,none⟩=some (U (l[i]'hi).val.null)∧w.cell? ⟨b,off+i*3+2,none⟩=some (Z (bb (l[i]'hi).val.data)):=by
 obtain⟨F,hF,_⟩:=h.get;obtain⟨q2,cap2,hv2,hrow⟩:=(hk _ _ hF).at;obtain⟨b,off,hq,hcells⟩:=hrow oM;obtain⟨cs,_,hR,hc⟩:=hcells i hi;unfold RHdr at hR;subst hR;refine⟨b,off,by simp at hv2;rw[hv2.1,hq],?_,?_,?_⟩
 ·have:=hc 0 _ rfl;rwa [Nat.add_zero]at this
 ·have:=hc 1 _ rfl;rwa [←Jm]at this
 ·have:=hc 2 _ rfl;rwa [←Jm]at this
theorem zAw{α:Type}{R:List Value→α→Prop}{sz:Nat}{v:Value}{l:List α}(hk:K.has (Know.flat R v sz l))(h:St W0 w K L):∃q cap,v=Ja q l.length cap:=by
 obtain⟨F,hF,_⟩:=h.get;obtain⟨q,cap,hv,_⟩:=(hk _ _ hF).at;exact⟨q,cap,hv⟩
theorem zFY(c:UInt8)(t:Bs):zAm (sInt (c::t)) (t.length+1)=c::t:=by
 induction h:t.length generalizing t with
 |zero=>
  have:t=[]:=List.eq_nil_of_length_eq_zero h;subst this;have hc:=c.toNat_lt;simp only[sInt,List.foldl_nil,zAm,List.nil_append]
  congr 1
  unfold zEp
  apply UInt8.toNat_inj.1
  split<;>simp<;>omega
 |succ k ih=>
  obtain⟨t',d,rfl⟩:∃t' d,t=t'++[d]:=⟨t.dropLast,t.getLast (by intro h0;rw[h0]at h;simp at h),(List.dropLast_concat_getLast _).symm⟩;have hk:t'.length=k:=by simpa using h
  have hd:=d.toNat_lt;have e:=zEF c t' d;have h1:sInt (c::(t'++[d])) / 256=sInt (c::t'):=by rw[e];omega
  have h2:(sInt (c::(t'++[d])) % 256).toNat=d.toNat:=by rw[e];omega
  show zAm (sInt (c::(t'++[d])) / 256) (k+1)++[UInt8.ofNat (sInt (c::(t'++[d])) % 256).toNat]=_
  rw[h1,h2,ih t' hk,UInt8.ofNat_toNat]
  rfl
theorem zGc(l:Bs):zAm (sInt l) l.length=l:=by
 cases l with
 |nil=>rfl
 |cons c t=>exact zFY c t
theorem fail_stuck{i:InS}(h:i.err≠0)(e:Int):i.fail e=i:=if_neg h
def InS.ints:List Nat→InS→List Int×InS
 |[],i=>([],i)
 |k::t,i=>((i.int k).1::(InS.ints t (i.int k).2).1,(InS.ints t (i.int k).2).2)
def zBX:List Nat→Bs→List Int
 |[],_=>[]
 |k::t,s=>sInt (s.take k)::zBX t (s.drop k)
theorem zQF(k:Nat)(h1:1≤k)(h8:k≤8)(s:Bs)(pos:Nat)(hp:pos+k≤s.length):(⟨s,pos,0⟩:InS).int k=(sInt ((s.drop pos).take k),⟨s,pos+k,0⟩):=by
 have h:=(zDi k h1 h8).ok s pos (sInt ((s.drop pos).take k)) k oM (by unfold zAS;rw[if_neg (by rw[Jf];omega)]);exact h.2
theorem zOQ(k:Nat)(h1:1≤k)(h8:k≤8)(s:Bs)(pos:Nat)(hp:pos≤s.length)(hs:s.length<pos+k):∃q,q≤s.length∧(⟨s,pos,0⟩:InS).int k=(0,⟨s,q,1⟩):=by
 exact((zDi k h1 h8).err s pos 1 hp (by unfold zAS;rw[if_pos (by rw[Jf];omega)])).2
theorem zOP(k:Nat)(h1:1≤k)(h8:k≤8)(i:InS)(h:i.err≠0):i.int k=(0,i):=(zDi k h1 h8).stuck i h
theorem zQE:∀(l:List Nat) (s:Bs) (pos:Nat),(∀k∈l,1≤k∧k≤8)→pos+l.sum≤s.length→InS.ints l ⟨s,pos,0⟩=(zBX l (s.drop pos),⟨s,pos+l.sum,0⟩)
 |[],s,pos,_,_=>by simp[InS.ints,zBX]
 |k::t,s,pos,hk,hp=>by
  have h1:=hk k sM;rw[List.sum_cons]at hp;have h2:=zQF k h1.1 h1.2 s pos oM;have h3:=zQE t s (pos+k) (fun x hx=>hk x (by simp[hx])) oM;unfold InS.ints zBX;rw[h2];simp only;rw[h3,List.drop_drop,List.sum_cons,Jm]
theorem ints_stuck:∀(l:List Nat) (i:InS),(∀k∈l,1≤k∧k≤8)→i.err≠0→InS.ints l i=(l.map fun _=>0,i)
 |[],_,_,_=>rfl
 |k::t,i,hk,hi=>by
  have h1:=hk k sM;unfold InS.ints;rw[zOP k h1.1 h1.2 i hi];simp only;rw[ints_stuck t i (fun x hx=>hk x (by simp[hx])) hi]
  rfl
theorem zIU:∀(l:List Nat) (s:Bs) (pos:Nat),(∀k∈l,1≤k∧k≤8)→pos≤s.length→s.length<pos+l.sum→∃q,q≤s.length∧(InS.ints l ⟨s,pos,0⟩).2=⟨s,q,1⟩
 |[],s,pos,_,h1,h2=>by simp at h2;omega
 |k::t,s,pos,hk,hp,hs=>by
  have h1:=hk k sM;rw[List.sum_cons]at hs;unfold InS.ints
  by_cases h:pos+k≤s.length
  ·rw[zQF k h1.1 h1.2 s pos h];exact zIU t s (pos+k) (fun x hx=>hk x (by simp[hx])) h oM
  ·obtain⟨q,hq,e⟩:=zOQ k h1.1 h1.2 s pos hp oM;rw[e];refine⟨q,hq,?_⟩;simp only;rw[ints_stuck t _ (fun x hx=>hk x (by simp[hx])) (show(1:Int)≠0 by decide)]
def OutS.ints (o:OutS) (l:List (Int×Nat)):OutS:=l.foldl (fun o x=>o.int x.1 x.2) o
def zAj (l:List (Int×Nat)):Bs:=l.flatMap fun x=>zAm x.1 x.2
def FitsAll (l:List (Int×Nat)):Prop:=∀x∈l,fits x.1 x.2
instance (l:List (Int×Nat)):Decidable (FitsAll l):=by unfold FitsAll;infer_instance
theorem OutS.put_err{o:OutS}(h:o.err≠0)(s:Bs):o.put s=o:=if_neg h
theorem OutS.fail_stuck{o:OutS}(h:o.err≠0)(e:Int):o.fail e=o:=if_neg h
theorem OutS.int_stuck{o:OutS}(h:o.err≠0)(n k:Int):o.int n k=o:=by
 unfold OutS.int;split
 ·exact OutS.put_err h _
 ·exact OutS.fail_stuck h _
theorem OutS.ints_stuck:∀(l:List (Int×Nat)) (o:OutS),o.err≠0→o.ints l=o
 |[],_,_=>rfl
 |x::t,o,h=>by
  show OutS.ints (o.int x.1 x.2) t=o
  rw[OutS.int_stuck h];exact OutS.ints_stuck t o h
theorem OutS.ints_put:∀(l:List (Int×Nat)) (o:OutS),FitsAll l→o.ints l=o.put (zAj l)
 |[],o,_=>by show o=o.put [];rw[OutS.put_nil]
 |x::t,o,h=>by
  show OutS.ints (o.int x.1 x.2) t=_
  rw[OutS.ints_put t _ (fun y hy=>h y (by simp[hy]))];unfold OutS.int;rw[if_pos (h x sM),OutS.put_put,Int.toNat_natCast]
  rfl
theorem zB7(l:List (Int×Nat)):(zAj l).length=(l.map (·.2)).sum:=by
 induction l with
 |nil=>rfl
 |cons x t ih=>unfold zAj at*;rw[List.flatMap_cons,Je,zAr,ih];rfl
theorem zIV:∀(l:List (Int×Nat)) (rest:Bs),FitsAll l→zBX (l.map (·.2)) (zAj l++rest)=l.map (·.1)
 |[],_,_=>rfl
 |x::t,rest,h=>by
  have h1:=h x sM;have hs:1≤x.2:=by have:=h1.1;omega
  have h2:=zIV t rest (fun y hy=>h y (by simp[hy]));have e:zAj (x::t)=zAm x.1 x.2++zAj t:=rfl
  have h3:(zAm x.1 x.2++(zAj t++rest)).take x.2=zAm x.1 x.2:=by
   have h4:=zAr x.1 x.2;rw[List.take_append_of_le_length oM,Jj oM]
  have h4:(zAm x.1 x.2++(zAj t++rest)).drop x.2=zAj t++rest:=by
   rw[List.drop_left' (zAr x.1 x.2)]
  have hfit:=h1.2.2;rw[Int.toNat_natCast]at hfit
  show zBX (x.2::t.map (·.2)) (zAj (x::t)++rest)=x.1::t.map (·.1)
  rw[e,List.append_assoc];unfold zBX;rw[h3,h4,(zCk x.1 x.2 hs).2 hfit,h2]
theorem zPM(s:Bs)(k:Nat)(h1:1≤k)(h8:k≤8)(hl:s.length=k):fits (sInt s) k:=by
 have h:=zGc s;have h2:sInt (zAm (sInt s) k)=sInt s:=by rw[←hl,h]
 have h3:=(zCk (sInt s) k h1).1 h2;refine⟨oM,oM,?_⟩;rw[Int.toNat_natCast];exact h3
theorem zI1:∀(l:List Nat) (s:Bs),l.sum≤s.length→zAj ((zBX l s).zip l)=s.take l.sum
 |[],_,_=>by simp[zAj,zBX]
 |k::t,s,hs=>by
  rw[List.sum_cons]at hs;have h2:=zI1 t (s.drop k) (by rw[Jf];omega);unfold zBX;rw[List.zip_cons_cons]
  show zAm (sInt (s.take k)) k++zAj _=_
  rw[h2,List.sum_cons];have h3:=zGc (s.take k);rw[Jk,Nat.min_eq_left oM]at h3;rw[h3,List.take_add]
theorem zBp{o:OutS}{x:BlobS}(hx:x.right=true)(hl:x.data.length≤2147483647):o.putVaried x=o.put (encV x):=by
 unfold OutS.putVaried OutS.putData;rw[if_pos hx];have hr: -2147483648≤x.len∧x.len<2147483648:=by unfold BlobS.len;split<;>omega
 have h1:o.putInt x.len=o.put (putU (zBj x.len)):=by
   unfold OutS.putInt
   rw [if_pos (by have e4 : half 4 = 2147483648 := by decide
                  unfold fits;have:(4:Int).toNat=4:=rfl
                  rw[this,e4];omega)]
 rw[h1,OutS.put_put]
 rfl
def encH (h:HdrS):Bs:=encV ⟨false,h.key⟩++encV h.val
def encI (n:Int):Bs:=putU (zBj n)
def zDq (l:List HdrS):Bs:=encI l.length++l.flatMap encH
def zBQ (l:List HdrS):Bool:=l.all fun h=>h.val.right
def hsum (l:List HdrS):Nat:=(l.map fun h=>h.key.length+h.val.data.length+1).sum
theorem zEV(h:HdrS)(t:List HdrS):hsum (h::t)=h.key.length+h.val.data.length+1+hsum t:=rfl
theorem zCS:∀(l:List HdrS),l.length≤hsum l∧hsize l=hsum l+31*l.length∧∀h∈l,h.key.length+h.val.data.length+1≤hsum l
 |[]=>by simp[hsum,hsize]
 |h::t=>by
  obtain⟨a,b,c⟩:=zCS t;have e:hsize (h::t)=h.size+hsize t:=rfl;rw[zEV,e,b,Jg];unfold HdrS.size;refine⟨oM,oM,?_⟩;intro x hx
  rcases List.mem_cons.1 hx with rfl|hx
  ·omega
  ·have:=c x hx;omega
theorem zKT{o:OutS}{h:HdrS}(hx:h.val.right=true)(hl:h.key.length+h.val.data.length≤2147483647):o.putHdr h=o.put (encH h):=by
 unfold OutS.putHdr OutS.putName;rw[zBp (x:=⟨false,h.key⟩) rfl (by simp only;omega),zBp hx oM,OutS.put_put]
 rfl
theorem zDN:∀(l:List HdrS) (o:OutS),zBQ l=true→hsum l≤2147483647→l.foldl OutS.putHdr o=o.put (l.flatMap encH)
 |[],o,_,_=>by rw[List.flatMap_nil,OutS.put_nil];rfl
 |h::t,o,hr,hs=>by
  unfold zBQ at hr;rw[List.all_cons,Bool.and_eq_true]at hr;rw[zEV]at hs;rw[List.foldl_cons,zKT hr.1 oM,zDN t _ hr.2 oM,OutS.put_put]
  rfl
theorem zIJ{o:OutS}{n:Int}(h0: -2147483648≤n)(h1:n<2147483648):o.putInt n=o.put (encI n):=by
 unfold OutS.putInt
 rw [if_pos (by have e4 : half 4 = 2147483648 := by decide
                unfold fits;have:(4:Int).toNat=4:=rfl
                rw[this,e4];omega)]
 rfl
theorem zJE{o:OutS}{l:List HdrS}(hr:zBQ l=true)(hs:hsum l≤2147483647):o.putHdrs l=o.put (zDq l):=by
 have:=(zCS l).1;unfold OutS.putHdrs;rw[zIJ oM oM,zDN l _ hr hs,OutS.put_put]
 rfl
def zCo (l:Bs):Except Int (HdrS×Nat):=match zAf l with
  | .error e=> .error e
  | .ok x=>if x.1.null then .error 4 else match zAf (l.drop x.2)with
    | .error e=> .error e
    | .ok y=> .ok (⟨x.1.data,y.1⟩,x.2+y.2)
def zBc:Nat→Bs→Except Int (List HdrS×Nat)
  |0,_=> .ok ([],0)
  |n+1,l=>match zCo l with
    | .error e=> .error e
    | .ok x=>match zBc n (l.drop x.2)with
      | .error e=> .error e
      | .ok y=> .ok (x.1::y.1,x.2+y.2)
def zAJ (l:Bs):Except Int (List HdrS×Nat):=match zBw l with
  | .error e=> .error e
  | .ok x=>if x.1<0 then .error 4 else if ((l.length:Int) - x.2) / 2<x.1 then .error 1 else match zBc x.1.toNat (l.drop x.2)with
    | .error e=> .error e
    | .ok y=> .ok (y.1,x.2+y.2)
theorem InS.fail_ok0'(s:Bs)(p:Nat)(e:Int):(⟨s,p,0⟩:InS).fail e=⟨s,p,e⟩:=rfl
theorem zFE{i:InS}(h:i.err≠0):i.name=([],i):=by
 unfold InS.name;rw[zAy.stuck i h]
 rfl
theorem zR3{s:Bs}{pos:Nat}{h:HdrS}{m:Nat}(hp:pos≤s.length)(e:zCo (s.drop pos)=.ok (h,m)):pos+m≤s.length∧(⟨s,pos,0⟩:InS).name.1=h.key∧(⟨s,pos,0⟩:InS).name.2.varied=(h.val,⟨s,pos+m,0⟩):=by
 unfold zCo at e
 cases h1:zAf (s.drop pos)with
 |error e1=>rw[h1]at e;cases e
 |ok x=>
  rw[h1]at e;obtain⟨g1,g2⟩:=zAy.ok s pos x.1 x.2 hp h1
  cases hn:x.1.null
  ·simp only[hn]at e
   cases h2:zAf ((s.drop pos).drop x.2)with
   |error e2=>rw[h2]at e;cases e
   |ok y=>
    rw[h2]at e
    cases e
    rw[List.drop_drop]at h2;obtain⟨g3,g4⟩:=zAy.ok s (pos+x.2) y.1 y.2 g1 h2;unfold InS.name InS.bytes;rw[g2];rw[Jm]at g3 g4;refine⟨g3,rfl,?_⟩
    show(if x.1.null=true then(⟨s,pos+x.2,0⟩:InS).fail 4 else⟨s,pos+x.2,0⟩).varied=_
    rw[hn];exact g4
  ·simp[hn]at e
theorem zP7{s:Bs}{pos:Nat}{e:Int}(hp:pos≤s.length)(h:zCo (s.drop pos)=.error e):e≠0∧∃q,q≤s.length∧(⟨s,pos,0⟩:InS).name.2.varied.2=⟨s,q,e⟩:=by
 unfold zCo at h
 cases h1:zAf (s.drop pos)with
 |error e1=>
  rw[h1]at h
  cases h
  obtain⟨g1,q,g2,g3⟩:=zAy.err s pos e hp h1;refine⟨g1,q,g2,?_⟩;unfold InS.name InS.bytes;rw[g3]
  show(InS.varied ⟨s,q,e⟩).2=_
  rw[zAy.stuck ⟨s,q,e⟩ g1]
 |ok x=>
  rw[h1]at h;obtain⟨g1,g2⟩:=zAy.ok s pos x.1 x.2 hp h1;unfold InS.name InS.bytes;rw[g2];simp only
  cases hn:x.1.null
  ·simp only[hn]at h
   cases h2:zAf ((s.drop pos).drop x.2)with
   |error e2=>
    rw[h2]at h
    cases h
    rw[List.drop_drop]at h2;obtain⟨g3,q,g4,g5⟩:=zAy.err s (pos+x.2) e g1 h2;refine⟨g3,q,g4,?_⟩
    show(InS.varied ⟨s,pos+x.2,0⟩).2=_
    rw[g5]
   |ok y=>rw[h2]at h;cases h
  ·simp[hn]at h;subst h;refine⟨dD,pos+x.2,g1,?_⟩
   show(InS.varied ⟨s,pos+x.2,4⟩).2=_
   rw[zAy.stuck ⟨s,pos+x.2,4⟩ (show(4:Int)≠0 by decide)]
theorem zFL:∀(n:Nat) (acc:List HdrS) (s:Bs) (pos:Nat),pos≤s.length→
 (∀t k,zBc n (s.drop pos)=.ok (t,k)→pos+k≤s.length∧InS.hdrLoop n acc ⟨s,pos,0⟩=(acc++t,⟨s,pos+k,0⟩))∧
 (∀e,zBc n (s.drop pos)=.error e→e≠0∧∃q,q≤s.length∧InS.hdrLoop n acc ⟨s,pos,0⟩=([],⟨s,q,e⟩))
 |0,acc,s,pos,hp=>⟨fun t k h=>(by cases h;simp[InS.hdrLoop];exact hp),fun e h=>(by cases h)⟩
 |n+1,acc,s,pos,hp=>by
  unfold zBc InS.hdrLoop
  cases h1:zCo (s.drop pos)with
  |error e1=>
   refine⟨fun t k h=>(by cases h),fun e h=> ?_⟩
   cases h
   obtain⟨g1,q,g2,g3⟩:=zP7 hp h1;refine⟨g1,q,g2,?_⟩;rw[g3,if_neg g1]
  |ok x=>
   obtain⟨g1,g2,g3⟩:=zR3 hp h1;have ih:=zFL n (acc++[x.1]) s (pos+x.2) g1;rw[g2,g3];simp only[if_true];rw[List.drop_drop];refine⟨fun t k h=> ?_,fun e h=> ?_⟩
   ·cases h2:zBc n (s.drop (pos+x.2))with
    |error e2=>rw[h2]at h;cases h
    |ok y=>
     rw[h2]at h
     cases h
     obtain⟨a,b⟩:=ih.1 y.1 y.2 h2;refine⟨oM,?_⟩;rw[b,List.append_assoc,Jm]
     rfl
   ·cases h2:zBc n (s.drop (pos+x.2))with
    |error e2=>
     rw[h2]at h
     cases h
     exact ih.2 e h2
    |ok y=>rw[h2]at h;cases h
theorem zEW{i:InS}(h:i.err≠0)(n:Nat):InS.hdrLoop n [] i=([],i):=by
 cases n with
 |zero=>rfl
 |succ n=>
  unfold InS.hdrLoop;rw[zFE h];simp only;rw[zAy.stuck i h,if_neg h]
theorem zDX:Rds InS.hdrs zAJ []:=by
 refine⟨?_,?_,?_⟩
 ·intro s pos a k hp h;unfold zAJ at h
  cases h1:zBw (s.drop pos)with
  |error e1=>rw[h1]at h;cases h
  |ok x=>
   rw[h1]at h;obtain⟨g1,g2⟩:=zDI.ok s pos x.1 x.2 hp h1;simp only at h
   split at h
   ·cases h
   rename_i hn
   split at h
   ·cases h
   rename_i hm
   rw[Jf]at hm;rw[List.drop_drop]at h
   cases h2:zBc x.1.toNat (s.drop (pos+x.2))with
   |error e2=>rw[h2]at h;cases h
   |ok y=>
    rw[h2]at h
    cases h
    obtain⟨a1,b1⟩:=(zFL x.1.toNat [] s (pos+x.2) g1).1 y.1 y.2 h2;refine⟨oM,?_⟩;unfold InS.hdrs InS.hdrHead;rw[g2];simp only;rw[if_neg hn,if_neg (by simp only[InS.left];omega),b1,List.nil_append,Jm]
 ·intro s pos e hp h;unfold zAJ at h
  cases h1:zBw (s.drop pos)with
  |error e1=>
   rw[h1]at h
   cases h
   obtain⟨g1,q,g2,g3⟩:=zDI.err s pos e hp h1;refine⟨g1,q,g2,?_⟩;unfold InS.hdrs InS.hdrHead;rw[g3];simp only;rw[if_neg dD,if_neg oM]
   rfl
  |ok x=>
   rw[h1]at h;obtain⟨g1,g2⟩:=zDI.ok s pos x.1 x.2 hp h1;simp only at h;unfold InS.hdrs InS.hdrHead;rw[g2];simp only
   split at h
   ·rename_i hn
    cases h
    rw[if_pos hn,InS.fail_ok0'];exact⟨dD,_,g1,zEW (show(4:Int)≠0 by decide) _⟩
   rename_i hn
   rw[if_neg hn]
   split at h
   ·rename_i hm
    cases h
    rw[Jf]at hm;rw[if_pos (by simp only[InS.left];omega),InS.fail_ok0'];exact⟨dD,_,g1,zEW (show(1:Int)≠0 by decide) _⟩
   rename_i hm
   rw[Jf]at hm;rw[if_neg (by simp only[InS.left];omega)];rw[List.drop_drop]at h
   cases h2:zBc x.1.toNat (s.drop (pos+x.2))with
   |error e2=>
    rw[h2]at h
    cases h
    exact(zFL x.1.toNat [] s (pos+x.2) g1).2 e h2
   |ok y=>rw[h2]at h;cases h
 ·intro i hi;unfold InS.hdrs InS.hdrHead;rw[zDI.stuck i hi];simp only;rw[if_neg dD,if_neg oM]
  rfl
theorem zAH{l:Bs}{b:BlobS}{m:Nat}(h:zAf l=.ok (b,m)):encV b=l.take m∧0<m∧m≤l.length∧b.right=true∧b.data.length<2147483648∧b.data.length<m+(if b.null then 1 else 0):=by
 unfold zAf at h
 cases h1:zBw l with
 |error e=>rw[h1]at h;cases h
 |ok x=>
  obtain⟨n,k⟩:=x;rw[h1]at h;obtain⟨g1,g2,g3,g4,g5⟩:=zCX h1;unfold gotS at h;simp only at h
  split at h
  ·rename_i hn
   cases h
   subst hn;refine⟨?_,g2,g3,rfl,by simp[BlobS.none],by simp[BlobS.none]⟩;unfold encV;rw[←g1]
   show putU (zBj (-1))++[]=_
   rw[List.append_nil]
  ·rename_i hn
   split at h
   ·cases h
   ·rename_i hn0
    split at h
    ·cases h
    ·rename_i hm
     cases h
     have hl:(l.drop k).length=l.length - k:=Jf;have hd:((l.drop k).take n.toNat).length=n.toNat:=by rw[Jk,hl];omega
     refine⟨?_,oM,oM,rfl,by simp only;rw[hd];omega,by simp only;rw[hd];omega⟩;unfold encV
     have e:(⟨false,(l.drop k).take n.toNat⟩:BlobS).len=n:=by
      unfold BlobS.len;simp only[Bool.false_eq_true,if_false];rw[hd];omega
     rw[e,g1,List.take_add]
theorem zP6{l:Bs}{h:HdrS}{m:Nat}(e:zCo l=.ok (h,m)):encH h=l.take m∧2≤m∧m≤l.length∧h.val.right=true∧h.key.length+h.val.data.length+1≤m:=by
 unfold zCo at e
 cases h1:zAf l with
 |error e1=>rw[h1]at e;cases e
 |ok x=>
  rw[h1]at e
  cases hn:x.1.null
  ·simp only[hn]at e
   cases h2:zAf (l.drop x.2)with
   |error e2=>rw[h2]at e;cases e
   |ok y=>
    rw[h2]at e
    cases e
    obtain⟨a1,a2,a3,a4,a5,a6⟩:=zAH h1;obtain⟨b1,b2,b3,b4,b5,b6⟩:=zAH h2;rw[Jf]at b3;rw[hn]at a6;simp only[Bool.false_eq_true,if_false]at a6;refine⟨?_,oM,oM,b4,?_⟩
    ·unfold encH;have ex:(⟨false,x.1.data⟩:BlobS)=x.1:=by cases hx:x.1;rw[hx]at hn;simp only at hn;rw[hn]
     simp only;rw[ex,a1,b1,List.take_add]
    ·simp only
     by_cases hy:y.1.null=true
     ·have:y.1.data=[]:=by unfold BlobS.right at b4;rw[hy]at b4;simpa using b4
      rw[this];simp only[Jl];omega
     ·rw[if_neg hy]at b6;omega
  ·simp[hn]at e
theorem zIH:∀(n:Nat) (l:Bs) (t:List HdrS) (m:Nat),zBc n l=.ok (t,m)→t.flatMap encH=l.take m∧m≤l.length∧t.length=n∧zBQ t=true∧hsum t≤m
 |0,l,t,m,h=>by cases h;simp[zBQ,hsum]
 |n+1,l,t,m,h=>by
  unfold zBc at h
  cases h1:zCo l with
  |error e1=>rw[h1]at h;cases h
  |ok x=>
   rw[h1]at h;simp only at h
   cases h2:zBc n (l.drop x.2)with
   |error e2=>rw[h2]at h;cases h
   |ok y=>
    rw[h2]at h
    cases h
    obtain⟨a1,a2,a3,a4,a5⟩:=zP6 h1;obtain⟨b1,b2,b3,b4,b5⟩:=zIH n (l.drop x.2) y.1 y.2 h2;rw[Jf]at b2;refine⟨?_,oM,by simp[b3],?_,?_⟩
    ·rw[List.flatMap_cons,a1,b1,List.take_add]
    ·unfold zBQ at*;rw[List.all_cons,a4,b4];rfl
    ·rw[zEV];omega
theorem zIG{l:Bs}{t:List HdrS}{m:Nat}(h:zAJ l=.ok (t,m)):zDq t=l.take m∧0<m∧m≤l.length∧zBQ t=true∧hsum t≤m:=by
 unfold zAJ at h
 cases h1:zBw l with
 |error e=>rw[h1]at h;cases h
 |ok x=>
  rw[h1]at h;obtain⟨g1,g2,g3,g4,g5⟩:=zCX h1;simp only at h
  split at h
  ·cases h
  rename_i hn
  split at h
  ·cases h
  cases h2:zBc x.1.toNat (l.drop x.2)with
  |error e2=>rw[h2]at h;cases h
  |ok y=>
   rw[h2]at h
   cases h
   obtain⟨b1,b2,b3,b4,b5⟩:=zIH _ _ _ _ h2;rw[Jf]at b2;refine⟨?_,oM,oM,b4,oM⟩;unfold zDq encI;have e:(y.1.length:Int)=x.1:=by rw[b3];omega
   rw[e,g1,b1,List.take_add]
theorem zR9(u:Nat):1≤(putU u).length:=by
 rw[putU]
 split<;>simp
theorem zJT(b:BlobS):1≤(encV b).length:=by
 have h:=zR9 (zBj b.len);unfold encV;rw[Je];omega
theorem zOv(h:HdrS)(hr:h.val.right=true)(hl:h.key.length+h.val.data.length≤2147483647)(rest:Bs):zCo (encH h++rest)=.ok (h,(encH h).length):=by
 unfold zCo encH;rw[List.append_assoc,zBS ⟨false,h.key⟩ rfl (by simp only;omega)];simp only[Bool.false_eq_true,if_false];rw[List.drop_left' rfl,zBS h.val hr oM];simp only[Je]
theorem zHb:∀(t:List HdrS) (rest:Bs),zBQ t=true→hsum t≤2147483647→zBc t.length (t.flatMap encH++rest)=.ok (t,(t.flatMap encH).length)
 |[],_,_,_=>rfl
 |h::t,rest,hr,hs=>by
  unfold zBQ at hr;rw[List.all_cons,Bool.and_eq_true]at hr;rw[zEV]at hs;rw[Jg,List.flatMap_cons,List.append_assoc];unfold zBc;rw[zOv h hr.1 oM];simp only;rw[List.drop_left' rfl,zHb t rest hr.2 oM];simp only[Je]
theorem zLp:∀(t:List HdrS),2*t.length≤(t.flatMap encH).length
 |[]=>by simp
 |h::t=>by
  have h1:=zLp t
  have h2:2≤(encH h).length:=by
   have a:=zJT ⟨false,h.key⟩;have b:=zJT h.val;unfold encH;rw[Je];omega
  rw[List.flatMap_cons,Je,Jg];omega
theorem zMm(t:List HdrS)(rest:Bs)(hr:zBQ t=true)(hs:hsum t≤2147483647):zAJ (zDq t++rest)=.ok (t,(zDq t).length):=by
 have h0:=(zCS t).1;have h2:=zLp t;unfold zAJ zDq encI;rw[List.append_assoc,zGE t.length oM oM];simp only;rw[if_neg oM,if_neg (by rw[Je,Je];omega),List.drop_left' rfl,Int.toNat_natCast,zHb t rest hr hs];simp only[Je]
variable {W0 w:World}{K:Know}{L:List Res}
theorem zKI(n:Int)(hn: -9223372036854775808≤n∧n<9223372036854775808)(h:St W0 w K L):
 Calls Jd 59 #[I O n] w fun en w'=>en=Jb (Z (bb (encI n)))∧St W0 w' K L:=by
 have H:=hQd h;have HN:=hQd hn;have HF:=hQd (zCt hn.1 hn.2);clear h hn;go_enter Tryz.func59,Tryz.ntmps59
 go_wp2_with (first
  |(go_at_call 93;(with_reducible refine(zNt _ HN.out H.out).zM ?_);clear H;intro wn H)
  |(go_at_call 92;(with_reducible refine(zPV _ HF.out H.out).zM ?_);clear H;intro wn H))
 go_ret;exact⟨rfl,H.out⟩
theorem zMf(v:Value)(l:List HdrS)(hl:l.length≤9223372036854775807)(hk:K.has (Know.flat RHdr v 3 l))(h:St W0 w K L):
   Calls Jd 55 #[v] w fun en w'=>en=Jb (U (zBQ l))∧St W0 w' K L:=by
 obtain⟨q,cap,rfl⟩:=zAw hk h;have H:=hQd h;have HK:=hQd hk;clear h hk;go_enter Tryz.func55,Tryz.ntmps55;go_wp2;go_loopw [3] (fun iv wr=>∃(k:Nat),k≤l.length∧iv=I O k∧zBQ (l.take k)=true∧St W0 wr K L) (fun iv _=>l.length - (intOf iv).toNat)
 case atStart=>exact⟨0,Ji _,rfl,rfl,H.out⟩
 case round=>
   obtain⟨k,hk,rfl,hr,hst⟩:=hrel;have HR:=hQd hr;have HST:=hQd hst;clear hr
   by_cases hlt:k<l.length
   · obtain⟨b,off,hq,c0,c1,c2⟩:=zDM HK.out hst k hlt;subst hq
     have hnx:zBQ (l.take (k+1))=(l[k]'hlt).val.right:=by
       have:=HR.out;unfold zBQ at*;rw[List.take_succ_eq_append_getElem hlt,List.all_append,this]
       simp
     have hall:(l[k]'hlt).val.right=false→zBQ l=false:=by
       intro h;unfold zBQ;rw[List.all_eq_false];exact⟨_,Jp hlt,by rw[h];decide⟩
     obtain⟨x,hx⟩:=eX (l[k]'hlt);rw[hx]at c0 c1 c2 hnx hall;have HX:=hQd (And.intro hnx hall);clear hst hx hnx hall;obtain⟨kx,⟨n,d⟩⟩:=x;simp only at c0 c1 c2
     have key:∀(r:Bool),(n && !d.isEmpty)= !r→(⟨n,d⟩:BlobS).right=r:=by
       intro r hr;unfold BlobS.right
       cases n<;>cases r<;>cases d<;>simp_all
     have HKEY:=hQd key;clear key
     cases n<;>cases d
     all_goals
       go_wp2
       first
       | (go_roundw
          case rel=>exact⟨k+1,hlt,by go_num,by rw[HX.out.1];rfl,HST.out⟩
          case measure=>first|(simp[intOf];done)|(simp[intOf];omega))
       | (go_ret
          exact⟨zBD (HX.out.2 rfl).symm,HST.out⟩)
   · have hke:k=l.length:=by omega
     subst hke;rw[List.take_length]at HR;clear hst;go_wp2;go_ret;exact⟨zBD HR.out.symm,HST.out⟩
theorem zFK{l:List HdrS}{b off cap:Nat}(hk:K.has (Know.flat RHdr (Ja (some ⟨b,off,none⟩) l.length cap) 3 l)){i:Nat}{x:HdrS}(hi:i<l.length)(hx:l[i]'hi=x)(h:St W0 w K L):
 w.cell? ⟨b,off+i*3,none⟩=some (Z (bb x.key))∧w.cell? ⟨b,off+i*3+1,none⟩=some (U x.val.null)∧w.cell? ⟨b,off+i*3+2,none⟩=some (Z (bb x.val.data))∧St W0 w K L:=by
 obtain⟨b',off',hq,c0,c1,c2⟩:=zDM hk h i hi
 cases hq
 rw[hx]at c0 c1 c2;exact⟨c0,c1,c2,h⟩
theorem zAb(n:Bool)(d r:Bs)(hr:encV ⟨n,d⟩=r)(hb:d.length≤70368744177664)(h:St W0 w K L):
 Calls Jd 60 #[.agg #[U n,Z (bb d)]] w fun en w'=>en=Jb (Z (bb r))∧St W0 w' K L:=by
 subst hr;exact zKJ ⟨n,d⟩ hb h
theorem zBK(b:BlobS)(h:b.data.length≤140737488355328):(encV b).length≤b.data.length+10:=by
 have hr:=b.len_range h;have:=zCp _ (zCt hr.1 hr.2);unfold encV;rw[Je];omega
theorem zUc(x:HdrS)(h:x.size≤140737488355328):(encH x).length≤x.size:=by
 unfold HdrS.size at*;have h1:=zBK ⟨false,x.key⟩ (by simp only;omega);have h2:=zBK x.val oM;unfold encH;simp only at h1;rw[Je];omega
theorem zGu:∀(l:List HdrS),hsize l≤140737488355328→(l.flatMap encH).length≤hsize l
 |[],_=>by simp
 |x::t,h=>by
  have e:hsize (x::t)=x.size+hsize t:=rfl;have h1:=zUc x oM;have h2:=zGu t oM;rw[List.flatMap_cons,Je];omega
theorem zMe(v:Value)(l:List HdrS)(hs:hsize l≤70368744177664)(hk:K.has (Know.flat RHdr v 3 l))(h:St W0 w K L):
 Calls Jd 61 #[v] w fun en w'=>en=Jb (Z (bb (zDq l)))∧St W0 w' K L:=by
 obtain⟨q,cap,rfl⟩:=zAw hk h
 have hl:l.length≤70368744177664:=by
  have:l.length≤hsize l:=by
   have h1:=zCS l
   omega
  omega
 have H:=hQd h;have HK:=hQd hk;have HS:=hQd hs;have HN:=hQd (show -9223372036854775808≤(l.length:Int)∧(l.length:Int)<9223372036854775808 by omega);have HI:=hQd (show(encI l.length).length≤10 from zCp _ (zCt HN.out.1 HN.out.2));clear h hk hs;go_enter Tryz.func61,Tryz.ntmps61;go_wp2_with (go_at_call 59;(with_reducible refine(zKI _ HN.out H.out).zM ?_);clear H;intro wn H);go_loopw [3,4] (fun sv iv wr=>∃(k:Nat),k≤l.length∧iv=I O k∧sv=Z (bb (encI l.length++(l.take k).flatMap encH))∧St W0 wr K L) (fun _ iv _=>l.length - (intOf iv).toNat)
 case atStart=>exact⟨0,Ji _,rfl,by rw[List.take_zero,List.flatMap_nil,List.append_nil],H.out⟩
 case round=>
  obtain⟨k,hk,rfl,rfl,hst⟩:=hrel
  by_cases hlt:k<l.length
  ·obtain⟨b,off,hq,_⟩:=zDM HK.out hst k hlt;subst hq;have hsp:=zHE l k hlt;have hle:=zGu (l.take k) (by have:=HS.out;omega);have hn:(l.take (k+1)).flatMap encH=(l.take k).flatMap encH++encH (l[k]'hlt):=by rw[List.take_succ_eq_append_getElem hlt,List.flatMap_append];simp
   obtain⟨x,hx⟩:=eX (l[k]'hlt);rw[hx]at hn hsp;have hst1:=hst.drew;obtain⟨c0,c1,c2,_⟩:=zFK HK.out hlt hx hst1;have HKX:=hQd (fun(w':World) (h':St W0 w' K L)=>zFK HK.out hlt hx h');obtain⟨e0,he0⟩:=eX (encI l.length++(l.take k).flatMap encH);have hel:e0.length≤10+hsize (l.take k):=by rw[←he0,Je];have:=HI.out;omega
   rw[he0];obtain⟨v1,hv1⟩:=eX (encV ⟨false,x.key⟩);obtain⟨v2,hv2⟩:=eX (encV ⟨x.val.null,x.val.data⟩);have hxs:x.size=x.key.length+x.val.data.length+32:=rfl;have hb1:=zBK ⟨false,x.key⟩ (by simp only;have:=HS.out;omega);have hb2:=zBK ⟨x.val.null,x.val.data⟩ (by simp only;have:=HS.out;omega);rw[hv1]at hb1;rw[hv2]at hb2;simp only at hb1 hb2;have hz1:¬(9223372036854775807<e0.length+v1.length):=by have:=HS.out;omega
   have hz2:¬(9223372036854775807<e0.length+v1.length+v2.length):=by have:=HS.out;omega
   have B1:=hQd (show x.key.length≤70368744177664 by have:=HS.out;omega);have B2:=hQd (show x.val.data.length≤70368744177664 by have:=HS.out;omega);have V1:=hQd hv1;have V2:=hQd hv2;have HE:=hQd (show e0++v1++v2=encI l.length++(l.take (k+1)).flatMap encH by rw[hn,←List.append_assoc,he0,←hv1,←hv2,List.append_assoc];rfl);clear hst hsp hle hn hx he0 hel hv1 hv2 hxs hb1 hb2;go_wp2_with fail
   go_region_held3 (fun w'=>w'.cell? ⟨b,off+k*3,none⟩=some (Z (bb x.key))∧w'.cell? ⟨b,off+k*3+1,none⟩=some (U x.val.null)∧w'.cell? ⟨b,off+k*3+2,none⟩=some (Z (bb x.val.data))∧St W0 w' K L)
    (exact HKX.out _ (by assumption))
    (first
     |(go_at_call 60;with_reducible refine(zAb false x.key v1 V1.out B1.out zq41).mono ?_;rintro e wn ⟨rfl,h⟩)
     |(go_at_call 60;with_reducible refine(zAb x.val.null x.val.data v2 V2.out B2.out zq41).mono ?_;rintro e wn ⟨rfl,h⟩))
   all_goals
    have hst:=(show St W0 _ K L by first|assumption|(go_split_ands;assumption));go_wp2;go_roundw
    case rel=>exact⟨k+1,hlt,by go_num,by rw[←HE.out];simp,hst⟩
    case measure=>first|(simp[intOf];done)|(simp[intOf];omega)
  ·have hke:k=l.length:=by omega
   subst hke;rw[List.take_length];go_wp2;go_ret;exact⟨rfl,hst⟩
variable {W0 w:World}{K:Know}{L:List Res}
theorem zAi(t s:Bs)(v:Value)(ht:t=s)(hs:s.length≤140737488355328)(hv:gotV (zAf s)=v)(h:St W0 w K L):
 Calls Jd 125 #[Z (bb t)] w fun en w'=>en=Jb v∧St W0 w' K L:=by
 subst ht;subst hv;exact zGk t hs h
def hdrsL (r:Except Int (List HdrS×Nat)):List HdrS:=match r with| .ok x=>x.1| .error _=>[]
def hdrsM (r:Except Int (List HdrS×Nat)):Nat:=match r with| .ok x=>x.2| .error _=>0
def hdrsE (r:Except Int (List HdrS×Nat)):Int:=match r with| .ok _=>0| .error e=>e
def zEh (acc:List HdrS) (at':Nat) (r:Except Int (List HdrS×Nat)):Except Int (List HdrS×Nat):=match r with| .ok x=> .ok (acc++x.1,at'+x.2)| .error e=> .error e
theorem zMC{n:Nat}{acc:List HdrS}{a:Nat}{s:Bs}{x:HdrS}{m:Nat}(h:zCo (s.drop a)=.ok (x,m)):zEh acc a (zBc (n+1) (s.drop a))=zEh (acc++[x]) (a+m) (zBc n (s.drop (a+m))):=by
 rw[←List.drop_drop]
 show zEh acc a (match zCo (s.drop a)with| .error e=> .error e| .ok x=>match zBc n ((s.drop a).drop x.2)with| .error e=> .error e| .ok y=> .ok (x.1::y.1,x.2+y.2))=_
 rw[h];simp only
 cases zBc n ((s.drop a).drop m)with
 |error e=>rfl
 |ok y=>simp[zEh,Jm]
theorem zFO{n:Nat}{acc:List HdrS}{a:Nat}{s:Bs}{e:Int}(h:zCo (s.drop a)=.error e):zEh acc a (zBc (n+1) (s.drop a))=.error e:=by
 show zEh acc a (match zCo (s.drop a)with| .error e=> .error e| .ok x=>match zBc n ((s.drop a).drop x.2)with| .error e=> .error e| .ok y=> .ok (x.1::y.1,x.2+y.2))=_
 rw[h]
 rfl
theorem zTF{l:Bs}{b c:BlobS}{m k:Nat}(h:zAf l=.ok (b,m))(hn:b.null=false)(h2:zAf (l.drop m)=.ok (c,k)):zCo l=.ok (⟨b.data,c⟩,m+k):=by unfold zCo;rw[h];simp only[hn];rw[h2];rfl
theorem zR5{l:Bs}{e:Int}(h:zAf l=.error e):zCo l=.error e:=by unfold zCo;rw[h]
theorem zTG{l:Bs}{b:BlobS}{m:Nat}(h:zAf l=.ok (b,m))(hn:b.null=true):zCo l=.error 4:=by unfold zCo;rw[h];simp only[hn];rfl
theorem zR4{l:Bs}{b:BlobS}{m:Nat}{e:Int}(h:zAf l=.ok (b,m))(hn:b.null=false)(h2:zAf (l.drop m)=.error e):zCo l=.error e:=by unfold zCo;rw[h];simp only[hn];rw[h2];rfl
theorem zCz{l:Bs}{e:Int}(h:zAf l=.error e):e≠0:=(zAy.err l 0 e (Ji _) (by rw[List.drop_zero];exact h)).1
theorem St.emptyRow(h:St W0 w K L)(T:TypeId)(sz:Nat):St W0 (w.alloc (.cells #[] T)) K (.row (Ja (some ⟨w.heap.size,0,none⟩) 0 0) T sz 0 []::L):=h.rowLit [] T sz 0 sM (Ji _)
theorem zNs(s:Bs)(e:Int)(hv:zAT 15 5 0 0 s=.error e)(hs:s.length≤140737488355328)(h:St W0 w K L):
 Calls Jd 152 #[Z (bb s),I O 32] w fun en w'=>en=Jb (.tuple #[.int .u64 0,I O 0,I O e])∧St W0 w' K L:=by
 have:=zFt s 32 5 15 4 hs dD dD dD dD dD h;rw[hv]at this;exact this
theorem zCK(s:Bs)(u k:Nat)(hv:zAT 15 5 0 0 s=.ok (u,k))(hs:s.length≤140737488355328)(h:St W0 w K L):
 Calls Jd 152 #[Z (bb s),I O 32] w fun en w'=>en=Jb (.tuple #[.int .u64 u,I O k,I O 0])∧St W0 w' K L:=by
 have:=zFt s 32 5 15 4 hs dD dD dD dD dD h;rw[hv]at this;exact this
theorem zA2(u:Nat)(n:Int)(hn:zAV u=n)(hu:u<18446744073709551616)(h:St W0 w K L):
 Calls Jd 154 #[.int .u64 u] w fun en w'=>en=Jb (I O n)∧St W0 w' K L:=by
 subst hn;exact zNu u hu h
def zM6 (s:Bs) (K:Know) (W0:World) (L:List Res) (en:Ending) (w':World):Prop:=∃v,en=Jb (.tuple #[v,I O (hdrsM (zAJ s)),I O (hdrsE (zAJ s))])∧St W0 w' (K.and (Know.flat RHdr v 3 (hdrsL (zAJ s)))) L
theorem zDL{s:Bs}{e:Int}(he:zAJ s=.error e)(h:St W0 w K L):zM6 s K W0 L (.returned (.tuple #[Ja none 0 0,I O 0,I O e])) w:=by
 unfold zM6;rw[he];exact⟨_,rfl,h.know (zJL _ _ _)⟩
theorem zSr{s:Bs}{l:List HdrS}{m:Nat}{v:Value}(he:zAJ s=.ok (l,m))(h:St W0 w K (.row v 73 3 l.length (l.flatMap hcells)::L)):zM6 s K W0 L (.returned (.tuple #[v,I O m,I O 0])) w:=by
 unfold zM6;rw[he];exact⟨_,rfl,h.freezeRow (fun x _=>⟨rfl,rfl⟩)⟩
theorem zq19{p:Prop}(h:p:=by
  go_wp2_with (first
    |(go_at_call 152;refine(zCK s u k HV.out HS.out H.out).zM ?_;clear H;intro wn H)
    |(go_at_call 154;refine(zA2 u n HN.out HU.out H.out).zM ?_;clear H;intro wn H))
  go_ret3;exact zDL HE.out H.out):p:=h
theorem zq38{p:Prop}(h:p:=by rw[Jf];exact Jo _):p:=h
theorem zq37{p:Prop}(h:p:=by rw[Jj zq38]):p:=h
theorem zG6(s:Bs)(hs:s.length≤140737488355328)(h:St W0 w K L):
 Calls Jd 155 #[Z (bb s)] w (zM6 s K W0 L):=by
 have H:=hQd h;have HS:=hQd hs;clear h
 cases hv:zAT 15 5 0 0 s with
 |error e=>
  have he:zAJ s=.error e:=by unfold zAJ zBw;rw[hv]
  have hnz:e≠0:=(zD5 15 5 0 0 s 0 e (Ji _) (by rw[List.drop_zero];exact hv)).1;have hb:(e !=0)=true:=by rw[bne_iff_ne];exact hnz
  have HV:=hQd hv;have HE:=hQd he;clear hv he hnz;go_enter Tryz.func155,Tryz.ntmps155;go_wp2_with (go_at_call 152;refine(zNs s e HV.out HS.out H.out).zM ?_;clear H;intro wn H);go_ret3;exact zDL HE.out H.out
 |ok x=>
  obtain⟨u,k⟩:=x;obtain⟨n,hn⟩:=eX (zAV u);have hgi:zBw s=.ok (n,k):=by unfold zBw;rw[hv];simp only;rw[hn]
  obtain⟨g1,g2,g3,g4,g5⟩:=zCX hgi;have hu:u<18446744073709551616:=by have h1:=g4;have h2:=g5;rw[←hn]at h1 h2;unfold zAV at h1 h2;omega
  have HV:=hQd hv;have HN:=hQd hn;have HU:=hQd hu
  have hrd:zAJ s=if n<0 then .error 4 else if ((s.length:Int) - k) / 2<n then .error 1 else zEh [] k (zBc n.toNat (s.drop k)):=by
   unfold zAJ;rw[hgi];simp only
   split
   ·rfl
   ·split
    ·rfl
    ·cases zBc n.toNat (s.drop k)<;>rfl
  clear hv hn hgi g1 hu;have ARMS:=True.intro
  by_cases h1:n<0
  ·rw[if_pos h1]at hrd;have HE:=hQd hrd;clear hrd;go_enter Tryz.func155,Tryz.ntmps155
   exact zq19
  rw[if_neg h1]at hrd
  by_cases h2:((s.length:Int) - k) / 2<n
  ·rw[if_pos h2]at hrd;have HE:=hQd hrd;clear hrd;go_enter Tryz.func155,Tryz.ntmps155
   exact zq19
  rw[if_neg h2]at hrd;have HRD:=hQd hrd;clear hrd;go_enter Tryz.func155,Tryz.ntmps155
  go_wp2_with (first
   |(go_at_call 152;refine(zCK s u k HV.out HS.out H.out).zM ?_;clear H;intro wn H)
   |(go_at_call 154;refine(zA2 u n HN.out HU.out H.out).zM ?_;clear H;intro wn H))
  have HRW:=hQd (H.out.emptyRow 73 3);go_loopw [6,9,10] (fun av lv iv wr=>∃(i a:Nat) (acc:List HdrS),i≤n.toNat∧iv=I O i∧av=I O a∧a≤s.length∧acc.length=i∧zAJ s=zEh acc a (zBc (n.toNat - i) (s.drop a))∧St W0 wr K (.row lv 73 3 acc.length (acc.flatMap hcells)::L)) (fun _ _ iv _=>n.toNat - (intOf iv).toNat)
  case atStart=>exact⟨0,k,[],Ji _,rfl,rfl,g3,rfl,HRD.out,HRW.out⟩
  case round=>
   obtain⟨i,a,acc,hi,rfl,rfl,ha,hacc,hrel,hst⟩:=hrel;have HACC:=hQd hacc;have HREL:=hQd hrel;have HST:=hQd hst;clear hacc hrel hst
   by_cases hlt:(i:Int)<n
   ·obtain⟨q,hq⟩:∃q,n.toNat - i=q+1:=⟨n.toNat - (i+1),oM⟩;have hq2:n.toNat - (i+1)=q:=by omega
    rw[hq]at HREL;have HQ2:=hQd hq2;clear hq hq2;have tok1:True:=trivial;have H:=HST;clear HST
    cases hv1:zAf (s.drop a)with
    |error e1=>
     have hnz:=zCz hv1;have hb:(e1 !=0)=true:=by rw[bne_iff_ne];exact hnz
     have HE:=hQd (show zAJ s=.error e1 by rw[HREL.out,zFO (zR5 hv1)]);have HG:=hQd (show gotV (zAf (s.drop a))=.agg #[U false,Z (bb []),I O 0,I O e1] by rw[hv1];rfl);have HSD:=hQd (show(s.drop a).length≤140737488355328 by rw[Jf];omega);clear hv1 hnz;go_wp2_with (go_at_call 125;have _t:=tok1;clear _t;(with_reducible refine(zAi _ (s.drop a) _ zq37 HSD.out HG.out H.out).mono ?_);rintro e wn ⟨rfl,h⟩;replace H:=hQd h;clear h tok1)
     go_quiet (fail)
     go_wp2;go_ret3;exact zDL HE.out ((H.out.drop.alloc _).drewN _)
    |ok x1=>
     obtain⟨b,m1⟩:=x1;obtain⟨_,o2,o3,_⟩:=zAH hv1;rw[Jf]at o3;have hm1:a+m1≤s.length:=by omega
     have HG1:=hQd (show gotV (zAf (s.drop a))=.agg #[U b.null,Z (bb b.data),I O m1,I O 0] by rw[hv1];rfl);have HSD:=hQd (show(s.drop a).length≤140737488355328 by rw[Jf];omega)
     cases hbn:b.null
     ·have HB:=hQd hbn
      cases hv2:zAf (s.drop (a+m1))with
      |error e2=>
       have hnz:=zCz hv2;have hb:(e2 !=0)=true:=by rw[bne_iff_ne];exact hnz
       have HE:=hQd (show zAJ s=.error e2 by rw[HREL.out,zFO (zR4 hv1 hbn (by rw[List.drop_drop];exact hv2))]);have HG2:=hQd (show gotV (zAf (s.drop (a+m1)))=.agg #[U false,Z (bb []),I O 0,I O e2] by rw[hv2];rfl);have HSD2:=hQd (show(s.drop (a+m1)).length≤140737488355328 by rw[Jf];omega);rw[hbn]at HG1;clear hv1 hv2 hnz hbn o2 o3
       go_wp2_with (first
        |(go_at_call 125;have _t:=tok1;clear _t;(with_reducible refine(zAi _ (s.drop a) _ zq37 HSD.out HG1.out H.out).mono ?_);rintro e wn ⟨rfl,h⟩;replace H:=hQd h;clear h tok1;have tok2:True:=trivial)
        |(go_at_call 125;have _t:=tok2;clear _t;(with_reducible refine(zAi _ (s.drop (a+m1)) _ zq37 HSD2.out HG2.out (H.out.allocRaw #[U false,Z (bb b.data),I O m1,I O 0] 176)).mono ?_);rintro e wn ⟨rfl,h⟩;replace H:=hQd h;clear h tok2))
       go_quiet (fail)
       go_wp2;go_ret3;exact zDL HE.out ((H.out.drop.drop.alloc _).drewN _)
      |ok x2=>
       obtain⟨c,m2⟩:=x2;obtain⟨_,p2,p3,_⟩:=zAH hv2;rw[Jf]at p3;have hm2:a+m1+m2≤s.length:=by omega
       have hh:zCo (s.drop a)=.ok (⟨b.data,c⟩,m1+m2):=zTF hv1 hbn (by rw[List.drop_drop];exact hv2);have HNX:=hQd (show zAJ s=zEh (acc++[⟨b.data,c⟩]) (a+m1+m2) (zBc (n.toNat - (i+1)) (s.drop (a+m1+m2))) by rw[HREL.out,zMC hh,HQ2.out,Jm]);have HG2:=hQd (show gotV (zAf (s.drop (a+m1)))=.agg #[U c.null,Z (bb c.data),I O m2,I O 0] by rw[hv2];rfl);have HSD2:=hQd (show(s.drop (a+m1)).length≤140737488355328 by rw[Jf];omega);have HI:=hQd (show i≤2147483648 by omega);rw[hbn]at HG1;clear hv1 hv2 hbn o2 o3 p2 p3 hh
       go_wp2_with (first
        |(go_at_call 125;have _t:=tok1;clear _t;(with_reducible refine(zAi _ (s.drop a) _ zq37 HSD.out HG1.out H.out).mono ?_);rintro e wn ⟨rfl,h⟩;replace H:=hQd h;clear h tok1;have tok2:True:=trivial)
        |(go_at_call 125;have _t:=tok2;clear _t;(with_reducible refine(zAi _ (s.drop (a+m1)) _ zq37 HSD2.out HG2.out (H.out.allocRaw #[U false,Z (bb b.data),I O m1,I O 0] 176)).mono ?_);rintro e wn ⟨rfl,h⟩;replace H:=hQd h;clear h tok2;have H2:=hQd (H.out.allocRaw #[U c.null,Z (bb c.data),I O m2,I O 0] 176);obtain⟨y0,y1,y2,y3⟩:=uR4 H2.out.p1;simp at y0 y1 y2 y3;obtain⟨x0,x1,x2,x3⟩:=uR4 H.out;simp at x0 x1 x2 x3)
        |(at_builtin;refine zAC rfl _ _ 52 rfl 73 Tryz.underlying52 zNN _ _ _ rfl H2.out.p2 [Z (bb b.data),U c.null,Z (bb c.data)] 73 (by rw[World.size_alloc];rfl) rfl (by simp[Value.oneCell']) (by have:=HACC.out;have:=HI.out;unfold maxLen;omega) (by have:=HACC.out;have:=HI.out;omega) ?_;intro v' w' h;replace H:=hQd h;clear h;obtain⟨u0,u1,u2,u3⟩:=uR4 H.out.p1;simp at u0 u1 u2 u3;obtain⟨v0,v1,v2,v3⟩:=uR4 H.out.p2;simp at v0 v1 v2 v3))
       go_roundw
       case rel=>
        refine⟨i+1,a+m1+m2,acc++[⟨b.data,c⟩],oM,by go_num,by go_num,hm2,by simp[HACC.out],HNX.out,?_⟩;refine H.out.p1.drop.p1.drop.cast ?_;simp[hcells]
       case measure=>first|(simp[intOf];done)|(simp[intOf];omega)
     ·have HE:=hQd (show zAJ s=.error 4 by rw[HREL.out,zFO (zTG hv1 hbn)]);rw[hbn]at HG1;clear hv1 hbn o2 o3;go_wp2_with (go_at_call 125;have _t:=tok1;clear _t;(with_reducible refine(zAi _ (s.drop a) _ zq37 HSD.out HG1.out H.out).mono ?_);rintro e wn ⟨rfl,h⟩;replace H:=hQd h;clear h tok1);go_ret3;exact zDL HE.out (H.out.drop.alloc _)
   ·have hin:i=n.toNat:=by omega
    have h0:n.toNat - i=0:=by omega
    have hfin:zAJ s=.ok (acc,a):=by rw[HREL.out,h0];simp[zBc,zEh]
    have HFIN:=hQd hfin;clear hfin h0 hin;go_wp2;go_ret3;exact zSr HFIN.out HST.out
structure RecS where
 time:Int
 off:Int
 key:BlobS
 val:BlobS
 hdrs:List HdrS
deriving DecidableEq
def RecS.zero:RecS:=⟨0,0,⟨false,[]⟩,⟨false,[]⟩,[]⟩
def RecS.R (x:RecS):Prop:=(-9223372036854775808≤x.time∧x.time<9223372036854775808)∧(-9223372036854775808≤x.off∧x.off<9223372036854775808)
def RecS.sum (x:RecS):Nat:=x.key.data.length+x.val.data.length+hsum x.hdrs
def RecS.allRight (x:RecS):Bool:=x.key.right && x.val.right && zBQ x.hdrs
def zA8 (x:RecS):Int:=if x.off<0∨2147483647<x.off then 11 else if x.allRight then 0 else 4
def recF (x:RecS):Bs:=[0]++(encI x.time++(encI x.off++(encV x.key++(encV x.val++zDq x.hdrs))))
def encR (x:RecS):Bs:=encV ⟨false,recF x⟩
def OutS.putRec (o:OutS) (x:RecS):OutS:=if zA8 x=0 then o.put (encR x)else o.fail (zA8 x)
theorem zCU(n:Int)(h: -9223372036854775808≤n∧n<9223372036854775808):(encI n).length≤10:=zCp _ (zCt h.1 h.2)
theorem zFy(x:RecS)(hx:x.R)(hs:x.sum≤1000000):(recF x).length≤32*x.sum+100:=by
 unfold RecS.sum at*;have h0:=zCS x.hdrs;have h1:=zCU x.time hx.1;have h2:=zCU x.off hx.2;have h3:=zBK x.key oM;have h4:=zBK x.val oM;have h5:=zGu x.hdrs oM;have h6:=zCU x.hdrs.length oM;unfold recF zDq;simp only[Je,Jg,Jl]
 omega
theorem zIB{x:RecS}(h:zA8 x=0):(0≤x.off∧x.off≤2147483647)∧x.allRight=true:=by
 unfold zA8 at h
 split at h
 ·cases h
 ·split at h
  ·exact⟨oM,by assumption⟩
  ·cases h
def zAG (s:Bs):Except Int RecS:=
  match zAS 1 s with
  | .error e=> .error e
  | .ok a=>if a.1=0 then match zCO (s.drop 1)with
      | .error e=> .error e
      | .ok t=>match zBw (s.drop (1+t.2))with
        | .error e=> .error e
        | .ok o=>if o.1<0 then .error 11 else match zAf (s.drop (1+t.2+o.2))with
          | .error e=> .error e
          | .ok k=>match zAf (s.drop (1+t.2+o.2+k.2))with
            | .error e=> .error e
            | .ok v=>match zAJ (s.drop (1+t.2+o.2+k.2+v.2))with
              | .error e=> .error e
              | .ok h=>if 1+t.2+o.2+k.2+v.2+h.2=s.length then .ok ⟨t.1,o.1,k.1,v.1,h.1⟩else .error 2
    else .error 8
def InS.recTail (i:InS) (t o:Int):RecS×InS:=(⟨t,o,i.varied.1,i.varied.2.varied.1,i.varied.2.varied.2.hdrs.1⟩,i.varied.2.varied.2.hdrs.2)
def InS.recOff (i:InS) (t:Int):RecS×InS:=(if i.vint.1<0 then i.vint.2.fail 11 else i.vint.2).recTail t i.vint.1
def InS.recTime (i:InS):RecS×InS:=i.vlong.2.recOff i.vlong.1
def InS.recFields (i:InS):RecS×InS:=(if (i.int 1).1=0 then(i.int 1).2 else(i.int 1).2.fail 8).recTime
theorem zFj{i:InS}(h:i.err≠0)(t o:Int):(i.recTail t o).2=i:=by
 unfold InS.recTail;rw[zAy.stuck i h];simp only;rw[zAy.stuck i h];simp only;rw[zDX.stuck i h]
theorem zK8{i:InS}(h:i.err≠0)(t:Int):(i.recOff t).2=i:=by
 unfold InS.recOff;rw[zDI.stuck i h];simp only;rw[if_neg dD,zFj h]
theorem zIt{i:InS}(h:i.err≠0):(i.recTime).2=i:=by
 unfold InS.recTime;rw[zJy.stuck i h,zK8 h]
theorem InS.fail_stuck0{i:InS}(h:i.err≠0)(e:Int):i.fail e=i:=if_neg h
theorem zCi{s:Bs}{q:Nat}{e:Int}(h:e≠0):(⟨s,q,e⟩:InS).close.err=e:=by
 unfold InS.close
 split
 ·rw[InS.fail_stuck0 (show(⟨s,q,e⟩:InS).err≠0 from h)]
 ·rfl
theorem InS.fail_stuck{i:InS}(h:i.err≠0)(e:Int):i.fail e=i:=if_neg h
def recD (s:Bs):RecS×InS:=(⟨s,0,0⟩:InS).recFields
theorem zNG(s:Bs):(∀x,zAG s=.ok x→recD s=(x,⟨s,s.length,0⟩))∧(∀e,zAG s=.error e→e≠0∧(recD s).2.close.err=e):=by
 unfold zAG recD InS.recFields;have hi:=zDi 1 dD dD
 cases h0:zAS 1 s with
 |error e0=>
  obtain⟨g1,q,g2,g3⟩:=hi.err s 0 e0 (Ji _) (by rw[List.drop_zero];exact h0);have g3:(⟨s,0,0⟩:InS).int 1=(0,⟨s,q,e0⟩):=g3;refine⟨fun x h=>(by cases h),fun e h=> ?_⟩
  cases h
  rw[g3];simp only[if_true];rw[zIt (show(⟨s,q,e0⟩:InS).err≠0 from g1)];exact⟨g1,zCi g1⟩
 |ok a=>
  obtain⟨g1,g3⟩:=hi.ok s 0 a.1 a.2 (Ji _) (by rw[List.drop_zero];exact h0);have g3:(⟨s,0,0⟩:InS).int 1=(a.1,⟨s,0+a.2,0⟩):=g3
  have ha2:a.2=1:=by
   unfold zAS at h0
   split at h0
   ·cases h0
   ·cases h0;rfl
  rw[Nat.zero_add,ha2]at g3 g1;rw[g3];simp only
  by_cases ha:a.1=0
  ·rw[if_pos ha,if_pos ha];unfold InS.recTime
   cases h1:zCO (s.drop 1)with
   |error e1=>
    obtain⟨k1,q,k2,k3⟩:=zJy.err s 1 e1 g1 h1;refine⟨fun x h=>(by cases h),fun e h=> ?_⟩
    cases h
    rw[k3];simp only;rw[zK8 (show(⟨s,q,e1⟩:InS).err≠0 from k1)];exact⟨k1,zCi k1⟩
   |ok t=>
    obtain⟨k1,k3⟩:=zJy.ok s 1 t.1 t.2 g1 h1;rw[k3];simp only;unfold InS.recOff
    cases h2:zBw (s.drop (1+t.2))with
    |error e2=>
     obtain⟨m1,q,m2,m3⟩:=zDI.err s (1+t.2) e2 k1 h2;refine⟨fun x h=>(by cases h),fun e h=> ?_⟩
     cases h
     rw[m3];simp only;rw[if_neg dD,zFj (show(⟨s,q,e2⟩:InS).err≠0 from m1)];exact⟨m1,zCi m1⟩
    |ok o=>
     obtain⟨m1,m3⟩:=zDI.ok s (1+t.2) o.1 o.2 k1 h2;rw[m3];simp only
     by_cases ho:o.1<0
     ·rw[if_pos ho,if_pos ho];refine⟨fun x h=>(by cases h),fun e h=> ?_⟩
      cases h
      rw[InS.fail_ok0',zFj (show(11:Int)≠0 by decide)];exact⟨dD,zCi dD⟩
     ·rw[if_neg ho,if_neg ho];unfold InS.recTail
      cases h3:zAf (s.drop (1+t.2+o.2))with
      |error e3=>
       obtain⟨n1,q,n2,n3⟩:=zAy.err s _ e3 m1 h3;refine⟨fun x h=>(by cases h),fun e h=> ?_⟩
       cases h
       rw[n3];simp only;have n1':(⟨s,q,e3⟩:InS).err≠0:=n1;rw[zAy.stuck _ n1'];simp only;rw[zDX.stuck _ n1'];exact⟨n1,zCi n1⟩
      |ok k=>
       obtain⟨n1,n3⟩:=zAy.ok s _ k.1 k.2 m1 h3;rw[n3];simp only
       cases h4:zAf (s.drop (1+t.2+o.2+k.2))with
       |error e4=>
        obtain⟨p1,q,p2,p3⟩:=zAy.err s _ e4 n1 h4;refine⟨fun x h=>(by cases h),fun e h=> ?_⟩
        cases h
        rw[p3];simp only;have p1':(⟨s,q,e4⟩:InS).err≠0:=p1;rw[zDX.stuck _ p1'];exact⟨p1,zCi p1⟩
       |ok v=>
        obtain⟨p1,p3⟩:=zAy.ok s _ v.1 v.2 n1 h4;rw[p3];simp only
        cases h5:zAJ (s.drop (1+t.2+o.2+k.2+v.2))with
        |error e5=>
         obtain⟨r1,q,r2,r3⟩:=zDX.err s _ e5 p1 h5;refine⟨fun x h=>(by cases h),fun e h=> ?_⟩
         cases h
         rw[r3];exact⟨r1,zCi r1⟩
        |ok h=>
         obtain⟨r1,r3⟩:=zDX.ok s _ h.1 h.2 p1 h5;rw[r3];simp only
         by_cases hE:1+t.2+o.2+k.2+v.2+h.2=s.length
         ·rw[if_pos hE,hE];refine⟨fun x hh=>(by cases hh;rfl),fun e hh=>(by cases hh)⟩
         ·rw[if_neg hE];refine⟨fun x hh=>(by cases hh),fun e hh=> ?_⟩
          cases hh
          refine⟨dD,?_⟩;unfold InS.close;rw[if_pos (by simp only[InS.left];omega)]
          rfl
  ·rw[if_neg ha,if_neg ha];refine⟨fun x h=>(by cases h),fun e h=> ?_⟩
   cases h
   rw[InS.fail_ok0',zIt (show(8:Int)≠0 by decide)];exact⟨dD,zCi dD⟩
def zCQ (l:Bs):Except Int (RecS×Nat):=match zAf l with
  | .error e=> .error e
  | .ok b=>if b.1.null then .error 4 else match zAG b.1.data with
    | .error e=> .error e
    | .ok x=> .ok (x,b.2)
def InS.recJ (i:InS):InS:=if (recD i.name.1).2.close.err=0 then i.name.2 else i.name.2.fail (recD i.name.1).2.close.err
def InS.record (i:InS):RecS×InS:=if i.recJ.err=0 then((recD i.name.1).1,i.recJ)else(RecS.zero,i.recJ)
theorem zDH:Rds InS.record zCQ RecS.zero:=by
 refine⟨?_,?_,?_⟩
 ·intro s pos a k hp h;unfold zCQ at h
  cases h1:zAf (s.drop pos)with
  |error e=>rw[h1]at h;cases h
  |ok b=>
   rw[h1]at h;obtain⟨g1,g2⟩:=zAy.ok s pos b.1 b.2 hp h1
   cases hn:b.1.null
   ·simp only[hn]at h
    cases h2:zAG b.1.data with
    |error e=>rw[h2]at h;cases h
    |ok x=>
     rw[h2]at h
     cases h
     have hi:=(zNG b.1.data).1 _ h2;refine⟨g1,?_⟩
     have hnm:(⟨s,pos,0⟩:InS).name=(b.1.data,⟨s,pos+b.2,0⟩):=by
      unfold InS.name InS.bytes;rw[g2];simp only[hn]
      rfl
     have hc:(⟨b.1.data,b.1.data.length,0⟩:InS).close.err=0:=by unfold InS.close;rw[if_neg (by simp only[InS.left];omega)]
     unfold InS.record InS.recJ;rw[hnm];simp only[hi,hc,if_true]
   ·simp[hn]at h
 ·intro s pos e hp h;unfold zCQ at h
  cases h1:zAf (s.drop pos)with
  |error e1=>
   rw[h1]at h
   cases h
   obtain⟨g1,q,g2,g3⟩:=zAy.err s pos e hp h1;refine⟨g1,q,g2,?_⟩
   have hnm:(⟨s,pos,0⟩:InS).name=([],⟨s,q,e⟩):=by
    unfold InS.name InS.bytes;rw[g3]
    rfl
   unfold InS.record InS.recJ;rw[hnm];simp only[InS.fail_stuck (show(⟨s,q,e⟩:InS).err≠0 from g1),ite_self];rw[if_neg g1]
  |ok b=>
   rw[h1]at h;obtain⟨g1,g2⟩:=zAy.ok s pos b.1 b.2 hp h1
   cases hn:b.1.null
   ·simp only[hn]at h
    cases h2:zAG b.1.data with
    |error e2=>
     rw[h2]at h
     cases h
     obtain⟨k1,k2⟩:=(zNG b.1.data).2 _ h2;refine⟨k1,pos+b.2,g1,?_⟩
     have hnm:(⟨s,pos,0⟩:InS).name=(b.1.data,⟨s,pos+b.2,0⟩):=by
      unfold InS.name InS.bytes;rw[g2];simp only[hn]
      rfl
     unfold InS.record InS.recJ;rw[hnm];simp only[k2];rw[if_neg k1,InS.fail_ok0',if_neg k1]
    |ok x=>rw[h2]at h;cases h
   ·simp[hn]at h;subst h;refine⟨dD,pos+b.2,g1,?_⟩
    have hnm:(⟨s,pos,0⟩:InS).name=(b.1.data,⟨s,pos+b.2,4⟩):=by
     unfold InS.name InS.bytes;rw[g2];simp only[hn]
     rfl
    unfold InS.record InS.recJ;rw[hnm];simp only[InS.fail_stuck (show(⟨s,pos+b.2,4⟩:InS).err≠0 from(show(4:Int)≠0 by decide)),ite_self];rw[if_neg (show ¬(4:Int)=0 by decide)]
 ·intro i hi;unfold InS.record InS.recJ;rw[zFE hi];simp only[InS.fail_stuck hi,ite_self];rw[if_neg hi]
variable {W0 w:World}{K:Know}{L:List Res}
theorem raw7{b:Nat}{T:TypeId}{v0 v1 v2 v3 v4 v5 v6:Value}(h:St W0 w K (.raw b #[v0,v1,v2,v3,v4,v5,v6] T::L)):
 w.cell? ⟨b,0,none⟩=some v0∧w.cell? ⟨b,1,none⟩=some v1∧w.cell? ⟨b,2,none⟩=some v2∧w.cell? ⟨b,3,none⟩=some v3∧w.cell? ⟨b,4,none⟩=some v4∧w.cell? ⟨b,5,none⟩=some v5∧w.cell? ⟨b,6,none⟩=some v6∧
 w.frozen? ⟨b,0,none⟩=false∧w.frozen? ⟨b,1,none⟩=false∧w.frozen? ⟨b,2,none⟩=false∧w.frozen? ⟨b,3,none⟩=false∧w.frozen? ⟨b,4,none⟩=false∧w.frozen? ⟨b,5,none⟩=false∧w.frozen? ⟨b,6,none⟩=false:=
 ⟨h.rawCell 0,h.rawCell 1,h.rawCell 2,h.rawCell 3,h.rawCell 4,h.rawCell 5,h.rawCell 6,h.rawFree 0,h.rawFree 1,h.rawFree 2,h.rawFree 3,h.rawFree 4,h.rawFree 5,h.rawFree 6⟩
def zC6 (x:BlobS):List Value:=[U x.null,Z (bb x.data)]
theorem zQ7:zEg Jd 51 (.agg #[U false,Z ⟨#[]⟩]) 2 24:=zB8 kR rfl dD
def zCV (x:RecS):List BlobS:=x.key::x.val::x.hdrs.map HdrS.val
theorem zJ6(x:RecS):(zCV x).all BlobS.right=x.allRight:=by
 unfold zCV RecS.allRight zBQ;rw[List.all_cons,List.all_cons,List.all_map,Bool.and_assoc]
 rfl
theorem zPc(l:List BlobS)(k:Nat)(h:k<l.length):(l.flatMap zC6)[k*2]? =some (U l[k].null)∧(l.flatMap zC6)[k*2+1]? =some (Z (bb l[k].data)):=by
 have h0:=zBJ l zC6 2 (fun _ _=>rfl) k h 0 dD;have h1:=zBJ l zC6 2 (fun _ _=>rfl) k h 1 dD;rw[Nat.add_zero]at h0;exact⟨h0,h1⟩
theorem zKL(g cap n:Nat)(l:List BlobS)(hn:n=l.length)(hl:l.length≤9223372036854775807)(h:St W0 w K (.row (Ja (some ⟨g,0,none⟩) n cap) 51 2 n (l.flatMap zC6)::L)):
 Calls Jd 99 #[Ja (some ⟨g,0,none⟩) n cap] w fun en w'=>en=Jb (U (l.all BlobS.right))∧St W0 w' K (.row (Ja (some ⟨g,0,none⟩) n cap) 51 2 n (l.flatMap zC6)::L):=by
 subst hn;have H:=hQd h;obtain⟨r,hr⟩:=eX (l.all BlobS.right);have HR:=hQd hr;rw[hr];clear h hr;go_enter Tryz.func99,Tryz.ntmps99;go_wp2;go_loopw [7] (fun iv wr=>∃k:Nat,k≤l.length∧iv=I O k∧(l.take k).all BlobS.right=true∧St W0 wr K (.row (Ja (some ⟨g,0,none⟩) l.length cap) 51 2 l.length (l.flatMap zC6)::L)) (fun iv _=>l.length - (intOf iv).toNat)
 case atStart=>exact⟨0,Ji _,rfl,rfl,H.out⟩
 case round=>
  obtain⟨k,hk,rfl,hall,hst⟩:=hrel;have HALL:=hQd hall;clear hall
  by_cases hlt:k<l.length
  ·obtain⟨e0,e1⟩:=zPc l k hlt;have c0:=(hst.rowCell (k*2) oM).trans e0;have c1:=(hst.rowCell (k*2+1) oM).trans e1;have hnx:(l.take (k+1)).all BlobS.right=(l[k]'hlt).right:=by rw[List.take_succ_eq_append_getElem hlt,List.all_append,HALL.out];simp
   have hno:(l[k]'hlt).right=false→l.all BlobS.right=false:=by
    intro h;rw[List.all_eq_false];exact⟨_,Jp hlt,by rw[h];decide⟩
   obtain⟨x,hx⟩:=eX (l[k]'hlt);rw[hx]at c0 c1 hnx hno;have HX:=hQd (And.intro hnx hno);have H:=hQd hst;clear hst e0 e1 hx hnx hno
   cases hxr:x.right
   all_goals
    have ER:=hQd hxr;clear hxr;go_wp2_with (go_at_call 128;refine(zI6 x (H.out.alloc _)).mono ?_;rw[ER.out];rintro e wn ⟨rfl,h⟩;replace H:=hQd h;clear h)
   ·go_ret;exact⟨zBD (by rw[←HR.out];exact(HX.out.2 ER.out).symm),H.out⟩
   ·go_roundw
    case rel=>exact⟨k+1,hlt,by go_num,by rw[HX.out.1,ER.out],H.out⟩
    case measure=>first|(simp[intOf];done)|(simp[intOf];omega)
  ·have hke:k=l.length:=by omega
   subst hke;rw[List.take_length]at HALL;go_wp2;go_ret;exact⟨zBD (by rw[←HR.out];exact HALL.out.symm),hst⟩
theorem zP2(x:RecS)(v:Value)(hl:x.hdrs.length≤1000000)(hk:K.has (Know.flat RHdr v 3 x.hdrs))(h:St W0 w K L):
 Calls Jd 100 #[.agg #[I O x.time,I O x.off,U x.key.null,Z (bb x.key.data),U x.val.null,Z (bb x.val.data),v]] w fun en w'=>∃g cap,en=Jb (Ja (some ⟨g,0,none⟩) (zCV x).length cap)∧St W0 w' K (.row (Ja (some ⟨g,0,none⟩) (zCV x).length cap) 51 2 (zCV x).length ((zCV x).flatMap zC6)::L):=by
 obtain⟨q,cap,rfl⟩:=zAw hk h;have h0:=(h.allocRaw #[I O x.time,I O x.off,U x.key.null,Z (bb x.key.data),U x.val.null,Z (bb x.val.data),Ja q x.hdrs.length cap] 54).rowLit (zC6 x.key++zC6 x.val) 51 2 2 rfl dD;have H:=hQd h0;have HK:=hQd hk;clear h hk h0;go_enter Tryz.func100,Tryz.ntmps100;go_wp2;have H2:=hQd ((H.out.p1.drop).cast (L':=.row (Ja (some ⟨w.heap.size+1,0,none⟩) 2 2) 51 2 [x.key,x.val].length ([x.key,x.val].flatMap zC6)::L) (by rw[World.size_alloc];rfl));clear H;go_loopw [3,14] (fun lv iv wr=>∃(k:Nat) (acc:List BlobS),k≤x.hdrs.length∧iv=I O k∧acc=x.key::x.val::(x.hdrs.take k).map HdrS.val∧St W0 wr K (.row lv 51 2 acc.length (acc.flatMap zC6)::L)) (fun _ iv _=>x.hdrs.length - (intOf iv).toNat)
 case atStart=>exact⟨0,_,Ji _,rfl,by rw[List.take_zero];rfl,H2.out⟩
 case round=>
  obtain⟨k,acc,hk,rfl,hacc,hst⟩:=hrel;have HACC:=hQd hacc;have H:=hQd hst;have hlen:acc.length=k+2:=by rw[hacc];simp;omega
  have HLEN:=hQd hlen;clear hacc hlen H2
  by_cases hlt:k<x.hdrs.length
  ·obtain⟨b,off,hq,yq⟩:=zDM HK.out hst k hlt;subst hq;clear yq;obtain⟨y,hy⟩:=eX (x.hdrs[k]'hlt);obtain⟨c0,c1,c2,_⟩:=zFK HK.out hlt hy hst;have HY:=hQd (show acc++[y.val]=x.key::x.val::(x.hdrs.take (k+1)).map HdrS.val by rw[HACC.out,List.take_succ_eq_append_getElem hlt,hy];simp);clear hst hy;go_wp2_with (at_builtin;refine zAC rfl _ _ 150 rfl 51 Tryz.underlying150 zQ7 _ _ _ rfl (H.out.alloc _) [U y.val.null,Z (bb y.val.data)] 51 (by rw[World.size_alloc];rfl) rfl (by simp[Value.oneCell']) (by have:=HLEN.out;unfold maxLen;omega) (by have:=HLEN.out;omega) ?_;intro v' w' h;replace H:=hQd h;clear h);go_roundw
   case rel=>exact⟨k+1,acc++[y.val],hlt,by go_num,HY.out,H.out.cast (by simp[zC6])⟩
   case measure=>first|(simp[intOf];done)|(simp[intOf];omega)
  ·have hke:k=x.hdrs.length:=by omega
   subst hke;rw[List.take_length]at HACC;have hb:acc=zCV x:=HACC.out;subst hb;obtain⟨g,cp,hv⟩:=hst.rowSlice (by unfold zCV;simp);subst hv;clear hst;go_wp2;go_ret;exact⟨g,cp,rfl,H.out⟩
theorem zEM(x:RecS)(v:Value)(e:Int)(he:zA8 x=e)(hl:x.hdrs.length≤1000000)(hk:K.has (Know.flat RHdr v 3 x.hdrs))(h:St W0 w K L):
 Calls Jd 70 #[.agg #[I O x.time,I O x.off,U x.key.null,Z (bb x.key.data),U x.val.null,Z (bb x.val.data),v]] w fun en w'=>en=Jb (I O e)∧St W0 w' K L:=by
 have H:=hQd (h.allocRaw #[I O x.time,I O x.off,U x.key.null,Z (bb x.key.data),U x.val.null,Z (bb x.val.data),v] 54);have HK:=hQd hk;have HL:=hQd hl;have hlb:(zCV x).length≤9223372036854775807:=by unfold zCV;simp;omega
 have HLB:=hQd hlb;clear h hk hl hlb;unfold zA8 at he
 by_cases h1:x.off<0
 ·rw[if_pos (.inl h1)]at he;subst he;go_enter Tryz.func70,Tryz.ntmps70;go_wp2;go_ret;exact⟨rfl,H.out.drop⟩
 by_cases h2:2147483647<x.off
 ·rw[if_pos (.inr h2)]at he;subst he;go_enter Tryz.func70,Tryz.ntmps70;go_wp2;go_ret;exact⟨rfl,H.out.drop⟩
 rw[if_neg oM]at he
 cases hr:x.allRight
 all_goals
  rw[hr]at he;have ER:=hQd ((zJ6 x).trans hr);clear hr
  first|(simp only[if_true]at he)|(simp only[Bool.false_eq_true,if_false]at he)
  subst he;go_enter Tryz.func70,Tryz.ntmps70
  go_wp2_with (first
   |(go_at_call 100;refine(zP2 x v HL.out HK.out H.out).mono ?_;rintro e wn ⟨g,cap,rfl,h⟩;replace H:=hQd h;clear h)
   |(go_at_call 99;refine(zKL g cap _ _ rfl HLB.out H.out).mono ?_;rw[ER.out];rintro e wn ⟨rfl,h⟩;replace H:=hQd h;clear h))
  go_ret;exact⟨rfl,H.out.drop.drop⟩
end Go.Proofs.YtenojajfacacoaaGreatDoor
