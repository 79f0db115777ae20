/- A text. -/
import Derived.Test.YtnnnglklgofabaaGreatGProduceReads7
import Derived.Test.YtnnnglklgofabaaGreatGProduceReads5
import Derived.Test.YtnnnglklgofabaaGreatGProduceReads4
import Derived.Test.YtnnnglklgofabaaGreatGProduceReads3
import Derived.Test.YtnnnglklgofabaaGreatGProduceReads2
import Derived.Test.YtnnnglklgofabaaGreatGProduceReads6
/- A text. -/
namespace Go.Proofs.YtnnnglklgofabaaGreat
open Go.RowKit
set_option maxHeartbeats 8000000
set_option maxRecDepth 100000
def psz:List Nat:=[8,4,4,4,2,4,8,8,8,2,4,4]
def adj (k:Nat):Nat:=if k≤3 then k else k+1
theorem zQa(x:PreS)(k:Nat)(hk:k<12)(h3:k≠3):x.items.take (adj (k+1))=x.items.take (adj k)++[(x.list.getD k 0,psz.getD k 0)]∧(x.list.getD k 0,psz.getD k 0)∈x.items:=by
 rcases(by omega:k=0∨k=1∨k=2∨k=4∨k=5∨k=6∨k=7∨k=8∨k=9∨k=10∨k=11)with h|h|h|h|h|h|h|h|h|h|h<;>subst h<;>exact⟨rfl,by simp[PreS.items,PreS.list,psz]⟩
theorem zOS(x:PreS):x.items.take (adj (3+1))=x.items.take (adj 3)++[(2,1),(zAH x.sum,4)]∧(zAH x.sum,4)∈x.items:=⟨rfl,by simp[PreS.items]⟩
theorem zQb(x:PreS)(k:Nat)(hk:k<12):(#[.int .i64 x.base,.int .i64 x.len,.int .i64 x.leader,.int .i64 x.sum,.int .i64 x.attr,.int .i64 x.last,.int .i64 x.first,.int .i64 x.maxt,.int .i64 x.prod,.int .i64 x.epoch,.int .i64 x.seq,.int .i64 x.count]:Array Value)[k]? =some (.int .i64 (x.list.getD k 0))∧(#[.int .i64 8,.int .i64 4,.int .i64 4,.int .i64 4,.int .i64 2,.int .i64 4,.int .i64 8,.int .i64 8,.int .i64 8,.int .i64 2,.int .i64 4,.int .i64 4]:Array Value)[k]? =some (.int .i64 (psz.getD k 0))∧x.list.getD k 0∈x.list∧1≤psz.getD k 0∧psz.getD k 0≤8:=by
 rcases(by omega:k=0∨k=1∨k=2∨k=3∨k=4∨k=5∨k=6∨k=7∨k=8∨k=9∨k=10∨k=11)with h|h|h|h|h|h|h|h|h|h|h|h<;>subst h<;>exact⟨rfl,rfl,by simp[PreS.list],dD,dD⟩
theorem zBE(a b:List (Int×Nat)):zAo (a++b)=zAo a++zAo b:=List.flatMap_append
theorem FitsAll.nil:FitsAll []:=fun _ hx=>by cases hx
theorem FitsAll.append{a b:List (Int×Nat)}(h:FitsAll a)(k:FitsAll b):FitsAll (a++b):=fun x hx=>(List.mem_append.1 hx).elim (h x) (k x)
theorem FitsAll.one{n:Int}{z:Nat}(h:fits n z):FitsAll [(n,z)]:=fun x hx=>by simp at hx;subst hx;exact h
theorem zLY(x:PreS)(k:Nat):(zAo (x.items.take k)).length≤61:=by
 have h1:(zAo x.items).length=61:=by rw[zCa];rfl
 have h2:zAo x.items=zAo (x.items.take k)++zAo (x.items.drop k):=by rw[←zBE,List.take_append_drop]
 have h3:=congrArg List.length h2;rw[List.length_append]at h3
 omega
theorem zFr(n:Int)(h0:¬n<0)(h1:¬4294967295<n):fits (zAH n) 4:=by
 have e4:half 4=2147483648:=by decide
 unfold fits zAH;rw[if_neg oM];refine⟨dD,dD,?_⟩;have:(4:Int).toNat=4:=rfl;rw[this,e4]
 split<;>omega
theorem zD1(n:Int)(h:n<0∨4294967295<n):¬fits (zAH n) 4:=by
 have e:zAH n=4294967296:=if_pos h;rw[e]
 decide
def zCm (x:PreS):Bs×Bool:=if FitsAll x.items then(zAo x.items,true)else([],false)
theorem zRJ{x:PreS}(hp:FitsAll x.items):Ending.returned (.tuple #[.string (bb (zAo x.items)),.bool true])=Ending.returned (.tuple #[.string (bb (zCm x).1),.bool (zCm x).2]):=by unfold zCm;rw[if_pos hp]
theorem zG5{x:PreS}(hp:¬FitsAll x.items):Ending.returned (.tuple #[.string ⟨#[]⟩,.bool false])=Ending.returned (.tuple #[.string (bb (zCm x).1),.bool (zCm x).2]):=by unfold zCm;rw[if_neg hp];rfl
theorem zq45{p:Prop}(h:p:=by
  go_roundw
  case rel=>
   obtain⟨k',r1,r2,r3,r4⟩:=REL.out;exact⟨k',r1,r2,r3,r4,H.out⟩
  case measure=>first|(simp[intOf];done)|(simp[intOf];omega)):p:=h
theorem zLt(bl:Nat)(x:PreS)(hx:x.R){W0 w:World}{K:Know}{L:List Res}(h:St W0 w K (.raw bl #[.int .i64 x.base,.int .i64 x.len,.int .i64 x.leader,.int .i64 x.sum,.int .i64 x.attr,.int .i64 x.last,.int .i64 x.first,.int .i64 x.maxt,.int .i64 x.prod,.int .i64 x.epoch,.int .i64 x.seq,.int .i64 x.count] 3::L)):
 Calls Tryz.prog 82 #[.slice (some ⟨bl,0,none⟩) 12 12] w fun en w'=>en=.returned (.tuple #[.string (bb (zCm x).1),.bool (zCm x).2])∧St W0 w' K (.raw bl #[.int .i64 x.base,.int .i64 x.len,.int .i64 x.leader,.int .i64 x.sum,.int .i64 x.attr,.int .i64 x.last,.int .i64 x.first,.int .i64 x.maxt,.int .i64 x.prod,.int .i64 x.epoch,.int .i64 x.seq,.int .i64 x.count] 3::L):=by
 have H:=hQd (h.allocRaw #[.int .i64 8,.int .i64 4,.int .i64 4,.int .i64 4,.int .i64 2,.int .i64 4,.int .i64 8,.int .i64 8,.int .i64 8,.int .i64 2,.int .i64 4,.int .i64 4] 3);have HX:=hQd hx;clear h hx;go_enter Tryz.func82,Tryz.ntmps82;go_wp2;obtain⟨bs,hbs⟩:∃b,w.heap.size=b:=⟨_,rfl⟩;rw[hbs]at H
 try rw[hbs]
 have HBS:=hQd hbs;clear hbs;go_loopw [5,6] (fun sv iv wr=>∃k:Nat,k≤12∧iv=.int .i64 k∧sv=.string (bb (zAo (x.items.take (adj k))))∧FitsAll (x.items.take (adj k))∧St W0 wr K (.raw bs #[.int .i64 8,.int .i64 4,.int .i64 4,.int .i64 4,.int .i64 2,.int .i64 4,.int .i64 8,.int .i64 8,.int .i64 8,.int .i64 2,.int .i64 4,.int .i64 4] 3::.raw bl #[.int .i64 x.base,.int .i64 x.len,.int .i64 x.leader,.int .i64 x.sum,.int .i64 x.attr,.int .i64 x.last,.int .i64 x.first,.int .i64 x.maxt,.int .i64 x.prod,.int .i64 x.epoch,.int .i64 x.seq,.int .i64 x.count] 3::L)) (fun _ iv _=>12 - (intOf iv).toNat)
 case atStart=>exact⟨0,Nat.zero_le _,rfl,rfl,FitsAll.nil,H.out⟩
 case round=>
  obtain⟨k,hk,rfl,rfl,hfa,hst⟩:=hrel;have HFA:=hQd hfa;have H:=hQd hst;clear hfa hst;have hlen:=zLY x (adj k);obtain⟨e0,he0⟩:∃e,zAo (x.items.take (adj k))=e:=⟨_,rfl⟩;rw[he0]at hlen;rw[he0];have HE0:=hQd he0;clear he0
  by_cases hlt:k<12
  ·obtain⟨p1,p2,p3,p4,p5⟩:=zQb x k hlt;have hnr:=HX.out _ p3;obtain⟨n,hn⟩:∃n,x.list.getD k 0=n:=⟨_,rfl⟩;obtain⟨z,hz⟩:∃z,psz.getD k 0=z:=⟨_,rfl⟩;rw[hn]at p1 hnr;rw[hz]at p2 p4 p5;have C1:=hQd p1;have C2:=hQd p2;have HN:=hQd hnr;have HZ8:=hQd (show z≤140737488355328 by omega);have HNZ:=hQd (And.intro hn hz);have d1:=H.out.p1.rawCell k;have d2:=H.out.rawCell k;rw[C1.out]at d1;rw[C2.out]at d2;clear p1 p2 p3 hnr hn hz hk
   by_cases h3:k=3
   ·subst h3;have HNX:=hQd (show x.sum=n from HNZ.out.1);obtain rfl:4=z:=HNZ.out.2;have HQ:=hQd (zOS x);rw[HNX.out]at HQ
    by_cases h0:n<0
    ·go_wp2;go_ret2;exact⟨zG5 (fun h=>zD1 n (.inl h0) (h _ HQ.out.2)),H.out.drop⟩
    by_cases h1:4294967295<n
    ·go_wp2;go_ret2;exact⟨zG5 (fun h=>zD1 n (.inr h1) (h _ HQ.out.2)),H.out.drop⟩
    have HF:=hQd (zFr n h0 h1);have HSR:=hQd (zDb n);have HF4:=hQd (decide_eq_true HF.out)
    by_cases h2:2147483647<n
    ·have hsi:zAH n=n - 4294967296:=by unfold zAH;rw[if_neg oM,if_pos h2]
     rw[hsi]at HF4 HF HQ HSR;have tokA:True:=trivial
     have REL:=hQd (show ∃k:Nat,k≤12∧Value.int .i64 (3+1)=.int .i64 k∧Value.string (bb (e0++(zAd 2 1++zAd (n - 4294967296) 4)))=.string (bb (zAo (x.items.take (adj k))))∧FitsAll (x.items.take (adj k))from
      ⟨4,dD,rfl,by rw[HQ.out.1,zBE,HE0.out];simp[zAo],by rw[HQ.out.1];exact HFA.out.append (fun y hy=>by simp at hy;rcases hy with rfl|rfl;exact dD;exact HF.out)⟩)
     clear hsi
     go_wp2_with (first
      |(go_at_call 49;have _t:=tokA;clear _t;refine(zCI 2 1 dD dD H.out).mono ?_;rintro e wn ⟨rfl,h⟩;replace H:=hQd h;clear h tokA;have d1:=H.out.p1.rawCell 3;have d2:=H.out.rawCell 3;rw[C1.out]at d1;rw[C2.out]at d2)
      |(go_at_call 49;refine(zCI (n - 4294967296) 4 dD HSR.out H.out).zM ?_;clear H;intro wn H;have d1:=H.out.p1.rawCell 3;have d2:=H.out.rawCell 3;rw[C1.out]at d1;rw[C2.out]at d2)
      |(go_at_call 113;refine(zLg (n - 4294967296) 4 HSR.out H.out).mono ?_;rw[HF4.out];rintro e wn ⟨rfl,h⟩;replace H:=hQd h;clear h;have d1:=H.out.p1.rawCell 3;have d2:=H.out.rawCell 3;rw[C1.out]at d1;rw[C2.out]at d2))
     exact zq45
    ·have hsi:zAH n=n:=by unfold zAH;rw[if_neg oM,if_neg h2]
     rw[hsi]at HF4 HF HQ HSR;have tokA:True:=trivial
     have REL:=hQd (show ∃k:Nat,k≤12∧Value.int .i64 (3+1)=.int .i64 k∧Value.string (bb (e0++(zAd 2 1++zAd (n) 4)))=.string (bb (zAo (x.items.take (adj k))))∧FitsAll (x.items.take (adj k))from
      ⟨4,dD,rfl,by rw[HQ.out.1,zBE,HE0.out];simp[zAo],by rw[HQ.out.1];exact HFA.out.append (fun y hy=>by simp at hy;rcases hy with rfl|rfl;exact dD;exact HF.out)⟩)
     clear hsi
     go_wp2_with (first
      |(go_at_call 49;have _t:=tokA;clear _t;refine(zCI 2 1 dD dD H.out).mono ?_;rintro e wn ⟨rfl,h⟩;replace H:=hQd h;clear h tokA;have d1:=H.out.p1.rawCell 3;have d2:=H.out.rawCell 3;rw[C1.out]at d1;rw[C2.out]at d2)
      |(go_at_call 49;refine(zCI (n) 4 dD HSR.out H.out).zM ?_;clear H;intro wn H;have d1:=H.out.p1.rawCell 3;have d2:=H.out.rawCell 3;rw[C1.out]at d1;rw[C2.out]at d2)
      |(go_at_call 113;refine(zLg (n) 4 HSR.out H.out).mono ?_;rw[HF4.out];rintro e wn ⟨rfl,h⟩;replace H:=hQd h;clear h;have d1:=H.out.p1.rawCell 3;have d2:=H.out.rawCell 3;rw[C1.out]at d1;rw[C2.out]at d2))
     exact zq45
   ·obtain⟨q1,q2⟩:=zQa x k hlt h3;rw[HNZ.out.1,HNZ.out.2]at q1 q2;have HQ:=hQd (And.intro q1 q2);clear q1 q2;have h3b:((k:Int)==3)=false:=by rw[beq_eq_false_iff_ne];omega
    have HK3:=hQd h3;clear h3
    by_cases hf:fits n z
    all_goals
     have HF:=hQd hf;have hdf:decide (fits n z)=decide (fits n z):=rfl
     conv at hdf=>rhs;(first|rw[decide_eq_true HF.out]|rw[decide_eq_false HF.out])
     have HDF:=hQd hdf;clear hf hdf
     go_wp2_with (first
      |(go_at_call 113;(with_reducible refine(zLg _ _ HN.out H.out).mono ?_);rw[HDF.out];rintro e wn ⟨rfl,h⟩;replace H:=hQd h;clear h;have d1:=H.out.p1.rawCell k;have d2:=H.out.rawCell k;rw[C1.out]at d1;rw[C2.out]at d2)
      |(go_at_call 49;(with_reducible refine(zCI _ _ HZ8.out HN.out H.out).zM ?_);clear H;intro wn H;have d1:=H.out.p1.rawCell k;have d2:=H.out.rawCell k;rw[C1.out]at d1;rw[C2.out]at d2))
    ·go_roundw
     case rel=>
      refine⟨k+1,oM,by go_num,?_,?_,H.out⟩
      ·rw[HQ.out.1,zBE,HE0.out];simp[zAo]
      ·rw[HQ.out.1];exact HFA.out.append (FitsAll.one HF.out)
     case measure=>first|(simp[intOf];done)|(simp[intOf];omega)
    ·go_ret2;exact⟨zG5 (fun h=>HF.out (h _ HQ.out.2)),H.out.drop⟩
  ·have hk12:k=12:=by omega
   subst hk12;go_wp2;go_ret2;have ht:x.items.take (adj 12)=x.items:=rfl;have h1:=HFA.out;have h2:=HE0.out;rw[ht]at h1 h2;subst h2;exact⟨zRJ h1,H.out.drop⟩
def preX (s:Bs):PreS×Int:=zGZ (zBV zAX s)
def zBu (s:Bs):Except Int PreS:=if s.length<61 then .error 1 else if (preX s).2=2 then(if (preX s).1.len<49 then .error 4 else if (preX s).1.count<0 then .error 10 else .ok (preX s).1)else .error 6
theorem InS.fail_stuck_Pre6{i:InS}(h:i.err≠0)(e:Int):i.fail e=i:=if_neg h
theorem InS.fail_ok0(s:Bs)(p:Nat)(e:Int):(⟨s,p,0⟩:InS).fail e=⟨s,p,e⟩:=rfl
theorem zKh(x:PreS)(m:Int){i:InS}(h:i.err≠0):zKi x m i=i:=by
 unfold zKi;simp only[InS.fail_stuck_Pre6 h,ite_self]
theorem zOT(s:Bs)(pos:Nat)(hp:pos+61≤s.length):(⟨s,pos,0⟩:InS).pre=match zBu (s.drop pos)with| .ok x=>(x,⟨s,pos+61,0⟩)| .error e=>(PreS.zero,⟨s,pos+61,e⟩):=by
 have h1:=zO6 zAX s pos dD hp;have h2:zAX.sum=61:=rfl;rw[h2]at h1;unfold InS.pre;rw[h1];unfold zBu preX;rw[if_neg (by rw[List.length_drop];omega)];obtain⟨x,m⟩:=zGZ (zBV zAX (s.drop pos));simp only[zKi]
 by_cases hm:m=2
 ·rw[if_pos hm,if_pos hm]
  by_cases hl:x.len<49
  ·rw[if_pos hl,if_pos hl,InS.fail_ok0,InS.fail_stuck_Pre6 (show(4:Int)≠0 by decide),ite_self,if_neg (show ¬(4:Int)=0 by decide)]
  ·rw[if_neg hl,if_neg hl]
   by_cases hc:x.count<0
   ·rw[if_pos hc,if_pos hc,InS.fail_ok0,if_neg (show ¬(10:Int)=0 by decide)]
   ·rw[if_neg hc,if_neg hc,if_pos rfl]
 ·have hs:∀e:Int,(⟨s,pos+61,6⟩:InS).fail e=⟨s,pos+61,6⟩:=fun e=>InS.fail_stuck_Pre6 (show(6:Int)≠0 by decide) e
  rw[if_neg hm,if_neg hm,InS.fail_ok0];simp only[hs,ite_self];rw[if_neg (show ¬(6:Int)=0 by decide)]
theorem zNH(s:Bs)(pos:Nat)(hp:pos≤s.length)(hs:s.length<pos+61):∃q,q≤s.length∧(⟨s,pos,0⟩:InS).pre=(PreS.zero,⟨s,q,1⟩):=by
 obtain⟨q,h1,h2⟩:=zH2 zAX s pos dD hp hs;refine⟨q,h1,?_⟩;unfold InS.pre;rw[h2,zKh _ _ (show(1:Int)≠0 by decide)];simp only;rw[if_neg dD]
theorem zLB{s:Bs}(h:s.length<61):zBu s=.error 1:=if_pos h
theorem zG6:∀(l:List Nat) (s:Bs) (n:Nat),l.sum≤n→zBV l (s.take n)=zBV l s
 |[],_,_,_=>rfl
 |k::t,s,n,h=>by
  rw[List.sum_cons]at h;unfold zBV;rw[List.take_take,Nat.min_eq_left oM,List.drop_take,zG6 t (s.drop k) (n - k) oM]
theorem zE8(s:Bs)(h:61≤s.length):zBu (s.take 61)=zBu s:=by
 unfold zBu preX;rw[zG6 zAX s 61 dD,List.length_take,Nat.min_eq_left h,if_neg (show ¬61<61 by decide),if_neg (show ¬s.length<61 by omega)]
theorem zBX(s:Bs)(h:s.length≤4): -2147483648≤sInt s∧sInt s<2147483648:=by
 rcases(by omega:s.length=0∨(1≤s.length∧s.length≤4))with h0|h0
 ·have:s=[]:=List.length_eq_zero_iff.1 h0;subst this
  decide
 ·have h1:=(zGg s s.length h0.1 oM rfl).2.2;rw[Int.toNat_natCast]at h1
  have h2:half s.length≤2147483648:=by
   rcases(by omega:s.length=1∨s.length=2∨s.length=3∨s.length=4)with h|h|h|h<;>rw[h]<;>decide
  omega
theorem zGY(s:Bs):preX s=(⟨sInt (s.take 8),sInt ((s.drop 8).take 4),sInt ((s.drop 12).take 4),sInt ((s.drop 17).take 4) % 4294967296,sInt ((s.drop 21).take 2),sInt ((s.drop 23).take 4),sInt ((s.drop 27).take 8),sInt ((s.drop 35).take 8),sInt ((s.drop 43).take 8),sInt ((s.drop 51).take 2),sInt ((s.drop 53).take 4),sInt ((s.drop 57).take 4)⟩,sInt ((s.drop 16).take 1)):=by
 unfold preX zAX;simp only[zBV,List.drop_drop,Nat.reduceAdd]
 rfl
theorem zQc(s:Bs): -2147483648≤(preX s).1.len∧(preX s).1.len<2147483648:=by
 rw[zGY];exact zBX _ (by rw[List.length_take];omega)
theorem zDM{s:Bs}{x:PreS}(h:zBu s=.ok x):61≤s.length∧(preX s).1=x∧(preX s).2=2∧49≤x.len∧0≤x.count:=by
 unfold zBu at h
 split at h
 ·cases h
 split at h
 ·split at h
  ·cases h
  ·split at h
   ·cases h
   ·cases h
    exact⟨oM,rfl,by assumption,oM,oM⟩
 ·cases h
theorem zq50{p:Prop}(h:p:=by
  split at h
  · cases h;decide
  · split at h
    · cases h;decide
    · cases h):p:=h
theorem zJ4{s:Bs}{e:Int}(h:zBu s=.error e):e≠0:=by
 unfold zBu at h
 split at h
 ·cases h;decide
 split at h
 ·exact zq50
 ·cases h;decide
theorem zCL(p:Nat)(i j:InS)(x:PreS)(hx:i.pre=(x,j)){W0 w:World}{K:Know}{L:List Res}(h:St W0 w K (.inp p i::L)):
 Calls Tryz.prog 141 #[zAu p] w fun en w'=>en=.returned (.agg #[.int .i64 x.base,.int .i64 x.len,.int .i64 x.leader,.int .i64 x.sum,.int .i64 x.attr,.int .i64 x.last,.int .i64 x.first,.int .i64 x.maxt,.int .i64 x.prod,.int .i64 x.epoch,.int .i64 x.seq,.int .i64 x.count])∧St W0 w' K (.inp p j::L):=by
 have:=zLM p i h;rw[hx]at this;exact this
def zBd (s:Bs):Except Int (BatS×Nat):=match zBu s with
  | .error e=> .error e
  | .ok x=>if s.length<61+(x.len - 49).toNat then .error 1 else match asmB x (s.take 61) ((s.drop 61).take (x.len - 49).toNat)with
    | .error e=> .error e
    | .ok b=> .ok (b,61+(x.len - 49).toNat)
theorem zAT{s:Bs}{x:PreS}(h:zBu s=.ok x):(-2147483648≤x.len∧x.len<2147483648)∧49≤x.len∧R64 x.attr∧0≤x.count∧x.count≤2147483647∧x.first≤9223372036854775807:=by
 obtain⟨h1,h2,_,h3,h4⟩:=zDM h;have hl:=zQc s;rw[h2]at hl;rw[zGY]at h2;have h2:=h2.symm;subst h2;simp only at*;have a:=zCq ((s.drop 21).take 2) (by rw[List.length_take];omega);have b:=zCq ((s.drop 27).take 8) (by rw[List.length_take];omega);have c:=zBX ((s.drop 57).take 4) (by rw[List.length_take];omega);exact⟨hl,h3,a,h4,oM,oM⟩
theorem zFU{s:Bs}{e:Int}(h:zBd s=.error e):e≠0:=by
 unfold zBd at h
 split at h
 ·rename_i f hp
  cases h
  exact zJ4 hp
 ·split at h
  ·cases h;decide
  ·split at h
   ·rename_i f ha
    cases h
    exact zMf ha
   ·cases h
theorem zBI{s:Bs}{b:BatS}{n:Nat}(h:zBd s=.ok (b,n)):∃x,zBu s=.ok x∧n=61+(x.len - 49).toNat∧n≤s.length∧asmB x (s.take 61) ((s.drop 61).take (x.len - 49).toNat)=.ok b:=by
 unfold zBd at h
 split at h
 ·cases h
 ·rename_i x hp
  split at h
  ·cases h
  ·split at h
   ·cases h
   ·rename_i c ha
    cases h
    exact⟨x,hp,rfl,oM,ha⟩
theorem zLK(o:Bs)(x:RecS)(h:zBc x=0):(⟨o,0⟩:OutS).putRec x=⟨o++encR x,0⟩:=by
 unfold OutS.putRec;rw[if_pos h]
 rfl
theorem zIA:∀(l:List RecS),zCW l=0→∀x∈l,zBc x=0
 |[],_,_,h=>by cases h
 |r::t,hh,x,hx=>by
  have hh:(if zBc r=0 then zCW t else zBc r)=0:=hh
  by_cases h1:zBc r=0
  ·rw[if_pos h1]at hh
   rcases List.mem_cons.1 hx with rfl|hx
   ·exact h1
   ·exact zIA t hh x hx
  ·rw[if_neg h1]at hh;exact absurd hh h1
theorem zKK{l:List (RecS×Value)}(h:FitB l):(zBa l).length≤40000000*l.length:=by
 have:∀(l:List (RecS×Value)),(∀x∈l,(encR x.1).length≤40000000)→(zBa l).length≤40000000*l.length:=by
  intro l
  induction l with
  |nil=>intro _;simp[zBa]
  |cons x t ih=>
   intro hh;have h1:=ih (fun y hy=>hh y (by simp[hy]));have h2:=hh x (by simp);have e:zBa (x::t)=encR x.1++zBa t:=rfl;rw[e,List.length_append,List.length_cons]
   omega
 refine this l fun x hx=> ?_
 obtain⟨a,_,c⟩:=h x hx;have h1:=zE7 x.1 a c;unfold encR encV;rw[List.length_append];have h2:(putU (zBg (BlobS.len ⟨false,recF x.1⟩))).length≤10:=zCl _ (zCp (by simp[BlobS.len]<;>omega) (by simp[BlobS.len]<;>omega));simp only at*
 omega
theorem zJu(n:Int)(h:fits (zAH n) 4):zAH n % 4294967296=n:=by
 by_cases h0:n<0∨4294967295<n
 ·exact absurd h (zD1 n h0)
 ·unfold zAH;rw[if_neg h0]
  split<;>omega
theorem zOU(x:PreS)(hf:FitsAll x.items):preX (zAo x.items)=(x,2):=by
 have h1:=zH4 x.items [] hf;rw[List.append_nil]at h1;have h2:x.items.map (·.2)=zAX:=rfl;rw[h2]at h1;have h3:=zJu x.sum (hf (zAH x.sum,4) (by simp[PreS.items]));unfold preX;rw[h1];simp only[PreS.items,List.map_cons,List.map_nil,zGZ,h3]
theorem zBq(x:PreS):(zAo x.items).length=61:=by rw[zCa];rfl
theorem zJ5(x:PreS)(hf:FitsAll x.items)(hl:49≤x.len)(hc:0≤x.count)(t:Bs):zBu (zAo x.items++t)=.ok x:=by
 have h:=zE8 (zAo x.items++t) (by rw[List.length_append,zBq];omega);rw[List.take_left' (zBq x)]at h;rw[←h];unfold zBu;rw[zOU x hf,if_neg (by rw[zBq];omega),if_pos rfl,if_neg (by simp only;omega),if_neg (by simp only;omega)]
def BatS.rowsB (b:BatS):Bs:=b.recs.flatMap encR
def BatS.pre (b:BatS) (sum:Int):PreS:=⟨b.base,49+b.rowsB.length,b.leader,sum,zA7 b.app b.txn b.ctl 3,b.last,b.first,b.maxt,b.prod,b.epoch,b.seq,b.recs.length⟩
def BatS.front (b:BatS) (sum:Int):Bs:=zAo [(b.base,8),(49+b.rowsB.length,4),(b.leader,4),(2,1),(zAH sum,4)]
def BatS.back (b:BatS):Bs:=zAo [(zA7 b.app b.txn b.ctl 3,2),(b.last,4),(b.first,8),(b.maxt,8),(b.prod,8),(b.epoch,2),(b.seq,4),(b.recs.length,4)]
def BatS.crc (b:BatS):Nat:=(zAm 0#32 (b.back++b.rowsB)).toNat
def BatS.enc (b:BatS):Bs:=zAo (b.pre b.crc).items++b.rowsB
theorem BatS.pre_split(b:BatS)(s:Int):zAo (b.pre s).items=b.front s++b.back:=by
 have h:(b.pre s).items=[(b.base,8),(49+(b.rowsB.length:Int),4),(b.leader,4),(2,1),(zAH s,4)]++[(zA7 b.app b.txn b.ctl 3,2),(b.last,4),(b.first,8),(b.maxt,8),(b.prod,8),(b.epoch,2),(b.seq,4),((b.recs.length:Int),4)]:=rfl;rw[h,zBE]
 rfl
theorem BatS.front_len(b:BatS)(s:Int):(b.front s).length=21:=by unfold BatS.front;rw[zCa];rfl
theorem BatS.pre_drop(b:BatS)(s:Int):(zAo (b.pre s).items).drop 21=b.back:=by rw[b.pre_split,List.drop_left' (b.front_len s)]
theorem BatS.crc_lt(b:BatS):b.crc<4294967296:=(zAm 0#32 (b.back++b.rowsB)).isLt
theorem zHa{n:Int}{k:Nat}(h1:1≤k)(h8:k≤8)(lo: -half k≤n)(hi:n<half k):fits n k:=by
 refine⟨oM,oM,?_,?_⟩<;>rw[Int.toNat_natCast]<;>assumption
theorem zDm{b:BatS}(h:zAl b=0):b.placed=true∧(b.ctl=true→b.txn=true)∧b.signed=true∧zCW b.recs=0:=by
 unfold zAl at h
 by_cases p1:b.placed=false
 ·rw[if_pos p1]at h;cases h
 rw[if_neg p1]at h
 by_cases p2:b.ctl=true∧b.txn=false
 ·rw[if_pos p2]at h;cases h
 rw[if_neg p2]at h
 by_cases p3:b.signed=false
 ·rw[if_pos p3]at h;cases h
 rw[if_neg p3]at h
 by_cases p4:b.ctl=true∧b.recs.length≠1
 ·rw[if_pos p4]at h;cases h
 rw[if_neg p4]at h
 by_cases p5:zCW b.recs≠0
 ·rw[if_pos p5]at h;exact absurd h p5
 refine⟨by simpa using p1,fun hc=> ?_,by simpa using p3,Classical.not_not.1 p5⟩
 cases ht:b.txn with
 |true=>rfl
 |false=>exact absurd ⟨hc,ht⟩ p2
theorem zNj{b:BatS}(h:b.signed=true): -1≤b.prod∧(-1≤b.epoch∧b.epoch≤32767)∧(-1≤b.seq∧b.seq≤2147483647):=by
 unfold BatS.signed at h
 by_cases p:b.prod= -1
 ·rw[if_pos p]at h;have:=of_decide_eq_true h
  omega
 rw[if_neg p]at h
 by_cases q:b.prod<0∨¬(0≤b.epoch∧b.epoch≤32767)
 ·rw[if_pos q]at h;cases h
 rw[if_neg q]at h
 cases hc:b.ctl with
 |true=>
  rw[hc]at h;have h:decide (b.seq= -1)=true:=h;have:=of_decide_eq_true h
  omega
 |false=>
  rw[hc]at h;have h:decide (0≤b.seq∧b.seq≤2147483647)=true:=h;have:=of_decide_eq_true h
  omega
theorem zFq(a t c:Bool):(0≤zA7 a t c 3∧zA7 a t c 3≤63)∧zAf (zA7 a t c 3) 3=a∧zAf (zA7 a t c 3) 4=t∧zAf (zA7 a t c 3) 5=c∧((c=true→t=true)→chk (zA7 a t c 3)=0):=by
 cases a<;>cases t<;>cases c<;>decide
theorem zq22{p:Prop}(h:p:=by exact zHa (by simp only;decide) (by simp only;decide) (by rw[h4];simp only;omega) (by rw[h4];simp only;omega)):p:=h
theorem zq29{p:Prop}(h:p:=by exact zHa (by simp only;decide) (by simp only;decide) (by rw[h8];simp only;omega) (by rw[h8];simp only;omega)):p:=h
theorem BatS.fitsAll{b:BatS}(h:zAl b=0)(hR:b.R)(s:Int)(hs:0≤s∧s≤4294967295)(hz:b.rowsB.length≤1000000)(hn:b.recs.length≤1000000):FitsAll (b.pre s).items:=by
 obtain⟨p1,p2,p3,p4⟩:=zDm h;have q1:=of_decide_eq_true p1;obtain⟨q2,q3,q4⟩:=zNj p3;obtain⟨r1,r2,r3,r4,r5,r6,r7,r8⟩:=hR;unfold Rn at r1 r2 r3 r4 r5 r6 r7 r8;have qa:=(zFq b.app b.txn b.ctl).1;have h8:half 8=9223372036854775808:=by decide
 have h4:half 4=2147483648:=by decide
 have h2:half 2=32768:=by decide
 have h1:half 1=128:=by decide
 intro x hx;simp only[PreS.items,BatS.pre,List.mem_cons,List.not_mem_nil,or_false]at hx
 rcases hx with rfl|rfl|rfl|rfl|rfl|rfl|rfl|rfl|rfl|rfl|rfl|rfl|rfl
 ·exact zq29
 ·exact zq22
 ·exact zq22
 ·exact zHa (by simp only;decide) (by simp only;decide) (by rw[h1];simp only;omega) (by rw[h1];simp only;omega)
 ·exact zFr s oM oM
 ·exact zHa (by simp only;decide) (by simp only;decide) (by rw[h2];simp only;omega) (by rw[h2];simp only;omega)
 ·exact zq22
 ·exact zq29
 ·exact zq29
 ·exact zq29
 ·exact zHa (by simp only;decide) (by simp only;decide) (by rw[h2];simp only;omega) (by rw[h2];simp only;omega)
 ·exact zq22
 ·exact zq22
theorem BatS.pre_R{b:BatS}(h:zAl b=0)(hR:b.R)(s:Int)(hs:0≤s∧s≤4294967295)(hz:b.rowsB.length≤1000000)(hn:b.recs.length≤1000000):(b.pre s).R:=by
 have qa:=(zFq b.app b.txn b.ctl).1;obtain⟨r1,r2,r3,r4,r5,r6,r7,r8⟩:=hR;unfold Rn at r1 r2 r3 r4 r5 r6 r7 r8;intro n hn;simp only[PreS.list,BatS.pre,List.mem_cons,List.not_mem_nil,or_false]at hn
 rcases hn with rfl|rfl|rfl|rfl|rfl|rfl|rfl|rfl|rfl|rfl|rfl|rfl<;>omega
theorem zMo:∀(rs:List RecS) (rows:Bs) (pos:Nat),pos≤rows.length→rows.drop pos=rs.flatMap encR→(∀x∈rs,x.R∧zBc x=0∧x.sum≤1000000)→unp rs.length ⟨rows,pos,0⟩=.ok rs
 |[],rows,pos,hp,hd,_=>by
  have hz:rows.length - pos=0:=by rw[←List.length_drop,hd];rfl
  show(if (⟨rows,pos,0⟩:InS).left=0 then Except.ok []else Except.error (10:Int))=Except.ok []
  rw[if_pos (by simp only[InS.left];exact hz)]
 |x::t,rows,pos,hp,hd,hx=>by
  obtain⟨hR,ho,hs⟩:=hx x (by simp);rw[List.flatMap_cons]at hd;have hr:=zNA x hR ho hs (t.flatMap encR);rw[←hd]at hr;obtain⟨hpm,hf⟩:=zDu.ok rows pos x _ hp hr;have hpos:=(zCX hr).2.2.2.2.1
  show(if (⟨rows,pos,0⟩:InS).left=0 then Except.error (10:Int)else if (⟨rows,pos,0⟩:InS).record.2.err=0 then zEF (⟨rows,pos,0⟩:InS).record.1 (unp t.length (⟨rows,pos,0⟩:InS).record.2)else Except.error (⟨rows,pos,0⟩:InS).record.2.err)=Except.ok (x::t)
  rw[if_neg (by simp only[InS.left];omega),hf];simp only[if_true];rw[zMo t rows _ hpm (by rw[←List.drop_drop,hd,List.drop_left]) (fun y hy=>hx y (by simp[hy]))]
  rfl
theorem zPI{b:BatS}(h:zAl b=0)(hf:∀x∈b.recs,x.R∧zBc x=0∧x.sum≤1000000):asmB (b.pre b.crc) (zAo (b.pre b.crc).items) b.rowsB=.ok b:=by
 obtain⟨_,p2,_,_⟩:=zDm h;obtain⟨_,a3,a4,a5,a6⟩:=zFq b.app b.txn b.ctl;have hu:=zMo b.recs b.rowsB 0 (Nat.zero_le _) rfl hf;unfold asmB;rw[b.pre_drop];have e1:((zAm 0#32 (b.back++b.rowsB)).toNat:Int)=(b.pre b.crc).sum:=rfl;have e2:(b.pre b.crc).attr=zA7 b.app b.txn b.ctl 3:=rfl;have e3:(b.pre b.crc).count.toNat=b.recs.length:=rfl;rw[if_neg (fun hh=>hh e1),e2,if_neg (fun hh=>hh (a6 p2)),e3,hu];simp only[a3,a4,a5];obtain⟨base,leader,app,txn,ctl,last,first,maxt,prod,epoch,sq,rs⟩:=b;exact if_pos h
theorem zNC{b:BatS}(h:zAl b=0)(hR:b.R)(hf:∀x∈b.recs,x.R∧zBc x=0∧x.sum≤1000000)(hz:b.rowsB.length≤1000000)(hn:b.recs.length≤1000000)(t:Bs):zBd (b.enc++t)=.ok (b,b.enc.length):=by
 have hc:=b.crc_lt;have hfa:=BatS.fitsAll h hR b.crc oM hz hn;have hp:=zJ5 (b.pre b.crc) hfa (show(49:Int)≤49+(b.rowsB.length:Int) by omega) (show(0:Int)≤(b.recs.length:Int) by omega) (b.rowsB++t);rw[←List.append_assoc]at hp;have hle:b.enc.length=61+b.rowsB.length:=by unfold BatS.enc;rw[List.length_append,zBq]
 have hl:((b.pre b.crc).len - 49).toNat=b.rowsB.length:=by show((49+(b.rowsB.length:Int)) - 49).toNat=_;omega
 unfold zBd;have hp2:zBu (b.enc++t)=.ok (b.pre b.crc):=hp;rw[hp2];simp only;rw[hl,if_neg (by rw[List.length_append,hle];omega)]
 have t1:(b.enc++t).take 61=zAo (b.pre b.crc).items:=by
  unfold BatS.enc;rw[List.append_assoc,List.take_left' (zBq _)]
 have t2:((b.enc++t).drop 61).take b.rowsB.length=b.rowsB:=by
  unfold BatS.enc;rw[List.append_assoc,List.drop_left' (zBq _),List.take_left]
 rw[t1,t2,zPI h hf];simp only;rw[hle]
def FitW (l:List (RecS×Value)):Prop:=∀x∈l,x.1.R∧x.1.hdrs.length≤9223372036854775807∧HFit x.1.hdrs∧x.1.key.data.length≤140737488351232∧x.1.val.data.length≤140737488351232
def hAll:List HdrS→Bool
 |[]=>true
 |h::t=>decide (h.key.length+h.val.data.length≤100) && hAll t
def zDJ (x:RecS):Bool:=decide (x.key.data.length+x.val.data.length≤100) && (decide (x.hdrs.length≤6) && hAll x.hdrs)
def rAll:List RecS→Bool
 |[]=>true
 |r::t=>zDJ r && rAll t
def zCy (l:List RecS):Bool:=decide (l.length≤12) && rAll l
theorem zI0:∀(l:List HdrS),hAll l=true→hsum l≤101*l.length
 |[],_=>by simp[hsum]
 |h::t,hh=>by
  simp only[hAll,Bool.and_eq_true,decide_eq_true_eq]at hh;have:=zI0 t hh.2;simp only[hsum,List.length_cons,List.map_cons,List.sum_cons]at*
  omega
theorem zFW:∀(l:List RecS),rAll l=true→∀x∈l,zDJ x=true
 |[],_,_,h=>by cases h
 |r::t,hh,x,hx=>by
  simp only[rAll,Bool.and_eq_true]at hh
  rcases List.mem_cons.1 hx with rfl|hx
  ·exact hh.1
  ·exact zFW t hh.2 x hx
theorem zFt{x:RecS}(h:zDJ x=true):x.sum≤1000:=by
 unfold zDJ at h;simp only[Bool.and_eq_true,decide_eq_true_eq]at h;have:=zI0 _ h.2.2;unfold RecS.sum
 omega
theorem FitW.fit{l:List (RecS×Value)}(h:FitW l)(hs:zCy (l.map (·.1))=true):FitB l:=by
 intro x hx;unfold zCy at hs;simp only[Bool.and_eq_true]at hs;have h1:=zFt (zFW _ hs.2 x.1 (List.mem_map.2 ⟨x,hx,rfl⟩));obtain⟨a,b,c,_⟩:=h x hx;exact⟨a,c,oM⟩
theorem zEW{l:List (RecS×Value)}(hs:zCy (l.map (·.1))=true):l.length≤12:=by
 unfold zCy at hs;simp only[Bool.and_eq_true,decide_eq_true_eq,List.length_map]at hs;exact hs.1
theorem zGk(base leader:Int)(app txn ctl:Bool)(last first maxt prod epoch sq:Int)(l:List (RecS×Value))(q:Option Addr)(cap:Nat)(G:Int)(hG:zE2 first last (l.map (·.1)) (-1) first=.ok G)(hf:0≤first∧first≤9223372036854775807)(hfit:FitB l)(hll:l.length≤1000000){W0 w:World}{K:Know}{L:List Res}(hk:K.has (Know.recs (.slice q l.length cap) l))(h:St W0 w K L):
 Calls Tryz.prog 137 #[.agg #[.int .i64 base,.int .i64 leader,.bool app,.bool txn,.bool ctl,.int .i64 last,.int .i64 first,.int .i64 maxt,.int .i64 prod,.int .i64 epoch,.int .i64 sq,.slice q l.length cap]] w fun en w'=>en=.returned (.int .i64 G)∧St W0 w' K L:=by
 have HT:=hQd hG;have HK:=hQd hk;have HFT:=hQd hfit;have HF:=hQd hf;obtain⟨nf,hnf⟩:∃m,-first=m:=⟨_,rfl⟩;obtain⟨mf,hmf⟩:∃m,9223372036854775807 - first=m:=⟨_,rfl⟩;have HNF:=hQd hnf;have HMF:=hQd hmf;have n1:wrap64 (-first)=nf:=by rw[←hnf];unfold wrap64;omega
 have n2:IntKind.i64.wrap (-first)=nf:=by rw[←hnf];exact IntWalk.i64_in _ oM
 have m1:wrap64 (9223372036854775807 - first)=mf:=by rw[←hmf];unfold wrap64;omega
 have m2:IntKind.i64.wrap (9223372036854775807 - first)=mf:=by rw[←hmf];exact IntWalk.i64_in _ oM
 have h1:=h.allocRaw #[.int .i64 base,.int .i64 leader,.bool app,.bool txn,.bool ctl,.int .i64 last,.int .i64 first,.int .i64 maxt,.int .i64 prod,.int .i64 epoch,.int .i64 sq,.slice q l.length cap] 58;obtain⟨hb,hhb⟩:∃b,w.heap.size=b:=⟨_,rfl⟩;rw[hhb]at h1;obtain⟨x0,x1,x2,x3,x4,x5,x6,x7,x8,x9,x10,x11,y0,y1,y2,y3,y4,y5,y6,y7,y8,y9,y10,y11⟩:=zAe (b:=hb) (h1);have H:=hQd h1;clear h h1 hk hfit hG hnf hmf hf;go_enter Tryz.func137,Tryz.ntmps137;go_wp2;clear x0 y0 x1 y1 x2 y2 x3 y3 x4 y4 x5 y5 x6 y6 x7 y7 x8 y8 x9 y9 x10 y10 x11 y11;go_loopw [3,4,5] (fun gv iv _ wr=>∃(k:Nat) (ah g:Int),k≤l.length∧gv=.int .i64 g∧iv=.int .i64 k∧Hid (zE2 first last ((l.map (·.1)).drop k) ah g=.ok G)∧St W0 wr K (.raw hb #[.int .i64 base,.int .i64 leader,.bool app,.bool txn,.bool ctl,.int .i64 last,.int .i64 first,.int .i64 maxt,.int .i64 prod,.int .i64 epoch,.int .i64 sq,.slice q l.length cap] 58::L)) (fun _ iv _ _=>l.length - (intOf iv).toNat)
 case atStart=>exact⟨0,-1,first,Nat.zero_le _,rfl,rfl,HT,H.out⟩
 case round=>
  obtain⟨k,ah,g,hkl,rfl,rfl,HC,hst⟩:=hrel;clear H;have H:=hQd hst;clear hst;obtain⟨x0,x1,x2,x3,x4,x5,x6,x7,x8,x9,x10,x11,y0,y1,y2,y3,y4,y5,y6,y7,y8,y9,y10,y11⟩:=zAe (b:=hb) (H.out)
  by_cases hlt:k<l.length
  ·have hd:=zCH l k hlt _ rfl;obtain⟨b,off,hqq⟩:=zCB HK.out H.out oM;subst hqq;obtain⟨⟨x,vx⟩,hx⟩:∃x,l[k]=x:=⟨_,rfl⟩;have cc:=zA2 HK.out H.out k hlt (x,vx) hx;have hmem:(x,vx)∈l:=hx ▸ List.getElem_mem hlt;have xf:x.R∧HFit x.hdrs∧x.sum≤1000000:=HFT.out (x,vx) hmem;have xk:K.has (Know.flat RHdr vx 3 x.hdrs):=zBn HK.out hmem;obtain⟨qx,capx,hvx⟩:=zAq xk H.out;subst hvx;simp only at cc;obtain⟨c0,c1,c2,c3,c4,c5,c6⟩:=cc;rw[←Nat.add_assoc]at c1 c2 c3 c4 c5 c6;have hx1:l[k].1=x:=by rw[hx]
   have XF:=hQd xf;have XK:=hQd xk;have HX:=hQd hx1;clear xf xk hx1 hx hmem;have hki:(k:Int)<(l.length:Int):=by omega
   rw[HX.out]at hd;have hc:=HC.out;rw[hd,zE1]at hc
   by_cases c1:x.off≤ah∨last<x.off
   ·rw[if_pos c1]at hc;cases hc
   rw[if_neg c1]at hc
   by_cases c3:x.time< -first∨9223372036854775807 - first<x.time
   ·rw[if_pos c3]at hc;cases hc
   rw[if_neg c3]at hc;have d1:decide (mf<x.time)=false:=by rw[←HMF.out];exact decide_eq_false oM
   have d2:decide (x.time<nf)=false:=by rw[←HNF.out];exact decide_eq_false oM
   obtain⟨ft,hft⟩:∃t,first+x.time=t:=⟨_,rfl⟩;have f1:wrap64 (first+x.time)=ft:=by have:=HF.out;rw[←hft];unfold wrap64;omega
   have f2:IntKind.i64.wrap (first+x.time)=ft:=by have:=HF.out;rw[←hft];exact IntWalk.i64_in _ oM
   rw[hft]at hc
   by_cases c4:g<ft
   ·have d4:decide (g<ft)=true:=decide_eq_true c4;have HC2:=hQd (show zE2 first last ((l.map (·.1)).drop (k+1)) x.off ft=.ok G by rw[Int.max_eq_right oM]at hc;exact hc);clear hd hc c1 c3 c4 hft;go_wp2;go_roundw
    case rel=>exact⟨k+1,x.off,ft,hlt,rfl,by go_num,HC2,H.out⟩
    case measure=>first|(simp[intOf];done)|(simp[intOf];omega)
   ·have d4:decide (g<ft)=false:=decide_eq_false c4;have HC2:=hQd (show zE2 first last ((l.map (·.1)).drop (k+1)) x.off g=.ok G by rw[Int.max_eq_left oM]at hc;exact hc);clear hd hc c1 c3 c4 hft;go_wp2;go_roundw
    case rel=>exact⟨k+1,x.off,g,hlt,rfl,by go_num,HC2,H.out⟩
    case measure=>first|(simp[intOf];done)|(simp[intOf];omega)
  ·obtain rfl:l.length=k:=by omega
   have hc:=HC.out;rw[List.drop_of_length_le (by simp)]at hc;obtain rfl:g=G:=by have hc:Except.ok g=Except.ok G:=hc;cases hc;rfl
   clear hc;go_wp2;go_ret;exact⟨rfl,H.out.drop⟩
def zPM (l:List (RecS×Value)) (k:Nat) (ah:Int):Prop:=(k=0∧ah= -1)∨(∃(j:Nat) (h:j<l.length),k=j+1∧(l[j]'h).1.off=ah∧0≤ah)
theorem zq14{p:Prop}(h:p:=by
  by_cases c3:9223372036854775807 - first<x.time
  · have d3:decide (mf<x.time)=true:=by rw[←HMF.out];exact decide_eq_true c3
    rw[if_pos (.inr c3)]at hc;obtain rfl:11=e:=by have:=HE.out;rw[←hc]at this;exact this
    clear c3 hc;go_wp2;go_ret;exact⟨rfl,H.out.drop⟩
  · have d3:decide (mf<x.time)=false:=by rw[←HMF.out];exact decide_eq_false c3
    by_cases c4:x.time< -first
    · have d4:decide (x.time<nf)=true:=by rw[←HNF.out];exact decide_eq_true c4
      rw[if_pos (.inl c4)]at hc;obtain rfl:11=e:=by have:=HE.out;rw[←hc]at this;exact this
      clear c3 c4 hc;go_wp2;go_ret;exact⟨rfl,H.out.drop⟩
    · have d4:decide (x.time<nf)=false:=by rw[←HNF.out];exact decide_eq_false c4
      rw[if_neg oM]at hc;have HC2:=hQd hc;clear c3 c4 hc;go_wp2;go_roundw
      case rel=>exact⟨k+1,x.off,_,hlt,by go_num,HC2,PR2,H.out⟩
      case measure=>first|(simp[intOf];done)|(simp[intOf];omega)):p:=h
theorem zq26{p:Prop}(h:p:=by
 try simp only[Act.put,sA,sB,sC]
 refine tR 8 ?_;refine tR 9 ?_;refine wpAnyH_done (by kernel_rfl) ?_ _;clear hHeld;go_wp2_with fail;go_ret;exact⟨rfl,hs.drop⟩):p:=h
theorem zFv(base leader:Int)(app txn ctl:Bool)(last first maxt prod epoch sq:Int)(l:List (RecS×Value))(q:Option Addr)(cap:Nat)(e:Int)(he:BatS.rows ⟨base,leader,app,txn,ctl,last,first,maxt,prod,epoch,sq,l.map (·.1)⟩=e)(hf:0≤first∧first≤9223372036854775807)(hfit:FitB l)(hll:l.length≤1000000){W0 w:World}{K:Know}{L:List Res}(hk:K.has (Know.recs (.slice q l.length cap) l))(h:St W0 w K L):
 Calls Tryz.prog 104 #[.agg #[.int .i64 base,.int .i64 leader,.bool app,.bool txn,.bool ctl,.int .i64 last,.int .i64 first,.int .i64 maxt,.int .i64 prod,.int .i64 epoch,.int .i64 sq,.slice q l.length cap]] w fun en w'=>en=.returned (.int .i64 e)∧St W0 w' K L:=by
 obtain⟨tot,htot⟩:∃t,zE2 first last (l.map (·.1)) (-1) first=t:=⟨_,rfl⟩;have HE:=hQd (show zOp app maxt tot=e by rw[←he,←htot];rfl);have HT:=hQd htot;have HLL:=hQd hll;have HK:=hQd hk;have HFT:=hQd hfit;have HF:=hQd hf;obtain⟨nf,hnf⟩:∃m,-first=m:=⟨_,rfl⟩;obtain⟨mf,hmf⟩:∃m,9223372036854775807 - first=m:=⟨_,rfl⟩;have HNF:=hQd hnf;have HMF:=hQd hmf;have n1:wrap64 (-first)=nf:=by rw[←hnf];unfold wrap64;omega
 have n2:IntKind.i64.wrap (-first)=nf:=by rw[←hnf];exact IntWalk.i64_in _ oM
 have m1:wrap64 (9223372036854775807 - first)=mf:=by rw[←hmf];unfold wrap64;omega
 have m2:IntKind.i64.wrap (9223372036854775807 - first)=mf:=by rw[←hmf];exact IntWalk.i64_in _ oM
 have h1:=h.allocRaw #[.int .i64 base,.int .i64 leader,.bool app,.bool txn,.bool ctl,.int .i64 last,.int .i64 first,.int .i64 maxt,.int .i64 prod,.int .i64 epoch,.int .i64 sq,.slice q l.length cap] 58;obtain⟨hb,hhb⟩:∃b,w.heap.size=b:=⟨_,rfl⟩;rw[hhb]at h1;obtain⟨x0,x1,x2,x3,x4,x5,x6,x7,x8,x9,x10,x11,y0,y1,y2,y3,y4,y5,y6,y7,y8,y9,y10,y11⟩:=zAe (b:=hb) (h1);have H:=hQd h1;have HP:=hQd (show zPM l 0 (-1)from .inl ⟨rfl,rfl⟩);clear h h1 hk hfit he htot hnf hmf hf;go_enter Tryz.func104,Tryz.ntmps104;go_wp2;clear x0 y0 x1 y1 x2 y2 x3 y3 x4 y4 x5 y5 x6 y6 x7 y7 x8 y8 x9 y9 x10 y10 x11 y11;go_loopw [3,4,5] (fun iv _ _ wr=>∃(k:Nat) (ah g:Int),k≤l.length∧iv=.int .i64 k∧Hid (zE2 first last ((l.map (·.1)).drop k) ah g=tot)∧Hid (zPM l k ah)∧St W0 wr K (.raw hb #[.int .i64 base,.int .i64 leader,.bool app,.bool txn,.bool ctl,.int .i64 last,.int .i64 first,.int .i64 maxt,.int .i64 prod,.int .i64 epoch,.int .i64 sq,.slice q l.length cap] 58::L)) (fun iv _ _ _=>l.length - (intOf iv).toNat)
 case atStart=>exact⟨0,-1,first,Nat.zero_le _,rfl,HT,HP,H.out⟩
 case round=>
  obtain⟨k,ah,g,hkl,rfl,HC,PR,hst⟩:=hrel;clear H;have H:=hQd hst;clear hst;obtain⟨x0,x1,x2,x3,x4,x5,x6,x7,x8,x9,x10,x11,y0,y1,y2,y3,y4,y5,y6,y7,y8,y9,y10,y11⟩:=zAe (b:=hb) (H.out)
  by_cases hlt:k<l.length
  ·have hd:=zCH l k hlt _ rfl;obtain⟨b,off,hqq⟩:=zCB HK.out H.out oM;subst hqq;obtain⟨⟨x,vx⟩,hx⟩:∃x,l[k]=x:=⟨_,rfl⟩;have cc:=zA2 HK.out H.out k hlt (x,vx) hx;have hmem:(x,vx)∈l:=hx ▸ List.getElem_mem hlt;have xf:x.R∧HFit x.hdrs∧x.sum≤1000000:=HFT.out (x,vx) hmem;have xk:K.has (Know.flat RHdr vx 3 x.hdrs):=zBn HK.out hmem;obtain⟨qx,capx,hvx⟩:=zAq xk H.out;subst hvx;simp only at cc;obtain⟨c0,c1,c2,c3,c4,c5,c6⟩:=cc;rw[←Nat.add_assoc]at c1 c2 c3 c4 c5 c6;have hx1:l[k].1=x:=by rw[hx]
   have XF:=hQd xf;have XK:=hQd xk;have HX:=hQd hx1;clear xf xk hx1 hx hmem;have hki:(k:Int)<(l.length:Int):=by omega
   rw[HX.out]at hd;have hc:=HC.out;rw[hd,zE1]at hc;clear hd
   by_cases c2:last<x.off
   ·have d2:decide (last<x.off)=true:=decide_eq_true c2;rw[if_pos (.inr c2)]at hc;clear c2;obtain rfl:13=e:=by have:=HE.out;rw[←hc]at this;exact this
    go_wp2;go_ret;exact⟨rfl,H.out.drop⟩
   ·have d2:decide (last<x.off)=false:=decide_eq_false c2;have PR2:=hQd (show 0≤x.off→zPM l (k+1) x.off from fun h0=> .inr ⟨k,hlt,rfl,by rw[HX.out],h0⟩)
    rcases PR.out with ⟨hk0,rfl⟩|⟨j,hj,hk1,hjo,ha0⟩
    ·have dk:decide ((0:Int)<(k:Int))=false:=decide_eq_false oM;have dk2:decide (0<k)=false:=decide_eq_false oM;clear hk0
     by_cases c5:x.off<0
     ·have d5:decide (x.off<0)=true:=decide_eq_true c5;rw[if_pos (.inl oM)]at hc;clear c2 c5;obtain rfl:13=e:=by have:=HE.out;rw[←hc]at this;exact this
      go_wp2;go_ret;exact⟨rfl,H.out.drop⟩
     ·have d5:decide (x.off<0)=false:=decide_eq_false c5;rw[if_neg oM]at hc;replace PR2:=hQd (PR2.out oM);clear c2 c5
      exact zq14
    ·have dk:decide ((0:Int)<(k:Int))=true:=decide_eq_true oM;have dk2:decide (0<k)=true:=decide_eq_true oM;have kj:(k:Int) - 1=(j:Int):=by omega
     obtain⟨⟨y,vy⟩,hy⟩:∃y,l[j]=y:=⟨_,rfl⟩;have cy:=zA2 HK.out H.out j hj (y,vy) hy;rw[hy]at hjo;simp only at cy hjo;obtain⟨_,g1,_⟩:=cy;rw[←Nat.add_assoc,hjo]at g1;have hjl:(j:Int)<(l.length:Int):=by omega
     have hj0:(0:Int)≤(j:Int):=by omega
     clear hy hk1 hj
     by_cases c1:x.off≤ah
     ·have d1:decide (x.off≤ah)=true:=decide_eq_true c1;rw[if_pos (.inl c1)]at hc;clear c1 c2;obtain rfl:13=e:=by have:=HE.out;rw[←hc]at this;exact this
      go_wp2;go_ret;exact⟨rfl,H.out.drop⟩
     ·have d1:decide (x.off≤ah)=false:=decide_eq_false c1;have d5:decide (x.off<0)=false:=decide_eq_false oM;rw[if_neg oM]at hc;replace PR2:=hQd (PR2.out oM);clear c1 c2
      exact zq14
  ·obtain rfl:l.length=k:=by omega
   have hc:=HC.out;rw[List.drop_of_length_le (by simp)]at hc;obtain rfl:Except.ok g=tot:=hc;have hee:=HE.out;simp only[zOp]at hee
   cases app with
   |true=>
    obtain rfl:0=e:=by rw[←hee];rfl
    clear hee;go_upto_region 10 with (fail);have hs:=H.out.drew;refine wp_region_held_drew (S:=fun w'=>w'.cell? ⟨hb,0,none⟩=some (.int .i64 base)∧w'.cell? ⟨hb,1,none⟩=some (.int .i64 leader)∧w'.cell? ⟨hb,2,none⟩=some (.bool true)∧w'.cell? ⟨hb,3,none⟩=some (.bool txn)∧w'.cell? ⟨hb,4,none⟩=some (.bool ctl)∧w'.cell? ⟨hb,5,none⟩=some (.int .i64 last)∧w'.cell? ⟨hb,6,none⟩=some (.int .i64 first)∧w'.cell? ⟨hb,7,none⟩=some (.int .i64 maxt)∧w'.cell? ⟨hb,8,none⟩=some (.int .i64 prod)∧w'.cell? ⟨hb,9,none⟩=some (.int .i64 epoch)∧w'.cell? ⟨hb,10,none⟩=some (.int .i64 sq)∧w'.cell? ⟨hb,11,none⟩=some (.slice q l.length cap)) (by kernel_rfl) (let ⟨x0,x1,x2,x3,x4,x5,x6,x7,x8,x9,x10,x11,_⟩:=zAe (b:=hb) hs;⟨x0,x1,x2,x3,x4,x5,x6,x7,x8,x9,x10,x11⟩) (fun hHeld=> ?_);refine tR 0 ?_;refine tR 1 ?_;refine tR 2 ?_;refine tR 3 ?_;refine wpAnyH_take (i:=4) (oi:=⟨some 64,.load 58 (.tmp 1),58,_,_,some (3,true)⟩) (v:=undef) rfl (by kernel_rfl) (by kernel_rfl) (by kernel_rfl) (fun _ _ _ h=>h) (Or.inr ⟨by rfl,rfl⟩) (by assumption) ?_;simp only[Act.put,sA,sB,sC];refine wpAnyH_take (i:=5) (oi:=⟨some 65,.call {callee:=.value (.func 137),args:= #[.tmp 64],argTypes:= #[58]},3,_,_,some (3,true)⟩) (v:=undef) rfl (by kernel_rfl) (by kernel_rfl) (by kernel_rfl) (fun _ _ _ h=>h) (Or.inr ⟨by rfl,rfl⟩) (by assumption) ?_;simp only[Act.put,sA,sB,sC];refine wpAnyH_take (i:=6) (oi:=⟨some 66,.fieldAddr 58 (.tmp 1) 7,0,_,_,some (3,true)⟩) (v:=undef) rfl (by kernel_rfl) (by kernel_rfl) (by kernel_rfl) (fun _ _ _ h=>h) (Or.inr ⟨by rfl,rfl⟩) (by assumption) ?_;simp only[Act.put,sA,sB,sC];refine wpAnyH_take (i:=7) (oi:=⟨some 67,.load 3 (.tmp 66),3,_,_,some (3,true)⟩) (v:=undef) rfl (by kernel_rfl) (by kernel_rfl) (by kernel_rfl) (fun _ _ _ h=>h) (Or.inr ⟨by rfl,rfl⟩) (by assumption) ?_;simp only[Act.put,sA,sB,sC];refine wpAnyH_take (i:=8) (oi:=⟨some 68,.binOp .neq 3 (.tmp 65) (.tmp 67) 3,4,_,_,some (3,true)⟩) (v:=undef) rfl (by kernel_rfl) (by kernel_rfl) (by kernel_rfl) (fun _ _ _ h=>h) (Or.inr ⟨by rfl,rfl⟩) (by assumption) ?_;simp only[Act.put,sA,sB,sC];refine tR 9 ?_;refine wpAnyH_done (by kernel_rfl) ?_ _;clear hHeld;go_wp2_with fail;go_ret;exact⟨rfl,hs.drop⟩
   |false=>
    have HG:=hQd (show zE2 first last (l.map (·.1)) (-1) first=.ok g from HT.out)
    by_cases c1:maxt=g
    ·subst c1;obtain rfl:0=e:=by rw[←hee];simp
     clear hee;go_upto_region 10 with (fail);have hs:=H.out.drew;refine wp_region_held_drew (S:=fun w'=>w'.cell? ⟨hb,0,none⟩=some (.int .i64 base)∧w'.cell? ⟨hb,1,none⟩=some (.int .i64 leader)∧w'.cell? ⟨hb,2,none⟩=some (.bool false)∧w'.cell? ⟨hb,3,none⟩=some (.bool txn)∧w'.cell? ⟨hb,4,none⟩=some (.bool ctl)∧w'.cell? ⟨hb,5,none⟩=some (.int .i64 last)∧w'.cell? ⟨hb,6,none⟩=some (.int .i64 first)∧w'.cell? ⟨hb,7,none⟩=some (.int .i64 maxt)∧w'.cell? ⟨hb,8,none⟩=some (.int .i64 prod)∧w'.cell? ⟨hb,9,none⟩=some (.int .i64 epoch)∧w'.cell? ⟨hb,10,none⟩=some (.int .i64 sq)∧w'.cell? ⟨hb,11,none⟩=some (.slice q l.length cap)) (by kernel_rfl) (let ⟨x0,x1,x2,x3,x4,x5,x6,x7,x8,x9,x10,x11,_⟩:=zAe (b:=hb) hs;⟨x0,x1,x2,x3,x4,x5,x6,x7,x8,x9,x10,x11⟩) (fun hHeld=> ?_);refine tR 0 ?_;refine tR 1 ?_;refine tR 2 ?_;refine tR 3 ?_;refine tR 4 ?_;refine tR 6 ?_;refine tR 7 ?_;refine wR [5] (rC rfl (fun KK hK=> ?_) rN);go_simp;go_at_call 137;with_reducible refine(zGk base leader false txn ctl last first maxt prod epoch sq l _ _ _ HG.out HF.out HFT.out HLL.out HK.out hs).mono ?_;rintro e wq ⟨rfl,hs⟩;refine hK.out _ _ (let ⟨x0,x1,x2,x3,x4,x5,x6,x7,x8,x9,x10,x11,_⟩:=zAe (b:=hb) hs;⟨x0,x1,x2,x3,x4,x5,x6,x7,x8,x9,x10,x11⟩) (fun hHeld=> ?_);clear hK KK
     exact zq26
    ·obtain rfl:11=e:=by rw[←hee];simp[c1]
     have b1:(g==maxt)=false:=by rw[beq_eq_false_iff_ne];exact fun h=>c1 h.symm
     have b2:(g !=maxt)=true:=by simp[bne,b1]
     clear hee c1;go_upto_region 10 with (fail);have hs:=H.out.drew;refine wp_region_held_drew (S:=fun w'=>w'.cell? ⟨hb,0,none⟩=some (.int .i64 base)∧w'.cell? ⟨hb,1,none⟩=some (.int .i64 leader)∧w'.cell? ⟨hb,2,none⟩=some (.bool false)∧w'.cell? ⟨hb,3,none⟩=some (.bool txn)∧w'.cell? ⟨hb,4,none⟩=some (.bool ctl)∧w'.cell? ⟨hb,5,none⟩=some (.int .i64 last)∧w'.cell? ⟨hb,6,none⟩=some (.int .i64 first)∧w'.cell? ⟨hb,7,none⟩=some (.int .i64 maxt)∧w'.cell? ⟨hb,8,none⟩=some (.int .i64 prod)∧w'.cell? ⟨hb,9,none⟩=some (.int .i64 epoch)∧w'.cell? ⟨hb,10,none⟩=some (.int .i64 sq)∧w'.cell? ⟨hb,11,none⟩=some (.slice q l.length cap)) (by kernel_rfl) (let ⟨x0,x1,x2,x3,x4,x5,x6,x7,x8,x9,x10,x11,_⟩:=zAe (b:=hb) hs;⟨x0,x1,x2,x3,x4,x5,x6,x7,x8,x9,x10,x11⟩) (fun hHeld=> ?_);refine tR 0 ?_;refine tR 1 ?_;refine tR 2 ?_;refine tR 3 ?_;refine tR 4 ?_;refine tR 6 ?_;refine tR 7 ?_;refine wR [5] (rC rfl (fun KK hK=> ?_) rN);go_simp;go_at_call 137;with_reducible refine(zGk base leader false txn ctl last first maxt prod epoch sq l _ _ _ HG.out HF.out HFT.out HLL.out HK.out hs).mono ?_;rintro e wq ⟨rfl,hs⟩;refine hK.out _ _ (let ⟨x0,x1,x2,x3,x4,x5,x6,x7,x8,x9,x10,x11,_⟩:=zAe (b:=hb) hs;⟨x0,x1,x2,x3,x4,x5,x6,x7,x8,x9,x10,x11⟩) (fun hHeld=> ?_);clear hK KK
     exact zq26
variable {W0 w:World}{K:Know}{L:List Res}
theorem zAn(n lo:Int)(r:Bool)(hr:decide (lo≤n∧n≤2147483647)=r)(h:St W0 w K L):
 Calls Tryz.prog 100 #[.int .i64 n,.int .i64 lo] w fun en w'=>en=.returned (.bool r)∧St W0 w' K L:=by
 have H:=hQd h;clear h
 by_cases h1:lo≤n
 ·have d1:decide (lo≤n)=true:=decide_eq_true h1
  by_cases h2:n≤2147483647
  ·have d2:decide (n≤2147483647)=true:=decide_eq_true h2;obtain rfl:true=r:=(decide_eq_true ⟨h1,h2⟩).symm.trans hr;clear h1 h2;go_enter Tryz.func100,Tryz.ntmps100;go_wp2;go_ret;exact⟨rfl,H.out⟩
  ·have d2:decide (n≤2147483647)=false:=decide_eq_false h2;obtain rfl:false=r:=(decide_eq_false (fun x=>h2 x.2)).symm.trans hr;clear h1 h2;go_enter Tryz.func100,Tryz.ntmps100;go_wp2;go_ret;exact⟨rfl,H.out⟩
 ·have d1:decide (lo≤n)=false:=decide_eq_false h1;obtain rfl:false=r:=(decide_eq_false (fun x=>h1 x.1)).symm.trans hr;clear h1;go_enter Tryz.func100,Tryz.ntmps100;go_wp2;go_ret;exact⟨rfl,H.out⟩
theorem zBA(base leader:Int)(app txn ctl:Bool)(last first maxt prod epoch sq:Int)(rv:Value)(r:Bool)(hr:(if prod= -1 then decide (epoch= -1∧sq= -1∧txn=false)else if prod<0∨¬(0≤epoch∧epoch≤32767)then false else if ctl then decide (sq= -1)else decide (0≤sq∧sq≤2147483647))=r)(h:St W0 w K L):
 Calls Tryz.prog 101 #[.agg #[.int .i64 base,.int .i64 leader,.bool app,.bool txn,.bool ctl,.int .i64 last,.int .i64 first,.int .i64 maxt,.int .i64 prod,.int .i64 epoch,.int .i64 sq,rv]] w fun en w'=>en=.returned (.bool r)∧St W0 w' K L:=by
 have h1:=h.allocRaw #[.int .i64 base,.int .i64 leader,.bool app,.bool txn,.bool ctl,.int .i64 last,.int .i64 first,.int .i64 maxt,.int .i64 prod,.int .i64 epoch,.int .i64 sq,rv] 58;obtain⟨hb,hhb⟩:∃b,w.heap.size=b:=⟨_,rfl⟩;rw[hhb]at h1;obtain⟨x0,x1,x2,x3,x4,x5,x6,x7,x8,x9,x10,x11,y0,y1,y2,y3,y4,y5,y6,y7,y8,y9,y10,y11⟩:=zAe (b:=hb) (h1);have H:=hQd h1;clear h h1
 by_cases c0:prod= -1
 ·rw[if_pos c0]at hr;subst c0
  by_cases c1:epoch= -1
  ·subst c1
   by_cases c2:sq= -1
   ·subst c2;obtain rfl:(!txn)=r:=by rw[←hr];cases txn<;>rfl
    clear hr;go_enter Tryz.func101,Tryz.ntmps101;go_wp2;go_ret;exact⟨rfl,H.out.drop⟩
   ·obtain rfl:false=r:=by rw[←hr];exact(decide_eq_false (fun x=>c2 x.2.1)).symm
    have b2:(sq== -1)=false:=by rw[beq_eq_false_iff_ne];exact c2
    clear hr c2;go_enter Tryz.func101,Tryz.ntmps101;go_wp2;go_ret;exact⟨rfl,H.out.drop⟩
  ·obtain rfl:false=r:=by rw[←hr];exact(decide_eq_false (fun x=>c1 x.1)).symm
   have b1:(epoch== -1)=false:=by rw[beq_eq_false_iff_ne];exact c1
   clear hr c1;go_enter Tryz.func101,Tryz.ntmps101;go_wp2;go_ret;exact⟨rfl,H.out.drop⟩
 ·rw[if_neg c0]at hr;have b0:(prod== -1)=false:=by rw[beq_eq_false_iff_ne];exact c0
  by_cases c1:prod<0
  ·rw[if_pos (.inl c1)]at hr;subst hr;have d1:decide (prod<0)=true:=decide_eq_true c1;clear c0 c1;go_enter Tryz.func101,Tryz.ntmps101;go_wp2;go_ret;exact⟨rfl,H.out.drop⟩
  ·have d1:decide (prod<0)=false:=decide_eq_false c1
   by_cases c2:epoch<0
   ·rw[if_pos (.inr oM)]at hr;subst hr;have d2:decide (epoch<0)=true:=decide_eq_true c2;clear c0 c1 c2;go_enter Tryz.func101,Tryz.ntmps101;go_wp2;go_ret;exact⟨rfl,H.out.drop⟩
   ·have d2:decide (epoch<0)=false:=decide_eq_false c2
    by_cases c3:32767<epoch
    ·rw[if_pos (.inr oM)]at hr;subst hr;have d3:decide ((32767:Int)<epoch)=true:=decide_eq_true c3;clear c0 c1 c2 c3;go_enter Tryz.func101,Tryz.ntmps101;go_wp2;go_ret;exact⟨rfl,H.out.drop⟩
    ·have d3:decide ((32767:Int)<epoch)=false:=decide_eq_false c3;rw[if_neg (by rintro(x|x);exact c1 x;exact x oM)]at hr;clear c0 c1 c2 c3
     cases ctl with
     |true=>
      obtain rfl:(sq== -1)=r:=by rw[←hr];rfl
      clear hr;go_enter Tryz.func101,Tryz.ntmps101;go_wp2;go_ret;exact⟨rfl,H.out.drop⟩
     |false=>
      have HS:=hQd (show decide (0≤sq∧sq≤2147483647)=r from hr);clear hr;go_enter Tryz.func101,Tryz.ntmps101;go_wp2_with (go_at_call 100;(with_reducible refine(zAn sq 0 _ HS.out H.out).zM ?_);clear H;intro wn H;obtain⟨x0,x1,x2,x3,x4,x5,x6,x7,x8,x9,x10,x11,y0,y1,y2,y3,y4,y5,y6,y7,y8,y9,y10,y11⟩:=zAe (b:=hb) (H.out));go_ret;exact⟨rfl,H.out.drop⟩
theorem zq9{p:Prop}(h:p:=by
  have hd:=zCH l k hlt _ rfl;obtain⟨b,off,hqq⟩:=zCB HK.out H.out oM;subst hqq;obtain⟨⟨x,vx⟩,hx⟩:∃x,l[k]=x:=⟨_,rfl⟩;have cc:=zA2 HK.out H.out k hlt (x,vx) hx;have hmem:(x,vx)∈l:=hx ▸ List.getElem_mem hlt;have xf:x.R∧HFit x.hdrs∧x.sum≤1000000:=HFT.out (x,vx) hmem;have xk:K.has (Know.flat RHdr vx 3 x.hdrs):=zBn HK.out hmem;obtain⟨qx,capx,hvx⟩:=zAq xk H.out;subst hvx;simp only at cc;obtain⟨c0,c1,c2,c3,c4,c5,c6⟩:=cc;rw[←Nat.add_assoc]at c1 c2 c3 c4 c5 c6;have hx1:l[k].1=x:=by rw[hx]
  have XF:=hQd xf;have XK:=hQd xk;have HX:=hQd hx1;clear xf xk hx1 hx hmem;have hki:(k:Int)<(l.length:Int):=by omega
  rw[HX.out]at hd;have hc:=HC.out;rw[hd]at hc;have hc:(if zBc x=0 then zCW ((l.map (·.1)).drop (k+1))else zBc x)=tot:=hc;have XL:=hQd (show x.hdrs.length≤9223372036854775807 by have:=zIm XF.out.2.2;omega);clear hd
  by_cases c1:zBc x=0
  · rw[if_pos c1]at hc;have HC2:=hQd hc;have ER:=hQd c1;clear hc c1;go_wp2_with (go_at_call 102;(with_reducible refine(zGw x (.slice qx x.hdrs.length capx) _ ER.out XL.out XK.out H.out).zM ?_);clear H;intro wn H;obtain⟨x0,x1,x2,x3,x4,x5,x6,x7,x8,x9,x10,x11,y0,y1,y2,y3,y4,y5,y6,y7,y8,y9,y10,y11⟩:=zAe (b:=hb) (H.out));go_roundw
    case rel=>exact⟨k+1,hlt,by go_num,HC2.out,H.out⟩
    case measure=>first|(simp[intOf];done)|(simp[intOf];omega)
  · rw[if_neg c1]at hc;have ER:=hQd hc;have gz:(tot==0)=false:=by rw[beq_eq_false_iff_ne,←hc];exact c1
    obtain rfl:tot=e:=HTE.out (by rw[←hc];exact c1);clear hc c1;go_wp2_with (go_at_call 102;(with_reducible refine(zGw x (.slice qx x.hdrs.length capx) _ ER.out XL.out XK.out H.out).zM ?_);clear H;intro wn H;obtain⟨x0,x1,x2,x3,x4,x5,x6,x7,x8,x9,x10,x11,y0,y1,y2,y3,y4,y5,y6,y7,y8,y9,y10,y11⟩:=zAe (b:=hb) (H.out));go_ret;exact⟨rfl,H.out.drop⟩):p:=h
theorem zBZ(base leader:Int)(app txn ctl:Bool)(last first maxt prod epoch sq:Int)(l:List (RecS×Value))(q:Option Addr)(cap:Nat)(e:Int)(he:zAl ⟨base,leader,app,txn,ctl,last,first,maxt,prod,epoch,sq,l.map (·.1)⟩=e)(hmx:first≤9223372036854775807)(hb0:Rn base)(hfit:FitB l)(hll:l.length≤1000000){W0 w:World}{K:Know}{L:List Res}(hk:K.has (Know.recs (.slice q l.length cap) l))(h:St W0 w K L):
    Calls Tryz.prog 71 #[.agg #[.int .i64 base,.int .i64 leader,.bool app,.bool txn,.bool ctl,.int .i64 last,.int .i64 first,.int .i64 maxt,.int .i64 prod,.int .i64 epoch,.int .i64 sq,.slice q l.length cap]] w fun en w'=>en=.returned (.int .i64 e)∧St W0 w' K L:=by
  have HK:=hQd hk;have HFT:=hQd hfit;have HLL:=hQd hll;unfold Rn at hb0;have h1:=h.allocRaw #[.int .i64 base,.int .i64 leader,.bool app,.bool txn,.bool ctl,.int .i64 last,.int .i64 first,.int .i64 maxt,.int .i64 prod,.int .i64 epoch,.int .i64 sq,.slice q l.length cap] 58;obtain⟨hb,hhb⟩:∃b,w.heap.size=b:=⟨_,rfl⟩;rw[hhb]at h1;obtain⟨x0,x1,x2,x3,x4,x5,x6,x7,x8,x9,x10,x11,y0,y1,y2,y3,y4,y5,y6,y7,y8,y9,y10,y11⟩:=zAe (b:=hb) (h1);have H:=hQd h1;clear h h1 hk hfit;unfold zAl at he;simp only[List.length_map]at he
  by_cases p1:BatS.placed ⟨base,leader,app,txn,ctl,last,first,maxt,prod,epoch,sq,l.map (·.1)⟩=false
  · rw[if_pos p1]at he;subst he
    by_cases g0:0≤base
    case neg=>
      have d0:decide (base<0)=true:=decide_eq_true oM;clear g0;clear p1 hmx hll hb0;go_enter Tryz.func71,Tryz.ntmps71
      go_wp2_with (first
    |(go_at_call 100;(with_reducible refine(zAn leader (-1) _ HW1.out H.out).zM ?_);clear H;intro wn H;obtain⟨x0,x1,x2,x3,x4,x5,x6,x7,x8,x9,x10,x11,y0,y1,y2,y3,y4,y5,y6,y7,y8,y9,y10,y11⟩:=zAe (b:=hb) (H.out))
    |(go_at_call 100;(with_reducible refine(zAn last 0 _ HW2.out H.out).zM ?_);clear H;intro wn H;obtain⟨x0,x1,x2,x3,x4,x5,x6,x7,x8,x9,x10,x11,y0,y1,y2,y3,y4,y5,y6,y7,y8,y9,y10,y11⟩:=zAe (b:=hb) (H.out)))
      go_ret;exact⟨rfl,H.out.drop⟩
    by_cases g1: -1≤leader∧leader≤2147483647
    case neg=>
      have d0:decide (base<0)=false:=decide_eq_false oM;have HW1:=hQd (show decide (-1≤leader∧leader≤2147483647)=false from decide_eq_false g1);clear g0 g1;clear p1 hmx hll hb0;go_enter Tryz.func71,Tryz.ntmps71
      go_wp2_with (first
    |(go_at_call 100;(with_reducible refine(zAn leader (-1) _ HW1.out H.out).zM ?_);clear H;intro wn H;obtain⟨x0,x1,x2,x3,x4,x5,x6,x7,x8,x9,x10,x11,y0,y1,y2,y3,y4,y5,y6,y7,y8,y9,y10,y11⟩:=zAe (b:=hb) (H.out))
    |(go_at_call 100;(with_reducible refine(zAn last 0 _ HW2.out H.out).zM ?_);clear H;intro wn H;obtain⟨x0,x1,x2,x3,x4,x5,x6,x7,x8,x9,x10,x11,y0,y1,y2,y3,y4,y5,y6,y7,y8,y9,y10,y11⟩:=zAe (b:=hb) (H.out)))
      go_ret;exact⟨rfl,H.out.drop⟩
    by_cases g2:0≤last∧last≤2147483647
    case neg=>
      have d0:decide (base<0)=false:=decide_eq_false oM;have HW1:=hQd (show decide (-1≤leader∧leader≤2147483647)=true from decide_eq_true g1);have HW2:=hQd (show decide (0≤last∧last≤2147483647)=false from decide_eq_false g2);clear g0 g1 g2;clear p1 hmx hll hb0;go_enter Tryz.func71,Tryz.ntmps71
      go_wp2_with (first
    |(go_at_call 100;(with_reducible refine(zAn leader (-1) _ HW1.out H.out).zM ?_);clear H;intro wn H;obtain⟨x0,x1,x2,x3,x4,x5,x6,x7,x8,x9,x10,x11,y0,y1,y2,y3,y4,y5,y6,y7,y8,y9,y10,y11⟩:=zAe (b:=hb) (H.out))
    |(go_at_call 100;(with_reducible refine(zAn last 0 _ HW2.out H.out).zM ?_);clear H;intro wn H;obtain⟨x0,x1,x2,x3,x4,x5,x6,x7,x8,x9,x10,x11,y0,y1,y2,y3,y4,y5,y6,y7,y8,y9,y10,y11⟩:=zAe (b:=hb) (H.out)))
      go_ret;exact⟨rfl,H.out.drop⟩
    by_cases g3:base≤9223372036854775807 - last
    case neg=>
      have d0:decide (base<0)=false:=decide_eq_false oM;have HW1:=hQd (show decide (-1≤leader∧leader≤2147483647)=true from decide_eq_true g1);have HW2:=hQd (show decide (0≤last∧last≤2147483647)=true from decide_eq_true g2);obtain⟨ml,hml⟩:∃ml,9223372036854775807 - base=ml:=⟨_,rfl⟩;have wl:wrap64 (9223372036854775807 - base)=ml:=by rw[←hml];unfold wrap64;omega
      have wl2:IntKind.i64.wrap (9223372036854775807 - base)=ml:=by rw[←hml];exact IntWalk.i64_in _ oM
      have d3:decide (ml<last)=true:=by rw[←hml];exact decide_eq_true oM
      clear g0 g1 g2 g3 hml;clear p1 hmx hll hb0;go_enter Tryz.func71,Tryz.ntmps71
      go_wp2_with (first
    |(go_at_call 100;(with_reducible refine(zAn leader (-1) _ HW1.out H.out).zM ?_);clear H;intro wn H;obtain⟨x0,x1,x2,x3,x4,x5,x6,x7,x8,x9,x10,x11,y0,y1,y2,y3,y4,y5,y6,y7,y8,y9,y10,y11⟩:=zAe (b:=hb) (H.out))
    |(go_at_call 100;(with_reducible refine(zAn last 0 _ HW2.out H.out).zM ?_);clear H;intro wn H;obtain⟨x0,x1,x2,x3,x4,x5,x6,x7,x8,x9,x10,x11,y0,y1,y2,y3,y4,y5,y6,y7,y8,y9,y10,y11⟩:=zAe (b:=hb) (H.out)))
      go_ret;exact⟨rfl,H.out.drop⟩
    by_cases g4:0≤first
    case neg=>
      have d0:decide (base<0)=false:=decide_eq_false oM;have HW1:=hQd (show decide (-1≤leader∧leader≤2147483647)=true from decide_eq_true g1);have HW2:=hQd (show decide (0≤last∧last≤2147483647)=true from decide_eq_true g2);obtain⟨ml,hml⟩:∃ml,9223372036854775807 - base=ml:=⟨_,rfl⟩;have wl:wrap64 (9223372036854775807 - base)=ml:=by rw[←hml];unfold wrap64;omega
      have wl2:IntKind.i64.wrap (9223372036854775807 - base)=ml:=by rw[←hml];exact IntWalk.i64_in _ oM
      have d3:decide (ml<last)=false:=by rw[←hml];exact decide_eq_false oM
      have d4:decide (first<0)=true:=decide_eq_true oM;clear g0 g1 g2 g3 g4 hml;clear p1 hmx hll hb0;go_enter Tryz.func71,Tryz.ntmps71
      go_wp2_with (first
    |(go_at_call 100;(with_reducible refine(zAn leader (-1) _ HW1.out H.out).zM ?_);clear H;intro wn H;obtain⟨x0,x1,x2,x3,x4,x5,x6,x7,x8,x9,x10,x11,y0,y1,y2,y3,y4,y5,y6,y7,y8,y9,y10,y11⟩:=zAe (b:=hb) (H.out))
    |(go_at_call 100;(with_reducible refine(zAn last 0 _ HW2.out H.out).zM ?_);clear H;intro wn H;obtain⟨x0,x1,x2,x3,x4,x5,x6,x7,x8,x9,x10,x11,y0,y1,y2,y3,y4,y5,y6,y7,y8,y9,y10,y11⟩:=zAe (b:=hb) (H.out)))
      go_ret;exact⟨rfl,H.out.drop⟩
    by_cases g5:0≤maxt
    case neg=>
      have d0:decide (base<0)=false:=decide_eq_false oM;have HW1:=hQd (show decide (-1≤leader∧leader≤2147483647)=true from decide_eq_true g1);have HW2:=hQd (show decide (0≤last∧last≤2147483647)=true from decide_eq_true g2);obtain⟨ml,hml⟩:∃ml,9223372036854775807 - base=ml:=⟨_,rfl⟩;have wl:wrap64 (9223372036854775807 - base)=ml:=by rw[←hml];unfold wrap64;omega
      have wl2:IntKind.i64.wrap (9223372036854775807 - base)=ml:=by rw[←hml];exact IntWalk.i64_in _ oM
      have d3:decide (ml<last)=false:=by rw[←hml];exact decide_eq_false oM
      have d4:decide (first<0)=false:=decide_eq_false oM;have d5:decide (maxt<0)=true:=decide_eq_true oM;clear g0 g1 g2 g3 g4 g5 hml;clear p1 hmx hll hb0;go_enter Tryz.func71,Tryz.ntmps71
      go_wp2_with (first
    |(go_at_call 100;(with_reducible refine(zAn leader (-1) _ HW1.out H.out).zM ?_);clear H;intro wn H;obtain⟨x0,x1,x2,x3,x4,x5,x6,x7,x8,x9,x10,x11,y0,y1,y2,y3,y4,y5,y6,y7,y8,y9,y10,y11⟩:=zAe (b:=hb) (H.out))
    |(go_at_call 100;(with_reducible refine(zAn last 0 _ HW2.out H.out).zM ?_);clear H;intro wn H;obtain⟨x0,x1,x2,x3,x4,x5,x6,x7,x8,x9,x10,x11,y0,y1,y2,y3,y4,y5,y6,y7,y8,y9,y10,y11⟩:=zAe (b:=hb) (H.out)))
      go_ret;exact⟨rfl,H.out.drop⟩
    exact absurd (show BatS.placed ⟨base,leader,app,txn,ctl,last,first,maxt,prod,epoch,sq,l.map (·.1)⟩=true from decide_eq_true ⟨g0,g1,g2,g3,g4,g5⟩) (by rw[p1];decide)
  rw[if_neg p1]at he
  have p2:BatS.placed ⟨base,leader,app,txn,ctl,last,first,maxt,prod,epoch,sq,l.map (·.1)⟩=true:=by cases hh:BatS.placed ⟨base,leader,app,txn,ctl,last,first,maxt,prod,epoch,sq,l.map (·.1)⟩with
    |false=>exact absurd hh p1
    |true=>rfl
  obtain⟨g0,g1,g2,g3,g4,g5⟩:=of_decide_eq_true (show decide (0≤base∧(-1≤leader∧leader≤2147483647)∧(0≤last∧last≤2147483647)∧base≤9223372036854775807 - last∧0≤first∧0≤maxt)=true from p2);have HFP:=hQd (show 0≤first∧first≤9223372036854775807 from⟨g4,hmx⟩);have d0:decide (base<0)=false:=decide_eq_false oM;have HW1:=hQd (show decide (-1≤leader∧leader≤2147483647)=true from decide_eq_true g1);have HW2:=hQd (show decide (0≤last∧last≤2147483647)=true from decide_eq_true g2);obtain⟨ml,hml⟩:∃ml,9223372036854775807 - base=ml:=⟨_,rfl⟩;have wl:wrap64 (9223372036854775807 - base)=ml:=by rw[←hml];unfold wrap64;omega
  have wl2:IntKind.i64.wrap (9223372036854775807 - base)=ml:=by rw[←hml];exact IntWalk.i64_in _ oM
  have d3:decide (ml<last)=false:=by rw[←hml];exact decide_eq_false oM
  have d4:decide (first<0)=false:=decide_eq_false oM;have d5:decide (maxt<0)=false:=decide_eq_false oM;clear g0 g1 g2 g3 g4 g5 hml;clear p1 p2 hmx hb0
  by_cases c1:ctl=true∧txn=false
  · rw[if_pos c1]at he;subst he;obtain⟨rfl,rfl⟩:=c1;clear hll;go_enter Tryz.func71,Tryz.ntmps71
    go_wp2_with (first
    |(go_at_call 100;(with_reducible refine(zAn leader (-1) _ HW1.out H.out).zM ?_);clear H;intro wn H;obtain⟨x0,x1,x2,x3,x4,x5,x6,x7,x8,x9,x10,x11,y0,y1,y2,y3,y4,y5,y6,y7,y8,y9,y10,y11⟩:=zAe (b:=hb) (H.out))
    |(go_at_call 100;(with_reducible refine(zAn last 0 _ HW2.out H.out).zM ?_);clear H;intro wn H;obtain⟨x0,x1,x2,x3,x4,x5,x6,x7,x8,x9,x10,x11,y0,y1,y2,y3,y4,y5,y6,y7,y8,y9,y10,y11⟩:=zAe (b:=hb) (H.out)))
    go_ret;exact⟨rfl,H.out.drop⟩
  rw[if_neg c1]at he
  by_cases s1:BatS.signed ⟨base,leader,app,txn,ctl,last,first,maxt,prod,epoch,sq,l.map (·.1)⟩=false
  · rw[if_pos s1]at he;subst he;have HS:=hQd (show(if prod= -1 then decide (epoch= -1∧sq= -1∧txn=false)else if prod<0∨¬(0≤epoch∧epoch≤32767)then false else if ctl then decide (sq= -1)else decide (0≤sq∧sq≤2147483647))=false from s1);clear s1 hll
    cases ctl with
    |false=>
      go_enter Tryz.func71,Tryz.ntmps71
      go_wp2_with (first
    |(go_at_call 100;(with_reducible refine(zAn leader (-1) _ HW1.out H.out).zM ?_);clear H;intro wn H;obtain⟨x0,x1,x2,x3,x4,x5,x6,x7,x8,x9,x10,x11,y0,y1,y2,y3,y4,y5,y6,y7,y8,y9,y10,y11⟩:=zAe (b:=hb) (H.out))
    |(go_at_call 100;(with_reducible refine(zAn last 0 _ HW2.out H.out).zM ?_);clear H;intro wn H;obtain⟨x0,x1,x2,x3,x4,x5,x6,x7,x8,x9,x10,x11,y0,y1,y2,y3,y4,y5,y6,y7,y8,y9,y10,y11⟩:=zAe (b:=hb) (H.out))
    |(go_at_call 101;(with_reducible refine(zBA _ _ _ _ _ _ _ _ _ _ _ _ _ HS.out H.out).zM ?_);clear H;intro wn H;obtain⟨x0,x1,x2,x3,x4,x5,x6,x7,x8,x9,x10,x11,y0,y1,y2,y3,y4,y5,y6,y7,y8,y9,y10,y11⟩:=zAe (b:=hb) (H.out)))
      go_ret;exact⟨rfl,H.out.drop⟩
    |true=>
      cases txn with
      |false=>exact absurd ⟨rfl,rfl⟩ c1
      |true=>
        clear c1;go_enter Tryz.func71,Tryz.ntmps71
        go_wp2_with (first
    |(go_at_call 100;(with_reducible refine(zAn leader (-1) _ HW1.out H.out).zM ?_);clear H;intro wn H;obtain⟨x0,x1,x2,x3,x4,x5,x6,x7,x8,x9,x10,x11,y0,y1,y2,y3,y4,y5,y6,y7,y8,y9,y10,y11⟩:=zAe (b:=hb) (H.out))
    |(go_at_call 100;(with_reducible refine(zAn last 0 _ HW2.out H.out).zM ?_);clear H;intro wn H;obtain⟨x0,x1,x2,x3,x4,x5,x6,x7,x8,x9,x10,x11,y0,y1,y2,y3,y4,y5,y6,y7,y8,y9,y10,y11⟩:=zAe (b:=hb) (H.out))
    |(go_at_call 101;(with_reducible refine(zBA _ _ _ _ _ _ _ _ _ _ _ _ _ HS.out H.out).zM ?_);clear H;intro wn H;obtain⟨x0,x1,x2,x3,x4,x5,x6,x7,x8,x9,x10,x11,y0,y1,y2,y3,y4,y5,y6,y7,y8,y9,y10,y11⟩:=zAe (b:=hb) (H.out)))
        go_ret;exact⟨rfl,H.out.drop⟩
  rw[if_neg s1]at he
  have s2:BatS.signed ⟨base,leader,app,txn,ctl,last,first,maxt,prod,epoch,sq,l.map (·.1)⟩=true:=by cases hh:BatS.signed ⟨base,leader,app,txn,ctl,last,first,maxt,prod,epoch,sq,l.map (·.1)⟩with
    |false=>exact absurd hh s1
    |true=>rfl
  have HS:=hQd (show(if prod= -1 then decide (epoch= -1∧sq= -1∧txn=false)else if prod<0∨¬(0≤epoch∧epoch≤32767)then false else if ctl then decide (sq= -1)else decide (0≤sq∧sq≤2147483647))=true from s2);clear s1 s2
  cases ctl with
  |false=>
    rw[if_neg (fun h=>by cases h.1)]at he;obtain⟨tot,htot⟩:∃t,zCW (l.map (·.1))=t:=⟨_,rfl⟩;rw[htot]at he;have HTE:=hQd (show tot≠0→tot=e from fun h=>by rw[if_pos h]at he;exact he);have HTZ:=hQd (show tot=0→BatS.rows ⟨base,leader,app,txn,false,last,first,maxt,prod,epoch,sq,l.map (·.1)⟩=e from fun h=>by rw[if_neg (fun x=>x h),if_neg (fun h=>by cases h.1)]at he;exact he);have HT:=hQd htot;clear he htot c1;go_enter Tryz.func71,Tryz.ntmps71
    go_wp2_with (first
        |(go_at_call 100;(with_reducible refine(zAn leader (-1) _ HW1.out H.out).zM ?_);clear H;intro wn H;obtain⟨x0,x1,x2,x3,x4,x5,x6,x7,x8,x9,x10,x11,y0,y1,y2,y3,y4,y5,y6,y7,y8,y9,y10,y11⟩:=zAe (b:=hb) (H.out))
        |(go_at_call 100;(with_reducible refine(zAn last 0 _ HW2.out H.out).zM ?_);clear H;intro wn H;obtain⟨x0,x1,x2,x3,x4,x5,x6,x7,x8,x9,x10,x11,y0,y1,y2,y3,y4,y5,y6,y7,y8,y9,y10,y11⟩:=zAe (b:=hb) (H.out))
        |(go_at_call 101;(with_reducible refine(zBA _ _ _ _ _ _ _ _ _ _ _ _ _ HS.out H.out).zM ?_);clear H;intro wn H;obtain⟨x0,x1,x2,x3,x4,x5,x6,x7,x8,x9,x10,x11,y0,y1,y2,y3,y4,y5,y6,y7,y8,y9,y10,y11⟩:=zAe (b:=hb) (H.out)))
    go_loopw [3,4] (fun iv _ wr=>∃k:Nat,k≤l.length∧iv=.int .i64 k∧Hid (zCW ((l.map (·.1)).drop k)=tot)∧St W0 wr K (.raw hb #[.int .i64 base,.int .i64 leader,.bool app,.bool txn,.bool false,.int .i64 last,.int .i64 first,.int .i64 maxt,.int .i64 prod,.int .i64 epoch,.int .i64 sq,.slice q l.length cap] 58::L)) (fun iv _ _=>l.length - (intOf iv).toNat)
    case atStart=>exact⟨0,Nat.zero_le _,rfl,HT,H.out⟩
    case round=>
      clear x0 y0 x1 y1 x2 y2 x3 y3 x4 y4 x5 y5 x6 y6 x7 y7 x8 y8 x9 y9 x10 y10 x11 y11;obtain⟨k,hkl,rfl,HC,hst⟩:=hrel;clear H;have H:=hQd hst;clear hst;obtain⟨x0,x1,x2,x3,x4,x5,x6,x7,x8,x9,x10,x11,y0,y1,y2,y3,y4,y5,y6,y7,y8,y9,y10,y11⟩:=zAe (b:=hb) (H.out)
      by_cases hlt:k<l.length
      · exact zq9
      · obtain rfl:l.length=k:=by omega
        have hc:=HC.out;rw[List.drop_of_length_le (by simp)]at hc;obtain rfl:0=tot:=hc;have HROW:=hQd (HTZ.out rfl);go_wp2_with (go_at_call 104;(with_reducible refine(zFv _ _ _ _ _ _ _ _ _ _ _ l _ _ _ HROW.out HFP.out HFT.out HLL.out HK.out H.out).zM ?_);clear H;intro wn H);go_ret;exact⟨rfl,H.out.drop⟩
  |true=>
    cases txn with
    |false=>exact absurd ⟨rfl,rfl⟩ c1
    |true=>
      clear c1
      by_cases c2:l.length=1
      · rw[if_neg (fun h=>h.2 c2)]at he;have HLEN:=hQd c2;have bl:((l.length:Int)==1)=true:=by rw[c2];rfl
        have bl2:((l.length:Int) !=1)=false:=by rw[c2];rfl
        obtain⟨tot,htot⟩:∃t,zCW (l.map (·.1))=t:=⟨_,rfl⟩;rw[htot]at he;have HTE:=hQd (show tot≠0→tot=e from fun h=>by rw[if_pos h]at he;exact he)
        have HEN:=hQd (show ∀(x:RecS) (h0:0<l.length),(l[0]'h0).1=x→((zHl x).2.2≠0→tot=0→(zHl x).2.2=e)∧((zHl x).2.2=0→tot=0→BatS.rows ⟨base,leader,app,true,true,last,first,maxt,prod,epoch,sq,l.map (·.1)⟩=e)from fun x h0 hx=>by
          have hm:l.map (·.1)=x::(l.map (·.1)).drop 1:=by have:=zCH l 0 oM x hx;simpa using this
          have hens:BatS.ends ⟨base,leader,app,true,true,last,first,maxt,prod,epoch,sq,l.map (·.1)⟩=(zHl x).2.2:=by unfold BatS.ends;simp only;rw[hm]
          rw[hens]at he;refine⟨fun h h2=> ?_,fun h h2=> ?_⟩
          · rw[if_neg (fun y=>y h2),if_pos ⟨rfl,h⟩]at he;exact he
          · rw[if_neg (fun y=>y h2),if_neg (fun y=>y.2 h)]at he;exact he)
        have HT:=hQd htot;clear he htot c2;go_enter Tryz.func71,Tryz.ntmps71
        go_wp2_with (first
            |(go_at_call 100;(with_reducible refine(zAn leader (-1) _ HW1.out H.out).zM ?_);clear H;intro wn H;obtain⟨x0,x1,x2,x3,x4,x5,x6,x7,x8,x9,x10,x11,y0,y1,y2,y3,y4,y5,y6,y7,y8,y9,y10,y11⟩:=zAe (b:=hb) (H.out))
            |(go_at_call 100;(with_reducible refine(zAn last 0 _ HW2.out H.out).zM ?_);clear H;intro wn H;obtain⟨x0,x1,x2,x3,x4,x5,x6,x7,x8,x9,x10,x11,y0,y1,y2,y3,y4,y5,y6,y7,y8,y9,y10,y11⟩:=zAe (b:=hb) (H.out))
            |(go_at_call 101;(with_reducible refine(zBA _ _ _ _ _ _ _ _ _ _ _ _ _ HS.out H.out).zM ?_);clear H;intro wn H;obtain⟨x0,x1,x2,x3,x4,x5,x6,x7,x8,x9,x10,x11,y0,y1,y2,y3,y4,y5,y6,y7,y8,y9,y10,y11⟩:=zAe (b:=hb) (H.out)))
        go_loopw [3,4] (fun iv _ wr=>∃k:Nat,k≤l.length∧iv=.int .i64 k∧Hid (zCW ((l.map (·.1)).drop k)=tot)∧St W0 wr K (.raw hb #[.int .i64 base,.int .i64 leader,.bool app,.bool true,.bool true,.int .i64 last,.int .i64 first,.int .i64 maxt,.int .i64 prod,.int .i64 epoch,.int .i64 sq,.slice q l.length cap] 58::L)) (fun iv _ _=>l.length - (intOf iv).toNat)
        case atStart=>exact⟨0,Nat.zero_le _,rfl,HT,H.out⟩
        case round=>
          clear x0 y0 x1 y1 x2 y2 x3 y3 x4 y4 x5 y5 x6 y6 x7 y7 x8 y8 x9 y9 x10 y10 x11 y11;obtain⟨k,hkl,rfl,HC,hst⟩:=hrel;clear H;have H:=hQd hst;clear hst;obtain⟨x0,x1,x2,x3,x4,x5,x6,x7,x8,x9,x10,x11,y0,y1,y2,y3,y4,y5,y6,y7,y8,y9,y10,y11⟩:=zAe (b:=hb) (H.out)
          by_cases hlt:k<l.length
          · exact zq9
          · obtain rfl:l.length=k:=by omega
            have hc:=HC.out;rw[List.drop_of_length_le (by simp)]at hc;obtain rfl:0=tot:=hc;obtain⟨b,off,hqq⟩:=zCB HK.out H.out (by rw[HLEN.out];decide);subst hqq;obtain⟨⟨x,vx⟩,hx⟩:∃x,l[0]'(by rw[HLEN.out];decide)=x:=⟨_,rfl⟩;have cc:=zA2 HK.out H.out 0 (by rw[HLEN.out];decide) (x,vx) hx;have hmem:(x,vx)∈l:=hx ▸ List.getElem_mem _;have xf:x.R∧HFit x.hdrs∧x.sum≤1000000:=HFT.out (x,vx) hmem;have xk:K.has (Know.flat RHdr vx 3 x.hdrs):=zBn HK.out hmem;obtain⟨qx,capx,hvx⟩:=zAq xk H.out;subst hvx;simp only[Nat.zero_mul,Nat.zero_add,Nat.add_zero]at cc;obtain⟨c0,c1,c2,c3,c4,c5,c6⟩:=cc;have XD:=hQd (zMq xf.2.2);have hl0:(0:Int)<(l.length:Int):=by have:=HLEN.out;omega
            obtain⟨⟨i1,i2,i3⟩,hi⟩:∃r,zHl x=r:=⟨_,rfl⟩;have EC:=hQd (show zEc x.key.null x.val.null x.key.data x.val.data x.hdrs.length x.off=(i1,i2,i3)from hi);have hen:=HEN.out x (by rw[HLEN.out];decide) (by rw[hx]);rw[hi]at hen;clear hx hmem xf xk hi
            by_cases c9:i3=0
            · subst c9;have HROW:=hQd (hen.2 rfl rfl);clear hen
              go_wp2_with (first
            |(go_at_call 103;(with_reducible refine(zHP x.time x.off x.key.null x.val.null x.key.data x.val.data qx x.hdrs.length capx (i1,i2,_) EC.out XD.out.1 XD.out.2 H.out).zM ?_);clear H;intro wn H;obtain⟨x0,x1,x2,x3,x4,x5,x6,x7,x8,x9,x10,x11,y0,y1,y2,y3,y4,y5,y6,y7,y8,y9,y10,y11⟩:=zAe (b:=hb) (H.out))
            |(go_at_call 104;(with_reducible refine(zFv _ _ _ _ _ _ _ _ _ _ _ l _ _ _ HROW.out HFP.out HFT.out HLL.out HK.out H.out).zM ?_);clear H;intro wn H))
              go_ret;exact⟨rfl,H.out.drop⟩
            · have gz:(i3==0)=false:=by rw[beq_eq_false_iff_ne];exact c9
              obtain rfl:i3=e:=hen.1 c9 rfl;clear hen c9;go_wp2_with (go_at_call 103;(with_reducible refine(zHP x.time x.off x.key.null x.val.null x.key.data x.val.data qx x.hdrs.length capx (i1,i2,_) EC.out XD.out.1 XD.out.2 H.out).zM ?_);clear H;intro wn H;obtain⟨x0,x1,x2,x3,x4,x5,x6,x7,x8,x9,x10,x11,y0,y1,y2,y3,y4,y5,y6,y7,y8,y9,y10,y11⟩:=zAe (b:=hb) (H.out));go_ret;exact⟨rfl,H.out.drop⟩
      · rw[if_pos ⟨rfl,c2⟩]at he;subst he;have bl:((l.length:Int)==1)=false:=by rw[beq_eq_false_iff_ne];omega
        clear c2 hll;go_enter Tryz.func71,Tryz.ntmps71
        go_wp2_with (first
    |(go_at_call 100;(with_reducible refine(zAn leader (-1) _ HW1.out H.out).zM ?_);clear H;intro wn H;obtain⟨x0,x1,x2,x3,x4,x5,x6,x7,x8,x9,x10,x11,y0,y1,y2,y3,y4,y5,y6,y7,y8,y9,y10,y11⟩:=zAe (b:=hb) (H.out))
    |(go_at_call 100;(with_reducible refine(zAn last 0 _ HW2.out H.out).zM ?_);clear H;intro wn H;obtain⟨x0,x1,x2,x3,x4,x5,x6,x7,x8,x9,x10,x11,y0,y1,y2,y3,y4,y5,y6,y7,y8,y9,y10,y11⟩:=zAe (b:=hb) (H.out))
    |(go_at_call 101;(with_reducible refine(zBA _ _ _ _ _ _ _ _ _ _ _ _ _ HS.out H.out).zM ?_);clear H;intro wn H;obtain⟨x0,x1,x2,x3,x4,x5,x6,x7,x8,x9,x10,x11,y0,y1,y2,y3,y4,y5,y6,y7,y8,y9,y10,y11⟩:=zAe (b:=hb) (H.out)))
        go_ret;exact⟨rfl,H.out.drop⟩
theorem zNW(x:RecS)(hx:x.R)(hs:x.sum≤1000):(encR x).length≤33000:=by
 have h1:=zE7 x hx oM;have h2:=zCS ⟨false,recF x⟩ (by simp only;omega);simp only at h2;unfold encR
 omega
theorem zE0:∀(l:List RecS) (n:Nat),(∀x∈l,(encR x).length≤n)→(l.flatMap encR).length≤n*l.length
 |[],_,_=>by simp
 |x::t,n,h=>by
  rw[List.flatMap_cons,List.length_append,List.length_cons,Nat.mul_succ];have h1:=zE0 t n (fun y hy=>h y (by simp[hy]));have h2:=h x (by simp)
  omega
theorem zEa:∀(l:List (RecS×Value)),zBa l=(l.map (·.1)).flatMap encR
 |[]=>rfl
 |x::t=>by
  have:=zEa t;unfold zBa at*;rw[List.flatMap_cons,List.map_cons,List.flatMap_cons,this]
structure SmallOk (b:BatS):Prop where
 fit:∀x∈b.recs,x.R∧zBc x=0∧x.sum≤1000
 len:b.recs.length≤12
 err:zAl b=0
 rng:b.R
theorem SmallOk.rows{b:BatS}(h:SmallOk b):b.rowsB.length≤400000:=by
 have:=zE0 b.recs 33000 (fun x hx=>zNW x (h.fit x hx).1 (h.fit x hx).2.2);have h2:=h.len;unfold BatS.rowsB
 omega
theorem SmallOk.recs{b:BatS}(h:SmallOk b):∀x∈b.recs,x.R∧zBc x=0∧x.sum≤1000000:=fun x hx=>⟨(h.fit x hx).1,(h.fit x hx).2.1,by have:=(h.fit x hx).2.2;omega⟩
theorem SmallOk.back{b:BatS}(h:SmallOk b)(t:Bs):zBd (b.enc++t)=.ok (b,b.enc.length):=
 zNC h.err h.rng h.recs (by have:=h.rows;omega) (by have:=h.len;omega) t
theorem BatS.enc_len(b:BatS):b.enc.length=61+b.rowsB.length:=by unfold BatS.enc;rw[List.length_append,zBq]
theorem SmallOk.elen{b:BatS}(h:SmallOk b):b.enc.length≤401000:=by rw[b.enc_len];have:=h.rows;omega
theorem SmallOk.of{b:BatS}{l:List (RecS×Value)}(hl:b.recs=l.map (·.1))(hw:FitW l)(hs:zCy (l.map (·.1))=true)(he:zAl b=0)(hR:b.R):SmallOk b where
 fit:=by
  intro x hx;rw[hl]at hx;have hf:=hw.fit hs;obtain⟨y,hy,rfl⟩:=List.mem_map.1 hx;have hr:=zIA _ (zDm he).2.2.2;have hss:=hs;unfold zCy at hss;simp only[Bool.and_eq_true]at hss;exact⟨(hf y hy).1,hr y.1 (by rw[hl];exact hx),zFt (zFW _ hss.2 y.1 hx)⟩
 len:=by rw[hl,List.length_map];exact zEW hs
 err:=he
 rng:=hR
theorem zH3{x:PreS}(h:FitsAll x.items):(⟨[],0⟩:OutS).ints x.items=⟨zAo x.items,0⟩:=by
 rw[OutS.ints_put _ _ h]
 rfl
theorem SmallOk.preX{b:BatS}(so:SmallOk b):(Go.Proofs.YtnnnglklgofabaaGreat.preX b.enc).1=b.pre b.crc∧(Go.Proofs.YtnnnglklgofabaaGreat.preX b.enc).2=2∧zBu b.enc=.ok (b.pre b.crc):=by
 have hb:=so.back [];rw[List.append_nil]at hb;obtain⟨x,hx,_⟩:=zBI hb;have hrow:=so.rows;have hlen:=so.len;have hcr:=b.crc_lt;have f1:=BatS.fitsAll so.err so.rng b.crc oM oM oM;have hp:=zJ5 (b.pre b.crc) f1 (show(49:Int)≤49+(b.rowsB.length:Int) by omega) (show(0:Int)≤(b.recs.length:Int) by omega) b.rowsB;have hp:zBu b.enc=.ok (b.pre b.crc):=hp;obtain⟨_,h2,h3,_⟩:=zDM hp;exact⟨h2,h3,hp⟩
variable {W0 w:World}{K:Know}{L:List Res}
theorem zMu(p:Nat)(o:OutS)(s:Bs)(e:Int)(hx:o.text=(s,e))(h:St W0 w K (.out p o::L)):
 Calls Tryz.prog 9 #[zAO p] w fun en w'=>en=.returned (.tuple #[.string (bb s),.int .i64 e])∧St W0 w' K (.out p o::L):=by
 have:=zIp p o h;rw[hx]at this;exact this
theorem zIL(p:Nat)(o o2:OutS)(a0 a1 a2 a3 a4 a5 a6 a7 a8 a9 a10 a11:Int)(hx:PreS.R ⟨a0,a1,a2,a3,a4,a5,a6,a7,a8,a9,a10,a11⟩)(ho:o.ints (PreS.items ⟨a0,a1,a2,a3,a4,a5,a6,a7,a8,a9,a10,a11⟩)=o2)(hr:o.ok 200)(h:St W0 w K (.out p o::L)):
 Calls Tryz.prog 127 #[zAO p,.agg #[.int .i64 a0,.int .i64 a1,.int .i64 a2,.int .i64 a3,.int .i64 a4,.int .i64 a5,.int .i64 a6,.int .i64 a7,.int .i64 a8,.int .i64 a9,.int .i64 a10,.int .i64 a11]] w fun en w'=>en=.returned (.tuple #[])∧St W0 w' K (.out p o2::L):=by
 subst ho;exact zKg p o ⟨a0,a1,a2,a3,a4,a5,a6,a7,a8,a9,a10,a11⟩ hx h hr
theorem zHs(a0 a1 a2 a3 a4 a5 a6 a7 a8 a9 a10 a11:Int)(hx:PreS.R ⟨a0,a1,a2,a3,a4,a5,a6,a7,a8,a9,a10,a11⟩)(o2:OutS)(s:Bs)(e:Int)(ho:(⟨[],0⟩:OutS).ints (PreS.items ⟨a0,a1,a2,a3,a4,a5,a6,a7,a8,a9,a10,a11⟩)=o2)(ht:o2.text=(s,e))(h:St W0 w K L):
 Calls Tryz.prog 91 #[.agg #[.int .i64 a0,.int .i64 a1,.int .i64 a2,.int .i64 a3,.int .i64 a4,.int .i64 a5,.int .i64 a6,.int .i64 a7,.int .i64 a8,.int .i64 a9,.int .i64 a10,.int .i64 a11]] w fun en w'=>en=.returned (.tuple #[.string (bb s),.int .i64 e])∧St W0 w' K L:=by
 have g1:=h.allocRaw #[.int .i64 a0,.int .i64 a1,.int .i64 a2,.int .i64 a3,.int .i64 a4,.int .i64 a5,.int .i64 a6,.int .i64 a7,.int .i64 a8,.int .i64 a9,.int .i64 a10,.int .i64 a11] 154;have g2:=g1.allocOut;obtain⟨hb,hhb⟩:∃b,w.heap.size=b:=⟨_,rfl⟩;obtain⟨po,hpo⟩:∃b,hb+1=b:=⟨_,rfl⟩;simp only[World.size_alloc,hhb,hpo]at g2;obtain⟨x0,x1,x2,x3,x4,x5,x6,x7,x8,x9,x10,x11,y0,y1,y2,y3,y4,y5,y6,y7,y8,y9,y10,y11⟩:=zAe (b:=hb) (g2.p1);have H:=hQd g2;have HX:=hQd hx;have HO:=hQd ho;have HT:=hQd ht;have HR:=hQd (show(⟨[],0⟩:OutS).ok 200 by simp[OutS.ok]);clear g1 g2 h hx ho ht;go_enter Tryz.func91,Tryz.ntmps91
 go_wp2_with (first
  |(go_at_call 127;(with_reducible refine(zIL po _ _ _ _ _ _ _ _ _ _ _ _ _ _ HX.out HO.out HR.out H.out).zM ?_);clear H;intro wn H)
  |(go_at_call 9;(with_reducible refine(zMu po _ _ _ HT.out H.out).zM ?_);clear H;intro wn H))
 go_ret2;exact⟨rfl,H.out.drop.drop⟩
theorem zQI(l:List (RecS×Value))(q:Option Addr)(cap:Nat)(rows:Bs)(hrows:zBa l=rows)(hc:zCW (l.map (·.1))=0)(hfit:FitB l)(hll:l.length≤1000){W0 w:World}{K:Know}{L:List Res}(hk:K.has (Know.recs (.slice q l.length cap) l))(h:St W0 w K L):
 Calls Tryz.prog 89 #[.slice q l.length cap] w fun en w'=>en=.returned (.tuple #[.string (bb rows),.int .i64 0])∧St W0 w' K L:=by
 have g1:=h.allocOut;obtain⟨po,hpo⟩:∃b,w.heap.size=b:=⟨_,rfl⟩;rw[hpo]at g1;have H:=hQd g1;have HK:=hQd hk;have HFT:=hQd hfit;have HC:=hQd hc;have HRW:=hQd hrows;have HLL:=hQd hll;clear h g1 hk hfit hc hrows hll;go_enter Tryz.func89,Tryz.ntmps89;go_wp2;go_loopw [6,9] (fun _ iv wr=>∃k:Nat,k≤l.length∧iv=.int .i64 k∧St W0 wr K (.out po ⟨zBa (l.take k),0⟩::L)) (fun _ iv _=>l.length - (intOf iv).toNat)
 case atStart=>exact⟨0,Nat.zero_le _,rfl,H.out⟩
 case round=>
  obtain⟨k,hkl,rfl,hst⟩:=hrel;clear H;have H:=hQd hst;clear hst
  by_cases hlt:k<l.length
  ·have OK:=hQd (show(⟨zBa (l.take k),0⟩:OutS).ok 40000000 by
    have h1:=zKK (l:=l.take k) (fun y hy=>HFT.out y (List.mem_of_mem_take hy));have h2:=HLL.out;rw[List.length_take]at h1;unfold OutS.ok;simp only
    omega)
   have hok:=zIA _ HC.out l[k].1 (List.mem_map.2 ⟨_,List.getElem_mem hlt,rfl⟩);have het:=zHi l k hlt;have hll2:=HLL.out;obtain⟨b,off,hqq⟩:=zCB HK.out H.out oM;subst hqq;obtain⟨⟨x,vx⟩,hx⟩:∃x,l[k]=x:=⟨_,rfl⟩;have cc:=zA2 HK.out H.out k hlt (x,vx) hx;have hmem:(x,vx)∈l:=hx ▸ List.getElem_mem hlt;have xf:x.R∧HFit x.hdrs∧x.sum≤1000000:=HFT.out (x,vx) hmem;have xk:K.has (Know.flat RHdr vx 3 x.hdrs):=zBn HK.out hmem;obtain⟨qx,capx,hvx⟩:=zAq xk H.out;subst hvx;simp only at cc;obtain⟨c0,c1,c2,c3,c4,c5,c6⟩:=cc;rw[←Nat.add_assoc]at c1 c2 c3 c4 c5 c6;have hx1:l[k].1=x:=by rw[hx]
   have XF:=hQd xf;have XK:=hQd xk;have HX:=hQd hx1;clear xf xk hx1 hx hmem;obtain⟨wE,hwE⟩:∃b,wr.heap.size=b:=⟨_,rfl⟩;have hki:(k:Int)<(l.length:Int):=by omega
   have h:=H.out.allocRaw #[.int .i64 x.time,.int .i64 x.off,.bool x.key.null,.string (bb x.key.data),.bool x.val.null,.string (bb x.val.data),.slice qx x.hdrs.length capx] 119;rw[hwE]at h;clear H;have H:=hQd h;clear h;rw[HX.out]at hok het;have EO:=hQd (show(⟨zBa (l.take k),0⟩:OutS).putRec x=⟨zBa (l.take (k+1)),0⟩ by rw[zLK _ _ hok,het]);have hll3:(l.length:Int)≤1000:=by omega
   obtain⟨ec0,ec1,ec2,ec3,ec4,ec5,ec6,ef0,ef1,ef2,ef3,ef4,ef5,ef6⟩:=raw7 (b:=wE) (H.out);clear hok het hll2;go_wp2_with (go_at_call 125;(with_reducible refine(zOH po _ _ x (.slice qx x.hdrs.length capx) XF.out.1 XF.out.2.2 EO.out OK.out XK.out H.out.p1).zM ?_);clear H;intro wn H);go_roundw
   case rel=>exact⟨k+1,hlt,by go_num,H.out.p1.drop⟩
   case measure=>first|(simp[intOf];done)|(simp[intOf];omega)
  ·obtain rfl:l.length=k:=by omega
   have h:=H.out;rw[List.take_length,HRW.out]at h;clear H;have H:=hQd h;clear h;have HT:=hQd (show(⟨rows,0⟩:OutS).text=(rows,0)from rfl);go_wp2_with (go_at_call 9;(with_reducible refine(zMu po _ _ _ HT.out H.out).zM ?_);clear H;intro wn H);go_ret2;exact⟨rfl,H.out.drop⟩
variable {W0 w:World}{K:Know}{L:List Res}
theorem zHJ(base leader:Int)(app txn ctl:Bool)(last first maxt prod epoch sq:Int)(l:List (RecS×Value))(q:Option Addr)(cap:Nat)(e:Int)(he:zAl ⟨base,leader,app,txn,ctl,last,first,maxt,prod,epoch,sq,l.map (·.1)⟩=e)(h0:e≠0)(hmx:first≤9223372036854775807)(hfit:FitB l)(hll:l.length≤1000)(hk:K.has (Know.recs (.slice q l.length cap) l))(h:St W0 w K L):
 Calls Tryz.prog 57 #[.agg #[.int .i64 base,.int .i64 leader,.bool app,.bool txn,.bool ctl,.int .i64 last,.int .i64 first,.int .i64 maxt,.int .i64 prod,.int .i64 epoch,.int .i64 sq,.slice q l.length cap]] w fun en w'=>en=.returned (.tuple #[.string ⟨#[]⟩,.int .i64 e])∧St W0 w' K L:=by
 have HK:=hQd hk;have HFT:=hQd hfit;have HLL:=hQd (show l.length≤1000000 by omega);have HMX:=hQd hmx;have HE:=hQd he;have gz:(e==0)=false:=by rw[beq_eq_false_iff_ne];exact h0
 have h1:=h.allocRaw #[.int .i64 base,.int .i64 leader,.bool app,.bool txn,.bool ctl,.int .i64 last,.int .i64 first,.int .i64 maxt,.int .i64 prod,.int .i64 epoch,.int .i64 sq,.slice q l.length cap] 58;obtain⟨hb,hhb⟩:∃b,w.heap.size=b:=⟨_,rfl⟩;rw[hhb]at h1;obtain⟨x0,x1,x2,x3,x4,x5,x6,x7,x8,x9,x10,x11,y0,y1,y2,y3,y4,y5,y6,y7,y8,y9,y10,y11⟩:=zAe (b:=hb) (h1);have H:=hQd h1;clear h h1 hk hfit hll hmx he h0;go_enter Tryz.func57,Tryz.ntmps57;go_wp2_with (go_at_call 88;(with_reducible refine(zBG _ _ _ _ _ _ _ _ _ _ _ l _ _ e HE.out HMX.out HFT.out HLL.out HK.out H.out).zM ?_);clear H;intro wn H;obtain⟨x0,x1,x2,x3,x4,x5,x6,x7,x8,x9,x10,x11,y0,y1,y2,y3,y4,y5,y6,y7,y8,y9,y10,y11⟩:=zAe (b:=hb) (H.out));go_ret2;exact⟨rfl,H.out.drop⟩
theorem zJj(base leader:Int)(app txn ctl:Bool)(last first maxt prod epoch sq:Int)(l:List (RecS×Value))(q:Option Addr)(cap:Nat)(he:zAl ⟨base,leader,app,txn,ctl,last,first,maxt,prod,epoch,sq,l.map (·.1)⟩=0)(hmx:first≤9223372036854775807)(hfit:FitB l)(hll:l.length≤1000)(rows said0 said1 all:Bs)(x:Nat)(at_:Int)(hrc:zCW (l.map (·.1))=0)(hrw:zBa l=rows)(hrl:rows.length≤100000000)(hat:zA7 app txn ctl 3=at_)
 (r0:PreS.R ⟨base,49+rows.length,leader,0,at_,last,first,maxt,prod,epoch,sq,l.length⟩)(r1:PreS.R ⟨base,49+rows.length,leader,x,at_,last,first,maxt,prod,epoch,sq,l.length⟩)(o0:(⟨[],0⟩:OutS).ints (PreS.items ⟨base,49+rows.length,leader,0,at_,last,first,maxt,prod,epoch,sq,l.length⟩)=⟨said0,0⟩)(o1:(⟨[],0⟩:OutS).ints (PreS.items ⟨base,49+rows.length,leader,x,at_,last,first,maxt,prod,epoch,sq,l.length⟩)=⟨said1,0⟩)(l0:said0.length=61)(l1:said1.length=61)(hx:(zAm 0#32 (said0.drop 21++rows)).toNat=x)(hall:said1++rows=all)(hk:K.has (Know.recs (.slice q l.length cap) l))(h:St W0 w K L):
 Calls Tryz.prog 57 #[.agg #[.int .i64 base,.int .i64 leader,.bool app,.bool txn,.bool ctl,.int .i64 last,.int .i64 first,.int .i64 maxt,.int .i64 prod,.int .i64 epoch,.int .i64 sq,.slice q l.length cap]] w fun en w'=>en=.returned (.tuple #[.string (bb all),.int .i64 0])∧St W0 w' K L:=by
 have HK:=hQd hk;have HFT:=hQd hfit;have HLL:=hQd (show l.length≤1000000 by omega);have HL1:=hQd hll;have HMX:=hQd hmx;have HE:=hQd he;have HRW:=hQd hrw;have HRC:=hQd hrc;have AT:=hQd hat;have HSZ:=hQd (show rows.length≤140737488355328 by omega);have R0:=hQd r0;have R1:=hQd r1;have O0:=hQd o0;have O1:=hQd o1;have T0:=hQd (show(⟨said0,0⟩:OutS).text=(said0,0)from rfl);have T1:=hQd (show(⟨said1,0⟩:OutS).text=(said1,0)from rfl);have HX:=hQd hx;have HS21:=hQd (show 21≤said0.length by omega);have HS2:=hQd (show said0.length≤140737488355328 by omega);have HR2:=hQd (show rows.length≤140737488355328 by omega);have HALL:=hQd hall;have hcat:bb said1++bb rows=bb all:=by rw[←hall];exact zBb _ _
 have hg:¬(9223372036854775807<said1.length+rows.length):=by omega
 have t1:True:=trivial;have h1:=h.allocRaw #[.int .i64 base,.int .i64 leader,.bool app,.bool txn,.bool ctl,.int .i64 last,.int .i64 first,.int .i64 maxt,.int .i64 prod,.int .i64 epoch,.int .i64 sq,.slice q l.length cap] 58;obtain⟨hb,hhb⟩:∃b,w.heap.size=b:=⟨_,rfl⟩;rw[hhb]at h1;obtain⟨x0,x1,x2,x3,x4,x5,x6,x7,x8,x9,x10,x11,y0,y1,y2,y3,y4,y5,y6,y7,y8,y9,y10,y11⟩:=zAe (b:=hb) (h1);have H:=hQd h1;clear h h1 hk hfit hll hmx he hrw hrc hat r0 r1 o0 o1 l0 l1 hx hall hrl;go_enter Tryz.func57,Tryz.ntmps57
 go_wp2_with (first
  |(go_at_call 88;(with_reducible refine(zBG _ _ _ _ _ _ _ _ _ _ _ l _ _ 0 HE.out HMX.out HFT.out HLL.out HK.out H.out).zM ?_);clear H;intro wn H;obtain⟨x0,x1,x2,x3,x4,x5,x6,x7,x8,x9,x10,x11,y0,y1,y2,y3,y4,y5,y6,y7,y8,y9,y10,y11⟩:=zAe (b:=hb) (H.out))
  |(go_at_call 89;(with_reducible refine(zQI l _ _ rows HRW.out HRC.out HFT.out HL1.out HK.out H.out).zM ?_);clear H;intro wn H;obtain⟨x0,x1,x2,x3,x4,x5,x6,x7,x8,x9,x10,x11,y0,y1,y2,y3,y4,y5,y6,y7,y8,y9,y10,y11⟩:=zAe (b:=hb) (H.out))
  |(go_at_call 90;(with_reducible refine(zQJ _ _ _ _ _ _ _ _ _ _ _ l _ _ rows.length HSZ.out H.out).mono ?_);rw[AT.out];rintro e_ wn ⟨rfl,h⟩;have h:=h.allocRaw #[.int .i64 base,.int .i64 (49+rows.length),.int .i64 leader,.int .i64 0,.int .i64 at_,.int .i64 last,.int .i64 first,.int .i64 maxt,.int .i64 prod,.int .i64 epoch,.int .i64 sq,.int .i64 l.length] 154;obtain⟨pb,hpb⟩:∃b,wn.heap.size=b:=⟨_,rfl⟩;rw[hpb]at h;replace H:=hQd h;clear h;obtain⟨p0,p1,p2,p3,p4,p5,p6,p7,p8,p9,p10,p11,u0,u1,u2,u3,u4,u5,u6,u7,u8,u9,u10,u11⟩:=zAe (b:=pb) (H.out))
  |(go_at_call 91;have _t:=t1;clear _t;(with_reducible refine(zHs _ _ _ _ _ _ _ _ _ _ _ _ R0.out _ _ _ O0.out T0.out H.out).zM ?_);clear H;intro wn H;obtain⟨p0,p1,p2,p3,p4,p5,p6,p7,p8,p9,p10,p11,u0,u1,u2,u3,u4,u5,u6,u7,u8,u9,u10,u11⟩:=zAe (b:=pb) (H.out);have t2:True:=trivial;clear t1)
  |(go_at_call 92;(with_reducible refine(zFp said0 rows x HX.out HS21.out HS2.out HR2.out H.out).zM ?_);clear H;intro wn H;obtain⟨p0,p1,p2,p3,p4,p5,p6,p7,p8,p9,p10,p11,u0,u1,u2,u3,u4,u5,u6,u7,u8,u9,u10,u11⟩:=zAe (b:=pb) (H.out);have h3:St W0 _ K (.raw pb #[.int .i64 base,.int .i64 (49+rows.length),.int .i64 leader,.int .i64 x,.int .i64 at_,.int .i64 last,.int .i64 first,.int .i64 maxt,.int .i64 prod,.int .i64 epoch,.int .i64 sq,.int .i64 l.length] 154::_):=H.out.rawSet 3 (.int .i64 x);obtain⟨a0,a1,a2,a3,a4,a5,a6,a7,a8,a9,a10,a11,f0,f1,f2,f3,f4,f5,f6,f7,f8,f9,f10,f11⟩:=zAe (b:=pb) (h3);clear h3)
  |(go_at_call 91;have _t:=t2;clear _t;(with_reducible refine(zHs _ _ _ _ _ _ _ _ _ _ _ _ R1.out _ _ _ O1.out T1.out (H.out.rawSet 3 (.int .i64 x))).zM ?_);clear H;intro wn H;clear t2))
 go_ret2;exact⟨rfl,H.out.drop.drop⟩
theorem zHI(b:BatS)(l:List (RecS×Value))(q:Option Addr)(cap:Nat)(hl:l.map (·.1)=b.recs)(so:SmallOk b){W0 w:World}{K:Know}{L:List Res}(hk:K.has (Know.recs (.slice q l.length cap) l))(h:St W0 w K L):
 Calls Tryz.prog 57 #[.agg #[.int .i64 b.base,.int .i64 b.leader,.bool b.app,.bool b.txn,.bool b.ctl,.int .i64 b.last,.int .i64 b.first,.int .i64 b.maxt,.int .i64 b.prod,.int .i64 b.epoch,.int .i64 b.seq,.slice q l.length cap]] w fun en w'=>en=.returned (.tuple #[.string (bb b.enc),.int .i64 0])∧St W0 w' K L:=by
 have hrow:=so.rows;have hlen:=so.len;have hcr:=b.crc_lt;have hml:l.length=b.recs.length:=by rw[←hl,List.length_map]
 have f0:=BatS.fitsAll so.err so.rng 0 dD oM oM;have f1:=BatS.fitsAll so.err so.rng b.crc oM oM oM;have r0:=BatS.pre_R so.err so.rng 0 dD oM oM;have r1:=BatS.pre_R so.err so.rng b.crc oM oM oM;have hmx:b.first≤9223372036854775807:=by have:=so.rng.2.2.2.1.2;omega
 have e0:b.pre 0=(⟨b.base,49+(b.rowsB.length:Int),b.leader,0,zA7 b.app b.txn b.ctl 3,b.last,b.first,b.maxt,b.prod,b.epoch,b.seq,(l.length:Int)⟩:PreS):=by unfold BatS.pre;rw[hml]
 have e1:b.pre b.crc=(⟨b.base,49+(b.rowsB.length:Int),b.leader,(b.crc:Int),zA7 b.app b.txn b.ctl 3,b.last,b.first,b.maxt,b.prod,b.epoch,b.seq,(l.length:Int)⟩:PreS):=by unfold BatS.pre;rw[hml]
 have i0:=zH3 f0;have i1:=zH3 f1;have hd0:=b.pre_drop 0;have l0:=zBq (b.pre 0);have l1:=zBq (b.pre b.crc);have he:zAl ⟨b.base,b.leader,b.app,b.txn,b.ctl,b.last,b.first,b.maxt,b.prod,b.epoch,b.seq,l.map (·.1)⟩=0:=by rw[hl];exact so.err
 have hrc:zCW (l.map (·.1))=0:=by rw[hl];exact(zDm so.err).2.2.2
 have hrw:zBa l=b.rowsB:=by rw[zEa,hl];rfl
 have hfb:FitB l:=by
  intro x hx;obtain⟨a,c,d⟩:=so.fit x.1 (by rw[←hl];exact List.mem_map.2 ⟨x,hx,rfl⟩);have:=zIZ x.1.hdrs 1000 (by unfold RecS.sum at d;omega);exact⟨a,fun y hy=>by have:=this y hy;omega,oM⟩
 have hall:zAo (b.pre b.crc).items++b.rowsB=b.enc:=rfl;have hx:(zAm 0#32 ((zAo (b.pre 0).items).drop 21++b.rowsB)).toNat=b.crc:=by rw[hd0];rfl
 rw[e0]at r0 i0;rw[e1]at r1 i1;obtain⟨s0,hs0⟩:∃s,zAo (b.pre 0).items=s:=⟨_,rfl⟩;obtain⟨s1,hs1⟩:∃s,zAo (b.pre b.crc).items=s:=⟨_,rfl⟩;have g0:zAo (⟨b.base,49+(b.rowsB.length:Int),b.leader,0,zA7 b.app b.txn b.ctl 3,b.last,b.first,b.maxt,b.prod,b.epoch,b.seq,(l.length:Int)⟩:PreS).items=s0:=e0 ▸ hs0;have g1:zAo (⟨b.base,49+(b.rowsB.length:Int),b.leader,(b.crc:Int),zA7 b.app b.txn b.ctl 3,b.last,b.first,b.maxt,b.prod,b.epoch,b.seq,(l.length:Int)⟩:PreS).items=s1:=e1 ▸ hs1;rw[g0]at i0;rw[g1]at i1;rw[hs0]at hx l0;rw[hs1]at hall l1;exact zJj b.base b.leader b.app b.txn b.ctl b.last b.first b.maxt b.prod b.epoch b.seq l q cap he hmx hfb oM b.rowsB s0 s1 b.enc b.crc (zA7 b.app b.txn b.ctl 3) hrc hrw oM rfl r0 r1 i0 i1 l0 l1 hx hall hk h
end Go.Proofs.YtnnnglklgofabaaGreat
