/- A text. -/
import Derived.Test.YteldcbljedeeiaaGreatDoorGWholeFramesCard7
import Derived.Test.YteldcbljedeeiaaGreatDoorGWholeFramesCard3
import Derived.Test.YteldcbljedeeiaaGreatDoorGWholeFramesCard6
import Derived.Test.YteldcbljedeeiaaGreatDoorGWholeFramesCard2
import Derived.Test.YteldcbljedeeiaaGreatDoorGWholeFramesCard5
import Derived.Test.YteldcbljedeeiaaGreatDoorGWholeFramesCard4
/- A text. -/
namespace Go.Proofs.YteldcbljedeeiaaGreatDoor
open Go.RowKit
set_option maxRecDepth 100000
set_option maxHeartbeats 8000000
open Go.Value renaming bool→U, string→Z, slice→V, int→I, pointer→Ja
open Go.Ending renaming returned→Y
open Go.IntKind renaming i64→O
open _root_.Go.Proofs.Tryz renaming prog→Jb
open _root_.Nat renaming zero_le→Jd, add_assoc→Jm
open _root_.List renaming take_succ_eq_append_getElem→Jf, length_cons→Jn, length_append→Jc, append_nil→Jp, length_drop→Jh, drop_drop→Jk, append_assoc→Je, flatMap_cons→Jg, getElem_mem→Ji, length_map→Jj, take→Jl, drop→Jo
def preX (s:Bs):PreS×Int:=zGB (zBD zAQ s)
def zC6 (s:Bs):Except Int PreS:=if s.length<61 then .error 1 else if (preX s).2=2 then(if (preX s).1.len<49 then .error 4 else if (preX s).1.count<0 then .error 10 else .ok (preX s).1)else .error 6
theorem InS.fail_stuck_Pre6{i:InS}(h:i.err≠0)(e:Int):i.fail e=i:=if_neg h
theorem InS.fail_ok0(s:Bs)(p:Nat)(e:Int):(⟨s,p,0⟩:InS).fail e=⟨s,p,e⟩:=rfl
theorem zS3(s:Bs)(pos:Nat)(hp:pos+61≤s.length):(⟨s,pos,0⟩:InS).pre=match zC6 (s.drop pos)with| .ok x=>(x,⟨s,pos+61,0⟩)| .error e=>(PreS.zero,⟨s,pos+61,e⟩):=by
 have h1:=zQp zAQ s pos dD hp;have h2:zAQ.sum=61:=rfl;rw[h2]at h1;unfold InS.pre;rw[h1];unfold zC6 preX;rw[if_neg (by rw[Jh];omega)];obtain⟨x,m⟩:=zGB (zBD zAQ (s.drop pos));simp only[zQa]
 by_cases hm:m=2
 ·rw[if_pos hm,if_pos hm]
  by_cases hl:x.len<49
  ·rw[if_pos hl,if_pos hl,InS.fail_ok0,InS.fail_stuck_Pre6 (show(4:Int)≠0 by decide),ite_self,if_neg (show ¬(4:Int)=0 by decide)]
  ·rw[if_neg hl,if_neg hl]
   by_cases hc:x.count<0
   ·rw[if_pos hc,if_pos hc,InS.fail_ok0,if_neg (show ¬(10:Int)=0 by decide)]
   ·rw[if_neg hc,if_neg hc,if_pos rfl]
 ·have hs:∀e:Int,(⟨s,pos+61,6⟩:InS).fail e=⟨s,pos+61,6⟩:=fun e=>InS.fail_stuck_Pre6 (show(6:Int)≠0 by decide) e
  rw[if_neg hm,if_neg hm,InS.fail_ok0];simp only[hs,ite_self];rw[if_neg (show ¬(6:Int)=0 by decide)]
theorem zGL:∀(l:List Nat) (s:Bs) (n:Nat),l.sum≤n→zBD l (s.take n)=zBD l s
 |[],_,_,_=>rfl
 |k::t,s,n,h=>by
  rw[List.sum_cons]at h;unfold zBD;rw[List.take_take,Nat.min_eq_left oM,List.drop_take,zGL t (s.drop k) (n - k) oM]
theorem zHX(s:Bs)(h:61≤s.length):zC6 (s.take 61)=zC6 s:=by
 unfold zC6 preX;rw[zGL zAQ s 61 dD,List.length_take,Nat.min_eq_left h,if_neg (show ¬61<61 by decide),if_neg (show ¬s.length<61 by omega)]
theorem zDX(s:Bs)(h:s.length≤4): -2147483648≤sInt s∧sInt s<2147483648:=by
 rcases(by omega:s.length=0∨(1≤s.length∧s.length≤4))with h0|h0
 ·have:s=[]:=List.length_eq_zero_iff.1 h0;subst this
  decide
 ·have h1:=(zGe s s.length h0.1 oM rfl).2.2;rw[Int.toNat_natCast]at h1
  have h2:half s.length≤2147483648:=by
   rcases(by omega:s.length=1∨s.length=2∨s.length=3∨s.length=4)with h|h|h|h<;>rw[h]<;>decide
  omega
theorem zMu(s:Bs):preX s=(⟨sInt (s.take 8),sInt ((s.drop 8).take 4),sInt ((s.drop 12).take 4),sInt ((s.drop 17).take 4) % 4294967296,sInt ((s.drop 21).take 2),sInt ((s.drop 23).take 4),sInt ((s.drop 27).take 8),sInt ((s.drop 35).take 8),sInt ((s.drop 43).take 8),sInt ((s.drop 51).take 2),sInt ((s.drop 53).take 4),sInt ((s.drop 57).take 4)⟩,sInt ((s.drop 16).take 1)):=by
 unfold preX zAQ;simp only[zBD,Jk,Nat.reduceAdd]
 rfl
theorem zRK(s:Bs): -2147483648≤(preX s).1.len∧(preX s).1.len<2147483648:=by
 rw[zMu];exact zDX _ (by rw[List.length_take];omega)
theorem zEl{s:Bs}{x:PreS}(h:zC6 s=.ok x):61≤s.length∧(preX s).1=x∧(preX s).2=2∧49≤x.len∧0≤x.count:=by
 unfold zC6 at h
 split at h
 ·cases h
 split at h
 ·split at h
  ·cases h
  ·split at h
   ·cases h
   ·cases h
    exact⟨oM,rfl,by assumption,oM,oM⟩
 ·cases h
theorem zPY{s:Bs}{e:Int}(h:zC6 s=.error e):e≠0:=by
 unfold zC6 at h
 split at h
 ·cases h;decide
 split at h
 ·split at h
  ·cases h;decide
  ·split at h
   ·cases h;decide
   ·cases h
 ·cases h;decide
theorem zKI(p:Nat)(i j:InS)(x:PreS)(hx:i.pre=(x,j)){W0 w:World}{K:Know}{L:List Res}(h:St W0 w K (.inp p i::L)):
 Calls Jb 133 #[zAe p] w fun en w'=>en=Y (.agg #[I O x.base,I O x.len,I O x.leader,I O x.sum,I O x.attr,I O x.last,I O x.first,I O x.maxt,I O x.prod,I O x.epoch,I O x.seq,I O x.count])∧St W0 w' K (.inp p j::L):=by
 have:=zMt p i h;rw[hx]at this;exact this
def zBI (s:Bs):Except Int (BatS×Nat):=match zC6 s with
  | .error e=> .error e
  | .ok x=>if s.length<61+(x.len - 49).toNat then .error 1 else match asmB x (s.take 61) ((s.drop 61).take (x.len - 49).toNat)with
    | .error e=> .error e
    | .ok b=> .ok (b,61+(x.len - 49).toNat)
theorem zH2{s:Bs}{x:PreS}(h:zC6 s=.ok x):(-2147483648≤x.len∧x.len<2147483648)∧49≤x.len∧R64 x.attr∧0≤x.count∧x.count≤2147483647∧x.first≤9223372036854775807:=by
 obtain⟨h1,h2,_,h3,h4⟩:=zEl h;have hl:=zRK s;rw[h2]at hl;rw[zMu]at h2;have h2:=h2.symm;subst h2;simp only at*;have a:=zDB ((s.drop 21).take 2) (by rw[List.length_take];omega);have b:=zDB ((s.drop 27).take 8) (by rw[List.length_take];omega);have c:=zDX ((s.drop 57).take 4) (by rw[List.length_take];omega);exact⟨hl,h3,a,h4,oM,oM⟩
theorem zNq{s:Bs}{e:Int}(h:zBI s=.error e):e≠0:=by
 unfold zBI at h
 split at h
 ·rename_i f hp
  cases h
  exact zPY hp
 ·split at h
  ·cases h;decide
  ·split at h
   ·rename_i f ha
    cases h
    exact zTz ha
   ·cases h
theorem zCj{s:Bs}{b:BatS}{n:Nat}(h:zBI s=.ok (b,n)):∃x,zC6 s=.ok x∧n=61+(x.len - 49).toNat∧n≤s.length∧asmB x (s.take 61) ((s.drop 61).take (x.len - 49).toNat)=.ok b:=by
 unfold zBI at h
 split at h
 ·cases h
 ·rename_i x hp
  split at h
  ·cases h
  ·split at h
   ·cases h
   ·rename_i c ha
    cases h
    exact⟨x,hp,rfl,oM,ha⟩
theorem zMs(o:Bs)(x:RecS)(h:zA5 x=0):(⟨o,0⟩:OutS).putRec x=⟨o++encR x,0⟩:=by
 unfold OutS.putRec;rw[if_pos h]
 rfl
theorem zIP:∀(l:List RecS),zD0 l=0→∀x∈l,zA5 x=0
 |[],_,_,h=>by cases h
 |r::t,hh,x,hx=>by
  have hh:(if zA5 r=0 then zD0 t else zA5 r)=0:=hh
  by_cases h1:zA5 r=0
  ·rw[if_pos h1]at hh
   rcases List.mem_cons.1 hx with rfl|hx
   ·exact h1
   ·exact zIP t hh x hx
  ·rw[if_neg h1]at hh;exact absurd hh h1
theorem zLa{l:List (RecS×Value)}(h:FitB l):(zBy l).length≤40000000*l.length:=by
 have:∀(l:List (RecS×Value)),(∀x∈l,(encR x.1).length≤40000000)→(zBy l).length≤40000000*l.length:=by
  intro l
  induction l with
  |nil=>intro _;simp[zBy]
  |cons x t ih=>
   intro hh;have h1:=ih (fun y hy=>hh y (by simp[hy]));have h2:=hh x sM;have e:zBy (x::t)=encR x.1++zBy t:=rfl;rw[e,Jc,Jn]
   omega
 refine this l fun x hx=> ?_
 obtain⟨a,_,c⟩:=h x hx;have h1:=zGl x.1 a c;unfold encR encV;rw[Jc];have h2:(putU (zBc (BlobS.len ⟨false,recF x.1⟩))).length≤10:=zEn _ (zDE (by simp[BlobS.len]<;>omega) (by simp[BlobS.len]<;>omega));simp only at*
 omega
theorem zJ3(n:Int)(h:fits (zAL n) 4):zAL n % 4294967296=n:=by
 by_cases h0:n<0∨4294967295<n
 ·exact absurd h (zLP n h0)
 ·unfold zAL;rw[if_neg h0]
  split<;>omega
theorem zP4(x:PreS)(hf:FitsAll x.items):preX (zAt x.items)=(x,2):=by
 have h1:=zIa x.items [] hf;rw[Jp]at h1;have h2:x.items.map (·.2)=zAQ:=rfl;rw[h2]at h1;have h3:=zJ3 x.sum (hf (zAL x.sum,4) (by simp[PreS.items]));unfold preX;rw[h1];simp only[PreS.items,List.map_cons,List.map_nil,zGB,h3]
theorem zBu(x:PreS):(zAt x.items).length=61:=by rw[zDP];rfl
theorem zKB(x:PreS)(hf:FitsAll x.items)(hl:49≤x.len)(hc:0≤x.count)(t:Bs):zC6 (zAt x.items++t)=.ok x:=by
 have h:=zHX (zAt x.items++t) (by rw[Jc,zBu];omega);rw[List.take_left' (zBu x)]at h;rw[←h];unfold zC6;rw[zP4 x hf,if_neg (by rw[zBu];omega),if_pos rfl,if_neg (by simp only;omega),if_neg (by simp only;omega)]
def BatS.rowsB (b:BatS):Bs:=b.recs.flatMap encR
def BatS.pre (b:BatS) (sum:Int):PreS:=⟨b.base,49+b.rowsB.length,b.leader,sum,zAY b.app b.txn b.ctl 3,b.last,b.first,b.maxt,b.prod,b.epoch,b.seq,b.recs.length⟩
def BatS.front (b:BatS) (sum:Int):Bs:=zAt [(b.base,8),(49+b.rowsB.length,4),(b.leader,4),(2,1),(zAL sum,4)]
def BatS.back (b:BatS):Bs:=zAt [(zAY b.app b.txn b.ctl 3,2),(b.last,4),(b.first,8),(b.maxt,8),(b.prod,8),(b.epoch,2),(b.seq,4),(b.recs.length,4)]
def BatS.crc (b:BatS):Nat:=(zAF 0#32 (b.back++b.rowsB)).toNat
def BatS.enc (b:BatS):Bs:=zAt (b.pre b.crc).items++b.rowsB
theorem BatS.pre_split(b:BatS)(s:Int):zAt (b.pre s).items=b.front s++b.back:=by
 have h:(b.pre s).items=[(b.base,8),(49+(b.rowsB.length:Int),4),(b.leader,4),(2,1),(zAL s,4)]++[(zAY b.app b.txn b.ctl 3,2),(b.last,4),(b.first,8),(b.maxt,8),(b.prod,8),(b.epoch,2),(b.seq,4),((b.recs.length:Int),4)]:=rfl;rw[h,zHE]
 rfl
theorem BatS.front_len(b:BatS)(s:Int):(b.front s).length=21:=by unfold BatS.front;rw[zDP];rfl
theorem BatS.pre_drop(b:BatS)(s:Int):(zAt (b.pre s).items).drop 21=b.back:=by rw[b.pre_split,List.drop_left' (b.front_len s)]
theorem BatS.crc_lt(b:BatS):b.crc<4294967296:=(zAF 0#32 (b.back++b.rowsB)).isLt
theorem zGQ{n:Int}{k:Nat}(h1:1≤k)(h8:k≤8)(lo: -half k≤n)(hi:n<half k):fits n k:=by
 refine⟨oM,oM,?_,?_⟩<;>rw[Int.toNat_natCast]<;>assumption
theorem zC0{b:BatS}(h:zAj b=0):b.placed=true∧(b.ctl=true→b.txn=true)∧b.signed=true∧zD0 b.recs=0:=by
 unfold zAj at h
 by_cases p1:b.placed=false
 ·rw[if_pos p1]at h;cases h
 rw[if_neg p1]at h
 by_cases p2:b.ctl=true∧b.txn=false
 ·rw[if_pos p2]at h;cases h
 rw[if_neg p2]at h
 by_cases p3:b.signed=false
 ·rw[if_pos p3]at h;cases h
 rw[if_neg p3]at h
 by_cases p4:b.ctl=true∧b.recs.length≠1
 ·rw[if_pos p4]at h;cases h
 rw[if_neg p4]at h
 by_cases p5:zD0 b.recs≠0
 ·rw[if_pos p5]at h;exact absurd h p5
 refine⟨by simpa using p1,fun hc=> ?_,by simpa using p3,Classical.not_not.1 p5⟩
 cases ht:b.txn with
 |true=>rfl
 |false=>exact absurd ⟨hc,ht⟩ p2
theorem zN7{b:BatS}(h:b.signed=true): -1≤b.prod∧(-1≤b.epoch∧b.epoch≤32767)∧(-1≤b.seq∧b.seq≤2147483647):=by
 unfold BatS.signed at h
 by_cases p:b.prod= -1
 ·rw[if_pos p]at h;have:=of_decide_eq_true h
  omega
 rw[if_neg p]at h
 by_cases q:b.prod<0∨¬(0≤b.epoch∧b.epoch≤32767)
 ·rw[if_pos q]at h;cases h
 rw[if_neg q]at h
 cases hc:b.ctl with
 |true=>
  rw[hc]at h;have h:decide (b.seq= -1)=true:=h;have:=of_decide_eq_true h
  omega
 |false=>
  rw[hc]at h;have h:decide (0≤b.seq∧b.seq≤2147483647)=true:=h;have:=of_decide_eq_true h
  omega
theorem zFq(a t c:Bool):(0≤zAY a t c 3∧zAY a t c 3≤63)∧zAi (zAY a t c 3) 3=a∧zAi (zAY a t c 3) 4=t∧zAi (zAY a t c 3) 5=c∧((c=true→t=true)→chk (zAY a t c 3)=0):=by
 cases a<;>cases t<;>cases c<;>decide
theorem zq14{p:Prop}(h:p:=by exact zGQ (by simp only;decide) (by simp only;decide) (by rw[h4];simp only;omega) (by rw[h4];simp only;omega)):p:=h
theorem zq18{p:Prop}(h:p:=by exact zGQ (by simp only;decide) (by simp only;decide) (by rw[h8];simp only;omega) (by rw[h8];simp only;omega)):p:=h
theorem BatS.fitsAll{b:BatS}(h:zAj b=0)(hR:b.R)(s:Int)(hs:0≤s∧s≤4294967295)(hz:b.rowsB.length≤1000000)(hn:b.recs.length≤1000000):FitsAll (b.pre s).items:=by
 obtain⟨p1,p2,p3,p4⟩:=zC0 h;have q1:=of_decide_eq_true p1;obtain⟨q2,q3,q4⟩:=zN7 p3;obtain⟨r1,r2,r3,r4,r5,r6,r7,r8⟩:=hR;unfold Rn at r1 r2 r3 r4 r5 r6 r7 r8;have qa:=(zFq b.app b.txn b.ctl).1;have h8:half 8=9223372036854775808:=by decide
 have h4:half 4=2147483648:=by decide
 have h2:half 2=32768:=by decide
 have h1:half 1=128:=by decide
 intro x hx;simp only[PreS.items,BatS.pre,List.mem_cons,List.not_mem_nil,or_false]at hx
 rcases hx with rfl|rfl|rfl|rfl|rfl|rfl|rfl|rfl|rfl|rfl|rfl|rfl|rfl
 ·exact zq18
 ·exact zq14
 ·exact zq14
 ·exact zGQ (by simp only;decide) (by simp only;decide) (by rw[h1];simp only;omega) (by rw[h1];simp only;omega)
 ·exact zJ4 s oM oM
 ·exact zGQ (by simp only;decide) (by simp only;decide) (by rw[h2];simp only;omega) (by rw[h2];simp only;omega)
 ·exact zq14
 ·exact zq18
 ·exact zq18
 ·exact zq18
 ·exact zGQ (by simp only;decide) (by simp only;decide) (by rw[h2];simp only;omega) (by rw[h2];simp only;omega)
 ·exact zq14
 ·exact zq14
theorem BatS.pre_R{b:BatS}(_:zAj b=0)(hR:b.R)(s:Int)(hs:0≤s∧s≤4294967295)(hz:b.rowsB.length≤1000000)(hn:b.recs.length≤1000000):(b.pre s).R:=by
 have qa:=(zFq b.app b.txn b.ctl).1;obtain⟨r1,r2,r3,r4,r5,r6,r7,r8⟩:=hR;unfold Rn at r1 r2 r3 r4 r5 r6 r7 r8;intro n hn;simp only[PreS.list,BatS.pre,List.mem_cons,List.not_mem_nil,or_false]at hn
 rcases hn with rfl|rfl|rfl|rfl|rfl|rfl|rfl|rfl|rfl|rfl|rfl|rfl<;>omega
theorem zNc:∀(rs:List RecS) (rows:Bs) (pos:Nat),pos≤rows.length→rows.drop pos=rs.flatMap encR→(∀x∈rs,x.R∧zA5 x=0∧x.sum≤1000000)→unp rs.length ⟨rows,pos,0⟩=.ok rs
 |[],rows,pos,hp,hd,_=>by
  have hz:rows.length - pos=0:=by rw[←Jh,hd];rfl
  show(if (⟨rows,pos,0⟩:InS).left=0 then Except.ok []else Except.error (10:Int))=Except.ok []
  rw[if_pos (by simp only[InS.left];exact hz)]
 |x::t,rows,pos,hp,hd,hx=>by
  obtain⟨hR,ho,hs⟩:=hx x sM;rw[Jg]at hd;have hr:=zOo x hR ho hs (t.flatMap encR);rw[←hd]at hr;obtain⟨hpm,hf⟩:=zGq.ok rows pos x _ hp hr;have hpos:=(zGn hr).2.2.2.2.1
  show(if (⟨rows,pos,0⟩:InS).left=0 then Except.error (10:Int)else if (⟨rows,pos,0⟩:InS).record.2.err=0 then zLg (⟨rows,pos,0⟩:InS).record.1 (unp t.length (⟨rows,pos,0⟩:InS).record.2)else Except.error (⟨rows,pos,0⟩:InS).record.2.err)=Except.ok (x::t)
  rw[if_neg (by simp only[InS.left];omega),hf];simp only[if_true];rw[zNc t rows _ hpm (by rw[←Jk,hd,List.drop_left]) (fun y hy=>hx y (by simp[hy]))]
  rfl
theorem zRe{b:BatS}(h:zAj b=0)(hf:∀x∈b.recs,x.R∧zA5 x=0∧x.sum≤1000000):asmB (b.pre b.crc) (zAt (b.pre b.crc).items) b.rowsB=.ok b:=by
 obtain⟨_,p2,_,_⟩:=zC0 h;obtain⟨_,a3,a4,a5,a6⟩:=zFq b.app b.txn b.ctl;have hu:=zNc b.recs b.rowsB 0 (Jd _) rfl hf;unfold asmB;rw[b.pre_drop];have e1:((zAF 0#32 (b.back++b.rowsB)).toNat:Int)=(b.pre b.crc).sum:=rfl;have e2:(b.pre b.crc).attr=zAY b.app b.txn b.ctl 3:=rfl;have e3:(b.pre b.crc).count.toNat=b.recs.length:=rfl;rw[if_neg (fun hh=>hh e1),e2,if_neg (fun hh=>hh (a6 p2)),e3,hu];simp only[a3,a4,a5];obtain⟨base,leader,app,txn,ctl,last,first,maxt,prod,epoch,sq,rs⟩:=b;exact if_pos h
theorem zOr{b:BatS}(h:zAj b=0)(hR:b.R)(hf:∀x∈b.recs,x.R∧zA5 x=0∧x.sum≤1000000)(hz:b.rowsB.length≤1000000)(hn:b.recs.length≤1000000)(t:Bs):zBI (b.enc++t)=.ok (b,b.enc.length):=by
 have hc:=b.crc_lt;have hfa:=BatS.fitsAll h hR b.crc oM hz hn;have hp:=zKB (b.pre b.crc) hfa (show(49:Int)≤49+(b.rowsB.length:Int) by omega) (show(0:Int)≤(b.recs.length:Int) by omega) (b.rowsB++t);rw[←Je]at hp;have hle:b.enc.length=61+b.rowsB.length:=by unfold BatS.enc;rw[Jc,zBu]
 have hl:((b.pre b.crc).len - 49).toNat=b.rowsB.length:=by show((49+(b.rowsB.length:Int)) - 49).toNat=_;omega
 unfold zBI;have hp2:zC6 (b.enc++t)=.ok (b.pre b.crc):=hp;rw[hp2];simp only;rw[hl,if_neg (by rw[Jc,hle];omega)]
 have t1:(b.enc++t).take 61=zAt (b.pre b.crc).items:=by
  unfold BatS.enc;rw[Je,List.take_left' (zBu _)]
 have t2:((b.enc++t).drop 61).take b.rowsB.length=b.rowsB:=by
  unfold BatS.enc;rw[Je,List.drop_left' (zBu _),List.take_left]
 rw[t1,t2,zRe h hf];simp only;rw[hle]
def FitW (l:List (RecS×Value)):Prop:=∀x∈l,x.1.R∧x.1.hdrs.length≤9223372036854775807∧HFit x.1.hdrs∧x.1.key.data.length≤140737488351232∧x.1.val.data.length≤140737488351232
def hAll:List HdrS→Bool
 |[]=>true
 |h::t=>decide (h.key.length+h.val.data.length≤100) && hAll t
def zCi (x:RecS):Bool:=decide (x.key.data.length+x.val.data.length≤100) && (decide (x.hdrs.length≤6) && hAll x.hdrs)
def rAll:List RecS→Bool
 |[]=>true
 |r::t=>zCi r && rAll t
def zBj (l:List RecS):Bool:=decide (l.length≤12) && rAll l
theorem zJm:∀(l:List HdrS),hAll l=true→hsum l≤101*l.length
 |[],_=>by simp[hsum]
 |h::t,hh=>by
  simp only[hAll,Bool.and_eq_true,decide_eq_true_eq]at hh;have:=zJm t hh.2;simp only[hsum,Jn,List.map_cons,List.sum_cons]at*
  omega
theorem zFQ:∀(l:List RecS),rAll l=true→∀x∈l,zCi x=true
 |[],_,_,h=>by cases h
 |r::t,hh,x,hx=>by
  simp only[rAll,Bool.and_eq_true]at hh
  rcases List.mem_cons.1 hx with rfl|hx
  ·exact hh.1
  ·exact zFQ t hh.2 x hx
theorem zFt{x:RecS}(h:zCi x=true):x.sum≤1000:=by
 unfold zCi at h;simp only[Bool.and_eq_true,decide_eq_true_eq]at h;have:=zJm _ h.2.2;unfold RecS.sum
 omega
theorem FitW.fit{l:List (RecS×Value)}(h:FitW l)(hs:zBj (l.map (·.1))=true):FitB l:=by
 intro x hx;unfold zBj at hs;simp only[Bool.and_eq_true]at hs;have h1:=zFt (zFQ _ hs.2 x.1 (List.mem_map.2 ⟨x,hx,rfl⟩));obtain⟨a,b,c,_⟩:=h x hx;exact⟨a,c,oM⟩
theorem zDA{l:List (RecS×Value)}(hs:zBj (l.map (·.1))=true):l.length≤12:=by
 unfold zBj at hs;simp only[Bool.and_eq_true,decide_eq_true_eq,Jj]at hs;exact hs.1
theorem zQU(l:List HdrS)(k:Nat)(h:k<l.length):l.drop k=l[k]::l.drop (k+1):=List.drop_eq_getElem_cons h
set_option maxHeartbeats 8000000
set_option maxRecDepth 100000
theorem zKR(base leader:Int)(app txn ctl:Bool)(last first maxt prod epoch sq:Int)(l:List (RecS×Value))(q:Option Addr)(cap:Nat)(r:Bool)(hr:zBj (l.map (·.1))=r)(hfit:FitW l){W0 w:World}{K:Know}{L:List Res}(hk:K.has (Know.recs (V q l.length cap) l))(h:St W0 w K L):
 Calls Jb 93 #[.agg #[I O base,I O leader,U app,U txn,U ctl,I O last,I O first,I O maxt,I O prod,I O epoch,I O sq,V q l.length cap]] w fun en w'=>en=Y (I O (if r then 1 else 0))∧St W0 w' K L:=by
 have HK:=hQd hk;have HFT:=hQd hfit;have h1:=h.allocRaw #[I O base,I O leader,U app,U txn,U ctl,I O last,I O first,I O maxt,I O prod,I O epoch,I O sq,V q l.length cap] 101;obtain⟨hb,hhb⟩:=eX w.heap.size;rw[hhb]at h1;obtain⟨x0,x1,x2,x3,x4,x5,x6,x7,x8,x9,x10,x11,y0,y1,y2,y3,y4,y5,y6,y7,y8,y9,y10,y11⟩:=zAf (b:=hb) (h1);have H:=hQd h1;clear h h1 hk hfit;unfold zBj at hr;rw[Jj]at hr
 by_cases hl:12<l.length
 ·have dl:decide ((12:Int)<(l.length:Int))=true:=decide_eq_true oM;obtain rfl:false=r:=by rw[←hr,decide_eq_false oM];rfl
  clear hr hl;go_enter Tryz.func93,Tryz.ntmps93;go_wp2;go_ret;exact⟨rfl,H.out.drop⟩
 have dl:decide ((12:Int)<(l.length:Int))=false:=decide_eq_false oM;have hll:(l.length:Int)≤12:=by omega
 rw[decide_eq_true oM,Bool.true_and]at hr;have HR:=hQd hr;clear hr hl;go_enter Tryz.func93,Tryz.ntmps93;go_wp2;clear x0 y0 x1 y1 x2 y2 x3 y3 x4 y4 x5 y5 x6 y6 x7 y7 x8 y8 x9 y9 x10 y10 x11 y11;go_loopw [4,6,14] (fun _ _ iv wr=>∃k:Nat,k≤l.length∧iv=I O k∧Hid (rAll ((l.map (·.1)).drop k)=r)∧St W0 wr K (.raw hb #[I O base,I O leader,U app,U txn,U ctl,I O last,I O first,I O maxt,I O prod,I O epoch,I O sq,V q l.length cap] 101::L)) (fun _ _ iv _=>l.length - (intOf iv).toNat)
 case atStart=>exact⟨0,Jd _,rfl,HR,H.out⟩
 case round=>
  obtain⟨k,hkl,rfl,HC,hst⟩:=hrel;clear H;have H:=hQd hst;clear hst
  by_cases hlt:k<l.length
  ·have hd:=zEA l k hlt _ rfl;obtain⟨b,off,hqq⟩:=zDZ HK.out H.out oM;subst hqq;obtain⟨⟨x,vx⟩,hx⟩:∃x,l[k]=x:=⟨_,rfl⟩;have cc:=zBp HK.out H.out k hlt (x,vx) hx;have hmem:(x,vx)∈l:=hx ▸ Ji hlt;have xf:x.R∧x.hdrs.length≤9223372036854775807∧HFit x.hdrs∧x.key.data.length≤140737488351232∧x.val.data.length≤140737488351232:=HFT.out (x,vx) hmem;have xk:K.has (Know.flat RHdr vx 3 x.hdrs):=zCb HK.out hmem;obtain⟨qx,capx,hvx⟩:=zAr xk H.out;subst hvx;simp only at cc;obtain⟨c0,c1,c2,c3,c4,c5,c6⟩:=cc;rw[←Jm]at c1 c2 c3 c4 c5 c6;have hx1:l[k].1=x:=by rw[hx]
   have XF:=hQd xf;have XK:=hQd xk;have HX:=hQd hx1;clear xf xk hx1 hx hmem;obtain⟨wE,hwE⟩:=eX wr.heap.size;have hki:(k:Int)<(l.length:Int):=by omega
   have h:=H.out.allocRaw #[I O x.time,I O x.off,U x.key.null,Z (bb x.key.data),U x.val.null,Z (bb x.val.data),V qx x.hdrs.length capx] 95;rw[hwE]at h;clear H;have H:=hQd h;clear h;rw[HX.out]at hd;have hc:=HC.out;rw[hd]at hc;have hc:(zCi x && rAll ((l.map (·.1)).drop (k+1)))=r:=hc;unfold zCi at hc;obtain⟨ec0,ec1,ec2,ec3,ec4,ec5,ec6,ef0,ef1,ef2,ef3,ef4,ef5,ef6⟩:=raw7 (b:=wE) (H.out);have xf2:=XF.out;obtain⟨_,hxl,_,hkl2,hvl2⟩:=xf2;have ws:wrap64 ((x.key.data.length:Int)+(x.val.data.length:Int))=(x.key.data.length:Int)+(x.val.data.length:Int):=by unfold wrap64;omega
   clear hd hxl hkl2 hvl2
   by_cases c1:100<x.key.data.length+x.val.data.length
   ·have d1:decide ((100:Int)<(x.key.data.length:Int)+(x.val.data.length:Int))=true:=decide_eq_true oM;have hfin:false=r:=by rw[←hc,decide_eq_false oM];rfl
    clear hc c1;obtain rfl:false=r:=hfin;go_wp2;go_ret;exact⟨rfl,H.out.drop.drop⟩
   have d1:decide ((100:Int)<(x.key.data.length:Int)+(x.val.data.length:Int))=false:=decide_eq_false oM;rw[decide_eq_true oM,Bool.true_and]at hc
   by_cases c2:6<x.hdrs.length
   ·have d2:decide ((6:Int)<(x.hdrs.length:Int))=true:=decide_eq_true oM;have hfin:false=r:=by rw[←hc,decide_eq_false oM];rfl
    clear hc c1 c2;obtain rfl:false=r:=hfin;go_wp2;go_ret;exact⟨rfl,H.out.drop.drop⟩
   have d2:decide ((6:Int)<(x.hdrs.length:Int))=false:=decide_eq_false oM;rw[decide_eq_true oM,Bool.true_and]at hc;have hh6:(x.hdrs.length:Int)≤6:=by omega
   have HC1:=hQd hc;clear hc c1 c2;go_wp2;clear ec0 ef0 ec1 ef1 ec2 ef2 ec3 ef3 ec4 ef4 ec5 ef5 ec6 ef6 c0 c3 c4 c5 c6;go_loopw [6,37] (fun _ iv wr=>∃j:Nat,j≤x.hdrs.length∧iv=I O j∧Hid ((hAll (x.hdrs.drop j) && rAll ((l.map (·.1)).drop (k+1)))=r)∧St W0 wr K (.raw wE #[I O x.time,I O x.off,U x.key.null,Z (bb x.key.data),U x.val.null,Z (bb x.val.data),V qx x.hdrs.length capx] 95::.raw hb #[I O base,I O leader,U app,U txn,U ctl,I O last,I O first,I O maxt,I O prod,I O epoch,I O sq,V (some ⟨b,off,none⟩) l.length cap] 101::L)) (fun _ iv _=>x.hdrs.length - (intOf iv).toNat)
   case atStart=>exact⟨0,Jd _,rfl,HC1,H.out⟩
   case round=>
    obtain⟨j,hjl,rfl,HJ,hst⟩:=hrel;clear H;have H:=hQd hst;clear hst
    by_cases hjt:j<x.hdrs.length
    ·obtain⟨bh,oh,hqh,g0,g1,g2⟩:=zDj XK.out H.out j hjt;subst hqh;have hhf:=XF.out.2.2.1 _ (Ji hjt);obtain⟨⟨hk,⟨hu,hv⟩⟩,hx⟩:∃y,x.hdrs[j]=y:=⟨_,rfl⟩;have hj:=HJ.out;rw[zQU _ _ hjt]at hj;rw[hx]at g0 g1 g2 hhf hj;have hj:((decide (hk.length+hv.length≤100) && hAll (x.hdrs.drop (j+1))) && rAll ((l.map (·.1)).drop (k+1)))=r:=hj;simp only at g0 g1 g2 hhf;obtain⟨b1,b2⟩:=hhf;have hji:(j:Int)<(x.hdrs.length:Int):=by omega
     have ws2:wrap64 ((hk.length:Int)+(hv.length:Int))=(hk.length:Int)+(hv.length:Int):=by unfold wrap64;omega
     clear b1 b2;have h:=H.out.allocRaw #[Z (bb hk),U hu,Z (bb hv)] 244;obtain⟨wH,hwH⟩:=eX wr.heap.size;rw[hwH]at h;obtain⟨u0,u1,u2⟩:=uR3 h;simp at u0 u1 u2;clear H;have H:=hQd h;clear h hx
     by_cases c1:100<hk.length+hv.length
     ·have d1:decide ((100:Int)<(hk.length:Int)+(hv.length:Int))=true:=decide_eq_true oM;have hfin:false=r:=by rw[←hj,decide_eq_false oM];rfl
      clear hj c1;obtain rfl:false=r:=hfin;go_wp2;go_ret;exact⟨rfl,H.out.drop.drop.drop⟩
     ·have d1:decide ((100:Int)<(hk.length:Int)+(hv.length:Int))=false:=decide_eq_false oM;rw[decide_eq_true oM,Bool.true_and]at hj;have HJ2:=hQd hj;clear hj c1;go_wp2;go_roundw
      case rel=>exact⟨j+1,hjt,by go_num,HJ2,H.out.drop⟩
      case measure=>first|(simp[intOf];done)|(simp[intOf];omega)
    ·obtain rfl:x.hdrs.length=j:=by omega
     have hj:=HJ.out;rw[List.drop_of_length_le (Nat.le_refl _)]at hj;have HC2:=hQd (show rAll ((l.map (·.1)).drop (k+1))=r from hj);clear hj;go_wp2;go_roundw
     case rel=>exact⟨k+1,hlt,by go_num,HC2,H.out.drop⟩
     case measure=>first|(simp[intOf];done)|(simp[intOf];omega)
  ·obtain rfl:l.length=k:=by omega
   have hc:=HC.out;rw[List.drop_of_length_le sM]at hc;obtain rfl:true=r:=hc;go_wp2;go_ret;exact⟨rfl,H.out.drop⟩
theorem zOP(x:RecS)(hx:x.R)(hs:x.sum≤1000):(encR x).length≤33000:=by
 have h1:=zGl x hx oM;have h2:=zDp ⟨false,recF x⟩ (by simp only;omega);simp only at h2;unfold encR
 omega
theorem zE3:∀(l:List RecS) (n:Nat),(∀x∈l,(encR x).length≤n)→(l.flatMap encR).length≤n*l.length
 |[],_,_=>by simp
 |x::t,n,h=>by
  rw[Jg,Jc,Jn,Nat.mul_succ];have h1:=zE3 t n (fun y hy=>h y (by simp[hy]));have h2:=h x sM
  omega
theorem zG1:∀(l:List (RecS×Value)),zBy l=(l.map (·.1)).flatMap encR
 |[]=>rfl
 |x::t=>by
  have:=zG1 t;unfold zBy at*;rw[Jg,List.map_cons,Jg,this]
structure SmallOk (b:BatS):Prop where
 fit:∀x∈b.recs,x.R∧zA5 x=0∧x.sum≤1000
 len:b.recs.length≤12
 err:zAj b=0
 rng:b.R
theorem SmallOk.rows{b:BatS}(h:SmallOk b):b.rowsB.length≤400000:=by
 have:=zE3 b.recs 33000 (fun x hx=>zOP x (h.fit x hx).1 (h.fit x hx).2.2);have h2:=h.len;unfold BatS.rowsB
 omega
theorem SmallOk.recs{b:BatS}(h:SmallOk b):∀x∈b.recs,x.R∧zA5 x=0∧x.sum≤1000000:=fun x hx=>⟨(h.fit x hx).1,(h.fit x hx).2.1,by have:=(h.fit x hx).2.2;omega⟩
theorem SmallOk.back{b:BatS}(h:SmallOk b)(t:Bs):zBI (b.enc++t)=.ok (b,b.enc.length):=
 zOr h.err h.rng h.recs (by have:=h.rows;omega) (by have:=h.len;omega) t
theorem BatS.enc_len(b:BatS):b.enc.length=61+b.rowsB.length:=by unfold BatS.enc;rw[Jc,zBu]
theorem SmallOk.elen{b:BatS}(h:SmallOk b):b.enc.length≤401000:=by rw[b.enc_len];have:=h.rows;omega
theorem SmallOk.of{b:BatS}{l:List (RecS×Value)}(hl:b.recs=l.map (·.1))(hw:FitW l)(hs:zBj (l.map (·.1))=true)(he:zAj b=0)(hR:b.R):SmallOk b where
 fit:=by
  intro x hx;rw[hl]at hx;have hf:=hw.fit hs;obtain⟨y,hy,rfl⟩:=List.mem_map.1 hx;have hr:=zIP _ (zC0 he).2.2.2;have hss:=hs;unfold zBj at hss;simp only[Bool.and_eq_true]at hss;exact⟨(hf y hy).1,hr y.1 (by rw[hl];exact hx),zFt (zFQ _ hss.2 y.1 hx)⟩
 len:=by rw[hl,Jj];exact zDA hs
 err:=he
 rng:=hR
theorem zH9{x:PreS}(h:FitsAll x.items):(⟨[],0⟩:OutS).ints x.items=⟨zAt x.items,0⟩:=by
 rw[OutS.ints_put _ _ h]
 rfl
theorem SmallOk.preX{b:BatS}(so:SmallOk b):(Go.Proofs.YteldcbljedeeiaaGreatDoor.preX b.enc).1=b.pre b.crc∧(Go.Proofs.YteldcbljedeeiaaGreatDoor.preX b.enc).2=2∧zC6 b.enc=.ok (b.pre b.crc):=by
 have hb:=so.back [];rw[Jp]at hb;obtain⟨x,hx,_⟩:=zCj hb;have hrow:=so.rows;have hlen:=so.len;have hcr:=b.crc_lt;have f1:=BatS.fitsAll so.err so.rng b.crc oM oM oM;have hp:=zKB (b.pre b.crc) f1 (show(49:Int)≤49+(b.rowsB.length:Int) by omega) (show(0:Int)≤(b.recs.length:Int) by omega) b.rowsB;have hp:zC6 b.enc=.ok (b.pre b.crc):=hp;obtain⟨_,h2,h3,_⟩:=zEl hp;exact⟨h2,h3,hp⟩
set_option maxHeartbeats 8000000
variable {W0 w:World}{K:Know}{L:List Res}
theorem zNh(p:Nat)(o:OutS)(s:Bs)(e:Int)(hx:o.text=(s,e))(h:St W0 w K (.out p o::L)):
 Calls Jb 49 #[zAc p] w fun en w'=>en=Y (.tuple #[Z (bb s),I O e])∧St W0 w' K (.out p o::L):=by
 have:=zGa p o h;rw[hx]at this;exact this
theorem zI1(p:Nat)(o o2:OutS)(a0 a1 a2 a3 a4 a5 a6 a7 a8 a9 a10 a11:Int)(hx:PreS.R ⟨a0,a1,a2,a3,a4,a5,a6,a7,a8,a9,a10,a11⟩)(ho:o.ints (PreS.items ⟨a0,a1,a2,a3,a4,a5,a6,a7,a8,a9,a10,a11⟩)=o2)(hr:o.ok 200)(h:St W0 w K (.out p o::L)):
 Calls Jb 140 #[zAc p,.agg #[I O a0,I O a1,I O a2,I O a3,I O a4,I O a5,I O a6,I O a7,I O a8,I O a9,I O a10,I O a11]] w fun en w'=>en=Y (.tuple #[])∧St W0 w' K (.out p o2::L):=by
 subst ho;exact zKH p o ⟨a0,a1,a2,a3,a4,a5,a6,a7,a8,a9,a10,a11⟩ hx h hr
theorem zHk(a0 a1 a2 a3 a4 a5 a6 a7 a8 a9 a10 a11:Int)(hx:PreS.R ⟨a0,a1,a2,a3,a4,a5,a6,a7,a8,a9,a10,a11⟩)(o2:OutS)(s:Bs)(e:Int)(ho:(⟨[],0⟩:OutS).ints (PreS.items ⟨a0,a1,a2,a3,a4,a5,a6,a7,a8,a9,a10,a11⟩)=o2)(ht:o2.text=(s,e))(h:St W0 w K L):
 Calls Jb 85 #[.agg #[I O a0,I O a1,I O a2,I O a3,I O a4,I O a5,I O a6,I O a7,I O a8,I O a9,I O a10,I O a11]] w fun en w'=>en=Y (.tuple #[Z (bb s),I O e])∧St W0 w' K L:=by
 have g1:=h.allocRaw #[I O a0,I O a1,I O a2,I O a3,I O a4,I O a5,I O a6,I O a7,I O a8,I O a9,I O a10,I O a11] 163;have g2:=g1.allocOut;obtain⟨hb,hhb⟩:=eX w.heap.size;obtain⟨po,hpo⟩:=eX (hb+1);simp only[World.size_alloc,hhb,hpo]at g2;obtain⟨x0,x1,x2,x3,x4,x5,x6,x7,x8,x9,x10,x11,y0,y1,y2,y3,y4,y5,y6,y7,y8,y9,y10,y11⟩:=zAf (b:=hb) (g2.p1);have H:=hQd g2;have HX:=hQd hx;have HO:=hQd ho;have HT:=hQd ht;have HR:=hQd (show(⟨[],0⟩:OutS).ok 200 by simp[OutS.ok]);clear g1 g2 h hx ho ht;go_enter Tryz.func85,Tryz.ntmps85
 go_wp2_with (first
  |(go_at_call 140;(with_reducible refine(zI1 po _ _ _ _ _ _ _ _ _ _ _ _ _ _ HX.out HO.out HR.out H.out).zM ?_);clear H;intro wn H)
  |(go_at_call 49;(with_reducible refine(zNh po _ _ _ HT.out H.out).zM ?_);clear H;intro wn H))
 go_ret2;exact⟨rfl,H.out.drop.drop⟩
theorem zSs(l:List (RecS×Value))(q:Option Addr)(cap:Nat)(rows:Bs)(hrows:zBy l=rows)(hc:zD0 (l.map (·.1))=0)(hfit:FitB l)(hll:l.length≤1000){W0 w:World}{K:Know}{L:List Res}(hk:K.has (Know.recs (V q l.length cap) l))(h:St W0 w K L):
 Calls Jb 83 #[V q l.length cap] w fun en w'=>en=Y (.tuple #[Z (bb rows),I O 0])∧St W0 w' K L:=by
 have g1:=h.allocOut;obtain⟨po,hpo⟩:=eX w.heap.size;rw[hpo]at g1;have H:=hQd g1;have HK:=hQd hk;have HFT:=hQd hfit;have HC:=hQd hc;have HRW:=hQd hrows;have HLL:=hQd hll;clear h g1 hk hfit hc hrows hll;go_enter Tryz.func83,Tryz.ntmps83;go_wp2;go_loopw [6,9] (fun _ iv wr=>∃k:Nat,k≤l.length∧iv=I O k∧St W0 wr K (.out po ⟨zBy (l.take k),0⟩::L)) (fun _ iv _=>l.length - (intOf iv).toNat)
 case atStart=>exact⟨0,Jd _,rfl,H.out⟩
 case round=>
  obtain⟨k,hkl,rfl,hst⟩:=hrel;clear H;have H:=hQd hst;clear hst
  by_cases hlt:k<l.length
  ·have OK:=hQd (show(⟨zBy (l.take k),0⟩:OutS).ok 40000000 by
    have h1:=zLa (l:=l.take k) (fun y hy=>HFT.out y (List.mem_of_mem_take hy));have h2:=HLL.out;rw[List.length_take]at h1;unfold OutS.ok;simp only
    omega)
   have hok:=zIP _ HC.out l[k].1 (List.mem_map.2 ⟨_,Ji hlt,rfl⟩);have het:=zMT l k hlt;have hll2:=HLL.out;obtain⟨b,off,hqq⟩:=zDZ HK.out H.out oM;subst hqq;obtain⟨⟨x,vx⟩,hx⟩:∃x,l[k]=x:=⟨_,rfl⟩;have cc:=zBp HK.out H.out k hlt (x,vx) hx;have hmem:(x,vx)∈l:=hx ▸ Ji hlt;have xf:x.R∧HFit x.hdrs∧x.sum≤1000000:=HFT.out (x,vx) hmem;have xk:K.has (Know.flat RHdr vx 3 x.hdrs):=zCb HK.out hmem;obtain⟨qx,capx,hvx⟩:=zAr xk H.out;subst hvx;simp only at cc;obtain⟨c0,c1,c2,c3,c4,c5,c6⟩:=cc;rw[←Jm]at c1 c2 c3 c4 c5 c6;have hx1:l[k].1=x:=by rw[hx]
   have XF:=hQd xf;have XK:=hQd xk;have HX:=hQd hx1;clear xf xk hx1 hx hmem;obtain⟨wE,hwE⟩:=eX wr.heap.size;have hki:(k:Int)<(l.length:Int):=by omega
   have h:=H.out.allocRaw #[I O x.time,I O x.off,U x.key.null,Z (bb x.key.data),U x.val.null,Z (bb x.val.data),V qx x.hdrs.length capx] 95;rw[hwE]at h;clear H;have H:=hQd h;clear h;rw[HX.out]at hok het;have EO:=hQd (show(⟨zBy (l.take k),0⟩:OutS).putRec x=⟨zBy (l.take (k+1)),0⟩ by rw[zMs _ _ hok,het]);have hll3:(l.length:Int)≤1000:=by omega
   obtain⟨ec0,ec1,ec2,ec3,ec4,ec5,ec6,ef0,ef1,ef2,ef3,ef4,ef5,ef6⟩:=raw7 (b:=wE) (H.out);clear hok het hll2;go_wp2_with (go_at_call 80;(with_reducible refine(zPU po _ _ x (V qx x.hdrs.length capx) XF.out.1 XF.out.2.2 EO.out OK.out XK.out H.out.p1).zM ?_);clear H;intro wn H);go_roundw
   case rel=>exact⟨k+1,hlt,by go_num,H.out.p1.drop⟩
   case measure=>first|(simp[intOf];done)|(simp[intOf];omega)
  ·obtain rfl:l.length=k:=by omega
   have h:=H.out;rw[List.take_length,HRW.out]at h;clear H;have H:=hQd h;clear h;have HT:=hQd (show(⟨rows,0⟩:OutS).text=(rows,0)from rfl);go_wp2_with (go_at_call 49;(with_reducible refine(zNh po _ _ _ HT.out H.out).zM ?_);clear H;intro wn H);go_ret2;exact⟨rfl,H.out.drop⟩
variable {W0 w:World}{K:Know}{L:List Res}
theorem zHI(base leader:Int)(app txn ctl:Bool)(last first maxt prod epoch sq:Int)(l:List (RecS×Value))(q:Option Addr)(cap:Nat)(e:Int)(he:zAj ⟨base,leader,app,txn,ctl,last,first,maxt,prod,epoch,sq,l.map (·.1)⟩=e)(h0:e≠0)(hmx:first≤9223372036854775807)(hfit:FitB l)(hll:l.length≤1000)(hk:K.has (Know.recs (V q l.length cap) l))(h:St W0 w K L):
 Calls Jb 39 #[.agg #[I O base,I O leader,U app,U txn,U ctl,I O last,I O first,I O maxt,I O prod,I O epoch,I O sq,V q l.length cap]] w fun en w'=>en=Y (.tuple #[Z ⟨#[]⟩,I O e])∧St W0 w' K L:=by
 have HK:=hQd hk;have HFT:=hQd hfit;have HLL:=hQd (show l.length≤1000000 by omega);have HMX:=hQd hmx;have HE:=hQd he;have gz:(e==0)=false:=by rw[beq_eq_false_iff_ne];exact h0
 have h1:=h.allocRaw #[I O base,I O leader,U app,U txn,U ctl,I O last,I O first,I O maxt,I O prod,I O epoch,I O sq,V q l.length cap] 101;obtain⟨hb,hhb⟩:=eX w.heap.size;rw[hhb]at h1;obtain⟨x0,x1,x2,x3,x4,x5,x6,x7,x8,x9,x10,x11,y0,y1,y2,y3,y4,y5,y6,y7,y8,y9,y10,y11⟩:=zAf (b:=hb) (h1);have H:=hQd h1;clear h h1 hk hfit hll hmx he h0;go_enter Tryz.func39,Tryz.ntmps39;go_wp2_with (go_at_call 82;(with_reducible refine(zBA _ _ _ _ _ _ _ _ _ _ _ l _ _ e HE.out HMX.out HFT.out HLL.out HK.out H.out).zM ?_);clear H;intro wn H;obtain⟨x0,x1,x2,x3,x4,x5,x6,x7,x8,x9,x10,x11,y0,y1,y2,y3,y4,y5,y6,y7,y8,y9,y10,y11⟩:=zAf (b:=hb) (H.out));go_ret2;exact⟨rfl,H.out.drop⟩
theorem zJM(base leader:Int)(app txn ctl:Bool)(last first maxt prod epoch sq:Int)(l:List (RecS×Value))(q:Option Addr)(cap:Nat)(he:zAj ⟨base,leader,app,txn,ctl,last,first,maxt,prod,epoch,sq,l.map (·.1)⟩=0)(hmx:first≤9223372036854775807)(hfit:FitB l)(hll:l.length≤1000)(rows said0 said1 all:Bs)(x:Nat)(at_:Int)(hrc:zD0 (l.map (·.1))=0)(hrw:zBy l=rows)(hrl:rows.length≤100000000)(hat:zAY app txn ctl 3=at_)
 (r0:PreS.R ⟨base,49+rows.length,leader,0,at_,last,first,maxt,prod,epoch,sq,l.length⟩)(r1:PreS.R ⟨base,49+rows.length,leader,x,at_,last,first,maxt,prod,epoch,sq,l.length⟩)(o0:(⟨[],0⟩:OutS).ints (PreS.items ⟨base,49+rows.length,leader,0,at_,last,first,maxt,prod,epoch,sq,l.length⟩)=⟨said0,0⟩)(o1:(⟨[],0⟩:OutS).ints (PreS.items ⟨base,49+rows.length,leader,x,at_,last,first,maxt,prod,epoch,sq,l.length⟩)=⟨said1,0⟩)(l0:said0.length=61)(l1:said1.length=61)(hx:(zAF 0#32 (said0.drop 21++rows)).toNat=x)(hall:said1++rows=all)(hk:K.has (Know.recs (V q l.length cap) l))(h:St W0 w K L):
 Calls Jb 39 #[.agg #[I O base,I O leader,U app,U txn,U ctl,I O last,I O first,I O maxt,I O prod,I O epoch,I O sq,V q l.length cap]] w fun en w'=>en=Y (.tuple #[Z (bb all),I O 0])∧St W0 w' K L:=by
 have HK:=hQd hk;have HFT:=hQd hfit;have HLL:=hQd (show l.length≤1000000 by omega);have HL1:=hQd hll;have HMX:=hQd hmx;have HE:=hQd he;have HRW:=hQd hrw;have HRC:=hQd hrc;have AT:=hQd hat;have HSZ:=hQd (show rows.length≤140737488355328 by omega);have R0:=hQd r0;have R1:=hQd r1;have O0:=hQd o0;have O1:=hQd o1;have T0:=hQd (show(⟨said0,0⟩:OutS).text=(said0,0)from rfl);have T1:=hQd (show(⟨said1,0⟩:OutS).text=(said1,0)from rfl);have HX:=hQd hx;have HS21:=hQd (show 21≤said0.length by omega);have HS2:=hQd (show said0.length≤140737488355328 by omega);have HR2:=hQd (show rows.length≤140737488355328 by omega);have HALL:=hQd hall;have hcat:bb said1++bb rows=bb all:=by rw[←hall];exact zLz _ _
 have hg:¬(9223372036854775807<said1.length+rows.length):=by omega
 have t1:True:=trivial;have h1:=h.allocRaw #[I O base,I O leader,U app,U txn,U ctl,I O last,I O first,I O maxt,I O prod,I O epoch,I O sq,V q l.length cap] 101;obtain⟨hb,hhb⟩:=eX w.heap.size;rw[hhb]at h1;obtain⟨x0,x1,x2,x3,x4,x5,x6,x7,x8,x9,x10,x11,y0,y1,y2,y3,y4,y5,y6,y7,y8,y9,y10,y11⟩:=zAf (b:=hb) (h1);have H:=hQd h1;clear h h1 hk hfit hll hmx he hrw hrc hat r0 r1 o0 o1 l0 l1 hx hall hrl;go_enter Tryz.func39,Tryz.ntmps39
 go_wp2_with (first
  |(go_at_call 82;(with_reducible refine(zBA _ _ _ _ _ _ _ _ _ _ _ l _ _ 0 HE.out HMX.out HFT.out HLL.out HK.out H.out).zM ?_);clear H;intro wn H;obtain⟨x0,x1,x2,x3,x4,x5,x6,x7,x8,x9,x10,x11,y0,y1,y2,y3,y4,y5,y6,y7,y8,y9,y10,y11⟩:=zAf (b:=hb) (H.out))
  |(go_at_call 83;(with_reducible refine(zSs l _ _ rows HRW.out HRC.out HFT.out HL1.out HK.out H.out).zM ?_);clear H;intro wn H;obtain⟨x0,x1,x2,x3,x4,x5,x6,x7,x8,x9,x10,x11,y0,y1,y2,y3,y4,y5,y6,y7,y8,y9,y10,y11⟩:=zAf (b:=hb) (H.out))
  |(go_at_call 84;(with_reducible refine(zSt _ _ _ _ _ _ _ _ _ _ _ l _ _ rows.length HSZ.out H.out).mono ?_);rw[AT.out];rintro e_ wn ⟨rfl,h⟩;have h:=h.allocRaw #[I O base,I O (49+rows.length),I O leader,I O 0,I O at_,I O last,I O first,I O maxt,I O prod,I O epoch,I O sq,I O l.length] 163;obtain⟨pb,hpb⟩:=eX wn.heap.size;rw[hpb]at h;replace H:=hQd h;clear h;obtain⟨p0,p1,p2,p3,p4,p5,p6,p7,p8,p9,p10,p11,u0,u1,u2,u3,u4,u5,u6,u7,u8,u9,u10,u11⟩:=zAf (b:=pb) (H.out))
  |(go_at_call 85;have _t:=t1;clear _t;(with_reducible refine(zHk _ _ _ _ _ _ _ _ _ _ _ _ R0.out _ _ _ O0.out T0.out H.out).zM ?_);clear H;intro wn H;obtain⟨p0,p1,p2,p3,p4,p5,p6,p7,p8,p9,p10,p11,u0,u1,u2,u3,u4,u5,u6,u7,u8,u9,u10,u11⟩:=zAf (b:=pb) (H.out);have t2:True:=trivial;clear t1)
  |(go_at_call 86;(with_reducible refine(zQ9 said0 rows x HX.out HS21.out HS2.out HR2.out H.out).zM ?_);clear H;intro wn H;obtain⟨p0,p1,p2,p3,p4,p5,p6,p7,p8,p9,p10,p11,u0,u1,u2,u3,u4,u5,u6,u7,u8,u9,u10,u11⟩:=zAf (b:=pb) (H.out);have h3:St W0 _ K (.raw pb #[I O base,I O (49+rows.length),I O leader,I O x,I O at_,I O last,I O first,I O maxt,I O prod,I O epoch,I O sq,I O l.length] 163::_):=H.out.rawSet 3 (I O x);obtain⟨a0,a1,a2,a3,a4,a5,a6,a7,a8,a9,a10,a11,f0,f1,f2,f3,f4,f5,f6,f7,f8,f9,f10,f11⟩:=zAf (b:=pb) (h3);clear h3)
  |(go_at_call 85;have _t:=t2;clear _t;(with_reducible refine(zHk _ _ _ _ _ _ _ _ _ _ _ _ R1.out _ _ _ O1.out T1.out (H.out.rawSet 3 (I O x))).zM ?_);clear H;intro wn H;clear t2))
 go_ret2;exact⟨rfl,H.out.drop.drop⟩
theorem zHH(b:BatS)(l:List (RecS×Value))(q:Option Addr)(cap:Nat)(hl:l.map (·.1)=b.recs)(so:SmallOk b){W0 w:World}{K:Know}{L:List Res}(hk:K.has (Know.recs (V q l.length cap) l))(h:St W0 w K L):
 Calls Jb 39 #[.agg #[I O b.base,I O b.leader,U b.app,U b.txn,U b.ctl,I O b.last,I O b.first,I O b.maxt,I O b.prod,I O b.epoch,I O b.seq,V q l.length cap]] w fun en w'=>en=Y (.tuple #[Z (bb b.enc),I O 0])∧St W0 w' K L:=by
 have hrow:=so.rows;have hlen:=so.len;have hcr:=b.crc_lt;have hml:l.length=b.recs.length:=by rw[←hl,Jj]
 have f0:=BatS.fitsAll so.err so.rng 0 dD oM oM;have f1:=BatS.fitsAll so.err so.rng b.crc oM oM oM;have r0:=BatS.pre_R so.err so.rng 0 dD oM oM;have r1:=BatS.pre_R so.err so.rng b.crc oM oM oM;have hmx:b.first≤9223372036854775807:=by have:=so.rng.2.2.2.1.2;omega
 have e0:b.pre 0=(⟨b.base,49+(b.rowsB.length:Int),b.leader,0,zAY b.app b.txn b.ctl 3,b.last,b.first,b.maxt,b.prod,b.epoch,b.seq,(l.length:Int)⟩:PreS):=by unfold BatS.pre;rw[hml]
 have e1:b.pre b.crc=(⟨b.base,49+(b.rowsB.length:Int),b.leader,(b.crc:Int),zAY b.app b.txn b.ctl 3,b.last,b.first,b.maxt,b.prod,b.epoch,b.seq,(l.length:Int)⟩:PreS):=by unfold BatS.pre;rw[hml]
 have i0:=zH9 f0;have i1:=zH9 f1;have hd0:=b.pre_drop 0;have l0:=zBu (b.pre 0);have l1:=zBu (b.pre b.crc);have he:zAj ⟨b.base,b.leader,b.app,b.txn,b.ctl,b.last,b.first,b.maxt,b.prod,b.epoch,b.seq,l.map (·.1)⟩=0:=by rw[hl];exact so.err
 have hrc:zD0 (l.map (·.1))=0:=by rw[hl];exact(zC0 so.err).2.2.2
 have hrw:zBy l=b.rowsB:=by rw[zG1,hl];rfl
 have hfb:FitB l:=by
  intro x hx;obtain⟨a,c,d⟩:=so.fit x.1 (by rw[←hl];exact List.mem_map.2 ⟨x,hx,rfl⟩);have:=zJi x.1.hdrs 1000 (by unfold RecS.sum at d;omega);exact⟨a,fun y hy=>by have:=this y hy;omega,oM⟩
 have hall:zAt (b.pre b.crc).items++b.rowsB=b.enc:=rfl;have hx:(zAF 0#32 ((zAt (b.pre 0).items).drop 21++b.rowsB)).toNat=b.crc:=by rw[hd0];rfl
 rw[e0]at r0 i0;rw[e1]at r1 i1;obtain⟨s0,hs0⟩:=eX (zAt (b.pre 0).items);obtain⟨s1,hs1⟩:=eX (zAt (b.pre b.crc).items);have g0:zAt (⟨b.base,49+(b.rowsB.length:Int),b.leader,0,zAY b.app b.txn b.ctl 3,b.last,b.first,b.maxt,b.prod,b.epoch,b.seq,(l.length:Int)⟩:PreS).items=s0:=e0 ▸ hs0;have g1:zAt (⟨b.base,49+(b.rowsB.length:Int),b.leader,(b.crc:Int),zAY b.app b.txn b.ctl 3,b.last,b.first,b.maxt,b.prod,b.epoch,b.seq,(l.length:Int)⟩:PreS).items=s1:=e1 ▸ hs1;rw[g0]at i0;rw[g1]at i1;rw[hs0]at hx l0;rw[hs1]at hall l1;exact zJM b.base b.leader b.app b.txn b.ctl b.last b.first b.maxt b.prod b.epoch b.seq l q cap he hmx hfb oM b.rowsB s0 s1 b.enc b.crc (zAY b.app b.txn b.ctl 3) hrc hrw oM rfl r0 r1 i0 i1 l0 l1 hx hall hk h
def AgreeB (a b:Bs) (first n:Nat):Prop:=b.take 21=a.take 21∧∀i,(i<first∨first+n≤i)→(zSM (a.drop 21)).getD i false=(zSM (b.drop 21)).getD i false
theorem AgreeB.refl(a:Bs)(f:Nat):AgreeB a a f 0:=⟨rfl,fun _ _=>rfl⟩
theorem AgreeB.step{a b:Bs}{f n:Nat}(h:AgreeB a b f n):AgreeB a b f (n+1):=⟨h.1,fun i hi=>h.2 i oM⟩
theorem zHl(b:BatS)(s:Bs)(hs:b.enc=s)(l:List (RecS×Value))(q:Option Addr)(cap:Nat)(hl:l.map (·.1)=b.recs)(so:SmallOk b){W0 w:World}{K:Know}{L:List Res}(hk:K.has (Know.recs (V q l.length cap) l))(h:St W0 w K L):
 Calls Jb 39 #[.agg #[I O b.base,I O b.leader,U b.app,U b.txn,U b.ctl,I O b.last,I O b.first,I O b.maxt,I O b.prod,I O b.epoch,I O b.seq,V q l.length cap]] w fun en w'=>en=Y (.tuple #[Z (bb s),I O 0])∧St W0 w' K L:=by
 subst hs;exact zHH b l q cap hl so hk h
structure BatR where
 b:BatS
 l:List (RecS×Value)
 q:Option Addr
 cap:Nat
def RBat (cs:List Value) (x:BatR):Prop:=cs=[I O x.b.base,I O x.b.leader,U x.b.app,U x.b.txn,U x.b.ctl,I O x.b.last,I O x.b.first,I O x.b.maxt,I O x.b.prod,I O x.b.epoch,I O x.b.seq,V x.q x.l.length x.cap]
def BatR.Fit (x:BatR):Prop:=x.b.R∧FitW x.l∧x.l.map (·.1)=x.b.recs
def Know.bats (v:Value) (l:List BatR):Know:=(Know.flat RBat v 12 l).and (Know.all l fun x=>Know.recs (V x.q x.l.length x.cap) x.l)
theorem zLA{K:Know}{v:Value}{l:List BatR}(h:K.has (Know.bats v l)):K.has (Know.flat RBat v 12 l):=fun w F x=>(h w F x).1
theorem zDt{K:Know}{v:Value}{l:List BatR}(h:K.has (Know.bats v l)){x:BatR}(hx:x∈l):K.has (Know.recs (V x.q x.l.length x.cap) x.l):=fun w F y=>(h w F y).2 x hx
theorem zHj{q:Option Addr}{n cap:Nat}{l:List BatR}(hk:K.has (Know.bats (V q n cap) l))(h:St W0 w K L)(h0:0<l.length):∃b off,q=some ⟨b,off,none⟩:=by
 obtain⟨F,hF,_⟩:=h.get;obtain⟨q2,cap2,hv,hr⟩:=(zLA hk _ _ hF).at;obtain⟨b,off,hq,_⟩:=hr h0;simp at hv;exact⟨b,off,hv.1.trans hq⟩
theorem zDu{b off n cap:Nat}{l:List BatR}(hk:K.has (Know.bats (V (some ⟨b,off,none⟩) n cap) l))(h:St W0 w K L)(i:Nat)(hi:i<l.length)(x:BatR)(hx:l[i]=x):
 w.cell? ⟨b,off+i*12,none⟩=some (I O x.b.base)∧w.cell? ⟨b,off+i*12+1,none⟩=some (I O x.b.leader)∧w.cell? ⟨b,off+i*12+2,none⟩=some (U x.b.app)∧w.cell? ⟨b,off+i*12+3,none⟩=some (U x.b.txn)∧w.cell? ⟨b,off+i*12+4,none⟩=some (U x.b.ctl)∧w.cell? ⟨b,off+i*12+5,none⟩=some (I O x.b.last)∧w.cell? ⟨b,off+i*12+6,none⟩=some (I O x.b.first)∧w.cell? ⟨b,off+i*12+7,none⟩=some (I O x.b.maxt)∧w.cell? ⟨b,off+i*12+8,none⟩=some (I O x.b.prod)∧w.cell? ⟨b,off+i*12+9,none⟩=some (I O x.b.epoch)∧w.cell? ⟨b,off+i*12+10,none⟩=some (I O x.b.seq)∧w.cell? ⟨b,off+i*12+11,none⟩=some (V x.q x.l.length x.cap):=by
 subst hx;obtain⟨F,hF,_⟩:=h.get;obtain⟨q2,cap2,hv,hr⟩:=(zLA hk _ _ hF).at;obtain⟨b2,off2,hq,hc⟩:=hr oM;rw[hq]at hv;simp at hv;obtain⟨⟨rfl,rfl⟩,_,_⟩:=hv;obtain⟨cs,_,hR,hcs⟩:=hc i hi;unfold RBat at hR;subst hR;refine⟨?_,?_,?_,?_,?_,?_,?_,?_,?_,?_,?_,?_⟩
 ·exact hcs 0 _ rfl
 ·rw[Jm];exact hcs 1 _ rfl
 ·rw[Jm];exact hcs 2 _ rfl
 ·rw[Jm];exact hcs 3 _ rfl
 ·rw[Jm];exact hcs 4 _ rfl
 ·rw[Jm];exact hcs 5 _ rfl
 ·rw[Jm];exact hcs 6 _ rfl
 ·rw[Jm];exact hcs 7 _ rfl
 ·rw[Jm];exact hcs 8 _ rfl
 ·rw[Jm];exact hcs 9 _ rfl
 ·rw[Jm];exact hcs 10 _ rfl
 ·rw[Jm];exact hcs 11 _ rfl
def errB:List BatR→Int
 |[]=>0
 |x::t=>if zAj x.b=0 then errB t else zAj x.b
def encB (l:List BatR):Bs:=l.flatMap fun x=>x.b.enc
def allB (l:List BatR):Bs×Int:=if errB l=0 then(encB l,0)else([],errB l)
theorem zMS(l m:List BatR):encB (l++m)=encB l++encB m:=List.flatMap_append
theorem zSi(x:BatR):encB [x]=x.b.enc:=by unfold encB;rw[Jg,List.flatMap_nil,Jp]
theorem zG0(x:BatR)(t:List BatR):encB (x::t)=x.b.enc++encB t:=rfl
theorem zQL(l:List BatR)(k:Nat)(h:k<l.length):encB (l.take (k+1))=encB (l.take k)++l[k].b.enc:=by
 rw[Jf h,zMS,zSi]
theorem zMM(l m:List BatR)(h:errB l=0):errB (l++m)=errB m:=by
 induction l with
 |nil=>rfl
 |cons x t ih=>
  have hx:(if zAj x.b=0 then errB t else zAj x.b)=0:=h
  show(if zAj x.b=0 then errB (t++m)else zAj x.b)=_
  by_cases h1:zAj x.b=0
  ·rw[if_pos h1]at hx ⊢;exact ih hx
  ·rw[if_neg h1]at hx;exact absurd hx h1
theorem zHD(l m:List BatR)(h:errB l≠0):errB (l++m)=errB l:=by
 induction l with
 |nil=>exact absurd rfl h
 |cons x t ih=>
  have hx:(if zAj x.b=0 then errB t else zAj x.b)≠0:=h
  show(if zAj x.b=0 then errB (t++m)else zAj x.b)=if zAj x.b=0 then errB t else zAj x.b
  by_cases h1:zAj x.b=0
  ·rw[if_pos h1]at hx;rw[if_pos h1,if_pos h1];exact ih hx
  ·rw[if_neg h1,if_neg h1]
theorem zK5(l:List BatR)(k:Nat)(h:k<l.length)(h0:errB (l.take k)=0):errB (l.take (k+1))=zAj l[k].b:=by
 rw[Jf h,zMM _ _ h0]
 show(if zAj l[k].b=0 then 0 else zAj l[k].b)=_
 by_cases h1:zAj l[k].b=0
 ·rw[if_pos h1,h1]
 ·rw[if_neg h1]
theorem zTk(l:List BatR)(k:Nat)(h:k<l.length)(h0:errB (l.take k)=0)(h1:zAj l[k].b≠0):errB l=zAj l[k].b:=by
 have e:errB l=errB (l.take (k+1)++l.drop (k+1)):=by rw[List.take_append_drop]
 have h2:=zK5 l k h h0;rw[e,zHD _ _ (by rw[h2];exact h1),h2]
theorem zNI:∀(l:List BatR),errB l=0→∀x∈l,zAj x.b=0
 |[],_,_,h=>by cases h
 |y::t,hh,x,hx=>by
  have hh:(if zAj y.b=0 then errB t else zAj y.b)=0:=hh
  by_cases h1:zAj y.b=0
  ·rw[if_pos h1]at hh
   rcases List.mem_cons.1 hx with rfl|hx
   ·exact h1
   ·exact zNI t hh x hx
  ·rw[if_neg h1]at hh;exact absurd hh h1
theorem zQM:∀(l:List BatR),(∀x∈l,x.b.enc.length≤401000)→(encB l).length≤401000*l.length
 |[],_=>by simp[encB]
 |x::t,h=>by
  have h1:=zQM t (fun y hy=>h y (by simp[hy]));have h2:=h x sM;have e:encB (x::t)=x.b.enc++encB t:=rfl;rw[e,Jc,Jn]
  omega
theorem BatR.small{x:BatR}(hf:x.Fit)(hs:zBj (x.l.map (·.1))=true)(he:zAj x.b=0):SmallOk x.b:=SmallOk.of hf.2.2.symm hf.2.1 hs he hf.1
theorem zMN(x:RecS)(hx:x.R)(hs:zCi x=true):(encR x).length≤1100:=by
 unfold zCi at hs;simp only[Bool.and_eq_true,decide_eq_true_eq]at hs;obtain⟨s1,s2,s3⟩:=hs;have hm:=zJm _ s3;have h0:=zDi x.hdrs;have h1:=zFk x.time hx.1;have h2:=zFk x.off hx.2;have h3:=zDp x.key oM;have h4:=zDp x.val oM;have h5:=zJu x.hdrs oM;have h8:=zFk x.hdrs.length oM
 have h6:(recF x).length≤1060:=by
  unfold recF zD5;simp only[Jc,Jn,List.length_nil]
  omega
 have h7:=zDp ⟨false,recF x⟩ (by simp only;omega);simp only at h7;unfold encR
 omega
theorem BatR.elen{x:BatR}(hf:x.Fit)(hs:zBj (x.l.map (·.1))=true):x.b.enc.length≤14000:=by
 rw[x.b.enc_len];unfold zBj at hs;simp only[Bool.and_eq_true,decide_eq_true_eq]at hs;rw[hf.2.2]at hs
 have h1:=zE3 x.b.recs 1100 (fun y hy=>zMN y (by
  have hy2:y∈x.l.map (·.1):=hf.2.2 ▸ hy;obtain⟨z,hz,rfl⟩:=List.mem_map.1 hy2
  exact(hf.2.1 z hz).1) (zFQ _ hs.2 y hy))
 unfold BatS.rowsB
 omega
theorem zNK:∀(l:List BatR),(∀x∈l,x.Fit)→(∀x∈l,zBj (x.l.map (·.1))=true)→(encB l).length≤14000*l.length
 |[],_,_=>by simp[encB]
 |x::t,hf,hs=>by
  have h1:=zNK t (fun y hy=>hf y (by simp[hy])) (fun y hy=>hs y (by simp[hy]));have h2:=BatR.elen (hf x sM) (hs x sM);have e:encB (x::t)=x.b.enc++encB t:=rfl;rw[e,Jc,Jn]
  omega
structure PartR where
 idx:Int
 l:List BatR
 q:Option Addr
 cap:Nat
def zM8 (cs:List Value) (x:PartR):Prop:=cs=[I O x.idx,V x.q x.l.length x.cap]
def zNv (x:PartR):List Value:=[I O x.idx,V x.q x.l.length x.cap]
def Know.pparts (v:Value) (l:List PartR):Know:=(Know.flat zM8 v 2 l).and (Know.all l fun x=>Know.bats (V x.q x.l.length x.cap) x.l)
structure PTop where
 name:Bs
 l:List PartR
 q:Option Addr
 cap:Nat
def zLG (cs:List Value) (x:PTop):Prop:=cs=[Z (bb x.name),V x.q x.l.length x.cap]
def zE8 (x:PTop):List Value:=[Z (bb x.name),V x.q x.l.length x.cap]
def Know.ptops (v:Value) (l:List PTop):Know:=(Know.flat zLG v 2 l).and (Know.all l fun x=>Know.pparts (V x.q x.l.length x.cap) x.l)
theorem zGC{K:Know}{v:Value}{l:List PartR}(h:K.has (Know.pparts v l)):K.has (Know.flat zM8 v 2 l):=fun w F x=>(h w F x).1
theorem zBh{K:Know}{v:Value}{l:List PartR}(h:K.has (Know.pparts v l)){x:PartR}(hx:x∈l):K.has (Know.bats (V x.q x.l.length x.cap) x.l):=fun w F y=>(h w F y).2 x hx
theorem zH0{K:Know}{v:Value}{l:List PTop}(h:K.has (Know.ptops v l)):K.has (Know.flat zLG v 2 l):=fun w F x=>(h w F x).1
theorem zA7{K:Know}{v:Value}{l:List PTop}(h:K.has (Know.ptops v l)){x:PTop}(hx:x∈l):K.has (Know.pparts (V x.q x.l.length x.cap) x.l):=fun w F y=>(h w F y).2 x hx
theorem zBW{q:Option Addr}{n cap:Nat}{l:List PartR}(hk:K.has (Know.pparts (V q n cap) l))(h:St W0 w K L)(h0:0<l.length):∃b off,q=some ⟨b,off,none⟩:=by
 obtain⟨F,hF,_⟩:=h.get;obtain⟨q2,cap2,hv,hr⟩:=(zGC hk _ _ hF).at;obtain⟨b,off,hq,_⟩:=hr h0;simp at hv;exact⟨b,off,hv.1.trans hq⟩
theorem zCk{q:Option Addr}{n cap:Nat}{l:List PTop}(hk:K.has (Know.ptops (V q n cap) l))(h:St W0 w K L)(h0:0<l.length):∃b off,q=some ⟨b,off,none⟩:=by
 obtain⟨F,hF,_⟩:=h.get;obtain⟨q2,cap2,hv,hr⟩:=(zH0 hk _ _ hF).at;obtain⟨b,off,hq,_⟩:=hr h0;simp at hv;exact⟨b,off,hv.1.trans hq⟩
theorem zA8{b off n cap:Nat}{l:List PartR}(hk:K.has (Know.pparts (V (some ⟨b,off,none⟩) n cap) l))(h:St W0 w K L)(i:Nat)(hi:i<l.length)(x:PartR)(hx:l[i]=x):
 w.cell? ⟨b,off+i*2,none⟩=some (I O x.idx)∧w.cell? ⟨b,off+i*2+1,none⟩=some (V x.q x.l.length x.cap):=by
 subst hx;obtain⟨F,hF,_⟩:=h.get;obtain⟨q2,cap2,hv,hr⟩:=(zGC hk _ _ hF).at;obtain⟨b2,off2,hq,hc⟩:=hr oM;rw[hq]at hv;simp at hv;obtain⟨⟨rfl,rfl⟩,_,_⟩:=hv;obtain⟨cs,_,hR,hcs⟩:=hc i hi;unfold zM8 at hR;subst hR;exact⟨hcs 0 _ rfl,by rw[Jm];exact hcs 1 _ rfl⟩
theorem zBl{b off n cap:Nat}{l:List PTop}(hk:K.has (Know.ptops (V (some ⟨b,off,none⟩) n cap) l))(h:St W0 w K L)(i:Nat)(hi:i<l.length)(x:PTop)(hx:l[i]=x):
 w.cell? ⟨b,off+i*2,none⟩=some (Z (bb x.name))∧w.cell? ⟨b,off+i*2+1,none⟩=some (V x.q x.l.length x.cap):=by
 subst hx;obtain⟨F,hF,_⟩:=h.get;obtain⟨q2,cap2,hv,hr⟩:=(zH0 hk _ _ hF).at;obtain⟨b2,off2,hq,hc⟩:=hr oM;rw[hq]at hv;simp at hv;obtain⟨⟨rfl,rfl⟩,_,_⟩:=hv;obtain⟨cs,_,hR,hcs⟩:=hc i hi;unfold zLG at hR;subst hR;exact⟨hcs 0 _ rfl,by rw[Jm];exact hcs 1 _ rfl⟩
def zEj:Int→List PartR→Bool
 | _,[]=>true
 |a,x::t=>decide (a<x.idx) && decide (x.idx≤2147483647) && zEj x.idx t
def errT:Bs→List PTop→Int
 | _,[]=>0
 |a,x::t=>if x.l.length=0 then 10 else if (zAu x.name && Op.bytesLess a x.name && zEj (-1) x.l)=true then errT x.name t else 13
def zBx (l:List PTop):Int:=if l.length=0 then 10 else errT [] l
def zDo (txn:Bool):List BatR→Int
 |[]=>0
 |x::t=>if zAj x.b≠0 then zAj x.b else if x.b.ctl=true then 12 else if x.b.txn≠txn then 8 else zDo txn t
def zDn (txn:Bool) (v:Int):List PartR→Int
 |[]=>0
 |x::t=>if x.l.length=0∨(v=3∧1<x.l.length)then 10 else if zDo txn x.l≠0 then zDo txn x.l else zDn txn v t
def zD4 (txn:Bool) (v:Int):List PTop→Int
 |[]=>0
 |x::t=>if zDn txn v x.l≠0 then zDn txn v x.l else zD4 txn v t
def zA9 (id:BlobS) (acks tmo:Int) (v:Int) (l:List PTop):Int:=
 if id.right=false∨(id.null=false∧zAu id.data=false)then 4
 else if acks< -1∨1<acks∨tmo<0∨2147483647<tmo then 11
 else if zBx l≠0 then zBx l else zD4 (!id.null) v l
theorem zDC(a:Int)(x:PartR)(t:List PartR):zEj a (x::t)=(decide (a<x.idx) && decide (x.idx≤2147483647) && zEj x.idx t):=rfl
structure CkR (x:BatR):Prop where
 recs:x.l.map (·.1)=x.b.recs
 first:x.b.first≤9223372036854775807
 fit:FitB x.l
 len:x.l.length≤1000000
theorem zDI(txn:Bool)(x:BatR)(t:List BatR):zDo txn (x::t)=if zAj x.b≠0 then zAj x.b else if x.b.ctl=true then 12 else if x.b.txn≠txn then 8 else zDo txn t:=rfl
theorem zJf:∀x y:Bs,(Op.bytesLess x y||x==y)= !Op.bytesLess y x
 |[],[]=>rfl
 |[],_::_=>rfl
 | _::_,[]=>rfl
 |a::x,b::y=>by
  have ih:=zJf x y
  show((decide (a<b)||(a==b && Op.bytesLess x y))||(a==b && x==y))= !(decide (b<a)||(b==a && Op.bytesLess y x))
  by_cases h1:a=b
  ·exact zq29
  ·exact zq13
theorem zEy(a:Bs)(x:PTop)(t:List PTop):errT a (x::t)=if x.l.length=0 then 10 else if (zAu x.name && Op.bytesLess a x.name && zEj (-1) x.l)=true then errT x.name t else 13:=rfl
theorem zAM(s:Bs)(r:Bool)(hr:zAu s=r)(hs:s.length≤140737488355328){W0 w:World}{K:Know}{L:List Res}(h:St W0 w K L):
 Calls Jb 88 #[Z (bb s)] w fun en w'=>en=Y (U r)∧St W0 w' K L:=by
 subst hr;exact zKS s hs h
theorem zQk(x y:Bs)(h:Op.bytesLess y x=true):Op.bytesLess x y=false∧(x==y)=false:=by
 have:=zJf x y;rw[h]at this
 simpa using this
theorem zQl(x y:Bs)(h:Op.bytesLess y x=false):Op.bytesLess x y=true∨(Op.bytesLess x y=false∧(x==y)=true):=by
 have:=zJf x y;rw[h]at this
 cases c:Op.bytesLess x y with
 |true=>exact .inl rfl
 |false=>rw[c]at this;exact .inr ⟨rfl,by simpa using this⟩
theorem zDG(txn:Bool)(v:Int)(x:PartR)(t:List PartR):zDn txn v (x::t)=if x.l.length=0∨(v=3∧1<x.l.length)then 10 else if zDo txn x.l≠0 then zDo txn x.l else zDn txn v t:=rfl
theorem zDH(txn:Bool)(v:Int)(x:PTop)(t:List PTop):zD4 txn v (x::t)=if zDn txn v x.l≠0 then zDn txn v x.l else zD4 txn v t:=rfl
structure CkP (x:PartR):Prop where
 len:x.l.length≤4398046511104
 bats:∀y∈x.l,CkR y
structure CkT (x:PTop):Prop where
 name:x.name.length≤140737488355328
 len:x.l.length≤4398046511104
 parts:∀y∈x.l,CkP y
theorem zAx(nl:Bool)(dd:Bs)(r:Bool)(hr:(⟨nl,dd⟩:BlobS).right=r){W0 w:World}{K:Know}{L:List Res}(h:St W0 w K L):
 Calls Jb 149 #[.agg #[U nl,Z (bb dd)]] w fun en w'=>en=Y (U r)∧St W0 w' K L:=by
 subst hr;exact zCG ⟨nl,dd⟩ h
theorem zBz{l:List PTop}(h:∀x∈l,CkT x):∀x∈l,x.name.length≤140737488355328∧x.l.length≤4398046511104:=fun x hx=>⟨(h x hx).name,(h x hx).len⟩
theorem zSz{l:List BatR}{s:Bs}{e:Int}(h:allB l=(s,e))(h0:errB l≠0):s=[]∧e=errB l:=by unfold allB at h;rw[if_neg h0]at h;cases h;exact⟨rfl,rfl⟩
theorem zTB{l:List BatR}{s:Bs}{e:Int}(h:allB l=(s,e))(h0:errB l=0):s=encB l∧e=0:=by unfold allB at h;rw[if_pos h0]at h;cases h;exact⟨rfl,rfl⟩
theorem zRb(l:List BatR)(q:Option Addr)(cap:Nat)(s:Bs)(e:Int)(hse:allB l=(s,e))(hf:∀x∈l,x.Fit)(hsm:∀x∈l,zBj (x.l.map (·.1))=true)(hll:l.length≤20){W0 w:World}{K:Know}{L:List Res}(hk:K.has (Know.bats (V q l.length cap) l))(h:St W0 w K L):
  Calls Jb 208 #[V q l.length cap] w fun en w'=>en=Y (.tuple #[Z (bb s),I O e])∧St W0 w' K L:=by
 have g1:=h.allocOut;obtain⟨po,hpo⟩:=eX w.heap.size;rw[hpo]at g1;have H:=hQd g1;have HK:=hQd hk;have HFT:=hQd hf;have HSMA:=hQd hsm;have HLL:=hQd hll;have HSE:=hQd hse;clear h g1 hk hf hsm hll hse;go_enter Tryz.func208,Tryz.ntmps208;go_wp2;go_loopw [6,7,8,11] (fun _ _ _ iv wr=>∃k:Nat,k≤l.length∧iv=I O k∧errB (l.take k)=0∧St W0 wr K (.out po ⟨encB (l.take k),0⟩::L)) (fun _ _ _ iv _=>l.length - (intOf iv).toNat)
 case atStart=>exact⟨0,Jd _,rfl,rfl,H.out⟩
 case round=>
  obtain⟨k,hkl,rfl,her,hst⟩:=hrel;clear H;have H:=hQd hst;have HER:=hQd her;clear hst her
  by_cases hlt:k<l.length
  · have hl20:(l.length:Int)≤20:=by have:=HLL.out;omega
    have hstep:=zK5 l k hlt HER.out;have hat:=zTk l k hlt HER.out;have het:=zQL l k hlt;obtain⟨b,off,hqq⟩:=zHj HK.out H.out oM;subst hqq;obtain⟨x,hx⟩:=eX (l[k]);have cc:=zDu HK.out H.out k hlt x hx;have hmem:x∈l:=hx ▸ Ji hlt;have XF:=hQd (HFT.out x hmem);have XR2:=hQd XF.out.2.1;have XR3:=hQd XF.out.2.2;have XK:=hQd (zDt HK.out hmem);obtain⟨c0,c1,c2,c3,c4,c5,c6,c7,c8,c9,c10,c11⟩:=cc;obtain⟨wE,hwE⟩:=eX wr.heap.size;have hki:(k:Int)<(l.length:Int):=by omega
    have h:=H.out.allocRaw #[I O x.b.base,I O x.b.leader,U x.b.app,U x.b.txn,U x.b.ctl,I O x.b.last,I O x.b.first,I O x.b.maxt,I O x.b.prod,I O x.b.epoch,I O x.b.seq,V x.q x.l.length x.cap] 101;rw[hwE]at h;clear H;have H:=hQd h;clear h;rw[hx]at hstep hat het;have HSX:=hQd (HSMA.out x hmem);have HSTEP:=hQd hstep;clear hstep;obtain⟨x0,x1,x2,x3,x4,x5,x6,x7,x8,x9,x10,x11,y0,y1,y2,y3,y4,y5,y6,y7,y8,y9,y10,y11⟩:=zAf (b:=wE) (H.out)
    by_cases he:zAj x.b=0
    · have HSO:=hQd (BatR.small XF.out HSX.out he);obtain⟨s0,hs0⟩:=eX x.b.enc;have HS:=hQd hs0;rw[hs0]at het
      have OK:=hQd (show(⟨encB (l.take k),0⟩:OutS).ok s0.length by
       have h1:=zQM (l.take k) (fun y hy=>(BatR.small (HFT.out y (List.mem_of_mem_take hy)) (HSMA.out y (List.mem_of_mem_take hy)) (zNI _ HER.out y hy)).elen);have h2:=HLL.out;have h3:=HSO.out.elen;rw[HS.out]at h3;rw[List.length_take]at h1;unfold OutS.ok;simp only
       omega)
      have EP:=hQd (show(⟨encB (l.take k),0⟩:OutS).put s0=⟨encB (l.take (k+1)),0⟩ by rw[het];rfl);have NE:=hQd (show errB (l.take (k+1))=0 by rw[HSTEP.out];exact he);clear het hat hs0 he hx hmem
      go_wp2_with (first
  |(go_at_call 39;clear x0 y0 x1 y1 x2 y2 x3 y3 x4 y4 x5 y5 x6 y6 x7 y7 x8 y8 x9 y9 x10 y10 x11 y11;(with_reducible refine(zHl x.b s0 HS.out x.l _ _ XR3.out HSO.out XK.out H.out).zM ?_);clear H;intro wn H;obtain⟨x0,x1,x2,x3,x4,x5,x6,x7,x8,x9,x10,x11,y0,y1,y2,y3,y4,y5,y6,y7,y8,y9,y10,y11⟩:=zAf (b:=wE) (H.out))
  |(go_at_call 51;(with_reducible refine(zPv po _ _ H.out.p1 OK.out).mono ?_);rw[EP.out];rintro e_ wn ⟨rfl,h⟩;replace H:=hQd h;clear h))
      go_roundw
      case rel=>exact⟨k+1,hlt,by go_num,NE.out,H.out.p1.drop⟩
      case measure=>first|(simp[intOf];done)|(simp[intOf];omega)
    · have hee:=zSz HSE.out (by rw[hat he];exact he);rw[hat he]at hee;obtain⟨rfl,he0⟩:=hee;have he2:zAj x.b=e:=he0.symm;rw[he2]at he;have HE:=hQd (show zAj ⟨x.b.base,x.b.leader,x.b.app,x.b.txn,x.b.ctl,x.b.last,x.b.first,x.b.maxt,x.b.prod,x.b.epoch,x.b.seq,x.l.map (·.1)⟩=e by rw[XF.out.2.2];exact he2);have H0:=hQd he;have HMX:=hQd (show x.b.first≤9223372036854775807 by have:=XF.out.1.2.2.2.1.2;omega);have HFB:=hQd (FitW.fit XF.out.2.1 HSX.out);have HLL3:=hQd (show x.l.length≤1000 by have:=zDA HSX.out;omega);have gz:(e==0)=false:=by rw[beq_eq_false_iff_ne];exact he
      have gz3:(e !=0)=true:=by simp[bne,gz]
      clear het hat he he0 he2 hx hmem
      go_wp2_with (first
  |(go_at_call 39;clear x0 y0 x1 y1 x2 y2 x3 y3 x4 y4 x5 y5 x6 y6 x7 y7 x8 y8 x9 y9 x10 y10 x11 y11;(with_reducible refine(zHI _ _ _ _ _ _ _ _ _ _ _ x.l _ _ e HE.out H0.out HMX.out HFB.out HLL3.out XK.out H.out).zM ?_);clear H;intro wn H;obtain⟨x0,x1,x2,x3,x4,x5,x6,x7,x8,x9,x10,x11,y0,y1,y2,y3,y4,y5,y6,y7,y8,y9,y10,y11⟩:=zAf (b:=wE) (H.out)))
      go_ret2;exact⟨rfl,H.out.drop.drop⟩
  · obtain rfl:k=l.length:=by omega
    have her:=HER.out;rw[List.take_length]at her;obtain⟨hs,rfl⟩:=zTB HSE.out her;have h:=H.out;rw[List.take_length,←hs]at h;clear H her hs;have H:=hQd h;clear h;have ET:=hQd (show(⟨s,0⟩:OutS).text=(s,0)from rfl)
    go_wp2_with (first
  |(go_at_call 49;(with_reducible refine(zGa po _ H.out).mono ?_);rw[ET.out];rintro e_ wn ⟨rfl,h⟩;replace H:=hQd h;clear h))
    go_ret2;exact⟨rfl,H.out.drop⟩
def zAv (x:PartR):Bs:=zAa x.idx (4:Int).toNat++encF 4 ⟨false,encB x.l⟩
def zAg (x:PTop):Bs:=(encF 2 ⟨false,x.name⟩++zAa (x.l.length:Int) (4:Int).toNat)++x.l.flatMap zAv
def zAR (nl:Bool) (dd:Bs) (ac tm:Int) (l:List PTop):Bs:=(((encF 2 ⟨nl,dd⟩++zAa ac (2:Int).toNat)++zAa tm (4:Int).toNat)++zAa (l.length:Int) (4:Int).toNat)++l.flatMap zAg
theorem zFv(n:Int)(h: -32768≤n∧n<32768):fits n 2:=by
 refine⟨dD,dD,?_,?_⟩
 ·show -(128*256 ^ 1:Int)≤n;omega
 ·show n<128*256 ^ 1;omega
theorem zC3(n:Int)(h: -2147483648≤n∧n<2147483648):fits n 4:=by
 refine⟨dD,dD,?_,?_⟩
 ·show -(128*256 ^ 3:Int)≤n;omega
 ·show n<128*256 ^ 3;omega
theorem zE9(p:Nat)(e e2:Bs)(n size:Int)(he:e++zAa n size.toNat=e2)(hf:fits n size)(hn: -9223372036854775808≤n∧n<9223372036854775808)(hl:e.length≤100000000000000)(h:St W0 w K (.out p ⟨e,0⟩::L)):
 Calls Jb 50 #[zAc p,I O n,I O size] w fun en w'=>en=Y (.tuple #[])∧St W0 w' K (.out p ⟨e2,0⟩::L):=by
 have h2:=zGb p ⟨e,0⟩ n size hn h zq36;have e3:(⟨e,0⟩:OutS).int n size=⟨e2,0⟩:=by unfold OutS.int;rw[if_pos hf,←he];rfl
 rw[e3]at h2;exact h2
theorem zRJ(p:Nat)(o:Bs)(e:Int)(h:St W0 w K (.out p ⟨o,0⟩::L)):
 Calls Jb 95 #[zAc p,I O e] w fun en w'=>en=Y (.tuple #[])∧St W0 w' K (.out p ⟨o,e⟩::L):=zDW p ⟨o,0⟩ e h
theorem zOw(p:Nat)(e e2 s:Bs)(he:e++encF 2 ⟨false,s⟩=e2)(hs:s.length≤32767)(hl:e.length≤100000000000000)(h:St W0 w K (.out p ⟨e,0⟩::L)):
 Calls Jb 89 #[zAc p,Z (bb s)] w fun en w'=>en=Y (.tuple #[])∧St W0 w' K (.out p ⟨e2,0⟩::L):=by
 have h2:=zDr p ⟨e,0⟩ s h zq36;have hf:fits (⟨false,s⟩:BlobS).len 2:=zFv _ zq46
 have e3:(⟨e,0⟩:OutS).putText s=⟨e2,0⟩:=by
  exact zq31
 rw[e3]at h2;exact h2
theorem zKK(p:Nat)(e e2:Bs)(u:Bool)(s:Bs)(he:e++encF 2 ⟨u,s⟩=e2)(hr:(⟨u,s⟩:BlobS).right=true)(hs:s.length≤32767)(hl:e.length≤100000000000000)(h:St W0 w K (.out p ⟨e,0⟩::L)):
 Calls Jb 96 #[zAc p,.agg #[U u,Z (bb s)],I O 2] w fun en w'=>en=Y (.tuple #[])∧St W0 w' K (.out p ⟨e2,0⟩::L):=by
 have h2:=zBb p ⟨e,0⟩ ⟨u,s⟩ 2 h zq36
 have e3:(⟨e,0⟩:OutS).putFixed ⟨u,s⟩ 2=⟨e2,0⟩:=by
  unfold OutS.putFixed OutS.int
  cases u with
  |true=>
   have h3:s=[]:=by cases s with|nil=>rfl|cons _ _=>cases hr
   subst h3;rw[if_pos (zFv _ dD),←he]
   show(⟨(e++zAa (⟨true,[]⟩:BlobS).len 2)++[],0⟩:OutS)=_
   rw[Je]
   rfl
  |false=>
   rw[if_pos (zFv _ zq46),←he]
   exact zq19
 rw[e3]at h2;exact h2
theorem zKJ(p:Nat)(e e2 s:Bs)(he:e++encF 4 ⟨false,s⟩=e2)(hs:s.length≤100000000)(hl:e.length≤100000000000000)(h:St W0 w K (.out p ⟨e,0⟩::L)):
 Calls Jb 96 #[zAc p,.agg #[U false,Z (bb s)],I O 4] w fun en w'=>en=Y (.tuple #[])∧St W0 w' K (.out p ⟨e2,0⟩::L):=by
 have h2:=zBb p ⟨e,0⟩ ⟨false,s⟩ 4 h zq36
 have e3:(⟨e,0⟩:OutS).putFixed ⟨false,s⟩ 4=⟨e2,0⟩:=by
  unfold OutS.putFixed OutS.int;rw[if_pos (zC3 _ (by show -2147483648≤(s.length:Int)∧(s.length:Int)<2147483648;omega)),←he]
  show(⟨(e++zAa (⟨false,s⟩:BlobS).len 4)++s,0⟩:OutS)=_
  rw[Je]
  rfl
 rw[e3]at h2;exact h2
theorem zNw(s:Bs)(h:St W0 w K L):Calls Jb 144 #[Z (bb s)] w fun en w'=>en=Y (.agg #[U false,Z (bb s)])∧St W0 w' K L:=zJE s h
structure PutP (x:PartR):Prop where
 few:x.l.length≤20
 fit:∀y∈x.l,y.Fit
 small:∀y∈x.l,zBj (y.l.map (·.1))=true
 err:errB x.l=0
 idx:0≤x.idx∧x.idx≤2147483647
theorem PutP.len{x:PartR}(h:PutP x):(encB x.l).length≤280000:=by
 have h1:=zNK x.l h.fit h.small;have:=h.few
 omega
theorem zLD{l:List BatR}(h:errB l=0):allB l=(encB l,0):=by unfold allB;rw[if_pos h]
structure PutT (x:PTop):Prop where
 name:x.name.length≤32767
 few:x.l.length≤100000
 parts:∀y∈x.l,PutP y
theorem zNE{α:Type}(f:α→Bs)(l:List α)(k:Nat)(hk:k<l.length)(x:α)(hx:l[k]=x):(l.drop k).flatMap f=f x++(l.drop (k+1)).flatMap f:=by
 rw[List.drop_eq_getElem_cons hk,hx,Jg]
theorem zBd{a b c:Bs}{n:Nat}(h:a++b=c)(hc:c.length≤n):a.length≤n:=by
 have:=congrArg List.length h;rw[Jc]at this
 omega
theorem asm_ok(said rows:Bs)(base ln leader sm at_ last first maxt prod epoch sq:Int)(cnt:Nat)(x:Nat)(hx:(zAF 0#32 (said.drop 21++rows)).toNat=x)(hs1:21≤said.length)(hs2:said.length≤140737488355328)(hs3:rows.length≤140737488355328)(h0:(x:Int)=sm)(hat:chk at_=0)(har:R64 at_)(hcn:cnt≤2147483647)(hr1:rows.length≤1000000)(hmx:first≤9223372036854775807)(rs:List RecS)(hu:unp cnt ⟨rows,0,0⟩=.ok rs)(hbe:zAj (⟨base,leader,zAi at_ 3,zAi at_ 4,zAi at_ 5,last,first,maxt,prod,epoch,sq,rs⟩:BatS)=0){W0 w:World}{K:Know}{L:List Res}(h:St W0 w K L):
 Calls Jb 134 #[.agg #[I O base,I O ln,I O leader,I O sm,I O at_,I O last,I O first,I O maxt,I O prod,I O epoch,I O sq,I O cnt],Z (bb said),Z (bb rows)] w fun en w'=>∃(q:Option Addr) (l:List (RecS×Value)) (cap:Nat),en=Y (.tuple #[.agg #[I O base,I O leader,U (zAi at_ 3),U (zAi at_ 4),U (zAi at_ 5),I O last,I O first,I O maxt,I O prod,I O epoch,I O sq,V q l.length cap],I O 0])∧l.map (·.1)=rs∧St W0 w' (K.and (Know.recs (V q l.length cap) l)) L:=by
 have gs:((x:Int)==sm)=true:=by rw[h0];exact beq_self_eq_true _
 have gs2:((x:Int) !=sm)=false:=by simp[bne,gs]
 clear h0;have HAT:=hQd hat;have HAR:=hQd har;have HCN:=hQd hcn;have HU:=hQd hu;have HR1:=hQd hr1;have HMX:=hQd hmx;have HB0:=hQd hbe;clear hat har hcn hu hr1 hmx hbe;have g1:=h.allocRaw #[I O base,I O ln,I O leader,I O sm,I O at_,I O last,I O first,I O maxt,I O prod,I O epoch,I O sq,I O cnt] 163;have g2:=g1.allocRaw #[I O 0,I O 0,U false,U false,U false,I O 0,I O 0,I O 0,I O 0,I O 0,I O 0,V none 0 0] 101;obtain⟨pb,hpb⟩:=eX w.heap.size;obtain⟨rb,hrb⟩:=eX (pb+1);simp only[World.size_alloc,hpb,hrb]at g2;have H:=hQd g2;have HX:=hQd hx;have HS1:=hQd hs1;have HS2:=hQd hs2;have HS3:=hQd hs3;clear h g1 g2 hx hs1 hs2 hs3;go_enter Tryz.func134,Tryz.ntmps134;go_upto_region 1 with (fail);have hs:=H.out.drew;refine wp_region_held_drew (S:=fun w'=>w'.cell? ⟨pb,0,none⟩=some (I O base)∧w'.cell? ⟨pb,1,none⟩=some (I O ln)∧w'.cell? ⟨pb,2,none⟩=some (I O leader)∧w'.cell? ⟨pb,3,none⟩=some (I O sm)∧w'.cell? ⟨pb,4,none⟩=some (I O at_)∧w'.cell? ⟨pb,5,none⟩=some (I O last)∧w'.cell? ⟨pb,6,none⟩=some (I O first)∧w'.cell? ⟨pb,7,none⟩=some (I O maxt)∧w'.cell? ⟨pb,8,none⟩=some (I O prod)∧w'.cell? ⟨pb,9,none⟩=some (I O epoch)∧w'.cell? ⟨pb,10,none⟩=some (I O sq)∧w'.cell? ⟨pb,11,none⟩=some (I O cnt)) kR (let ⟨x0,x1,x2,x3,x4,x5,x6,x7,x8,x9,x10,x11,_⟩:=zAf (b:=pb) (hs.p1);⟨x0,x1,x2,x3,x4,x5,x6,x7,x8,x9,x10,x11⟩) (fun hHeld=> ?_);refine tR 0 ?_;refine tR 1 ?_;refine tR 3 ?_;refine tR 4 ?_;refine wR [2] (rC rfl (fun KK hK=> ?_) rN);go_simp;go_at_call 86;with_reducible refine(zQ9 said rows x HX.out HS1.out HS2.out HS3.out hs).mono ?_;rintro e wq ⟨rfl,hs⟩;refine hK.out _ _ (let ⟨x0,x1,x2,x3,x4,x5,x6,x7,x8,x9,x10,x11,_⟩:=zAf (b:=pb) (hs.p1);⟨x0,x1,x2,x3,x4,x5,x6,x7,x8,x9,x10,x11⟩) (fun hHeld=> ?_);clear hK KK
 try simp only[Act.put,sA,sB,sC]
 refine tR 5 ?_;refine wpAnyH_done kR ?_ _;clear hHeld;have H:=hQd hs;clear hs;obtain⟨p0,p1,p2,p3,p4,p5,p6,p7,p8,p9,p10,p11,u0,u1,u2,u3,u4,u5,u6,u7,u8,u9,u10,u11⟩:=zAf (b:=rb) (H.out);obtain⟨x0,x1,x2,x3,x4,x5,x6,x7,x8,x9,x10,x11,y0,y1,y2,y3,y4,y5,y6,y7,y8,y9,y10,y11⟩:=zAf (b:=pb) ((H.out).p1)
 go_upto_region 11 with (first
 |(go_at_call 194;(with_reducible refine(zM6 at_ 0 HAT.out HAR.out H.out).zM ?_);clear H;intro wn H;obtain⟨p0,p1,p2,p3,p4,p5,p6,p7,p8,p9,p10,p11,u0,u1,u2,u3,u4,u5,u6,u7,u8,u9,u10,u11⟩:=zAf (b:=rb) (H.out);obtain⟨x0,x1,x2,x3,x4,x5,x6,x7,x8,x9,x10,x11,y0,y1,y2,y3,y4,y5,y6,y7,y8,y9,y10,y11⟩:=zAf (b:=pb) ((H.out).p1))
 |(go_at_call 195;(with_reducible refine(zJL rows cnt HCN.out HS3.out rs HU.out H.out).mono ?_);rintro e_ wn ⟨rv,l,rfl,hlr,h⟩;obtain⟨q,cap,hrv⟩:=zPT (Know.has_right (Know.has_refl _)) h;subst hrv;obtain⟨hff,hfl⟩:=zNb HU.out hlr HR1.out;have HFT:=hQd hff;have HLL:=hQd hfl;have HLR:=hQd hlr;clear hff hfl hlr;obtain⟨p0,p1,p2,p3,p4,p5,p6,p7,p8,p9,p10,p11,u0,u1,u2,u3,u4,u5,u6,u7,u8,u9,u10,u11⟩:=zAf (b:=rb) (h);obtain⟨x0,x1,x2,x3,x4,x5,x6,x7,x8,x9,x10,x11,y0,y1,y2,y3,y4,y5,y6,y7,y8,y9,y10,y11⟩:=zAf (b:=pb) ((h).p1);have h:=h.allocRaw #[I O base,I O leader,U false,U false,U false,I O last,I O first,I O maxt,I O prod,I O epoch,I O sq,V q l.length cap] 101;obtain⟨bB,hbB⟩:=eX wn.heap.size;rw[hbB]at h;obtain⟨x0,x1,x2,x3,x4,x5,x6,x7,x8,x9,x10,x11,y0,y1,y2,y3,y4,y5,y6,y7,y8,y9,y10,y11⟩:=zAf (b:=pb) (h.p2);obtain⟨a0,a1,a2,a3,a4,a5,a6,a7,a8,a9,a10,a11,f0,f1,f2,f3,f4,f5,f6,f7,f8,f9,f10,f11⟩:=zAf (b:=bB) (h);replace H:=hQd h;clear h)
 |(go_at_call 196;(with_reducible refine(zO5 at_ H.out).mono ?_);rintro e_ wn ⟨rfl,h⟩;obtain⟨a0,a1,a2,a3,a4,a5,a6,a7,a8,a9,a10,a11,f0,f1,f2,f3,f4,f5,f6,f7,f8,f9,f10,f11⟩:=zAf (b:=bB) (h);replace H:=hQd h;clear h))
 have HBE:=hQd (show zAj ⟨base,leader,zAi at_ 3,zAi at_ 4,zAi at_ 5,last,first,maxt,prod,epoch,sq,l.map (·.1)⟩=0 by rw[HLR.out];exact HB0.out);have hs:St W0 _ _ (.raw bB #[I O base,I O leader,U (zAi at_ 3),U (zAi at_ 4),U (zAi at_ 5),I O last,I O first,I O maxt,I O prod,I O epoch,I O sq,V q l.length cap] 101::_):=((H.out.rawSet 2 (U (zAi at_ 3))).rawSet 3 (U (zAi at_ 4))).rawSet 4 (U (zAi at_ 5));have hs:=hs.drew;clear x0 y0 a0 f0 x1 y1 a1 f1 x2 y2 a2 f2 x3 y3 a3 f3 x4 y4 a4 f4 x5 y5 a5 f5 x6 y6 a6 f6 x7 y7 a7 f7 x8 y8 a8 f8 x9 y9 a9 f9 x10 y10 a10 f10 x11 y11 a11 f11;refine wp_region_held_drew (S:=fun w'=>w'.cell? ⟨bB,0,none⟩=some (I O base)∧w'.cell? ⟨bB,1,none⟩=some (I O leader)∧w'.cell? ⟨bB,2,none⟩=some (U (zAi at_ 3))∧w'.cell? ⟨bB,3,none⟩=some (U (zAi at_ 4))∧w'.cell? ⟨bB,4,none⟩=some (U (zAi at_ 5))∧w'.cell? ⟨bB,5,none⟩=some (I O last)∧w'.cell? ⟨bB,6,none⟩=some (I O first)∧w'.cell? ⟨bB,7,none⟩=some (I O maxt)∧w'.cell? ⟨bB,8,none⟩=some (I O prod)∧w'.cell? ⟨bB,9,none⟩=some (I O epoch)∧w'.cell? ⟨bB,10,none⟩=some (I O sq)∧w'.cell? ⟨bB,11,none⟩=some (V q l.length cap)) kR (let ⟨x0,x1,x2,x3,x4,x5,x6,x7,x8,x9,x10,x11,_⟩:=zAf (b:=bB) (hs);⟨x0,x1,x2,x3,x4,x5,x6,x7,x8,x9,x10,x11⟩) (fun hHeld=> ?_);refine tR 0 ?_;refine tR 1 ?_;refine wR [2] (rC rfl (fun KK hK=> ?_) rN);go_simp;go_at_call 82;with_reducible refine(zBA base leader (zAi at_ 3) (zAi at_ 4) (zAi at_ 5) last first maxt prod epoch sq l q cap 0 HBE.out HMX.out HFT.out HLL.out (Know.has_right (Know.has_refl _)) hs).mono ?_;rintro e wq ⟨rfl,hs⟩;refine hK.out _ _ (let ⟨x0,x1,x2,x3,x4,x5,x6,x7,x8,x9,x10,x11,_⟩:=zAf (b:=bB) (hs);⟨x0,x1,x2,x3,x4,x5,x6,x7,x8,x9,x10,x11⟩) (fun hHeld=> ?_);clear hK KK
 try simp only[Act.put,sA,sB,sC]
 refine wR [3] (rC rfl (fun KK hK=> ?_) rN);have hs:=hs.p1;rw[if_pos (by rfl)];refine wp_store_mid 101 (.tmp 6) (.tmp 65) rfl rb 0 #[I O base,I O leader,U (zAi at_ 3),U (zAi at_ 4),U (zAi at_ 5),I O last,I O first,I O maxt,I O prod,I O epoch,I O sq,V q l.length cap] (by rfl) (by rfl) hs.there kR (by simp[Value.oneCell']) ?_;obtain⟨wz,ez,hs⟩:=hs.storeEx #[I O base,I O leader,U (zAi at_ 3),U (zAi at_ 4),U (zAi at_ 5),I O last,I O first,I O maxt,I O prod,I O epoch,I O sq,V q l.length cap];rw[ez];clear ez;refine hK.out _ _ (let ⟨x0,x1,x2,x3,x4,x5,x6,x7,x8,x9,x10,x11,_⟩:=zAf (b:=bB) (hs.p1);⟨x0,x1,x2,x3,x4,x5,x6,x7,x8,x9,x10,x11⟩) (fun hHeld=> ?_);clear hK KK
 try simp only[Act.put]
 refine tR 4 ?_;refine wpAnyH_done kR ?_ _;clear hHeld;rw[zHQ]at hs;rotate_left
 ·rfl
 have hz:St W0 _ _ (.raw rb #[I O base,I O leader,U (zAi at_ 3),U (zAi at_ 4),U (zAi at_ 5),I O last,I O first,I O maxt,I O prod,I O epoch,I O sq,V q l.length cap] 101::_):=hs;go_wp2_with fail;refine bodyPost_ret (zMq rfl _ _ rb [I O base,I O leader,U (zAi at_ 3),U (zAi at_ 4),U (zAi at_ 5),I O last,I O first,I O maxt,I O prod,I O epoch,I O sq,V q l.length cap] _ rfl (zBR hz) Tryz.underlying101 rfl kR) rfl ?_;exact⟨q,l,cap,rfl,HLR.out,hz.drop.drop.drop⟩
theorem zSw(x:PreS)(said rows:Bs)(hs1:21≤said.length)(hs2:said.length≤140737488355328)(hr1:rows.length≤1000000)(har:R64 x.attr)(hc0:0≤x.count)(hcn:x.count≤2147483647)(hmx:x.first≤9223372036854775807)(b:BatS)(ha:asmB x said rows=.ok b){W0 w:World}{K:Know}{L:List Res}(h:St W0 w K L):
 Calls Jb 134 #[.agg #[I O x.base,I O x.len,I O x.leader,I O x.sum,I O x.attr,I O x.last,I O x.first,I O x.maxt,I O x.prod,I O x.epoch,I O x.seq,I O x.count],Z (bb said),Z (bb rows)] w fun en w'=>∃(q:Option Addr) (l:List (RecS×Value)) (cap:Nat),en=Y (.tuple #[.agg #[I O b.base,I O b.leader,U b.app,U b.txn,U b.ctl,I O b.last,I O b.first,I O b.maxt,I O b.prod,I O b.epoch,I O b.seq,V q l.length cap],I O 0])∧l.map (·.1)=b.recs∧St W0 w' (K.and (Know.recs (V q l.length cap) l)) L:=by
 obtain⟨c1,c2,rs,hu,c3,rfl⟩:=zJN ha;obtain⟨base,len,leader,sum,attr,last,first,maxt,prod,epoch,seq,count⟩:=x;simp only at har hc0 hcn hmx c1 c2 hu c3;obtain⟨cnt,rfl⟩:∃n:Nat,count=(n:Int):=⟨count.toNat,oM⟩;rw[Int.toNat_natCast]at hu;exact asm_ok said rows base len leader sum attr last first maxt prod epoch seq cnt _ rfl hs1 hs2 oM c1 c2 har oM hr1 hmx rs hu c3 h
theorem zM4(p:Nat)(i i1 i3 j:InS)(said rows:Bs)(x:PreS)(hxl: -2147483648≤x.len∧x.len<2147483648)(hs1:21≤said.length)(hsl:said.length≤140737488355328)(hr1:rows.length≤1000000)(har:R64 x.attr)(hc0:0≤x.count)(hcn:x.count≤2147483647)(hmx:x.first≤9223372036854775807)(ht1:i.take 61=(said,i1))(hp:(⟨said,0,0⟩:InS).pre=(x,j))(hj:j.err=0)(ht2:i1.take (x.len - 49)=(rows,i3))(he3:i3.err=0)(b:BatS)(ha:asmB x said rows=.ok b){W0 w:World}{K:Know}{L:List Res}(h:St W0 w K (.inp p i::L)):
 Calls Jb 81 #[zAe p] w fun en w'=>∃(q:Option Addr) (l:List (RecS×Value)) (cap:Nat),en=Y (.agg #[I O b.base,I O b.leader,U b.app,U b.txn,U b.ctl,I O b.last,I O b.first,I O b.maxt,I O b.prod,I O b.epoch,I O b.seq,V q l.length cap])∧l.map (·.1)=b.recs∧St W0 w' (K.and (Know.recs (V q l.length cap) l)) (.inp p i3::L):=by
 have g1:=h.allocRaw #[I O 0,I O 0,U false,U false,U false,I O 0,I O 0,I O 0,I O 0,I O 0,I O 0,V none 0 0] 101;obtain⟨rb,hrb⟩:=eX w.heap.size;rw[hrb]at g1;have H:=hQd g1;have HT1:=hQd ht1;have HSL:=hQd hsl;have HS1:=hQd hs1;have HR1:=hQd hr1;have HAR:=hQd har;have HC0:=hQd hc0;have HCN:=hQd hcn;have HMX:=hQd hmx;have HA:=hQd ha;have HP:=hQd hp;have HJ:=hQd hj;have HT2:=hQd ht2;have HE3:=hQd he3;have f1:wrap64 (x.len - 49)=x.len - 49:=by unfold wrap64;omega
 have f2:IntKind.i64.wrap (x.len - 49)=x.len - 49:=IntWalk.i64_in _ oM;clear h g1 ht1 hsl hs1 hr1 har hc0 hcn hmx ha hp hj ht2 he3 hxl;go_enter Tryz.func81,Tryz.ntmps81
 go_wp2_with (first
  |(go_at_call 67;(with_reducible refine(zIJ p i i1 _ said HT1.out H.out.p1).zM ?_);clear H;intro wn H)
  |(go_at_call 19;(with_reducible refine(zEh said HSL.out H.out).mono ?_);rintro e_ wn ⟨bi,rfl,h⟩;replace H:=hQd h;clear h)
  |(go_at_call 133;(with_reducible refine(zKI bi _ j x HP.out H.out).zM ?_);clear H;intro wn H;have h:=H.out;obtain⟨pb,hpb⟩:=eX wn.heap.size;have h:=h.allocRaw #[I O x.base,I O x.len,I O x.leader,I O x.sum,I O x.attr,I O x.last,I O x.first,I O x.maxt,I O x.prod,I O x.epoch,I O x.seq,I O x.count] 163;rw[hpb]at h;obtain⟨x0,x1,x2,x3,x4,x5,x6,x7,x8,x9,x10,x11,y0,y1,y2,y3,y4,y5,y6,y7,y8,y9,y10,y11⟩:=zAf (b:=pb) (h);replace H:=hQd h.p1;clear h)
  |(go_at_call 22;(with_reducible refine(zHR bi j 0 HJ.out H.out).zM ?_);clear H;intro wn H;obtain⟨x0,x1,x2,x3,x4,x5,x6,x7,x8,x9,x10,x11,y0,y1,y2,y3,y4,y5,y6,y7,y8,y9,y10,y11⟩:=zAf (b:=pb) (H.out.p1))
  |(go_at_call 67;(with_reducible refine(zIJ p i1 i3 _ rows HT2.out H.out.p2).zM ?_);clear H;intro wn H;obtain⟨x0,x1,x2,x3,x4,x5,x6,x7,x8,x9,x10,x11,y0,y1,y2,y3,y4,y5,y6,y7,y8,y9,y10,y11⟩:=zAf (b:=pb) (H.out.p2))
  |(go_at_call 22;(with_reducible refine(zHR p i3 0 HE3.out H.out).zM ?_);clear H;intro wn H;obtain⟨x0,x1,x2,x3,x4,x5,x6,x7,x8,x9,x10,x11,y0,y1,y2,y3,y4,y5,y6,y7,y8,y9,y10,y11⟩:=zAf (b:=pb) (H.out.p2);obtain⟨a0,a1,a2,a3,a4,a5,a6,a7,a8,a9,a10,a11,f0,f1,f2,f3,f4,f5,f6,f7,f8,f9,f10,f11⟩:=zAf (b:=rb) (H.out.p3))
  |(go_at_call 134;(with_reducible refine(zSw x said rows HS1.out HSL.out HR1.out HAR.out HC0.out HCN.out HMX.out b HA.out H.out).mono ?_);rintro e_ wn ⟨q,l,cap,rfl,hl,h⟩;have h:=h.allocRaw #[I O b.base,I O b.leader,U b.app,U b.txn,U b.ctl,I O b.last,I O b.first,I O b.maxt,I O b.prod,I O b.epoch,I O b.seq,V q l.length cap] 101;obtain⟨bB,hbB⟩:=eX wn.heap.size;rw[hbB]at h;obtain⟨c0,c1,c2,c3,c4,c5,c6,c7,c8,c9,c10,c11,g0,g1,g2,g3,g4,g5,g6,g7,g8,g9,g10,g11⟩:=zAf (b:=bB) (h);obtain⟨a0,a1,a2,a3,a4,a5,a6,a7,a8,a9,a10,a11,f0,f1,f2,f3,f4,f5,f6,f7,f8,f9,f10,f11⟩:=zAf (b:=rb) (h.p4);replace H:=hQd h;clear h))
 have hz:St W0 _ _ (.raw rb #[I O b.base,I O b.leader,U b.app,U b.txn,U b.ctl,I O b.last,I O b.first,I O b.maxt,I O b.prod,I O b.epoch,I O b.seq,V q l.length cap] 101::_):=St.sets12 _ _ _ _ _ _ _ _ _ _ _ _ (H.out.p4);refine bodyPost_ret (zAO rfl _ _ rb [I O b.base,I O b.leader,U b.app,U b.txn,U b.ctl,I O b.last,I O b.first,I O b.maxt,I O b.prod,I O b.epoch,I O b.seq,V q l.length cap] _ rfl (zBR hz) Tryz.underlying101 rfl kR) rfl ?_;exact⟨q,l,cap,rfl,hl,hz.drop.drop.p1.drop.p1.drop⟩
theorem zEL(p:Nat)(s:Bs)(pos:Nat)(hsl:s.length≤1000000)(hp:pos≤s.length)(b:BatS)(n:Nat)(hr:zBI (s.drop pos)=.ok (b,n)){W0 w:World}{K:Know}{L:List Res}(h:St W0 w K (.inp p ⟨s,pos,0⟩::L)):
 Calls Jb 81 #[zAe p] w fun en w'=>∃(q:Option Addr) (l:List (RecS×Value)) (cap:Nat),en=Y (.agg #[I O b.base,I O b.leader,U b.app,U b.txn,U b.ctl,I O b.last,I O b.first,I O b.maxt,I O b.prod,I O b.epoch,I O b.seq,V q l.length cap])∧l.map (·.1)=b.recs∧St W0 w' (K.and (Know.recs (V q l.length cap) l)) (.inp p ⟨s,pos+n,0⟩::L):=by
 obtain⟨x,hx,rfl,hn,ha⟩:=zCj hr;obtain⟨r1,r2,r3,r4,r5,r6⟩:=zH2 hx;have h61:=(zEl hx).1;rw[Jh]at hn h61;have hl61:((s.drop pos).take 61).length=61:=by rw[List.length_take,Jh];omega
 have hrl:(((s.drop pos).drop 61).take (x.len - 49).toNat).length≤1000000:=by rw[List.length_take,Jh,Jh];omega
 have ht1:(⟨s,pos,0⟩:InS).take 61=((s.drop pos).take 61,⟨s,pos+61,0⟩):=InS.take_ok rfl oM (by simp only[InS.left];omega)
 have ht2:(⟨s,pos+61,0⟩:InS).take (x.len - 49)=(((s.drop pos).drop 61).take (x.len - 49).toNat,⟨s,pos+61+(x.len - 49).toNat,0⟩):=by
  rw[InS.take_ok rfl oM (by simp only[InS.left];omega),Jk]
 have hpre:=zS3 ((s.drop pos).take 61) 0 oM;rw[List.drop_zero,zHX _ (by rw[Jh];omega),hx]at hpre;rw[←Jm];exact zM4 p _ _ _ _ _ _ x r1 (by rw[hl61];omega) (by rw[hl61];omega) hrl r3 r4 r5 r6 ht1 hpre rfl ht2 rfl b ha h
theorem zBt{P:Program}{o:Oper}{a:Act}{w w':World}{v:Value}{KK:Act→World→Prop}{Q:Exit→Act→World→Prop}(hr:(execOp a.eval o).run P w=.ok (.value v) w')(h:KK (a.put o.dst v) w'):o.wp P a w KK Q:=by
 unfold Oper.wp;rw[hr];exact h
theorem zGF{W0 w:World}{K:Know}{L:List Res}{o:Oper}{a:Act}{KK:Act→World→Prop}{Q:Exit→Act→World→Prop}(sl x:Operand)(t:TypeId)
 (ho:o.op=.call {callee:=.builtin .append,args:= #[sl,x],argTypes:= #[t,t]})
 (e:TypeId){z:Value}{size bytes:Nat}(ht:Tryz.prog.underlying t=some (.slice e))(he:zCJ Jb e z size bytes)
 (v:Value)(n:Nat)(xs:List Value)(hs:a.eval sl=v)(bS:Nat)(cs:Array Value)(T:TypeId)(hst:St W0 w K (.raw bS cs T::.row v e size n xs::L))
 (hx:a.eval x=V (some ⟨bS,0,none⟩) 1 1)(hl:cs.toList.length=size)(h1:∀u∈cs.toList,u.oneCell'=true)
 (h63:n+1≤maxLen)(hbytes:(n+1)*bytes≤140737488355328)
 (h:∀v' w',St W0 w' K (.row v' e size (n+1) (xs++cs.toList)::L)→KK (a.put o.dst v') w'):o.wp Jb a w KK Q:=by
 have hc:=hst.rawCell;have hst2:=hst.p1;obtain⟨⟨i,g1,g2,g3,g4⟩,g5,g6⟩:=he
 obtain⟨v',w',hr,h2,h3,h4⟩:=zRf (P:=Jb) w t o.type e i z size bytes ht g1 g2 g3 g4 g5 g6 v n xs hst2.rowGet ⟨bS,0,none⟩ 1 1 cs.toList oM (fun j u hj=>by
  have ha:(⟨bS,0,none⟩:Addr).add j=⟨bS,j,none⟩:=by unfold Addr.add;split<;>simp_all
  rw[ha,hc j]
  simpa using hj) h1 h63 hbytes
 unfold Oper.wp execOp;simp only[ho,resolve,invoke,builtin,Sem.run_bind,Sem.run_pure,Result.andThen_ok,List.map_toArray,List.map_cons,List.map_nil,hs,hx,hr];exact h v' w' (hst2.rowGrown h2 h3 h4).p1.drop
theorem zMz{P:Program}{o:Oper}{a:Act}{w w':World}{KK:Act→World→Prop}{Q:Exit→Act→World→Prop}(hr:(execOp a.eval o).run P w=.ok .skip w')(h:KK (a.put o.dst undef) w'):o.wp P a w KK Q:=by
 unfold Oper.wp;rw[hr];exact h
end Go.Proofs.YteldcbljedeeiaaGreatDoor
