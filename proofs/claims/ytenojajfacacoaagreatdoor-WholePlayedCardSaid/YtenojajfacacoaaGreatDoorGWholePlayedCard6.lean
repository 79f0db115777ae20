/- A text. -/
import Derived.Test.YtenojajfacacoaaGreatDoorGWholePlayedCard5
import Derived.Test.YtenojajfacacoaaGreatDoorGWholePlayedCard4
import Derived.Test.YtenojajfacacoaaGreatDoorGWholePlayedCard2
import Derived.Lib.Bytealg
import Derived.Lib.Builder
import Derived.Lib.UnsafeStr
import Derived.Laws.Externs
import Derived.Shelf.RegionOpenPlain
import Derived.Shelf.Strings.OnBuilder
import Derived.Shelf.Small.Strs
import Derived.Shelf.LaysM
import Derived.Shelf.Strconv.Itoa3
import Derived.Shelf.LaysC
import Derived.Shelf.Strconv.AtoiAll
import Derived.Shelf.Strings.Search3
import Derived.Shelf.Strings.Cut
import Derived.Shelf.Strings.Split
import Derived.RegionTactic
import Derived.WalkMore
import Derived.Lib.AtoiErrMem
import Derived.Lib.AtoiAll
import Derived.Sort.Grow
import Derived.Deep.RegionHeld3
import Derived.Deep.DeepCutAuto
/- A text. -/
namespace Go.Proofs.YtenojajfacacoaaGreatDoor
open Go.RowKit
theorem zJ7(o:Bs)(x:RecS)(h:zAV x=0):(⟨o,0⟩:OutS).putRec x=⟨o++encR x,0⟩:=by
 unfold OutS.putRec;rw[if_pos h]
 rfl
theorem zHv:∀(l:List RecS),zCw l=0→∀x∈l,zAV x=0
  |[],_,_,h=>by cases h
  |r::t,hh,x,hx=>by
    have hh:(if zAV r=0 then zCw t else zAV r)=0:=hh
    by_cases h1:zAV r=0
    · rw[if_pos h1]at hh
      rcases List.mem_cons.1 hx with rfl|hx
      · exact h1
      · exact zHv t hh x hx
    · rw[if_neg h1]at hh;exact absurd hh h1
theorem zJg{l:List (RecS×Value)}(h:FitB l):(zBb l).length≤40000000*l.length:=by
 have:∀(l:List (RecS×Value)),(∀x∈l,(encR x.1).length≤40000000)→(zBb l).length≤40000000*l.length:=by
  intro l
  induction l with
  |nil=>intro _;simp[zBb]
  |cons x t ih=>
   intro hh;have h1:=ih (fun y hy=>hh y (by simp[hy]));have h2:=hh x (by simp);have e:zBb (x::t)=encR x.1++zBb t:=rfl;rw[e,List.length_append,List.length_cons]
   omega
 refine this l fun x hx=> ?_
 obtain⟨a,_,c⟩:=h x hx;have h1:=zFv x.1 a c;unfold encR encV;rw[List.length_append];have h2:(putU (zBa (BlobS.len ⟨false,recF x.1⟩))).length≤10:=zDJ _ (zC2 (by simp[BlobS.len]<;>omega) (by simp[BlobS.len]<;>omega));simp only at*
 omega
theorem zIn(n:Int)(h:fits (zAE n) 4):zAE n % 4294967296=n:=by
 by_cases h0:n<0∨4294967295<n
 · exact absurd h (zJR n h0)
 · unfold zAE;rw[if_neg h0]
   split<;>omega
theorem zNp(x:PreS)(hf:FitsAll x.items):preX (zAd x.items)=(x,2):=by
 have h1:=zG4 x.items [] hf;rw[List.append_nil]at h1;have h2:x.items.map (·.2)=zAD:=rfl;rw[h2]at h1;have h3:=zIn x.sum (hf (zAE x.sum,4) (by simp[PreS.items]));unfold preX;rw[h1];simp only[PreS.items,List.map_cons,List.map_nil,zFL,h3]
theorem zAK(x:PreS):(zAd x.items).length=61:=by rw[zDa];rfl
theorem zIE(x:PreS)(hf:FitsAll x.items)(hl:49≤x.len)(hc:0≤x.count)(t:Bs):zAQ (zAd x.items++t)=.ok x:=by
 have h:=zBh (zAd x.items++t) (by rw[List.length_append,zAK];omega);rw[List.take_left' (zAK x)]at h;rw[←h];unfold zAQ;rw[zNp x hf,if_neg (by rw[zAK];omega),if_pos rfl,if_neg (by simp only;omega),if_neg (by simp only;omega)]
def BatS.rowsB (b:BatS):Bs:=b.recs.flatMap encR
def BatS.pre (b:BatS) (sum:Int):PreS:=⟨b.base,49+b.rowsB.length,b.leader,sum,zAA b.app b.txn b.ctl 3,b.last,b.first,b.maxt,b.prod,b.epoch,b.seq,b.recs.length⟩
def BatS.front (b:BatS) (sum:Int):Bs:=zAd [(b.base,8),(49+b.rowsB.length,4),(b.leader,4),(2,1),(zAE sum,4)]
def BatS.back (b:BatS):Bs:=zAd [(zAA b.app b.txn b.ctl 3,2),(b.last,4),(b.first,8),(b.maxt,8),(b.prod,8),(b.epoch,2),(b.seq,4),(b.recs.length,4)]
def BatS.crc (b:BatS):Nat:=(zAp 0#32 (b.back++b.rowsB)).toNat
def BatS.enc (b:BatS):Bs:=zAd (b.pre b.crc).items++b.rowsB
theorem BatS.pre_split(b:BatS)(s:Int):zAd (b.pre s).items=b.front s++b.back:=by
 have h:(b.pre s).items=[(b.base,8),(49+(b.rowsB.length:Int),4),(b.leader,4),(2,1),(zAE s,4)]++[(zAA b.app b.txn b.ctl 3,2),(b.last,4),(b.first,8),(b.maxt,8),(b.prod,8),(b.epoch,2),(b.seq,4),((b.recs.length:Int),4)]:=rfl;rw[h,zGv]
 rfl
theorem BatS.front_len(b:BatS)(s:Int):(b.front s).length=21:=by unfold BatS.front;rw[zDa];rfl
theorem BatS.pre_drop(b:BatS)(s:Int):(zAd (b.pre s).items).drop 21=b.back:=by rw[b.pre_split,List.drop_left' (b.front_len s)]
theorem BatS.crc_lt(b:BatS):b.crc<4294967296:=(zAp 0#32 (b.back++b.rowsB)).isLt
theorem zF1{n:Int}{k:Nat}(h1:1≤k)(h8:k≤8)(lo: -half k≤n)(hi:n<half k):fits n k:=by
 refine⟨by omega,by omega,?_,?_⟩<;>rw[Int.toNat_natCast]<;>assumption
theorem zBu{b:BatS}(h:zAc b=0):b.placed=true∧(b.ctl=true→b.txn=true)∧b.signed=true∧zCw b.recs=0:=by
 unfold zAc at h
 by_cases p1:b.placed=false
 · rw[if_pos p1]at h;cases h
 rw[if_neg p1]at h
 by_cases p2:b.ctl=true∧b.txn=false
 · rw[if_pos p2]at h;cases h
 rw[if_neg p2]at h
 by_cases p3:b.signed=false
 · rw[if_pos p3]at h;cases h
 rw[if_neg p3]at h
 by_cases p4:b.ctl=true∧b.recs.length≠1
 · rw[if_pos p4]at h;cases h
 rw[if_neg p4]at h
 by_cases p5:zCw b.recs≠0
 · rw[if_pos p5]at h;exact absurd h p5
 refine⟨by simpa using p1,fun hc=> ?_,by simpa using p3,Classical.not_not.1 p5⟩
 cases ht:b.txn with
 |true=>rfl
 |false=>exact absurd ⟨hc,ht⟩ p2
theorem zLv{b:BatS}(h:b.signed=true): -1≤b.prod∧(-1≤b.epoch∧b.epoch≤32767)∧(-1≤b.seq∧b.seq≤2147483647):=by
 unfold BatS.signed at h
 by_cases p:b.prod= -1
 · rw[if_pos p]at h;have:=of_decide_eq_true h
   omega
 rw[if_neg p]at h
 by_cases q:b.prod<0∨¬(0≤b.epoch∧b.epoch≤32767)
 · rw[if_pos q]at h;cases h
 rw[if_neg q]at h
 cases hc:b.ctl with
 |true=>
   rw[hc]at h;have h:decide (b.seq= -1)=true:=h;have:=of_decide_eq_true h
   omega
 |false=>
   rw[hc]at h;have h:decide (0≤b.seq∧b.seq≤2147483647)=true:=h;have:=of_decide_eq_true h
   omega
theorem zEF(a t c:Bool):(0≤zAA a t c 3∧zAA a t c 3≤63)∧zAb (zAA a t c 3) 3=a∧zAb (zAA a t c 3) 4=t∧zAb (zAA a t c 3) 5=c∧((c=true→t=true)→chk (zAA a t c 3)=0):=by
 cases a<;>cases t<;>cases c<;>decide
theorem zq9{p:Prop}(h:p:=by exact zF1 (by simp only;decide) (by simp only;decide) (by rw[h4];simp only;omega) (by rw[h4];simp only;omega)):p:=h
theorem zq10{p:Prop}(h:p:=by exact zF1 (by simp only;decide) (by simp only;decide) (by rw[h8];simp only;omega) (by rw[h8];simp only;omega)):p:=h
theorem BatS.fitsAll{b:BatS}(h:zAc b=0)(hR:b.R)(s:Int)(hs:0≤s∧s≤4294967295)(hz:b.rowsB.length≤1000000)(hn:b.recs.length≤1000000):FitsAll (b.pre s).items:=by
 obtain⟨p1,p2,p3,p4⟩:=zBu h;have q1:=of_decide_eq_true p1;obtain⟨q2,q3,q4⟩:=zLv p3;obtain⟨r1,r2,r3,r4,r5,r6,r7,r8⟩:=hR;unfold Rn at r1 r2 r3 r4 r5 r6 r7 r8;have qa:=(zEF b.app b.txn b.ctl).1;have h8:half 8=9223372036854775808:=by decide
 have h4:half 4=2147483648:=by decide
 have h2:half 2=32768:=by decide
 have h1:half 1=128:=by decide
 intro x hx;simp only[PreS.items,BatS.pre,List.mem_cons,List.not_mem_nil,or_false]at hx
 rcases hx with rfl|rfl|rfl|rfl|rfl|rfl|rfl|rfl|rfl|rfl|rfl|rfl|rfl
 · exact zq10
 · exact zq9
 · exact zq9
 · exact zF1 (by simp only;decide) (by simp only;decide) (by rw[h1];simp only;omega) (by rw[h1];simp only;omega)
 · exact zIo s (by omega) (by omega)
 · exact zF1 (by simp only;decide) (by simp only;decide) (by rw[h2];simp only;omega) (by rw[h2];simp only;omega)
 · exact zq9
 · exact zq10
 · exact zq10
 · exact zq10
 · exact zF1 (by simp only;decide) (by simp only;decide) (by rw[h2];simp only;omega) (by rw[h2];simp only;omega)
 · exact zq9
 · exact zq9
theorem BatS.pre_R{b:BatS}(_h:zAc b=0)(hR:b.R)(s:Int)(hs:0≤s∧s≤4294967295)(hz:b.rowsB.length≤1000000)(hn:b.recs.length≤1000000):(b.pre s).R:=by
 have qa:=(zEF b.app b.txn b.ctl).1;obtain⟨r1,r2,r3,r4,r5,r6,r7,r8⟩:=hR;unfold Rn at r1 r2 r3 r4 r5 r6 r7 r8;intro n hn;simp only[PreS.list,BatS.pre,List.mem_cons,List.not_mem_nil,or_false]at hn
 rcases hn with rfl|rfl|rfl|rfl|rfl|rfl|rfl|rfl|rfl|rfl|rfl|rfl<;>omega
theorem zKM:∀(rs:List RecS) (rows:Bs) (pos:Nat),pos≤rows.length→rows.drop pos=rs.flatMap encR→(∀x∈rs,x.R∧zAV x=0∧x.sum≤1000000)→unp rs.length ⟨rows,pos,0⟩=.ok rs
  |[],rows,pos,hp,hd,_=>by
    have hz:rows.length - pos=0:=by rw[←List.length_drop,hd];rfl
    show(if (⟨rows,pos,0⟩:InS).left=0 then Except.ok []else Except.error (10:Int))=Except.ok []
    rw[if_pos (by simp only[InS.left];exact hz)]
  |x::t,rows,pos,hp,hd,hx=>by
    obtain⟨hR,ho,hs⟩:=hx x (by simp);rw[List.flatMap_cons]at hd;have hr:=zLP x hR ho hs (t.flatMap encR);rw[←hd]at hr;obtain⟨hpm,hf⟩:=zFA.ok rows pos x _ hp hr;have hpos:=(zFx hr).2.2.2.2.1
    show(if (⟨rows,pos,0⟩:InS).left=0 then Except.error (10:Int)else if (⟨rows,pos,0⟩:InS).record.2.err=0 then zH6 (⟨rows,pos,0⟩:InS).record.1 (unp t.length (⟨rows,pos,0⟩:InS).record.2)else Except.error (⟨rows,pos,0⟩:InS).record.2.err)=Except.ok (x::t)
    rw[if_neg (by simp only[InS.left];omega),hf];simp only[if_true];rw[zKM t rows _ hpm (by rw[←List.drop_drop,hd,List.drop_left]) (fun y hy=>hx y (by simp[hy]))]
    rfl
theorem zOr{b:BatS}(h:zAc b=0)(hf:∀x∈b.recs,x.R∧zAV x=0∧x.sum≤1000000):asmB (b.pre b.crc) (zAd (b.pre b.crc).items) b.rowsB=.ok b:=by
 obtain⟨_,p2,_,_⟩:=zBu h;obtain⟨_,a3,a4,a5,a6⟩:=zEF b.app b.txn b.ctl;have hu:=zKM b.recs b.rowsB 0 (Nat.zero_le _) rfl hf;unfold asmB;rw[b.pre_drop];have e1:((zAp 0#32 (b.back++b.rowsB)).toNat:Int)=(b.pre b.crc).sum:=rfl;have e2:(b.pre b.crc).attr=zAA b.app b.txn b.ctl 3:=rfl;have e3:(b.pre b.crc).count.toNat=b.recs.length:=rfl;rw[if_neg (fun hh=>hh e1),e2,if_neg (fun hh=>hh (a6 p2)),e3,hu];simp only[a3,a4,a5];obtain⟨base,leader,app,txn,ctl,last,first,maxt,prod,epoch,sq,rs⟩:=b;exact if_pos h
theorem zLS{b:BatS}(h:zAc b=0)(hR:b.R)(hf:∀x∈b.recs,x.R∧zAV x=0∧x.sum≤1000000)(hz:b.rowsB.length≤1000000)(hn:b.recs.length≤1000000)(t:Bs):zCg (b.enc++t)=.ok (b,b.enc.length):=by
 have hc:=b.crc_lt;have hfa:=BatS.fitsAll h hR b.crc (by omega) hz hn;have hp:=zIE (b.pre b.crc) hfa (show(49:Int)≤49+(b.rowsB.length:Int) by omega) (show(0:Int)≤(b.recs.length:Int) by omega) (b.rowsB++t);rw[←List.append_assoc]at hp;have hle:b.enc.length=61+b.rowsB.length:=by unfold BatS.enc;rw[List.length_append,zAK]
 have hl:((b.pre b.crc).len - 49).toNat=b.rowsB.length:=by show((49+(b.rowsB.length:Int)) - 49).toNat=_;omega
 unfold zCg;have hp2:zAQ (b.enc++t)=.ok (b.pre b.crc):=hp;rw[hp2];simp only;rw[hl,if_neg (by rw[List.length_append,hle];omega)]
 have t1:(b.enc++t).take 61=zAd (b.pre b.crc).items:=by
  unfold BatS.enc;rw[List.append_assoc,List.take_left' (zAK _)]
 have t2:((b.enc++t).drop 61).take b.rowsB.length=b.rowsB:=by
  unfold BatS.enc;rw[List.append_assoc,List.drop_left' (zAK _),List.take_left]
 rw[t1,t2,zOr h hf];simp only;rw[hle]
def hexD (n:Nat):UInt8:=if n<10 then UInt8.ofNat (48+n)else UInt8.ofNat (87+n)
def hexL (s:Bs):Bs:=s.flatMap fun x=>[hexD (x.toNat / 16),hexD (x.toNat % 16)]
def hexW (s:Bs):Bs:=if s=[]then[45]else hexL s
def digB:Bs:=[48,49,50,51,52,53,54,55,56,57,97,98,99,100,101,102]
theorem zQt:∀n,(h:n<16)→digB[n]'h=hexD n:=by decide
theorem digA(n:Nat)(h:n<(⟨#[48,49,50,51,52,53,54,55,56,57,97,98,99,100,101,102]⟩:ByteArray).size):(⟨#[48,49,50,51,52,53,54,55,56,57,97,98,99,100,101,102]⟩:ByteArray)[n]'h=hexD n:=zQt n h
theorem zNL(s:Bs)(k:Nat)(hk:k<s.length)(x:UInt8)(hx:s[k]=x):hexL (s.take k)++[hexD (x.toNat / 16)]++[hexD (x.toNat % 16)]=hexL (s.take (k+1)):=by
 unfold hexL;rw[List.take_succ_eq_append_getElem hk,hx,List.flatMap_append]
 simp
theorem zC1(s:Bs):(hexL s).length=2*s.length:=by
 unfold hexL
 induction s with
 |nil=>rfl
 |cons a t ih=>rw[List.flatMap_cons,List.length_append,ih];simp;omega
def digI (c:UInt8):Int:=Lib.indexByte digB c
theorem zPh:∀n:Fin 256,(digI (UInt8.ofNat n.1)= -1)∨(0≤digI (UInt8.ofNat n.1)∧digI (UInt8.ofNat n.1)<16∧hexD (digI (UInt8.ofNat n.1)).toNat=UInt8.ofNat n.1):=by decide+kernel
theorem zC3(c:UInt8):digI c= -1∨(0≤digI c∧digI c<16∧hexD (digI c).toNat=c):=by
 have h:=zPh ⟨c.toNat,c.toNat_lt⟩
 simpa using h
theorem zJm:∀n:Fin 16,digI (hexD n.1)=n.1:=by decide+kernel
def zBC:Bs→Option Bs
  |[]=>some []
  |[_]=>none
  |a::b::t=>if digI a= -1∨digI b= -1 then none else(zBC t).map (UInt8.ofNat (digI a*16+digI b).toNat:: ·)
def zHO (w:Bs):Option Bs:=if w=[45]then some []else if w=[]then none else zBC w
theorem zI6:∀w:Bs,w.length % 2≠0→zBC w=none
  |[],h=>absurd rfl h
  |[_],_=>rfl
  |a::b::t,h=>by
    unfold zBC
    by_cases hd:digI a= -1∨digI b= -1
    · rw[if_pos hd]
    · rw[if_neg hd,zI6 t (by simp only[List.length_cons]at h;omega)]
      rfl
theorem zG6:∀s:Bs,zBC (hexL s)=some s
  |[]=>rfl
  |x::t=>by
    have h1:=zJm ⟨x.toNat / 16,by have:=x.toNat_lt;omega⟩;have h2:=zJm ⟨x.toNat % 16,by omega⟩;simp only at h1 h2;have e:hexL (x::t)=hexD (x.toNat / 16)::hexD (x.toNat % 16)::hexL t:=rfl;rw[e];unfold zBC;rw[h1,h2,if_neg (by omega),zG6 t];have h3:((((x.toNat / 16:Nat):Int)*16+((x.toNat % 16:Nat):Int)).toNat)=x.toNat:=by omega
    simp only[Option.map_some];rw[h3,UInt8.ofNat_toNat]
theorem zFW:∀(w c:Bs),zBC w=some c→hexL c=w
  |[],c,h=>by unfold zBC at h;injection h with h;subst h;rfl
  |[_],c,h=>by unfold zBC at h;cases h
  |a::b::t,c,h=>by
    unfold zBC at h
    by_cases hd:digI a= -1∨digI b= -1
    · rw[if_pos hd]at h;cases h
    · rw[if_neg hd]at h
      cases ht:zBC t with
      |none=>rw[ht]at h;cases h
      |some d=>
        rw[ht]at h;injection h with h;subst h;have ih:=zFW t d ht
        rcases zC3 a with ha|⟨a1,a2,a3⟩
        · exact absurd (.inl ha) hd
        rcases zC3 b with hb|⟨b1,b2,b3⟩
        · exact absurd (.inr hb) hd
        have e:∀x:UInt8,hexL (x::d)=hexD (x.toNat / 16)::hexD (x.toNat % 16)::hexL d:=fun _=>rfl
        rw[e,ih];have h3:(UInt8.ofNat (digI a*16+digI b).toNat).toNat=(digI a*16+digI b).toNat:=by rw[UInt8.toNat_ofNat'];omega
        rw[h3,show(digI a*16+digI b).toNat / 16=(digI a).toNat by omega,show(digI a*16+digI b).toNat % 16=(digI b).toNat by omega,a3,b3]
theorem zG5(s:Bs):zHO (hexW s)=some s:=by
 unfold zHO hexW
 by_cases h:s=[]
 · subst h;rfl
 · rw[if_neg h];have h2:=zC1 s;have h3:0<s.length:=List.length_pos_iff.2 h;rw[if_neg (fun e=>by rw[e]at h2;simp at h2;omega),if_neg (fun e=>by rw[e]at h2;simp at h2;omega),zG6]
theorem zNJ{s c:Bs}(h:zHO s=some c):hexW c=s:=by
 unfold zHO at h
 by_cases h1:s=[45]
 · rw[if_pos h1]at h;injection h with h;subst h h1;rfl
 · rw[if_neg h1]at h
   by_cases h2:s=[]
   · rw[if_pos h2]at h;cases h
   · rw[if_neg h2]at h;have h3:=zFW s c h;unfold hexW;rw[if_neg (fun e=>by subst e;exact h2 h3.symm),h3]
theorem zMc(w d:Bs)(j:Nat)(hj:j+1<w.length)(h:zBC w=(zBC (w.drop j)).map (d++ ·))(ha:digI w[j]≠ -1)(hb:digI w[j+1]≠ -1):zBC w=(zBC (w.drop (j+2))).map ((d++[UInt8.ofNat (digI w[j]*16+digI w[j+1]).toNat])++ ·):=by
 rw[h,List.drop_eq_getElem_cons (by omega:j<w.length),List.drop_eq_getElem_cons hj]
 conv=>lhs;arg 2;unfold zBC
 rw[if_neg (by intro h;rcases h with h|h;exact ha h;exact hb h)]
 cases zBC (w.drop (j+1+1))with
 |none=>rfl
 |some t=>simp
theorem zNK(w d:Bs)(j:Nat)(hj:j+1<w.length)(h:zBC w=(zBC (w.drop j)).map (d++ ·))(hb:digI w[j]= -1∨digI w[j+1]= -1):zBC w=none:=by
 rw[h,List.drop_eq_getElem_cons (by omega:j<w.length),List.drop_eq_getElem_cons hj]
 conv=>lhs;arg 2;unfold zBC
 rw[if_pos hb]
 rfl
set_option maxHeartbeats 4000000
set_option maxRecDepth 100000
variable {W0 w:World}{K:Know}{L:List Res}
theorem zPV:(Tryz.prog.info? 80).map (·.size)=some 2:=by kernel_rfl
theorem zPW:liesAt Tryz.prog Tryz.prog.depth 80 (2 / Tryz.prog.cellsOf 80) 0 80 1=true:=by kernel_rfl
structure SbAt (w:World) (b:Nat) (p v:Value) (l:Bs):Prop where
  ptr:p=.pointer none∨p=.pointer (some ⟨b,0,none⟩)
  blk:w.heap[b]? =some (.cells #[p,v] 80 (0,0))
  row:w.ownsRow 0 5 1 v l.length (Lib.byteCells l)
  ne:v.ownBlock≠some b
def sbG (b:Nat) (l:Bs):Gen where
  p w S:=∃p v,SbAt w b p v l∧∀k,S k↔k=b∨v.ownBlock=some k
  keep w w' S h hs hk:=by
    obtain⟨p,v,⟨h1,h2,h3,h4⟩,h5⟩:=h;refine⟨p,v,⟨h1,(hk b (zAy h2) ((h5 b).2 (.inl rfl))).trans h2,?_,h4⟩,h5⟩;exact(Res.keep (r:=.row v 5 1 l.length (Lib.byteCells l)) (w:=w) (w':=w') (S:=fun k=>v.ownBlock=some k) ⟨h3,fun k=>Iff.rfl⟩ hs (fun k hl hx=>hk k hl ((h5 k).2 (.inr hx)))).1
theorem St.sbOpen{b:Nat}{l:Bs}(h:St W0 w K (.gen (sbG b l)::L)):∃p v,(p=.pointer none∨p=.pointer (some ⟨b,0,none⟩))∧St W0 w K (.raw b #[p,v] 80::.row v 5 1 l.length (Lib.byteCells l)::L):=by
 obtain⟨a,S,F,⟨S1,S2,⟨p,v,⟨h1,h2,h3,h4⟩,h5⟩,hL,hd,he⟩,c⟩:=h;refine⟨p,v,h1,a,S,F,⟨fun k=>k=b,fun k=>v.ownBlock=some k∨S2 k,⟨h2,fun _=>Iff.rfl⟩,⟨fun k=>v.ownBlock=some k,S2,⟨h3,fun _=>Iff.rfl⟩,hL,fun k hk=>hd k ((h5 k).2 (.inr hk)),fun _=>Iff.rfl⟩,?_,fun k=> ?_⟩,c⟩
 · rintro k rfl (hk|hk)
   · exact h4 hk
   · exact hd k ((h5 k).2 (.inl rfl)) hk
 · rw[he,h5,or_assoc]
theorem St.sbShut{b:Nat}{p v:Value}{l:Bs}{n:Nat}{cs:List Value}(hp:p=.pointer none∨p=.pointer (some ⟨b,0,none⟩))(hn:n=l.length)(hc:cs=Lib.byteCells l)(h:St W0 w K (.raw b #[p,v] 80::.row v 5 1 n cs::L)):St W0 w K (.gen (sbG b l)::L):=by
 subst hn hc;obtain⟨a,S,F,⟨S1,S2,⟨h2,e1⟩,⟨S3,S4,⟨h3,e3⟩,hL,d2,e2⟩,d1,e⟩,c⟩:=h;refine⟨a,S,F,⟨fun k=>S1 k∨S3 k,S4,⟨p,v,⟨hp,h2,h3,fun h=>d1 b ((e1 b).2 rfl) ((e2 b).2 (.inl ((e3 b).2 h)))⟩,fun k=>by show S1 k∨S3 k↔_;rw[e1,e3]⟩,hL,?_,fun k=> ?_⟩,c⟩
 · rintro k (hk|hk) h4
   · exact d1 k hk ((e2 k).2 (.inr h4))
   · exact d2 k hk h4
 · rw[e,e2,or_assoc]
theorem St.sbNew(h:St W0 w K L):St W0 (w.alloc (.cells #[.pointer none,.slice none 0 0] 80 (0,0))) K (.gen (sbG w.heap.size [])::L):=
 St.sbShut (.inl rfl) rfl rfl (((h.allocRaw #[.pointer none,.slice none 0 0] 80).nilRow 5 1).p1)
theorem zKW(b:Nat)(p v:Value)(hp:p=.pointer none∨p=.pointer (some ⟨b,0,none⟩))(h:St W0 w K (.raw b #[p,v] 80::L)):
   Calls Tryz.prog 84 #[.pointer (some ⟨b,0,none⟩)] w fun en w'=>en=.returned (.tuple #[])∧St W0 w' K (.raw b #[.pointer (some ⟨b,0,none⟩),v] 80::L):=by
 obtain⟨j,hj,hjs⟩:=Option.map_eq_some_iff.1 zPV
 rcases hp with rfl|rfl
 · have hsh:w.shape? b=some (80,2):=by have h9:=h.rawGet;simp[World.shape?,h9]
   have c0:=(h).rawCell 0;have c1:=(h).rawCell 1;simp at c0 c1;have r0:=(h).rawFree 0;have r1:=(h).rawFree 1;have H:=hQd h;clear h;go_enter Tryz.func84,Tryz.ntmps84;go_wp2;rw[Lib.run_to_unsafe w ⟨b,0,none⟩ Tryz.underlying78 Tryz.underlying167 hj (by rw[hjs];decide) hsh (Nat.zero_lt_succ 1)];simp only[Result.andThen];rw[Oper.upon_value];go_wp2;rw[run_callFunc_extern Tryz.func118 (by kernel_rfl) (by kernel_rfl) (by kernel_rfl) (e:=Extern.AbiNoEscape.same) (by kernel_rfl)];rw[Lib.run_noEscape];simp only[Result.andThen];rw[Oper.upon_value];go_wp2;rw[Lib.run_from_unsafe w ⟨b,0,none⟩ Tryz.underlying167 Tryz.underlying78 hj hsh zPW];simp only[Result.andThen];rw[Oper.upon_value];go_wp2;go_end0;exact⟨rfl,H.out.rawSet 0 _⟩
 · have c0:=(h).rawCell 0;have c1:=(h).rawCell 1;simp at c0 c1;have r0:=(h).rawFree 0;have r1:=(h).rawFree 1;have H:=hQd h;clear h;go_enter Tryz.func84,Tryz.ntmps84;go_wp2;rw[Lib.run_neq_ptr_same w _ Tryz.underlying78 hj];go_wp2;go_end0;exact⟨rfl,H.out⟩
theorem zGx(l:Bs)(x:UInt8):Lib.byteCells l++[.int .u8 x.toNat]=Lib.byteCells (l++[x]):=by simp[Lib.byteCells]
theorem zH7(l:Bs)(s:Bs):Lib.byteCells l++Lib.strCells (bb s)=Lib.byteCells (l++s):=by simp[Lib.byteCells,Lib.strCells]
theorem zJN{ops:Array Oper}{rest:List Oper}{o:Oper}{a:Act}{Q:Exit→Act→World→Prop}(hgd:o.guard=none)(sl x:Operand)(t u:TypeId)
    (ho:o.op=.call {callee:=.builtin .append,args:= #[sl,x],argTypes:= #[t,u]})(ht:Tryz.prog.underlying t=some (.slice 5))(hu:Tryz.prog.underlying u=some .string)
    (v:Value)(n:Nat)(xs:List Value)(hs:a.eval sl=v)(hst:St W0 w K (.row v 5 1 n xs::L))(s:ByteArray)(hx:a.eval x=.string s)(hbytes:n+s.size≤140737488355328)
    (h:∀v' w',St W0 w' K (.row v' 5 1 (n+s.size) (xs++Lib.strCells s)::L)→wpList Tryz.prog ops Q rest (a.put o.dst v') w'):wpList Tryz.prog ops Q (o::rest) a w:=by
  obtain⟨⟨i,g1,g2,g3,g4⟩,g5,g6⟩:=zNY;exact zDb hgd sl x t u ho 5 i ht hu g1 g2 g3 g4 v n xs hs hst.rowGet s hx hbytes fun v' w' k1 k2 k3=>h v' w' (hst.rowGrown k1 k2 k3)
theorem zHs(b:Nat)(l:Bs)(x:UInt8)(hl:l.length≤1000000000000)(h:St W0 w K (.gen (sbG b l)::L)):
  Calls Tryz.prog 46 #[.pointer (some ⟨b,0,none⟩),.int .u8 x.toNat] w fun en w'=>en=.returned .nilIface∧St W0 w' K (.gen (sbG b (l++[x]))::L):=by
 obtain⟨p,v,hp,h⟩:=h.sbOpen;obtain⟨qv,cv,hv⟩:=h.p1.rowAny;subst hv;have c0:=(h).rawCell 0;have c1:=(h).rawCell 1;simp at c0 c1;have r0:=(h).rawFree 0;have r1:=(h).rawFree 1;have H:=hQd h;have HP:=hQd hp;have HL:=hQd hl;clear h hp hl;go_enter Tryz.func46,Tryz.ntmps46
 go_wp2_with (first
  |(go_at_call 84;(try clear c0 c1 r0 r1);(with_reducible refine(zKW b p _ HP.out H.out).mono ?_);rintro e_ wn ⟨rfl,h⟩;have c0:=(h).rawCell 0;have c1:=(h).rawCell 1;simp at c0 c1;have r0:=(h).rawFree 0;have r1:=(h).rawFree 1;have h:=h.p1;replace H:=hQd h;clear h)
  |(at_builtin;refine zAw rfl _ _ 57 rfl 5 Tryz.underlying57 zNY _ _ _ rfl H.out [.int .u8 x.toNat] 5 (by first|rfl|(rw[World.size_alloc];rfl)) rfl (by simp[Value.oneCell'];done) (by have:=HL.out;unfold maxLen;omega) (by have:=HL.out;omega) ?_;intro v' w' h;obtain⟨qw,cw,hw⟩:=h.rowAny;subst hw;have h:=h.p1;have c0:=(h).rawCell 0;have c1:=(h).rawCell 1;simp at c0 c1;have r0:=(h).rawFree 0;have r1:=(h).rawFree 1;replace H:=hQd h;clear h))
 go_ret;exact⟨rfl,St.sbShut (.inr rfl) (by simp) (zGx l x) (H.out.rawSet 1 _)⟩
theorem zKV(b:Nat)(l s:Bs)(hl:l.length+s.length≤1000000000000)(h:St W0 w K (.gen (sbG b l)::L)):
  Calls Tryz.prog 76 #[.pointer (some ⟨b,0,none⟩),.string (bb s)] w fun en w'=>en=.returned (.tuple #[.int .i64 s.length,.nilIface])∧St W0 w' K (.gen (sbG b (l++s))::L):=by
 obtain⟨p,v,hp,h⟩:=h.sbOpen;obtain⟨qv,cv,hv⟩:=h.p1.rowAny;subst hv;have c0:=(h).rawCell 0;have c1:=(h).rawCell 1;simp at c0 c1;have r0:=(h).rawFree 0;have r1:=(h).rawFree 1;have H:=hQd h;have HP:=hQd hp;have HL:=hQd hl;clear h hp hl;go_enter Tryz.func76,Tryz.ntmps76
 go_wp2_with (first
  |(go_at_call 84;(try clear c0 c1 r0 r1);(with_reducible refine(zKW b p _ HP.out H.out).mono ?_);rintro e_ wn ⟨rfl,h⟩;have c0:=(h).rawCell 0;have c1:=(h).rawCell 1;simp at c0 c1;have r0:=(h).rawFree 0;have r1:=(h).rawFree 1;have h:=h.p1;replace H:=hQd h;clear h)
  |(at_builtin;refine zJN rfl _ _ 57 9 rfl Tryz.underlying57 Tryz.underlying9 _ _ _ rfl H.out (bb s) rfl (by have h8:=HL.out;have h9:(bb s).size=s.length:=(by simp);omega) ?_;intro v' w' h;obtain⟨qw,cw,hw⟩:=h.rowAny;subst hw;have h:=h.p1;have c0:=(h).rawCell 0;have c1:=(h).rawCell 1;simp at c0 c1;have r0:=(h).rawFree 0;have r1:=(h).rawFree 1;replace H:=hQd h;clear h))
 go_ret2;exact⟨by simp,St.sbShut (.inr rfl) (by simp) (zH7 l s) (H.out.rawSet 1 _)⟩
theorem zI5(w:World)(g n:Nat):Keeps (· =g) w (w.freeze ⟨g,0,none⟩ n):=by
 unfold World.freeze
 split
 · exact Keeps.refl _ _
 · refine⟨rfl,rfl,rfl,by simp,fun k hk hne=> ?_⟩;simp only[Array.getElem?_modify];rw[if_neg (fun e=>hne e.symm)]
theorem St.gone{w':World}{r:Res}(h:St W0 w K (r::L))(hr:∀S1,r.holds w S1→Keeps S1 w w'):St W0 w' K L:=
 St.drop (r:=.gen ⟨fun _ S=>∀k,¬S k,fun _ _ _ h _ _=>h⟩) (h.step fun S1 h1=>⟨fun _=>False,fun _ h=>h,hr S1 h1,fun _ h=>h.elim⟩)
theorem zDi(b:Nat)(l:Bs)(h0:l≠[])(h:St W0 w K (.gen (sbG b l)::L)):
  Calls Tryz.prog 47 #[.pointer (some ⟨b,0,none⟩)] w fun en w'=>en=.returned (.string (bb l))∧St W0 w' K L:=by
 obtain⟨p,v,hp,h⟩:=h.sbOpen;have hl:0<l.length:=List.length_pos_iff.2 h0;obtain⟨g,cap,hv⟩:=h.p1.rowSlice hl;subst hv;have h1:=h.drew;have c0:=(h1).rawCell 0;have c1:=(h1).rawCell 1;simp at c0 c1
 obtain⟨hlc,hcap,cur,hg⟩:l.length≤cap∧cap≤maxLen∧∃cur,w.heap[g]? =some (.cells cur 5 (0,0))∧cur.size=cap:=by
  rcases h.p1.rowGet.2 with ⟨h2,_⟩|⟨g2,cap2,cur,h2,_,h3,h4,h5,h6,_⟩
  · cases h2
  · injection h2 with e1 e2 e3;injection e1 with e1;injection e1 with e1;subst e1 e3;exact⟨h4,h5,cur,h3,by omega⟩
 have hSD:(Builtin.unsafeSliceData_ #[57] 127 #[.slice (some ⟨g,0,none⟩) l.length cap]).run Tryz.prog w.drew=.ok (.pointer (some ⟨g,0,none⟩)) w.drew:=
  Lib.run_unsafeSliceData_row _ _ _ _ _ _ (by omega)
 have hUS:(Builtin.unsafeString_ #[127,3] 9 #[.pointer (some ⟨g,0,none⟩),.int .i64 l.length]).run Tryz.prog w.drew=.ok (.string (bb l)) (w.drew.freeze ⟨g,0,none⟩ l.length):=by
  refine Lib.run_unsafeString_row w.drew 127 3 9 5 Tryz.underlying127 (by kernel_rfl) g cur.size (by have hg':w.drew.heap[g]? =some (.cells cur 5 (0,0)):=hg.1;simp[World.shape?,hg']) l h0 (by omega) (by unfold maxLen at hcap;omega) ?_;intro j x hx;exact h1.p1.rowGet.cells (g:=g) rfl j (.int .u8 x.toNat) (by simp[Lib.byteCells,hx])
 have hz:St W0 (w.drew.freeze ⟨g,0,none⟩ l.length) K L:=(h1.p1.gone fun S1 hr=>(zI5 _ g _).mono (fun k _ hk=>by rw[hk];exact(hr.2 g).2 rfl)).drop;have H:=hQd hz;clear h h1 hz hp hg;go_enter Tryz.func47,Tryz.ntmps47;go_wp2
 go_region
 go_wp2;go_ret;exact⟨rfl,H.out⟩
end Go.Proofs.YtenojajfacacoaaGreatDoor
namespace Go.Proofs
open Go.Shelf
def Tryz.lays156_ren:Go.Shelf.Ren:=⟨fun|156=>73|165=>103|166=>76|169=>47|240=>84|241=>132|276=>118|277=>160|n=>n,fun|31=>69|9=>9|3=>3|4=>4|0=>0|20=>20|72=>80|76=>115|70=>78|37=>57|75=>83|127=>127|164=>167|5=>5|80=>86|n=>n,fun|n=>n⟩
theorem Tryz.lays156:Go.Proofs.Lays.n156 Tryz.prog Tryz.lays156_ren:={
  mixed:=by kernel_rfl
  f156:=Tryz.func73.trans (congrArg some (by kernel_rfl))
  f165:=Tryz.func103.trans (congrArg some (by kernel_rfl))
  f166:=Tryz.func76.trans (congrArg some (by kernel_rfl))
  f169:=Tryz.func47.trans (congrArg some (by kernel_rfl))
  f240:=Tryz.func84.trans (congrArg some (by kernel_rfl))
  f241:=Tryz.func132.trans (congrArg some (by kernel_rfl))
  f276:=Tryz.func118.trans (congrArg some (by kernel_rfl))
  f277:=Tryz.func160.trans (congrArg some (by kernel_rfl))
  t0:=Tryz.underlying0
  a0:=Tryz.isAgg0
  z0:=Tryz.sizeOf0
  v0:=Tryz.zeroValue0
  t3:=Tryz.underlying3
  a3:=Tryz.isAgg3
  z3:=Tryz.sizeOf3
  v3:=Tryz.zeroValue3
  t4:=Tryz.underlying4
  a4:=Tryz.isAgg4
  z4:=Tryz.sizeOf4
  v4:=Tryz.zeroValue4
  t9:=Tryz.underlying9
  a9:=Tryz.isAgg9
  z9:=Tryz.sizeOf9
  v9:=Tryz.zeroValue9
  t20:=Tryz.underlying20
  a20:=Tryz.isAgg20
  z20:=Tryz.sizeOf20
  v20:=Tryz.zeroValue20
  t31:=Tryz.underlying69
  a31:=Tryz.isAgg69
  z31:=Tryz.sizeOf69
  v31:=Tryz.zeroValue69
  t37:=Tryz.underlying57
  a37:=Tryz.isAgg57
  z37:=Tryz.sizeOf57
  v37:=Tryz.zeroValue57
  t70:=Tryz.underlying78
  a70:=Tryz.isAgg78
  z70:=Tryz.sizeOf78
  v70:=Tryz.zeroValue78
  t72:=Tryz.underlying80
  a72:=Tryz.isAgg80
  z72:=Tryz.sizeOf80
  v72:=Tryz.zeroValue80
  t75:=Tryz.underlying83
  a75:=Tryz.isAgg83
  z75:=Tryz.sizeOf83
  v75:=Tryz.zeroValue83
  t76:=Tryz.underlying115
  a76:=Tryz.isAgg115
  z76:=Tryz.sizeOf115
  v76:=Tryz.zeroValue115
  t127:=Tryz.underlying127
  a127:=Tryz.isAgg127
  z127:=Tryz.sizeOf127
  v127:=Tryz.zeroValue127
  t164:=Tryz.underlying167
  a164:=Tryz.isAgg167
  z164:=Tryz.sizeOf167
  v164:=Tryz.zeroValue167}
theorem Tryz.Builder_Extra_156:Builder.Extra Tryz.prog Tryz.lays156_ren:={
  sizeBuilder:=by kernel_rfl
  liesBuilder:=by kernel_rfl
  t5:=Tryz.underlying5
  a5:=Tryz.isAgg5
  z5:=Tryz.sizeOf5
  v5:=Tryz.zeroValue5
  infoByte:=by kernel_rfl
  cellsByte:=by kernel_rfl
  sizeByte:=by kernel_rfl
  neB5:=by decide}
open Go.RowKit in
theorem Tryz.strings_Join_none(a:Option Addr)(c:Nat)(sep:ByteArray)(w:World):
 Calls Tryz.prog 73 #[.slice a 0 c,.string sep] w fun e w'=>e=.returned (.string ⟨#[]⟩)∧w'=w:=Any.strings_Join_none Tryz.lays156 Tryz.Builder_Extra_156 a c sep w
open Go.RowKit in
theorem Tryz.strings_Join(bk o c:Nat)(xs:List ByteArray)(sep:ByteArray)(w:World)(hcells:∀(j:Nat) x,xs[j]? =some x→w.cell? ⟨bk,o+j,none⟩=some (.string x))(hbk:bk<w.heap.size)(hN:xs.length≤140737488355328)(hcap:xs.length≤c)(hlen:(Lib.join (xs.map (·.data.toList)) sep.data.toList).length≤140737488355328):
 Calls Tryz.prog 73 #[.slice (some ⟨bk,o,none⟩) xs.length c,.string sep] w fun e w'=>e=.returned (.string ⟨(Lib.join (xs.map (·.data.toList)) sep.data.toList).toArray⟩)∧Below w.heap.size w w':=Any.strings_Join Tryz.lays156 Tryz.Builder_Extra_156 bk o c xs sep w hcells hbk hN hcap hlen
def Tryz.lays137_ren:Go.Shelf.Ren:=⟨fun|137=>45|217=>83|266=>117|n=>n,fun|9=>9|5=>5|3=>3|n=>n,fun|n=>n⟩
theorem Tryz.lays137:Go.Proofs.Lays.n137 Tryz.prog Tryz.lays137_ren:={
  mixed:=by kernel_rfl
  f137:=Tryz.func45.trans (congrArg some (by kernel_rfl))
  f217:=Tryz.func83.trans (congrArg some (by kernel_rfl))
  f266:=Tryz.func117.trans (congrArg some (by kernel_rfl))
  t3:=Tryz.underlying3
  a3:=Tryz.isAgg3
  z3:=Tryz.sizeOf3
  v3:=Tryz.zeroValue3
  t5:=Tryz.underlying5
  a5:=Tryz.isAgg5
  z5:=Tryz.sizeOf5
  v5:=Tryz.zeroValue5
  t9:=Tryz.underlying9
  a9:=Tryz.isAgg9
  z9:=Tryz.sizeOf9
  v9:=Tryz.zeroValue9}
open Go.RowKit in
theorem Tryz.strings_IndexByte(s:ByteArray)(c:Int)(w:World):
 Calls Tryz.prog 45 #[.string s,.int .u8 c] w fun e w'=>e=.returned (.int .i64 (Lib.indexByte s.data.toList c.toNat.toUInt8))∧w'=w:=Any.strings_IndexByte Tryz.lays137 s c w
def Tryz.laysM171_ren:Go.Shelf.Ren:=⟨fun|171=>37|243=>74|246=>104|283=>133|284=>134|285=>135|286=>136|129=>162|317=>161|318=>163|319=>164|320=>165|337=>186|338=>187|n=>n,fun|3=>3|9=>9|2=>2|4=>4|171=>181|0=>0|53=>140|37=>57|5=>5|173=>184|212=>219|51=>60|20=>20|213=>220|46=>85|232=>242|233=>243|n=>n,fun|17=>1|18=>2|19=>3|n=>n⟩
theorem Tryz.laysM171:Go.Proofs.LaysM.n171 Tryz.prog Tryz.laysM171_ren:={
  mixed:=by kernel_rfl
  f129:=Tryz.func162.trans (congrArg some (by kernel_rfl))
  f171:=Tryz.func37.trans (congrArg some (by kernel_rfl))
  f243:=Tryz.func74.trans (congrArg some (by kernel_rfl))
  f246:=Tryz.func104.trans (congrArg some (by kernel_rfl))
  f283:=Tryz.func133.trans (congrArg some (by kernel_rfl))
  f284:=Tryz.func134.trans (congrArg some (by kernel_rfl))
  f285:=Tryz.func135.trans (congrArg some (by kernel_rfl))
  f286:=Tryz.func136.trans (congrArg some (by kernel_rfl))
  f317:=Tryz.func161.trans (congrArg some (by kernel_rfl))
  f318:=Tryz.func163.trans (congrArg some (by kernel_rfl))
  f319:=Tryz.func164.trans (congrArg some (by kernel_rfl))
  f320:=Tryz.func165.trans (congrArg some (by kernel_rfl))
  f337:=Tryz.func186.trans (congrArg some (by kernel_rfl))
  f338:=Tryz.func187.trans (congrArg some (by kernel_rfl))
  t0:=Tryz.underlying0
  a0:=Tryz.isAgg0
  z0:=Tryz.sizeOf0
  v0:=Tryz.zeroValue0
  t2:=Tryz.underlying2
  a2:=Tryz.isAgg2
  z2:=Tryz.sizeOf2
  v2:=Tryz.zeroValue2
  t3:=Tryz.underlying3
  a3:=Tryz.isAgg3
  z3:=Tryz.sizeOf3
  v3:=Tryz.zeroValue3
  t4:=Tryz.underlying4
  a4:=Tryz.isAgg4
  z4:=Tryz.sizeOf4
  v4:=Tryz.zeroValue4
  t5:=Tryz.underlying5
  a5:=Tryz.isAgg5
  z5:=Tryz.sizeOf5
  v5:=Tryz.zeroValue5
  t9:=Tryz.underlying9
  a9:=Tryz.isAgg9
  z9:=Tryz.sizeOf9
  v9:=Tryz.zeroValue9
  t20:=Tryz.underlying20
  a20:=Tryz.isAgg20
  z20:=Tryz.sizeOf20
  v20:=Tryz.zeroValue20
  t37:=Tryz.underlying57
  a37:=Tryz.isAgg57
  z37:=Tryz.sizeOf57
  v37:=Tryz.zeroValue57
  t46:=Tryz.underlying85
  a46:=Tryz.isAgg85
  z46:=Tryz.sizeOf85
  v46:=Tryz.zeroValue85
  t51:=Tryz.underlying60
  a51:=Tryz.isAgg60
  z51:=Tryz.sizeOf60
  v51:=Tryz.zeroValue60
  t53:=Tryz.underlying140
  a53:=Tryz.isAgg140
  z53:=Tryz.sizeOf140
  v53:=Tryz.zeroValue140
  t171:=Tryz.underlying181
  a171:=Tryz.isAgg181
  z171:=Tryz.sizeOf181
  v171:=Tryz.zeroValue181
  t173:=Tryz.underlying184
  a173:=Tryz.isAgg184
  z173:=Tryz.sizeOf184
  v173:=Tryz.zeroValue184
  t212:=Tryz.underlying219
  a212:=Tryz.isAgg219
  z212:=Tryz.sizeOf219
  v212:=Tryz.zeroValue219
  t213:=Tryz.underlying220
  a213:=Tryz.isAgg220
  z213:=Tryz.sizeOf220
  t232:=Tryz.underlying242
  a232:=Tryz.isAgg242
  z232:=Tryz.sizeOf242
  v232:=Tryz.zeroValue242
  t233:=Tryz.underlying243
  a233:=Tryz.isAgg243
  z233:=Tryz.sizeOf243
  v233:=Tryz.zeroValue243
  g17:=by kernel_rfl
  g18:=by kernel_rfl
  g19:=by kernel_rfl
  i0:=by kernel_rfl
  i2:=by kernel_rfl
  i3:=by kernel_rfl
  i4:=by kernel_rfl
  i5:=by kernel_rfl
  i9:=by kernel_rfl
  i20:=by kernel_rfl
  i37:=by kernel_rfl
  i46:=by kernel_rfl
  i51:=by kernel_rfl
  i53:=by kernel_rfl
  i171:=by kernel_rfl
  i173:=by kernel_rfl
  i212:=by kernel_rfl
  i232:=by kernel_rfl
  i233:=by kernel_rfl
  m17:=by kernel_rfl
  m18:=by kernel_rfl
  m19:=by kernel_rfl}
open Go.RowKit Go.Sort Go.Lib in
theorem Tryz.strconv_Itoa(n:Int)(h0: -9223372036854775808≤n)(h1:n≤9223372036854775807)(w:World)(htab:Lib.TabIs Tryz.prog w "internal/strconv.uint64pow10" .u64 Lib.pow10Tab):
 Calls Tryz.prog 37 #[.int .i64 n] w fun e w'=>e=.returned (.string ⟨(Lib.itoa n).toArray⟩)∧∃k os,w'=grow (w.drewN k) os:=Any.strconv_Itoa Tryz.laysM171 n h0 h1 w htab
def Tryz.laysC172_ren:Go.Shelf.Ren:=⟨fun|172=>172|244=>191|245=>192|247=>202|279=>203|280=>204|281=>205|282=>206|287=>208|316=>209|171=>37|205=>210|321=>213|322=>214|243=>74|246=>104|283=>133|284=>134|285=>135|286=>136|129=>162|317=>161|318=>163|319=>164|320=>165|337=>186|338=>187|n=>n,fun|9=>9|3=>3|75=>83|76=>115|4=>4|5=>5|167=>251|37=>57|0=>0|85=>252|2=>2|168=>254|53=>140|175=>262|46=>85|210=>265|127=>127|145=>272|143=>270|21=>21|171=>181|173=>184|212=>219|51=>60|20=>20|213=>220|232=>242|233=>243|80=>86|n=>n,fun|15=>6|16=>7|17=>1|18=>2|19=>3|n=>n⟩
theorem Tryz.laysC172:Go.Proofs.LaysC.n172 Tryz.prog Tryz.laysC172_ren:={
  mixed:=by kernel_rfl
  f129:=Tryz.func162.trans (congrArg some (by kernel_rfl))
  f171:=Tryz.func37.trans (congrArg some (by kernel_rfl))
  f172:=Tryz.func172.trans (congrArg some (by kernel_rfl))
  f205:=Tryz.func210.trans (congrArg some (by kernel_rfl))
  f243:=Tryz.func74.trans (congrArg some (by kernel_rfl))
  f244:=Tryz.func191.trans (congrArg some (by kernel_rfl))
  f245:=Tryz.func192.trans (congrArg some (by kernel_rfl))
  f246:=Tryz.func104.trans (congrArg some (by kernel_rfl))
  f247:=Tryz.func202.trans (congrArg some (by kernel_rfl))
  f279:=Tryz.func203.trans (congrArg some (by kernel_rfl))
  f280:=Tryz.func204.trans (congrArg some (by kernel_rfl))
  f281:=Tryz.func205.trans (congrArg some (by kernel_rfl))
  f282:=Tryz.func206.trans (congrArg some (by kernel_rfl))
  f283:=Tryz.func133.trans (congrArg some (by kernel_rfl))
  f284:=Tryz.func134.trans (congrArg some (by kernel_rfl))
  f285:=Tryz.func135.trans (congrArg some (by kernel_rfl))
  f286:=Tryz.func136.trans (congrArg some (by kernel_rfl))
  f287:=Tryz.func208.trans (congrArg some (by kernel_rfl))
  f316:=Tryz.func209.trans (congrArg some (by kernel_rfl))
  f317:=Tryz.func161.trans (congrArg some (by kernel_rfl))
  f318:=Tryz.func163.trans (congrArg some (by kernel_rfl))
  f319:=Tryz.func164.trans (congrArg some (by kernel_rfl))
  f320:=Tryz.func165.trans (congrArg some (by kernel_rfl))
  f321:=Tryz.func213.trans (congrArg some (by kernel_rfl))
  f322:=Tryz.func214.trans (congrArg some (by kernel_rfl))
  f337:=Tryz.func186.trans (congrArg some (by kernel_rfl))
  f338:=Tryz.func187.trans (congrArg some (by kernel_rfl))
  t0:=Tryz.underlying0
  a0:=Tryz.isAgg0
  z0:=Tryz.sizeOf0
  v0:=Tryz.zeroValue0
  t2:=Tryz.underlying2
  a2:=Tryz.isAgg2
  z2:=Tryz.sizeOf2
  v2:=Tryz.zeroValue2
  t3:=Tryz.underlying3
  a3:=Tryz.isAgg3
  z3:=Tryz.sizeOf3
  v3:=Tryz.zeroValue3
  t4:=Tryz.underlying4
  a4:=Tryz.isAgg4
  z4:=Tryz.sizeOf4
  v4:=Tryz.zeroValue4
  t5:=Tryz.underlying5
  a5:=Tryz.isAgg5
  z5:=Tryz.sizeOf5
  v5:=Tryz.zeroValue5
  t9:=Tryz.underlying9
  a9:=Tryz.isAgg9
  z9:=Tryz.sizeOf9
  v9:=Tryz.zeroValue9
  t20:=Tryz.underlying20
  a20:=Tryz.isAgg20
  z20:=Tryz.sizeOf20
  v20:=Tryz.zeroValue20
  t21:=Tryz.underlying21
  a21:=Tryz.isAgg21
  z21:=Tryz.sizeOf21
  v21:=Tryz.zeroValue21
  t37:=Tryz.underlying57
  a37:=Tryz.isAgg57
  z37:=Tryz.sizeOf57
  v37:=Tryz.zeroValue57
  t46:=Tryz.underlying85
  a46:=Tryz.isAgg85
  z46:=Tryz.sizeOf85
  v46:=Tryz.zeroValue85
  t51:=Tryz.underlying60
  a51:=Tryz.isAgg60
  z51:=Tryz.sizeOf60
  v51:=Tryz.zeroValue60
  t53:=Tryz.underlying140
  a53:=Tryz.isAgg140
  z53:=Tryz.sizeOf140
  v53:=Tryz.zeroValue140
  t75:=Tryz.underlying83
  a75:=Tryz.isAgg83
  z75:=Tryz.sizeOf83
  v75:=Tryz.zeroValue83
  t76:=Tryz.underlying115
  a76:=Tryz.isAgg115
  z76:=Tryz.sizeOf115
  v76:=Tryz.zeroValue115
  t85:=Tryz.underlying252
  a85:=Tryz.isAgg252
  z85:=Tryz.sizeOf252
  v85:=Tryz.zeroValue252
  t127:=Tryz.underlying127
  a127:=Tryz.isAgg127
  z127:=Tryz.sizeOf127
  v127:=Tryz.zeroValue127
  t143:=Tryz.underlying270
  a143:=Tryz.isAgg270
  z143:=Tryz.sizeOf270
  v143:=Tryz.zeroValue270
  t145:=Tryz.underlying272
  a145:=Tryz.isAgg272
  z145:=Tryz.sizeOf272
  v145:=Tryz.zeroValue272
  t167:=Tryz.underlying251
  a167:=Tryz.isAgg251
  z167:=Tryz.sizeOf251
  v167:=Tryz.zeroValue251
  t168:=Tryz.underlying254
  a168:=Tryz.isAgg254
  z168:=Tryz.sizeOf254
  v168:=Tryz.zeroValue254
  t171:=Tryz.underlying181
  a171:=Tryz.isAgg181
  z171:=Tryz.sizeOf181
  v171:=Tryz.zeroValue181
  t173:=Tryz.underlying184
  a173:=Tryz.isAgg184
  z173:=Tryz.sizeOf184
  v173:=Tryz.zeroValue184
  t175:=Tryz.underlying262
  a175:=Tryz.isAgg262
  z175:=Tryz.sizeOf262
  v175:=Tryz.zeroValue262
  t210:=Tryz.underlying265
  a210:=Tryz.isAgg265
  z210:=Tryz.sizeOf265
  v210:=Tryz.zeroValue265
  t212:=Tryz.underlying219
  a212:=Tryz.isAgg219
  z212:=Tryz.sizeOf219
  v212:=Tryz.zeroValue219
  t213:=Tryz.underlying220
  a213:=Tryz.isAgg220
  z213:=Tryz.sizeOf220
  t232:=Tryz.underlying242
  a232:=Tryz.isAgg242
  z232:=Tryz.sizeOf242
  v232:=Tryz.zeroValue242
  t233:=Tryz.underlying243
  a233:=Tryz.isAgg243
  z233:=Tryz.sizeOf243
  v233:=Tryz.zeroValue243
  g15:=by kernel_rfl
  g16:=by kernel_rfl
  g17:=by kernel_rfl
  g18:=by kernel_rfl
  g19:=by kernel_rfl
  t80:=Tryz.underlying86
  a80:=Tryz.isAgg86
  z80:=Tryz.sizeOf86
  v80:=Tryz.zeroValue86
  i0:=by kernel_rfl
  i2:=by kernel_rfl
  i3:=by kernel_rfl
  i4:=by kernel_rfl
  i5:=by kernel_rfl
  i9:=by kernel_rfl
  i20:=by kernel_rfl
  i21:=by kernel_rfl
  i37:=by kernel_rfl
  i46:=by kernel_rfl
  i51:=by kernel_rfl
  i53:=by kernel_rfl
  i75:=by kernel_rfl
  i76:=by kernel_rfl
  i80:=by kernel_rfl
  i85:=by kernel_rfl
  i127:=by kernel_rfl
  i143:=by kernel_rfl
  i145:=by kernel_rfl
  i167:=by kernel_rfl
  i168:=by kernel_rfl
  i171:=by kernel_rfl
  i173:=by kernel_rfl
  i175:=by kernel_rfl
  i210:=by kernel_rfl
  i212:=by kernel_rfl
  i232:=by kernel_rfl
  i233:=by kernel_rfl
  m15:=by kernel_rfl
  m16:=by kernel_rfl
  m17:=by kernel_rfl
  m18:=by kernel_rfl
  m19:=by kernel_rfl
  c0:=by kernel_rfl
  c2:=by kernel_rfl
  c3:=by kernel_rfl
  c4:=by kernel_rfl
  c5:=by kernel_rfl
  c9:=by kernel_rfl
  c20:=by kernel_rfl
  c21:=by kernel_rfl
  c37:=by kernel_rfl
  c46:=by kernel_rfl
  c51:=by kernel_rfl
  c53:=by kernel_rfl
  c75:=by kernel_rfl
  c76:=by kernel_rfl
  c80:=by kernel_rfl
  c85:=by kernel_rfl
  c127:=by kernel_rfl
  c143:=by kernel_rfl
  c145:=by kernel_rfl
  c167:=by kernel_rfl
  c168:=by kernel_rfl
  c171:=by kernel_rfl
  c173:=by kernel_rfl
  c175:=by kernel_rfl
  c210:=by kernel_rfl
  c212:=by kernel_rfl
  c213:=by kernel_rfl
  c232:=by kernel_rfl
  c233:=by kernel_rfl}
open Go.RowKit in
theorem Tryz.strconv_Atoi_ok(s:ByteArray)(hmax:s.size≤9223372036854775806)(v:Int)(h:Lib.atoiAll s.data.toList=.ok v)(w:World):
 Calls Tryz.prog 172 #[.string s] w fun e w'=>e=.returned (.tuple #[.int .i64 v,.nilIface])∧(w'=w∨∃t,w'=Lib.bytesWorld w 5 t):=Any.strconv_Atoi_ok Tryz.laysC172 s hmax v h w
open Go.RowKit in
theorem Tryz.strconv_Atoi_syntax(s:ByteArray)(hlim:s.size≤281474976710656)(h:Lib.atoiAll s.data.toList=Lib.atoiAll [])(ev:Value)(w:World)(hv:w.cell? ⟨6,0,none⟩=some ev)(hev:ev=.nilIface∨∃te pe,ev=.iface te pe):
 Calls Tryz.prog 172 #[.string s] w fun e w'=>∃N,e=.returned (.tuple #[.int .i64 (0),.iface 254 (.pointer (some ⟨N,0,none⟩))])∧w.heap.size≤N∧w'.heap[N]? =some (.cells #[.string ⟨#[65,116,111,105]⟩,.string s,ev] 265 (0,0))∧Below w.heap.size w w':=Any.strconv_Atoi_syntax Tryz.laysC172 s hlim h ev w hv hev
open Go.RowKit in
theorem Tryz.strconv_Atoi_range(s:ByteArray)(hlim:s.size≤281474976710656)(h:Lib.atoiAll s.data.toList=.range)(ev:Value)(w:World)(hv:w.cell? ⟨7,0,none⟩=some ev)(hev:ev=.nilIface∨∃te pe,ev=.iface te pe):
 Calls Tryz.prog 172 #[.string s] w fun e w'=>∃N,e=.returned (.tuple #[.int .i64 (Lib.atoiSat s.data.toList),.iface 254 (.pointer (some ⟨N,0,none⟩))])∧w.heap.size≤N∧w'.heap[N]? =some (.cells #[.string ⟨#[65,116,111,105]⟩,.string s,ev] 265 (0,0))∧Below w.heap.size w w':=Any.strconv_Atoi_range Tryz.laysC172 s hlim h ev w hv hev
def Tryz.lays144_ren:Go.Shelf.Ren:=⟨fun|144=>173|143=>144|219=>138|217=>83|225=>169|224=>170|267=>171|266=>117|314=>190|n=>n,fun|9=>9|4=>4|3=>3|5=>5|46=>85|146=>238|51=>60|n=>n,fun|1=>0|n=>n⟩
theorem Tryz.lays144:Go.Proofs.Lays.n144 Tryz.prog Tryz.lays144_ren:={
  mixed:=by kernel_rfl
  f143:=Tryz.func144.trans (congrArg some (by kernel_rfl))
  f144:=Tryz.func173.trans (congrArg some (by kernel_rfl))
  f217:=Tryz.func83.trans (congrArg some (by kernel_rfl))
  f219:=Tryz.func138.trans (congrArg some (by kernel_rfl))
  f224:=Tryz.func170.trans (congrArg some (by kernel_rfl))
  f225:=Tryz.func169.trans (congrArg some (by kernel_rfl))
  f266:=Tryz.func117.trans (congrArg some (by kernel_rfl))
  f267:=Tryz.func171.trans (congrArg some (by kernel_rfl))
  f314:=Tryz.func190.trans (congrArg some (by kernel_rfl))
  t3:=Tryz.underlying3
  a3:=Tryz.isAgg3
  z3:=Tryz.sizeOf3
  v3:=Tryz.zeroValue3
  t4:=Tryz.underlying4
  a4:=Tryz.isAgg4
  z4:=Tryz.sizeOf4
  v4:=Tryz.zeroValue4
  t5:=Tryz.underlying5
  a5:=Tryz.isAgg5
  z5:=Tryz.sizeOf5
  v5:=Tryz.zeroValue5
  t9:=Tryz.underlying9
  a9:=Tryz.isAgg9
  z9:=Tryz.sizeOf9
  v9:=Tryz.zeroValue9
  t46:=Tryz.underlying85
  a46:=Tryz.isAgg85
  z46:=Tryz.sizeOf85
  v46:=Tryz.zeroValue85
  t51:=Tryz.underlying60
  a51:=Tryz.isAgg60
  z51:=Tryz.sizeOf60
  v51:=Tryz.zeroValue60
  t146:=Tryz.underlying238
  a146:=Tryz.isAgg238
  z146:=Tryz.sizeOf238
  v146:=Tryz.zeroValue238
  g1:=by kernel_rfl}
open Go.RowKit Go.Lib in
theorem Tryz.strings_Contains_one(s:ByteArray)(c:UInt8)(w:World):
 Calls Tryz.prog 173 #[.string s,.string ⟨#[c]⟩] w fun e w'=>e=.returned (.bool (decide (0≤Lib.indexByte s.data.toList c)))∧w'=w:=Any.strings_Contains_one Tryz.lays144 s c w
def Tryz.lays145_ren:Go.Shelf.Ren:=⟨fun|145=>80|220=>110|219=>138|217=>83|225=>169|224=>170|267=>171|266=>117|314=>190|n=>n,fun|9=>9|4=>4|59=>123|3=>3|5=>5|46=>85|146=>238|51=>60|n=>n,fun|1=>0|n=>n⟩
theorem Tryz.lays145:Go.Proofs.Lays.n145 Tryz.prog Tryz.lays145_ren:={
  mixed:=by kernel_rfl
  f145:=Tryz.func80.trans (congrArg some (by kernel_rfl))
  f217:=Tryz.func83.trans (congrArg some (by kernel_rfl))
  f219:=Tryz.func138.trans (congrArg some (by kernel_rfl))
  f220:=Tryz.func110.trans (congrArg some (by kernel_rfl))
  f224:=Tryz.func170.trans (congrArg some (by kernel_rfl))
  f225:=Tryz.func169.trans (congrArg some (by kernel_rfl))
  f266:=Tryz.func117.trans (congrArg some (by kernel_rfl))
  f267:=Tryz.func171.trans (congrArg some (by kernel_rfl))
  f314:=Tryz.func190.trans (congrArg some (by kernel_rfl))
  t3:=Tryz.underlying3
  a3:=Tryz.isAgg3
  z3:=Tryz.sizeOf3
  v3:=Tryz.zeroValue3
  t4:=Tryz.underlying4
  a4:=Tryz.isAgg4
  z4:=Tryz.sizeOf4
  v4:=Tryz.zeroValue4
  t5:=Tryz.underlying5
  a5:=Tryz.isAgg5
  z5:=Tryz.sizeOf5
  v5:=Tryz.zeroValue5
  t9:=Tryz.underlying9
  a9:=Tryz.isAgg9
  z9:=Tryz.sizeOf9
  v9:=Tryz.zeroValue9
  t46:=Tryz.underlying85
  a46:=Tryz.isAgg85
  z46:=Tryz.sizeOf85
  v46:=Tryz.zeroValue85
  t51:=Tryz.underlying60
  a51:=Tryz.isAgg60
  z51:=Tryz.sizeOf60
  v51:=Tryz.zeroValue60
  t59:=Tryz.underlying123
  a59:=Tryz.isAgg123
  z59:=Tryz.sizeOf123
  v59:=Tryz.zeroValue123
  t146:=Tryz.underlying238
  a146:=Tryz.isAgg238
  z146:=Tryz.sizeOf238
  v146:=Tryz.zeroValue238
  g1:=by kernel_rfl}
open Go.RowKit Go.Lib in
theorem Tryz.strings_Cut(s sep:ByteArray)(m:Int)(w:World)(hs:s.size<4294967281)(hm:w.cell? ⟨0,0,none⟩=some (.int .i64 m)):
 Calls Tryz.prog 80 #[.string s,.string sep] w fun e w'=>e=.returned (.tuple #[.string ⟨(Lib.cut s.data.toList sep.data.toList).1.toArray⟩,.string ⟨(Lib.cut s.data.toList sep.data.toList).2.1.toArray⟩,.bool (Lib.cut s.data.toList sep.data.toList).2.2])∧∃n,w'=w.drewN n:=Any.strings_Cut Tryz.lays145 s sep m w hs hm
def Tryz.lays146_ren:Go.Shelf.Ren:=⟨fun|146=>82|221=>116|268=>142|138=>143|143=>144|195=>174|197=>175|218=>176|219=>138|260=>193|217=>83|225=>169|224=>170|267=>171|266=>117|314=>190|n=>n,fun|9=>9|31=>69|3=>3|4=>4|0=>0|105=>224|21=>21|5=>5|46=>85|119=>257|139=>260|138=>259|146=>238|51=>60|n=>n,fun|1=>0|3=>4|4=>5|n=>n⟩
theorem Tryz.lays146:Go.Proofs.Lays.n146 Tryz.prog Tryz.lays146_ren:={
  mixed:=by kernel_rfl
  f138:=Tryz.func143.trans (congrArg some (by kernel_rfl))
  f143:=Tryz.func144.trans (congrArg some (by kernel_rfl))
  f146:=Tryz.func82.trans (congrArg some (by kernel_rfl))
  f195:=Tryz.func174.trans (congrArg some (by kernel_rfl))
  f197:=Tryz.func175.trans (congrArg some (by kernel_rfl))
  f217:=Tryz.func83.trans (congrArg some (by kernel_rfl))
  f218:=Tryz.func176.trans (congrArg some (by kernel_rfl))
  f219:=Tryz.func138.trans (congrArg some (by kernel_rfl))
  f221:=Tryz.func116.trans (congrArg some (by kernel_rfl))
  f224:=Tryz.func170.trans (congrArg some (by kernel_rfl))
  f225:=Tryz.func169.trans (congrArg some (by kernel_rfl))
  f260:=Tryz.func193.trans (congrArg some (by kernel_rfl))
  f266:=Tryz.func117.trans (congrArg some (by kernel_rfl))
  f267:=Tryz.func171.trans (congrArg some (by kernel_rfl))
  f268:=Tryz.func142.trans (congrArg some (by kernel_rfl))
  f314:=Tryz.func190.trans (congrArg some (by kernel_rfl))
  t0:=Tryz.underlying0
  a0:=Tryz.isAgg0
  z0:=Tryz.sizeOf0
  v0:=Tryz.zeroValue0
  t3:=Tryz.underlying3
  a3:=Tryz.isAgg3
  z3:=Tryz.sizeOf3
  v3:=Tryz.zeroValue3
  t4:=Tryz.underlying4
  a4:=Tryz.isAgg4
  z4:=Tryz.sizeOf4
  v4:=Tryz.zeroValue4
  t5:=Tryz.underlying5
  a5:=Tryz.isAgg5
  z5:=Tryz.sizeOf5
  v5:=Tryz.zeroValue5
  t9:=Tryz.underlying9
  a9:=Tryz.isAgg9
  z9:=Tryz.sizeOf9
  v9:=Tryz.zeroValue9
  t21:=Tryz.underlying21
  a21:=Tryz.isAgg21
  z21:=Tryz.sizeOf21
  v21:=Tryz.zeroValue21
  t31:=Tryz.underlying69
  a31:=Tryz.isAgg69
  z31:=Tryz.sizeOf69
  v31:=Tryz.zeroValue69
  t46:=Tryz.underlying85
  a46:=Tryz.isAgg85
  z46:=Tryz.sizeOf85
  v46:=Tryz.zeroValue85
  t51:=Tryz.underlying60
  a51:=Tryz.isAgg60
  z51:=Tryz.sizeOf60
  v51:=Tryz.zeroValue60
  t105:=Tryz.underlying224
  a105:=Tryz.isAgg224
  z105:=Tryz.sizeOf224
  v105:=Tryz.zeroValue224
  t119:=Tryz.underlying257
  a119:=Tryz.isAgg257
  z119:=Tryz.sizeOf257
  t138:=Tryz.underlying259
  a138:=Tryz.isAgg259
  z138:=Tryz.sizeOf259
  v138:=Tryz.zeroValue259
  t139:=Tryz.underlying260
  a139:=Tryz.isAgg260
  z139:=Tryz.sizeOf260
  v139:=Tryz.zeroValue260
  t146:=Tryz.underlying238
  a146:=Tryz.isAgg238
  z146:=Tryz.sizeOf238
  v146:=Tryz.zeroValue238
  g1:=by kernel_rfl
  g3:=by kernel_rfl
  g4:=by kernel_rfl}
open Go.RowKit Go.Lib in
theorem Tryz.strings_Split(s sep:ByteArray)(m:Int)(w:World)(hs:s.size<4294967281)(hm:w.cell? ⟨0,0,none⟩=some (.int .i64 m))(h1:1≤sep.size):
 Calls Tryz.prog 82 #[.string s,.string sep] w fun e w'=>
  e=.returned (.slice (some ⟨w.heap.size,0,none⟩) (Lib.countB s sep+1) (Lib.countB s sep+1))∧w'=w.alloc (.cells ((Lib.splitB sep 0 (Lib.countB s sep) s).map Value.string).toArray 9):=Any.strings_Split Tryz.lays146 (by kernel_rfl) s sep m w hs hm h1
end Go.Proofs
namespace Go.Proofs.YtenojajfacacoaaGreatDoor
open Go.RowKit
variable {W0 w:World}{K:Know}{L:List Res}
theorem zBm{P:Program}{o:Oper}{a:Act}{w w':World}{v:Value}{KK:Act→World→Prop}{Q:Exit→Act→World→Prop}(hr:(execOp a.eval o).run P w=.ok (.value v) w')(h:KK (a.put o.dst v) w'):o.wp P a w KK Q:=by
 unfold Oper.wp;rw[hr];exact h
theorem zKd{o:Oper}{a:Act}{KK:Act→World→Prop}{Q:Exit→Act→World→Prop}(sl x:Operand)(t:TypeId)
    (ho:o.op=.call {callee:=.builtin .append,args:= #[sl,x],argTypes:= #[t,t]})
    (e:TypeId){z:Value}{size bytes:Nat}(ht:Tryz.prog.underlying t=some (.slice e))(he:zDw Tryz.prog e z size bytes)
    (v:Value)(n:Nat)(xs:List Value)(hs:a.eval sl=v)(bS:Nat)(cs:Array Value)(T:TypeId)(hst:St W0 w K (.raw bS cs T::.row v e size n xs::L))
    (hx:a.eval x=.slice (some ⟨bS,0,none⟩) 1 1)(hl:cs.toList.length=size)(h1:∀u∈cs.toList,u.oneCell'=true)
    (h63:n+1≤maxLen)(hbytes:(n+1)*bytes≤140737488355328)
    (h:∀v' w',St W0 w' K (.row v' e size (n+1) (xs++cs.toList)::L)→KK (a.put o.dst v') w'):o.wp Tryz.prog a w KK Q:=by
  have hc:=hst.rawCell;have hst2:=hst.p1;obtain⟨⟨i,g1,g2,g3,g4⟩,g5,g6⟩:=he
  obtain⟨v',w',hr,h2,h3,h4⟩:=zOs (P:=Tryz.prog) w t o.type e i z size bytes ht g1 g2 g3 g4 g5 g6 v n xs hst2.rowGet ⟨bS,0,none⟩ 1 1 cs.toList (by omega) (fun j u hj=>by
    have ha:(⟨bS,0,none⟩:Addr).add j=⟨bS,j,none⟩:=by unfold Addr.add;split<;>simp_all
    rw[ha,hc j]
    simpa using hj) h1 h63 hbytes
  unfold Oper.wp execOp;simp only[ho,resolve,invoke,builtin,Sem.run_bind,Sem.run_pure,Result.andThen_ok,List.map_toArray,List.map_cons,List.map_nil,hs,hx,hr];exact h v' w' (hst2.rowGrown h2 h3 h4).p1.drop
theorem zFR{P:Program}{o:Oper}{a:Act}{w w':World}{KK:Act→World→Prop}{Q:Exit→Act→World→Prop}(hr:(execOp a.eval o).run P w=.ok .skip w')(h:KK (a.put o.dst undef) w'):o.wp P a w KK Q:=by
 unfold Oper.wp;rw[hr];exact h
theorem St.setEx{b:Nat}{c:Array Value}{T:TypeId}(h:St W0 w K (.raw b c T::L))(j:Nat)(v:Value):∃wz,w.setCell ⟨b,j,none⟩ v=wz∧St W0 wz K (.raw b (c.setIfInBounds j v) T::L):=⟨_,rfl,h.rawSet j v⟩
set_option maxHeartbeats 4000000
set_option maxRecDepth 100000
variable {W0 w:World}{K:Know}{L:List Res}
theorem zMT{f:FuncId}{a:Array Value}{r:Value}(c:Calls Tryz.prog f a w fun e w'=>e=.returned r∧w'=w)(h:St W0 w K L):Calls Tryz.prog f a w fun e w'=>e=.returned r∧St W0 w' K L:=
 c.mono (by rintro e w' ⟨rfl,rfl⟩;exact⟨rfl,h⟩)
theorem zGI(c:UInt8)(v:Int)(hv:digI c=v)(h:St W0 w K L):
  Calls Tryz.prog 45 #[.string ⟨#[48,49,50,51,52,53,54,55,56,57,97,98,99,100,101,102]⟩,.int .u8 c.toNat] w fun e w'=>e=.returned (.int .i64 v)∧St W0 w' K L:=by
 have h1:=Tryz.strings_IndexByte ⟨#[48,49,50,51,52,53,54,55,56,57,97,98,99,100,101,102]⟩ c.toNat w
 have e1:Lib.indexByte (⟨#[48,49,50,51,52,53,54,55,56,57,97,98,99,100,101,102]⟩:ByteArray).data.toList ((c.toNat:Int).toNat.toUInt8)=v:=by
  have e2:(c.toNat:Int).toNat.toUInt8=c:=by rw[Int.toNat_natCast];exact UInt8.ofNat_toNat
  rw[e2];exact hv
 rw[e1]at h1;exact zMT h1 h
theorem or_all:∀a b:Fin 16,bits BinOp.or IntKind.i64 ((a.1:Int)*16) (b.1:Int)=(a.1:Int)*16+(b.1:Int):=by decide+kernel
theorem or_hex(va vb:Int)(ha:0≤va∧va<16)(hb:0≤vb∧vb<16):bits BinOp.or IntKind.i64 (va*16) vb % 256=(((UInt8.ofNat (va*16+vb).toNat).toNat:Nat):Int):=by
 have h:=or_all ⟨va.toNat,by omega⟩ ⟨vb.toNat,by omega⟩;simp only at h;rw[Int.toNat_of_nonneg ha.1,Int.toNat_of_nonneg hb.1]at h;rw[h,UInt8.toNat_ofNat']
 omega
theorem zJX(s:Bs)(h1:s≠[45])(h2:s=[]∨s.length % 2≠0)(hs:s.length≤1000000)(h:St W0 w K L):
   Calls Tryz.prog 18 #[.string (bb s)] w fun en w'=>en=.returned (.tuple #[.string ⟨#[]⟩,.bool false])∧St W0 w' K L:=by
 have q1:(s==[45])=false:=by rw[beq_eq_false_iff_ne];exact h1
 have H:=hQd h
 rcases h2 with rfl|h2
 · clear h h1;go_enter Tryz.func18,Tryz.ntmps18;go_wp2;go_ret2;exact⟨rfl,H.out⟩
 · have q3:(s==[])=false:=by rw[beq_eq_false_iff_ne];rintro rfl;exact h2 rfl
   have q4:(s !=[])=true:=by simp[bne,q3]
   have hsl:(s.length:Int)≤1000000:=by omega
   have q5:(s.length:Int) % 2=1:=by omega
   have q6:(s.length:Int).tmod 2=1:=by rw[Int.tmod_eq_emod_of_nonneg (by omega)];exact q5
   clear h h1 h2;go_enter Tryz.func18,Tryz.ntmps18;go_wp2;go_ret2;exact⟨rfl,H.out⟩
theorem zHq(h:St W0 w K L):
  Calls Tryz.prog 18 #[.string ⟨#[45]⟩] w fun en w'=>en=.returned (.tuple #[.string ⟨#[]⟩,.bool true])∧St W0 w' K L:=by
 have H:=hQd h;clear h;go_enter Tryz.func18,Tryz.ntmps18;go_wp2;go_ret2;exact⟨rfl,H.out⟩
def hexR (s:Bs):Bs×Bool:=match zBC s with
  |some c=>(c,true)
  |none=>([],false)
theorem zJY(s:Bs)(h1:s≠[45])(h2:s≠[])(h3:s.length % 2=0)(hs:s.length≤1000000)(h:St W0 w K L):
  Calls Tryz.prog 18 #[.string (bb s)] w fun en w'=>en=.returned (.tuple #[.string (bb (hexR s).1),.bool (hexR s).2])∧St W0 w' K L:=by
 have q1:(s==[45])=false:=by rw[beq_eq_false_iff_ne];exact h1
 have q3:(s==[])=false:=by rw[beq_eq_false_iff_ne];exact h2
 have q4:(s !=[])=true:=by simp[bne,q3]
 have hsl:(s.length:Int)≤1000000:=by omega
 have q5:(s.length:Int) % 2=0:=by omega
 have q6:(s.length:Int).tmod 2=0:=by rw[Int.tmod_eq_emod_of_nonneg (by omega)];exact q5
 have H3:=hQd h3;have H2:=hQd h2;obtain⟨b,hb⟩:∃b,w.heap.size=b:=⟨_,rfl⟩;have g1:=h.sbNew;rw[hb]at g1;have H:=hQd g1;clear h g1 h1 h2 h3;go_enter Tryz.func18,Tryz.ntmps18;go_wp2_with fail;go_loopw [5] (fun iv wr=>∃(j:Nat) (d:Bs),j≤s.length∧iv=.int .i64 j∧Hid (j % 2=0)∧Hid (d.length≤j)∧Hid (zBC s=(zBC (s.drop j)).map (d++ ·))∧St W0 wr K (.gen (sbG b d)::L)) (fun iv _=>s.length - (intOf iv).toNat)
 case atStart=>exact⟨0,[],Nat.zero_le _,rfl,hQd rfl,hQd (Nat.le_refl _),hQd (by rw[List.drop_zero];cases zBC s<;>rfl),H.out⟩
 case round=>
  obtain⟨j,d,hj,rfl,HJ,HD,HX,hst⟩:=hrel;clear H;have H:=hQd hst;clear hst
  by_cases hlt:j<s.length
  · have hj1:j+1<s.length:=by have:=HJ.out;have:=H3.out;omega
    have hi0:(j:Int)<(s.length:Int):=by omega
    have hi1:(j:Int)+1<(s.length:Int):=by omega
    have hi2:0≤(j:Int)+1:=by omega
    have hi3:0≤(j:Int)+1∧(j:Int)+1<(s.length:Int):=⟨hi2,hi1⟩;obtain⟨va,hva⟩:∃v,digI (s[j]'hlt)=v:=⟨_,rfl⟩;obtain⟨vb,hvb⟩:∃v,digI (s[j+1]'hj1)=v:=⟨_,rfl⟩;have HA:=hQd hva;have HB:=hQd hvb;have ca:=zC3 (s[j]'hlt);have cb:=zC3 (s[j+1]'hj1);rw[hva]at ca;rw[hvb]at cb;clear hva hvb
    by_cases hab:va= -1∨vb= -1
    · have HZ:=hQd (show hexR s=([],false) by unfold hexR;rw[zNK s d j hj1 HX.out (by rw[HA.out,HB.out];exact hab)]);have ya:va<0∨0≤va:=by omega
      have yb:vb<0∨0≤vb:=by omega
      clear ca cb
      rcases ya with ya|ya
      · have z1:decide (va<0)=true:=decide_eq_true ya;clear hab yb
        go_wp2_with (first
  |(go_at_call 45;(with_reducible refine(zGI _ va ?_ H.out).mono ?_);exact HA.out;rintro e_ wn ⟨rfl,h⟩;replace H:=hQd h;clear h)
  |(go_at_call 45;(with_reducible refine(zGI _ vb ?_ H.out).mono ?_);exact HB.out;rintro e_ wn ⟨rfl,h⟩;replace H:=hQd h;clear h))
        go_ret2;rw[HZ.out];exact⟨rfl,H.out.drop⟩
      · have yb:vb<0:=by omega
        have z0:¬va<0:=by omega
        have z1:decide (va<0)=false:=decide_eq_false z0;have z2:decide (vb<0)=true:=decide_eq_true yb;clear hab
        go_wp2_with (first
  |(go_at_call 45;(with_reducible refine(zGI _ va ?_ H.out).mono ?_);exact HA.out;rintro e_ wn ⟨rfl,h⟩;replace H:=hQd h;clear h)
  |(go_at_call 45;(with_reducible refine(zGI _ vb ?_ H.out).mono ?_);exact HB.out;rintro e_ wn ⟨rfl,h⟩;replace H:=hQd h;clear h))
        go_ret2;rw[HZ.out];exact⟨rfl,H.out.drop⟩
    · have ya:0≤va∧va<16:=by omega
      have yb:0≤vb∧vb<16:=by omega
      have z1:¬va<0:=by omega
      have z2:¬vb<0:=by omega
      have z3:decide (va<0)=false:=decide_eq_false z1;have z4:decide (vb<0)=false:=decide_eq_false z2;have HS:=hQd (zMc s d j hj1 HX.out (by rw[HA.out];omega) (by rw[HB.out];omega));have HL:=hQd (show d.length≤1000000000000 by have:=HD.out;omega);clear ca cb hab;obtain⟨y,hy⟩:∃y,UInt8.ofNat (digI (s[j]'hlt)*16+digI (s[j+1]'hj1)).toNat=y:=⟨_,rfl⟩;rw[hy]at HS;have HOR:=hQd (show bits BinOp.or IntKind.i64 (va*16) vb % 256=((y.toNat:Nat):Int) by rw[←hy,HA.out,HB.out];exact or_hex va vb ya yb);have HD2:=hQd (show(d++[y]).length≤j+2 by rw[List.length_append,List.length_singleton];have:=HD.out;omega);have HJ2:=hQd (show(j+2) % 2=0 by have:=HJ.out;omega);clear hy
      go_wp2_with (first
  |(go_at_call 45;(with_reducible refine(zGI _ va ?_ H.out).mono ?_);exact HA.out;rintro e_ wn ⟨rfl,h⟩;replace H:=hQd h;clear h)
  |(go_at_call 45;(with_reducible refine(zGI _ vb ?_ H.out).mono ?_);exact HB.out;rintro e_ wn ⟨rfl,h⟩;replace H:=hQd h;clear h)
  |(go_at_call 46;rw[HOR.out];(with_reducible refine(zHs b d y HL.out H.out).mono ?_);rintro e_ wn ⟨rfl,h⟩;replace H:=hQd h;clear h))
      go_roundw
      case rel=>exact⟨j+2,d++[y],by omega,by go_num,HJ2,HD2,HS,H.out⟩
      case measure=>first|(simp[intOf];done)|(simp[intOf];omega)
  · obtain rfl:j=s.length:=by omega
    have hx:=HX.out;rw[List.drop_length]at hx;have hx2:zBC s=some d:=by rw[hx];show some (d++[])=some d;rw[List.append_nil]
    have HZ:=hQd (show hexR s=(d,true) by unfold hexR;rw[hx2]);have HDN:=hQd (show d≠[]from fun e=>by subst e;exact H2.out (zFW s [] hx2).symm);clear hx hx2;go_wp2_with (go_at_call 47;(with_reducible refine(zDi b d HDN.out H.out).mono ?_);rintro e_ wn ⟨rfl,h⟩;replace H:=hQd h;clear h);go_ret2;rw[HZ.out];exact⟨rfl,H.out⟩
def hexV (s:Bs):Bs×Bool:=match zHO s with
  |some c=>(c,true)
  |none=>([],false)
theorem zHr(s:Bs)(hs:s.length≤1000000)(h:St W0 w K L):
   Calls Tryz.prog 18 #[.string (bb s)] w fun en w'=>en=.returned (.tuple #[.string (bb (hexV s).1),.bool (hexV s).2])∧St W0 w' K L:=by
 by_cases h1:s=[45]
 · subst h1;exact zHq h
 by_cases h2:s=[]∨s.length % 2≠0
 · have e:hexV s=([],false):=by
    unfold hexV zHO;rw[if_neg h1]
    by_cases h3:s=[]
    · rw[if_pos h3]
    · rw[if_neg h3,zI6 s (h2.resolve_left h3)]
   rw[e];exact zJX s h1 h2 hs h
 · have h3:s≠[]:=fun e=>h2 (.inl e)
   have e:hexV s=hexR s:=by
    unfold hexV zHO hexR;rw[if_neg h1,if_neg h3]
   rw[e];exact zJY s h1 h3 (by omega) hs h
def Know.blk (g:Nat) (P:Obj→Prop):Know:=⟨fun w F=>F g∧∃o,w.heap[g]? =some o∧P o,
  fun w w' F h hs hk=>⟨h.1,by obtain⟨o,h1,h2⟩:=h.2;exact⟨o,(hk g (by rcases Nat.lt_or_ge g w.heap.size with h3|h3;exact h3;rw[Array.getElem?_eq_none h3]at h1;cases h1) h.1).trans h1,h2⟩⟩,
  fun _ _ _ h hs=>⟨hs _ h.1,h.2⟩⟩
def isMax (o:Obj):Prop:=∃m c T fz,o=.cells c T fz∧c[0]? =some (.int .i64 m)
def isErr (o:Obj):Prop:=∃te pe T fz,o=.cells #[.iface te pe] T fz
def isPow (o:Obj):Prop:=∃T fz,o=.cells (Lib.pow10Tab.map fun z=>Value.int .u64 z).toArray T fz
def Know.lib:Know:=((Know.blk 0 isMax).and (Know.blk 1 isPow)).and ((Know.blk 6 isErr).and (Know.blk 7 isErr))
theorem zND(hk:K.has Know.lib)(h:St W0 w K L):∃m,w.cell? ⟨0,0,none⟩=some (.int .i64 m):=by
 obtain⟨F,hF,_⟩:=h.get;obtain⟨_,o,h1,m,c,T,fz,rfl,hc⟩:=(hk _ _ hF).1.1;exact⟨m,by simp[World.cell?,h1,hc]⟩
theorem zQm(hk:K.has Know.lib)(h:St W0 w K L):Lib.TabIs Tryz.prog w "internal/strconv.uint64pow10" .u64 Lib.pow10Tab:=by
 obtain⟨F,hF,_⟩:=h.get;obtain⟨_,o,h1,T,fz,rfl⟩:=(hk _ _ hF).1.2;have hg:Tryz.prog.globalNamed "internal/strconv.uint64pow10" =some 1:=by kernel_rfl
 unfold Lib.TabIs World.var?;rw[hg,Option.bind_some,h1]
theorem zQk(hk:K.has Know.lib)(h:St W0 w K L):∃ev,w.cell? ⟨6,0,none⟩=some ev∧(ev=.nilIface∨∃te pe,ev=.iface te pe):=by
 obtain⟨F,hF,_⟩:=h.get;obtain⟨_,o,h1,te,pe,T,fz,rfl⟩:=(hk _ _ hF).2.1;exact⟨_,by simp[World.cell?,h1],.inr ⟨te,pe,rfl⟩⟩
theorem zQl(hk:K.has Know.lib)(h:St W0 w K L):∃ev,w.cell? ⟨7,0,none⟩=some ev∧(ev=.nilIface∨∃te pe,ev=.iface te pe):=by
 obtain⟨F,hF,_⟩:=h.get;obtain⟨_,o,h1,te,pe,T,fz,rfl⟩:=(hk _ _ hF).2.2;exact⟨_,by simp[World.cell?,h1],.inr ⟨te,pe,rfl⟩⟩
theorem St.below'{w':World}(h:St W0 w K L)(hb:Below w.heap.size w w'):St W0 w' K L:=
 h.quiet (M:=fun _=>False) ⟨hb.os,hb.tape,hb.output,hb.size,fun k hk _=>hb.block k hk⟩ (fun _ _ h=>h)
theorem St.grown(h:St W0 w K L)(os:Array Obj):St W0 (Sort.grow w os) K L:=
 h.quiet (M:=fun _=>False) ⟨rfl,rfl,rfl,by simp,fun k hk _=>Sort.heap_grow_old w os hk⟩ (fun _ _ h=>h)
theorem St.bytesW(h:St W0 w K L)(t:ByteArray):St W0 (Lib.bytesWorld w 5 t) K L:=h.below' (Lib.bytesWorld_below w 5 t)
def zDv (s:Bs):Int:=match Lib.atoiAll s with
  | .ok v=>v
  | .range=>Lib.atoiSat s
  | _ => 0
theorem zHp(n:Int)(h0: -9223372036854775808≤n)(h1:n≤9223372036854775807)(hk:K.has Know.lib)(h:St W0 w K L):
  Calls Tryz.prog 37 #[.int .i64 n] w fun e w'=>e=.returned (.string (bb (Lib.itoa n)))∧St W0 w' K L:=
 (Tryz.strconv_Itoa n h0 h1 w (zQm hk h)).mono (by rintro e w' ⟨rfl,k,os,rfl⟩;exact⟨rfl,(h.drewN k).grown os⟩)
theorem zPU(s:Bs)(hs:s.length≤1000000)(hk:K.has Know.lib)(h:St W0 w K L):
  Calls Tryz.prog 172 #[.string (bb s)] w fun e w'=>∃ev,e=.returned (.tuple #[.int .i64 (zDv s),ev])∧St W0 w' K L:=by
 have hz:(bb s).size=s.length:=by simp
 have hd:(bb s).data.toList=s:=by simp
 cases hv:Lib.atoiAll s with
 |ok v=>
  have e:zDv s=v:=by unfold zDv;rw[hv]
  rw[e];exact(Tryz.strconv_Atoi_ok (bb s) (by omega) v (by rw[hd];exact hv) w).mono (by rintro e w' ⟨rfl,rfl|⟨t,rfl⟩⟩;exact⟨_,rfl,h⟩;exact⟨_,rfl,h.bytesW t⟩)
 |range=>
  have e:zDv s=Lib.atoiSat s:=by unfold zDv;rw[hv]
  rw[e];obtain⟨ev,h1,h2⟩:=zQl hk h;have h3:=(Tryz.strconv_Atoi_range (bb s) (by omega) (by rw[hd];exact hv) ev w h1 h2);rw[hd]at h3;exact h3.mono (by rintro e w' ⟨N,rfl,_,_,hb⟩;exact⟨_,rfl,h.below' hb⟩)
 | _ =>
  have e:zDv s=0:=by unfold zDv;rw[hv]
  rw[e];obtain⟨ev,h1,h2⟩:=zQk hk h;exact(Tryz.strconv_Atoi_syntax (bb s) (by omega) (by rw[hd];exact hv) ev w h1 h2).mono (by rintro e w' ⟨N,rfl,_,_,hb⟩;exact⟨_,rfl,h.below' hb⟩)
theorem sl_cut(s sp a b:Bs)(f:Bool)(hc:Lib.cut s sp=(a,b,f))(hs:s.length≤1000000)(hk:K.has Know.lib)(h:St W0 w K L):
  Calls Tryz.prog 80 #[.string (bb s),.string (bb sp)] w fun e w'=>e=.returned (.tuple #[.string (bb a),.string (bb b),.bool f])∧St W0 w' K L:=by
 obtain⟨m,hm⟩:=zND hk h;have h1:=Tryz.strings_Cut (bb s) (bb sp) m w (by have hz:(bb s).size=s.length:=(by simp);omega) hm;have d1:(bb s).data.toList=s:=by simp
 have d2:(bb sp).data.toList=sp:=by simp
 rw[d1,d2,hc]at h1;exact h1.mono (by rintro e w' ⟨rfl,n,rfl⟩;exact⟨rfl,h.drewN n⟩)
theorem sl_has(s:Bs)(c:UInt8)(v:Bool)(hv:decide (0≤Lib.indexByte s c)=v)(h:St W0 w K L):
  Calls Tryz.prog 173 #[.string (bb s),.string ⟨#[c]⟩] w fun e w'=>e=.returned (.bool v)∧St W0 w' K L:=by
 have h1:=Tryz.strings_Contains_one (bb s) c w;have d1:(bb s).data.toList=s:=by simp
 rw[d1,hv]at h1;exact zMT h1 h
def zDc (s:Bs):List ByteArray:=Lib.splitB (bb [32]) 0 (Lib.countB (bb s) (bb [32])) (bb s)
theorem zOC(s:Bs)(ws:List Bs)(hw:zDc s=ws.map bb)(hs:s.length≤1000000)(hk:K.has Know.lib)(h:St W0 w K L):
  Calls Tryz.prog 82 #[.string (bb s),.string (bb [32])] w fun e w'=>∃b,e=.returned (.slice (some ⟨b,0,none⟩) ws.length ws.length)∧St W0 w' K (.raw b (ws.map fun x=>Value.string (bb x)).toArray 9::L):=by
 obtain⟨m,hm⟩:=zND hk h;have h1:=Tryz.strings_Split (bb s) (bb [32]) m w (by have hz:(bb s).size=s.length:=(by simp);omega) hm (by decide)
 have e1:Lib.countB (bb s) (bb [32])+1=ws.length:=by
  have h2:=Lib.splitB_all (bb [32]) (by decide) 0 _ (bb s) rfl;have h3:(zDc s).length=ws.length:=by rw[hw,List.length_map]
  unfold zDc at h3
  omega
 have e2:(Lib.splitB (bb [32]) 0 (Lib.countB (bb s) (bb [32])) (bb s)).map Value.string=ws.map fun x=>Value.string (bb x):=by
  show(zDc s).map Value.string=_
  rw[hw,List.map_map]
  rfl
 rw[e1,e2]at h1;exact h1.mono (by rintro e w' ⟨rfl,rfl⟩;exact⟨_,rfl,h.allocRaw _ _⟩)
theorem zJK(s:Bs): -9223372036854775808≤zDv s∧zDv s<9223372036854775808:=by
 unfold zDv
 cases h:Lib.atoiAll s with
 |ok v=>
  unfold Lib.atoiAll at h
  split at h
  · cases h
  · rename_i c r
    simp only at h
    split at h
    · cases h
    · cases h
    · rename_i u _
      split at h
      · cases h
      · split at h
        · cases h
        · injection h with h
          by_cases hc:c.toNat=45
          · rw[if_pos hc]at h;simp only;omega
          · rw[if_neg hc]at h;simp only;omega
 |range=>simp only;unfold Lib.atoiSat;split<;>omega
 | _ =>simp
def zBn (s:Bs):Option Int:=if Lib.itoa (zDv s)=s then some (zDv s)else none
def zAf:List Bs→Option (List Int)
  |[]=>some []
  |w::t=>match zBn w with
    |none=>none
    |some v=>(zAf t).map (v:: ·)
theorem zFS:∀(l:List Bs) (w:Bs) (vs:List Int) (v:Int),zAf l=some vs→zBn w=some v→zAf (l++[w])=some (vs++[v])
  |[],w,vs,v,h1,h2=>by unfold zAf at h1;injection h1 with h1;subst h1;show(match zBn w with|none=>none|some v=>(zAf []).map (v:: ·))=_;rw[h2];rfl
  |a::t,w,vs,v,h1,h2=>by
    unfold zAf at h1
    show(match zBn a with|none=>none|some v=>(zAf (t++[w])).map (v:: ·))=_
    cases ha:zBn a with
    |none=>rw[ha]at h1;cases h1
    |some x=>
      rw[ha]at h1;simp only at h1 ⊢
      cases ht:zAf t with
      |none=>rw[ht]at h1;cases h1
      |some y=>
        rw[ht]at h1;injection h1 with h1;subst h1;rw[zFS t w y v ht h2]
        rfl
theorem zG0:∀(l r:List Bs) (w:Bs),zBn w=none→zAf (l++w::r)=none
  |[],r,w,h=>by show(match zBn w with|none=>none|some v=>(zAf r).map (v:: ·))=none;rw[h]
  |a::t,r,w,h=>by
    show(match zBn a with|none=>none|some v=>(zAf (t++w::r)).map (v:: ·))=none
    rw[zG0 t r w h]
    cases zBn a<;>rfl
theorem zBj:∀(l:List Bs) (vs:List Int),zAf l=some vs→vs.length=l.length
  |[],vs,h=>by unfold zAf at h;injection h with h;subst h;rfl
  |a::t,vs,h=>by
    unfold zAf at h
    cases ha:zBn a with
    |none=>rw[ha]at h;cases h
    |some x=>
      rw[ha]at h;simp only at h
      cases ht:zAf t with
      |none=>rw[ht]at h;cases h
      |some y=>rw[ht]at h;injection h with h;subst h;simp[zBj t y ht]
def Know.strw (wb off:Nat) (ws:List Bs):Know:=⟨fun w F=>F wb∧wb<w.heap.size∧∀j x,ws[j]? =some x→w.cell? ⟨wb,off+j,Option.none⟩=some (.string (bb x)),
  fun _ _ _ h hs hk=>⟨h.1,Nat.lt_of_lt_of_le h.2.1 hs,fun j u hu=>(World.cell?_of_block (a:=⟨wb,off+j,Option.none⟩) (hk wb h.2.1 h.1)).trans (h.2.2 j u hu)⟩,
  fun _ _ _ h hs=>⟨hs _ h.1,h.2.1,h.2.2⟩⟩
theorem zFj{wb off:Nat}{ws:List Bs}(hk:K.has (Know.strw wb off ws))(h:St W0 w K L)(j:Nat)(hj:j<ws.length):w.cell? ⟨wb,off+j,none⟩=some (.string (bb (ws[j]'hj))):=by
 obtain⟨F,hF,_⟩:=h.get;exact(hk _ _ hF).2.2 j _ (List.getElem?_eq_getElem hj)
theorem zCz{K:Know}{wb off:Nat}{ws:List Bs}(hk:K.has (Know.strw wb off ws))(k:Nat):K.has (Know.strw wb (off+k) (ws.drop k)):=fun w F h=>by
  obtain⟨h1,h2,h3⟩:=hk w F h;refine⟨h1,h2,fun j x hx=> ?_⟩;rw[List.getElem?_drop]at hx;rw[Nat.add_assoc];exact h3 _ _ hx
theorem zBk{K:Know}{wb off:Nat}{ws:List Bs}(hk:K.has (Know.strw wb off ws))(k:Nat):K.has (Know.strw wb off (ws.take k)):=fun w F h=>by
  obtain⟨h1,h2,h3⟩:=hk w F h;refine⟨h1,h2,fun j x hx=>h3 j x ?_⟩;rw[List.getElem?_take]at hx
  split at hx
  · exact hx
  · cases hx
theorem St.strs{wb:Nat}{ws:List Bs}{T:TypeId}(h:St W0 w K (.raw wb (ws.map fun x=>Value.string (bb x)).toArray T::L)):St W0 w (K.and (Know.strw wb 0 ws)) L:=
 h.freeze fun F S1 _ hr=>⟨.inr ⟨(hr.2 wb).2 rfl,zAy hr.1⟩,zAy hr.1,fun j x hx=>by
  rw[Nat.zero_add,zAx hr.1 j]
  simp[hx]⟩
variable {W0 w:World}{K:Know}{L:List Res}
theorem zJV(nb n:Nat)(wb off cap ncap:Nat)(ws:List Bs)(hne:ws.length≠n)(h:St W0 w K L):
  Calls Tryz.prog 139 #[.slice (some ⟨nb,0,none⟩) n ncap,.slice (some ⟨wb,off,none⟩) ws.length cap] w fun en w'=>en=.returned (.bool false)∧St W0 w' K L:=by
 have H:=hQd h;have e1:((ws.length:Int)==(n:Int))=false:=by rw[beq_eq_false_iff_ne];omega
 have e2:((ws.length:Int) !=(n:Int))=true:=by simp[bne,e1]
 clear h hne;go_enter Tryz.func139,Tryz.ntmps139;go_wp2;go_ret;exact⟨rfl,H.out⟩
theorem zMZ(nb:Nat)(cs:Array Value)(T:TypeId)(wb off cap ncap:Nat)(ws:List Bs)(hn:cs.size=ws.length)(hl:ws.length≤1000000)(hx:∀x∈ws,x.length≤1000000)(hlib:K.has Know.lib)(hk:K.has (Know.strw wb off ws))(h:St W0 w K (.raw nb cs T::L)):
  Calls Tryz.prog 139 #[.slice (some ⟨nb,0,none⟩) ws.length ncap,.slice (some ⟨wb,off,none⟩) ws.length cap] w fun en w'=>∃cs',en=.returned (.bool (zAf ws).isSome)∧cs'.size=ws.length∧(∀vs,zAf ws=some vs→cs'.toList=vs.map fun v=>Value.int .i64 v)∧St W0 w' K (.raw nb cs' T::L):=by
 have H:=hQd h;have HK:=hQd hk;have HLIB:=hQd hlib;have HX:=hQd hx;have HN:=hQd hn;have hli:(ws.length:Int)≤1000000:=by omega
 have e2:((ws.length:Int) !=(ws.length:Int))=false:=by simp
 clear h hk hlib hx hn;go_enter Tryz.func139,Tryz.ntmps139;go_wp2_with fail;go_loopw [14] (fun iv wr=>∃(k:Nat) (cs':Array Value) (vs:List Int),k≤ws.length∧iv=.int .i64 k∧Hid (cs'.size=ws.length)∧Hid (zAf (ws.take k)=some vs)∧Hid (cs'.toList.take k=vs.map fun v=>Value.int .i64 v)∧St W0 wr K (.raw nb cs' T::L)) (fun iv _=>ws.length - (intOf iv).toNat)
 case atStart=>exact⟨0,cs,[],Nat.zero_le _,rfl,HN,hQd rfl,hQd rfl,H.out⟩
 case round=>
  obtain⟨k,cs',vs,hk,rfl,HSZ,HNS,HCS,hst⟩:=hrel;clear H;have H:=hQd hst;clear hst
  by_cases hlt:k<ws.length
  · have hlti:(k:Int)<(ws.length:Int):=by omega
    have c0:=zFj HK.out H.out k hlt;obtain⟨x,hx⟩:∃x,ws[k]=x:=⟨_,rfl⟩;rw[hx]at c0;have HXI:=hQd hx;have HXL:=hQd (HX.out x (by rw[←hx];exact List.getElem_mem hlt));clear hx;obtain⟨v,hv⟩:∃v,zDv x=v:=⟨_,rfl⟩;have hr:=zJK x;rw[hv]at hr;have HR1:=hQd hr.1;have HR2:=hQd (show v≤9223372036854775807 by omega);have HV:=hQd hv;clear hr hv;go_upto_region 7 with (go_at_call 172;clear c0;(with_reducible refine(zPU x HXL.out HLIB.out H.out).mono ?_);rintro e_ wn ⟨ev,rfl,h⟩;rw[HV.out];have c0:=zFj HK.out h k hlt;rw[HXI.out]at c0;have r1:=h.rawFree k;have c1:=h.rawCell k;rw[Array.getElem?_eq_getElem (by rw[HSZ.out];exact hlt)]at c1;replace H:=hQd h;clear h);obtain⟨wq,hwq⟩:∃y,wn.setCell ⟨nb,k,none⟩ (.int .i64 v)=y:=⟨_,rfl⟩;have hz:=H.out.rawSet k (.int .i64 v);rw[hwq]at hz ⊢;clear hwq H c0 c1 r1;obtain⟨c9,hc9⟩:∃c9,cs'.setIfInBounds k (.int .i64 v)=c9:=⟨_,rfl⟩;have hk9:k<cs'.size:=by rw[HSZ.out];exact hlt
    have c1:=hz.rawCell k;rw[Array.getElem?_setIfInBounds_self_of_lt hk9]at c1;have HS9:=hQd (show c9.size=ws.length by rw[←hc9,Array.size_setIfInBounds];exact HSZ.out)
    have HC9:=hQd (show c9.toList.take (k+1)=(vs++[v]).map fun v=>Value.int .i64 v by
      rw[←hc9,Array.toList_setIfInBounds,List.map_append,←HCS.out,List.take_add_one,List.getElem?_set_self (by simpa using hk9),List.take_set_of_le (Nat.le_refl _)]
      rfl)
    rw[hc9]at hz;have H:=hQd hz;clear hz hc9 hk9;obtain⟨t,ht⟩:∃t,Lib.itoa v=t:=⟨_,rfl⟩;have HT:=hQd ht
    by_cases htx:t=x
    · subst htx;have e3:(t==t)=true:=by simp
      have e4:(t !=t)=false:=by simp
      have HNR:=hQd (show zAf (ws.take (k+1))=some (vs++[v]) by
       rw[List.take_succ_eq_append_getElem hlt,HXI.out]
       exact zFS _ _ _ _ HNS.out (by unfold zBn;rw[HV.out,if_pos ht]))
      clear ht;go_wp2_with (go_at_call 37;clear c1;(with_reducible refine(zHp v HR1.out HR2.out HLIB.out H.out).mono ?_);rintro e_ wn ⟨rfl,h⟩;rw[HT.out];replace H:=hQd h;clear h);go_roundw
      case rel=>exact⟨k+1,c9,vs++[v],hlt,by go_num,HS9,HNR,HC9,H.out⟩
      case measure=>first|(simp[intOf];done)|(simp[intOf];omega)
    · have e3:(t==x)=false:=by rw[beq_eq_false_iff_ne];exact htx
      have e4:(t !=x)=true:=by simp[bne,e3]
      have HNR:=hQd (show zAf ws=none by
       have h9:ws=ws.take k++x::ws.drop (k+1):=by
        conv=>lhs;rw[←List.take_append_drop k ws,List.drop_eq_getElem_cons hlt,HXI.out]
       rw[h9]
       exact zG0 _ _ _ (by unfold zBn;rw[HV.out,if_neg (by rw[ht];exact htx)]))
      clear ht htx;go_wp2_with (go_at_call 37;clear c1;(with_reducible refine(zHp v HR1.out HR2.out HLIB.out H.out).mono ?_);rintro e_ wn ⟨rfl,h⟩;rw[HT.out];replace H:=hQd h;clear h);go_ret;exact⟨c9,by rw[HNR.out];rfl,HS9.out,fun vs h=>(by rw[HNR.out]at h;cases h),H.out⟩
  · obtain rfl:k=ws.length:=by omega
    have HNR:=hQd (show zAf ws=some vs by have h9:=HNS.out;rw[List.take_length]at h9;exact h9);have HCR:=hQd (show cs'.toList=vs.map fun v=>Value.int .i64 v by have h9:=HCS.out;rw[List.take_of_length_le (by simp;rw[HSZ.out];exact Nat.le_refl _)]at h9;exact h9);go_wp2_with fail;go_ret;exact⟨cs',by rw[HNR.out];rfl,HSZ.out,fun vs h=>(by rw[HNR.out]at h;injection h with h;subst h;exact HCR.out),H.out⟩
def letB (a t c:Bool):Bs:=(if a then[97]else[])++((if t then[116]else[])++(if c then[99]else[]))
def letW (a t c:Bool):Bs:=if letB a t c=[]then[45]else letB a t c
def hasB (s:Bs) (c:UInt8):Bool:=decide (0≤Lib.indexByte s c)
def zNE (s:Bs):Bool:=letW (hasB s 97) (hasB s 116) (hasB s 99)==s
theorem zL7:∀a t c:Bool,hasB (letW a t c) 97=a∧hasB (letW a t c) 116=t∧hasB (letW a t c) 99=c∧zNE (letW a t c)=true:=by decide+kernel
variable {W0 w:World}{K:Know}{L:List Res}
theorem zq2{p:Prop}(h:p:=by
  obtain⟨hd,hst⟩:=hrel;clear H c0 c1 c2;have H:=hQd hst;clear hst
  rcases hd with ⟨rfl,rfl⟩|⟨rfl,rfl⟩|⟨rfl,rfl⟩|⟨rfl,rfl⟩
  · go_wp2_with fail;go_roundw
    case rel=>exact⟨.inr (.inl ⟨by go_num,by rfl⟩),H.out⟩
    case measure=>first|(simp[intOf];done)|(simp[intOf];omega)
  · go_wp2_with fail;go_roundw
    case rel=>exact⟨.inr (.inr (.inl ⟨by go_num,by rfl⟩)),H.out⟩
    case measure=>first|(simp[intOf];done)|(simp[intOf];omega)
  · go_wp2_with fail;go_roundw
    case rel=>exact⟨.inr (.inr (.inr ⟨by go_num,by rfl⟩)),H.out⟩
    case measure=>first|(simp[intOf];done)|(simp[intOf];omega)
  · go_wp2_with fail;go_ret;exact⟨by rfl,H.out.drop⟩):p:=h
theorem zLB(h:St W0 w K L):
  Calls Tryz.prog 89 #[.agg #[.bool true,.bool true,.bool true]] w fun en w'=>en=.returned (.string (bb (letW true true true)))∧St W0 w' K L:=by
 have hi:∀w,(Instr.index 137 (.agg #[.bool true,.bool true,.bool true]) (.int .i64 0)).run Tryz.prog w=.ok (.bool true) w:=fun _=>by kernel_rfl
 have hi1:∀w,(Instr.index 137 (.agg #[.bool true,.bool true,.bool true]) (.int .i64 1)).run Tryz.prog w=.ok (.bool true) w:=fun _=>by kernel_rfl
 have hi2:∀w,(Instr.index 137 (.agg #[.bool true,.bool true,.bool true]) (.int .i64 2)).run Tryz.prog w=.ok (.bool true) w:=fun _=>by kernel_rfl
 obtain⟨b,hb⟩:∃b,w.heap.size=b:=⟨_,rfl⟩;have g1:=h.allocRaw #[.bool true,.bool true,.bool true] 137;rw[hb]at g1;have c0:=(g1).rawCell 0;have c1:=(g1).rawCell 1;have c2:=(g1).rawCell 2;simp at c0 c1 c2;have H:=hQd g1;clear h g1;go_enter Tryz.func89,Tryz.ntmps89;go_wp2_with fail;go_loopw [3,7] (fun sv iv wr=>((iv=.int .i64 0∧sv=.string ⟨#[]⟩)∨(iv=.int .i64 1∧sv=.string ⟨#[97]⟩)∨(iv=.int .i64 2∧sv=.string ⟨#[97,116]⟩)∨(iv=.int .i64 3∧sv=.string ⟨#[97,116,99]⟩))∧St W0 wr K (.raw b #[.bool true,.bool true,.bool true] 137::L)) (fun _ iv _=>4 - (intOf iv).toNat)
 case atStart=>exact⟨.inl ⟨rfl,rfl⟩,H.out⟩
 case round=>
  exact zq2
theorem zLC(h:St W0 w K L):
  Calls Tryz.prog 89 #[.agg #[.bool true,.bool true,.bool false]] w fun en w'=>en=.returned (.string (bb (letW true true false)))∧St W0 w' K L:=by
 have hi:∀w,(Instr.index 137 (.agg #[.bool true,.bool true,.bool false]) (.int .i64 0)).run Tryz.prog w=.ok (.bool true) w:=fun _=>by kernel_rfl
 have hi1:∀w,(Instr.index 137 (.agg #[.bool true,.bool true,.bool false]) (.int .i64 1)).run Tryz.prog w=.ok (.bool true) w:=fun _=>by kernel_rfl
 have hi2:∀w,(Instr.index 137 (.agg #[.bool true,.bool true,.bool false]) (.int .i64 2)).run Tryz.prog w=.ok (.bool false) w:=fun _=>by kernel_rfl
 obtain⟨b,hb⟩:∃b,w.heap.size=b:=⟨_,rfl⟩;have g1:=h.allocRaw #[.bool true,.bool true,.bool false] 137;rw[hb]at g1;have c0:=(g1).rawCell 0;have c1:=(g1).rawCell 1;have c2:=(g1).rawCell 2;simp at c0 c1 c2;have H:=hQd g1;clear h g1;go_enter Tryz.func89,Tryz.ntmps89;go_wp2_with fail;go_loopw [3,7] (fun sv iv wr=>((iv=.int .i64 0∧sv=.string ⟨#[]⟩)∨(iv=.int .i64 1∧sv=.string ⟨#[97]⟩)∨(iv=.int .i64 2∧sv=.string ⟨#[97,116]⟩)∨(iv=.int .i64 3∧sv=.string ⟨#[97,116]⟩))∧St W0 wr K (.raw b #[.bool true,.bool true,.bool false] 137::L)) (fun _ iv _=>4 - (intOf iv).toNat)
 case atStart=>exact⟨.inl ⟨rfl,rfl⟩,H.out⟩
 case round=>
  exact zq2
theorem zLD(h:St W0 w K L):
  Calls Tryz.prog 89 #[.agg #[.bool true,.bool false,.bool true]] w fun en w'=>en=.returned (.string (bb (letW true false true)))∧St W0 w' K L:=by
 have hi:∀w,(Instr.index 137 (.agg #[.bool true,.bool false,.bool true]) (.int .i64 0)).run Tryz.prog w=.ok (.bool true) w:=fun _=>by kernel_rfl
 have hi1:∀w,(Instr.index 137 (.agg #[.bool true,.bool false,.bool true]) (.int .i64 1)).run Tryz.prog w=.ok (.bool false) w:=fun _=>by kernel_rfl
 have hi2:∀w,(Instr.index 137 (.agg #[.bool true,.bool false,.bool true]) (.int .i64 2)).run Tryz.prog w=.ok (.bool true) w:=fun _=>by kernel_rfl
 obtain⟨b,hb⟩:∃b,w.heap.size=b:=⟨_,rfl⟩;have g1:=h.allocRaw #[.bool true,.bool false,.bool true] 137;rw[hb]at g1;have c0:=(g1).rawCell 0;have c1:=(g1).rawCell 1;have c2:=(g1).rawCell 2;simp at c0 c1 c2;have H:=hQd g1;clear h g1;go_enter Tryz.func89,Tryz.ntmps89;go_wp2_with fail;go_loopw [3,7] (fun sv iv wr=>((iv=.int .i64 0∧sv=.string ⟨#[]⟩)∨(iv=.int .i64 1∧sv=.string ⟨#[97]⟩)∨(iv=.int .i64 2∧sv=.string ⟨#[97]⟩)∨(iv=.int .i64 3∧sv=.string ⟨#[97,99]⟩))∧St W0 wr K (.raw b #[.bool true,.bool false,.bool true] 137::L)) (fun _ iv _=>4 - (intOf iv).toNat)
 case atStart=>exact⟨.inl ⟨rfl,rfl⟩,H.out⟩
 case round=>
  exact zq2
theorem zLE(h:St W0 w K L):
  Calls Tryz.prog 89 #[.agg #[.bool true,.bool false,.bool false]] w fun en w'=>en=.returned (.string (bb (letW true false false)))∧St W0 w' K L:=by
 have hi:∀w,(Instr.index 137 (.agg #[.bool true,.bool false,.bool false]) (.int .i64 0)).run Tryz.prog w=.ok (.bool true) w:=fun _=>by kernel_rfl
 have hi1:∀w,(Instr.index 137 (.agg #[.bool true,.bool false,.bool false]) (.int .i64 1)).run Tryz.prog w=.ok (.bool false) w:=fun _=>by kernel_rfl
 have hi2:∀w,(Instr.index 137 (.agg #[.bool true,.bool false,.bool false]) (.int .i64 2)).run Tryz.prog w=.ok (.bool false) w:=fun _=>by kernel_rfl
 obtain⟨b,hb⟩:∃b,w.heap.size=b:=⟨_,rfl⟩;have g1:=h.allocRaw #[.bool true,.bool false,.bool false] 137;rw[hb]at g1;have c0:=(g1).rawCell 0;have c1:=(g1).rawCell 1;have c2:=(g1).rawCell 2;simp at c0 c1 c2;have H:=hQd g1;clear h g1;go_enter Tryz.func89,Tryz.ntmps89;go_wp2_with fail;go_loopw [3,7] (fun sv iv wr=>((iv=.int .i64 0∧sv=.string ⟨#[]⟩)∨(iv=.int .i64 1∧sv=.string ⟨#[97]⟩)∨(iv=.int .i64 2∧sv=.string ⟨#[97]⟩)∨(iv=.int .i64 3∧sv=.string ⟨#[97]⟩))∧St W0 wr K (.raw b #[.bool true,.bool false,.bool false] 137::L)) (fun _ iv _=>4 - (intOf iv).toNat)
 case atStart=>exact⟨.inl ⟨rfl,rfl⟩,H.out⟩
 case round=>
  exact zq2
theorem zLF(h:St W0 w K L):
  Calls Tryz.prog 89 #[.agg #[.bool false,.bool true,.bool true]] w fun en w'=>en=.returned (.string (bb (letW false true true)))∧St W0 w' K L:=by
 have hi:∀w,(Instr.index 137 (.agg #[.bool false,.bool true,.bool true]) (.int .i64 0)).run Tryz.prog w=.ok (.bool false) w:=fun _=>by kernel_rfl
 have hi1:∀w,(Instr.index 137 (.agg #[.bool false,.bool true,.bool true]) (.int .i64 1)).run Tryz.prog w=.ok (.bool true) w:=fun _=>by kernel_rfl
 have hi2:∀w,(Instr.index 137 (.agg #[.bool false,.bool true,.bool true]) (.int .i64 2)).run Tryz.prog w=.ok (.bool true) w:=fun _=>by kernel_rfl
 obtain⟨b,hb⟩:∃b,w.heap.size=b:=⟨_,rfl⟩;have g1:=h.allocRaw #[.bool false,.bool true,.bool true] 137;rw[hb]at g1;have c0:=(g1).rawCell 0;have c1:=(g1).rawCell 1;have c2:=(g1).rawCell 2;simp at c0 c1 c2;have H:=hQd g1;clear h g1;go_enter Tryz.func89,Tryz.ntmps89;go_wp2_with fail;go_loopw [3,7] (fun sv iv wr=>((iv=.int .i64 0∧sv=.string ⟨#[]⟩)∨(iv=.int .i64 1∧sv=.string ⟨#[]⟩)∨(iv=.int .i64 2∧sv=.string ⟨#[116]⟩)∨(iv=.int .i64 3∧sv=.string ⟨#[116,99]⟩))∧St W0 wr K (.raw b #[.bool false,.bool true,.bool true] 137::L)) (fun _ iv _=>4 - (intOf iv).toNat)
 case atStart=>exact⟨.inl ⟨rfl,rfl⟩,H.out⟩
 case round=>
  exact zq2
theorem zLG(h:St W0 w K L):
  Calls Tryz.prog 89 #[.agg #[.bool false,.bool true,.bool false]] w fun en w'=>en=.returned (.string (bb (letW false true false)))∧St W0 w' K L:=by
 have hi:∀w,(Instr.index 137 (.agg #[.bool false,.bool true,.bool false]) (.int .i64 0)).run Tryz.prog w=.ok (.bool false) w:=fun _=>by kernel_rfl
 have hi1:∀w,(Instr.index 137 (.agg #[.bool false,.bool true,.bool false]) (.int .i64 1)).run Tryz.prog w=.ok (.bool true) w:=fun _=>by kernel_rfl
 have hi2:∀w,(Instr.index 137 (.agg #[.bool false,.bool true,.bool false]) (.int .i64 2)).run Tryz.prog w=.ok (.bool false) w:=fun _=>by kernel_rfl
 obtain⟨b,hb⟩:∃b,w.heap.size=b:=⟨_,rfl⟩;have g1:=h.allocRaw #[.bool false,.bool true,.bool false] 137;rw[hb]at g1;have c0:=(g1).rawCell 0;have c1:=(g1).rawCell 1;have c2:=(g1).rawCell 2;simp at c0 c1 c2;have H:=hQd g1;clear h g1;go_enter Tryz.func89,Tryz.ntmps89;go_wp2_with fail;go_loopw [3,7] (fun sv iv wr=>((iv=.int .i64 0∧sv=.string ⟨#[]⟩)∨(iv=.int .i64 1∧sv=.string ⟨#[]⟩)∨(iv=.int .i64 2∧sv=.string ⟨#[116]⟩)∨(iv=.int .i64 3∧sv=.string ⟨#[116]⟩))∧St W0 wr K (.raw b #[.bool false,.bool true,.bool false] 137::L)) (fun _ iv _=>4 - (intOf iv).toNat)
 case atStart=>exact⟨.inl ⟨rfl,rfl⟩,H.out⟩
 case round=>
  exact zq2
theorem zLH(h:St W0 w K L):
  Calls Tryz.prog 89 #[.agg #[.bool false,.bool false,.bool true]] w fun en w'=>en=.returned (.string (bb (letW false false true)))∧St W0 w' K L:=by
 have hi:∀w,(Instr.index 137 (.agg #[.bool false,.bool false,.bool true]) (.int .i64 0)).run Tryz.prog w=.ok (.bool false) w:=fun _=>by kernel_rfl
 have hi1:∀w,(Instr.index 137 (.agg #[.bool false,.bool false,.bool true]) (.int .i64 1)).run Tryz.prog w=.ok (.bool false) w:=fun _=>by kernel_rfl
 have hi2:∀w,(Instr.index 137 (.agg #[.bool false,.bool false,.bool true]) (.int .i64 2)).run Tryz.prog w=.ok (.bool true) w:=fun _=>by kernel_rfl
 obtain⟨b,hb⟩:∃b,w.heap.size=b:=⟨_,rfl⟩;have g1:=h.allocRaw #[.bool false,.bool false,.bool true] 137;rw[hb]at g1;have c0:=(g1).rawCell 0;have c1:=(g1).rawCell 1;have c2:=(g1).rawCell 2;simp at c0 c1 c2;have H:=hQd g1;clear h g1;go_enter Tryz.func89,Tryz.ntmps89;go_wp2_with fail;go_loopw [3,7] (fun sv iv wr=>((iv=.int .i64 0∧sv=.string ⟨#[]⟩)∨(iv=.int .i64 1∧sv=.string ⟨#[]⟩)∨(iv=.int .i64 2∧sv=.string ⟨#[]⟩)∨(iv=.int .i64 3∧sv=.string ⟨#[99]⟩))∧St W0 wr K (.raw b #[.bool false,.bool false,.bool true] 137::L)) (fun _ iv _=>4 - (intOf iv).toNat)
 case atStart=>exact⟨.inl ⟨rfl,rfl⟩,H.out⟩
 case round=>
  exact zq2
theorem zLI(h:St W0 w K L):
  Calls Tryz.prog 89 #[.agg #[.bool false,.bool false,.bool false]] w fun en w'=>en=.returned (.string (bb (letW false false false)))∧St W0 w' K L:=by
 have hi:∀w,(Instr.index 137 (.agg #[.bool false,.bool false,.bool false]) (.int .i64 0)).run Tryz.prog w=.ok (.bool false) w:=fun _=>by kernel_rfl
 have hi1:∀w,(Instr.index 137 (.agg #[.bool false,.bool false,.bool false]) (.int .i64 1)).run Tryz.prog w=.ok (.bool false) w:=fun _=>by kernel_rfl
 have hi2:∀w,(Instr.index 137 (.agg #[.bool false,.bool false,.bool false]) (.int .i64 2)).run Tryz.prog w=.ok (.bool false) w:=fun _=>by kernel_rfl
 obtain⟨b,hb⟩:∃b,w.heap.size=b:=⟨_,rfl⟩;have g1:=h.allocRaw #[.bool false,.bool false,.bool false] 137;rw[hb]at g1;have c0:=(g1).rawCell 0;have c1:=(g1).rawCell 1;have c2:=(g1).rawCell 2;simp at c0 c1 c2;have H:=hQd g1;clear h g1;go_enter Tryz.func89,Tryz.ntmps89;go_wp2_with fail;go_loopw [3,7] (fun sv iv wr=>((iv=.int .i64 0∧sv=.string ⟨#[]⟩)∨(iv=.int .i64 1∧sv=.string ⟨#[]⟩)∨(iv=.int .i64 2∧sv=.string ⟨#[]⟩)∨(iv=.int .i64 3∧sv=.string ⟨#[]⟩))∧St W0 wr K (.raw b #[.bool false,.bool false,.bool false] 137::L)) (fun _ iv _=>4 - (intOf iv).toNat)
 case atStart=>exact⟨.inl ⟨rfl,rfl⟩,H.out⟩
 case round=>
  exact zq2
theorem zPE(a t c:Bool)(h:St W0 w K L):
  Calls Tryz.prog 89 #[.agg #[.bool a,.bool t,.bool c]] w fun en w'=>en=.returned (.string (bb (letW a t c)))∧St W0 w' K L:=by
 cases a<;>cases t<;>cases c
 · exact zLI h
 · exact zLH h
 · exact zLG h
 · exact zLF h
 · exact zLE h
 · exact zLD h
 · exact zLC h
 · exact zLB h
theorem zJS(s:Bs)(sub:ByteArray)(c:UInt8)(v:Bool)(he:sub=⟨#[c]⟩)(hv:hasB s c=v)(h:St W0 w K L):
  Calls Tryz.prog 173 #[.string (bb s),.string sub] w fun e w'=>e=.returned (.bool v)∧St W0 w' K L:=by
 subst he;exact sl_has s c v hv h
theorem zAX{P:Program}{fn:Func}{p t:Tmp}{ty:TypeId}(h:fn.results= #[.cell p ty,.tmp t])(tmps:Array Value)(w:World)(b:Nat)(cs:List Value)(d:TypeDesc)
    (hp:tmps.getD p undef=.pointer (some ⟨b,0,none⟩))(hc:w.rangeAt b 0 cs)(hu:P.underlying ty=some d)(hd:d.isRow=true)(hi:(P.info? ty).map (·.size)=some cs.length):
    (results fn tmps).run P w=.ok (.tuple #[.agg cs.toArray,tmps.getD t undef]) w:=by
  have hp':tmps[p]?.getD undef=.pointer (some ⟨b,0,none⟩):=by simpa using hp
  simp[results,h,hp',asAddr,run_loadVar_mid w b 0 ty cs d hc hu hd hi]
theorem zBO{b:Nat}{c:List Value}{T:TypeId}(h:St W0 w K (.raw b c.toArray T::L)):w.rangeAt b 0 c:=by
 intro j v hv;rw[Nat.zero_add,h.rawCell j]
 simpa using hv
end Go.Proofs.YtenojajfacacoaaGreatDoor
