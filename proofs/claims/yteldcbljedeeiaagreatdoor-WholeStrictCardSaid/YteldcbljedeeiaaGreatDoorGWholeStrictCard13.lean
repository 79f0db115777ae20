/- A text. -/
import Derived.Test.YteldcbljedeeiaaGreatDoorGWholeStrictCard12
import Derived.Test.YteldcbljedeeiaaGreatDoorGWholeStrictCard5
import Derived.Test.YteldcbljedeeiaaGreatDoorGWholeStrictCard8
import Derived.Test.YteldcbljedeeiaaGreatDoorGWholeStrictCard9
import Derived.Test.YteldcbljedeeiaaGreatDoorGWholeStrictCard4
import Derived.Test.YteldcbljedeeiaaGreatDoorGWholeStrictCard3
import Derived.RegionTactic
import Derived.Deep.RegionHeld3
import Derived.Deep.DeepCutAuto
import Derived.WalkMore
import Derived.Test.YteldcbljedeeiaaGreatDoorGWholeStrictCard10
import Derived.Test.YteldcbljedeeiaaGreatDoorGWholeStrictCard6
import Derived.Test.YteldcbljedeeiaaGreatDoorGWholeStrictCard11
/- A text. -/
namespace Go.Proofs.YteldcbljedeeiaaGreatDoor
open Go.RowKit

theorem refixed_oneK {k:Nat}{s:Bs}{b:BlobS}{m:Nat}(h:refixed k s=.ok (b,m)):m≤s.length∧s.take m=encF k b:=by
 unfold refixed at h
 by_cases h2:s.length<k
 · rw[if_pos h2]at h;cases h
 rw[if_neg h2]at h;unfold gotS at h
 by_cases h3:sInt (s.take k)= -1
 · rw[if_pos h3]at h
   cases h
   refine⟨by omega,?_⟩
   show s.take k=beBytes (-1) k++[]
   rw[←h3,sInt_of_take s k (by omega),List.append_nil]
 rw[if_neg h3]at h
 by_cases h4:sInt (s.take k)<0
 · rw[if_pos h4]at h;cases h
 rw[if_neg h4]at h
 by_cases h5:(s.length:Int) - (k:Nat)<sInt (s.take k)
 · rw[if_pos h5]at h;cases h
 rw[if_neg h5]at h
 cases h
 have hl:((s.drop k).take (sInt (s.take k)).toNat).length=(sInt (s.take k)).toNat:=by
   rw[List.length_take,List.length_drop];omega
 refine⟨by omega,?_⟩;unfold encF
 have hL:(⟨false,(s.drop k).take (sInt (s.take k)).toNat⟩:BlobS).len=sInt (s.take k):=by
   show(((s.drop k).take (sInt (s.take k)).toNat).length:Int)=_
   rw[hl];omega
 rw[hL,sInt_of_take s k (by omega),List.take_add]
theorem batsE_one:∀(f:Nat) (s:Bs) (l:List BatS),batsE f s=.ok l→s.length≤f→l.flatMap BatS.enc=s
  |0,s,l,h,hs=>by
    have h:Except.ok []=Except.ok l:=h;injection h with h;subst h;obtain rfl:s=[]:=List.eq_nil_of_length_eq_zero (by omega)
    rfl
  |f+1,s,l,h,hs=>by
    have h:(if s=[]then Except.ok []else match reBat s with
      | .error e=>Except.error e
      | .ok y=>consB y.1 (batsE f (s.drop y.2)))=.ok l:=h
    by_cases c:s=[]
    · rw[if_pos c]at h;injection h with h;subst h;rw[c]
      rfl
    · rw[if_neg c]at h
      cases hr:reBat s with
      |error e=>rw[hr]at h;cases h
      |ok y=>
        obtain⟨b,n⟩:=y;rw[hr]at h;have h:consB b (batsE f (s.drop n))=.ok l:=h;obtain⟨x,_,hn,hl,_⟩:=reBat_ok hr
        cases ht:batsE f (s.drop n)with
        |error e=>rw[ht]at h;cases h
        |ok t=>
          rw[ht]at h;have h:Except.ok (b::t)=Except.ok l:=h;injection h with h;subst h;have ih:=batsE_one f (s.drop n) t ht (by rw[List.length_drop];omega);rw[List.flatMap_cons,ih,(reBat_one hr).1,List.take_append_drop]
theorem batsS_one {s:Bs}{l:List BatS}(h:batsS s=.ok l):l.flatMap BatS.enc=s:=batsE_one _ s l h (Nat.le_refl _)
def encPV (x:PartV):Bs:=beBytes x.1 4++encF 4 ⟨false,x.2.flatMap BatS.enc⟩
def encTV (x:TopV):Bs:=(encF 2 ⟨false,x.1⟩++beBytes (x.2.length:Int) 4)++x.2.flatMap encPV
theorem ppartP_one {s:Bs}{x:PartV}{m:Nat}(h:ppartP s=.ok (x,m)):m≤s.length∧s.take m=encPV x:=by
 unfold ppartP at h
 by_cases h4:s.length<4
 · rw[if_pos h4]at h;cases h
 rw[if_neg h4]at h
 cases hr:refixed 4 (s.drop 4)with
 |error e=>rw[hr]at h;cases h
 |ok b=>
  rw[hr]at h;simp only at h
  cases hn:b.1.null with
  |true=>rw[hn,if_pos rfl]at h;cases h
  |false=>
   rw[hn,if_neg (by decide)]at h
   cases hb:batsS b.1.data with
   |error e=>rw[hb]at h;cases h
   |ok l=>
    rw[hb]at h
    cases h
    obtain⟨g1,g2⟩:=refixed_oneK (b:=b.1) (m:=b.2) hr;rw[List.length_drop]at g1;refine⟨by omega,?_⟩;unfold encPV;simp only;rw[batsS_one hb,sInt_of_take s 4 (by omega),List.take_add,g2]
    congr 1
    congr 1
    obtain⟨⟨u,d⟩,k⟩:=b;have hn:u=false:=hn;rw[hn]
theorem ppartN_one:∀(n:Nat) (s:Bs) (l:List PartV) (m:Nat),ppartN n s=.ok (l,m)→l.length=n∧m≤s.length∧s.take m=l.flatMap encPV
  |0,s,l,m,h=>by
    have h:(Except.ok ([],0):Except Int (List PartV×Nat))=.ok (l,m):=h;injection h with h;simp only[Prod.mk.injEq]at h;obtain⟨rfl,rfl⟩:=h;exact⟨rfl,Nat.zero_le _,rfl⟩
  |n+1,s,l,m,h=>by
    have h:(match ppartP s with| .error e=>Except.error e| .ok x=>match ppartN n (s.drop x.2)with| .error e=> .error e| .ok y=> .ok (x.1::y.1,x.2+y.2))=.ok (l,m):=h
    cases hp:ppartP s with
    |error e=>rw[hp]at h;cases h
    |ok x=>
      rw[hp]at h;simp only at h
      cases hq:ppartN n (s.drop x.2)with
      |error e=>rw[hq]at h;cases h
      |ok y=>
        rw[hq]at h
        cases h
        obtain⟨a1,a2⟩:=ppartP_one (x:=x.1) (m:=x.2) hp;obtain⟨b0,b1,b2⟩:=ppartN_one n (s.drop x.2) y.1 y.2 hq;rw[List.length_drop]at b1;exact⟨by rw[List.length_cons,b0],by omega,by rw[List.flatMap_cons,List.take_add,a2,b2]⟩
theorem ptopP_one {s:Bs}{x:TopV}{m:Nat}(h:ptopP s=.ok (x,m)):m≤s.length∧s.take m=encTV x:=by
 unfold ptopP at h
 cases h1:textP s with
 |error e1=>rw[h1]at h;cases h
 |ok t=>
  rw[h1]at h;simp only at h
  cases h2:cntP 8 (s.drop t.2)with
  |error e2=>rw[h2]at h;cases h
  |ok c=>
   rw[h2]at h;simp only at h
   cases h3:ppartN c.1 (s.drop (t.2+4))with
   |error e3=>rw[h3]at h;cases h
   |ok y=>
    rw[h3]at h
    cases h
    obtain⟨a1,a2⟩:=textP_one (d:=t.1) (k:=t.2) h1;obtain⟨_,b1,b2⟩:=cntP_one (n:=c.1) (k:=c.2) (by decide) h2;obtain⟨c0,c1,c2⟩:=ppartN_one c.1 _ y.1 y.2 h3;rw[List.length_drop]at b1 c1;refine⟨by omega,?_⟩;unfold encTV;simp only;rw[c0,Nat.add_assoc,List.take_add,List.take_add,a2,List.drop_drop,b2,c2,List.append_assoc]
theorem ptopN_one:∀(n:Nat) (s:Bs) (l:List TopV) (m:Nat),ptopN n s=.ok (l,m)→l.length=n∧m≤s.length∧s.take m=l.flatMap encTV
  |0,s,l,m,h=>by
    have h:(Except.ok ([],0):Except Int (List TopV×Nat))=.ok (l,m):=h;injection h with h;simp only[Prod.mk.injEq]at h;obtain⟨rfl,rfl⟩:=h;exact⟨rfl,Nat.zero_le _,rfl⟩
  |n+1,s,l,m,h=>by
    have h:(match ptopP s with| .error e=>Except.error e| .ok x=>match ptopN n (s.drop x.2)with| .error e=> .error e| .ok y=> .ok (x.1::y.1,x.2+y.2))=.ok (l,m):=h
    cases hp:ptopP s with
    |error e=>rw[hp]at h;cases h
    |ok x=>
      rw[hp]at h;simp only at h
      cases hq:ptopN n (s.drop x.2)with
      |error e=>rw[hq]at h;cases h
      |ok y=>
        rw[hq]at h
        cases h
        obtain⟨a1,a2⟩:=ptopP_one (x:=x.1) (m:=x.2) hp;obtain⟨b0,b1,b2⟩:=ptopN_one n (s.drop x.2) y.1 y.2 hq;rw[List.length_drop]at b1;exact⟨by rw[List.length_cons,b0],by omega,by rw[List.flatMap_cons,List.take_add,a2,b2]⟩
theorem encB_V (l:List BatR):encB l=(l.map BatR.b).flatMap BatS.enc:=by unfold encB;rw[List.flatMap_map]
theorem encPart_V (x:PartR):encPart x=encPV x.pb:=by unfold encPart encPV PartR.pb;simp only;rw[encB_V];rfl
theorem encPTop_V (x:PTop):encPTop x=encTV x.pt:=by
 unfold encPTop encTV PTop.pt;simp only;rw[List.length_map,List.flatMap_map]
 congr 1
 exact congrArg (fun f=>x.l.flatMap f) (funext encPart_V)
def BatS.rr (b:BatS):BatR:=⟨b,[],none,0⟩
def partU (x:PartV):PartR:=⟨x.1,x.2.map BatS.rr,none,0⟩
def topU (x:TopV):PTop:=⟨x.1,x.2.map partU,none,0⟩
theorem u_map {α β:Type}(f:α→β) (g:β→α) (h:∀x,g (f x)=x) (l:List α):(l.map f).map g=l:=by
 induction l with
 |nil=>rfl
 |cons a t ih=>simp only[List.map_cons,h,ih]
theorem topU_pt (ts:List TopV):(ts.map topU).map PTop.pt=ts:=u_map topU PTop.pt (fun x=>by
  show(x.1,(x.2.map partU).map PartR.pb)=x
  rw[u_map partU PartR.pb (fun y=>by
    show(y.1,(y.2.map BatS.rr).map BatR.b)=y
    rw[u_map BatS.rr BatR.b (fun _=>rfl)])]) ts
structure BkP (x:PartR):Prop where
  idx: -2147483648≤x.idx∧x.idx<2147483648
  len:(encB x.l).length≤2000000
  bats:∀z∈x.l,SmallOk z.b
structure BkT (x:PTop):Prop where
  name:x.name.length≤32767
  len:x.l.length≤1000000
  parts:∀y∈x.l,BkP y
structure CkB (x:BatR):Prop where
  ck:CkR x
  base:Rn x.b.base
structure CkP2 (x:PartR):Prop where
  len:x.l.length≤4398046511104
  bats:∀y∈x.l,CkB y
structure CkT2 (x:PTop):Prop where
  len:x.l.length≤4398046511104
  parts:∀y∈x.l,CkP2 y
def PTop.nl (x:PTop):Bs×List PartR:=(x.name,x.l)
theorem riseP_pb:∀(l m:List PartR),l.map PartR.pb=m.map PartR.pb→∀a,riseP a l=riseP a m
  |[],[],_,_=>rfl
  |[],_::_,h,_=>by cases h
  | _::_,[],h,_=>by cases h
  |x::t,y::u,h,a=>by
    simp only[List.map_cons,List.cons.injEq]at h;have e:x.idx=y.idx:=congrArg Prod.fst h.1;rw[riseP_cons,riseP_cons,e,riseP_pb t u h.2]
theorem errBs_b (txn:Bool):∀(l m:List BatR),l.map BatR.b=m.map BatR.b→errBs txn l=errBs txn m
  |[],[],_=>rfl
  |[],_::_,h=>by cases h
  | _::_,[],h=>by cases h
  |x::t,y::u,h=>by
    simp only[List.map_cons,List.cons.injEq]at h;rw[errBs_cons,errBs_cons,h.1,errBs_b txn t u h.2]
theorem pb_len {l m:List BatR}(h:l.map BatR.b=m.map BatR.b):l.length=m.length:=by have:=congrArg List.length h;simpa using this
theorem errPs_pb (txn:Bool) (v:Int):∀(l m:List PartR),l.map PartR.pb=m.map PartR.pb→errPs txn v l=errPs txn v m
  |[],[],_=>rfl
  |[],_::_,h=>by cases h
  | _::_,[],h=>by cases h
  |x::t,y::u,h=>by
    simp only[List.map_cons,List.cons.injEq]at h;have e:x.l.map BatR.b=y.l.map BatR.b:=congrArg Prod.snd h.1;rw[errPs_cons,errPs_cons,pb_len e,errBs_b txn _ _ e,errPs_pb txn v t u h.2]
theorem ppb_len {l m:List PartR}(h:l.map PartR.pb=m.map PartR.pb):l.length=m.length:=by have:=congrArg List.length h;simpa using this
theorem errT_pt:∀(l m:List PTop),l.map PTop.pt=m.map PTop.pt→∀a,errT a l=errT a m
  |[],[],_,_=>rfl
  |[],_::_,h,_=>by cases h
  | _::_,[],h,_=>by cases h
  |x::t,y::u,h,a=>by
    simp only[List.map_cons,List.cons.injEq]at h;have e1:x.name=y.name:=congrArg Prod.fst h.1;have e2:x.l.map PartR.pb=y.l.map PartR.pb:=congrArg Prod.snd h.1;rw[errT_cons,errT_cons,e1,ppb_len e2,riseP_pb _ _ e2,errT_pt t u h.2]
theorem errPT_pt (txn:Bool) (v:Int):∀(l m:List PTop),l.map PTop.pt=m.map PTop.pt→errPT txn v l=errPT txn v m
  |[],[],_=>rfl
  |[],_::_,h=>by cases h
  | _::_,[],h=>by cases h
  |x::t,y::u,h=>by
    simp only[List.map_cons,List.cons.injEq]at h;have e2:x.l.map PartR.pb=y.l.map PartR.pb:=congrArg Prod.snd h.1;rw[errPT_cons,errPT_cons,errPs_pb txn v _ _ e2,errPT_pt txn v t u h.2]
theorem ppt_len {l m:List PTop}(h:l.map PTop.pt=m.map PTop.pt):l.length=m.length:=by have:=congrArg List.length h;simpa using this
theorem errReq_pt (id:BlobS) (ac tm v:Int){l m:List PTop}(h:l.map PTop.pt=m.map PTop.pt):errReq id ac tm v l=errReq id ac tm v m:=by
 unfold errReq errTops;rw[errT_pt l m h,errPT_pt _ v l m h,ppt_len h]
theorem sizeT_mem:∀(l:List PTop) (x:PTop),x∈l→x.name.length+10+sizeP x.l≤sizeT l
  |[],_,h=>by cases h
  |y::t,x,h=>by
    simp only[sizeT]
    rcases List.mem_cons.1 h with rfl|h
    · omega
    · have:=sizeT_mem t x h;omega
theorem sizeP_mem:∀(l:List PartR) (y:PartR),y∈l→10+100*y.l.length≤sizeP l
  |[],_,h=>by cases h
  |z::t,y,h=>by
    simp only[sizeP]
    rcases List.mem_cons.1 h with rfl|h
    · omega
    · have:=sizeP_mem t y h;omega
theorem sizeT_len:∀(l:List PTop),10*l.length≤sizeT l
  |[]=>by simp[sizeT]
  |x::t=>by have:=sizeT_len t;simp only[sizeT,List.length_cons];omega
theorem sizeP_len:∀(l:List PartR),10*l.length≤sizeP l
  |[]=>by simp[sizeP]
  |x::t=>by have:=sizeP_len t;simp only[sizeP,List.length_cons];omega
theorem errT_all:∀(l:List PTop) (a:Bs),errT a l=0→∀x∈l,x.l.length≠0∧keyRight x.name=true∧riseP (-1) x.l=true
  |[],_,_,_,hx=>by cases hx
  |y::t,a,h,x,hx=>by
    rw[errT_cons]at h
    by_cases h0:y.l.length=0
    · rw[if_pos h0]at h;cases h
    rw[if_neg h0]at h
    by_cases hb:(keyRight y.name && Op.bytesLess a y.name && riseP (-1) y.l)=true
    · rw[if_pos hb]at h;simp only[Bool.and_eq_true]at hb
      rcases List.mem_cons.1 hx with rfl|hx
      · exact⟨h0,hb.1.1,hb.2⟩
      · exact errT_all t y.name h x hx
    · rw[if_neg hb]at h;cases h
theorem riseP_mem:∀(l:List PartR) (a:Int),riseP a l=true→∀y∈l,a<y.idx∧y.idx≤2147483647
  |[],_,_,_,hy=>by cases hy
  |z::t,a,h,y,hy=>by
    rw[riseP_cons]at h;simp only[Bool.and_eq_true,decide_eq_true_eq]at h
    rcases List.mem_cons.1 hy with rfl|hy
    · exact h.1
    · have:=riseP_mem t z.idx h.2 y hy;omega
theorem errBs_all (txn:Bool):∀(l:List BatR),errBs txn l=0→∀z∈l,batErr z.b=0
  |[],_,_,hz=>by cases hz
  |y::t,h,z,hz=>by
    rw[errBs_cons]at h;obtain⟨be,hbe⟩:∃n,batErr y.b=n:=⟨_,rfl⟩;rw[hbe]at h
    by_cases h0:be=0
    · rw[if_neg (fun hh=>hh h0)]at h
      by_cases h1:y.b.ctl=true
      · rw[if_pos h1]at h;exact absurd h (by decide)
      rw[if_neg h1]at h
      by_cases h2:y.b.txn≠txn
      · rw[if_pos h2]at h;exact absurd h (by decide)
      rw[if_neg h2]at h
      rcases List.mem_cons.1 hz with hz|hz
      · rw[hz];exact hbe.trans h0
      · exact errBs_all txn t h z hz
    · rw[if_pos h0]at h;exact absurd h h0
theorem errPs_all (txn:Bool) (v:Int):∀(l:List PartR),errPs txn v l=0→∀y∈l,errBs txn y.l=0
  |[],_,_,hx=>by cases hx
  |y::t,h,x,hx=>by
    rw[errPs_cons]at h
    by_cases h0:y.l.length=0∨(v=3∧1<y.l.length)
    · rw[if_pos h0]at h;cases h
    rw[if_neg h0]at h
    by_cases h1:errBs txn y.l=0
    · rw[if_neg (by simp[h1])]at h
      rcases List.mem_cons.1 hx with rfl|hx
      · exact h1
      · exact errPs_all txn v t h x hx
    · rw[if_pos h1]at h;exact absurd h h1
theorem errPT_all (txn:Bool) (v:Int):∀(l:List PTop),errPT txn v l=0→∀x∈l,errPs txn v x.l=0
  |[],_,_,hx=>by cases hx
  |y::t,h,x,hx=>by
    rw[errPT_cons]at h
    by_cases h1:errPs txn v y.l=0
    · rw[if_neg (by simp[h1])]at h
      rcases List.mem_cons.1 hx with rfl|hx
      · exact h1
      · exact errPT_all txn v t h x hx
    · rw[if_pos h1]at h;exact absurd h h1
theorem errB_zero:∀(l:List BatR),(∀z∈l,batErr z.b=0)→errB l=0
  |[],_=>rfl
  |x::t,h=>by
    show(if batErr x.b=0 then errB t else batErr x.b)=0
    rw[if_pos (h x (by simp))];exact errB_zero t (fun z hz=>h z (by simp[hz]))
theorem encParts_le:∀(l:List PartR),(∀y∈l,(encB y.l).length≤14000*y.l.length)→(l.flatMap encPart).length≤140*sizeP l
  |[],_=>by simp[sizeP]
  |x::t,h=>by
    have h1:=encParts_le t (fun y hy=>h y (by simp[hy]));have h2:=h x (by simp)
    have h3:(encPart x).length=8+(encB x.l).length:=by
      unfold encPart encF;simp only[List.length_append];have g1:(beBytes x.idx (4:Int).toNat).length=4:=beBytes_length _ _;have g2:∀n,(beBytes n 4).length=4:=fun n=>beBytes_length _ _
      rw[g1,g2]
      omega
    rw[List.flatMap_cons,List.length_append,h3];simp only[sizeP]
    omega
theorem encPTops_le:∀(l:List PTop),(∀x∈l,∀y∈x.l,(encB y.l).length≤14000*y.l.length)→(l.flatMap encPTop).length≤140*sizeT l
  |[],_=>by simp[sizeT]
  |x::t,h=>by
    have h1:=encPTops_le t (fun y hy=>h y (by simp[hy]));have h2:=encParts_le x.l (h x (by simp))
    have h3:(encPTop x).length=6+x.name.length+(x.l.flatMap encPart).length:=by
      unfold encPTop encF;simp only[List.length_append];have g1:(beBytes (x.l.length:Int) (4:Int).toNat).length=4:=beBytes_length _ _;have g2:∀n,(beBytes n 2).length=2:=fun n=>beBytes_length _ _
      rw[g1,g2]
      omega
    rw[List.flatMap_cons,List.length_append,h3];simp only[sizeT]
    omega
theorem encB_le14:∀(l:List BatR),(∀x∈l,x.b.enc.length≤14000)→(encB l).length≤14000*l.length
  |[],_=>by simp[encB]
  |x::t,h=>by
    have h1:=encB_le14 t (fun y hy=>h y (by simp[hy]));have h2:=h x (by simp);rw[encB_cons,List.length_append,List.length_cons]
    omega
structure GoodReq (nl:Bool) (dd:Bs) (ac tm:Int) (l:List PTop):Prop where
  right:(⟨nl,dd⟩:BlobS).right=true
  id:dd.length≤32767
  hac: -1≤ac∧ac≤1
  htm:0≤tm∧tm<2147483648
  few:l.length≤1000000
  put:∀x∈l,PutT x
  wr:∀x∈l,WrT x
  bk:∀x∈l,BkT x
  len:(encPReq nl dd ac tm l).length≤300000
set_option maxHeartbeats 2000000 in
theorem GoodReq.of {nl:Bool}{dd:Bs}{ac tm v:Int}{l:List PTop}(he:errReq ⟨nl,dd⟩ ac tm v l=0) (hf:∀x∈l,FewT20 x) (hs:∀x∈l,SmT x) (hz:∀j,j≤l.length→AllP (l.take j)→j=0∨dd.length+sizeT (l.take j)≤2000):GoodReq nl dd ac tm l:=by
 unfold errReq at he
 by_cases h1:(⟨nl,dd⟩:BlobS).right=false∨((⟨nl,dd⟩:BlobS).null=false∧keyRight (⟨nl,dd⟩:BlobS).data=false)
 · rw[if_pos h1]at he;cases he
 rw[if_neg h1]at he
 by_cases h2:ac< -1∨1<ac∨tm<0∨2147483647<tm
 · rw[if_pos h2]at he;cases he
 rw[if_neg h2]at he
 by_cases h3:errTops l=0
 rotate_left
 · rw[if_pos h3]at he;exact absurd he h3
 rw[if_neg (by simp[h3])]at he;have hr:(⟨nl,dd⟩:BlobS).right=true:=by cases hh:(⟨nl,dd⟩:BlobS).right with|true=>rfl|false=>exact absurd (.inl hh) h1
 have h0:l.length≠0:=fun hh=>by unfold errTops at h3;rw[if_pos hh]at h3;cases h3
 have ht:errT [] l=0:=by unfold errTops at h3;rw[if_neg h0]at h3;exact h3
 have hT:=errT_all l [] ht
 have hsz:dd.length+sizeT l≤2000:=by
  rcases hz l.length (Nat.le_refl _) (by rw[List.take_length];exact fun x hx=>(hT x hx).1)with h|h
  · exact absurd h h0
  · rwa [List.take_length]at h
 have hP:=errPT_all (!nl) v l he;have hbat:∀x∈l,∀y∈x.l,∀z∈y.l,batErr z.b=0:=fun x hx y hy z hz=>errBs_all _ y.l (errPs_all _ _ x.l (hP x hx) y hy) z hz
 have hfit:∀x∈l,∀y∈x.l,∀z∈y.l,z.Fit:=fun x hx y hy z hz=>((hf x hx).parts y hy).fit z hz
 have hlen:∀x∈l,x.name.length≤2000∧x.l.length≤200∧∀y∈x.l,y.l.length≤20:=fun x hx=>by
  have g1:=sizeT_mem l x hx;have g2:=sizeP_len x.l;refine⟨by omega,by omega,fun y hy=> ?_⟩;have g3:=sizeP_mem x.l y hy
  omega
 have hput:∀x∈l,PutT x:=fun x hx=>⟨by have:=(hlen x hx).1;omega,by have:=(hlen x hx).2.1;omega,fun y hy=>
  ⟨(hlen x hx).2.2 y hy,hfit x hx y hy,fun z hz=>hs x hx y hy z hz,errB_zero y.l (hbat x hx y hy),by have:=riseP_mem x.l (-1) (hT x hx).2.2 y hy;omega⟩⟩
 have hso:∀x∈l,∀y∈x.l,∀z∈y.l,SmallOk z.b:=fun x hx y hy z hz=>BatR.small (hfit x hx y hy z hz) (hs x hx y hy z hz) (hbat x hx y hy z hz)
 have hl14:=encPTops_le l (fun x hx y hy=>encB_le14 y.l (fun z hz=>BatR.elen (hfit x hx y hy z hz) (hs x hx y hy z hz)));have hl10:=sizeT_len l;refine⟨hr,by omega,by omega,by omega,by omega,hput,fun x hx=>⟨by have:=(hlen x hx).1;omega,fun y hy=>⟨by have:=((hput x hx).parts y hy).idx;omega,fun z hz=>⟨(hfit x hx y hy z hz).2.2,EncOk.small (hso x hx y hy z hz)⟩⟩⟩,fun x hx=>⟨by have:=(hlen x hx).1;omega,by have:=(hlen x hx).2.1;omega,fun y hy=>⟨by have:=((hput x hx).parts y hy).idx;omega,by have:=((hput x hx).parts y hy).len;omega,hso x hx y hy⟩⟩,?_⟩
 have e:(encPReq nl dd ac tm l).length=12+dd.length+(l.flatMap encPTop).length:=by
  unfold encPReq encF;simp only[List.length_append];have g1:(beBytes (l.length:Int) (4:Int).toNat).length=4:=beBytes_length _ _;have g2:∀n,(beBytes n 2).length=2:=fun n=>beBytes_length _ _
  have g3:(beBytes tm (4:Int).toNat).length=4:=beBytes_length _ _;have g4:(beBytes ac (2:Int).toNat).length=2:=beBytes_length _ _;rw[g1,g2,g3,g4]
  omega
 rw[e]
 omega
theorem MidOk.of2 {s:Bs}{b:BatS}{n:Nat}(h:reBat s=.ok (b,n)) (hl:s.length≤2000):MidOk b:=by
 exact zq13
structure LawOk (nl:Bool) (x:BatR):Prop where
  mid:MidOk x.b
  recs:x.l.map (·.1)=x.b.recs
  ctl:x.b.ctl=false
  txn:x.b.txn= !nl
theorem bat_encode_mid (b:BatS) (l:List (RecS×Value)) (q:Option Addr) (cap:Nat) (hl:l.map (·.1)=b.recs) (so:MidOk b){W0 w:World}{K:Know}{L:List Res}(hk:K.has (Know.recs (.slice q l.length cap) l)) (h:St W0 w K L):
  Calls Tryz.prog 39 #[.agg #[.int .i64 b.base,.int .i64 b.leader,.bool b.app,.bool b.txn,.bool b.ctl,.int .i64 b.last,.int .i64 b.first,.int .i64 b.maxt,.int .i64 b.prod,.int .i64 b.epoch,.int .i64 b.seq,.slice q l.length cap]] w fun en w'=>en=.returned (.tuple #[.string (bb b.enc),.int .i64 0])∧St W0 w' K L:=by
 have hrow:=so.rows;have hlen:=so.len;have hcr:=b.crc_lt;have hml:l.length=b.recs.length:=by rw[←hl,List.length_map]
 have f0:=BatS.fitsAll so.err so.rng 0 (by decide) (by omega) (by omega);have f1:=BatS.fitsAll so.err so.rng b.crc (by omega) (by omega) (by omega);have r0:=BatS.pre_R so.err so.rng 0 (by decide) (by omega) (by omega);have r1:=BatS.pre_R so.err so.rng b.crc (by omega) (by omega) (by omega);have hmx:b.first≤9223372036854775807:=by have:=so.rng.2.2.2.1.2;omega
 have e0:b.pre 0=(⟨b.base,49+(b.rowsB.length:Int),b.leader,0,attrN b.app b.txn b.ctl 3,b.last,b.first,b.maxt,b.prod,b.epoch,b.seq,(l.length:Int)⟩:PreS):=by unfold BatS.pre;rw[hml]
 have e1:b.pre b.crc=(⟨b.base,49+(b.rowsB.length:Int),b.leader,(b.crc:Int),attrN b.app b.txn b.ctl 3,b.last,b.first,b.maxt,b.prod,b.epoch,b.seq,(l.length:Int)⟩:PreS):=by unfold BatS.pre;rw[hml]
 have i0:=ints_items f0;have i1:=ints_items f1;have hd0:=b.pre_drop 0;have l0:=items_len (b.pre 0);have l1:=items_len (b.pre b.crc);have he:batErr ⟨b.base,b.leader,b.app,b.txn,b.ctl,b.last,b.first,b.maxt,b.prod,b.epoch,b.seq,l.map (·.1)⟩=0:=by rw[hl];exact so.err
 have hrc:recsC (l.map (·.1))=0:=by rw[hl];exact(batErr_zero so.err).2.2.2
 have hrw:encAll l=b.rowsB:=by rw[encAll_rows,hl];rfl
 have hfb:FitB l:=by
  intro x hx;obtain⟨a,c,d⟩:=so.fit x.1 (by rw[←hl];exact List.mem_map.2 ⟨x,hx,rfl⟩);have:=hsum_fit x.1.hdrs 2000 (by unfold RecS.sum at d;omega);exact⟨a,fun y hy=>by have:=this y hy;omega,by omega⟩
 have hall:encInts (b.pre b.crc).items++b.rowsB=b.enc:=rfl;have hx:(crcMore 0#32 ((encInts (b.pre 0).items).drop 21++b.rowsB)).toNat=b.crc:=by rw[hd0];rfl
 rw[e0]at r0 i0;rw[e1]at r1 i1;obtain⟨s0,hs0⟩:∃s,encInts (b.pre 0).items=s:=⟨_,rfl⟩;obtain⟨s1,hs1⟩:∃s,encInts (b.pre b.crc).items=s:=⟨_,rfl⟩;have g0:encInts (⟨b.base,49+(b.rowsB.length:Int),b.leader,0,attrN b.app b.txn b.ctl 3,b.last,b.first,b.maxt,b.prod,b.epoch,b.seq,(l.length:Int)⟩:PreS).items=s0:=e0 ▸ hs0;have g1:encInts (⟨b.base,49+(b.rowsB.length:Int),b.leader,(b.crc:Int),attrN b.app b.txn b.ctl 3,b.last,b.first,b.maxt,b.prod,b.epoch,b.seq,(l.length:Int)⟩:PreS).items=s1:=e1 ▸ hs1;rw[g0]at i0;rw[g1]at i1;rw[hs0]at hx l0;rw[hs1]at hall l1;exact bat_encode_ok b.base b.leader b.app b.txn b.ctl b.last b.first b.maxt b.prod b.epoch b.seq l q cap he hmx hfb (by omega) b.rowsB s0 s1 b.enc b.crc (attrN b.app b.txn b.ctl 3) hrc hrw (by omega) rfl r0 r1 i0 i1 l0 l1 hx hall hk h

theorem bat_encode_midE (b:BatS) (s:Bs) (hs:b.enc=s) (l:List (RecS×Value)) (q:Option Addr) (cap:Nat) (hl:l.map (·.1)=b.recs) (so:MidOk b){W0 w:World}{K:Know}{L:List Res}(hk:K.has (Know.recs (.slice q l.length cap) l)) (h:St W0 w K L):
  Calls Tryz.prog 39 #[.agg #[.int .i64 b.base,.int .i64 b.leader,.bool b.app,.bool b.txn,.bool b.ctl,.int .i64 b.last,.int .i64 b.first,.int .i64 b.maxt,.int .i64 b.prod,.int .i64 b.epoch,.int .i64 b.seq,.slice q l.length cap]] w fun en w'=>en=.returned (.tuple #[.string (bb s),.int .i64 0])∧St W0 w' K L:=by
 subst hs;exact bat_encode_mid b l q cap hl so hk h
theorem MidOk.elen {b:BatS}(h:MidOk b):b.enc.length≤2061:=by rw[b.enc_len];have:=h.rows;omega
theorem encB_le3:∀(l:List BatR),(∀x∈l,MidOk x.b)→(encB l).length≤2061*l.length
  |[],_=>by simp[encB]
  |x::t,h=>by
    have h1:=encB_le3 t (fun y hy=>h y (by simp[hy]));have h2:=(h x (by simp)).elen;have e:encB (x::t)=x.b.enc++encB t:=rfl;rw[e,List.length_append,List.length_cons]
    omega

set_option maxHeartbeats 2000000 in
set_option maxRecDepth 100000 in
theorem bat_all_mid (l:List BatR) (q:Option Addr) (cap:Nat) (s:Bs) (hs:encB l=s) (hf:∀x∈l,x.l.map (·.1)=x.b.recs∧MidOk x.b) (hll:l.length≤30){W0 w:World}{K:Know}{L:List Res}(hk:K.has (Know.bats (.slice q l.length cap) l)) (h:St W0 w K L):
  Calls Tryz.prog 208 #[.slice q l.length cap] w fun en w'=>en=.returned (.tuple #[.string (bb s),.int .i64 0])∧St W0 w' K L:=by
 have g1:=h.allocOut;obtain⟨po,hpo⟩:∃b,w.heap.size=b:=⟨_,rfl⟩;rw[hpo]at g1;have H:=Lib.hid g1;have HK:=Lib.hid hk;have HFT:=Lib.hid hf;have HLL:=Lib.hid hll;have HSE:=Lib.hid hs;clear h g1 hk hf hll hs;go_enter Tryz.func208,Tryz.ntmps208;go_wp2;go_loopw [6,7,8,11] (fun _ _ _ iv wr=>∃k:Nat,k≤l.length∧iv=.int .i64 k∧St W0 wr K (.out po ⟨encB (l.take k),0⟩::L)) (fun _ _ _ iv _=>l.length - (intOf iv).toNat)
 case atStart=>exact⟨0,Nat.zero_le _,rfl,H.out⟩
 case round=>
  obtain⟨k,hkl,rfl,hst⟩:=hrel;clear H;have H:=Lib.hid hst;clear hst
  by_cases hlt:k<l.length
  · have hl20:(l.length:Int)≤30:=by have:=HLL.out;omega
    have het:=encB_take l k hlt;obtain⟨b,off,hqq⟩:=bats_at HK.out H.out (by omega);subst hqq;obtain⟨x,hx⟩:∃x,l[k]=x:=⟨_,rfl⟩;have cc:=bats_cell HK.out H.out k hlt x hx;have hmem:x∈l:=hx ▸ List.getElem_mem hlt;have XF:=Lib.hid (HFT.out x hmem);have XR3:=Lib.hid XF.out.1;have XM:=Lib.hid XF.out.2;have XK:=Lib.hid (bats_recs HK.out hmem);obtain⟨c0,c1,c2,c3,c4,c5,c6,c7,c8,c9,c10,c11⟩:=cc;obtain⟨wE,hwE⟩:∃b,wr.heap.size=b:=⟨_,rfl⟩;have hki:(k:Int)<(l.length:Int):=by omega
    have h:=H.out.allocRaw #[.int .i64 x.b.base,.int .i64 x.b.leader,.bool x.b.app,.bool x.b.txn,.bool x.b.ctl,.int .i64 x.b.last,.int .i64 x.b.first,.int .i64 x.b.maxt,.int .i64 x.b.prod,.int .i64 x.b.epoch,.int .i64 x.b.seq,.slice x.q x.l.length x.cap] 101;rw[hwE]at h;clear H;have H:=Lib.hid h;clear h;rw[hx]at het;obtain⟨x0,x1,x2,x3,x4,x5,x6,x7,x8,x9,x10,x11,y0,y1,y2,y3,y4,y5,y6,y7,y8,y9,y10,y11⟩:=raw12 (b:=wE) (H.out);obtain⟨s0,hs0⟩:∃s,x.b.enc=s:=⟨_,rfl⟩;have HS:=Lib.hid hs0;rw[hs0]at het
    have OK:=Lib.hid (show(⟨encB (l.take k),0⟩:OutS).ok s0.length by
     have h1:=encB_le3 (l.take k) (fun y hy=>(HFT.out y (List.mem_of_mem_take hy)).2);have h2:=HLL.out;have h3:=XM.out.elen;rw[HS.out]at h3;rw[List.length_take]at h1;unfold OutS.ok;simp only
     omega)
    have EP:=Lib.hid (show(⟨encB (l.take k),0⟩:OutS).put s0=⟨encB (l.take (k+1)),0⟩ by rw[het];rfl);clear het hs0 hx hmem
    go_wp2_with (first
  |(go_at_call 39;clear x0 y0 x1 y1 x2 y2 x3 y3 x4 y4 x5 y5 x6 y6 x7 y7 x8 y8 x9 y9 x10 y10 x11 y11;(with_reducible refine(bat_encode_midE x.b s0 HS.out x.l _ _ XR3.out XM.out XK.out H.out).mono ?_);rintro e_ wn ⟨rfl,h⟩;replace H:=Lib.hid h;clear h;obtain⟨x0,x1,x2,x3,x4,x5,x6,x7,x8,x9,x10,x11,y0,y1,y2,y3,y4,y5,y6,y7,y8,y9,y10,y11⟩:=raw12 (b:=wE) (H.out))
  |(go_at_call 51;(with_reducible refine(so_put po _ _ H.out.p1 OK.out).mono ?_);rw[EP.out];rintro e_ wn ⟨rfl,h⟩;replace H:=Lib.hid h;clear h))
    go_roundw
    case rel=>exact⟨k+1,hlt,by go_num,H.out.p1.drop⟩
    case measure=>first|(simp[intOf];done)|(simp[intOf];omega)
  · obtain rfl:k=l.length:=by omega
    have h:=H.out;rw[List.take_length,HSE.out]at h;clear H;have H:=Lib.hid h;clear h;have ET:=Lib.hid (show(⟨s,0⟩:OutS).text=(s,0)from rfl)
    go_wp2_with (first
  |(go_at_call 49;(with_reducible refine(so_text po _ H.out).mono ?_);rw[ET.out];rintro e_ wn ⟨rfl,h⟩;replace H:=Lib.hid h;clear h))
    go_ret2;exact⟨rfl,H.out.drop⟩
structure PutPM (x:PartR):Prop where
  few:x.l.length≤30
  fit:∀y∈x.l,y.l.map (·.1)=y.b.recs∧MidOk y.b
  idx:0≤x.idx∧x.idx≤2147483647
structure PutTM (x:PTop):Prop where
  name:x.name.length≤32767
  few:x.l.length≤100000
  parts:∀y∈x.l,PutPM y
theorem PutPM.len {x:PartR}(h:PutPM x):(encB x.l).length≤280000:=by
 have h1:=encB_le3 x.l (fun y hy=>(h.fit y hy).2);have:=h.few
 omega

set_option maxHeartbeats 2000000 in
set_option maxRecDepth 100000 in
theorem put_partM (po:Nat) (e e2:Bs) (idx:Int) (l:List BatR) (q:Option Addr) (cap:Nat) (hp:PutPM ⟨idx,l,q,cap⟩) (he:e++encPart ⟨idx,l,q,cap⟩=e2) (hel:e.length≤10000000){W0 w:World}{K:Know}{L:List Res}(hk:K.has (Know.bats (.slice q l.length cap) l)) (h:St W0 w K (.out po ⟨e,0⟩::L)):
  Calls Tryz.prog 153 #[outPtr po,.agg #[.int .i64 idx,.slice q l.length cap]] w fun en w'=>en=.returned (.tuple #[])∧St W0 w' K (.out po ⟨e2,0⟩::L):=by
 obtain⟨rb,hrb⟩:∃b,w.heap.size=b:=⟨_,rfl⟩;have g1:=(h.allocRaw #[.int .i64 idx,.slice q l.length cap] 181).p1;rw[hrb]at g1;have y0:=g1.p1.rawCell 0;have y1:=g1.p1.rawCell 1;simp at y0 y1;obtain⟨s,hs⟩:∃s,encB l=s:=⟨_,rfl⟩;obtain⟨e1,he1⟩:∃x,e++beBytes idx (4:Int).toNat=x:=⟨_,rfl⟩;have hsl:s.length≤280000:=by rw[←hs];exact hp.len
 have H:=Lib.hid g1;have HK:=Lib.hid hk;have HSE:=Lib.hid hs;have HFT:=Lib.hid (show ∀x∈l,x.l.map (·.1)=x.b.recs∧MidOk x.b from hp.fit);have HLL:=Lib.hid (show l.length≤30 from hp.few);have HE1:=Lib.hid he1;have HF4:=Lib.hid (pfits4 idx (by have h1:0≤idx∧idx≤2147483647:=hp.idx;omega));have HR8:=Lib.hid (show -9223372036854775808≤idx∧idx<9223372036854775808 by have h1:0≤idx∧idx≤2147483647:=hp.idx;omega);have HL0:=Lib.hid (show e.length≤100000000000000 by omega);have HL1:=Lib.hid (show e1.length≤100000000000000 by rw[←he1,List.length_append,beBytes_length];show e.length+4≤_;omega)
 have HE2:=Lib.hid (show e1++encF 4 ⟨false,s⟩=e2 by
  rw[←he1,←he,List.append_assoc,←hs]
  rfl)
 have HSL:=Lib.hid (show s.length≤100000000 by omega);clear h g1 hk hp he he1 hel hs hsl;go_enter Tryz.func153,Tryz.ntmps153
 go_wp2_with (first
  |(go_at_call 208;clear y0 y1;(with_reducible refine(bat_all_mid l q cap s HSE.out HFT.out HLL.out HK.out H.out).mono ?_);rintro e_ wn ⟨rfl,h⟩;have y0:=h.p1.rawCell 0;have y1:=h.p1.rawCell 1;simp at y0 y1;replace H:=Lib.hid h;clear h)
  |(go_at_call 50;(with_reducible refine(pso_int po e e1 idx 4 HE1.out HF4.out HR8.out HL0.out H.out).mono ?_);rintro e_ wn ⟨rfl,h⟩;replace H:=Lib.hid h;clear h)
  |(go_at_call 144;(with_reducible refine(pblob_of s H.out).mono ?_);rintro e_ wn ⟨rfl,h⟩;replace H:=Lib.hid h;clear h)
  |(go_at_call 96;(with_reducible refine(pblob_fixed4 po e1 e2 s HE2.out HSL.out HL1.out H.out).mono ?_);rintro e_ wn ⟨rfl,h⟩;replace H:=Lib.hid h;clear h))
 go_end0;exact⟨rfl,H.out.p1.drop⟩
theorem cnt_on {each:Nat}(he:0<each){s:Bs}{i c:InS}{n:Nat}(hx:i.cnt each=(n,c)) (hi:i.On s):(c.err=0→each*n≤s.length)∧(c.err≠0→n=0):=by
 rcases hi with hi|⟨p,hp,rfl⟩
 · have:=(rds_cnt each he).stuck i hi.1;rw[hx]at this;obtain⟨rfl,rfl⟩:=Prod.mk.inj this;exact⟨fun h=>absurd h hi.1,fun _=>rfl⟩
 · cases hv:cntP each (s.drop p)with
   |error e=>
    obtain⟨h0,q,_,h1⟩:=(rds_cnt each he).err s p e hp hv;rw[hx]at h1;obtain⟨rfl,rfl⟩:=Prod.mk.inj h1;exact⟨fun h=>absurd h h0,fun _=>rfl⟩
   |ok x=>
    obtain⟨_,h1⟩:=(rds_cnt each he).ok s p x.1 x.2 hp hv;rw[hx]at h1;obtain⟨rfl,rfl⟩:=Prod.mk.inj h1;obtain⟨_,g,_⟩:=cntP_one (n:=x.1) (k:=x.2) he hv;rw[List.length_drop]at g;exact⟨fun _=>by omega,fun h=>absurd rfl h⟩
theorem marks_on (v:Int){s:Bs}(hs:s.length≤2000){i:InS}(hi:i.On s):(∀m∈(InS.marksN v (i.cnt 15).1 [] (i.cnt 15).2).1,m.R∧FewL m.tops)∧(InS.marksN v (i.cnt 15).1 [] (i.cnt 15).2).1.length≤1000000∧((i.marks v).2.err=0→Got s i (i.marks v).2 (encMs v (i.marks v).1)∧(i.marks v).1.length≤200∧marksErr v (i.marks v).1=0∧∀m∈(i.marks v).1,m.R∧FewL m.tops):=by
 obtain⟨n,c,hc⟩:∃n c,i.cnt 15=(n,c):=⟨_,_,rfl⟩;have gc:=got_cnt 15 (by decide) hc hi;obtain⟨c1,c2⟩:=cnt_on (by decide) hc hi;have hm:i.marks v=if (InS.marksN v n [] c).2.err=0 then(if marksErr v (InS.marksN v n [] c).1=0 then InS.marksN v n [] c else([],(InS.marksN v n [] c).2.fail (marksErr v (InS.marksN v n [] c).1)))else([],(InS.marksN v n [] c).2):=by unfold InS.marks;rw[hc]
 rw[hc];simp only
 by_cases h0:c.err=0
 · obtain⟨p,hp,rfl⟩:=On.zero gc.1 h0;obtain⟨l,j,q,e,g1,_,g3,g4,g5,g6⟩:=marksN_both v s hs n [] p hp (fun m hm=>by cases hm);rw[g1]at hm ⊢;simp only at hm ⊢;have hn:=c1 rfl
   by_cases he:e=0
   · subst he;obtain⟨rfl,a2,a3,a4,_⟩:=g6 rfl;rw[List.length_nil,List.drop_zero]at a3;rw[List.length_nil]at a4;rw[if_pos rfl]at hm;refine⟨g4,by omega,?_⟩
     by_cases hE:marksErr v l=0
     · rw[if_pos hE]at hm;rw[hm];refine fun _=>⟨?_,by simp only;omega,hE,g4⟩
       obtain⟨p0,q0,rfl,e2,b1,b2,b3⟩:=gc.2 rfl;obtain rfl:p=q0:=(InS.mk.inj e2).2.1
       have hpq:p≤q:=by
        have:=congrArg List.length a3;rw[List.length_append,List.length_take,List.length_take]at this
        omega
       refine⟨.inr ⟨q,a2,rfl⟩,fun _=>⟨p0,q,rfl,rfl,by omega,a2,?_⟩⟩
       show s.take p0++encMs v l=_
       unfold encMs;rw[←a3,←b3,show l.length=n by omega,List.append_assoc]
       rfl
     · rw[if_neg hE]at hm;rw[hm];have hb:((⟨s,q,0⟩:InS).fail (marksErr v l)).err≠0:=hE;exact fun h=>absurd h hb
   · obtain⟨rfl,_⟩:=g5 he;have hj:j.err≠0:=by rw[g3];exact he
     rw[if_neg hj]at hm;rw[hm];exact⟨fun m hm=>(by cases hm),Nat.zero_le _,fun h=>absurd h hj⟩
 · obtain rfl:=c2 h0;have hz:InS.marksN v 0 [] c=([],c):=rfl;rw[hz]at hm ⊢;simp only at hm ⊢;rw[if_neg h0]at hm;rw[hm];exact⟨fun m hm=>(by cases hm),Nat.zero_le _,fun h=>absurd h h0⟩
def prodJ (v:Int) (i:InS):InS:=
  let a:=i.fixed 2
  let b:=a.2.int 2
  let c:=b.2.int 4
  let n:=c.2.cnt 6
  let t:=InS.ptopsN n.1 [] n.2
  chkJ t.2 (errReq a.1 b.1 c.1 v (t.1.map topU))
theorem prodJ_eq {v:Int}{i i1 i2 i3 c j:InS}{b:BlobS}{ac tm:Int}{n:Nat}{ts:List TopV}(h1:i.fixed 2=(b,i1)) (h2:i1.int 2=(ac,i2)) (h3:i2.int 4=(tm,i3)) (h4:i3.cnt 6=(n,c)) (h5:InS.ptopsN n [] c=(ts,j)):prodJ v i=chkJ j (errReq b ac tm v (ts.map topU)):=by
 unfold prodJ;simp only[h1,h2,h3,h4,h5]
theorem got_ptops {s:Bs}{c j:InS}{n:Nat}{ts:List TopV}(hx:InS.ptopsN n [] c=(ts,j)) (hc:c.On s) (hn:c.err≠0→n=0):j.On s∧(j.err=0→ts.length=n∧Got s c j (ts.flatMap encTV)):=by
 by_cases h0:c.err=0
 · obtain⟨p,hp,rfl⟩:=On.zero hc h0;obtain⟨g1,g2⟩:=ptopsN_at n [] s p hp
   cases hv:ptopN n (s.drop p)with
   |error e=>
    obtain⟨a,q,_,d⟩:=g2 e hv;rw[hx]at d;obtain⟨_,rfl⟩:=Prod.mk.inj d;exact⟨.inl ⟨a,rfl⟩,fun h=>absurd h a⟩
   |ok y=>
    obtain⟨a,d⟩:=g1 y.1 y.2 hv;rw[hx,List.nil_append]at d;obtain⟨rfl,rfl⟩:=Prod.mk.inj d;obtain⟨e1,_,e3⟩:=ptopN_one n _ y.1 y.2 hv;refine⟨.inr ⟨_,a,rfl⟩,fun _=>⟨e1,.inr ⟨_,a,rfl⟩,fun _=>⟨p,p+y.2,rfl,rfl,by omega,a,?_⟩⟩⟩;rw[←e3,←List.take_add]
 · obtain rfl:=hn h0;have hz:InS.ptopsN 0 [] c=([],c):=rfl;rw[hz]at hx;obtain⟨_,rfl⟩:=Prod.mk.inj hx;exact⟨hc,fun h=>absurd h h0⟩
theorem flat_in {α:Type}(f:α→Bs):∀(l:List α) (x:α),x∈l→(f x).length≤(l.flatMap f).length
  |[],_,h=>by cases h
  |y::t,x,h=>by
    rw[List.flatMap_cons,List.length_append]
    rcases List.mem_cons.1 h with rfl|h
    · omega
    · have:=flat_in f t x h
      omega
theorem encB_ge:∀l:List BatR,61*l.length≤(encB l).length
  |[]=>Nat.le_refl _
  |x::t=>by
    have h1:=encB_ge t;have e:encB (x::t)=x.b.enc++encB t:=rfl;rw[e,List.length_append,List.length_cons,x.b.enc_len]
    omega
theorem putTM_of {nl:Bool}{dd:Bs}{ac tm v:Int}{l:List PTop}(he:errReq ⟨nl,dd⟩ ac tm v l=0){M:Nat}(hM:M≤1800) (hlen:(l.flatMap encPTop).length≤1800) (hp:∀x∈l,PtOk M x.pt∧∀y∈x.l,∀z∈y.l,z.l.map (·.1)=z.b.recs):(⟨nl,dd⟩:BlobS).right=true∧(-32768≤ac∧ac<32768)∧(0≤tm∧tm<2147483648)∧∀x∈l,PutTM x:=by
 unfold errReq at he
 by_cases h1:(⟨nl,dd⟩:BlobS).right=false∨((⟨nl,dd⟩:BlobS).null=false∧keyRight (⟨nl,dd⟩:BlobS).data=false)
 · rw[if_pos h1]at he;cases he
 rw[if_neg h1]at he
 by_cases h2:ac< -1∨1<ac∨tm<0∨2147483647<tm
 · rw[if_pos h2]at he;cases he
 rw[if_neg h2]at he
 by_cases h3:errTops l=0
 rotate_left
 · rw[if_pos h3]at he;exact absurd he h3
 have hr:(⟨nl,dd⟩:BlobS).right=true:=by cases hh:(⟨nl,dd⟩:BlobS).right with|true=>rfl|false=>exact absurd (.inl hh) h1
 have h0:l.length≠0:=fun hh=>by unfold errTops at h3;rw[if_pos hh]at h3;cases h3
 have ht:errT [] l=0:=by unfold errTops at h3;rw[if_neg h0]at h3;exact h3
 have hT:=errT_all l [] ht;refine⟨hr,by omega,by omega,fun x hx=> ?_⟩;obtain⟨⟨b1,b2,b3⟩,b4⟩:=hp x hx;have b1:x.name.length≤M:=b1;have b2:(x.l.map PartR.pb).length≤M:=b2;rw[List.length_map]at b2;refine⟨by omega,by omega,fun y hy=> ?_⟩;have b5:BsOk M (y.l.map fun z=>z.b):=b3 y.pb (List.mem_map_of_mem hy);obtain⟨_,c2⟩:=b5
 have c1:y.l.length≤30:=by
   have d1:=flat_in encPTop l x hx;have d2:=flat_in encPart x.l y hy;have d3:=encB_ge y.l;have e1:(encPTop x).length=((encF 2 ⟨false,x.name⟩++beBytes (x.l.length:Int) (4:Int).toNat)).length+(x.l.flatMap encPart).length:=by unfold encPTop;rw[List.length_append]
   have e2:(encPart y).length=(beBytes y.idx (4:Int).toNat).length+(encF 4 ⟨false,encB y.l⟩).length:=by unfold encPart;rw[List.length_append]
   have e3:(encF 4 ⟨false,encB y.l⟩).length=(beBytes (⟨false,encB y.l⟩:BlobS).len 4).length+(encB y.l).length:=by unfold encF;rw[List.length_append]
   omega
 refine⟨c1,fun z hz=>⟨b4 y hy z hz,?_⟩,?_⟩
 · obtain⟨t,k,hrb,hk⟩:=c2 z.b (List.mem_map_of_mem hz);exact MidOk.of2 hrb (by omega)
 · have:=riseP_mem x.l (-1) (hT x hx).2.2 y hy
   omega
set_option maxHeartbeats 6000000 in
set_option maxRecDepth 100000 in
theorem mark_read1 (b:Nat) (i i1 i2 i3 i4 i5:InS) (p e:Int) (c:Bool) (tl:List TopS) (co:Int) (h1:i.int 8=(p,i1)) (h2:i1.int 2=(e,i2)) (h3:i2.boolP=(c,i3)) (h4:i3.tops=(tl,i4)) (h5:i4.int 4=(co,i5)){W0 w:World}{K:Know}{L:List Res}(h:St W0 w K (.inp b i::L)):
  Calls Tryz.prog 179 #[inPtr b,.int .i64 1] w fun en w'=>∃(q:Option Addr) (cap:Nat) (lr:List (TopS×Value)),en=.returned (.agg #[.int .i64 p,.int .i64 e,.bool c,.slice q lr.length cap,.int .i64 co])∧lr.map (·.1)=tl∧St W0 w' (K.and (Know.tops (.slice q lr.length cap) lr)) (.inp b i5::L):=by
 obtain⟨rb,hrb⟩:∃b,w.heap.size=b:=⟨_,rfl⟩;obtain⟨eb,heb⟩:∃b,rb+1=b:=⟨_,rfl⟩;have g1:=(h.allocRaw #[.int .i64 0,.int .i64 0,.bool false,.slice none 0 0,.int .i64 0] 175).allocRaw #[.int .i64 0,.int .i64 0,.bool false,.slice none 0 0,.int .i64 0] 175;simp only[World.size_alloc,hrb,heb]at g1;have H:=Lib.hid g1.p2;have H1:=Lib.hid h1;have H2:=Lib.hid h2;have H3:=Lib.hid h3;have H4:=Lib.hid h4;have H5:=Lib.hid h5;clear h g1 h1 h2 h3 h4 h5;go_enter Tryz.func179,Tryz.ntmps179
 go_wp2_with (first
  |(go_at_call 66;(with_reducible refine(s_intV b i i1 p 8 H1.out H.out).mono ?_);rintro e_ wn ⟨rfl,h⟩;have f0:=h.p1.rawFree 0;have g0:=h.p1.rawCell 0;simp at g0;have h:=(show St W0 (wn.setCell ⟨eb,0,none⟩ (.int .i64 p)) K (.inp b i1::.raw eb #[.int .i64 p,.int .i64 0,.bool false,.slice none 0 0,.int .i64 0] 175::.raw rb #[.int .i64 0,.int .i64 0,.bool false,.slice none 0 0,.int .i64 0] 175::L)from(h.p1.rawSet 0 (.int .i64 p)).p1);replace H:=Lib.hid h;clear h)
  |(go_at_call 66;(with_reducible refine(s_intV b i1 i2 e 2 H2.out H.out).mono ?_);rintro e_ wn ⟨rfl,h⟩;have f1:=h.p1.rawFree 1;have g1:=h.p1.rawCell 1;simp at g1;have h:=(show St W0 (wn.setCell ⟨eb,1,none⟩ (.int .i64 e)) K (.inp b i2::.raw eb #[.int .i64 p,.int .i64 e,.bool false,.slice none 0 0,.int .i64 0] 175::.raw rb #[.int .i64 0,.int .i64 0,.bool false,.slice none 0 0,.int .i64 0] 175::L)from(h.p1.rawSet 1 (.int .i64 e)).p1);replace H:=Lib.hid h;clear h)
  |(go_at_call 178;(with_reducible refine(s_bool b i2 i3 c H3.out H.out).mono ?_);rintro e_ wn ⟨rfl,h⟩;have f2:=h.p1.rawFree 2;have g2:=h.p1.rawCell 2;simp at g2;have h:=(show St W0 (wn.setCell ⟨eb,2,none⟩ (.bool c)) K (.inp b i3::.raw eb #[.int .i64 p,.int .i64 e,.bool c,.slice none 0 0,.int .i64 0] 175::.raw rb #[.int .i64 0,.int .i64 0,.bool false,.slice none 0 0,.int .i64 0] 175::L)from(h.p1.rawSet 2 (.bool c)).p1);replace H:=Lib.hid h;clear h)
  |(go_at_call 145;(with_reducible refine(val_topics b i3 i4 tl H4.out H.out).mono ?_);rintro e_ wn ⟨v_,lr,rfl,hlr,h⟩;obtain⟨q,cap,rfl⟩:=tops_form (Know.has_right (Know.has_refl _)) h;have HLR:=Lib.hid hlr;clear hlr;have f3:=h.p1.rawFree 3;have g3:=h.p1.rawCell 3;simp at g3;have h:=(show St W0 (wn.setCell ⟨eb,3,none⟩ (.slice q lr.length cap)) (K.and (Know.tops (.slice q lr.length cap) lr)) (.inp b i4::.raw eb #[.int .i64 p,.int .i64 e,.bool c,.slice q lr.length cap,.int .i64 0] 175::.raw rb #[.int .i64 0,.int .i64 0,.bool false,.slice none 0 0,.int .i64 0] 175::L)from(h.p1.rawSet 3 (.slice q lr.length cap)).p1);replace H:=Lib.hid h;clear h)
  |(go_at_call 66;(with_reducible refine(s_intV b i4 i5 co 4 H5.out H.out).mono ?_);rintro e_ wn ⟨rfl,h⟩;have f4:=h.p1.rawFree 4;have g4:=h.p1.rawCell 4;simp at g4;have h:=(show St W0 (wn.setCell ⟨eb,4,none⟩ (.int .i64 co)) (K.and (Know.tops (.slice q lr.length cap) lr)) (.inp b i5::.raw eb #[.int .i64 p,.int .i64 e,.bool c,.slice q lr.length cap,.int .i64 co] 175::.raw rb #[.int .i64 0,.int .i64 0,.bool false,.slice none 0 0,.int .i64 0] 175::L)from(h.p1.rawSet 4 (.int .i64 co)).p1);have c0:=h.p1.rawCell 0;have d0:=h.p2.rawCell 0;have r0:=h.p2.rawFree 0;have c1:=h.p1.rawCell 1;have d1:=h.p2.rawCell 1;have r1:=h.p2.rawFree 1;have c2:=h.p1.rawCell 2;have d2:=h.p2.rawCell 2;have r2:=h.p2.rawFree 2;have c3:=h.p1.rawCell 3;have d3:=h.p2.rawCell 3;have r3:=h.p2.rawFree 3;have c4:=h.p1.rawCell 4;have d4:=h.p2.rawCell 4;have r4:=h.p2.rawFree 4;simp at c0 d0 c1 d1 c2 d2 c3 d3 c4 d4;replace H:=Lib.hid h;clear h))
 have hz:St W0 _ _ (.raw rb #[.int .i64 p,.int .i64 e,.bool c,.slice q lr.length cap,.int .i64 co] 175::.inp b i5::.raw eb #[.int .i64 p,.int .i64 e,.bool c,.slice q lr.length cap,.int .i64 co] 175::L):=(((((H.out.p2.rawSet 0 _).rawSet 1 _).rawSet 2 _).rawSet 3 _).rawSet 4 _);refine bodyPost_ret (rc_cell_only rfl _ _ rb [.int .i64 p,.int .i64 e,.bool c,.slice q lr.length cap,.int .i64 co] _ rfl (rc_range hz) Tryz.underlying175 rfl (by kernel_rfl)) rfl ?_;exact⟨q,cap,lr,rfl,HLR.out,hz.drop.p1.drop⟩

set_option maxHeartbeats 6000000 in
set_option maxRecDepth 100000 in
theorem mark_read0 (b:Nat) (v:Int) (hv:v≠1) (i i1 i2 i3 i4:InS) (p e:Int) (c:Bool) (tl:List TopS) (h1:i.int 8=(p,i1)) (h2:i1.int 2=(e,i2)) (h3:i2.boolP=(c,i3)) (h4:i3.tops=(tl,i4)){W0 w:World}{K:Know}{L:List Res}(h:St W0 w K (.inp b i::L)):
  Calls Tryz.prog 179 #[inPtr b,.int .i64 v] w fun en w'=>∃(q:Option Addr) (cap:Nat) (lr:List (TopS×Value)),en=.returned (.agg #[.int .i64 p,.int .i64 e,.bool c,.slice q lr.length cap,.int .i64 0])∧lr.map (·.1)=tl∧St W0 w' (K.and (Know.tops (.slice q lr.length cap) lr)) (.inp b i4::L):=by
 obtain⟨rb,hrb⟩:∃b,w.heap.size=b:=⟨_,rfl⟩;obtain⟨eb,heb⟩:∃b,rb+1=b:=⟨_,rfl⟩;have g1:=(h.allocRaw #[.int .i64 0,.int .i64 0,.bool false,.slice none 0 0,.int .i64 0] 175).allocRaw #[.int .i64 0,.int .i64 0,.bool false,.slice none 0 0,.int .i64 0] 175;simp only[World.size_alloc,hrb,heb]at g1;have H:=Lib.hid g1.p2;have H1:=Lib.hid h1;have H2:=Lib.hid h2;have H3:=Lib.hid h3;have H4:=Lib.hid h4;have gv:(v==1)=false:=by rw[beq_eq_false_iff_ne];exact hv
 clear h g1 h1 h2 h3 h4 hv;go_enter Tryz.func179,Tryz.ntmps179
 go_wp2_with (first
  |(go_at_call 66;(with_reducible refine(s_intV b i i1 p 8 H1.out H.out).mono ?_);rintro e_ wn ⟨rfl,h⟩;have f0:=h.p1.rawFree 0;have g0:=h.p1.rawCell 0;simp at g0;have h:=(show St W0 (wn.setCell ⟨eb,0,none⟩ (.int .i64 p)) K (.inp b i1::.raw eb #[.int .i64 p,.int .i64 0,.bool false,.slice none 0 0,.int .i64 0] 175::.raw rb #[.int .i64 0,.int .i64 0,.bool false,.slice none 0 0,.int .i64 0] 175::L)from(h.p1.rawSet 0 (.int .i64 p)).p1);replace H:=Lib.hid h;clear h)
  |(go_at_call 66;(with_reducible refine(s_intV b i1 i2 e 2 H2.out H.out).mono ?_);rintro e_ wn ⟨rfl,h⟩;have f1:=h.p1.rawFree 1;have g1:=h.p1.rawCell 1;simp at g1;have h:=(show St W0 (wn.setCell ⟨eb,1,none⟩ (.int .i64 e)) K (.inp b i2::.raw eb #[.int .i64 p,.int .i64 e,.bool false,.slice none 0 0,.int .i64 0] 175::.raw rb #[.int .i64 0,.int .i64 0,.bool false,.slice none 0 0,.int .i64 0] 175::L)from(h.p1.rawSet 1 (.int .i64 e)).p1);replace H:=Lib.hid h;clear h)
  |(go_at_call 178;(with_reducible refine(s_bool b i2 i3 c H3.out H.out).mono ?_);rintro e_ wn ⟨rfl,h⟩;have f2:=h.p1.rawFree 2;have g2:=h.p1.rawCell 2;simp at g2;have h:=(show St W0 (wn.setCell ⟨eb,2,none⟩ (.bool c)) K (.inp b i3::.raw eb #[.int .i64 p,.int .i64 e,.bool c,.slice none 0 0,.int .i64 0] 175::.raw rb #[.int .i64 0,.int .i64 0,.bool false,.slice none 0 0,.int .i64 0] 175::L)from(h.p1.rawSet 2 (.bool c)).p1);replace H:=Lib.hid h;clear h)
  |(go_at_call 145;(with_reducible refine(val_topics b i3 i4 tl H4.out H.out).mono ?_);rintro e_ wn ⟨v_,lr,rfl,hlr,h⟩;obtain⟨q,cap,rfl⟩:=tops_form (Know.has_right (Know.has_refl _)) h;have HLR:=Lib.hid hlr;clear hlr;have f3:=h.p1.rawFree 3;have g3:=h.p1.rawCell 3;simp at g3;have h:=(show St W0 (wn.setCell ⟨eb,3,none⟩ (.slice q lr.length cap)) (K.and (Know.tops (.slice q lr.length cap) lr)) (.inp b i4::.raw eb #[.int .i64 p,.int .i64 e,.bool c,.slice q lr.length cap,.int .i64 0] 175::.raw rb #[.int .i64 0,.int .i64 0,.bool false,.slice none 0 0,.int .i64 0] 175::L)from(h.p1.rawSet 3 (.slice q lr.length cap)).p1);have c0:=h.p1.rawCell 0;have d0:=h.p2.rawCell 0;have r0:=h.p2.rawFree 0;have c1:=h.p1.rawCell 1;have d1:=h.p2.rawCell 1;have r1:=h.p2.rawFree 1;have c2:=h.p1.rawCell 2;have d2:=h.p2.rawCell 2;have r2:=h.p2.rawFree 2;have c3:=h.p1.rawCell 3;have d3:=h.p2.rawCell 3;have r3:=h.p2.rawFree 3;have c4:=h.p1.rawCell 4;have d4:=h.p2.rawCell 4;have r4:=h.p2.rawFree 4;simp at c0 d0 c1 d1 c2 d2 c3 d3 c4 d4;replace H:=Lib.hid h;clear h))
 have hz:St W0 _ _ (.raw rb #[.int .i64 p,.int .i64 e,.bool c,.slice q lr.length cap,.int .i64 0] 175::.inp b i4::.raw eb #[.int .i64 p,.int .i64 e,.bool c,.slice q lr.length cap,.int .i64 0] 175::L):=(((((H.out.p2.rawSet 0 _).rawSet 1 _).rawSet 2 _).rawSet 3 _).rawSet 4 _);refine bodyPost_ret (rc_cell_only rfl _ _ rb [.int .i64 p,.int .i64 e,.bool c,.slice q lr.length cap,.int .i64 0] _ rfl (rc_range hz) Tryz.underlying175 rfl (by kernel_rfl)) rfl ?_;exact⟨q,cap,lr,rfl,HLR.out,hz.drop.p1.drop⟩
set_option maxHeartbeats 8000000 in
set_option maxRecDepth 100000 in
theorem mark_check1 (v p e:Int) (c:Bool) (l:List (TopS×Value)) (q:Option Addr) (cap:Nat) (co:Int) (r:Int) (hr:mErr v p e (l.map (·.1)) co=r) (hf:FewT l){W0 w:World}{K:Know}{L:List Res}(hk:K.has (Know.tops (.slice q l.length cap) l)) (h:St W0 w K L):
  Calls Tryz.prog 212 #[.agg #[.int .i64 p,.int .i64 e,.bool c,.slice q l.length cap,.int .i64 co],.int .i64 v] w fun en w'=>en=.returned (.int .i64 r)∧St W0 w' K L:=by
 have H:=Lib.hid (h.allocRaw #[.int .i64 p,.int .i64 e,.bool c,.slice q l.length cap,.int .i64 co] 175);have HF:=Lib.hid hf;have HK:=Lib.hid hk;unfold mErr at hr;obtain⟨a,ha⟩:∃a,who p e=a:=⟨_,rfl⟩;have HW:=Lib.hid ha;rw[ha]at hr;clear h hf hk
 cases a with
 |false=>
  obtain rfl:(11:Int)=r:=hr;clear ha;go_enter Tryz.func212,Tryz.ntmps212
  go_wp2_with (first
  |(go_at_call 241;(with_reducible refine(txn_who p e _ HW.out H.out).mono ?_);rintro e_ wn ⟨rfl,h⟩;have c0:=h.rawCell 0;have c1:=h.rawCell 1;have c2:=h.rawCell 2;have c3:=h.rawCell 3;have c4:=h.rawCell 4;simp at c0 c1 c2 c3 c4;replace H:=Lib.hid h;clear h))
  go_ret;exact⟨rfl,H.out.drop⟩
 |true=>
  rw[if_neg (by decide)]at hr;clear ha
  by_cases h4:co<0
  · rw[if_pos (.inl h4)]at hr;subst hr;go_enter Tryz.func212,Tryz.ntmps212
    go_wp2_with (first
  |(go_at_call 241;(with_reducible refine(txn_who p e _ HW.out H.out).mono ?_);rintro e_ wn ⟨rfl,h⟩;have c0:=h.rawCell 0;have c1:=h.rawCell 1;have c2:=h.rawCell 2;have c3:=h.rawCell 3;have c4:=h.rawCell 4;simp at c0 c1 c2 c3 c4;replace H:=Lib.hid h;clear h))
    go_ret;exact⟨rfl,H.out.drop⟩
  by_cases h5:2147483647<co
  · rw[if_pos (.inr h5)]at hr;subst hr;go_enter Tryz.func212,Tryz.ntmps212
    go_wp2_with (first
  |(go_at_call 241;(with_reducible refine(txn_who p e _ HW.out H.out).mono ?_);rintro e_ wn ⟨rfl,h⟩;have c0:=h.rawCell 0;have c1:=h.rawCell 1;have c2:=h.rawCell 2;have c3:=h.rawCell 3;have c4:=h.rawCell 4;simp at c0 c1 c2 c3 c4;replace H:=Lib.hid h;clear h))
    go_ret;exact⟨rfl,H.out.drop⟩
  rw[if_neg (by omega)]at hr
  by_cases h6:v=0
  · subst h6
    cases hc:(co==0)with
    |true=>
     have hc2:(co !=0)=false:=by simp[bne,hc]
     rw[if_neg (by simp at hc;omega)]at hr;have HE:=Lib.hid hr;clear hr;go_enter Tryz.func212,Tryz.ntmps212
     go_wp2_with (first
  |(go_at_call 241;(with_reducible refine(txn_who p e _ HW.out H.out).mono ?_);rintro e_ wn ⟨rfl,h⟩;have c0:=h.rawCell 0;have c1:=h.rawCell 1;have c2:=h.rawCell 2;have c3:=h.rawCell 3;have c4:=h.rawCell 4;simp at c0 c1 c2 c3 c4;replace H:=Lib.hid h;clear h)
  | (go_at_call 211; (with_reducible refine (txn_rise l q cap r HE.out HF.out HK.out H.out).mono ?_); rintro e_ wn ⟨rfl, h⟩; replace H := Lib.hid h; clear h))
     go_ret;exact⟨rfl,H.out.drop⟩
    |false=>
     have hc2:(co !=0)=true:=by simp[bne,hc]
     rw[if_pos ⟨rfl,by simpa using hc⟩]at hr;subst hr;go_enter Tryz.func212,Tryz.ntmps212
     go_wp2_with (first
  | (go_at_call 241; (with_reducible refine (txn_who p e _ HW.out H.out).mono ?_); rintro e_ wn ⟨rfl, h⟩; have c0 := h.rawCell 0; have c1 := h.rawCell 1; have c2 := h.rawCell 2; have c3 := h.rawCell 3; have c4 := h.rawCell 4; simp at c0 c1 c2 c3 c4; replace H := Lib.hid h; clear h))
     go_ret;exact⟨rfl,H.out.drop⟩
  · have hv:(v==0)=false:=by rw[beq_eq_false_iff_ne];exact h6
    rw[if_neg (by omega)]at hr;clear h6;have HE:=Lib.hid hr;clear hr;go_enter Tryz.func212,Tryz.ntmps212
    go_wp2_with (first
  |(go_at_call 241;(with_reducible refine(txn_who p e _ HW.out H.out).mono ?_);rintro e_ wn ⟨rfl,h⟩;have c0:=h.rawCell 0;have c1:=h.rawCell 1;have c2:=h.rawCell 2;have c3:=h.rawCell 3;have c4:=h.rawCell 4;simp at c0 c1 c2 c3 c4;replace H:=Lib.hid h;clear h)
  |(go_at_call 211;(with_reducible refine(txn_rise l q cap r HE.out HF.out HK.out H.out).mono ?_);rintro e_ wn ⟨rfl,h⟩;replace H:=Lib.hid h;clear h))
    go_ret;exact⟨rfl,H.out.drop⟩
set_option maxHeartbeats 4000000 in
set_option maxRecDepth 100000 in
theorem marks_check (v:Int) (l:List MarkR) (q:Option Addr) (cap:Nat) (r:Int) (hr:marksErr v (l.map MarkR.m)=r) (hf:∀x∈l,x.Fit) (hn:l.length≤1000000){W0 w:World}{K:Know}{L:List Res}(hk:K.has (Know.marks (.slice q l.length cap) l)) (h:St W0 w K L):
   Calls Tryz.prog 161 #[.slice q l.length cap,.int .i64 v] w fun en w'=>en=.returned (.int .i64 r)∧St W0 w' K L:=by
 have H:=Lib.hid h;have HK:=Lib.hid hk;have HF:=Lib.hid hf;have hni:(l.length:Int)≤1000000:=by omega
 unfold marksErr at hr;clear h hk hf
 by_cases h0:l=[]
 · subst h0;obtain rfl:(10:Int)=r:=hr;go_enter Tryz.func161,Tryz.ntmps161;go_wp2;go_ret;exact⟨rfl,H.out⟩
 rw[if_neg (by rw[List.map_eq_nil_iff];exact h0)]at hr
 have g0:((l.length:Int)==0)=false:=by
   rw[beq_eq_false_iff_ne];have:=List.length_pos_iff.2 h0
   omega
 have HR:=Lib.hid hr;clear hr h0;go_enter Tryz.func161,Tryz.ntmps161;go_wp2;go_loopw [6,7,13] (fun _ _ iv wr=>∃k:Nat,k≤l.length∧iv=.int .i64 k∧Hid (msE v ((l.map MarkR.m).drop k)=r)∧St W0 wr K L) (fun _ _ iv _=>l.length - (intOf iv).toNat)
 case atStart=>exact⟨0,Nat.zero_le _,rfl,Lib.hid (by rw[List.drop_zero];exact HR.out),H.out⟩
 case round=>
   obtain⟨k,hkl,rfl,HM,hst⟩:=hrel;clear H;have H:=Lib.hid hst;clear hst
   by_cases hlt:k<l.length
   · as_aux_lemma=>
     obtain⟨b0,off,hqq⟩:=marks_at HK.out H.out (by omega);subst hqq;obtain⟨x,hx⟩:∃x,l[k]=x:=⟨_,rfl⟩;have hmem:x∈l:=hx ▸ List.getElem_mem hlt;have hxk:=marks_tops HK.out hmem;have hcell:=marks_cell HK.out H.out k hlt x hx;have hmk:k<(l.map MarkR.m).length:=by rw[List.length_map];exact hlt
     have hmg:(l.map MarkR.m)[k]=x.m:=by rw[List.getElem_map,hx]
     obtain⟨hxl,hxf,hxr⟩:=HF.out x hmem;obtain⟨⟨p,e,c,tl,co⟩,xl,xq,xcap⟩:=x;obtain⟨c0,c1,c2,c3,c4⟩:wr.cell? ⟨b0,off+k*5,none⟩=some (.int .i64 p)∧wr.cell? ⟨b0,off+k*5+1,none⟩=some (.int .i64 e)∧wr.cell? ⟨b0,off+k*5+2,none⟩=some (.bool c)∧wr.cell? ⟨b0,off+k*5+3,none⟩=some (.slice xq xl.length xcap)∧wr.cell? ⟨b0,off+k*5+4,none⟩=some (.int .i64 co):=hcell;have HXK:=Lib.hid (show K.has (Know.tops (.slice xq xl.length xcap) xl)from hxk);have HXL:=Lib.hid (show xl.map (·.1)=tl from hxl);have HXF:=Lib.hid (show FewT xl from hxf);have hkn:(k:Int)<(l.length:Int):=by omega
     obtain⟨tb,htb⟩:∃b,wr.heap.size=b:=⟨_,rfl⟩;have h:=H.out.allocRaw #[.int .i64 p,.int .i64 e,.bool c,.slice xq xl.length xcap,.int .i64 co] 175;rw[htb]at h;obtain⟨r1,hr1⟩:∃r1,mErr v p e tl co=r1:=⟨_,rfl⟩;have HR1:=Lib.hid (show mErr v p e (xl.map fun y=>y.1) co=r1 by rw[show(xl.map fun y=>y.1)=tl from hxl];exact hr1);have hme:((l.map MarkR.m)[k]).err v=r1:=by rw[hmg];exact hr1
     have d0:=h.rawCell 0;have d1:=h.rawCell 1;have d2:=h.rawCell 2;have d3:=h.rawCell 3;have d4:=h.rawCell 4;simp at d0 d1 d2 d3 d4;clear H;have H:=Lib.hid h;clear h
     by_cases h1:r1=0
     · have HN:=Lib.hid ((msE_step v _ k hmk (by rw[hme];exact h1)).symm.trans HM.out);subst h1;clear hx hmem hxk hmk hmg hxl hxf hxr hr1 hme;go_wp2_with (go_at_call 212;(with_reducible refine(mark_check1 v p e c xl xq xcap co _ HR1.out HXF.out HXK.out H.out).mono ?_);rintro e_ wn ⟨rfl,h⟩;replace H:=Lib.hid h;clear h);go_roundw
       case rel=>exact⟨k+1,hlt,by go_num,HN,H.out.drop⟩
       case measure=>first|(simp[intOf];done)|(simp[intOf];omega)
     · have hb:=(msE_bad v _ k hmk (by rw[hme];exact h1)).symm.trans HM.out;rw[hme]at hb;have g1:(r1==0)=false:=by rw[beq_eq_false_iff_ne];exact h1
       have g2:(r1 !=0)=true:=by simp[bne,g1]
       have HB:=Lib.hid hb;clear hx hmem hxk hmk hmg hxl hxf hxr hr1 hme hb h1;go_wp2_with (go_at_call 212;(with_reducible refine(mark_check1 v p e c xl xq xcap co _ HR1.out HXF.out HXK.out H.out).mono ?_);rintro e_ wn ⟨rfl,h⟩;replace H:=Lib.hid h;clear h);go_ret;exact⟨by rw[HB.out];rfl,H.out.drop⟩
   · obtain rfl:k=l.length:=by omega
     have hz:=HM.out;rw[List.drop_of_length_le (by rw[List.length_map];exact Nat.le_refl _)]at hz;obtain rfl:(0:Int)=r:=hz;go_wp2;go_ret;exact⟨rfl,H.out⟩
theorem elem_mk:ElemT Tryz.prog 175 (.agg #[.int .i64 0,.int .i64 0,.bool false,.slice none 0 0,.int .i64 0]) 5 56:=elemT_of (by kernel_rfl) rfl (by decide)
def mcells (x:MarkR):List Value:=[.int .i64 x.m.prod,.int .i64 x.m.epoch,.bool x.m.commit,.slice x.q x.l.length x.cap,.int .i64 x.m.coord]
theorem marks_know {K:Know}{v:Value}{l:List MarkR}(h1:K.has (Know.flat RMark v 5 l)) (h2:∀x∈l,K.has (Know.tops (.slice x.q x.l.length x.cap) x.l)):K.has (Know.marks v l):=fun w F h=>⟨h1 w F h,fun x hx=>h2 x hx w F h⟩
theorem marks_nil (K:Know):K.has (Know.marks (.slice none 0 0) []):=marks_know (know_nil0 RMark 5 K) (fun x hx=>by cases hx)
theorem St.freezeMarks {W0 w:World}{K:Know}{L:List Res}{v:Value}{T:TypeId}{l:List MarkR}(h:St W0 w K (.row v T 5 l.length (l.flatMap mcells)::L)) (ht:∀x∈l,K.has (Know.tops (.slice x.q x.l.length x.cap) x.l)):St W0 w (K.and (Know.marks v l)) L:=by
 have hf:=h.freezeRow (R:=RMark) (fun x _=>⟨rfl,rfl⟩);exact hf.know (K':=K.and (Know.marks v l)) (fun w F hh=>⟨hh.1,hh.2,fun x hx=>ht x hx _ _ hh.1⟩)
theorem mark_readV (b:Nat) (v:Int) (i j:InS) (m:MarkS) (hx:i.mark1 v=(m,j)){W0 w:World}{K:Know}{L:List Res}(h:St W0 w K (.inp b i::L)):
   Calls Tryz.prog 179 #[inPtr b,.int .i64 v] w fun en w'=>∃(q:Option Addr) (cap:Nat) (lr:List (TopS×Value)),en=.returned (.agg #[.int .i64 m.prod,.int .i64 m.epoch,.bool m.commit,.slice q lr.length cap,.int .i64 m.coord])∧lr.map (·.1)=m.tops∧St W0 w' (K.and (Know.tops (.slice q lr.length cap) lr)) (.inp b j::L):=by
 obtain⟨⟨p,i1⟩,h1⟩:∃r,i.int 8=r:=⟨_,rfl⟩;obtain⟨⟨e,i2⟩,h2⟩:∃r,i1.int 2=r:=⟨_,rfl⟩;obtain⟨⟨c,i3⟩,h3⟩:∃r,i2.boolP=r:=⟨_,rfl⟩;obtain⟨⟨tl,i4⟩,h4⟩:∃r,i3.tops=r:=⟨_,rfl⟩;unfold InS.mark1 at hx;rw[h1]at hx;simp only at hx;rw[h2]at hx;simp only at hx;rw[h3]at hx;simp only at hx;rw[h4]at hx;simp only at hx
 by_cases hv:v=1
 · subst hv;rw[if_pos rfl]at hx;obtain⟨⟨co,i5⟩,h5⟩:∃r,i4.int 4=r:=⟨_,rfl⟩;rw[h5]at hx;simp only[Prod.mk.injEq]at hx;obtain⟨rfl,rfl⟩:=hx;exact mark_read1 b i i1 i2 i3 i4 i5 p e c tl co h1 h2 h3 h4 h5 h
 · rw[if_neg hv]at hx;simp only[Prod.mk.injEq]at hx;obtain⟨rfl,rfl⟩:=hx;exact mark_read0 b v hv i i1 i2 i3 i4 p e c tl h1 h2 h3 h4 h

set_option maxHeartbeats 8000000 in
set_option maxRecDepth 100000 in
theorem mark_readAll (b:Nat) (v:Int) (i j:InS) (l:List MarkS) (hx:i.marks v=(l,j)) (hl:∀m∈(InS.marksN v (i.cnt 15).1 [] (i.cnt 15).2).1,m.R∧FewL m.tops) (hln:(InS.marksN v (i.cnt 15).1 [] (i.cnt 15).2).1.length≤1000000){W0 w:World}{K:Know}{L:List Res}(h:St W0 w K (.inp b i::L)):
  Calls Tryz.prog 122 #[inPtr b,.int .i64 v] w fun en w'=>∃(q:Option Addr) (cap:Nat) (lr:List MarkR),en=.returned (.slice q lr.length cap)∧lr.map MarkR.m=l∧(∀x∈lr,x.Fit)∧St W0 w' (K.and (Know.marks (.slice q lr.length cap) lr)) (.inp b j::L):=by
 obtain⟨⟨n,c⟩,hc⟩:∃r,i.cnt 15=r:=⟨_,rfl⟩;have hnl:=(cnt_nat i 15).2;rw[hc]at hnl hl hln;obtain⟨⟨lf,jf⟩,hN⟩:∃r,InS.marksN v n [] c=r:=⟨_,rfl⟩
 have hx2:(if jf.err=0 then(if marksErr v lf=0 then(lf,jf)else([],jf.fail (marksErr v lf)))else([],jf))=(l,j):=by
  rw[←hx];unfold InS.marks;rw[hc];simp only;rw[hN]
 simp only at hl hln;rw[hN]at hl hln;have HC:=Lib.hid hc;have HN:=Lib.hid hN;have HX:=Lib.hid hx2;have HLL:=Lib.hid hl;have HLN:=Lib.hid hln;have HNL:=Lib.hid hnl;have H:=Lib.hid h;have hni:(n:Int)≤2147483647:=by simp only at hnl;omega
 clear h hx hc hx2 hnl hN hl hln;go_enter Tryz.func122,Tryz.ntmps122;go_wp2_with (go_at_call 174;(with_reducible refine(s_cntV b i c 15 n 15 rfl HC.out H.out).mono ?_);rintro e_ wn ⟨rfl,h⟩;replace H:=Lib.hid h;clear h);go_loopw [5,9] (fun lv iv wr=>∃(k:Nat) (i2:InS) (acc:List MarkR) (K2:Know),k≤n∧iv=.int .i64 k∧Hid (acc.length=k)∧Hid (InS.marksN v (n - k) (acc.map MarkR.m) i2=(lf,jf))∧Hid (K2.has K)∧Hid (∀x∈acc,K2.has (Know.tops (.slice x.q x.l.length x.cap) x.l))∧Hid (∀x∈acc,x.l.map (·.1)=x.m.tops)∧St W0 wr K2 (.row lv 175 5 acc.length (acc.flatMap mcells)::.inp b i2::L)) (fun _ iv _=>n - (intOf iv).toNat)
 case atStart=>exact⟨0,c,[],K,Nat.zero_le _,rfl,Lib.hid rfl,Lib.hid HN.out,Lib.hid (Know.has_refl _),Lib.hid (fun x hx=>by cases hx),Lib.hid (fun x hx=>by cases hx),H.out.nilRow 175 5⟩
 case round=>
  obtain⟨k,i2,acc,K2,hk,rfl,HAL,HP,HKK,HALL,HTL,hst⟩:=hrel;clear H;have H:=Lib.hid hst;clear hst
  by_cases hlt:k<n
  · obtain⟨⟨⟨p,e,c,tl,co⟩,i3⟩,hi3⟩:∃r,i2.mark1 v=r:=⟨_,rfl⟩;obtain⟨er,her⟩:∃er,i3.err=er:=⟨_,rfl⟩;have HM:=Lib.hid hi3;have HER:=Lib.hid her
    have hstep:(if er=0 then InS.marksN v (n - (k+1)) (acc.map MarkR.m++[⟨p,e,c,tl,co⟩]) i3 else([],i3))=(lf,jf):=by
      have h1:=HP.out;rw[show n - k=(n - (k+1))+1 by omega]at h1;have h2:(if (i2.mark1 v).2.err=0 then InS.marksN v (n - (k+1)) (acc.map MarkR.m++[(i2.mark1 v).1]) (i2.mark1 v).2 else([],(i2.mark1 v).2))=(lf,jf):=h1;rw[hi3]at h2;simp only at h2;rw[her]at h2;exact h2
    have HAB:=Lib.hid (show acc.length≤2147483647 by have:=HAL.out;have:=HNL.out;omega);have hkn:(k:Int)<(n:Int):=by omega
    clear hi3 her
    by_cases he0:er=0
    · rw[if_pos he0]at hstep;have HP2:=Lib.hid hstep;subst he0;clear hstep
      go_wp2_with (first
  |(go_at_call 179;(with_reducible refine(mark_readV b v i2 i3 ⟨p,e,c,tl,co⟩ HM.out H.out.p1).mono ?_);rintro e_ wn ⟨xq,xcap,xl,rfl,hxl,h⟩;have HXL:=Lib.hid hxl;clear hxl;have h:=h.p1;replace H:=Lib.hid h;clear h)
  |(at_builtin;refine wpl_app1_st rfl _ _ 33 rfl 175 Tryz.underlying33 elem_mk _ _ _ rfl H.out [.int .i64 p,.int .i64 e,.bool c,.slice xq xl.length xcap,.int .i64 co] 175 rfl rfl (by simp[Value.oneCell']) zq34 (by have:=HAB.out;omega) ?_;intro v' w' h;have h:=h.p1;replace H:=Lib.hid h;clear h)
  |(go_at_call 22;(with_reducible refine(s_errV b _ _ HER.out H.out).mono ?_);rintro e_ wn ⟨rfl,h⟩;have h:=h.p1;replace H:=Lib.hid h;clear h))
      go_roundw
      case rel=>exact⟨k+1,i3,acc++[⟨⟨p,e,c,tl,co⟩,xl,xq,xcap⟩],K2.and (Know.tops (.slice xq xl.length xcap) xl),hlt,by go_num,Lib.hid (by rw[List.length_append,HAL.out];rfl),Lib.hid (by rw[List.map_append];exact HP2.out),Lib.hid (Know.has_trans (Know.has_left (Know.has_refl _)) HKK.out),Lib.hid (fun x hx=>by
        rcases List.mem_append.1 hx with hx|hx
        · exact Know.has_left (HALL.out x hx)
        · rw[List.mem_singleton.1 hx];exact Know.has_right (Know.has_refl _)),Lib.hid (fun x hx=>by
        rcases List.mem_append.1 hx with hx|hx
        · exact HTL.out x hx
        · rw[List.mem_singleton.1 hx];exact HXL.out),by rw[List.length_append,List.flatMap_append];exact H.out⟩
      case measure=>first|(simp[intOf];done)|(simp[intOf];omega)
    · rw[if_neg he0]at hstep;simp only[Prod.mk.injEq]at hstep;obtain⟨hlf,hjf⟩:=hstep;have hx:=HX.out;rw[←hjf,HER.out,if_neg he0]at hx;simp only[Prod.mk.injEq]at hx;obtain⟨hl0,hj0⟩:=hx;have gz:(er==0)=false:=by rw[beq_eq_false_iff_ne];exact he0
      have gz3:(er !=0)=true:=by simp[bne,gz]
      have HL0:=Lib.hid hl0;have HJ0:=Lib.hid hj0;clear he0 hlf hjf hl0 hj0
      go_wp2_with (first
  |(go_at_call 179;(with_reducible refine(mark_readV b v i2 i3 ⟨p,e,c,tl,co⟩ HM.out H.out.p1).mono ?_);rintro e_ wn ⟨xq,xcap,xl,rfl,hxl,h⟩;have HXL:=Lib.hid hxl;clear hxl;have h:=h.p1;replace H:=Lib.hid h;clear h)
  |(at_builtin;refine wpl_app1_st rfl _ _ 33 rfl 175 Tryz.underlying33 elem_mk _ _ _ rfl H.out [.int .i64 p,.int .i64 e,.bool c,.slice xq xl.length xcap,.int .i64 co] 175 rfl rfl (by simp[Value.oneCell']) zq34 (by have:=HAB.out;omega) ?_;intro v' w' h;have h:=h.p1;replace H:=Lib.hid h;clear h)
  |(go_at_call 22;(with_reducible refine(s_errV b _ _ HER.out H.out).mono ?_);rintro e_ wn ⟨rfl,h⟩;replace H:=Lib.hid h;clear h))
      go_ret;exact⟨none,0,[],rfl,HL0.out,(fun x hx=>by cases hx),by rw[←HJ0.out];exact(H.out.p1.drop).know (Know.has_and (Know.has_trans (Know.has_left (Know.has_refl _)) HKK.out) (marks_nil _))⟩
  · obtain rfl:k=n:=by omega
    have hp:=HP.out;rw[Nat.sub_self]at hp;have hp:(acc.map MarkR.m,i2)=(lf,jf):=hp;simp only[Prod.mk.injEq]at hp;obtain⟨rfl,rfl⟩:=hp;obtain⟨er,her⟩:∃er,i2.err=er:=⟨_,rfl⟩;have HER:=Lib.hid her;have hx:=HX.out;rw[her]at hx;have HFIT:=Lib.hid (show ∀x∈acc,x.Fit from fun x hx=>⟨HTL.out x hx,fewT_of (by rw[HTL.out x hx];exact(HLL.out x.m (List.mem_map_of_mem hx)).2),(HLL.out x.m (List.mem_map_of_mem hx)).1⟩);have HAN:=Lib.hid (show acc.length≤1000000 by have:=HLN.out;rwa [List.length_map]at this);have hf:=H.out.freezeMarks HALL.out;have hf:=hf.know (K':=K.and (Know.marks _ acc)) (fun w F hh=>⟨HKK.out _ _ hh.1,hh.2⟩);obtain⟨q,cap,rfl⟩:=marks_form (Know.has_right (Know.has_refl _)) hf;clear H;have H:=Lib.hid hf;clear hf
    by_cases he0:er=0
    · subst he0;rw[if_pos rfl]at hx;obtain⟨r,hr⟩:∃r,marksErr v (acc.map MarkR.m)=r:=⟨_,rfl⟩;have HR:=Lib.hid hr;rw[hr]at hx
      by_cases h0:r=0
      · subst h0;rw[if_pos rfl]at hx;simp only[Prod.mk.injEq]at hx;obtain⟨hl0,hj0⟩:=hx;have HL0:=Lib.hid hl0;have HJ0:=Lib.hid hj0;clear hl0 hj0 hr her
        go_wp2_with (first
  |(go_at_call 161;(with_reducible refine(marks_check v acc q cap _ HR.out HFIT.out HAN.out (Know.has_right (Know.has_refl _)) H.out).mono ?_);rintro e_ wn ⟨rfl,h⟩;replace H:=Lib.hid h;clear h)
  |(go_at_call 22;(with_reducible refine(s_errV b _ _ HER.out H.out).mono ?_);rintro e_ wn ⟨rfl,h⟩;replace H:=Lib.hid h;clear h))
        go_ret;exact⟨q,cap,acc,rfl,HL0.out,HFIT.out,by rw[←HJ0.out];exact H.out⟩
      · rw[if_neg h0]at hx;simp only[Prod.mk.injEq]at hx;obtain⟨hl0,hj0⟩:=hx;have HL0:=Lib.hid hl0;have HJ0:=Lib.hid hj0;have HER2:=Lib.hid (show j.err=r by rw[←hj0];unfold InS.fail;rw[if_pos her]);have gz:(r==0)=false:=by rw[beq_eq_false_iff_ne];exact h0
        have gz3:(r !=0)=true:=by simp[bne,gz]
        clear hl0 hj0 hr her h0
        go_wp2_with (first
  |(go_at_call 161;(with_reducible refine(marks_check v acc q cap _ HR.out HFIT.out HAN.out (Know.has_right (Know.has_refl _)) H.out).mono ?_);rintro e_ wn ⟨rfl,h⟩;replace H:=Lib.hid h;clear h)
  |(go_at_call 70;(with_reducible refine(s_failV b _ _ _ HJ0.out H.out).mono ?_);rintro e_ wn ⟨rfl,h⟩;replace H:=Lib.hid h;clear h)
  |(go_at_call 22;(with_reducible refine(s_errV b _ _ HER.out H.out).mono ?_);rintro e_ wn ⟨rfl,h⟩;replace H:=Lib.hid h;clear h)
  |(go_at_call 22;(with_reducible refine(s_errV b _ _ HER2.out H.out).mono ?_);rintro e_ wn ⟨rfl,h⟩;replace H:=Lib.hid h;clear h))
        go_ret;exact⟨none,0,[],rfl,HL0.out,(fun x hx=>by cases hx),H.out.know (Know.has_and (Know.has_left (Know.has_refl _)) (marks_nil _))⟩
    · rw[if_neg he0]at hx;simp only[Prod.mk.injEq]at hx;obtain⟨hl0,hj0⟩:=hx;have gz:(er==0)=false:=by rw[beq_eq_false_iff_ne];exact he0
      have gz3:(er !=0)=true:=by simp[bne,gz]
      have HL0:=Lib.hid hl0;have HJ0:=Lib.hid hj0;clear he0 hl0 hj0 her
      go_wp2_with (first
  |(go_at_call 22;(with_reducible refine(s_errV b _ _ HER.out H.out).mono ?_);rintro e_ wn ⟨rfl,h⟩;replace H:=Lib.hid h;clear h))
      go_ret;exact⟨none,0,[],rfl,HL0.out,(fun x hx=>by cases hx),by rw[←HJ0.out];exact H.out.know (Know.has_and (Know.has_left (Know.has_refl _)) (marks_nil _))⟩

end Go.Proofs.YteldcbljedeeiaaGreatDoor
