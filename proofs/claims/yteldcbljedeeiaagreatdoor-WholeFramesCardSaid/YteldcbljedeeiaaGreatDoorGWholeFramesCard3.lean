/- A text. -/
import Derived.Test.YteldcbljedeeiaaGreatDoorGWholeFramesCard2
import Derived.Deep.RegionHeld3
import Derived.Deep.DeepCutAuto
/- A text. -/
namespace Go.Proofs.YteldcbljedeeiaaGreatDoor
open Go.RowKit
set_option maxRecDepth 100000
set_option maxHeartbeats 8000000
open Go.Value renaming bool→U, string→Z, slice→V, int→I, pointer→Ja
open Go.Ending renaming returned→Y
open Go.IntKind renaming i64→O
open _root_.Go.Proofs.Tryz renaming prog→Jb
open _root_.Nat renaming zero_le→Jd, add_assoc→Jm
open _root_.List renaming take_succ_eq_append_getElem→Jf, length_cons→Jn, length_append→Jc, append_nil→Jp, length_drop→Jh, drop_drop→Jk, append_assoc→Je, flatMap_cons→Jg, getElem_mem→Ji, length_map→Jj, take→Jl, drop→Jo
def InS.ints:List Nat→InS→List Int×InS
 |[],i=>([],i)
 |k::t,i=>((i.int k).1::(InS.ints t (i.int k).2).1,(InS.ints t (i.int k).2).2)
def zBD:List Nat→Bs→List Int
 |[],_=>[]
 |k::t,s=>sInt (s.take k)::zBD t (s.drop k)
theorem zTc(k:Nat)(h1:1≤k)(h8:k≤8)(s:Bs)(pos:Nat)(hp:pos+k≤s.length):(⟨s,pos,0⟩:InS).int k=(sInt ((s.drop pos).take k),⟨s,pos+k,0⟩):=by
 have h:=(zAW k h1 h8).ok s pos (sInt ((s.drop pos).take k)) k oM (by unfold zAJ;rw[if_neg (by rw[Jh];omega)]);exact h.2
theorem zQp:∀(l:List Nat) (s:Bs) (pos:Nat),(∀k∈l,1≤k∧k≤8)→pos+l.sum≤s.length→InS.ints l ⟨s,pos,0⟩=(zBD l (s.drop pos),⟨s,pos+l.sum,0⟩)
 |[],s,pos,_,_=>by simp[InS.ints,zBD]
 |k::t,s,pos,hk,hp=>by
  have h1:=hk k sM;rw[List.sum_cons]at hp;have h2:=zTc k h1.1 h1.2 s pos oM;have h3:=zQp t s (pos+k) (fun x hx=>hk x (by simp[hx])) oM;unfold InS.ints zBD;rw[h2];simp only;rw[h3,Jk,List.sum_cons,Jm]
def OutS.ints (o:OutS) (l:List (Int×Nat)):OutS:=l.foldl (fun o x=>o.int x.1 x.2) o
def zAt (l:List (Int×Nat)):Bs:=l.flatMap fun x=>zAa x.1 x.2
def FitsAll (l:List (Int×Nat)):Prop:=∀x∈l,fits x.1 x.2
instance (l:List (Int×Nat)):Decidable (FitsAll l):=by unfold FitsAll;infer_instance
theorem OutS.put_err{o:OutS}(h:o.err≠0)(s:Bs):o.put s=o:=if_neg h
theorem OutS.fail_stuck{o:OutS}(h:o.err≠0)(e:Int):o.fail e=o:=if_neg h
theorem OutS.int_stuck{o:OutS}(h:o.err≠0)(n k:Int):o.int n k=o:=by
 unfold OutS.int;split
 ·exact OutS.put_err h _
 ·exact OutS.fail_stuck h _
theorem OutS.ints_put:∀(l:List (Int×Nat)) (o:OutS),FitsAll l→o.ints l=o.put (zAt l)
 |[],o,_=>by show o=o.put [];rw[OutS.put_nil]
 |x::t,o,h=>by
  show OutS.ints (o.int x.1 x.2) t=_
  rw[OutS.ints_put t _ (fun y hy=>h y (by simp[hy]))];unfold OutS.int;rw[if_pos (h x sM),OutS.put_put,Int.toNat_natCast]
  rfl
theorem zDP(l:List (Int×Nat)):(zAt l).length=(l.map (·.2)).sum:=by
 induction l with
 |nil=>rfl
 |cons x t ih=>unfold zAt at*;rw[Jg,Jc,zAb,ih];rfl
theorem zIa:∀(l:List (Int×Nat)) (rest:Bs),FitsAll l→zBD (l.map (·.2)) (zAt l++rest)=l.map (·.1)
 |[],_,_=>rfl
 |x::t,rest,h=>by
  have h1:=h x sM;have hs:1≤x.2:=by have:=h1.1;omega
  have h2:=zIa t rest (fun y hy=>h y (by simp[hy]));have e:zAt (x::t)=zAa x.1 x.2++zAt t:=rfl
  have h3:(zAa x.1 x.2++(zAt t++rest)).take x.2=zAa x.1 x.2:=by
   have h4:=zAb x.1 x.2;rw[List.take_append_of_le_length oM,List.take_of_length_le oM]
  have h4:(zAa x.1 x.2++(zAt t++rest)).drop x.2=zAt t++rest:=by
   rw[List.drop_left' (zAb x.1 x.2)]
  have hfit:=h1.2.2;rw[Int.toNat_natCast]at hfit
  show zBD (x.2::t.map (·.2)) (zAt (x::t)++rest)=x.1::t.map (·.1)
  rw[e,Je];unfold zBD;rw[h3,h4,(zAB x.1 x.2 hs).2 hfit,h2]
theorem zGe(s:Bs)(k:Nat)(h1:1≤k)(h8:k≤8)(hl:s.length=k):fits (sInt s) k:=by
 have h:=zFG s;have h2:sInt (zAa (sInt s) k)=sInt s:=by rw[←hl,h]
 have h3:=(zAB (sInt s) k h1).1 h2;refine⟨oM,oM,?_⟩;rw[Int.toNat_natCast];exact h3
theorem zId:∀(l:List Nat) (s:Bs),l.sum≤s.length→zAt ((zBD l s).zip l)=s.take l.sum
 |[],_,_=>by simp[zAt,zBD]
 |k::t,s,hs=>by
  rw[List.sum_cons]at hs;have h2:=zId t (s.drop k) (by rw[Jh];omega);unfold zBD;rw[List.zip_cons_cons]
  show zAa (sInt (s.take k)) k++zAt _=_
  rw[h2,List.sum_cons];have h3:=zFG (s.take k);rw[List.length_take,Nat.min_eq_left oM]at h3;rw[h3,List.take_add]
theorem zA6{o:OutS}{x:BlobS}(hx:x.right=true)(hl:x.data.length≤2147483647):o.putVaried x=o.put (encV x):=by
 unfold OutS.putVaried OutS.putData;rw[if_pos hx];have hr: -2147483648≤x.len∧x.len<2147483648:=by unfold BlobS.len;split<;>omega
 have h1:o.putInt x.len=o.put (putU (zBc x.len)):=by
   unfold OutS.putInt
   rw [if_pos (by have e4 : half 4 = 2147483648 := by decide
                  unfold fits;have:(4:Int).toNat=4:=rfl
                  rw[this,e4];omega)]
 rw[h1,OutS.put_put]
 rfl
def encH (h:HdrS):Bs:=encV ⟨false,h.key⟩++encV h.val
def encI (n:Int):Bs:=putU (zBc n)
def zD5 (l:List HdrS):Bs:=encI l.length++l.flatMap encH
def zC4 (l:List HdrS):Bool:=l.all fun h=>h.val.right
def hsum (l:List HdrS):Nat:=(l.map fun h=>h.key.length+h.val.data.length+1).sum
theorem zEu(h:HdrS)(t:List HdrS):hsum (h::t)=h.key.length+h.val.data.length+1+hsum t:=rfl
theorem zDi:∀(l:List HdrS),l.length≤hsum l∧hsize l=hsum l+31*l.length∧∀h∈l,h.key.length+h.val.data.length+1≤hsum l
 |[]=>by simp[hsum,hsize]
 |h::t=>by
  obtain⟨a,b,c⟩:=zDi t;have e:hsize (h::t)=h.size+hsize t:=rfl;rw[zEu,e,b,Jn];unfold HdrS.size;refine⟨oM,oM,?_⟩;intro x hx
  rcases List.mem_cons.1 hx with rfl|hx
  ·omega
  ·have:=c x hx;omega
theorem zKE{o:OutS}{h:HdrS}(hx:h.val.right=true)(hl:h.key.length+h.val.data.length≤2147483647):o.putHdr h=o.put (encH h):=by
 unfold OutS.putHdr OutS.putName;rw[zA6 (x:=⟨false,h.key⟩) rfl (by simp only;omega),zA6 hx oM,OutS.put_put]
 rfl
theorem zDk:∀(l:List HdrS) (o:OutS),zC4 l=true→hsum l≤2147483647→l.foldl OutS.putHdr o=o.put (l.flatMap encH)
 |[],o,_,_=>by rw[List.flatMap_nil,OutS.put_nil];rfl
 |h::t,o,hr,hs=>by
  unfold zC4 at hr;rw[List.all_cons,Bool.and_eq_true]at hr;rw[zEu]at hs;rw[List.foldl_cons,zKE hr.1 oM,zDk t _ hr.2 oM,OutS.put_put]
  rfl
theorem zHZ{o:OutS}{n:Int}(h0: -2147483648≤n)(h1:n<2147483648):o.putInt n=o.put (encI n):=by
 unfold OutS.putInt
 rw [if_pos (by have e4 : half 4 = 2147483648 := by decide
                unfold fits;have:(4:Int).toNat=4:=rfl
                rw[this,e4];omega)]
 rfl
theorem zIW{o:OutS}{l:List HdrS}(hr:zC4 l=true)(hs:hsum l≤2147483647):o.putHdrs l=o.put (zD5 l):=by
 have:=(zDi l).1;unfold OutS.putHdrs;rw[zHZ oM oM,zDk l _ hr hs,OutS.put_put]
 rfl
def zGp (l:Bs):Except Int (HdrS×Nat):=match zAn l with
  | .error e=> .error e
  | .ok x=>if x.1.null then .error 4 else match zAn (l.drop x.2)with
    | .error e=> .error e
    | .ok y=> .ok (⟨x.1.data,y.1⟩,x.2+y.2)
def zCd:Nat→Bs→Except Int (List HdrS×Nat)
  |0,_=> .ok ([],0)
  |n+1,l=>match zGp l with
    | .error e=> .error e
    | .ok x=>match zCd n (l.drop x.2)with
      | .error e=> .error e
      | .ok y=> .ok (x.1::y.1,x.2+y.2)
def zDb (l:Bs):Except Int (List HdrS×Nat):=match zB0 l with
  | .error e=> .error e
  | .ok x=>if x.1<0 then .error 4 else if ((l.length:Int) - x.2) / 2<x.1 then .error 1 else match zCd x.1.toNat (l.drop x.2)with
    | .error e=> .error e
    | .ok y=> .ok (y.1,x.2+y.2)
theorem InS.fail_ok0'(s:Bs)(p:Nat)(e:Int):(⟨s,p,0⟩:InS).fail e=⟨s,p,e⟩:=rfl
theorem zFc{i:InS}(h:i.err≠0):i.name=([],i):=by
 unfold InS.name;rw[zAm.stuck i h]
 rfl
theorem zRD{s:Bs}{pos:Nat}{h:HdrS}{m:Nat}(hp:pos≤s.length)(e:zGp (s.drop pos)=.ok (h,m)):pos+m≤s.length∧(⟨s,pos,0⟩:InS).name.1=h.key∧(⟨s,pos,0⟩:InS).name.2.varied=(h.val,⟨s,pos+m,0⟩):=by
 unfold zGp at e
 cases h1:zAn (s.drop pos)with
 |error e1=>rw[h1]at e;cases e
 |ok x=>
  rw[h1]at e;obtain⟨g1,g2⟩:=zAm.ok s pos x.1 x.2 hp h1
  cases hn:x.1.null
  ·simp only[hn]at e
   cases h2:zAn ((s.drop pos).drop x.2)with
   |error e2=>rw[h2]at e;cases e
   |ok y=>
    rw[h2]at e
    cases e
    rw[Jk]at h2;obtain⟨g3,g4⟩:=zAm.ok s (pos+x.2) y.1 y.2 g1 h2;unfold InS.name InS.bytes;rw[g2];rw[Jm]at g3 g4;refine⟨g3,rfl,?_⟩
    show(if x.1.null=true then(⟨s,pos+x.2,0⟩:InS).fail 4 else⟨s,pos+x.2,0⟩).varied=_
    rw[hn];exact g4
  ·simp[hn]at e
theorem zP0{s:Bs}{pos:Nat}{e:Int}(hp:pos≤s.length)(h:zGp (s.drop pos)=.error e):e≠0∧∃q,q≤s.length∧(⟨s,pos,0⟩:InS).name.2.varied.2=⟨s,q,e⟩:=by
 unfold zGp at h
 cases h1:zAn (s.drop pos)with
 |error e1=>
  rw[h1]at h
  cases h
  obtain⟨g1,q,g2,g3⟩:=zAm.err s pos e hp h1;refine⟨g1,q,g2,?_⟩;unfold InS.name InS.bytes;rw[g3]
  show(InS.varied ⟨s,q,e⟩).2=_
  rw[zAm.stuck ⟨s,q,e⟩ g1]
 |ok x=>
  rw[h1]at h;obtain⟨g1,g2⟩:=zAm.ok s pos x.1 x.2 hp h1;unfold InS.name InS.bytes;rw[g2];simp only
  cases hn:x.1.null
  ·simp only[hn]at h
   cases h2:zAn ((s.drop pos).drop x.2)with
   |error e2=>
    rw[h2]at h
    cases h
    rw[Jk]at h2;obtain⟨g3,q,g4,g5⟩:=zAm.err s (pos+x.2) e g1 h2;refine⟨g3,q,g4,?_⟩
    show(InS.varied ⟨s,pos+x.2,0⟩).2=_
    rw[g5]
   |ok y=>rw[h2]at h;cases h
  ·simp[hn]at h;subst h;refine⟨dD,pos+x.2,g1,?_⟩
   show(InS.varied ⟨s,pos+x.2,4⟩).2=_
   rw[zAm.stuck ⟨s,pos+x.2,4⟩ (show(4:Int)≠0 by decide)]
theorem zq17{p:Prop}(h:p:=by
 rw[h2]at h
 cases h
 obtain⟨a,b⟩:=ih.1 y.1 y.2 h2;refine⟨oM,?_⟩;rw[b,Je,Jm]
 rfl):p:=h
theorem zFh:∀(n:Nat) (acc:List HdrS) (s:Bs) (pos:Nat),pos≤s.length→
 (∀t k,zCd n (s.drop pos)=.ok (t,k)→pos+k≤s.length∧InS.hdrLoop n acc ⟨s,pos,0⟩=(acc++t,⟨s,pos+k,0⟩))∧
 (∀e,zCd n (s.drop pos)=.error e→e≠0∧∃q,q≤s.length∧InS.hdrLoop n acc ⟨s,pos,0⟩=([],⟨s,q,e⟩))
 |0,acc,s,pos,hp=>⟨fun t k h=>(by cases h;simp[InS.hdrLoop];exact hp),fun e h=>(by cases h)⟩
 |n+1,acc,s,pos,hp=>by
  unfold zCd InS.hdrLoop
  cases h1:zGp (s.drop pos)with
  |error e1=>
   refine⟨fun t k h=>(by cases h),fun e h=> ?_⟩
   cases h
   obtain⟨g1,q,g2,g3⟩:=zP0 hp h1;refine⟨g1,q,g2,?_⟩;rw[g3,if_neg g1]
  |ok x=>
   obtain⟨g1,g2,g3⟩:=zRD hp h1;have ih:=zFh n (acc++[x.1]) s (pos+x.2) g1;rw[g2,g3];simp only[if_true];rw[Jk];refine⟨fun t k h=> ?_,fun e h=> ?_⟩
   ·cases h2:zCd n (s.drop (pos+x.2))with
    |error e2=>rw[h2]at h;cases h
    |ok y=>
     exact zq17
   ·cases h2:zCd n (s.drop (pos+x.2))with
    |error e2=>
     rw[h2]at h
     cases h
     exact ih.2 e h2
    |ok y=>rw[h2]at h;cases h
theorem zEv{i:InS}(h:i.err≠0)(n:Nat):InS.hdrLoop n [] i=([],i):=by
 cases n with
 |zero=>rfl
 |succ n=>
  unfold InS.hdrLoop;rw[zFc h];simp only;rw[zAm.stuck i h,if_neg h]
theorem zEm:Rds InS.hdrs zDb []:=by
 refine⟨?_,?_,?_⟩
 ·intro s pos a k hp h;unfold zDb at h
  cases h1:zB0 (s.drop pos)with
  |error e1=>rw[h1]at h;cases h
  |ok x=>
   rw[h1]at h;obtain⟨g1,g2⟩:=zDc.ok s pos x.1 x.2 hp h1;simp only at h
   split at h
   ·cases h
   rename_i hn
   split at h
   ·cases h
   rename_i hm
   rw[Jh]at hm;rw[Jk]at h
   cases h2:zCd x.1.toNat (s.drop (pos+x.2))with
   |error e2=>rw[h2]at h;cases h
   |ok y=>
    rw[h2]at h
    cases h
    obtain⟨a1,b1⟩:=(zFh x.1.toNat [] s (pos+x.2) g1).1 y.1 y.2 h2;refine⟨oM,?_⟩;unfold InS.hdrs InS.hdrHead;rw[g2];simp only;rw[if_neg hn,if_neg (by simp only[InS.left];omega),b1,List.nil_append,Jm]
 ·intro s pos e hp h;unfold zDb at h
  cases h1:zB0 (s.drop pos)with
  |error e1=>
   rw[h1]at h
   cases h
   obtain⟨g1,q,g2,g3⟩:=zDc.err s pos e hp h1;refine⟨g1,q,g2,?_⟩;unfold InS.hdrs InS.hdrHead;rw[g3];simp only;rw[if_neg dD,if_neg oM]
   rfl
  |ok x=>
   rw[h1]at h;obtain⟨g1,g2⟩:=zDc.ok s pos x.1 x.2 hp h1;simp only at h;unfold InS.hdrs InS.hdrHead;rw[g2];simp only
   split at h
   ·rename_i hn
    cases h
    rw[if_pos hn,InS.fail_ok0'];exact⟨dD,_,g1,zEv (show(4:Int)≠0 by decide) _⟩
   rename_i hn
   rw[if_neg hn]
   split at h
   ·rename_i hm
    cases h
    rw[Jh]at hm;rw[if_pos (by simp only[InS.left];omega),InS.fail_ok0'];exact⟨dD,_,g1,zEv (show(1:Int)≠0 by decide) _⟩
   rename_i hm
   rw[Jh]at hm;rw[if_neg (by simp only[InS.left];omega)];rw[Jk]at h
   cases h2:zCd x.1.toNat (s.drop (pos+x.2))with
   |error e2=>
    rw[h2]at h
    cases h
    exact(zFh x.1.toNat [] s (pos+x.2) g1).2 e h2
   |ok y=>rw[h2]at h;cases h
 ·intro i hi;unfold InS.hdrs InS.hdrHead;rw[zDc.stuck i hi];simp only;rw[if_neg dD,if_neg oM]
  rfl
theorem zBk{l:Bs}{b:BlobS}{m:Nat}(h:zAn l=.ok (b,m)):encV b=l.take m∧0<m∧m≤l.length∧b.right=true∧b.data.length<2147483648∧b.data.length<m+(if b.null then 1 else 0):=by
 unfold zAn at h
 cases h1:zB0 l with
 |error e=>rw[h1]at h;cases h
 |ok x=>
  obtain⟨n,k⟩:=x;rw[h1]at h;obtain⟨g1,g2,g3,g4,g5⟩:=zEa h1;unfold gotS at h;simp only at h
  split at h
  ·rename_i hn
   cases h
   subst hn;refine⟨?_,g2,g3,rfl,by simp[BlobS.none],by simp[BlobS.none]⟩;unfold encV;rw[←g1]
   show putU (zBc (-1))++[]=_
   rw[Jp]
  ·rename_i hn
   split at h
   ·cases h
   ·rename_i hn0
    split at h
    ·cases h
    ·rename_i hm
     cases h
     have hl:(l.drop k).length=l.length - k:=Jh;have hd:((l.drop k).take n.toNat).length=n.toNat:=by rw[List.length_take,hl];omega
     refine⟨?_,oM,oM,rfl,by simp only;rw[hd];omega,by simp only;rw[hd];omega⟩;unfold encV
     have e:(⟨false,(l.drop k).take n.toNat⟩:BlobS).len=n:=by
      unfold BlobS.len;simp only[Bool.false_eq_true,if_false];rw[hd];omega
     rw[e,g1,List.take_add]
theorem zPZ{l:Bs}{h:HdrS}{m:Nat}(e:zGp l=.ok (h,m)):encH h=l.take m∧2≤m∧m≤l.length∧h.val.right=true∧h.key.length+h.val.data.length+1≤m:=by
 unfold zGp at e
 cases h1:zAn l with
 |error e1=>rw[h1]at e;cases e
 |ok x=>
  rw[h1]at e
  cases hn:x.1.null
  ·simp only[hn]at e
   cases h2:zAn (l.drop x.2)with
   |error e2=>rw[h2]at e;cases e
   |ok y=>
    rw[h2]at e
    cases e
    obtain⟨a1,a2,a3,a4,a5,a6⟩:=zBk h1;obtain⟨b1,b2,b3,b4,b5,b6⟩:=zBk h2;rw[Jh]at b3;rw[hn]at a6;simp only[Bool.false_eq_true,if_false]at a6;refine⟨?_,oM,oM,b4,?_⟩
    ·unfold encH;have ex:(⟨false,x.1.data⟩:BlobS)=x.1:=by cases hx:x.1;rw[hx]at hn;simp only at hn;rw[hn]
     simp only;rw[ex,a1,b1,List.take_add]
    ·simp only
     by_cases hy:y.1.null=true
     ·have:y.1.data=[]:=by unfold BlobS.right at b4;rw[hy]at b4;simpa using b4
      rw[this];simp only[List.length_nil];omega
     ·rw[if_neg hy]at b6;omega
  ·simp[hn]at e
theorem zHY:∀(n:Nat) (l:Bs) (t:List HdrS) (m:Nat),zCd n l=.ok (t,m)→t.flatMap encH=l.take m∧m≤l.length∧t.length=n∧zC4 t=true∧hsum t≤m
 |0,l,t,m,h=>by cases h;simp[zC4,hsum]
 |n+1,l,t,m,h=>by
  unfold zCd at h
  cases h1:zGp l with
  |error e1=>rw[h1]at h;cases h
  |ok x=>
   rw[h1]at h;simp only at h
   cases h2:zCd n (l.drop x.2)with
   |error e2=>rw[h2]at h;cases h
   |ok y=>
    rw[h2]at h
    cases h
    obtain⟨a1,a2,a3,a4,a5⟩:=zPZ h1;obtain⟨b1,b2,b3,b4,b5⟩:=zHY n (l.drop x.2) y.1 y.2 h2;rw[Jh]at b2;refine⟨?_,oM,by simp[b3],?_,?_⟩
    ·rw[Jg,a1,b1,List.take_add]
    ·unfold zC4 at*;rw[List.all_cons,a4,b4];rfl
    ·rw[zEu];omega
theorem zOp{l:Bs}{t:List HdrS}{m:Nat}(h:zDb l=.ok (t,m)):zD5 t=l.take m∧0<m∧m≤l.length∧zC4 t=true∧hsum t≤m:=by
 unfold zDb at h
 cases h1:zB0 l with
 |error e=>rw[h1]at h;cases h
 |ok x=>
  rw[h1]at h;obtain⟨g1,g2,g3,g4,g5⟩:=zEa h1;simp only at h
  split at h
  ·cases h
  rename_i hn
  split at h
  ·cases h
  cases h2:zCd x.1.toNat (l.drop x.2)with
  |error e2=>rw[h2]at h;cases h
  |ok y=>
   rw[h2]at h
   cases h
   obtain⟨b1,b2,b3,b4,b5⟩:=zHY _ _ _ _ h2;rw[Jh]at b2;refine⟨?_,oM,oM,b4,oM⟩;unfold zD5 encI;have e:(y.1.length:Int)=x.1:=by rw[b3];omega
   rw[e,g1,b1,List.take_add]
theorem zRI(u:Nat):1≤(putU u).length:=by
 rw[putU]
 split<;>simp
theorem zJr(b:BlobS):1≤(encV b).length:=by
 have h:=zRI (zBc b.len);unfold encV;rw[Jc];omega
theorem zOq(h:HdrS)(hr:h.val.right=true)(hl:h.key.length+h.val.data.length≤2147483647)(rest:Bs):zGp (encH h++rest)=.ok (h,(encH h).length):=by
 unfold zGp encH;rw[Je,zBa ⟨false,h.key⟩ rfl (by simp only;omega)];simp only[Bool.false_eq_true,if_false];rw[List.drop_left' rfl,zBa h.val hr oM];simp only[Jc]
theorem zGo:∀(t:List HdrS) (rest:Bs),zC4 t=true→hsum t≤2147483647→zCd t.length (t.flatMap encH++rest)=.ok (t,(t.flatMap encH).length)
 |[],_,_,_=>rfl
 |h::t,rest,hr,hs=>by
  unfold zC4 at hr;rw[List.all_cons,Bool.and_eq_true]at hr;rw[zEu]at hs;rw[Jn,Jg,Je];unfold zCd;rw[zOq h hr.1 oM];simp only;rw[List.drop_left' rfl,zGo t rest hr.2 oM];simp only[Jc]
theorem zK8:∀(t:List HdrS),2*t.length≤(t.flatMap encH).length
 |[]=>by simp
 |h::t=>by
  have h1:=zK8 t
  have h2:2≤(encH h).length:=by
   have a:=zJr ⟨false,h.key⟩;have b:=zJr h.val;unfold encH;rw[Jc];omega
  rw[Jg,Jc,Jn];omega
theorem zMp(t:List HdrS)(rest:Bs)(hr:zC4 t=true)(hs:hsum t≤2147483647):zDb (zD5 t++rest)=.ok (t,(zD5 t).length):=by
 have h0:=(zDi t).1;have h2:=zK8 t;unfold zDb zD5 encI;rw[Je,zF1 t.length oM oM];simp only;rw[if_neg oM,if_neg (by rw[Jc,Jc];omega),List.drop_left' rfl,Int.toNat_natCast,zGo t rest hr hs];simp only[Jc]
set_option maxHeartbeats 8000000
set_option maxRecDepth 100000
variable {W0 w:World}{K:Know}{L:List Res}
theorem zFg{l:List HdrS}{b off cap:Nat}(hk:K.has (Know.flat RHdr (V (some ⟨b,off,none⟩) l.length cap) 3 l)){i:Nat}{x:HdrS}(hi:i<l.length)(hx:l[i]'hi=x)(h:St W0 w K L):
 w.cell? ⟨b,off+i*3,none⟩=some (Z (bb x.key))∧w.cell? ⟨b,off+i*3+1,none⟩=some (U x.val.null)∧w.cell? ⟨b,off+i*3+2,none⟩=some (Z (bb x.val.data))∧St W0 w K L:=by
 obtain⟨b',off',hq,c0,c1,c2⟩:=zDj hk h i hi
 cases hq
 rw[hx]at c0 c1 c2;exact⟨c0,c1,c2,h⟩
theorem zDp(b:BlobS)(h:b.data.length≤140737488355328):(encV b).length≤b.data.length+10:=by
 have hr:=b.len_range h;have:=zEn _ (zDE hr.1 hr.2);unfold encV;rw[Jc];omega
theorem zTo(x:HdrS)(h:x.size≤140737488355328):(encH x).length≤x.size:=by
 unfold HdrS.size at*;have h1:=zDp ⟨false,x.key⟩ (by simp only;omega);have h2:=zDp x.val oM;unfold encH;simp only at h1;rw[Jc];omega
theorem zJu:∀(l:List HdrS),hsize l≤140737488355328→(l.flatMap encH).length≤hsize l
 |[],_=>by simp
 |x::t,h=>by
  have e:hsize (x::t)=x.size+hsize t:=rfl;have h1:=zTo x oM;have h2:=zJu t oM;rw[Jg,Jc];omega
theorem zR7(n:Bool)(d:Bs)(n':Bool)(d':Bs)(k k':Bs)(h:¬(⟨k,⟨n,d⟩⟩:HdrS)=⟨k',⟨n',d'⟩⟩):(k==k')=false∨(k=k'∧(n==n')=false)∨(k=k'∧n=n'∧(d==d')=false):=by
 by_cases h1:k=k'
 ·subst h1
  by_cases h2:n=n'
  ·subst h2
   by_cases h3:d=d'
   ·subst h3;exact absurd rfl h
   ·exact .inr (.inr ⟨rfl,rfl,by simpa using h3⟩)
  ·exact .inr (.inl ⟨rfl,by simpa using h2⟩)
 ·exact .inl (by simpa using h1)
theorem zOm(va vb:Value)(a b:List HdrS)(hl:a.length≤9223372036854775807)(hl2:b.length≤9223372036854775807)(hka:K.has (Know.flat RHdr va 3 a))(hkb:K.has (Know.flat RHdr vb 3 b))(h:St W0 w K L):
 Calls Jb 249 #[va,vb] w fun en w'=>en=Y (U (decide (a=b)))∧St W0 w' K L:=by
 obtain⟨q,cap,rfl⟩:=zAr hka h;obtain⟨q2,cap2,rfl⟩:=zAr hkb h;have H:=hQd h;have HA:=hQd hka;have HB:=hQd hkb;clear h hka hkb
 by_cases hlen:a.length=b.length
 ·have HLEN:=hQd hlen;have hq:∀(P:Prop) [Decidable P],decide P=decide P:=fun _ _=>rfl
  obtain⟨r,hr⟩:=eX (decide (a=b));have HR:=hQd hr;rw[hr];rw[←hlen];clear hr hlen hq;go_enter Tryz.func249,Tryz.ntmps249;go_wp2;go_loopw [5] (fun iv wr=>∃k:Nat,k≤a.length∧iv=I O k∧a.take k=b.take k∧St W0 wr K L) (fun iv _=>a.length - (intOf iv).toNat)
  case atStart=>exact⟨0,Jd _,rfl,by simp,H.out⟩
  case round=>
   obtain⟨k,hk,rfl,heq,hst⟩:=hrel;have HEQ:=hQd heq;clear heq
   by_cases hlt:k<a.length
   ·have hltb:k<b.length:=by have:=HLEN.out;omega
    obtain⟨ba,oa,hqa,ya⟩:=zDj HA.out hst k hlt;obtain⟨bb',ob,hqb,yb⟩:=zDj HB.out hst k hltb;subst hqa;subst hqb;clear ya yb;have ea:a.take (k+1)=a.take k++[a[k]'hlt]:=Jf hlt;have eb:b.take (k+1)=b.take k++[b[k]'hltb]:=Jf hltb;have hne:a[k]'hlt≠b[k]'hltb→a≠b:=by rintro h rfl;exact h rfl
    obtain⟨x,hx⟩:=eX (a[k]'hlt);obtain⟨y,hy⟩:=eX (b[k]'hltb);obtain⟨c0,c1,c2,hy1⟩:=zFg HA.out hlt hx hst;obtain⟨d0,d1,d2,hy2⟩:=zFg HB.out hltb hy hst;rw[hx]at ea hne;rw[hy]at eb hne;have EA:=hQd (And.intro ea (And.intro eb hne));have HST:=hQd hst;clear ea eb hne hx hy hltb hst hy1 hy2;obtain⟨kx,⟨nx,dx⟩⟩:=x;obtain⟨ky,⟨ny,dy⟩⟩:=y;simp only at c0 c1 c2 d0 d1 d2
    by_cases hxy:(⟨kx,⟨nx,dx⟩⟩:HdrS)=⟨ky,⟨ny,dy⟩⟩
    ·cases hxy
     go_wp2
     go_quiet (fail)
     go_wp2;go_roundw
     case rel=>exact⟨k+1,hlt,by go_num,by rw[EA.out.1,EA.out.2.1,HEQ.out],HST.out.drewN _⟩
     case measure=>first|(simp[intOf];done)|(simp[intOf];omega)
    ·have HNE:=hQd (EA.out.2.2 hxy);have hb:=zR7 _ _ _ _ _ _ hxy;clear hxy EA
     rcases hb with hb|⟨rfl,hb⟩|⟨rfl,rfl,hb⟩
     all_goals
      go_wp2
      go_quiet (fail)
      go_wp2;go_ret;exact⟨zAo (by rw[←HR.out];exact(decide_eq_false HNE.out).symm),HST.out.drewN _⟩
   ·have hke:k=a.length:=by omega
    subst hke;go_wp2;go_ret;refine⟨zAo ?_,hst⟩;have h:=HEQ.out;rw[List.take_of_length_le oM,List.take_of_length_le (by have:=HLEN.out;omega)]at h;rw[←HR.out];exact(decide_eq_true h).symm
 ·obtain⟨r,hr⟩:=eX (decide (a=b));have HR:=hQd hr;have hne:¬((a.length:Int)=(b.length:Int)):=by omega
  have HLEN:=hQd hlen;rw[hr];clear hr hlen;go_enter Tryz.func249,Tryz.ntmps249;go_wp2;go_ret;exact⟨zAo (by rw[←HR.out];exact(decide_eq_false (by rintro rfl;exact HLEN.out rfl)).symm),H.out⟩
structure RecS where
 time:Int
 off:Int
 key:BlobS
 val:BlobS
 hdrs:List HdrS
deriving DecidableEq
def RecS.zero:RecS:=⟨0,0,⟨false,[]⟩,⟨false,[]⟩,[]⟩
def RecS.R (x:RecS):Prop:=(-9223372036854775808≤x.time∧x.time<9223372036854775808)∧(-9223372036854775808≤x.off∧x.off<9223372036854775808)
def RecS.sum (x:RecS):Nat:=x.key.data.length+x.val.data.length+hsum x.hdrs
def RecS.allRight (x:RecS):Bool:=x.key.right && x.val.right && zC4 x.hdrs
def zA5 (x:RecS):Int:=if x.off<0∨2147483647<x.off then 11 else if x.allRight then 0 else 4
def recF (x:RecS):Bs:=[0]++(encI x.time++(encI x.off++(encV x.key++(encV x.val++zD5 x.hdrs))))
def encR (x:RecS):Bs:=encV ⟨false,recF x⟩
def OutS.putRec (o:OutS) (x:RecS):OutS:=if zA5 x=0 then o.put (encR x)else o.fail (zA5 x)
theorem zFk(n:Int)(h: -9223372036854775808≤n∧n<9223372036854775808):(encI n).length≤10:=zEn _ (zDE h.1 h.2)
theorem zGl(x:RecS)(hx:x.R)(hs:x.sum≤1000000):(recF x).length≤32*x.sum+100:=by
 unfold RecS.sum at*;have h0:=zDi x.hdrs;have h1:=zFk x.time hx.1;have h2:=zFk x.off hx.2;have h3:=zDp x.key oM;have h4:=zDp x.val oM;have h5:=zJu x.hdrs oM;have h6:=zFk x.hdrs.length oM;unfold recF zD5;simp only[Jc,Jn,List.length_nil]
 omega
theorem zHV{x:RecS}(h:zA5 x=0):(0≤x.off∧x.off≤2147483647)∧x.allRight=true:=by
 unfold zA5 at h
 split at h
 ·cases h
 ·split at h
  ·exact⟨oM,by assumption⟩
  ·cases h
def zCc (s:Bs):Except Int RecS:=
  match zAJ 1 s with
  | .error e=> .error e
  | .ok a=>if a.1=0 then match zDT (s.drop 1)with
      | .error e=> .error e
      | .ok t=>match zB0 (s.drop (1+t.2))with
        | .error e=> .error e
        | .ok o=>if o.1<0 then .error 11 else match zAn (s.drop (1+t.2+o.2))with
          | .error e=> .error e
          | .ok k=>match zAn (s.drop (1+t.2+o.2+k.2))with
            | .error e=> .error e
            | .ok v=>match zDb (s.drop (1+t.2+o.2+k.2+v.2))with
              | .error e=> .error e
              | .ok h=>if 1+t.2+o.2+k.2+v.2+h.2=s.length then .ok ⟨t.1,o.1,k.1,v.1,h.1⟩else .error 2
    else .error 8
def InS.recTail (i:InS) (t o:Int):RecS×InS:=(⟨t,o,i.varied.1,i.varied.2.varied.1,i.varied.2.varied.2.hdrs.1⟩,i.varied.2.varied.2.hdrs.2)
def InS.recOff (i:InS) (t:Int):RecS×InS:=(if i.vint.1<0 then i.vint.2.fail 11 else i.vint.2).recTail t i.vint.1
def InS.recTime (i:InS):RecS×InS:=i.vlong.2.recOff i.vlong.1
def InS.recFields (i:InS):RecS×InS:=(if (i.int 1).1=0 then(i.int 1).2 else(i.int 1).2.fail 8).recTime
theorem zEZ{i:InS}(h:i.err≠0)(t o:Int):(i.recTail t o).2=i:=by
 unfold InS.recTail;rw[zAm.stuck i h];simp only;rw[zAm.stuck i h];simp only;rw[zEm.stuck i h]
theorem zKN{i:InS}(h:i.err≠0)(t:Int):(i.recOff t).2=i:=by
 unfold InS.recOff;rw[zDc.stuck i h];simp only;rw[if_neg dD,zEZ h]
theorem zHM{i:InS}(h:i.err≠0):(i.recTime).2=i:=by
 unfold InS.recTime;rw[zFP.stuck i h,zKN h]
theorem InS.fail_stuck0{i:InS}(h:i.err≠0)(e:Int):i.fail e=i:=if_neg h
theorem zBX{s:Bs}{q:Nat}{e:Int}(h:e≠0):(⟨s,q,e⟩:InS).close.err=e:=by
 unfold InS.close
 split
 ·rw[InS.fail_stuck0 (show(⟨s,q,e⟩:InS).err≠0 from h)]
 ·rfl
theorem InS.fail_stuck{i:InS}(h:i.err≠0)(e:Int):i.fail e=i:=if_neg h
def recD (s:Bs):RecS×InS:=(⟨s,0,0⟩:InS).recFields
theorem zNz(s:Bs):(∀x,zCc s=.ok x→recD s=(x,⟨s,s.length,0⟩))∧(∀e,zCc s=.error e→e≠0∧(recD s).2.close.err=e):=by
 unfold zCc recD InS.recFields;have hi:=zAW 1 dD dD
 cases h0:zAJ 1 s with
 |error e0=>
  obtain⟨g1,q,g2,g3⟩:=hi.err s 0 e0 (Jd _) (by rw[List.drop_zero];exact h0);have g3:(⟨s,0,0⟩:InS).int 1=(0,⟨s,q,e0⟩):=g3;refine⟨fun x h=>(by cases h),fun e h=> ?_⟩
  cases h
  rw[g3];simp only[if_true];rw[zHM (show(⟨s,q,e0⟩:InS).err≠0 from g1)];exact⟨g1,zBX g1⟩
 |ok a=>
  obtain⟨g1,g3⟩:=hi.ok s 0 a.1 a.2 (Jd _) (by rw[List.drop_zero];exact h0);have g3:(⟨s,0,0⟩:InS).int 1=(a.1,⟨s,0+a.2,0⟩):=g3
  have ha2:a.2=1:=by
   unfold zAJ at h0
   split at h0
   ·cases h0
   ·cases h0;rfl
  rw[Nat.zero_add,ha2]at g3 g1;rw[g3];simp only
  by_cases ha:a.1=0
  ·rw[if_pos ha,if_pos ha];unfold InS.recTime
   cases h1:zDT (s.drop 1)with
   |error e1=>
    obtain⟨k1,q,k2,k3⟩:=zFP.err s 1 e1 g1 h1;refine⟨fun x h=>(by cases h),fun e h=> ?_⟩
    cases h
    rw[k3];simp only;rw[zKN (show(⟨s,q,e1⟩:InS).err≠0 from k1)];exact⟨k1,zBX k1⟩
   |ok t=>
    obtain⟨k1,k3⟩:=zFP.ok s 1 t.1 t.2 g1 h1;rw[k3];simp only;unfold InS.recOff
    cases h2:zB0 (s.drop (1+t.2))with
    |error e2=>
     obtain⟨m1,q,m2,m3⟩:=zDc.err s (1+t.2) e2 k1 h2;refine⟨fun x h=>(by cases h),fun e h=> ?_⟩
     cases h
     rw[m3];simp only;rw[if_neg dD,zEZ (show(⟨s,q,e2⟩:InS).err≠0 from m1)];exact⟨m1,zBX m1⟩
    |ok o=>
     obtain⟨m1,m3⟩:=zDc.ok s (1+t.2) o.1 o.2 k1 h2;rw[m3];simp only
     by_cases ho:o.1<0
     ·rw[if_pos ho,if_pos ho];refine⟨fun x h=>(by cases h),fun e h=> ?_⟩
      cases h
      rw[InS.fail_ok0',zEZ (show(11:Int)≠0 by decide)];exact⟨dD,zBX dD⟩
     ·rw[if_neg ho,if_neg ho];unfold InS.recTail
      cases h3:zAn (s.drop (1+t.2+o.2))with
      |error e3=>
       obtain⟨n1,q,n2,n3⟩:=zAm.err s _ e3 m1 h3;refine⟨fun x h=>(by cases h),fun e h=> ?_⟩
       cases h
       rw[n3];simp only;have n1':(⟨s,q,e3⟩:InS).err≠0:=n1;rw[zAm.stuck _ n1'];simp only;rw[zEm.stuck _ n1'];exact⟨n1,zBX n1⟩
      |ok k=>
       obtain⟨n1,n3⟩:=zAm.ok s _ k.1 k.2 m1 h3;rw[n3];simp only
       cases h4:zAn (s.drop (1+t.2+o.2+k.2))with
       |error e4=>
        obtain⟨p1,q,p2,p3⟩:=zAm.err s _ e4 n1 h4;refine⟨fun x h=>(by cases h),fun e h=> ?_⟩
        cases h
        rw[p3];simp only;have p1':(⟨s,q,e4⟩:InS).err≠0:=p1;rw[zEm.stuck _ p1'];exact⟨p1,zBX p1⟩
       |ok v=>
        obtain⟨p1,p3⟩:=zAm.ok s _ v.1 v.2 n1 h4;rw[p3];simp only
        cases h5:zDb (s.drop (1+t.2+o.2+k.2+v.2))with
        |error e5=>
         obtain⟨r1,q,r2,r3⟩:=zEm.err s _ e5 p1 h5;refine⟨fun x h=>(by cases h),fun e h=> ?_⟩
         cases h
         rw[r3];exact⟨r1,zBX r1⟩
        |ok h=>
         obtain⟨r1,r3⟩:=zEm.ok s _ h.1 h.2 p1 h5;rw[r3];simp only
         by_cases hE:1+t.2+o.2+k.2+v.2+h.2=s.length
         ·rw[if_pos hE,hE];refine⟨fun x hh=>(by cases hh;rfl),fun e hh=>(by cases hh)⟩
         ·rw[if_neg hE];refine⟨fun x hh=>(by cases hh),fun e hh=> ?_⟩
          cases hh
          refine⟨dD,?_⟩;unfold InS.close;rw[if_pos (by simp only[InS.left];omega)]
          rfl
  ·rw[if_neg ha,if_neg ha];refine⟨fun x h=>(by cases h),fun e h=> ?_⟩
   cases h
   rw[InS.fail_ok0',zHM (show(8:Int)≠0 by decide)];exact⟨dD,zBX dD⟩
def zIV (l:Bs):Except Int (RecS×Nat):=match zAn l with
  | .error e=> .error e
  | .ok b=>if b.1.null then .error 4 else match zCc b.1.data with
    | .error e=> .error e
    | .ok x=> .ok (x,b.2)
def InS.recJ (i:InS):InS:=if (recD i.name.1).2.close.err=0 then i.name.2 else i.name.2.fail (recD i.name.1).2.close.err
def InS.record (i:InS):RecS×InS:=if i.recJ.err=0 then((recD i.name.1).1,i.recJ)else(RecS.zero,i.recJ)
theorem zGq:Rds InS.record zIV RecS.zero:=by
 refine⟨?_,?_,?_⟩
 ·intro s pos a k hp h;unfold zIV at h
  cases h1:zAn (s.drop pos)with
  |error e=>rw[h1]at h;cases h
  |ok b=>
   rw[h1]at h;obtain⟨g1,g2⟩:=zAm.ok s pos b.1 b.2 hp h1
   cases hn:b.1.null
   ·simp only[hn]at h
    cases h2:zCc b.1.data with
    |error e=>rw[h2]at h;cases h
    |ok x=>
     rw[h2]at h
     cases h
     have hi:=(zNz b.1.data).1 _ h2;refine⟨g1,?_⟩
     have hnm:(⟨s,pos,0⟩:InS).name=(b.1.data,⟨s,pos+b.2,0⟩):=by
      unfold InS.name InS.bytes;rw[g2];simp only[hn]
      rfl
     have hc:(⟨b.1.data,b.1.data.length,0⟩:InS).close.err=0:=by unfold InS.close;rw[if_neg (by simp only[InS.left];omega)]
     unfold InS.record InS.recJ;rw[hnm];simp only[hi,hc,if_true]
   ·simp[hn]at h
 ·intro s pos e hp h;unfold zIV at h
  cases h1:zAn (s.drop pos)with
  |error e1=>
   rw[h1]at h
   cases h
   obtain⟨g1,q,g2,g3⟩:=zAm.err s pos e hp h1;refine⟨g1,q,g2,?_⟩
   have hnm:(⟨s,pos,0⟩:InS).name=([],⟨s,q,e⟩):=by
    unfold InS.name InS.bytes;rw[g3]
    rfl
   unfold InS.record InS.recJ;rw[hnm];simp only[InS.fail_stuck (show(⟨s,q,e⟩:InS).err≠0 from g1),ite_self];rw[if_neg g1]
  |ok b=>
   rw[h1]at h;obtain⟨g1,g2⟩:=zAm.ok s pos b.1 b.2 hp h1
   cases hn:b.1.null
   ·simp only[hn]at h
    cases h2:zCc b.1.data with
    |error e2=>
     rw[h2]at h
     cases h
     obtain⟨k1,k2⟩:=(zNz b.1.data).2 _ h2;refine⟨k1,pos+b.2,g1,?_⟩
     have hnm:(⟨s,pos,0⟩:InS).name=(b.1.data,⟨s,pos+b.2,0⟩):=by
      unfold InS.name InS.bytes;rw[g2];simp only[hn]
      rfl
     unfold InS.record InS.recJ;rw[hnm];simp only[k2];rw[if_neg k1,InS.fail_ok0',if_neg k1]
    |ok x=>rw[h2]at h;cases h
   ·simp[hn]at h;subst h;refine⟨dD,pos+b.2,g1,?_⟩
    have hnm:(⟨s,pos,0⟩:InS).name=(b.1.data,⟨s,pos+b.2,4⟩):=by
     unfold InS.name InS.bytes;rw[g2];simp only[hn]
     rfl
    unfold InS.record InS.recJ;rw[hnm];simp only[InS.fail_stuck (show(⟨s,pos+b.2,4⟩:InS).err≠0 from(show(4:Int)≠0 by decide)),ite_self];rw[if_neg (show ¬(4:Int)=0 by decide)]
 ·intro i hi;unfold InS.record InS.recJ;rw[zFc hi];simp only[InS.fail_stuck hi,ite_self];rw[if_neg hi]
variable {W0 w:World}{K:Know}{L:List Res}
theorem raw7{b:Nat}{T:TypeId}{v0 v1 v2 v3 v4 v5 v6:Value}(h:St W0 w K (.raw b #[v0,v1,v2,v3,v4,v5,v6] T::L)):
 w.cell? ⟨b,0,none⟩=some v0∧w.cell? ⟨b,1,none⟩=some v1∧w.cell? ⟨b,2,none⟩=some v2∧w.cell? ⟨b,3,none⟩=some v3∧w.cell? ⟨b,4,none⟩=some v4∧w.cell? ⟨b,5,none⟩=some v5∧w.cell? ⟨b,6,none⟩=some v6∧
 w.frozen? ⟨b,0,none⟩=false∧w.frozen? ⟨b,1,none⟩=false∧w.frozen? ⟨b,2,none⟩=false∧w.frozen? ⟨b,3,none⟩=false∧w.frozen? ⟨b,4,none⟩=false∧w.frozen? ⟨b,5,none⟩=false∧w.frozen? ⟨b,6,none⟩=false:=
 ⟨h.rawCell 0,h.rawCell 1,h.rawCell 2,h.rawCell 3,h.rawCell 4,h.rawCell 5,h.rawCell 6,h.rawFree 0,h.rawFree 1,h.rawFree 2,h.rawFree 3,h.rawFree 4,h.rawFree 5,h.rawFree 6⟩
def zCH (x:BlobS):List Value:=[U x.null,Z (bb x.data)]
theorem zQS:zCJ Jb 23 (.agg #[U false,Z ⟨#[]⟩]) 2 24:=zAT kR rfl dD
def zCr (x:RecS):List BlobS:=x.key::x.val::x.hdrs.map HdrS.val
theorem zJD(x:RecS):(zCr x).all BlobS.right=x.allRight:=by
 unfold zCr RecS.allRight zC4;rw[List.all_cons,List.all_cons,List.all_map,Bool.and_assoc]
 rfl
theorem zO4(l:List BlobS)(k:Nat)(h:k<l.length):(l.flatMap zCH)[k*2]? =some (U l[k].null)∧(l.flatMap zCH)[k*2+1]? =some (Z (bb l[k].data)):=by
 have h0:=zCg l zCH 2 (fun _ _=>rfl) k h 0 dD;have h1:=zCg l zCH 2 (fun _ _=>rfl) k h 1 dD;rw[Nat.add_zero]at h0;exact⟨h0,h1⟩
theorem zKx(g cap n:Nat)(l:List BlobS)(hn:n=l.length)(hl:l.length≤9223372036854775807)(h:St W0 w K (.row (V (some ⟨g,0,none⟩) n cap) 23 2 n (l.flatMap zCH)::L)):
 Calls Jb 187 #[V (some ⟨g,0,none⟩) n cap] w fun en w'=>en=Y (U (l.all BlobS.right))∧St W0 w' K (.row (V (some ⟨g,0,none⟩) n cap) 23 2 n (l.flatMap zCH)::L):=by
 subst hn;have H:=hQd h;obtain⟨r,hr⟩:=eX (l.all BlobS.right);have HR:=hQd hr;rw[hr];clear h hr;go_enter Tryz.func187,Tryz.ntmps187;go_wp2;go_loopw [7] (fun iv wr=>∃k:Nat,k≤l.length∧iv=I O k∧(l.take k).all BlobS.right=true∧St W0 wr K (.row (V (some ⟨g,0,none⟩) l.length cap) 23 2 l.length (l.flatMap zCH)::L)) (fun iv _=>l.length - (intOf iv).toNat)
 case atStart=>exact⟨0,Jd _,rfl,rfl,H.out⟩
 case round=>
  obtain⟨k,hk,rfl,hall,hst⟩:=hrel;have HALL:=hQd hall;clear hall
  by_cases hlt:k<l.length
  ·obtain⟨e0,e1⟩:=zO4 l k hlt;have c0:=(hst.rowCell (k*2) oM).trans e0;have c1:=(hst.rowCell (k*2+1) oM).trans e1;have hnx:(l.take (k+1)).all BlobS.right=(l[k]'hlt).right:=by rw[Jf hlt,List.all_append,HALL.out];simp
   have hno:(l[k]'hlt).right=false→l.all BlobS.right=false:=by
    intro h;rw[List.all_eq_false];exact⟨_,Ji hlt,by rw[h];decide⟩
   obtain⟨x,hx⟩:=eX (l[k]'hlt);rw[hx]at c0 c1 hnx hno;have HX:=hQd (And.intro hnx hno);have H:=hQd hst;clear hst e0 e1 hx hnx hno
   cases hxr:x.right
   all_goals
    have ER:=hQd hxr;clear hxr;go_wp2_with (go_at_call 149;refine(zCG x (H.out.alloc _)).mono ?_;rw[ER.out];rintro e wn ⟨rfl,h⟩;replace H:=hQd h;clear h)
   ·go_ret;exact⟨zAo (by rw[←HR.out];exact(HX.out.2 ER.out).symm),H.out⟩
   ·go_roundw
    case rel=>exact⟨k+1,hlt,by go_num,by rw[HX.out.1,ER.out],H.out⟩
    case measure=>first|(simp[intOf];done)|(simp[intOf];omega)
  ·have hke:k=l.length:=by omega
   subst hke;rw[List.take_length]at HALL;go_wp2;go_ret;exact⟨zAo (by rw[←HR.out];exact HALL.out.symm),hst⟩
theorem zPW(x:RecS)(v:Value)(hl:x.hdrs.length≤1000000)(hk:K.has (Know.flat RHdr v 3 x.hdrs))(h:St W0 w K L):
 Calls Jb 188 #[.agg #[I O x.time,I O x.off,U x.key.null,Z (bb x.key.data),U x.val.null,Z (bb x.val.data),v]] w fun en w'=>∃g cap,en=Y (V (some ⟨g,0,none⟩) (zCr x).length cap)∧St W0 w' K (.row (V (some ⟨g,0,none⟩) (zCr x).length cap) 23 2 (zCr x).length ((zCr x).flatMap zCH)::L):=by
 obtain⟨q,cap,rfl⟩:=zAr hk h;have h0:=(h.allocRaw #[I O x.time,I O x.off,U x.key.null,Z (bb x.key.data),U x.val.null,Z (bb x.val.data),V q x.hdrs.length cap] 95).rowLit (zCH x.key++zCH x.val) 23 2 2 rfl dD;have H:=hQd h0;have HK:=hQd hk;clear h hk h0;go_enter Tryz.func188,Tryz.ntmps188;go_wp2;have H2:=hQd ((H.out.p1.drop).cast (L':=.row (V (some ⟨w.heap.size+1,0,none⟩) 2 2) 23 2 [x.key,x.val].length ([x.key,x.val].flatMap zCH)::L) (by rw[World.size_alloc];rfl));clear H;go_loopw [3,14] (fun lv iv wr=>∃(k:Nat) (acc:List BlobS),k≤x.hdrs.length∧iv=I O k∧acc=x.key::x.val::(x.hdrs.take k).map HdrS.val∧St W0 wr K (.row lv 23 2 acc.length (acc.flatMap zCH)::L)) (fun _ iv _=>x.hdrs.length - (intOf iv).toNat)
 case atStart=>exact⟨0,_,Jd _,rfl,by rw[List.take_zero];rfl,H2.out⟩
 case round=>
  obtain⟨k,acc,hk,rfl,hacc,hst⟩:=hrel;have HACC:=hQd hacc;have H:=hQd hst;have hlen:acc.length=k+2:=by rw[hacc];simp;omega
  have HLEN:=hQd hlen;clear hacc hlen H2
  by_cases hlt:k<x.hdrs.length
  ·obtain⟨b,off,hq,yq⟩:=zDj HK.out hst k hlt;subst hq;clear yq;obtain⟨y,hy⟩:=eX (x.hdrs[k]'hlt);obtain⟨c0,c1,c2,_⟩:=zFg HK.out hlt hy hst;have HY:=hQd (show acc++[y.val]=x.key::x.val::(x.hdrs.take (k+1)).map HdrS.val by rw[HACC.out,Jf hlt,hy];simp);clear hst hy;go_wp2_with (at_builtin;refine zAz rfl _ _ 280 rfl 23 Tryz.underlying280 zQS _ _ _ rfl (H.out.alloc _) [U y.val.null,Z (bb y.val.data)] 23 (by rw[World.size_alloc];rfl) rfl (by simp[Value.oneCell']) (by have:=HLEN.out;unfold maxLen;omega) (by have:=HLEN.out;omega) ?_;intro v' w' h;replace H:=hQd h;clear h);go_roundw
   case rel=>exact⟨k+1,acc++[y.val],hlt,by go_num,HY.out,H.out.cast (by simp[zCH])⟩
   case measure=>first|(simp[intOf];done)|(simp[intOf];omega)
  ·have hke:k=x.hdrs.length:=by omega
   subst hke;rw[List.take_length]at HACC;have hb:acc=zCr x:=HACC.out;subst hb;obtain⟨g,cp,hv⟩:=hst.rowSlice (by unfold zCr;simp);subst hv;clear hst;go_wp2;go_ret;exact⟨g,cp,rfl,H.out⟩
theorem zEk(x:RecS)(v:Value)(e:Int)(he:zA5 x=e)(hl:x.hdrs.length≤1000000)(hk:K.has (Know.flat RHdr v 3 x.hdrs))(h:St W0 w K L):
 Calls Jb 130 #[.agg #[I O x.time,I O x.off,U x.key.null,Z (bb x.key.data),U x.val.null,Z (bb x.val.data),v]] w fun en w'=>en=Y (I O e)∧St W0 w' K L:=by
 have H:=hQd (h.allocRaw #[I O x.time,I O x.off,U x.key.null,Z (bb x.key.data),U x.val.null,Z (bb x.val.data),v] 95);have HK:=hQd hk;have HL:=hQd hl;have hlb:(zCr x).length≤9223372036854775807:=by unfold zCr;simp;omega
 have HLB:=hQd hlb;clear h hk hl hlb;unfold zA5 at he
 by_cases h1:x.off<0
 ·rw[if_pos (.inl h1)]at he;subst he;go_enter Tryz.func130,Tryz.ntmps130;go_wp2;go_ret;exact⟨rfl,H.out.drop⟩
 by_cases h2:2147483647<x.off
 ·rw[if_pos (.inr h2)]at he;subst he;go_enter Tryz.func130,Tryz.ntmps130;go_wp2;go_ret;exact⟨rfl,H.out.drop⟩
 rw[if_neg oM]at he
 cases hr:x.allRight
 all_goals
  rw[hr]at he;have ER:=hQd ((zJD x).trans hr);clear hr
  first|(simp only[if_true]at he)|(simp only[Bool.false_eq_true,if_false]at he)
  subst he;go_enter Tryz.func130,Tryz.ntmps130
  go_wp2_with (first
   |(go_at_call 188;refine(zPW x v HL.out HK.out H.out).mono ?_;rintro e wn ⟨g,cap,rfl,h⟩;replace H:=hQd h;clear h)
   |(go_at_call 187;refine(zKx g cap _ _ rfl HLB.out H.out).mono ?_;rw[ER.out];rintro e wn ⟨rfl,h⟩;replace H:=hQd h;clear h))
  go_ret;exact⟨rfl,H.out.drop.drop⟩
set_option maxHeartbeats 8000000
variable {W0 w:World}{K:Know}{L:List Res}
theorem zNr(a b:Bs):(⟨a,0⟩:OutS).put b=⟨a++b,0⟩:=rfl
theorem zIQ(p:Nat)(x:RecS)(v:Value)(hx:x.R)(ho:zA5 x=0)(hs:x.sum≤1000000)(hk:K.has (Know.flat RHdr v 3 x.hdrs))(h:St W0 w K (.out p ⟨[],0⟩::L)):
 Calls Jb 131 #[zAc p,.agg #[I O x.time,I O x.off,U x.key.null,Z (bb x.key.data),U x.val.null,Z (bb x.val.data),v]] w fun en w'=>en=Y (.tuple #[])∧St W0 w' K (.out p ⟨recF x,0⟩::L):=by
 have H:=hQd (h.allocRaw #[I O x.time,I O x.off,U x.key.null,Z (bb x.key.data),U x.val.null,Z (bb x.val.data),v] 95).p1;have HK:=hQd hk;obtain⟨ho,hr⟩:=zHV ho;have hle:=zGl x hx hs;unfold RecS.allRight at hr;rw[Bool.and_eq_true,Bool.and_eq_true]at hr;have hsm:=hs;unfold RecS.sum at hsm;have hsl:=zDi x.hdrs;have HT:=hQd hx.1;have HO:=hQd hx.2;obtain⟨s2,h2⟩:=eX ([0]++encI x.time);obtain⟨s3,h3⟩:=eX (s2++encI x.off);obtain⟨s4,h4⟩:=eX (s3++encV x.key);obtain⟨s5,h5⟩:=eX (s4++encV x.val);have h6:s5++zD5 x.hdrs=recF x:=by rw[←h5,←h4,←h3,←h2];unfold recF;simp only[Je]
 obtain⟨s6,hs6⟩:=eX (recF x);rw[hs6]at h6 hle ⊢;have l6:=congrArg List.length h6;have l5:=congrArg List.length h5;have l4:=congrArg List.length h4;have l3:=congrArg List.length h3;have l2:=congrArg List.length h2;simp only[Jc,Jn,List.length_nil]at l2 l3 l4 l5 l6;have E1:=hQd (show(⟨[],0⟩:OutS).put [0]=⟨[0],0⟩from rfl);have E2:=hQd (show(⟨[0],0⟩:OutS).putLong x.time=⟨s2,0⟩from by rw[←h2];rfl);have E3:=hQd (show(⟨s2,0⟩:OutS).putInt x.off=⟨s3,0⟩from by rw[zHZ oM oM,zNr,h3]);have E4:=hQd (show(⟨s3,0⟩:OutS).putVaried x.key=⟨s4,0⟩from by rw[zA6 hr.1.1 oM,zNr,h4]);have E5:=hQd (show(⟨s4,0⟩:OutS).putVaried x.val=⟨s5,0⟩from by rw[zA6 hr.1.2 oM,zNr,h5]);have E6:=hQd (show(⟨s5,0⟩:OutS).putHdrs x.hdrs=⟨s6,0⟩from by rw[zIW hr.2 oM,zNr,h6]);have K1:=hQd (show(⟨[0],0⟩:OutS).ok 16 by unfold OutS.ok;simp);have K2:=hQd (show(⟨s2,0⟩:OutS).ok 16 by unfold OutS.ok;simp only;omega);have K3:=hQd (show(⟨s3,0⟩:OutS).ok (x.key.data.length+16) by unfold OutS.ok;simp only;omega);have K4:=hQd (show(⟨s4,0⟩:OutS).ok (x.val.data.length+16) by unfold OutS.ok;simp only;omega);have K5:=hQd (show(⟨s5,0⟩:OutS).ok (hsize x.hdrs+16) by unfold OutS.ok;simp only;omega);have HLL:=hQd (show x.hdrs.length≤140737488355328 by omega);have t1:True:=trivial;have t2:True:=trivial;have t3:True:=trivial;have t4:True:=trivial;have t5:True:=trivial;have t6:True:=trivial;clear h hk hx ho hr hs hle hsm hsl h2 h3 h4 h5 h6 hs6 l2 l3 l4 l5 l6;go_enter Tryz.func131,Tryz.ntmps131
 go_wp2_with (first
  |(go_at_call 103;have _t:=t1;clear _t;refine(zII _ _ 0 H.out (by unfold OutS.ok;decide)).mono ?_;rw[E1.out];rintro e wn ⟨rfl,h⟩;replace H:=hQd h;clear h t1;obtain⟨c0,c1,c2,c3,c4,c5,c6,f0,f1,f2,f3,f4,f5,f6⟩:=raw7 (b:=w.heap.size) H.out.p1)
  |(go_at_call 189;have _t:=t2;clear _t;refine(zN3 _ _ _ HT.out H.out K1.out).mono ?_;rw[E2.out];rintro e wn ⟨rfl,h⟩;replace H:=hQd h;clear h t2;obtain⟨c0,c1,c2,c3,c4,c5,c6,f0,f1,f2,f3,f4,f5,f6⟩:=raw7 (b:=w.heap.size) H.out.p1)
  |(go_at_call 190;have _t:=t3;clear _t;refine(zF6 _ _ _ HO.out H.out K2.out).mono ?_;rw[E3.out];rintro e wn ⟨rfl,h⟩;replace H:=hQd h;clear h t3;obtain⟨c0,c1,c2,c3,c4,c5,c6,f0,f1,f2,f3,f4,f5,f6⟩:=raw7 (b:=w.heap.size) H.out.p1)
  |(go_at_call 191;have _t:=t4;clear _t;refine(zBS _ _ x.key H.out K3.out).mono ?_;rw[E4.out];rintro e wn ⟨rfl,h⟩;replace H:=hQd h;clear h t4;obtain⟨c0,c1,c2,c3,c4,c5,c6,f0,f1,f2,f3,f4,f5,f6⟩:=raw7 (b:=w.heap.size) H.out.p1)
  |(go_at_call 191;have _t:=t5;clear _t;refine(zBS _ _ x.val H.out K4.out).mono ?_;rw[E5.out];rintro e wn ⟨rfl,h⟩;replace H:=hQd h;clear h t5;obtain⟨c0,c1,c2,c3,c4,c5,c6,f0,f1,f2,f3,f4,f5,f6⟩:=raw7 (b:=w.heap.size) H.out.p1)
  |(go_at_call 192;have _t:=t6;clear _t;refine(zKW _ _ _ x.hdrs HLL.out HK.out H.out K5.out).mono ?_;rw[E6.out];rintro e wn ⟨rfl,h⟩;replace H:=hQd h;clear h t6;obtain⟨c0,c1,c2,c3,c4,c5,c6,f0,f1,f2,f3,f4,f5,f6⟩:=raw7 (b:=w.heap.size) H.out.p1))
 go_end0;exact⟨rfl,H.out.p1.drop⟩
theorem zOn(x:RecS)(v:Value)(he:zA5 x=0)(hl:x.hdrs.length≤1000000)(hk:K.has (Know.flat RHdr v 3 x.hdrs))(h:St W0 w K L):
 Calls Jb 130 #[.agg #[I O x.time,I O x.off,U x.key.null,Z (bb x.key.data),U x.val.null,Z (bb x.val.data),v]] w fun en w'=>en=Y (I O 0)∧St W0 w' K L:=zEk x v 0 he hl hk h
theorem zPU(p:Nat)(o o':OutS)(x:RecS)(v:Value)(hx:x.R)(hs:x.sum≤1000000)(hoo:o.putRec x=o')(hro:o.ok 40000000)(hk:K.has (Know.flat RHdr v 3 x.hdrs))(h:St W0 w K (.out p o::L)):
 Calls Jb 80 #[zAc p,.agg #[I O x.time,I O x.off,U x.key.null,Z (bb x.key.data),U x.val.null,Z (bb x.val.data),v]] w fun en w'=>en=Y (.tuple #[])∧St W0 w' K (.out p o'::L):=by
 have H:=hQd (h.allocRaw #[I O x.time,I O x.off,U x.key.null,Z (bb x.key.data),U x.val.null,Z (bb x.val.data),v] 95).p1;have HK:=hQd hk;have HL:=hQd (show x.hdrs.length≤1000000 by have:=zDi x.hdrs;unfold RecS.sum at hs;omega);unfold OutS.putRec at hoo
 by_cases he:zA5 x=0
 ·rw[if_pos he]at hoo;have hle:=zGl x hx hs;have HX:=hQd hx;have HE:=hQd he;have HS:=hQd hs;have ET:=hQd (show(⟨recF x,0⟩:OutS).text=(recF x,0)from rfl);have EP:=hQd (show o.putName (recF x)=o' by unfold OutS.putName;rw[zA6 rfl (by simp only;omega)];exact hoo);have KO:=hQd (show o.ok ((recF x).length+16)from OutS.ok_mono hro oM);obtain⟨s,hsd⟩:=eX (recF x);rw[hsd]at ET EP KO;have HSD:=hQd hsd;clear h hk he hoo hle hx hs hro hsd;go_enter Tryz.func80,Tryz.ntmps80
  go_wp2_with (first
   |(go_at_call 130;refine(zOn x v HE.out HL.out HK.out H.out).mono ?_;rintro e wn ⟨rfl,h⟩;replace H:=hQd h;have HA:=hQd (h.p1.allocOut);clear h;obtain⟨c0,c1,c2,c3,c4,c5,c6,f0,f1,f2,f3,f4,f5,f6⟩:=raw7 (b:=w.heap.size) HA.out.p1)
   |(go_at_call 131;refine(zIQ _ x v HX.out HE.out HS.out HK.out HA.out).mono ?_;rw[HSD.out];rintro e wn ⟨rfl,h⟩;replace H:=hQd h;clear h)
   |(go_at_call 49;refine(zGa _ _ H.out).mono ?_;rw[ET.out];rintro e wn ⟨rfl,h⟩;replace H:=hQd h.p2;clear h)
   |(go_at_call 132;refine(zFE _ _ s H.out KO.out).mono ?_;rw[EP.out];rintro e wn ⟨rfl,h⟩;replace H:=hQd h;clear h))
  go_end0;exact⟨rfl,H.out.p2.drop.p1.drop⟩
 ·rw[if_neg he]at hoo;obtain⟨e,hee⟩:=eX (zA5 x);rw[hee]at he hoo;have hb:(e !=0)=true:=by rw[bne_iff_ne];exact he
  have HE:=hQd hee;have EF:=hQd hoo;clear h hk he hoo hx hs hro hee;go_enter Tryz.func80,Tryz.ntmps80
  go_wp2_with (first
   |(go_at_call 130;refine(zEk x v e HE.out HL.out HK.out H.out).zM ?_;clear H;intro wn H)
   |(go_at_call 95;refine(zDW _ _ _ H.out).mono ?_;rw[EF.out];rintro e wn ⟨rfl,h⟩;replace H:=hQd h;clear h))
  refine bodyPost_ret (results_none rfl _ _ _) rfl ⟨rfl,H.out.p1.drop⟩
variable {W0 w:World}{K:Know}{L:List Res}
theorem St.raw_ne{a b:Nat}{c c':Array Value}{T T':TypeId}(h:St W0 w K (.raw a c T::.raw b c' T'::L)):¬(a=b):=by
 rintro rfl;obtain⟨_,S,F,⟨S1,S2,h1,⟨S3,S4,h3,_,_,e3⟩,d1,_⟩,_⟩:=h;exact d1 a ((h1.2 a).2 rfl) ((e3 a).2 (.inl ((h3.2 a).2 rfl)))
theorem St.set1{r:Res}{b j:Nat}{c:Array Value}{T:TypeId}{v:Value}(h:St W0 w K (r::.raw b c T::L)):St W0 (w.setCell ⟨b,j,none⟩ v) K (r::.raw b (c.setIfInBounds j v) T::L):=(h.p1.rawSet j v).p1
theorem zq38{p:Prop}(h:p:=by simp[results,Tryz.results129,go_sem,qc0,qc1,qc2,qc3,qc4,qc5,qc6]):p:=h
theorem zIS(p:Nat)(i i1 i2 i3 i4 i5 i6:InS)(a t o:Int)(kb vb:BlobS)(hs:List HdrS)(e0:i.int 1=(a,i1))(ha:(a !=0)=false)(e1:i1.vlong=(t,i2))(e2:i2.vint=(o,i3))(ho:¬o<0)(e4:i3.varied=(kb,i4))(e5:i4.varied=(vb,i5))(e6:i5.hdrs=(hs,i6))(h:St W0 w K (.inp p i::L)):
 Calls Jb 129 #[zAe p] w fun en w'=>∃v,en=Y (.agg #[I O t,I O o,U kb.null,Z (bb kb.data),U vb.null,Z (bb vb.data),v])∧St W0 w' (K.and (Know.flat RHdr v 3 hs)) (.inp p i6::L):=by
 have h0:=(h.allocRaw #[I O 0,I O 0,U false,Z ⟨#[]⟩,U false,Z ⟨#[]⟩,V none 0 0] 95).p1;obtain⟨wA,hwA⟩:=eX w.heap.size;rw[hwA]at h0;have H:=hQd h0;have E0:=hQd e0;have E1:=hQd e1;have E2:=hQd e2;have E4:=hQd e4;have E5:=hQd e5;have E6:=hQd e6;have t0:True:=trivial;have t1:True:=trivial;have t2:True:=trivial;have t3:True:=trivial;have t4:True:=trivial;have t5:True:=trivial;have t6:True:=trivial;clear h h0 e0 e1 e2 e4 e5 e6;go_enter Tryz.func129,Tryz.ntmps129
 go_wp2_with (first
  |(go_at_call 66;have _t:=t0;clear _t;refine(zCa _ i 1 H.out).mono ?_;rw[E0.out];rintro e wn ⟨rfl,h⟩;replace H:=hQd (show St W0 wn K (.inp p i1::.raw wA #[I O 0,I O 0,U false,Z ⟨#[]⟩,U false,Z ⟨#[]⟩,V none 0 0] 95::L)from h);clear h t0;obtain⟨wB,hwB⟩:=eX wn.heap.size;have HB:=H.out.allocRaw #[I O 0,I O 0,U false,Z ⟨#[]⟩,U false,Z ⟨#[]⟩,V none 0 0] 95;rw[hwB]at HB;have HB:=hQd HB.p1)
  |(go_at_call 184;have _t:=t2;clear _t;refine(zIF _ i1 HB.out).mono ?_;rw[E1.out];rintro e wn ⟨rfl,h⟩;replace H:=hQd (show St W0 wn (K) (.inp p i2::.raw wB #[I O 0,I O 0,U false,Z ⟨#[]⟩,U false,Z ⟨#[]⟩,V none 0 0] 95::.raw wA #[I O 0,I O 0,U false,Z ⟨#[]⟩,U false,Z ⟨#[]⟩,V none 0 0] 95::L)from h);clear h t2;obtain⟨yc0,yc1,yc2,yc3,yc4,yc5,yc6,yf0,yf1,yf2,yf3,yf4,yf5,yf6⟩:=raw7 (H.out.p1))
  |(go_at_call 185;have _t:=t3;clear _t;refine(zF7 _ i2 (St.set1 H.out)).mono ?_;rw[E2.out];rintro e wn ⟨rfl,h⟩;replace H:=hQd (show St W0 wn (K) (.inp p i3::.raw wB #[I O t,I O 0,U false,Z ⟨#[]⟩,U false,Z ⟨#[]⟩,V none 0 0] 95::.raw wA #[I O 0,I O 0,U false,Z ⟨#[]⟩,U false,Z ⟨#[]⟩,V none 0 0] 95::L)from h);clear h t3;obtain⟨yc0,yc1,yc2,yc3,yc4,yc5,yc6,yf0,yf1,yf2,yf3,yf4,yf5,yf6⟩:=raw7 (H.out.p1))
  |(go_at_call 183;have _t:=t5;clear _t;refine(zAS _ i3 (St.set1 H.out)).mono ?_;rw[E4.out];rintro e wn ⟨rfl,h⟩;replace H:=hQd (show St W0 wn (K) (.inp p i4::.raw wB #[I O t,I O o,U false,Z ⟨#[]⟩,U false,Z ⟨#[]⟩,V none 0 0] 95::.raw wA #[I O 0,I O 0,U false,Z ⟨#[]⟩,U false,Z ⟨#[]⟩,V none 0 0] 95::L)from h);clear h t5;obtain⟨yc0,yc1,yc2,yc3,yc4,yc5,yc6,yf0,yf1,yf2,yf3,yf4,yf5,yf6⟩:=raw7 (H.out.p1);unfold bv)
  |(go_at_call 183;have _t:=t6;clear _t;refine(zAS _ i4 (St.set1 (St.set1 H.out))).mono ?_;rw[E5.out];rintro e wn ⟨rfl,h⟩;replace H:=hQd (show St W0 wn (K) (.inp p i5::.raw wB #[I O t,I O o,U kb.null,Z (bb kb.data),U false,Z ⟨#[]⟩,V none 0 0] 95::.raw wA #[I O 0,I O 0,U false,Z ⟨#[]⟩,U false,Z ⟨#[]⟩,V none 0 0] 95::L)from h);clear h t6;obtain⟨yc0,yc1,yc2,yc3,yc4,yc5,yc6,yf0,yf1,yf2,yf3,yf4,yf5,yf6⟩:=raw7 (H.out.p1);unfold bv)
  |(go_at_call 186;refine(zCT _ i5 (St.set1 (St.set1 H.out))).mono ?_;rw[E6.out];rintro e wn ⟨v,rfl,h⟩;obtain⟨q6,cap6,hv6⟩:=zAr (Know.has_right (Know.has_refl _)) h;subst hv6;replace H:=hQd (show St W0 wn (K.and (Know.flat RHdr (V q6 hs.length cap6) 3 hs)) (.inp p i6::.raw wB #[I O t,I O o,U kb.null,Z (bb kb.data),U vb.null,Z (bb vb.data),V none 0 0] 95::.raw wA #[I O 0,I O 0,U false,Z ⟨#[]⟩,U false,Z ⟨#[]⟩,V none 0 0] 95::L)from h);clear h;obtain⟨yc0,yc1,yc2,yc3,yc4,yc5,yc6,yf0,yf1,yf2,yf3,yf4,yf5,yf6⟩:=raw7 (H.out.p1);obtain⟨qc0,qc1,qc2,qc3,qc4,qc5,qc6,qf0,qf1,qf2,qf3,qf4,qf5,qf6⟩:=raw7 (H.out.p2);have hne1:¬(wB=wA):=H.out.drop.raw_ne;have hne2:¬(wA=wB):=(fun e=>hne1 e.symm)))
 refine bodyPost_ret (v:=.agg #[I O t,I O o,U kb.null,Z (bb kb.data),U vb.null,Z (bb vb.data),V q6 hs.length cap6]) zq38 rfl ⟨V q6 hs.length cap6,rfl,?_⟩;exact(((((((((H.out.p1.rawSet 6 (V q6 hs.length cap6)).p2).rawSet 0 _).rawSet 1 _).rawSet 2 _).rawSet 3 _).rawSet 4 _).rawSet 5 _).rawSet 6 _).drop.drop
theorem zIR(p:Nat)(i i1 i2 i3 j3 i4 i5 i6:InS)(a t o:Int)(kb vb:BlobS)(hs:List HdrS)(e0:i.int 1=(a,i1))(ha:(a !=0)=false)(e1:i1.vlong=(t,i2))(e2:i2.vint=(o,i3))(ho:o<0)(ej3:i3.fail 11=j3)(e4:j3.varied=(kb,i4))(e5:i4.varied=(vb,i5))(e6:i5.hdrs=(hs,i6))(h:St W0 w K (.inp p i::L)):
 Calls Jb 129 #[zAe p] w fun en w'=>∃v,en=Y (.agg #[I O t,I O o,U kb.null,Z (bb kb.data),U vb.null,Z (bb vb.data),v])∧St W0 w' (K.and (Know.flat RHdr v 3 hs)) (.inp p i6::L):=by
 have h0:=(h.allocRaw #[I O 0,I O 0,U false,Z ⟨#[]⟩,U false,Z ⟨#[]⟩,V none 0 0] 95).p1;obtain⟨wA,hwA⟩:=eX w.heap.size;rw[hwA]at h0;have H:=hQd h0;have E0:=hQd e0;have E1:=hQd e1;have E2:=hQd e2;have E4:=hQd e4;have E5:=hQd e5;have E6:=hQd e6;have EJ3:=hQd ej3;have t0:True:=trivial;have t1:True:=trivial;have t2:True:=trivial;have t3:True:=trivial;have t4:True:=trivial;have t5:True:=trivial;have t6:True:=trivial;clear h h0 e0 e1 e2 e4 e5 e6 ej3;go_enter Tryz.func129,Tryz.ntmps129
 go_wp2_with (first
  |(go_at_call 66;have _t:=t0;clear _t;refine(zCa _ i 1 H.out).mono ?_;rw[E0.out];rintro e wn ⟨rfl,h⟩;replace H:=hQd (show St W0 wn K (.inp p i1::.raw wA #[I O 0,I O 0,U false,Z ⟨#[]⟩,U false,Z ⟨#[]⟩,V none 0 0] 95::L)from h);clear h t0;obtain⟨wB,hwB⟩:=eX wn.heap.size;have HB:=H.out.allocRaw #[I O 0,I O 0,U false,Z ⟨#[]⟩,U false,Z ⟨#[]⟩,V none 0 0] 95;rw[hwB]at HB;have HB:=hQd HB.p1)
  |(go_at_call 184;have _t:=t2;clear _t;refine(zIF _ i1 HB.out).mono ?_;rw[E1.out];rintro e wn ⟨rfl,h⟩;replace H:=hQd (show St W0 wn (K) (.inp p i2::.raw wB #[I O 0,I O 0,U false,Z ⟨#[]⟩,U false,Z ⟨#[]⟩,V none 0 0] 95::.raw wA #[I O 0,I O 0,U false,Z ⟨#[]⟩,U false,Z ⟨#[]⟩,V none 0 0] 95::L)from h);clear h t2;obtain⟨yc0,yc1,yc2,yc3,yc4,yc5,yc6,yf0,yf1,yf2,yf3,yf4,yf5,yf6⟩:=raw7 (H.out.p1))
  |(go_at_call 185;have _t:=t3;clear _t;refine(zF7 _ i2 (St.set1 H.out)).mono ?_;rw[E2.out];rintro e wn ⟨rfl,h⟩;replace H:=hQd (show St W0 wn (K) (.inp p i3::.raw wB #[I O t,I O 0,U false,Z ⟨#[]⟩,U false,Z ⟨#[]⟩,V none 0 0] 95::.raw wA #[I O 0,I O 0,U false,Z ⟨#[]⟩,U false,Z ⟨#[]⟩,V none 0 0] 95::L)from h);clear h t3;obtain⟨yc0,yc1,yc2,yc3,yc4,yc5,yc6,yf0,yf1,yf2,yf3,yf4,yf5,yf6⟩:=raw7 (H.out.p1))
  |(go_at_call 70;have _t:=t4;clear _t;refine(zBV _ i3 11 (St.set1 H.out)).mono ?_;rw[EJ3.out];rintro e wn ⟨rfl,h⟩;replace H:=hQd (show St W0 wn (K) (.inp p j3::.raw wB #[I O t,I O o,U false,Z ⟨#[]⟩,U false,Z ⟨#[]⟩,V none 0 0] 95::.raw wA #[I O 0,I O 0,U false,Z ⟨#[]⟩,U false,Z ⟨#[]⟩,V none 0 0] 95::L)from h);clear h t4;obtain⟨yc0,yc1,yc2,yc3,yc4,yc5,yc6,yf0,yf1,yf2,yf3,yf4,yf5,yf6⟩:=raw7 (H.out.p1);have HX:=H)
  |(go_at_call 183;have _t:=t5;clear _t;refine(zAS _ j3 H.out).mono ?_;rw[E4.out];rintro e wn ⟨rfl,h⟩;replace H:=hQd (show St W0 wn (K) (.inp p i4::.raw wB #[I O t,I O o,U false,Z ⟨#[]⟩,U false,Z ⟨#[]⟩,V none 0 0] 95::.raw wA #[I O 0,I O 0,U false,Z ⟨#[]⟩,U false,Z ⟨#[]⟩,V none 0 0] 95::L)from h);clear h t5;obtain⟨yc0,yc1,yc2,yc3,yc4,yc5,yc6,yf0,yf1,yf2,yf3,yf4,yf5,yf6⟩:=raw7 (H.out.p1);unfold bv)
  |(go_at_call 183;have _t:=t6;clear _t;refine(zAS _ i4 (St.set1 (St.set1 H.out))).mono ?_;rw[E5.out];rintro e wn ⟨rfl,h⟩;replace H:=hQd (show St W0 wn (K) (.inp p i5::.raw wB #[I O t,I O o,U kb.null,Z (bb kb.data),U false,Z ⟨#[]⟩,V none 0 0] 95::.raw wA #[I O 0,I O 0,U false,Z ⟨#[]⟩,U false,Z ⟨#[]⟩,V none 0 0] 95::L)from h);clear h t6;obtain⟨yc0,yc1,yc2,yc3,yc4,yc5,yc6,yf0,yf1,yf2,yf3,yf4,yf5,yf6⟩:=raw7 (H.out.p1);unfold bv)
  |(go_at_call 186;refine(zCT _ i5 (St.set1 (St.set1 H.out))).mono ?_;rw[E6.out];rintro e wn ⟨v,rfl,h⟩;obtain⟨q6,cap6,hv6⟩:=zAr (Know.has_right (Know.has_refl _)) h;subst hv6;replace H:=hQd (show St W0 wn (K.and (Know.flat RHdr (V q6 hs.length cap6) 3 hs)) (.inp p i6::.raw wB #[I O t,I O o,U kb.null,Z (bb kb.data),U vb.null,Z (bb vb.data),V none 0 0] 95::.raw wA #[I O 0,I O 0,U false,Z ⟨#[]⟩,U false,Z ⟨#[]⟩,V none 0 0] 95::L)from h);clear h;obtain⟨yc0,yc1,yc2,yc3,yc4,yc5,yc6,yf0,yf1,yf2,yf3,yf4,yf5,yf6⟩:=raw7 (H.out.p1);obtain⟨qc0,qc1,qc2,qc3,qc4,qc5,qc6,qf0,qf1,qf2,qf3,qf4,qf5,qf6⟩:=raw7 (H.out.p2);have hne1:¬(wB=wA):=H.out.drop.raw_ne;have hne2:¬(wA=wB):=(fun e=>hne1 e.symm)))
 refine bodyPost_ret (v:=.agg #[I O t,I O o,U kb.null,Z (bb kb.data),U vb.null,Z (bb vb.data),V q6 hs.length cap6]) zq38 rfl ⟨V q6 hs.length cap6,rfl,?_⟩;exact(((((((((H.out.p1.rawSet 6 (V q6 hs.length cap6)).p2).rawSet 0 _).rawSet 1 _).rawSet 2 _).rawSet 3 _).rawSet 4 _).rawSet 5 _).rawSet 6 _).drop.drop
theorem zIU(p:Nat)(i i1 j1 i2 i3 i4 i5 i6:InS)(a t o:Int)(kb vb:BlobS)(hs:List HdrS)(e0:i.int 1=(a,i1))(ha:(a !=0)=true)(ej1:i1.fail 8=j1)(e1:j1.vlong=(t,i2))(e2:i2.vint=(o,i3))(ho:¬o<0)(e4:i3.varied=(kb,i4))(e5:i4.varied=(vb,i5))(e6:i5.hdrs=(hs,i6))(h:St W0 w K (.inp p i::L)):
 Calls Jb 129 #[zAe p] w fun en w'=>∃v,en=Y (.agg #[I O t,I O o,U kb.null,Z (bb kb.data),U vb.null,Z (bb vb.data),v])∧St W0 w' (K.and (Know.flat RHdr v 3 hs)) (.inp p i6::L):=by
 have h0:=(h.allocRaw #[I O 0,I O 0,U false,Z ⟨#[]⟩,U false,Z ⟨#[]⟩,V none 0 0] 95).p1;obtain⟨wA,hwA⟩:=eX w.heap.size;rw[hwA]at h0;have H:=hQd h0;have E0:=hQd e0;have E1:=hQd e1;have E2:=hQd e2;have E4:=hQd e4;have E5:=hQd e5;have E6:=hQd e6;have EJ1:=hQd ej1;have t0:True:=trivial;have t1:True:=trivial;have t2:True:=trivial;have t3:True:=trivial;have t4:True:=trivial;have t5:True:=trivial;have t6:True:=trivial;clear h h0 e0 e1 e2 e4 e5 e6 ej1;go_enter Tryz.func129,Tryz.ntmps129
 go_wp2_with (first
  |(go_at_call 66;have _t:=t0;clear _t;refine(zCa _ i 1 H.out).mono ?_;rw[E0.out];rintro e wn ⟨rfl,h⟩;replace H:=hQd (show St W0 wn K (.inp p i1::.raw wA #[I O 0,I O 0,U false,Z ⟨#[]⟩,U false,Z ⟨#[]⟩,V none 0 0] 95::L)from h);clear h t0;skip)
  |(go_at_call 70;have _t:=t1;clear _t;refine(zBV _ i1 8 H.out).mono ?_;rw[EJ1.out];rintro e wn ⟨rfl,h⟩;replace H:=hQd (show St W0 wn K (.inp p j1::.raw wA #[I O 0,I O 0,U false,Z ⟨#[]⟩,U false,Z ⟨#[]⟩,V none 0 0] 95::L)from h);clear h t1;obtain⟨wB,hwB⟩:=eX wn.heap.size;have HB:=H.out.allocRaw #[I O 0,I O 0,U false,Z ⟨#[]⟩,U false,Z ⟨#[]⟩,V none 0 0] 95;rw[hwB]at HB;have HB:=hQd HB.p1)
  |(go_at_call 184;have _t:=t2;clear _t;refine(zIF _ j1 HB.out).mono ?_;rw[E1.out];rintro e wn ⟨rfl,h⟩;replace H:=hQd (show St W0 wn (K) (.inp p i2::.raw wB #[I O 0,I O 0,U false,Z ⟨#[]⟩,U false,Z ⟨#[]⟩,V none 0 0] 95::.raw wA #[I O 0,I O 0,U false,Z ⟨#[]⟩,U false,Z ⟨#[]⟩,V none 0 0] 95::L)from h);clear h t2;obtain⟨yc0,yc1,yc2,yc3,yc4,yc5,yc6,yf0,yf1,yf2,yf3,yf4,yf5,yf6⟩:=raw7 (H.out.p1))
  |(go_at_call 185;have _t:=t3;clear _t;refine(zF7 _ i2 (St.set1 H.out)).mono ?_;rw[E2.out];rintro e wn ⟨rfl,h⟩;replace H:=hQd (show St W0 wn (K) (.inp p i3::.raw wB #[I O t,I O 0,U false,Z ⟨#[]⟩,U false,Z ⟨#[]⟩,V none 0 0] 95::.raw wA #[I O 0,I O 0,U false,Z ⟨#[]⟩,U false,Z ⟨#[]⟩,V none 0 0] 95::L)from h);clear h t3;obtain⟨yc0,yc1,yc2,yc3,yc4,yc5,yc6,yf0,yf1,yf2,yf3,yf4,yf5,yf6⟩:=raw7 (H.out.p1))
  |(go_at_call 183;have _t:=t5;clear _t;refine(zAS _ i3 (St.set1 H.out)).mono ?_;rw[E4.out];rintro e wn ⟨rfl,h⟩;replace H:=hQd (show St W0 wn (K) (.inp p i4::.raw wB #[I O t,I O o,U false,Z ⟨#[]⟩,U false,Z ⟨#[]⟩,V none 0 0] 95::.raw wA #[I O 0,I O 0,U false,Z ⟨#[]⟩,U false,Z ⟨#[]⟩,V none 0 0] 95::L)from h);clear h t5;obtain⟨yc0,yc1,yc2,yc3,yc4,yc5,yc6,yf0,yf1,yf2,yf3,yf4,yf5,yf6⟩:=raw7 (H.out.p1);unfold bv)
  |(go_at_call 183;have _t:=t6;clear _t;refine(zAS _ i4 (St.set1 (St.set1 H.out))).mono ?_;rw[E5.out];rintro e wn ⟨rfl,h⟩;replace H:=hQd (show St W0 wn (K) (.inp p i5::.raw wB #[I O t,I O o,U kb.null,Z (bb kb.data),U false,Z ⟨#[]⟩,V none 0 0] 95::.raw wA #[I O 0,I O 0,U false,Z ⟨#[]⟩,U false,Z ⟨#[]⟩,V none 0 0] 95::L)from h);clear h t6;obtain⟨yc0,yc1,yc2,yc3,yc4,yc5,yc6,yf0,yf1,yf2,yf3,yf4,yf5,yf6⟩:=raw7 (H.out.p1);unfold bv)
  |(go_at_call 186;refine(zCT _ i5 (St.set1 (St.set1 H.out))).mono ?_;rw[E6.out];rintro e wn ⟨v,rfl,h⟩;obtain⟨q6,cap6,hv6⟩:=zAr (Know.has_right (Know.has_refl _)) h;subst hv6;replace H:=hQd (show St W0 wn (K.and (Know.flat RHdr (V q6 hs.length cap6) 3 hs)) (.inp p i6::.raw wB #[I O t,I O o,U kb.null,Z (bb kb.data),U vb.null,Z (bb vb.data),V none 0 0] 95::.raw wA #[I O 0,I O 0,U false,Z ⟨#[]⟩,U false,Z ⟨#[]⟩,V none 0 0] 95::L)from h);clear h;obtain⟨yc0,yc1,yc2,yc3,yc4,yc5,yc6,yf0,yf1,yf2,yf3,yf4,yf5,yf6⟩:=raw7 (H.out.p1);obtain⟨qc0,qc1,qc2,qc3,qc4,qc5,qc6,qf0,qf1,qf2,qf3,qf4,qf5,qf6⟩:=raw7 (H.out.p2);have hne1:¬(wB=wA):=H.out.drop.raw_ne;have hne2:¬(wA=wB):=(fun e=>hne1 e.symm)))
 refine bodyPost_ret (v:=.agg #[I O t,I O o,U kb.null,Z (bb kb.data),U vb.null,Z (bb vb.data),V q6 hs.length cap6]) zq38 rfl ⟨V q6 hs.length cap6,rfl,?_⟩;exact(((((((((H.out.p1.rawSet 6 (V q6 hs.length cap6)).p2).rawSet 0 _).rawSet 1 _).rawSet 2 _).rawSet 3 _).rawSet 4 _).rawSet 5 _).rawSet 6 _).drop.drop
theorem zIT(p:Nat)(i i1 j1 i2 i3 j3 i4 i5 i6:InS)(a t o:Int)(kb vb:BlobS)(hs:List HdrS)(e0:i.int 1=(a,i1))(ha:(a !=0)=true)(ej1:i1.fail 8=j1)(e1:j1.vlong=(t,i2))(e2:i2.vint=(o,i3))(ho:o<0)(ej3:i3.fail 11=j3)(e4:j3.varied=(kb,i4))(e5:i4.varied=(vb,i5))(e6:i5.hdrs=(hs,i6))(h:St W0 w K (.inp p i::L)):
 Calls Jb 129 #[zAe p] w fun en w'=>∃v,en=Y (.agg #[I O t,I O o,U kb.null,Z (bb kb.data),U vb.null,Z (bb vb.data),v])∧St W0 w' (K.and (Know.flat RHdr v 3 hs)) (.inp p i6::L):=by
 have h0:=(h.allocRaw #[I O 0,I O 0,U false,Z ⟨#[]⟩,U false,Z ⟨#[]⟩,V none 0 0] 95).p1;obtain⟨wA,hwA⟩:=eX w.heap.size;rw[hwA]at h0;have H:=hQd h0;have E0:=hQd e0;have E1:=hQd e1;have E2:=hQd e2;have E4:=hQd e4;have E5:=hQd e5;have E6:=hQd e6;have EJ1:=hQd ej1;have EJ3:=hQd ej3;have t0:True:=trivial;have t1:True:=trivial;have t2:True:=trivial;have t3:True:=trivial;have t4:True:=trivial;have t5:True:=trivial;have t6:True:=trivial;clear h h0 e0 e1 e2 e4 e5 e6 ej1 ej3;go_enter Tryz.func129,Tryz.ntmps129
 go_wp2_with (first
  |(go_at_call 66;have _t:=t0;clear _t;refine(zCa _ i 1 H.out).mono ?_;rw[E0.out];rintro e wn ⟨rfl,h⟩;replace H:=hQd (show St W0 wn K (.inp p i1::.raw wA #[I O 0,I O 0,U false,Z ⟨#[]⟩,U false,Z ⟨#[]⟩,V none 0 0] 95::L)from h);clear h t0;skip)
  |(go_at_call 70;have _t:=t1;clear _t;refine(zBV _ i1 8 H.out).mono ?_;rw[EJ1.out];rintro e wn ⟨rfl,h⟩;replace H:=hQd (show St W0 wn K (.inp p j1::.raw wA #[I O 0,I O 0,U false,Z ⟨#[]⟩,U false,Z ⟨#[]⟩,V none 0 0] 95::L)from h);clear h t1;obtain⟨wB,hwB⟩:=eX wn.heap.size;have HB:=H.out.allocRaw #[I O 0,I O 0,U false,Z ⟨#[]⟩,U false,Z ⟨#[]⟩,V none 0 0] 95;rw[hwB]at HB;have HB:=hQd HB.p1)
  |(go_at_call 184;have _t:=t2;clear _t;refine(zIF _ j1 HB.out).mono ?_;rw[E1.out];rintro e wn ⟨rfl,h⟩;replace H:=hQd (show St W0 wn (K) (.inp p i2::.raw wB #[I O 0,I O 0,U false,Z ⟨#[]⟩,U false,Z ⟨#[]⟩,V none 0 0] 95::.raw wA #[I O 0,I O 0,U false,Z ⟨#[]⟩,U false,Z ⟨#[]⟩,V none 0 0] 95::L)from h);clear h t2;obtain⟨yc0,yc1,yc2,yc3,yc4,yc5,yc6,yf0,yf1,yf2,yf3,yf4,yf5,yf6⟩:=raw7 (H.out.p1))
  |(go_at_call 185;have _t:=t3;clear _t;refine(zF7 _ i2 (St.set1 H.out)).mono ?_;rw[E2.out];rintro e wn ⟨rfl,h⟩;replace H:=hQd (show St W0 wn (K) (.inp p i3::.raw wB #[I O t,I O 0,U false,Z ⟨#[]⟩,U false,Z ⟨#[]⟩,V none 0 0] 95::.raw wA #[I O 0,I O 0,U false,Z ⟨#[]⟩,U false,Z ⟨#[]⟩,V none 0 0] 95::L)from h);clear h t3;obtain⟨yc0,yc1,yc2,yc3,yc4,yc5,yc6,yf0,yf1,yf2,yf3,yf4,yf5,yf6⟩:=raw7 (H.out.p1))
  |(go_at_call 70;have _t:=t4;clear _t;refine(zBV _ i3 11 (St.set1 H.out)).mono ?_;rw[EJ3.out];rintro e wn ⟨rfl,h⟩;replace H:=hQd (show St W0 wn (K) (.inp p j3::.raw wB #[I O t,I O o,U false,Z ⟨#[]⟩,U false,Z ⟨#[]⟩,V none 0 0] 95::.raw wA #[I O 0,I O 0,U false,Z ⟨#[]⟩,U false,Z ⟨#[]⟩,V none 0 0] 95::L)from h);clear h t4;obtain⟨yc0,yc1,yc2,yc3,yc4,yc5,yc6,yf0,yf1,yf2,yf3,yf4,yf5,yf6⟩:=raw7 (H.out.p1);have HX:=H)
  |(go_at_call 183;have _t:=t5;clear _t;refine(zAS _ j3 H.out).mono ?_;rw[E4.out];rintro e wn ⟨rfl,h⟩;replace H:=hQd (show St W0 wn (K) (.inp p i4::.raw wB #[I O t,I O o,U false,Z ⟨#[]⟩,U false,Z ⟨#[]⟩,V none 0 0] 95::.raw wA #[I O 0,I O 0,U false,Z ⟨#[]⟩,U false,Z ⟨#[]⟩,V none 0 0] 95::L)from h);clear h t5;obtain⟨yc0,yc1,yc2,yc3,yc4,yc5,yc6,yf0,yf1,yf2,yf3,yf4,yf5,yf6⟩:=raw7 (H.out.p1);unfold bv)
  |(go_at_call 183;have _t:=t6;clear _t;refine(zAS _ i4 (St.set1 (St.set1 H.out))).mono ?_;rw[E5.out];rintro e wn ⟨rfl,h⟩;replace H:=hQd (show St W0 wn (K) (.inp p i5::.raw wB #[I O t,I O o,U kb.null,Z (bb kb.data),U false,Z ⟨#[]⟩,V none 0 0] 95::.raw wA #[I O 0,I O 0,U false,Z ⟨#[]⟩,U false,Z ⟨#[]⟩,V none 0 0] 95::L)from h);clear h t6;obtain⟨yc0,yc1,yc2,yc3,yc4,yc5,yc6,yf0,yf1,yf2,yf3,yf4,yf5,yf6⟩:=raw7 (H.out.p1);unfold bv)
  |(go_at_call 186;refine(zCT _ i5 (St.set1 (St.set1 H.out))).mono ?_;rw[E6.out];rintro e wn ⟨v,rfl,h⟩;obtain⟨q6,cap6,hv6⟩:=zAr (Know.has_right (Know.has_refl _)) h;subst hv6;replace H:=hQd (show St W0 wn (K.and (Know.flat RHdr (V q6 hs.length cap6) 3 hs)) (.inp p i6::.raw wB #[I O t,I O o,U kb.null,Z (bb kb.data),U vb.null,Z (bb vb.data),V none 0 0] 95::.raw wA #[I O 0,I O 0,U false,Z ⟨#[]⟩,U false,Z ⟨#[]⟩,V none 0 0] 95::L)from h);clear h;obtain⟨yc0,yc1,yc2,yc3,yc4,yc5,yc6,yf0,yf1,yf2,yf3,yf4,yf5,yf6⟩:=raw7 (H.out.p1);obtain⟨qc0,qc1,qc2,qc3,qc4,qc5,qc6,qf0,qf1,qf2,qf3,qf4,qf5,qf6⟩:=raw7 (H.out.p2);have hne1:¬(wB=wA):=H.out.drop.raw_ne;have hne2:¬(wA=wB):=(fun e=>hne1 e.symm)))
 refine bodyPost_ret (v:=.agg #[I O t,I O o,U kb.null,Z (bb kb.data),U vb.null,Z (bb vb.data),V q6 hs.length cap6]) zq38 rfl ⟨V q6 hs.length cap6,rfl,?_⟩;exact(((((((((H.out.p1.rawSet 6 (V q6 hs.length cap6)).p2).rawSet 0 _).rawSet 1 _).rawSet 2 _).rawSet 3 _).rawSet 4 _).rawSet 5 _).rawSet 6 _).drop.drop
theorem zE6(p:Nat)(i:InS)(h:St W0 w K (.inp p i::L)):
 Calls Jb 129 #[zAe p] w fun en w'=>∃v,en=Y (.agg #[I O i.recFields.1.time,I O i.recFields.1.off,U i.recFields.1.key.null,Z (bb i.recFields.1.key.data),U i.recFields.1.val.null,Z (bb i.recFields.1.val.data),v])∧St W0 w' (K.and (Know.flat RHdr v 3 i.recFields.1.hdrs)) (.inp p i.recFields.2::L):=by
 obtain⟨⟨a,i1⟩,e0⟩:∃z,i.int 1=z:=⟨_,rfl⟩;unfold InS.recFields;rw[e0];simp only
 by_cases ha:a=0
 ·rw[if_pos ha];unfold InS.recTime InS.recOff
  by_cases ho:i1.vlong.2.vint.1<0
  ·rw[if_pos ho];exact zIR p i _ _ _ _ _ _ _ a _ _ _ _ _ e0 (by rw[ha];rfl) rfl rfl ho rfl rfl rfl rfl h
  ·rw[if_neg ho];exact zIS p i _ _ _ _ _ _ a _ _ _ _ _ e0 (by rw[ha];rfl) rfl rfl ho rfl rfl rfl h
 ·rw[if_neg ha];unfold InS.recTime InS.recOff
  by_cases ho:(i1.fail 8).vlong.2.vint.1<0
  ·rw[if_pos ho];exact zIT p i _ _ _ _ _ _ _ _ a _ _ _ _ _ e0 (bne_iff_ne.2 ha) rfl rfl rfl ho rfl rfl rfl rfl h
  ·rw[if_neg ho];exact zIU p i _ _ _ _ _ _ _ a _ _ _ _ _ e0 (bne_iff_ne.2 ha) rfl rfl rfl ho rfl rfl rfl h
variable {W0 w:World}{K:Know}{L:List Res}
theorem zq45{p:Prop}(h:p:=by simp[results,Tryz.results79,go_sem,ac0,ac1,ac2,ac3,ac4,ac5,ac6]):p:=h
theorem zMj(p:Nat)(i i1 k c:InS)(nm:Bs)(x:RecS)(hn:i.name=(nm,i1))(hx:(⟨nm,0,0⟩:InS).recFields=(x,k))(hc:k.close=c)(hl:nm.length≤140737488355328)(he:c.err=0)(hj:i1.err=0)(h:St W0 w K (.inp p i::L)):
 Calls Jb 79 #[zAe p] w fun en w'=>∃v,en=Y (.agg #[I O x.time,I O x.off,U x.key.null,Z (bb x.key.data),U x.val.null,Z (bb x.val.data),v])∧St W0 w' (K.and (Know.flat RHdr v 3 x.hdrs)) (.inp p i1::L):=by
 have h0:=(h.allocRaw #[I O 0,I O 0,U false,Z ⟨#[]⟩,U false,Z ⟨#[]⟩,V none 0 0] 95).p1;obtain⟨wA,hwA⟩:=eX w.heap.size;rw[hwA]at h0;have H:=hQd h0;have EN:=hQd hn;have EX:=hQd hx;have EC:=hQd hc;have HL:=hQd hl;have HE:=hQd he;have HJ:=hQd hj
 skip
 clear h h0 hn hx hc hl he hj;go_enter Tryz.func79,Tryz.ntmps79
 go_wp2_with (first
  |(go_at_call 128;refine(zEI _ i H.out).mono ?_;rw[EN.out];rintro e wn ⟨rfl,h⟩;replace H:=hQd h;clear h)
  |(go_at_call 19;refine(zEh nm HL.out H.out).mono ?_;rintro e wn ⟨bi,rfl,h⟩;replace H:=hQd h;clear h)
  |(go_at_call 129;refine(zE6 _ _ H.out).mono ?_;rw[EX.out];rintro e wn ⟨v6,rfl,h⟩;obtain⟨q6,cap6,hv6⟩:=zAr (Know.has_right (Know.has_refl _)) h;subst hv6;obtain⟨wB,hwB⟩:=eX wn.heap.size;have h:=h.allocRaw #[I O x.time,I O x.off,U x.key.null,Z (bb x.key.data),U x.val.null,Z (bb x.val.data),V q6 x.hdrs.length cap6] 95;rw[hwB]at h;replace H:=hQd (show St W0 _ (K.and (Know.flat RHdr (V q6 x.hdrs.length cap6) 3 x.hdrs)) (.raw wB #[I O x.time,I O x.off,U x.key.null,Z (bb x.key.data),U x.val.null,Z (bb x.val.data),V q6 x.hdrs.length cap6] 95::.inp bi k::.inp p i1::.raw wA #[I O 0,I O 0,U false,Z ⟨#[]⟩,U false,Z ⟨#[]⟩,V none 0 0] 95::L)from h);clear h)
  |(go_at_call 25;refine(zE0 _ k H.out.p1).mono ?_;rw[EC.out,HE.out];rintro e wn ⟨rfl,h⟩;replace H:=hQd h.p2;clear h)
  |(go_at_call 22;refine(zHs _ i1 H.out).mono ?_;rw[HJ.out];rintro e wn ⟨rfl,h⟩;replace H:=hQd h;clear h;(first|(obtain⟨ac0,ac1,ac2,ac3,ac4,ac5,ac6,af0,af1,af2,af3,af4,af5,af6⟩:=raw7 (b:=wA) H.out)|(obtain⟨ac0,ac1,ac2,ac3,ac4,ac5,ac6,af0,af1,af2,af3,af4,af5,af6⟩:=raw7 (b:=wA) H.out.p1)|(obtain⟨ac0,ac1,ac2,ac3,ac4,ac5,ac6,af0,af1,af2,af3,af4,af5,af6⟩:=raw7 (b:=wA) H.out.p2)|(obtain⟨ac0,ac1,ac2,ac3,ac4,ac5,ac6,af0,af1,af2,af3,af4,af5,af6⟩:=raw7 (b:=wA) H.out.p3));(first|(obtain⟨bc0,bc1,bc2,bc3,bc4,bc5,bc6,bf0,bf1,bf2,bf3,bf4,bf5,bf6⟩:=raw7 (b:=wB) H.out)|(obtain⟨bc0,bc1,bc2,bc3,bc4,bc5,bc6,bf0,bf1,bf2,bf3,bf4,bf5,bf6⟩:=raw7 (b:=wB) H.out.p1)|(obtain⟨bc0,bc1,bc2,bc3,bc4,bc5,bc6,bf0,bf1,bf2,bf3,bf4,bf5,bf6⟩:=raw7 (b:=wB) H.out.p2)|(obtain⟨bc0,bc1,bc2,bc3,bc4,bc5,bc6,bf0,bf1,bf2,bf3,bf4,bf5,bf6⟩:=raw7 (b:=wB) H.out.p3))))
 refine bodyPost_ret (v:=.agg #[I O x.time,I O x.off,U x.key.null,Z (bb x.key.data),U x.val.null,Z (bb x.val.data),V q6 x.hdrs.length cap6]) zq45 rfl ⟨V q6 x.hdrs.length cap6,rfl,?_⟩;exact((((((((H.out.p3).rawSet 0 _).rawSet 1 _).rawSet 2 _).rawSet 3 _).rawSet 4 _).rawSet 5 _).rawSet 6 _).drop.p1.drop.p1.drop
theorem zKw(p:Nat)(i i1 k c:InS)(nm:Bs)(x:RecS)(hn:i.name=(nm,i1))(hx:(⟨nm,0,0⟩:InS).recFields=(x,k))(hc:k.close=c)(hl:nm.length≤140737488355328)(he:c.err=0)(f:Int)(hj:i1.err=f)(hf:(f !=0)=true)(h:St W0 w K (.inp p i::L)):
 Calls Jb 79 #[zAe p] w fun en w'=>en=Y (.agg #[I O 0,I O 0,U false,Z ⟨#[]⟩,U false,Z ⟨#[]⟩,V none 0 0])∧St W0 w' K (.inp p i1::L):=by
 have h0:=(h.allocRaw #[I O 0,I O 0,U false,Z ⟨#[]⟩,U false,Z ⟨#[]⟩,V none 0 0] 95).p1;obtain⟨wA,hwA⟩:=eX w.heap.size;rw[hwA]at h0;have H:=hQd h0;have EN:=hQd hn;have EX:=hQd hx;have EC:=hQd hc;have HL:=hQd hl;have HE:=hQd he;have HJ:=hQd hj
 skip
 clear h h0 hn hx hc hl he hj;go_enter Tryz.func79,Tryz.ntmps79
 go_wp2_with (first
  |(go_at_call 128;refine(zEI _ i H.out).mono ?_;rw[EN.out];rintro e wn ⟨rfl,h⟩;replace H:=hQd h;clear h)
  |(go_at_call 19;refine(zEh nm HL.out H.out).mono ?_;rintro e wn ⟨bi,rfl,h⟩;replace H:=hQd h;clear h)
  |(go_at_call 129;refine(zE6 _ _ H.out).mono ?_;rw[EX.out];rintro e wn ⟨v6,rfl,h⟩;obtain⟨q6,cap6,hv6⟩:=zAr (Know.has_right (Know.has_refl _)) h;subst hv6;obtain⟨wB,hwB⟩:=eX wn.heap.size;have h:=h.allocRaw #[I O x.time,I O x.off,U x.key.null,Z (bb x.key.data),U x.val.null,Z (bb x.val.data),V q6 x.hdrs.length cap6] 95;rw[hwB]at h;replace H:=hQd (show St W0 _ (K.and (Know.flat RHdr (V q6 x.hdrs.length cap6) 3 x.hdrs)) (.raw wB #[I O x.time,I O x.off,U x.key.null,Z (bb x.key.data),U x.val.null,Z (bb x.val.data),V q6 x.hdrs.length cap6] 95::.inp bi k::.inp p i1::.raw wA #[I O 0,I O 0,U false,Z ⟨#[]⟩,U false,Z ⟨#[]⟩,V none 0 0] 95::L)from h);clear h)
  |(go_at_call 25;refine(zE0 _ k H.out.p1).mono ?_;rw[EC.out,HE.out];rintro e wn ⟨rfl,h⟩;replace H:=hQd h.p2;clear h)
  |(go_at_call 22;refine(zHs _ i1 H.out).mono ?_;rw[HJ.out];rintro e wn ⟨rfl,h⟩;replace H:=hQd h;clear h;(first|(obtain⟨ac0,ac1,ac2,ac3,ac4,ac5,ac6,af0,af1,af2,af3,af4,af5,af6⟩:=raw7 (b:=wA) H.out)|(obtain⟨ac0,ac1,ac2,ac3,ac4,ac5,ac6,af0,af1,af2,af3,af4,af5,af6⟩:=raw7 (b:=wA) H.out.p1)|(obtain⟨ac0,ac1,ac2,ac3,ac4,ac5,ac6,af0,af1,af2,af3,af4,af5,af6⟩:=raw7 (b:=wA) H.out.p2)|(obtain⟨ac0,ac1,ac2,ac3,ac4,ac5,ac6,af0,af1,af2,af3,af4,af5,af6⟩:=raw7 (b:=wA) H.out.p3));(first|(obtain⟨bc0,bc1,bc2,bc3,bc4,bc5,bc6,bf0,bf1,bf2,bf3,bf4,bf5,bf6⟩:=raw7 (b:=wB) H.out)|(obtain⟨bc0,bc1,bc2,bc3,bc4,bc5,bc6,bf0,bf1,bf2,bf3,bf4,bf5,bf6⟩:=raw7 (b:=wB) H.out.p1)|(obtain⟨bc0,bc1,bc2,bc3,bc4,bc5,bc6,bf0,bf1,bf2,bf3,bf4,bf5,bf6⟩:=raw7 (b:=wB) H.out.p2)|(obtain⟨bc0,bc1,bc2,bc3,bc4,bc5,bc6,bf0,bf1,bf2,bf3,bf4,bf5,bf6⟩:=raw7 (b:=wB) H.out.p3))))
 refine bodyPost_ret (v:=.agg #[I O 0,I O 0,U false,Z ⟨#[]⟩,U false,Z ⟨#[]⟩,V none 0 0]) zq45 rfl ⟨rfl,?_⟩;exact(((((((((H.out.p3).rawSet 0 _).rawSet 1 _).rawSet 2 _).rawSet 3 _).rawSet 4 _).rawSet 5 _).rawSet 6 _).drop.p1.drop.p1.drop).know (Know.has_left (Know.has_refl _))
theorem zHv(p:Nat)(i i1 k c:InS)(nm:Bs)(x:RecS)(hn:i.name=(nm,i1))(hx:(⟨nm,0,0⟩:InS).recFields=(x,k))(hc:k.close=c)(hl:nm.length≤140737488355328)(e:Int)(he:c.err=e)(hen:(e !=0)=true)(j:InS)(hjj:i1.fail e=j)(f:Int)(hj:j.err=f)(hf:(f !=0)=true)(h:St W0 w K (.inp p i::L)):
 Calls Jb 79 #[zAe p] w fun en w'=>en=Y (.agg #[I O 0,I O 0,U false,Z ⟨#[]⟩,U false,Z ⟨#[]⟩,V none 0 0])∧St W0 w' K (.inp p j::L):=by
 have h0:=(h.allocRaw #[I O 0,I O 0,U false,Z ⟨#[]⟩,U false,Z ⟨#[]⟩,V none 0 0] 95).p1;obtain⟨wA,hwA⟩:=eX w.heap.size;rw[hwA]at h0;have H:=hQd h0;have EN:=hQd hn;have EX:=hQd hx;have EC:=hQd hc;have HL:=hQd hl;have HE:=hQd he;have HJ:=hQd hj;have EJ:=hQd hjj;clear h h0 hn hx hc hl he hj hjj;go_enter Tryz.func79,Tryz.ntmps79
 go_wp2_with (first
  |(go_at_call 128;refine(zEI _ i H.out).mono ?_;rw[EN.out];rintro e wn ⟨rfl,h⟩;replace H:=hQd h;clear h)
  |(go_at_call 19;refine(zEh nm HL.out H.out).mono ?_;rintro e wn ⟨bi,rfl,h⟩;replace H:=hQd h;clear h)
  |(go_at_call 129;refine(zE6 _ _ H.out).mono ?_;rw[EX.out];rintro e wn ⟨v6,rfl,h⟩;obtain⟨q6,cap6,hv6⟩:=zAr (Know.has_right (Know.has_refl _)) h;subst hv6;obtain⟨wB,hwB⟩:=eX wn.heap.size;have h:=h.allocRaw #[I O x.time,I O x.off,U x.key.null,Z (bb x.key.data),U x.val.null,Z (bb x.val.data),V q6 x.hdrs.length cap6] 95;rw[hwB]at h;replace H:=hQd (show St W0 _ (K.and (Know.flat RHdr (V q6 x.hdrs.length cap6) 3 x.hdrs)) (.raw wB #[I O x.time,I O x.off,U x.key.null,Z (bb x.key.data),U x.val.null,Z (bb x.val.data),V q6 x.hdrs.length cap6] 95::.inp bi k::.inp p i1::.raw wA #[I O 0,I O 0,U false,Z ⟨#[]⟩,U false,Z ⟨#[]⟩,V none 0 0] 95::L)from h);clear h)
  |(go_at_call 25;refine(zE0 _ k H.out.p1).mono ?_;rw[EC.out,HE.out];rintro e wn ⟨rfl,h⟩;replace H:=hQd h.p2;clear h)
  |(go_at_call 70;refine(zBV _ i1 _ H.out).mono ?_;rw[EJ.out];rintro e wn ⟨rfl,h⟩;replace H:=hQd h;clear h)
  |(go_at_call 22;refine(zHs _ j H.out).mono ?_;rw[HJ.out];rintro e wn ⟨rfl,h⟩;replace H:=hQd h;clear h;(first|(obtain⟨ac0,ac1,ac2,ac3,ac4,ac5,ac6,af0,af1,af2,af3,af4,af5,af6⟩:=raw7 (b:=wA) H.out)|(obtain⟨ac0,ac1,ac2,ac3,ac4,ac5,ac6,af0,af1,af2,af3,af4,af5,af6⟩:=raw7 (b:=wA) H.out.p1)|(obtain⟨ac0,ac1,ac2,ac3,ac4,ac5,ac6,af0,af1,af2,af3,af4,af5,af6⟩:=raw7 (b:=wA) H.out.p2)|(obtain⟨ac0,ac1,ac2,ac3,ac4,ac5,ac6,af0,af1,af2,af3,af4,af5,af6⟩:=raw7 (b:=wA) H.out.p3));(first|(obtain⟨bc0,bc1,bc2,bc3,bc4,bc5,bc6,bf0,bf1,bf2,bf3,bf4,bf5,bf6⟩:=raw7 (b:=wB) H.out)|(obtain⟨bc0,bc1,bc2,bc3,bc4,bc5,bc6,bf0,bf1,bf2,bf3,bf4,bf5,bf6⟩:=raw7 (b:=wB) H.out.p1)|(obtain⟨bc0,bc1,bc2,bc3,bc4,bc5,bc6,bf0,bf1,bf2,bf3,bf4,bf5,bf6⟩:=raw7 (b:=wB) H.out.p2)|(obtain⟨bc0,bc1,bc2,bc3,bc4,bc5,bc6,bf0,bf1,bf2,bf3,bf4,bf5,bf6⟩:=raw7 (b:=wB) H.out.p3))))
 refine bodyPost_ret (v:=.agg #[I O 0,I O 0,U false,Z ⟨#[]⟩,U false,Z ⟨#[]⟩,V none 0 0]) zq45 rfl ⟨rfl,?_⟩;exact(((((((((H.out.p3).rawSet 0 _).rawSet 1 _).rawSet 2 _).rawSet 3 _).rawSet 4 _).rawSet 5 _).rawSet 6 _).drop.p1.drop.p1.drop).know (Know.has_left (Know.has_refl _))
theorem zRZ(i:InS)(h:i.ok):i.name.1.length≤i.s.length:=by
 by_cases he:i.err=0
 ·obtain⟨s,pos,err⟩:=i;simp only at he;subst he;have hp:pos≤s.length:=h.1
  show(InS.varied ⟨s,pos,0⟩).1.data.length≤s.length
  cases hv:zAn (s.drop pos)with
  |ok b=>
   obtain⟨g1,g2⟩:=zAm.ok s pos b.1 b.2 hp hv;obtain⟨_,_,_,_,_,o⟩:=zBk hv;rw[g2];simp only
   split at o<;>omega
  |error e=>
   obtain⟨_,q,_,g⟩:=zAm.err s pos e hp hv;rw[g]
   simp
 ·rw[zFc he];simp
theorem zRC(p:Nat)(i:InS)(h:St W0 w K (.inp p i::L)):
 Calls Jb 79 #[zAe p] w fun en w'=>∃v,en=Y (.agg #[I O i.record.1.time,I O i.record.1.off,U i.record.1.key.null,Z (bb i.record.1.key.data),U i.record.1.val.null,Z (bb i.record.1.val.data),v])∧St W0 w' (K.and (Know.flat RHdr v 3 i.record.1.hdrs)) (.inp p i.record.2::L):=by
 have hok:=h.inpGet.2;have hnl:=zRZ i hok;have hsl:=hok.2;obtain⟨⟨nm,i1⟩,hn⟩:∃z,i.name=z:=⟨_,rfl⟩;rw[hn]at hnl;simp only at hnl;obtain⟨⟨x,k⟩,hx⟩:∃z,(⟨nm,0,0⟩:InS).recFields=z:=⟨_,rfl⟩;have hz:∀(K':Know),K'.has (K'.and (Know.flat RHdr (V none 0 0) 3 [])):=fun K'=>zNx _ _ _
 unfold InS.record InS.recJ recD;rw[hn];simp only;rw[hx];simp only
 by_cases he:k.close.err=0
 ·rw[if_pos he]
  by_cases hj:i1.err=0
  ·rw[if_pos hj];exact zMj p i i1 k _ nm x hn hx rfl oM he hj h
  ·rw[if_neg hj];exact(zKw p i i1 k _ nm x hn hx rfl oM he _ rfl (bne_iff_ne.2 hj) h).mono fun en w' hh=>⟨_,hh.1,hh.2.know (hz K)⟩
 ·rw[if_neg he];have hj:(i1.fail k.close.err).err≠0:=by unfold InS.fail;split;exact he;assumption
  rw[if_neg hj];exact(zHv p i i1 k _ nm x hn hx rfl oM _ rfl (bne_iff_ne.2 he) _ rfl _ rfl (bne_iff_ne.2 hj) h).mono fun en w' hh=>⟨_,hh.1,hh.2.know (hz K)⟩
variable {W0 w:World}{K:Know}{L:List Res}
theorem zCC{a b:RecS}(h:¬a=b){r:Bool}(hr:decide (a=b)=r):r=false:=by rw[←hr];exact decide_eq_false h
theorem zq10{p:Prop}(h:p:=by rw[show r=false from HR.out];clear hn hr;go_enter Tryz.func224,Tryz.ntmps224;go_wp2;go_ret;exact⟨rfl,H.out.drop.drop⟩):p:=h
theorem zq39{p:Prop}(h:p:=by intro h;cases h;exact hn rfl):p:=h
theorem zOl(t1 o1 t2 o2:Int)(n1 m1 n2 m2:Bool)(d1 f1 d2 f2:Bs)(l1 l2:List HdrS)(va vb:Value)(r:Bool)(hr:decide ((⟨t1,o1,⟨n1,d1⟩,⟨m1,f1⟩,l1⟩:RecS)=⟨t2,o2,⟨n2,d2⟩,⟨m2,f2⟩,l2⟩)=r)(hl1:l1.length≤9223372036854775807)(hl2:l2.length≤9223372036854775807)(hka:K.has (Know.flat RHdr va 3 l1))(hkb:K.has (Know.flat RHdr vb 3 l2))(h:St W0 w K L):
 Calls Jb 224 #[.agg #[I O t1,I O o1,U n1,Z (bb d1),U m1,Z (bb f1),va],.agg #[I O t2,I O o2,U n2,Z (bb d2),U m2,Z (bb f2),vb]] w fun en w'=>en=Y (U r)∧St W0 w' K L:=by
 have h0:=(h.allocRaw #[I O t1,I O o1,U n1,Z (bb d1),U m1,Z (bb f1),va] 95).allocRaw #[I O t2,I O o2,U n2,Z (bb d2),U m2,Z (bb f2),vb] 95;rw[World.size_alloc]at h0;have H:=hQd h0;have HA:=hQd hka;have HB:=hQd hkb;have HL1:=hQd hl1;have HL2:=hQd hl2;clear h h0 hka hkb hl1 hl2
 by_cases hn:t1=t2
 rotate_left
 ·have HR:=hQd (show r=false from zCC zq39 hr);have hb:(t1==t2)=false:=by simpa using hn
  exact zq10
 subst hn
 by_cases hn:o1=o2
 rotate_left
 ·have HR:=hQd (show r=false from zCC zq39 hr);have hb:(o1==o2)=false:=by simpa using hn
  exact zq10
 subst hn
 by_cases hn:n1=n2
 rotate_left
 ·have HR:=hQd (show r=false from zCC zq39 hr);have hb:(n1==n2)=false:=by simpa using hn
  exact zq10
 subst hn
 by_cases hn:d1=d2
 rotate_left
 ·have HR:=hQd (show r=false from zCC zq39 hr);have hb:(d1==d2)=false:=by simpa using hn
  exact zq10
 subst hn
 by_cases hn:m1=m2
 rotate_left
 ·have HR:=hQd (show r=false from zCC zq39 hr);have hb:(m1==m2)=false:=by simpa using hn
  exact zq10
 subst hn
 by_cases hn:f1=f2
 rotate_left
 ·have HR:=hQd (show r=false from zCC zq39 hr);have hb:(f1==f2)=false:=by simpa using hn
  exact zq10
 subst hn;have HD:=hQd (show decide (l1=l2)=r by rw[←hr];exact decide_eq_decide.mpr ⟨fun h=>by rw[h],fun h=>by cases h;rfl⟩);clear hr;go_enter Tryz.func224,Tryz.ntmps224;go_wp2_with (go_at_call 249;refine(zOm va vb l1 l2 HL1.out HL2.out HA.out HB.out H.out).mono ?_;rw[HD.out];rintro e wn ⟨rfl,h⟩;replace H:=hQd h;clear h);go_ret;exact⟨rfl,H.out.drop.drop⟩
theorem zGj(a b:RecS)(va vb:Value)(r:Bool)(hr:decide (a=b)=r)(hl1:a.hdrs.length≤9223372036854775807)(hl2:b.hdrs.length≤9223372036854775807)(hka:K.has (Know.flat RHdr va 3 a.hdrs))(hkb:K.has (Know.flat RHdr vb 3 b.hdrs))(h:St W0 w K L):
 Calls Jb 224 #[.agg #[I O a.time,I O a.off,U a.key.null,Z (bb a.key.data),U a.val.null,Z (bb a.val.data),va],.agg #[I O b.time,I O b.off,U b.key.null,Z (bb b.key.data),U b.val.null,Z (bb b.val.data),vb]] w fun en w'=>en=Y (U r)∧St W0 w' K L:=
 zOl a.time a.off b.time b.off a.key.null a.val.null b.key.null b.val.null a.key.data a.val.data b.key.data b.val.data a.hdrs b.hdrs va vb r hr hl1 hl2 hka hkb h
def Fit (n:Nat):Prop:=n≤140737488351232
def HFit (l:List HdrS):Prop:=∀x∈l,x.key.length≤140737488351232∧x.val.data.length≤140737488351232
def smallN (l:List HdrS):Int:=if hsum l≤1000 then 1 else 0
theorem zPV(p:Nat)(i:InS)(x:RecS)(k:InS)(hx:i.record=(x,k)){W0 w:World}{K:Know}{L:List Res}(h:St W0 w K (.inp p i::L)):
 Calls Jb 79 #[zAe p] w fun en w'=>∃v,en=Y (.agg #[I O x.time,I O x.off,U x.key.null,Z (bb x.key.data),U x.val.null,Z (bb x.val.data),v])∧St W0 w' (K.and (Know.flat RHdr v 3 x.hdrs)) (.inp p k::L):=by
 have h1:=zRC p i h;rw[hx]at h1;exact h1
def smallR (x:RecS):Int:=if 500<x.key.data.length∨500<x.val.data.length then 0 else smallN x.hdrs
theorem zFT{l a r:Bs}{n:Nat}(h:l.drop n=a++r):l.drop (n+a.length)=r:=by rw[←Jk,h,List.drop_left]
theorem zKC(x:RecS)(hx:x.R)(ho:zA5 x=0)(hs:x.sum≤1000000):zCc (recF x)=.ok x:=by
 obtain⟨ho,hr⟩:=zHV ho;unfold RecS.allRight at hr;rw[Bool.and_eq_true,Bool.and_eq_true]at hr;unfold RecS.sum at hs;have d1:(recF x).drop 1=encI x.time++(encI x.off++(encV x.key++(encV x.val++zD5 x.hdrs))):=rfl;have d2:=zFT d1;have d3:=zFT d2;have d4:=zFT d3;have d5:=zFT d4
 have h0:zAJ 1 (recF x)=.ok (0,1):=by
  unfold zAJ;rw[if_neg (by unfold recF;simp)]
  rfl
 have h1:zDT ((recF x).drop 1)=.ok (x.time,(encI x.time).length):=by rw[d1];exact zJT _ hx.1.1 hx.1.2 _
 have h2:zB0 ((recF x).drop (1+(encI x.time).length))=.ok (x.off,(encI x.off).length):=by rw[d2];exact zF1 _ oM oM _
 have h3:=zBa x.key hr.1.1 oM (encV x.val++zD5 x.hdrs);have h4:=zBa x.val hr.1.2 oM (zD5 x.hdrs);have h5':=zMp x.hdrs [] hr.2 oM;rw[Jp]at h5';have h5:zDb ((recF x).drop (1+(encI x.time).length+(encI x.off).length+(encV x.key).length+(encV x.val).length))=.ok (x.hdrs,(zD5 x.hdrs).length):=by rw[d5];exact h5'
 rw[←d3]at h3;rw[←d4]at h4
 have hl:1+(encI x.time).length+(encI x.off).length+(encV x.key).length+(encV x.val).length+(zD5 x.hdrs).length=(recF x).length:=by
  unfold recF;simp only[Jc,Jn,List.length_nil]
  omega
 unfold zCc;rw[h0];simp only[if_true];rw[h1];simp only;rw[h2];simp only;rw[if_neg oM,h3];simp only;rw[h4];simp only;rw[h5];simp only;rw[if_pos hl]
def Know.all {α:Type}(l:List α) (k:α→Know):Know:=⟨fun w F=>∀x∈l,(k x).p w F,fun w w' F h hs hk x hx=>(k x).keep w w' F (h x hx) hs hk,fun w F F' h hs x hx=>(k x).mono w F F' (h x hx) hs⟩
def RRec (cs:List Value) (x:RecS×Value):Prop:=cs=[I O x.1.time,I O x.1.off,U x.1.key.null,Z (bb x.1.key.data),U x.1.val.null,Z (bb x.1.val.data),x.2]
def zSF (x:RecS×Value):List Value:=[I O x.1.time,I O x.1.off,U x.1.key.null,Z (bb x.1.key.data),U x.1.val.null,Z (bb x.1.val.data),x.2]
def Know.recs (v:Value) (l:List (RecS×Value)):Know:=(Know.flat RRec v 7 l).and (Know.all l fun x=>Know.flat RHdr x.2 3 x.1.hdrs)
theorem zGk{K:Know}{v:Value}{l:List (RecS×Value)}(h:K.has (Know.recs v l)):K.has (Know.flat RRec v 7 l):=fun w F x=>(h w F x).1
theorem zCb{K:Know}{v:Value}{l:List (RecS×Value)}(h:K.has (Know.recs v l)){x:RecS×Value}(hx:x∈l):K.has (Know.flat RHdr x.2 3 x.1.hdrs):=fun w F y=>(h w F y).2 x hx
theorem zPT{v:Value}{l:List (RecS×Value)}(hk:K.has (Know.recs v l))(h:St W0 w K L):∃q cap,v=V q l.length cap:=by
 obtain⟨F,hF,_⟩:=h.get;obtain⟨q,cap,hv,_⟩:=(zGk hk _ _ hF).at;exact⟨q,cap,hv⟩
theorem zDZ{q:Option Addr}{n cap:Nat}{l:List (RecS×Value)}(hk:K.has (Know.recs (V q n cap) l))(h:St W0 w K L)(h0:0<l.length):∃b off,q=some ⟨b,off,none⟩:=by
 obtain⟨F,hF,_⟩:=h.get;obtain⟨q2,cap2,hv,hr⟩:=(zGk hk _ _ hF).at;obtain⟨b,off,hq,_⟩:=hr h0;simp at hv;exact⟨b,off,hv.1.trans hq⟩
theorem zBp{b off n cap:Nat}{l:List (RecS×Value)}(hk:K.has (Know.recs (V (some ⟨b,off,none⟩) n cap) l))(h:St W0 w K L)(i:Nat)(hi:i<l.length)(x:RecS×Value)(hx:l[i]=x):
 w.cell? ⟨b,off+(i*7),none⟩=some (I O x.1.time)∧w.cell? ⟨b,off+(i*7+1),none⟩=some (I O x.1.off)∧w.cell? ⟨b,off+(i*7+2),none⟩=some (U x.1.key.null)∧w.cell? ⟨b,off+(i*7+3),none⟩=some (Z (bb x.1.key.data))∧w.cell? ⟨b,off+(i*7+4),none⟩=some (U x.1.val.null)∧w.cell? ⟨b,off+(i*7+5),none⟩=some (Z (bb x.1.val.data))∧w.cell? ⟨b,off+(i*7+6),none⟩=some (x.2):=by
 subst hx;obtain⟨F,hF,_⟩:=h.get;obtain⟨q2,cap2,hv,hr⟩:=(zGk hk _ _ hF).at;obtain⟨b2,off2,hq,hc⟩:=hr oM;rw[hq]at hv;simp at hv;obtain⟨⟨rfl,rfl⟩,_,_⟩:=hv;obtain⟨cs,_,hR,hcs⟩:=hc i hi;unfold RRec at hR;subst hR;exact⟨hcs 0 _ rfl,hcs 1 _ rfl,hcs 2 _ rfl,hcs 3 _ rfl,hcs 4 _ rfl,hcs 5 _ rfl,hcs 6 _ rfl⟩
def zBy (l:List (RecS×Value)):Bs:=l.flatMap fun x=>encR x.1
theorem zMU(l:List (RecS×Value))(x:RecS×Value):zBy (l++[x])=zBy l++encR x.1:=by unfold zBy;simp
theorem zMT(l:List (RecS×Value))(k:Nat)(h:k<l.length):zBy (l.take (k+1))=zBy (l.take k)++encR l[k].1:=by rw[Jf h,zMU]
theorem zOo(x:RecS)(hx:x.R)(ho:zA5 x=0)(hs:x.sum≤1000000)(r:Bs):zIV (encR x++r)=.ok (x,(encR x).length):=by
 have hle:=zGl x hx hs;have h1:=zBa ⟨false,recF x⟩ rfl (by simp only;omega) r;unfold zIV encR;rw[h1];simp only[Bool.false_eq_true,if_false];rw[zKC x hx ho hs]
end Go.Proofs.YteldcbljedeeiaaGreatDoor
