/- A text. -/
import Derived.Test.YtenojajfacacoaaGreatDoorGWholePlayedCard2
import Derived.Deep.RegionHeld3
import Derived.Deep.DeepCutAuto
/- A text. -/
namespace Go.Proofs.YtenojajfacacoaaGreatDoor
open Go.RowKit
def InS.ints:List Nat→InS→List Int×InS
  |[],i=>([],i)
  |k::t,i=>((i.int k).1::(InS.ints t (i.int k).2).1,(InS.ints t (i.int k).2).2)
def zBp:List Nat→Bs→List Int
  |[],_=>[]
  |k::t,s=>sInt (s.take k)::zBp t (s.drop k)
theorem zNG(k:Nat)(h1:1≤k)(h8:k≤8)(s:Bs)(pos:Nat)(hp:pos+k≤s.length):(⟨s,pos,0⟩:InS).int k=(sInt ((s.drop pos).take k),⟨s,pos+k,0⟩):=by
 have h:=(zCh k h1 h8).ok s pos (sInt ((s.drop pos).take k)) k (by omega) (by unfold zA7;rw[if_neg (by rw[List.length_drop];omega)]);exact h.2
theorem zMb(k:Nat)(h1:1≤k)(h8:k≤8)(s:Bs)(pos:Nat)(hp:pos≤s.length)(hs:s.length<pos+k):∃q,q≤s.length∧(⟨s,pos,0⟩:InS).int k=(0,⟨s,q,1⟩):=by
 exact((zCh k h1 h8).err s pos 1 hp (by unfold zA7;rw[if_pos (by rw[List.length_drop];omega)])).2
theorem zMa(k:Nat)(h1:1≤k)(h8:k≤8)(i:InS)(h:i.err≠0):i.int k=(0,i):=(zCh k h1 h8).stuck i h
theorem zNF:∀(l:List Nat) (s:Bs) (pos:Nat),(∀k∈l,1≤k∧k≤8)→pos+l.sum≤s.length→InS.ints l ⟨s,pos,0⟩=(zBp l (s.drop pos),⟨s,pos+l.sum,0⟩)
  |[],s,pos,_,_=>by simp[InS.ints,zBp]
  |k::t,s,pos,hk,hp=>by
    have h1:=hk k (by simp);rw[List.sum_cons]at hp;have h2:=zNG k h1.1 h1.2 s pos (by omega);have h3:=zNF t s (pos+k) (fun x hx=>hk x (by simp[hx])) (by omega);unfold InS.ints zBp;rw[h2];simp only;rw[h3,List.drop_drop,List.sum_cons,Nat.add_assoc]
theorem ints_stuck:∀(l:List Nat) (i:InS),(∀k∈l,1≤k∧k≤8)→i.err≠0→InS.ints l i=(l.map fun _=>0,i)
  |[],_,_,_=>rfl
  |k::t,i,hk,hi=>by
    have h1:=hk k (by simp);unfold InS.ints;rw[zMa k h1.1 h1.2 i hi];simp only;rw[ints_stuck t i (fun x hx=>hk x (by simp[hx])) hi]
    rfl
theorem zG3:∀(l:List Nat) (s:Bs) (pos:Nat),(∀k∈l,1≤k∧k≤8)→pos≤s.length→s.length<pos+l.sum→∃q,q≤s.length∧(InS.ints l ⟨s,pos,0⟩).2=⟨s,q,1⟩
  |[],s,pos,_,h1,h2=>by simp at h2;omega
  |k::t,s,pos,hk,hp,hs=>by
    have h1:=hk k (by simp);rw[List.sum_cons]at hs;unfold InS.ints
    by_cases h:pos+k≤s.length
    · rw[zNG k h1.1 h1.2 s pos h];exact zG3 t s (pos+k) (fun x hx=>hk x (by simp[hx])) h (by omega)
    · obtain⟨q,hq,e⟩:=zMb k h1.1 h1.2 s pos hp (by omega);rw[e];refine⟨q,hq,?_⟩;simp only;rw[ints_stuck t _ (fun x hx=>hk x (by simp[hx])) (show(1:Int)≠0 by decide)]
def OutS.ints (o:OutS) (l:List (Int×Nat)):OutS:=l.foldl (fun o x=>o.int x.1 x.2) o
def zAd (l:List (Int×Nat)):Bs:=l.flatMap fun x=>zAn x.1 x.2
def FitsAll (l:List (Int×Nat)):Prop:=∀x∈l,fits x.1 x.2
instance (l:List (Int×Nat)):Decidable (FitsAll l):=by unfold FitsAll;infer_instance
theorem OutS.put_err{o:OutS}(h:o.err≠0)(s:Bs):o.put s=o:=if_neg h
theorem OutS.fail_stuck{o:OutS}(h:o.err≠0)(e:Int):o.fail e=o:=if_neg h
theorem OutS.int_stuck{o:OutS}(h:o.err≠0)(n k:Int):o.int n k=o:=by
 unfold OutS.int;split
 · exact OutS.put_err h _
 · exact OutS.fail_stuck h _
theorem OutS.ints_stuck:∀(l:List (Int×Nat)) (o:OutS),o.err≠0→o.ints l=o
  |[],_,_=>rfl
  |x::t,o,h=>by
    show OutS.ints (o.int x.1 x.2) t=o
    rw[OutS.int_stuck h];exact OutS.ints_stuck t o h
theorem OutS.ints_put:∀(l:List (Int×Nat)) (o:OutS),FitsAll l→o.ints l=o.put (zAd l)
  |[],o,_=>by show o=o.put [];rw[OutS.put_nil]
  |x::t,o,h=>by
    show OutS.ints (o.int x.1 x.2) t=_
    rw[OutS.ints_put t _ (fun y hy=>h y (by simp[hy]))];unfold OutS.int;rw[if_pos (h x (by simp)),OutS.put_put,Int.toNat_natCast]
    rfl
theorem zDa(l:List (Int×Nat)):(zAd l).length=(l.map (·.2)).sum:=by
 induction l with
 |nil=>rfl
 |cons x t ih=>unfold zAd at*;rw[List.flatMap_cons,List.length_append,zAl,ih];rfl
theorem zG4:∀(l:List (Int×Nat)) (rest:Bs),FitsAll l→zBp (l.map (·.2)) (zAd l++rest)=l.map (·.1)
  |[],_,_=>rfl
  |x::t,rest,h=>by
    have h1:=h x (by simp);have hs:1≤x.2:=by have:=h1.1;omega
    have h2:=zG4 t rest (fun y hy=>h y (by simp[hy]));have e:zAd (x::t)=zAn x.1 x.2++zAd t:=rfl
    have h3:(zAn x.1 x.2++(zAd t++rest)).take x.2=zAn x.1 x.2:=by
      have h4:=zAl x.1 x.2;rw[List.take_append_of_le_length (by omega),List.take_of_length_le (by omega)]
    have h4:(zAn x.1 x.2++(zAd t++rest)).drop x.2=zAd t++rest:=by
      rw[List.drop_left' (zAl x.1 x.2)]
    have hfit:=h1.2.2;rw[Int.toNat_natCast]at hfit
    show zBp (x.2::t.map (·.2)) (zAd (x::t)++rest)=x.1::t.map (·.1)
    rw[e,List.append_assoc];unfold zBp;rw[h3,h4,(zCt x.1 x.2 hs).2 hfit,h2]
theorem zM5(s:Bs)(k:Nat)(h1:1≤k)(h8:k≤8)(hl:s.length=k):fits (sInt s) k:=by
 have h:=zEO s;have h2:sInt (zAn (sInt s) k)=sInt s:=by rw[←hl,h]
 have h3:=(zCt (sInt s) k h1).1 h2;refine⟨by omega,by omega,?_⟩;rw[Int.toNat_natCast];exact h3
theorem zG8:∀(l:List Nat) (s:Bs),l.sum≤s.length→zAd ((zBp l s).zip l)=s.take l.sum
  |[],_,_=>by simp[zAd,zBp]
  |k::t,s,hs=>by
    rw[List.sum_cons]at hs;have h2:=zG8 t (s.drop k) (by rw[List.length_drop];omega);unfold zBp;rw[List.zip_cons_cons]
    show zAn (sInt (s.take k)) k++zAd _=_
    rw[h2,List.sum_cons];have h3:=zEO (s.take k);rw[List.length_take,Nat.min_eq_left (by omega)]at h3;rw[h3,List.take_add]
theorem zAZ{o:OutS}{x:BlobS}(hx:x.right=true)(hl:x.data.length≤2147483647):o.putVaried x=o.put (encV x):=by
 unfold OutS.putVaried OutS.putData;rw[if_pos hx];have hr: -2147483648≤x.len∧x.len<2147483648:=by unfold BlobS.len;split<;>omega
 have h1:o.putInt x.len=o.put (putU (zBa x.len)):=by
   unfold OutS.putInt
   rw [if_pos (by have e4 : half 4 = 2147483648 := by decide
                  unfold fits;have:(4:Int).toNat=4:=rfl
                  rw[this,e4];omega)]
 rw[h1,OutS.put_put]
 rfl
def encH (h:HdrS):Bs:=encV ⟨false,h.key⟩++encV h.val
def encI (n:Int):Bs:=putU (zBa n)
def zC7 (l:List HdrS):Bs:=encI l.length++l.flatMap encH
def zCu (l:List HdrS):Bool:=l.all fun h=>h.val.right
def hsum (l:List HdrS):Nat:=(l.map fun h=>h.key.length+h.val.data.length+1).sum
theorem zDN(h:HdrS)(t:List HdrS):hsum (h::t)=h.key.length+h.val.data.length+1+hsum t:=rfl
theorem zCJ:∀(l:List HdrS),l.length≤hsum l∧hsize l=hsum l+31*l.length∧∀h∈l,h.key.length+h.val.data.length+1≤hsum l
  |[]=>by simp[hsum,hsize]
  |h::t=>by
    obtain⟨a,b,c⟩:=zCJ t;have e:hsize (h::t)=h.size+hsize t:=rfl;rw[zDN,e,b,List.length_cons];unfold HdrS.size;refine⟨by omega,by omega,?_⟩;intro x hx
    rcases List.mem_cons.1 hx with rfl|hx
    · omega
    · have:=c x hx;omega
theorem zIK{o:OutS}{h:HdrS}(hx:h.val.right=true)(hl:h.key.length+h.val.data.length≤2147483647):o.putHdr h=o.put (encH h):=by
 unfold OutS.putHdr OutS.putName;rw[zAZ (x:=⟨false,h.key⟩) rfl (by simp only;omega),zAZ hx (by omega),OutS.put_put]
 rfl
theorem zCK:∀(l:List HdrS) (o:OutS),zCu l=true→hsum l≤2147483647→l.foldl OutS.putHdr o=o.put (l.flatMap encH)
  |[],o,_,_=>by rw[List.flatMap_nil,OutS.put_nil];rfl
  |h::t,o,hr,hs=>by
    unfold zCu at hr;rw[List.all_cons,Bool.and_eq_true]at hr;rw[zDN]at hs;rw[List.foldl_cons,zIK hr.1 (by omega),zCK t _ hr.2 (by omega),OutS.put_put]
    rfl
theorem zGS{o:OutS}{n:Int}(h0: -2147483648≤n)(h1:n<2147483648):o.putInt n=o.put (encI n):=by
 unfold OutS.putInt
 rw [if_pos (by have e4 : half 4 = 2147483648 := by decide
                unfold fits;have:(4:Int).toNat=4:=rfl
                rw[this,e4];omega)]
 rfl
theorem zHH{o:OutS}{l:List HdrS}(hr:zCu l=true)(hs:hsum l≤2147483647):o.putHdrs l=o.put (zC7 l):=by
 have:=(zCJ l).1;unfold OutS.putHdrs;rw[zGS (by omega) (by omega),zCK l _ hr hs,OutS.put_put]
 rfl
def zFz (l:Bs):Except Int (HdrS×Nat):=match zAq l with
  | .error e=> .error e
  | .ok x=>if x.1.null then .error 4 else match zAq (l.drop x.2)with
    | .error e=> .error e
    | .ok y=> .ok (⟨x.1.data,y.1⟩,x.2+y.2)
def zBN:Nat→Bs→Except Int (List HdrS×Nat)
  |0,_=> .ok ([],0)
  |n+1,l=>match zFz l with
    | .error e=> .error e
    | .ok x=>match zBN n (l.drop x.2)with
      | .error e=> .error e
      | .ok y=> .ok (x.1::y.1,x.2+y.2)
def zCF (l:Bs):Except Int (List HdrS×Nat):=match zCv l with
  | .error e=> .error e
  | .ok x=>if x.1<0 then .error 4 else if ((l.length:Int) - x.2) / 2<x.1 then .error 1 else match zBN x.1.toNat (l.drop x.2)with
    | .error e=> .error e
    | .ok y=> .ok (y.1,x.2+y.2)
theorem InS.fail_ok0'(s:Bs)(p:Nat)(e:Int):(⟨s,p,0⟩:InS).fail e=⟨s,p,e⟩:=rfl
theorem zEo{i:InS}(h:i.err≠0):i.name=([],i):=by
 unfold InS.name;rw[zAk.stuck i h]
 rfl
theorem zOR{s:Bs}{pos:Nat}{h:HdrS}{m:Nat}(hp:pos≤s.length)(e:zFz (s.drop pos)=.ok (h,m)):pos+m≤s.length∧(⟨s,pos,0⟩:InS).name.1=h.key∧(⟨s,pos,0⟩:InS).name.2.varied=(h.val,⟨s,pos+m,0⟩):=by
 unfold zFz at e
 cases h1:zAq (s.drop pos)with
 |error e1=>rw[h1]at e;cases e
 |ok x=>
  rw[h1]at e;obtain⟨g1,g2⟩:=zAk.ok s pos x.1 x.2 hp h1
  cases hn:x.1.null
  · simp only[hn]at e
    cases h2:zAq ((s.drop pos).drop x.2)with
    |error e2=>rw[h2]at e;cases e
    |ok y=>
     rw[h2]at e
     cases e
     rw[List.drop_drop]at h2;obtain⟨g3,g4⟩:=zAk.ok s (pos+x.2) y.1 y.2 g1 h2;unfold InS.name InS.bytes;rw[g2];rw[Nat.add_assoc]at g3 g4;refine⟨g3,rfl,?_⟩
     show(if x.1.null=true then(⟨s,pos+x.2,0⟩:InS).fail 4 else⟨s,pos+x.2,0⟩).varied=_
     rw[hn];exact g4
  · simp[hn]at e
theorem zNe{s:Bs}{pos:Nat}{e:Int}(hp:pos≤s.length)(h:zFz (s.drop pos)=.error e):e≠0∧∃q,q≤s.length∧(⟨s,pos,0⟩:InS).name.2.varied.2=⟨s,q,e⟩:=by
 unfold zFz at h
 cases h1:zAq (s.drop pos)with
 |error e1=>
  rw[h1]at h
  cases h
  obtain⟨g1,q,g2,g3⟩:=zAk.err s pos e hp h1;refine⟨g1,q,g2,?_⟩;unfold InS.name InS.bytes;rw[g3]
  show(InS.varied ⟨s,q,e⟩).2=_
  rw[zAk.stuck ⟨s,q,e⟩ g1]
 |ok x=>
  rw[h1]at h;obtain⟨g1,g2⟩:=zAk.ok s pos x.1 x.2 hp h1;unfold InS.name InS.bytes;rw[g2];simp only
  cases hn:x.1.null
  · simp only[hn]at h
    cases h2:zAq ((s.drop pos).drop x.2)with
    |error e2=>
     rw[h2]at h
     cases h
     rw[List.drop_drop]at h2;obtain⟨g3,q,g4,g5⟩:=zAk.err s (pos+x.2) e g1 h2;refine⟨g3,q,g4,?_⟩
     show(InS.varied ⟨s,pos+x.2,0⟩).2=_
     rw[g5]
    |ok y=>rw[h2]at h;cases h
  · simp[hn]at h;subst h;refine⟨by decide,pos+x.2,g1,?_⟩
    show(InS.varied ⟨s,pos+x.2,4⟩).2=_
    rw[zAk.stuck ⟨s,pos+x.2,4⟩ (show(4:Int)≠0 by decide)]
theorem zEt:∀(n:Nat) (acc:List HdrS) (s:Bs) (pos:Nat),pos≤s.length→
    (∀t k,zBN n (s.drop pos)=.ok (t,k)→pos+k≤s.length∧InS.hdrLoop n acc ⟨s,pos,0⟩=(acc++t,⟨s,pos+k,0⟩))∧
    (∀e,zBN n (s.drop pos)=.error e→e≠0∧∃q,q≤s.length∧InS.hdrLoop n acc ⟨s,pos,0⟩=([],⟨s,q,e⟩))
  |0,acc,s,pos,hp=>⟨fun t k h=>(by cases h;simp[InS.hdrLoop];exact hp),fun e h=>(by cases h)⟩
  |n+1,acc,s,pos,hp=>by
    unfold zBN InS.hdrLoop
    cases h1:zFz (s.drop pos)with
    |error e1=>
      refine⟨fun t k h=>(by cases h),fun e h=> ?_⟩
      cases h
      obtain⟨g1,q,g2,g3⟩:=zNe hp h1;refine⟨g1,q,g2,?_⟩;rw[g3,if_neg g1]
    |ok x=>
      obtain⟨g1,g2,g3⟩:=zOR hp h1;have ih:=zEt n (acc++[x.1]) s (pos+x.2) g1;rw[g2,g3];simp only[if_true];rw[List.drop_drop];refine⟨fun t k h=> ?_,fun e h=> ?_⟩
      · cases h2:zBN n (s.drop (pos+x.2))with
        |error e2=>rw[h2]at h;cases h
        |ok y=>
          rw[h2]at h
          cases h
          obtain⟨a,b⟩:=ih.1 y.1 y.2 h2;refine⟨by omega,?_⟩;rw[b,List.append_assoc,Nat.add_assoc]
          rfl
      · cases h2:zBN n (s.drop (pos+x.2))with
        |error e2=>
          rw[h2]at h
          cases h
          exact ih.2 e h2
        |ok y=>rw[h2]at h;cases h
theorem zDP{i:InS}(h:i.err≠0)(n:Nat):InS.hdrLoop n [] i=([],i):=by
 cases n with
 |zero=>rfl
 |succ n=>
  unfold InS.hdrLoop;rw[zEo h];simp only;rw[zAk.stuck i h,if_neg h]
theorem zDH:Rds InS.hdrs zCF []:=by
 refine⟨?_,?_,?_⟩
 · intro s pos a k hp h;unfold zCF at h
   cases h1:zCv (s.drop pos)with
   |error e1=>rw[h1]at h;cases h
   |ok x=>
    rw[h1]at h;obtain⟨g1,g2⟩:=zCG.ok s pos x.1 x.2 hp h1;simp only at h
    split at h
    · cases h
    rename_i hn
    split at h
    · cases h
    rename_i hm
    rw[List.length_drop]at hm;rw[List.drop_drop]at h
    cases h2:zBN x.1.toNat (s.drop (pos+x.2))with
    |error e2=>rw[h2]at h;cases h
    |ok y=>
      rw[h2]at h
      cases h
      obtain⟨a1,b1⟩:=(zEt x.1.toNat [] s (pos+x.2) g1).1 y.1 y.2 h2;refine⟨by omega,?_⟩;unfold InS.hdrs InS.hdrHead;rw[g2];simp only;rw[if_neg hn,if_neg (by simp only[InS.left];omega),b1,List.nil_append,Nat.add_assoc]
 · intro s pos e hp h;unfold zCF at h
   cases h1:zCv (s.drop pos)with
   |error e1=>
    rw[h1]at h
    cases h
    obtain⟨g1,q,g2,g3⟩:=zCG.err s pos e hp h1;refine⟨g1,q,g2,?_⟩;unfold InS.hdrs InS.hdrHead;rw[g3];simp only;rw[if_neg (by decide),if_neg (by omega)]
    rfl
   |ok x=>
    rw[h1]at h;obtain⟨g1,g2⟩:=zCG.ok s pos x.1 x.2 hp h1;simp only at h;unfold InS.hdrs InS.hdrHead;rw[g2];simp only
    split at h
    · rename_i hn
      cases h
      rw[if_pos hn,InS.fail_ok0'];exact⟨by decide,_,g1,zDP (show(4:Int)≠0 by decide) _⟩
    rename_i hn
    rw[if_neg hn]
    split at h
    · rename_i hm
      cases h
      rw[List.length_drop]at hm;rw[if_pos (by simp only[InS.left];omega),InS.fail_ok0'];exact⟨by decide,_,g1,zDP (show(1:Int)≠0 by decide) _⟩
    rename_i hm
    rw[List.length_drop]at hm;rw[if_neg (by simp only[InS.left];omega)];rw[List.drop_drop]at h
    cases h2:zBN x.1.toNat (s.drop (pos+x.2))with
    |error e2=>
      rw[h2]at h
      cases h
      exact(zEt x.1.toNat [] s (pos+x.2) g1).2 e h2
    |ok y=>rw[h2]at h;cases h
 · intro i hi;unfold InS.hdrs InS.hdrHead;rw[zCG.stuck i hi];simp only;rw[if_neg (by decide),if_neg (by omega)]
   rfl
theorem zBg{l:Bs}{b:BlobS}{m:Nat}(h:zAq l=.ok (b,m)):encV b=l.take m∧0<m∧m≤l.length∧b.right=true∧b.data.length<2147483648∧b.data.length<m+(if b.null then 1 else 0):=by
 unfold zAq at h
 cases h1:zCv l with
 |error e=>rw[h1]at h;cases h
 |ok x=>
  obtain⟨n,k⟩:=x;rw[h1]at h;obtain⟨g1,g2,g3,g4,g5⟩:=zFe h1;unfold gotS at h;simp only at h
  split at h
  · rename_i hn
    cases h
    subst hn;refine⟨?_,g2,g3,rfl,by simp[BlobS.none],by simp[BlobS.none]⟩;unfold encV;rw[←g1]
    show putU (zBa (-1))++[]=_
    rw[List.append_nil]
  · rename_i hn
    split at h
    · cases h
    · rename_i hn0
      split at h
      · cases h
      · rename_i hm
        cases h
        have hl:(l.drop k).length=l.length - k:=List.length_drop;have hd:((l.drop k).take n.toNat).length=n.toNat:=by rw[List.length_take,hl];omega
        refine⟨?_,by omega,by omega,rfl,by simp only;rw[hd];omega,by simp only;rw[hd];omega⟩;unfold encV
        have e:(⟨false,(l.drop k).take n.toNat⟩:BlobS).len=n:=by
         unfold BlobS.len;simp only[Bool.false_eq_true,if_false];rw[hd];omega
        rw[e,g1,List.take_add]
theorem zNd{l:Bs}{h:HdrS}{m:Nat}(e:zFz l=.ok (h,m)):encH h=l.take m∧2≤m∧m≤l.length∧h.val.right=true∧h.key.length+h.val.data.length+1≤m:=by
 unfold zFz at e
 cases h1:zAq l with
 |error e1=>rw[h1]at e;cases e
 |ok x=>
  rw[h1]at e
  cases hn:x.1.null
  · simp only[hn]at e
    cases h2:zAq (l.drop x.2)with
    |error e2=>rw[h2]at e;cases e
    |ok y=>
     rw[h2]at e
     cases e
     obtain⟨a1,a2,a3,a4,a5,a6⟩:=zBg h1;obtain⟨b1,b2,b3,b4,b5,b6⟩:=zBg h2;rw[List.length_drop]at b3;rw[hn]at a6;simp only[Bool.false_eq_true,if_false]at a6;refine⟨?_,by omega,by omega,b4,?_⟩
     · unfold encH;have ex:(⟨false,x.1.data⟩:BlobS)=x.1:=by cases hx:x.1;rw[hx]at hn;simp only at hn;rw[hn]
       simp only;rw[ex,a1,b1,List.take_add]
     · simp only
       by_cases hy:y.1.null=true
       · have:y.1.data=[]:=by unfold BlobS.right at b4;rw[hy]at b4;simpa using b4
         rw[this];simp only[List.length_nil];omega
       · rw[if_neg hy]at b6;omega
  · simp[hn]at e
theorem zGQ:∀(n:Nat) (l:Bs) (t:List HdrS) (m:Nat),zBN n l=.ok (t,m)→t.flatMap encH=l.take m∧m≤l.length∧t.length=n∧zCu t=true∧hsum t≤m
  |0,l,t,m,h=>by cases h;simp[zCu,hsum]
  |n+1,l,t,m,h=>by
    unfold zBN at h
    cases h1:zFz l with
    |error e1=>rw[h1]at h;cases h
    |ok x=>
      rw[h1]at h;simp only at h
      cases h2:zBN n (l.drop x.2)with
      |error e2=>rw[h2]at h;cases h
      |ok y=>
        rw[h2]at h
        cases h
        obtain⟨a1,a2,a3,a4,a5⟩:=zNd h1;obtain⟨b1,b2,b3,b4,b5⟩:=zGQ n (l.drop x.2) y.1 y.2 h2;rw[List.length_drop]at b2;refine⟨?_,by omega,by simp[b3],?_,?_⟩
        · rw[List.flatMap_cons,a1,b1,List.take_add]
        · unfold zCu at*;rw[List.all_cons,a4,b4];rfl
        · rw[zDN];omega
theorem zLQ{l:Bs}{t:List HdrS}{m:Nat}(h:zCF l=.ok (t,m)):zC7 t=l.take m∧0<m∧m≤l.length∧zCu t=true∧hsum t≤m:=by
 unfold zCF at h
 cases h1:zCv l with
 |error e=>rw[h1]at h;cases h
 |ok x=>
  rw[h1]at h;obtain⟨g1,g2,g3,g4,g5⟩:=zFe h1;simp only at h
  split at h
  · cases h
  rename_i hn
  split at h
  · cases h
  cases h2:zBN x.1.toNat (l.drop x.2)with
  |error e2=>rw[h2]at h;cases h
  |ok y=>
   rw[h2]at h
   cases h
   obtain⟨b1,b2,b3,b4,b5⟩:=zGQ _ _ _ _ h2;rw[List.length_drop]at b2;refine⟨?_,by omega,by omega,b4,by omega⟩;unfold zC7 encI;have e:(y.1.length:Int)=x.1:=by rw[b3];omega
   rw[e,g1,b1,List.take_add]
theorem zOV(u:Nat):1≤(putU u).length:=by
 rw[putU]
 split<;>simp
theorem zHU(b:BlobS):1≤(encV b).length:=by
 have h:=zOV (zBa b.len);unfold encV;rw[List.length_append];omega
theorem zLR(h:HdrS)(hr:h.val.right=true)(hl:h.key.length+h.val.data.length≤2147483647)(rest:Bs):zFz (encH h++rest)=.ok (h,(encH h).length):=by
 unfold zFz encH;rw[List.append_assoc,zBl ⟨false,h.key⟩ rfl (by simp only;omega)];simp only[Bool.false_eq_true,if_false];rw[List.drop_left' rfl,zBl h.val hr (by omega)];simp only[List.length_append]
theorem zFy:∀(t:List HdrS) (rest:Bs),zCu t=true→hsum t≤2147483647→zBN t.length (t.flatMap encH++rest)=.ok (t,(t.flatMap encH).length)
  |[],_,_,_=>rfl
  |h::t,rest,hr,hs=>by
    unfold zCu at hr;rw[List.all_cons,Bool.and_eq_true]at hr;rw[zDN]at hs;rw[List.length_cons,List.flatMap_cons,List.append_assoc];unfold zBN;rw[zLR h hr.1 (by omega)];simp only;rw[List.drop_left' rfl,zFy t rest hr.2 (by omega)];simp only[List.length_append]
theorem zJf:∀(t:List HdrS),2*t.length≤(t.flatMap encH).length
  |[]=>by simp
  |h::t=>by
    have h1:=zJf t
    have h2:2≤(encH h).length:=by
      have a:=zHU ⟨false,h.key⟩;have b:=zHU h.val;unfold encH;rw[List.length_append];omega
    rw[List.flatMap_cons,List.length_append,List.length_cons];omega
theorem zJ5(t:List HdrS)(rest:Bs)(hr:zCu t=true)(hs:hsum t≤2147483647):zCF (zC7 t++rest)=.ok (t,(zC7 t).length):=by
 have h0:=(zCJ t).1;have h2:=zJf t;unfold zCF zC7 encI;rw[List.append_assoc,zFd t.length (by omega) (by omega)];simp only;rw[if_neg (by omega),if_neg (by rw[List.length_append,List.length_append];omega),List.drop_left' rfl,Int.toNat_natCast,zFy t rest hr hs];simp only[List.length_append]
theorem zMd{W0 w:World}{K:Know}{L:List Res}{l:List HdrS}{b off cap:Nat}(hk:K.has (Know.flat RHdr (.slice (some ⟨b,off,none⟩) l.length cap) 3 l)){i:Nat}{x:HdrS}(hi:i<l.length)(hx:l[i]'hi=x)(h:St W0 w K L):
  w.cell? ⟨b,off+i*3,none⟩=some (.string (bb x.key))∧w.cell? ⟨b,off+i*3+1,none⟩=some (.bool x.val.null)∧w.cell? ⟨b,off+i*3+2,none⟩=some (.string (bb x.val.data))∧St W0 w K L:=by
 obtain⟨b',off',hq,c0,c1,c2⟩:=zFX hk h i hi
 cases hq
 rw[hx]at c0 c1 c2;exact⟨c0,c1,c2,h⟩
theorem zBs(b:BlobS)(h:b.data.length≤140737488355328):(encV b).length≤b.data.length+10:=by
 have hr:=b.len_range h;have:=zDJ _ (zC2 hr.1 hr.2);unfold encV;rw[List.length_append];omega
theorem zQs(x:HdrS)(h:x.size≤140737488355328):(encH x).length≤x.size:=by
 unfold HdrS.size at*;have h1:=zBs ⟨false,x.key⟩ (by simp only;omega);have h2:=zBs x.val (by omega);unfold encH;simp only at h1;rw[List.length_append];omega
theorem zHV:∀(l:List HdrS),hsize l≤140737488355328→(l.flatMap encH).length≤hsize l
  |[],_=>by simp
  |x::t,h=>by
    have e:hsize (x::t)=x.size+hsize t:=rfl;have h1:=zQs x (by omega);have h2:=zHV t (by omega);rw[List.flatMap_cons,List.length_append];omega
structure RecS where
  time:Int
  off:Int
  key:BlobS
  val:BlobS
  hdrs:List HdrS
deriving DecidableEq
def RecS.zero:RecS:=⟨0,0,⟨false,[]⟩,⟨false,[]⟩,[]⟩
def RecS.R (x:RecS):Prop:=(-9223372036854775808≤x.time∧x.time<9223372036854775808)∧(-9223372036854775808≤x.off∧x.off<9223372036854775808)
def RecS.sum (x:RecS):Nat:=x.key.data.length+x.val.data.length+hsum x.hdrs
def RecS.allRight (x:RecS):Bool:=x.key.right && x.val.right && zCu x.hdrs
def zAV (x:RecS):Int:=if x.off<0∨2147483647<x.off then 11 else if x.allRight then 0 else 4
def recF (x:RecS):Bs:=[0]++(encI x.time++(encI x.off++(encV x.key++(encV x.val++zC7 x.hdrs))))
def encR (x:RecS):Bs:=encV ⟨false,recF x⟩
def OutS.putRec (o:OutS) (x:RecS):OutS:=if zAV x=0 then o.put (encR x)else o.fail (zAV x)
theorem zCp(n:Int)(h: -9223372036854775808≤n∧n<9223372036854775808):(encI n).length≤10:=zDJ _ (zC2 h.1 h.2)
theorem zFv(x:RecS)(hx:x.R)(hs:x.sum≤1000000):(recF x).length≤32*x.sum+100:=by
 unfold RecS.sum at*;have h0:=zCJ x.hdrs;have h1:=zCp x.time hx.1;have h2:=zCp x.off hx.2;have h3:=zBs x.key (by omega);have h4:=zBs x.val (by omega);have h5:=zHV x.hdrs (by omega);have h6:=zCp x.hdrs.length (by omega);unfold recF zC7;simp only[List.length_append,List.length_cons,List.length_nil]
 omega
theorem zGM{x:RecS}(h:zAV x=0):(0≤x.off∧x.off≤2147483647)∧x.allRight=true:=by
 unfold zAV at h
 split at h
 · cases h
 · split at h
   · exact⟨by omega,by assumption⟩
   · cases h
def zBM (s:Bs):Except Int RecS:=
  match zA7 1 s with
  | .error e=> .error e
  | .ok a=>if a.1=0 then match zFc (s.drop 1)with
      | .error e=> .error e
      | .ok t=>match zCv (s.drop (1+t.2))with
        | .error e=> .error e
        | .ok o=>if o.1<0 then .error 11 else match zAq (s.drop (1+t.2+o.2))with
          | .error e=> .error e
          | .ok k=>match zAq (s.drop (1+t.2+o.2+k.2))with
            | .error e=> .error e
            | .ok v=>match zCF (s.drop (1+t.2+o.2+k.2+v.2))with
              | .error e=> .error e
              | .ok h=>if 1+t.2+o.2+k.2+v.2+h.2=s.length then .ok ⟨t.1,o.1,k.1,v.1,h.1⟩else .error 2
    else .error 8
def InS.recTail (i:InS) (t o:Int):RecS×InS:=(⟨t,o,i.varied.1,i.varied.2.varied.1,i.varied.2.varied.2.hdrs.1⟩,i.varied.2.varied.2.hdrs.2)
def InS.recOff (i:InS) (t:Int):RecS×InS:=(if i.vint.1<0 then i.vint.2.fail 11 else i.vint.2).recTail t i.vint.1
def InS.recTime (i:InS):RecS×InS:=i.vlong.2.recOff i.vlong.1
def InS.recFields (i:InS):RecS×InS:=(if (i.int 1).1=0 then(i.int 1).2 else(i.int 1).2.fail 8).recTime
theorem zD7{i:InS}(h:i.err≠0)(t o:Int):(i.recTail t o).2=i:=by
 unfold InS.recTail;rw[zAk.stuck i h];simp only;rw[zAk.stuck i h];simp only;rw[zDH.stuck i h]
theorem zIZ{i:InS}(h:i.err≠0)(t:Int):(i.recOff t).2=i:=by
 unfold InS.recOff;rw[zCG.stuck i h];simp only;rw[if_neg (by decide),zD7 h]
theorem zGH{i:InS}(h:i.err≠0):(i.recTime).2=i:=by
 unfold InS.recTime;rw[zHC.stuck i h,zIZ h]
theorem InS.fail_stuck0{i:InS}(h:i.err≠0)(e:Int):i.fail e=i:=if_neg h
theorem zBE{s:Bs}{q:Nat}{e:Int}(h:e≠0):(⟨s,q,e⟩:InS).close.err=e:=by
 unfold InS.close
 split
 · rw[InS.fail_stuck0 (show(⟨s,q,e⟩:InS).err≠0 from h)]
 · rfl
theorem InS.fail_stuck{i:InS}(h:i.err≠0)(e:Int):i.fail e=i:=if_neg h
def recD (s:Bs):RecS×InS:=(⟨s,0,0⟩:InS).recFields
theorem zLa(s:Bs):(∀x,zBM s=.ok x→recD s=(x,⟨s,s.length,0⟩))∧(∀e,zBM s=.error e→e≠0∧(recD s).2.close.err=e):=by
 unfold zBM recD InS.recFields;have hi:=zCh 1 (by decide) (by decide)
 cases h0:zA7 1 s with
 |error e0=>
  obtain⟨g1,q,g2,g3⟩:=hi.err s 0 e0 (Nat.zero_le _) (by rw[List.drop_zero];exact h0);have g3:(⟨s,0,0⟩:InS).int 1=(0,⟨s,q,e0⟩):=g3;refine⟨fun x h=>(by cases h),fun e h=> ?_⟩
  cases h
  rw[g3];simp only[if_true];rw[zGH (show(⟨s,q,e0⟩:InS).err≠0 from g1)];exact⟨g1,zBE g1⟩
 |ok a=>
  obtain⟨g1,g3⟩:=hi.ok s 0 a.1 a.2 (Nat.zero_le _) (by rw[List.drop_zero];exact h0);have g3:(⟨s,0,0⟩:InS).int 1=(a.1,⟨s,0+a.2,0⟩):=g3
  have ha2:a.2=1:=by
    unfold zA7 at h0
    split at h0
    · cases h0
    · cases h0;rfl
  rw[Nat.zero_add,ha2]at g3 g1;rw[g3];simp only
  by_cases ha:a.1=0
  · rw[if_pos ha,if_pos ha];unfold InS.recTime
    cases h1:zFc (s.drop 1)with
    |error e1=>
     obtain⟨k1,q,k2,k3⟩:=zHC.err s 1 e1 g1 h1;refine⟨fun x h=>(by cases h),fun e h=> ?_⟩
     cases h
     rw[k3];simp only;rw[zIZ (show(⟨s,q,e1⟩:InS).err≠0 from k1)];exact⟨k1,zBE k1⟩
    |ok t=>
     obtain⟨k1,k3⟩:=zHC.ok s 1 t.1 t.2 g1 h1;rw[k3];simp only;unfold InS.recOff
     cases h2:zCv (s.drop (1+t.2))with
     |error e2=>
      obtain⟨m1,q,m2,m3⟩:=zCG.err s (1+t.2) e2 k1 h2;refine⟨fun x h=>(by cases h),fun e h=> ?_⟩
      cases h
      rw[m3];simp only;rw[if_neg (by decide),zD7 (show(⟨s,q,e2⟩:InS).err≠0 from m1)];exact⟨m1,zBE m1⟩
     |ok o=>
      obtain⟨m1,m3⟩:=zCG.ok s (1+t.2) o.1 o.2 k1 h2;rw[m3];simp only
      by_cases ho:o.1<0
      · rw[if_pos ho,if_pos ho];refine⟨fun x h=>(by cases h),fun e h=> ?_⟩
        cases h
        rw[InS.fail_ok0',zD7 (show(11:Int)≠0 by decide)];exact⟨by decide,zBE (by decide)⟩
      · rw[if_neg ho,if_neg ho];unfold InS.recTail
        cases h3:zAq (s.drop (1+t.2+o.2))with
        |error e3=>
         obtain⟨n1,q,n2,n3⟩:=zAk.err s _ e3 m1 h3;refine⟨fun x h=>(by cases h),fun e h=> ?_⟩
         cases h
         rw[n3];simp only;have n1':(⟨s,q,e3⟩:InS).err≠0:=n1;rw[zAk.stuck _ n1'];simp only;rw[zDH.stuck _ n1'];exact⟨n1,zBE n1⟩
        |ok k=>
         obtain⟨n1,n3⟩:=zAk.ok s _ k.1 k.2 m1 h3;rw[n3];simp only
         cases h4:zAq (s.drop (1+t.2+o.2+k.2))with
         |error e4=>
          obtain⟨p1,q,p2,p3⟩:=zAk.err s _ e4 n1 h4;refine⟨fun x h=>(by cases h),fun e h=> ?_⟩
          cases h
          rw[p3];simp only;have p1':(⟨s,q,e4⟩:InS).err≠0:=p1;rw[zDH.stuck _ p1'];exact⟨p1,zBE p1⟩
         |ok v=>
          obtain⟨p1,p3⟩:=zAk.ok s _ v.1 v.2 n1 h4;rw[p3];simp only
          cases h5:zCF (s.drop (1+t.2+o.2+k.2+v.2))with
          |error e5=>
           obtain⟨r1,q,r2,r3⟩:=zDH.err s _ e5 p1 h5;refine⟨fun x h=>(by cases h),fun e h=> ?_⟩
           cases h
           rw[r3];exact⟨r1,zBE r1⟩
          |ok h=>
           obtain⟨r1,r3⟩:=zDH.ok s _ h.1 h.2 p1 h5;rw[r3];simp only
           by_cases hE:1+t.2+o.2+k.2+v.2+h.2=s.length
           · rw[if_pos hE,hE];refine⟨fun x hh=>(by cases hh;rfl),fun e hh=>(by cases hh)⟩
           · rw[if_neg hE];refine⟨fun x hh=>(by cases hh),fun e hh=> ?_⟩
             cases hh
             refine⟨by decide,?_⟩;unfold InS.close;rw[if_pos (by simp only[InS.left];omega)]
             rfl
  · rw[if_neg ha,if_neg ha];refine⟨fun x h=>(by cases h),fun e h=> ?_⟩
    cases h
    rw[InS.fail_ok0',zGH (show(8:Int)≠0 by decide)];exact⟨by decide,zBE (by decide)⟩
def zHB (l:Bs):Except Int (RecS×Nat):=match zAq l with
  | .error e=> .error e
  | .ok b=>if b.1.null then .error 4 else match zBM b.1.data with
    | .error e=> .error e
    | .ok x=> .ok (x,b.2)
def InS.recJ (i:InS):InS:=if (recD i.name.1).2.close.err=0 then i.name.2 else i.name.2.fail (recD i.name.1).2.close.err
def InS.record (i:InS):RecS×InS:=if i.recJ.err=0 then((recD i.name.1).1,i.recJ)else(RecS.zero,i.recJ)
theorem zFA:Rds InS.record zHB RecS.zero:=by
 refine⟨?_,?_,?_⟩
 · intro s pos a k hp h;unfold zHB at h
   cases h1:zAq (s.drop pos)with
   |error e=>rw[h1]at h;cases h
   |ok b=>
    rw[h1]at h;obtain⟨g1,g2⟩:=zAk.ok s pos b.1 b.2 hp h1
    cases hn:b.1.null
    · simp only[hn]at h
      cases h2:zBM b.1.data with
      |error e=>rw[h2]at h;cases h
      |ok x=>
       rw[h2]at h
       cases h
       have hi:=(zLa b.1.data).1 _ h2;refine⟨g1,?_⟩
       have hnm:(⟨s,pos,0⟩:InS).name=(b.1.data,⟨s,pos+b.2,0⟩):=by
        unfold InS.name InS.bytes;rw[g2];simp only[hn]
        rfl
       have hc:(⟨b.1.data,b.1.data.length,0⟩:InS).close.err=0:=by unfold InS.close;rw[if_neg (by simp only[InS.left];omega)]
       unfold InS.record InS.recJ;rw[hnm];simp only[hi,hc,if_true]
    · simp[hn]at h
 · intro s pos e hp h;unfold zHB at h
   cases h1:zAq (s.drop pos)with
   |error e1=>
    rw[h1]at h
    cases h
    obtain⟨g1,q,g2,g3⟩:=zAk.err s pos e hp h1;refine⟨g1,q,g2,?_⟩
    have hnm:(⟨s,pos,0⟩:InS).name=([],⟨s,q,e⟩):=by
      unfold InS.name InS.bytes;rw[g3]
      rfl
    unfold InS.record InS.recJ;rw[hnm];simp only[InS.fail_stuck (show(⟨s,q,e⟩:InS).err≠0 from g1),ite_self];rw[if_neg g1]
   |ok b=>
    rw[h1]at h;obtain⟨g1,g2⟩:=zAk.ok s pos b.1 b.2 hp h1
    cases hn:b.1.null
    · simp only[hn]at h
      cases h2:zBM b.1.data with
      |error e2=>
       rw[h2]at h
       cases h
       obtain⟨k1,k2⟩:=(zLa b.1.data).2 _ h2;refine⟨k1,pos+b.2,g1,?_⟩
       have hnm:(⟨s,pos,0⟩:InS).name=(b.1.data,⟨s,pos+b.2,0⟩):=by
        unfold InS.name InS.bytes;rw[g2];simp only[hn]
        rfl
       unfold InS.record InS.recJ;rw[hnm];simp only[k2];rw[if_neg k1,InS.fail_ok0',if_neg k1]
      |ok x=>rw[h2]at h;cases h
    · simp[hn]at h;subst h;refine⟨by decide,pos+b.2,g1,?_⟩
      have hnm:(⟨s,pos,0⟩:InS).name=(b.1.data,⟨s,pos+b.2,4⟩):=by
       unfold InS.name InS.bytes;rw[g2];simp only[hn]
       rfl
      unfold InS.record InS.recJ;rw[hnm];simp only[InS.fail_stuck (show(⟨s,pos+b.2,4⟩:InS).err≠0 from(show(4:Int)≠0 by decide)),ite_self];rw[if_neg (show ¬(4:Int)=0 by decide)]
 · intro i hi;unfold InS.record InS.recJ;rw[zEo hi];simp only[InS.fail_stuck hi,ite_self];rw[if_neg hi]
set_option maxHeartbeats 1000000
set_option maxRecDepth 100000
variable {W0 w:World}{K:Know}{L:List Res}
theorem raw7{b:Nat}{T:TypeId}{v0 v1 v2 v3 v4 v5 v6:Value}(h:St W0 w K (.raw b #[v0,v1,v2,v3,v4,v5,v6] T::L)):
  w.cell? ⟨b,0,none⟩=some v0∧w.cell? ⟨b,1,none⟩=some v1∧w.cell? ⟨b,2,none⟩=some v2∧w.cell? ⟨b,3,none⟩=some v3∧w.cell? ⟨b,4,none⟩=some v4∧w.cell? ⟨b,5,none⟩=some v5∧w.cell? ⟨b,6,none⟩=some v6∧
  w.frozen? ⟨b,0,none⟩=false∧w.frozen? ⟨b,1,none⟩=false∧w.frozen? ⟨b,2,none⟩=false∧w.frozen? ⟨b,3,none⟩=false∧w.frozen? ⟨b,4,none⟩=false∧w.frozen? ⟨b,5,none⟩=false∧w.frozen? ⟨b,6,none⟩=false:=
 ⟨h.rawCell 0,h.rawCell 1,h.rawCell 2,h.rawCell 3,h.rawCell 4,h.rawCell 5,h.rawCell 6,h.rawFree 0,h.rawFree 1,h.rawFree 2,h.rawFree 3,h.rawFree 4,h.rawFree 5,h.rawFree 6⟩
def zB7 (x:BlobS):List Value:=[.bool x.null,.string (bb x.data)]
theorem zN1:zDw Tryz.prog 51 (.agg #[.bool false,.string ⟨#[]⟩]) 2 24:=zBv (by kernel_rfl) rfl (by decide)
def zBY (x:RecS):List BlobS:=x.key::x.val::x.hdrs.map HdrS.val
theorem zH8(x:RecS):(zBY x).all BlobS.right=x.allRight:=by
 unfold zBY RecS.allRight zCu;rw[List.all_cons,List.all_cons,List.all_map,Bool.and_assoc]
 rfl
theorem zMx(l:List BlobS)(k:Nat)(h:k<l.length):(l.flatMap zB7)[k*2]? =some (.bool l[k].null)∧(l.flatMap zB7)[k*2+1]? =some (.string (bb l[k].data)):=by
 have h0:=zA2 l zB7 2 (fun _ _=>rfl) k h 0 (by decide);have h1:=zA2 l zB7 2 (fun _ _=>rfl) k h 1 (by decide);rw[Nat.add_zero]at h0;exact⟨h0,h1⟩
theorem zIC(g cap n:Nat)(l:List BlobS)(hn:n=l.length)(hl:l.length≤9223372036854775807)(h:St W0 w K (.row (.slice (some ⟨g,0,none⟩) n cap) 51 2 n (l.flatMap zB7)::L)):
  Calls Tryz.prog 99 #[.slice (some ⟨g,0,none⟩) n cap] w fun en w'=>en=.returned (.bool (l.all BlobS.right))∧St W0 w' K (.row (.slice (some ⟨g,0,none⟩) n cap) 51 2 n (l.flatMap zB7)::L):=by
 subst hn;have H:=hQd h;obtain⟨r,hr⟩:∃r,l.all BlobS.right=r:=⟨_,rfl⟩;have HR:=hQd hr;rw[hr];clear h hr;go_enter Tryz.func99,Tryz.ntmps99;go_wp2;go_loopw [7] (fun iv wr=>∃k:Nat,k≤l.length∧iv=.int .i64 k∧(l.take k).all BlobS.right=true∧St W0 wr K (.row (.slice (some ⟨g,0,none⟩) l.length cap) 51 2 l.length (l.flatMap zB7)::L)) (fun iv _=>l.length - (intOf iv).toNat)
 case atStart=>exact⟨0,Nat.zero_le _,rfl,rfl,H.out⟩
 case round=>
  obtain⟨k,hk,rfl,hall,hst⟩:=hrel;have HALL:=hQd hall;clear hall
  by_cases hlt:k<l.length
  · obtain⟨e0,e1⟩:=zMx l k hlt;have c0:=(hst.rowCell (k*2) (by omega)).trans e0;have c1:=(hst.rowCell (k*2+1) (by omega)).trans e1;have hnx:(l.take (k+1)).all BlobS.right=(l[k]'hlt).right:=by rw[List.take_succ_eq_append_getElem hlt,List.all_append,HALL.out];simp
    have hno:(l[k]'hlt).right=false→l.all BlobS.right=false:=by
      intro h;rw[List.all_eq_false];exact⟨_,List.getElem_mem hlt,by rw[h];decide⟩
    obtain⟨x,hx⟩:∃x,l[k]'hlt=x:=⟨_,rfl⟩;rw[hx]at c0 c1 hnx hno;have HX:=hQd (And.intro hnx hno);have H:=hQd hst;clear hst e0 e1 hx hnx hno
    cases hxr:x.right
    all_goals
      have ER:=hQd hxr;clear hxr;go_wp2_with (go_at_call 128;refine(zHb x (H.out.alloc _)).mono ?_;rw[ER.out];rintro e wn ⟨rfl,h⟩;replace H:=hQd h;clear h)
    · go_ret;exact⟨zCd (by rw[←HR.out];exact(HX.out.2 ER.out).symm),H.out⟩
    · go_roundw
      case rel=>exact⟨k+1,hlt,by go_num,by rw[HX.out.1,ER.out],H.out⟩
      case measure=>first|(simp[intOf];done)|(simp[intOf];omega)
  · have hke:k=l.length:=by omega
    subst hke;rw[List.take_length]at HALL;go_wp2;go_ret;exact⟨zCd (by rw[←HR.out];exact HALL.out.symm),hst⟩
theorem zNa(x:RecS)(v:Value)(hl:x.hdrs.length≤1000000)(hk:K.has (Know.flat RHdr v 3 x.hdrs))(h:St W0 w K L):
  Calls Tryz.prog 100 #[.agg #[.int .i64 x.time,.int .i64 x.off,.bool x.key.null,.string (bb x.key.data),.bool x.val.null,.string (bb x.val.data),v]] w fun en w'=>∃g cap,en=.returned (.slice (some ⟨g,0,none⟩) (zBY x).length cap)∧St W0 w' K (.row (.slice (some ⟨g,0,none⟩) (zBY x).length cap) 51 2 (zBY x).length ((zBY x).flatMap zB7)::L):=by
 obtain⟨q,cap,rfl⟩:=zAu hk h;have h0:=(h.allocRaw #[.int .i64 x.time,.int .i64 x.off,.bool x.key.null,.string (bb x.key.data),.bool x.val.null,.string (bb x.val.data),.slice q x.hdrs.length cap] 54).rowLit (zB7 x.key++zB7 x.val) 51 2 2 rfl (by decide);have H:=hQd h0;have HK:=hQd hk;clear h hk h0;go_enter Tryz.func100,Tryz.ntmps100;go_wp2;have H2:=hQd ((H.out.p1.drop).cast (L':=.row (.slice (some ⟨w.heap.size+1,0,none⟩) 2 2) 51 2 [x.key,x.val].length ([x.key,x.val].flatMap zB7)::L) (by rw[World.size_alloc];rfl));clear H;go_loopw [3,14] (fun lv iv wr=>∃(k:Nat) (acc:List BlobS),k≤x.hdrs.length∧iv=.int .i64 k∧acc=x.key::x.val::(x.hdrs.take k).map HdrS.val∧St W0 wr K (.row lv 51 2 acc.length (acc.flatMap zB7)::L)) (fun _ iv _=>x.hdrs.length - (intOf iv).toNat)
 case atStart=>exact⟨0,_,Nat.zero_le _,rfl,by rw[List.take_zero];rfl,H2.out⟩
 case round=>
  obtain⟨k,acc,hk,rfl,hacc,hst⟩:=hrel;have HACC:=hQd hacc;have H:=hQd hst;have hlen:acc.length=k+2:=by rw[hacc];simp;omega
  have HLEN:=hQd hlen;clear hacc hlen H2
  by_cases hlt:k<x.hdrs.length
  · obtain⟨b,off,hq,yq⟩:=zFX HK.out hst k hlt;subst hq;clear yq;obtain⟨y,hy⟩:∃y,x.hdrs[k]'hlt=y:=⟨_,rfl⟩;obtain⟨c0,c1,c2,_⟩:=zMd HK.out hlt hy hst;have HY:=hQd (show acc++[y.val]=x.key::x.val::(x.hdrs.take (k+1)).map HdrS.val by rw[HACC.out,List.take_succ_eq_append_getElem hlt,hy];simp);clear hst hy;go_wp2_with (at_builtin;refine zAw rfl _ _ 150 rfl 51 Tryz.underlying150 zN1 _ _ _ rfl (H.out.alloc _) [.bool y.val.null,.string (bb y.val.data)] 51 (by rw[World.size_alloc];rfl) rfl (by simp[Value.oneCell']) (by have:=HLEN.out;unfold maxLen;omega) (by have:=HLEN.out;omega) ?_;intro v' w' h;replace H:=hQd h;clear h);go_roundw
    case rel=>exact⟨k+1,acc++[y.val],hlt,by go_num,HY.out,H.out.cast (by simp[zB7])⟩
    case measure=>first|(simp[intOf];done)|(simp[intOf];omega)
  · have hke:k=x.hdrs.length:=by omega
    subst hke;rw[List.take_length]at HACC;have hb:acc=zBY x:=HACC.out;subst hb;obtain⟨g,cp,hv⟩:=hst.rowSlice (by unfold zBY;simp);subst hv;clear hst;go_wp2;go_ret;exact⟨g,cp,rfl,H.out⟩
theorem zDE(x:RecS)(v:Value)(e:Int)(he:zAV x=e)(hl:x.hdrs.length≤1000000)(hk:K.has (Know.flat RHdr v 3 x.hdrs))(h:St W0 w K L):
   Calls Tryz.prog 70 #[.agg #[.int .i64 x.time,.int .i64 x.off,.bool x.key.null,.string (bb x.key.data),.bool x.val.null,.string (bb x.val.data),v]] w fun en w'=>en=.returned (.int .i64 e)∧St W0 w' K L:=by
 have H:=hQd (h.allocRaw #[.int .i64 x.time,.int .i64 x.off,.bool x.key.null,.string (bb x.key.data),.bool x.val.null,.string (bb x.val.data),v] 54);have HK:=hQd hk;have HL:=hQd hl;have hlb:(zBY x).length≤9223372036854775807:=by unfold zBY;simp;omega
 have HLB:=hQd hlb;clear h hk hl hlb;unfold zAV at he
 by_cases h1:x.off<0
 · rw[if_pos (.inl h1)]at he;subst he;go_enter Tryz.func70,Tryz.ntmps70;go_wp2;go_ret;exact⟨rfl,H.out.drop⟩
 by_cases h2:2147483647<x.off
 · rw[if_pos (.inr h2)]at he;subst he;go_enter Tryz.func70,Tryz.ntmps70;go_wp2;go_ret;exact⟨rfl,H.out.drop⟩
 rw[if_neg (by omega)]at he
 cases hr:x.allRight
 all_goals
   rw[hr]at he;have ER:=hQd ((zH8 x).trans hr);clear hr
   first|(simp only[if_true]at he)|(simp only[Bool.false_eq_true,if_false]at he)
   subst he;go_enter Tryz.func70,Tryz.ntmps70
   go_wp2_with (first
    |(go_at_call 100;refine(zNa x v HL.out HK.out H.out).mono ?_;rintro e wn ⟨g,cap,rfl,h⟩;replace H:=hQd h;clear h)
    |(go_at_call 99;refine(zIC g cap _ _ rfl HLB.out H.out).mono ?_;rw[ER.out];rintro e wn ⟨rfl,h⟩;replace H:=hQd h;clear h))
   go_ret;exact⟨rfl,H.out.drop.drop⟩
def zEx (n1 n2:Bool) (d1 d2:Bs) (many o:Int):Int×Int×Int:=
  if n1=true∨n2=true∨many≠0∨o≠0 then(0,0,12)
  else if (zC6 2 way 12 d1).2≠0 then(0,0,(zC6 2 way 12 d1).2)
  else if (zC6 4 zDe 11 d2).2≠0 then(0,0,(zC6 4 zDe 11 d2).2)
  else((zC6 2 way 12 d1).1,(zC6 4 zDe 11 d2).1,0)
theorem zH2(t o:Int)(n1 n2:Bool)(d1 d2:Bs)(q:Option Addr)(ln cap:Nat)(r:Int×Int×Int)(hr:zEx n1 n2 d1 d2 ln o=r)(hd1:d1.length≤140737488355328)(hd2:d2.length≤140737488355328){W0 w:World}{K:Know}{L:List Res}(h:St W0 w K L):
   Calls Tryz.prog 71 #[.agg #[.int .i64 t,.int .i64 o,.bool n1,.string (bb d1),.bool n2,.string (bb d2),(.slice q ln cap)]] w fun en w'=>en=.returned (.tuple #[.int .i64 r.1,.int .i64 r.2.1,.int .i64 r.2.2])∧St W0 w' K L:=by
 have h0:=h.allocRaw #[.int .i64 t,.int .i64 o,.bool n1,.string (bb d1),.bool n2,.string (bb d2),(.slice q ln cap)] 54;obtain⟨wA,hwA⟩:∃b,w.heap.size=b:=⟨_,rfl⟩;rw[hwA]at h0;have H:=hQd h0;have HD1:=hQd hd1;have HD2:=hQd hd2;obtain⟨ac0,ac1,ac2,ac3,ac4,ac5,ac6,af0,af1,af2,af3,af4,af5,af6⟩:=raw7 (b:=wA) (H.out);clear h h0 hd1 hd2;unfold zEx at hr
 by_cases g1:n1=true
 · rw[if_pos (.inl g1)]at hr;subst hr g1;go_enter Tryz.func71,Tryz.ntmps71;go_wp2;go_ret3;exact⟨rfl,H.out.drop⟩
 by_cases g2:n2=true
 · rw[if_pos (.inr (.inl g2))]at hr;subst hr g2;obtain rfl:n1=false:=by simpa using g1
   clear g1;go_enter Tryz.func71,Tryz.ntmps71;go_wp2;go_ret3;exact⟨rfl,H.out.drop⟩
 obtain rfl:n1=false:=by simpa using g1
 obtain rfl:n2=false:=by simpa using g2
 clear g1 g2
 by_cases g3:(ln:Int)≠0
 · rw[if_pos (.inr (.inr (.inl g3)))]at hr;subst hr;have b1:((ln:Int) !=0)=true:=by simpa using g3
   have b2:decide (0<ln)=true:=decide_eq_true (by omega);have b3:decide ((0:Int)<ln)=true:=decide_eq_true (by omega);have b4:0<ln:=by omega
   clear g3;go_enter Tryz.func71,Tryz.ntmps71;go_wp2;go_ret3;exact⟨rfl,H.out.drop⟩
 obtain rfl:ln=0:=by omega
 clear g3
 by_cases g4:o≠0
 · rw[if_pos (.inr (.inr (.inr g4)))]at hr;subst hr;have b1:(o !=0)=true:=by simpa using g4
   clear g4;go_enter Tryz.func71,Tryz.ntmps71;go_wp2;go_ret3;exact⟨rfl,H.out.drop⟩
 obtain rfl:o=0:=by simpa using g4
 clear g4;rw[if_neg (by simp)]at hr;obtain⟨a,ha⟩:∃a,zC6 2 way 12 d1=a:=⟨_,rfl⟩;obtain⟨b,hb⟩:∃b,zC6 4 zDe 11 d2=b:=⟨_,rfl⟩;rw[ha,hb]at hr;have EA:=hQd ha;have EB:=hQd hb;clear ha hb
 by_cases g5:a.2≠0
 · rw[if_pos g5]at hr;subst hr;have b1:(a.2 !=0)=true:=by simpa using g5
   clear g5;go_enter Tryz.func71,Tryz.ntmps71
   go_wp2_with (first
    |(go_at_call 101;refine(zDt d1 a EA.out HD1.out H.out).mono ?_;rintro e wn ⟨rfl,h⟩;replace H:=hQd h;clear h;obtain⟨ac0,ac1,ac2,ac3,ac4,ac5,ac6,af0,af1,af2,af3,af4,af5,af6⟩:=raw7 (b:=wA) (H.out)))
   go_ret3;exact⟨rfl,H.out.drop⟩
 rw[if_neg g5]at hr;have b1:(a.2 !=0)=false:=by simpa using g5
 clear g5
 by_cases g6:b.2≠0
 · rw[if_pos g6]at hr;subst hr;have b2:(b.2 !=0)=true:=by simpa using g6
   clear g6;go_enter Tryz.func71,Tryz.ntmps71
   go_wp2_with (first
    |(go_at_call 101;refine(zDt d1 a EA.out HD1.out H.out).mono ?_;rintro e wn ⟨rfl,h⟩;replace H:=hQd h;clear h;obtain⟨ac0,ac1,ac2,ac3,ac4,ac5,ac6,af0,af1,af2,af3,af4,af5,af6⟩:=raw7 (b:=wA) (H.out))
    |(go_at_call 102;refine(zDW d2 b EB.out HD2.out H.out).mono ?_;rintro e wn ⟨rfl,h⟩;replace H:=hQd h;clear h;obtain⟨ac0,ac1,ac2,ac3,ac4,ac5,ac6,af0,af1,af2,af3,af4,af5,af6⟩:=raw7 (b:=wA) (H.out)))
   go_ret3;exact⟨rfl,H.out.drop⟩
 rw[if_neg g6]at hr;subst hr;have b2:(b.2 !=0)=false:=by simpa using g6
 clear g6;go_enter Tryz.func71,Tryz.ntmps71
 go_wp2_with (first
   |(go_at_call 101;refine(zDt d1 a EA.out HD1.out H.out).mono ?_;rintro e wn ⟨rfl,h⟩;replace H:=hQd h;clear h;obtain⟨ac0,ac1,ac2,ac3,ac4,ac5,ac6,af0,af1,af2,af3,af4,af5,af6⟩:=raw7 (b:=wA) (H.out))
   |(go_at_call 102;refine(zDW d2 b EB.out HD2.out H.out).mono ?_;rintro e wn ⟨rfl,h⟩;replace H:=hQd h;clear h;obtain⟨ac0,ac1,ac2,ac3,ac4,ac5,ac6,af0,af1,af2,af3,af4,af5,af6⟩:=raw7 (b:=wA) (H.out)))
 go_ret3;exact⟨rfl,H.out.drop⟩
structure BatS where
  base:Int
  leader:Int
  app:Bool
  txn:Bool
  ctl:Bool
  last:Int
  first:Int
  maxt:Int
  prod:Int
  epoch:Int
  seq:Int
  recs:List RecS
deriving DecidableEq
def BatS.zero:BatS:=⟨0,0,false,false,false,0,0,0,0,0,0,[]⟩
def Rn (n:Int):Prop:= -9223372036854775808≤n∧n<9223372036854775808
def BatS.R (b:BatS):Prop:=Rn b.base∧Rn b.leader∧Rn b.last∧Rn b.first∧Rn b.maxt∧Rn b.prod∧Rn b.epoch∧Rn b.seq
def BatS.placed (b:BatS):Bool:=decide (0≤b.base∧(-1≤b.leader∧b.leader≤2147483647)∧(0≤b.last∧b.last≤2147483647)∧b.base≤9223372036854775807 - b.last∧0≤b.first∧0≤b.maxt)
def BatS.signed (b:BatS):Bool:=
  if b.prod= -1 then decide (b.epoch= -1∧b.seq= -1∧b.txn=false)
  else if b.prod<0∨¬(0≤b.epoch∧b.epoch≤32767)then false
  else if b.ctl then decide (b.seq= -1)
  else decide (0≤b.seq∧b.seq≤2147483647)
def zIz (first last:Int):List RecS→Int→Int→Except Int Int
  |[],_,g=> .ok g
  |r::t,ah,g=>if r.off≤ah∨last<r.off then .error 13 else if r.time< -first∨9223372036854775807 - first<r.time then .error 11 else zIz first last t r.off (max g (first+r.time))
def zP6 (app:Bool) (maxt:Int) (r:Except Int Int):Int:=match r with
  | .error e=>e
  | .ok g=>if app=false∧maxt≠g then 11 else 0
def BatS.rows (b:BatS):Int:=zP6 b.app b.maxt (zIz b.first b.last b.recs (-1) b.first)
def zCw:List RecS→Int
  |[]=>0
  |r::t=>if zAV r=0 then zCw t else zAV r
def zEy (r:RecS):Int×Int×Int:=zEx r.key.null r.val.null r.key.data r.val.data r.hdrs.length r.off
def BatS.ends (b:BatS):Int:=match b.recs with|[]=>0|r::_=>(zEy r).2.2
def zAc (b:BatS):Int:=
  if b.placed=false then 11
  else if b.ctl=true∧b.txn=false then 8
  else if b.signed=false then 11
  else if b.ctl=true∧b.recs.length≠1 then 10
  else if zCw b.recs≠0 then zCw b.recs
  else if b.ctl=true∧b.ends≠0 then b.ends
  else b.rows
variable {W0 w:World}{K:Know}{L:List Res}
theorem zK1(a b:Bs):(⟨a,0⟩:OutS).put b=⟨a++b,0⟩:=rfl
theorem zHw(p:Nat)(x:RecS)(v:Value)(hx:x.R)(ho:zAV x=0)(hs:x.sum≤1000000)(hk:K.has (Know.flat RHdr v 3 x.hdrs))(h:St W0 w K (.out p ⟨[],0⟩::L)):
  Calls Tryz.prog 146 #[zAR p,.agg #[.int .i64 x.time,.int .i64 x.off,.bool x.key.null,.string (bb x.key.data),.bool x.val.null,.string (bb x.val.data),v]] w fun en w'=>en=.returned (.tuple #[])∧St W0 w' K (.out p ⟨recF x,0⟩::L):=by
 have H:=hQd (h.allocRaw #[.int .i64 x.time,.int .i64 x.off,.bool x.key.null,.string (bb x.key.data),.bool x.val.null,.string (bb x.val.data),v] 54).p1;have HK:=hQd hk;obtain⟨ho,hr⟩:=zGM ho;have hle:=zFv x hx hs;unfold RecS.allRight at hr;rw[Bool.and_eq_true,Bool.and_eq_true]at hr;have hsm:=hs;unfold RecS.sum at hsm;have hsl:=zCJ x.hdrs;have HT:=hQd hx.1;have HO:=hQd hx.2;obtain⟨s2,h2⟩:∃s,[0]++encI x.time=s:=⟨_,rfl⟩;obtain⟨s3,h3⟩:∃s,s2++encI x.off=s:=⟨_,rfl⟩;obtain⟨s4,h4⟩:∃s,s3++encV x.key=s:=⟨_,rfl⟩;obtain⟨s5,h5⟩:∃s,s4++encV x.val=s:=⟨_,rfl⟩;have h6:s5++zC7 x.hdrs=recF x:=by rw[←h5,←h4,←h3,←h2];unfold recF;simp only[List.append_assoc]
 obtain⟨s6,hs6⟩:∃s,recF x=s:=⟨_,rfl⟩;rw[hs6]at h6 hle ⊢;have l6:=congrArg List.length h6;have l5:=congrArg List.length h5;have l4:=congrArg List.length h4;have l3:=congrArg List.length h3;have l2:=congrArg List.length h2;simp only[List.length_append,List.length_cons,List.length_nil]at l2 l3 l4 l5 l6;have E1:=hQd (show(⟨[],0⟩:OutS).put [0]=⟨[0],0⟩from rfl);have E2:=hQd (show(⟨[0],0⟩:OutS).putLong x.time=⟨s2,0⟩from by rw[←h2];rfl);have E3:=hQd (show(⟨s2,0⟩:OutS).putInt x.off=⟨s3,0⟩from by rw[zGS (by omega) (by omega),zK1,h3]);have E4:=hQd (show(⟨s3,0⟩:OutS).putVaried x.key=⟨s4,0⟩from by rw[zAZ hr.1.1 (by omega),zK1,h4]);have E5:=hQd (show(⟨s4,0⟩:OutS).putVaried x.val=⟨s5,0⟩from by rw[zAZ hr.1.2 (by omega),zK1,h5]);have E6:=hQd (show(⟨s5,0⟩:OutS).putHdrs x.hdrs=⟨s6,0⟩from by rw[zHH hr.2 (by omega),zK1,h6]);have K1:=hQd (show(⟨[0],0⟩:OutS).ok 16 by unfold OutS.ok;simp);have K2:=hQd (show(⟨s2,0⟩:OutS).ok 16 by unfold OutS.ok;simp only;omega);have K3:=hQd (show(⟨s3,0⟩:OutS).ok (x.key.data.length+16) by unfold OutS.ok;simp only;omega);have K4:=hQd (show(⟨s4,0⟩:OutS).ok (x.val.data.length+16) by unfold OutS.ok;simp only;omega);have K5:=hQd (show(⟨s5,0⟩:OutS).ok (hsize x.hdrs+16) by unfold OutS.ok;simp only;omega);have HLL:=hQd (show x.hdrs.length≤140737488355328 by omega);have t1:True:=trivial;have t2:True:=trivial;have t3:True:=trivial;have t4:True:=trivial;have t5:True:=trivial;have t6:True:=trivial;clear h hk hx ho hr hs hle hsm hsl h2 h3 h4 h5 h6 hs6 l2 l3 l4 l5 l6;go_enter Tryz.func146,Tryz.ntmps146
 go_wp2_with (first
  |(go_at_call 177;have _t:=t1;clear _t;refine(zPT _ _ 0 H.out (by unfold OutS.ok;decide)).mono ?_;rw[E1.out];rintro e wn ⟨rfl,h⟩;replace H:=hQd h;clear h t1;obtain⟨c0,c1,c2,c3,c4,c5,c6,f0,f1,f2,f3,f4,f5,f6⟩:=raw7 (b:=w.heap.size) H.out.p1)
  |(go_at_call 178;have _t:=t2;clear _t;refine(zLs _ _ _ HT.out H.out K1.out).mono ?_;rw[E2.out];rintro e wn ⟨rfl,h⟩;replace H:=hQd h;clear h t2;obtain⟨c0,c1,c2,c3,c4,c5,c6,f0,f1,f2,f3,f4,f5,f6⟩:=raw7 (b:=w.heap.size) H.out.p1)
  |(go_at_call 179;have _t:=t3;clear _t;refine(zFh _ _ _ HO.out H.out K2.out).mono ?_;rw[E3.out];rintro e wn ⟨rfl,h⟩;replace H:=hQd h;clear h t3;obtain⟨c0,c1,c2,c3,c4,c5,c6,f0,f1,f2,f3,f4,f5,f6⟩:=raw7 (b:=w.heap.size) H.out.p1)
  |(go_at_call 180;have _t:=t4;clear _t;refine(zBw _ _ x.key H.out K3.out).mono ?_;rw[E4.out];rintro e wn ⟨rfl,h⟩;replace H:=hQd h;clear h t4;obtain⟨c0,c1,c2,c3,c4,c5,c6,f0,f1,f2,f3,f4,f5,f6⟩:=raw7 (b:=w.heap.size) H.out.p1)
  |(go_at_call 180;have _t:=t5;clear _t;refine(zBw _ _ x.val H.out K4.out).mono ?_;rw[E5.out];rintro e wn ⟨rfl,h⟩;replace H:=hQd h;clear h t5;obtain⟨c0,c1,c2,c3,c4,c5,c6,f0,f1,f2,f3,f4,f5,f6⟩:=raw7 (b:=w.heap.size) H.out.p1)
  |(go_at_call 181;have _t:=t6;clear _t;refine(zI7 _ _ _ x.hdrs HLL.out HK.out H.out K5.out).mono ?_;rw[E6.out];rintro e wn ⟨rfl,h⟩;replace H:=hQd h;clear h t6;obtain⟨c0,c1,c2,c3,c4,c5,c6,f0,f1,f2,f3,f4,f5,f6⟩:=raw7 (b:=w.heap.size) H.out.p1))
 go_end0;exact⟨rfl,H.out.p1.drop⟩
theorem zLO(x:RecS)(v:Value)(he:zAV x=0)(hl:x.hdrs.length≤1000000)(hk:K.has (Know.flat RHdr v 3 x.hdrs))(h:St W0 w K L):
 Calls Tryz.prog 70 #[.agg #[.int .i64 x.time,.int .i64 x.off,.bool x.key.null,.string (bb x.key.data),.bool x.val.null,.string (bb x.val.data),v]] w fun en w'=>en=.returned (.int .i64 0)∧St W0 w' K L:=zDE x v 0 he hl hk h
theorem zM9(p:Nat)(o o':OutS)(x:RecS)(v:Value)(hx:x.R)(hs:x.sum≤1000000)(hoo:o.putRec x=o')(hro:o.ok 40000000)(hk:K.has (Know.flat RHdr v 3 x.hdrs))(h:St W0 w K (.out p o::L)):
   Calls Tryz.prog 119 #[zAR p,.agg #[.int .i64 x.time,.int .i64 x.off,.bool x.key.null,.string (bb x.key.data),.bool x.val.null,.string (bb x.val.data),v]] w fun en w'=>en=.returned (.tuple #[])∧St W0 w' K (.out p o'::L):=by
 have H:=hQd (h.allocRaw #[.int .i64 x.time,.int .i64 x.off,.bool x.key.null,.string (bb x.key.data),.bool x.val.null,.string (bb x.val.data),v] 54).p1;have HK:=hQd hk;have HL:=hQd (show x.hdrs.length≤1000000 by have:=zCJ x.hdrs;unfold RecS.sum at hs;omega);unfold OutS.putRec at hoo
 by_cases he:zAV x=0
 · rw[if_pos he]at hoo;have hle:=zFv x hx hs;have HX:=hQd hx;have HE:=hQd he;have HS:=hQd hs;have ET:=hQd (show(⟨recF x,0⟩:OutS).text=(recF x,0)from rfl);have EP:=hQd (show o.putName (recF x)=o' by unfold OutS.putName;rw[zAZ rfl (by simp only;omega)];exact hoo);have KO:=hQd (show o.ok ((recF x).length+16)from OutS.ok_mono hro (by omega));obtain⟨s,hsd⟩:∃s,recF x=s:=⟨_,rfl⟩;rw[hsd]at ET EP KO;have HSD:=hQd hsd;clear h hk he hoo hle hx hs hro hsd;go_enter Tryz.func119,Tryz.ntmps119
   go_wp2_with (first
    |(go_at_call 70;refine(zLO x v HE.out HL.out HK.out H.out).mono ?_;rintro e wn ⟨rfl,h⟩;replace H:=hQd h;have HA:=hQd (h.p1.allocOut);clear h;obtain⟨c0,c1,c2,c3,c4,c5,c6,f0,f1,f2,f3,f4,f5,f6⟩:=raw7 (b:=w.heap.size) HA.out.p1)
    |(go_at_call 146;refine(zHw _ x v HX.out HE.out HS.out HK.out HA.out).mono ?_;rw[HSD.out];rintro e wn ⟨rfl,h⟩;replace H:=hQd h;clear h)
    |(go_at_call 50;refine(zHn _ _ H.out).mono ?_;rw[ET.out];rintro e wn ⟨rfl,h⟩;replace H:=hQd h.p2;clear h)
    |(go_at_call 147;refine(zEN _ _ s H.out KO.out).mono ?_;rw[EP.out];rintro e wn ⟨rfl,h⟩;replace H:=hQd h;clear h))
   go_end0;exact⟨rfl,H.out.p2.drop.p1.drop⟩
 · rw[if_neg he]at hoo;obtain⟨e,hee⟩:∃e,zAV x=e:=⟨_,rfl⟩;rw[hee]at he hoo;have hb:(e !=0)=true:=by rw[bne_iff_ne];exact he
   have HE:=hQd hee;have EF:=hQd hoo;clear h hk he hoo hx hs hro hee;go_enter Tryz.func119,Tryz.ntmps119
   go_wp2_with (first
    |(go_at_call 70;refine(zDE x v e HE.out HL.out HK.out H.out).mono ?_;rintro e wn ⟨rfl,h⟩;replace H:=hQd h;clear h)
    |(go_at_call 145;refine(zHo _ _ _ H.out).mono ?_;rw[EF.out];rintro e wn ⟨rfl,h⟩;replace H:=hQd h;clear h))
   refine bodyPost_ret (results_none rfl _ _ _) rfl ⟨rfl,H.out.p1.drop⟩
variable {W0 w:World}{K:Know}{L:List Res}
theorem zq18{p:Prop}(h:p:=by rintro rfl;obtain⟨_,S,F,⟨S1,S2,h1,⟨S3,S4,h3,_,_,e3⟩,d1,_⟩,_⟩:=h;exact d1 a ((h1.2 a).2 rfl) ((e3 a).2 (.inl ((h3.2 a).2 rfl)))):p:=h
theorem St.raw_ne{a b:Nat}{c c':Array Value}{T T':TypeId}(h:St W0 w K (.raw a c T::.raw b c' T'::L)):¬(a=b):=by
 exact zq18
theorem St.set1{r:Res}{b j:Nat}{c:Array Value}{T:TypeId}{v:Value}(h:St W0 w K (r::.raw b c T::L)):St W0 (w.setCell ⟨b,j,none⟩ v) K (r::.raw b (c.setIfInBounds j v) T::L):=(h.p1.rawSet j v).p1
theorem zq20{p:Prop}(h:p:=by simp[results,Tryz.results212,go_sem,qc0,qc1,qc2,qc3,qc4,qc5,qc6]):p:=h
theorem zHy(p:Nat)(i i1 i2 i3 i4 i5 i6:InS)(a t o:Int)(kb vb:BlobS)(hs:List HdrS)(e0:i.int 1=(a,i1))(ha:(a !=0)=false)(e1:i1.vlong=(t,i2))(e2:i2.vint=(o,i3))(ho:¬o<0)(e4:i3.varied=(kb,i4))(e5:i4.varied=(vb,i5))(e6:i5.hdrs=(hs,i6))(h:St W0 w K (.inp p i::L)):
  Calls Tryz.prog 212 #[zAs p] w fun en w'=>∃v,en=.returned (.agg #[.int .i64 t,.int .i64 o,.bool kb.null,.string (bb kb.data),.bool vb.null,.string (bb vb.data),v])∧St W0 w' (K.and (Know.flat RHdr v 3 hs)) (.inp p i6::L):=by
 have h0:=(h.allocRaw #[.int .i64 0,.int .i64 0,.bool false,.string ⟨#[]⟩,.bool false,.string ⟨#[]⟩,.slice none 0 0] 54).p1;obtain⟨wA,hwA⟩:∃b,w.heap.size=b:=⟨_,rfl⟩;rw[hwA]at h0;have H:=hQd h0;have E0:=hQd e0;have E1:=hQd e1;have E2:=hQd e2;have E4:=hQd e4;have E5:=hQd e5;have E6:=hQd e6;have t0:True:=trivial;have t1:True:=trivial;have t2:True:=trivial;have t3:True:=trivial;have t4:True:=trivial;have t5:True:=trivial;have t6:True:=trivial;clear h h0 e0 e1 e2 e4 e5 e6;go_enter Tryz.func212,Tryz.ntmps212
 go_wp2_with (first
  |(go_at_call 157;have _t:=t0;clear _t;refine(zCc _ i 1 H.out).mono ?_;rw[E0.out];rintro e wn ⟨rfl,h⟩;replace H:=hQd (show St W0 wn K (.inp p i1::.raw wA #[.int .i64 0,.int .i64 0,.bool false,.string ⟨#[]⟩,.bool false,.string ⟨#[]⟩,.slice none 0 0] 54::L)from h);clear h t0;obtain⟨wB,hwB⟩:∃b,wn.heap.size=b:=⟨_,rfl⟩;have HB:=H.out.allocRaw #[.int .i64 0,.int .i64 0,.bool false,.string ⟨#[]⟩,.bool false,.string ⟨#[]⟩,.slice none 0 0] 54;rw[hwB]at HB;have HB:=hQd HB.p1)
  |(go_at_call 217;have _t:=t2;clear _t;refine(zHl _ i1 HB.out).mono ?_;rw[E1.out];rintro e wn ⟨rfl,h⟩;replace H:=hQd (show St W0 wn (K) (.inp p i2::.raw wB #[.int .i64 0,.int .i64 0,.bool false,.string ⟨#[]⟩,.bool false,.string ⟨#[]⟩,.slice none 0 0] 54::.raw wA #[.int .i64 0,.int .i64 0,.bool false,.string ⟨#[]⟩,.bool false,.string ⟨#[]⟩,.slice none 0 0] 54::L)from h);clear h t2;obtain⟨yc0,yc1,yc2,yc3,yc4,yc5,yc6,yf0,yf1,yf2,yf3,yf4,yf5,yf6⟩:=raw7 (H.out.p1))
  |(go_at_call 218;have _t:=t3;clear _t;refine(zFi _ i2 (St.set1 H.out)).mono ?_;rw[E2.out];rintro e wn ⟨rfl,h⟩;replace H:=hQd (show St W0 wn (K) (.inp p i3::.raw wB #[.int .i64 t,.int .i64 0,.bool false,.string ⟨#[]⟩,.bool false,.string ⟨#[]⟩,.slice none 0 0] 54::.raw wA #[.int .i64 0,.int .i64 0,.bool false,.string ⟨#[]⟩,.bool false,.string ⟨#[]⟩,.slice none 0 0] 54::L)from h);clear h t3;obtain⟨yc0,yc1,yc2,yc3,yc4,yc5,yc6,yf0,yf1,yf2,yf3,yf4,yf5,yf6⟩:=raw7 (H.out.p1))
  |(go_at_call 216;have _t:=t5;clear _t;refine(zAJ _ i3 (St.set1 H.out)).mono ?_;rw[E4.out];rintro e wn ⟨rfl,h⟩;replace H:=hQd (show St W0 wn (K) (.inp p i4::.raw wB #[.int .i64 t,.int .i64 o,.bool false,.string ⟨#[]⟩,.bool false,.string ⟨#[]⟩,.slice none 0 0] 54::.raw wA #[.int .i64 0,.int .i64 0,.bool false,.string ⟨#[]⟩,.bool false,.string ⟨#[]⟩,.slice none 0 0] 54::L)from h);clear h t5;obtain⟨yc0,yc1,yc2,yc3,yc4,yc5,yc6,yf0,yf1,yf2,yf3,yf4,yf5,yf6⟩:=raw7 (H.out.p1);unfold bv)
  |(go_at_call 216;have _t:=t6;clear _t;refine(zAJ _ i4 (St.set1 (St.set1 H.out))).mono ?_;rw[E5.out];rintro e wn ⟨rfl,h⟩;replace H:=hQd (show St W0 wn (K) (.inp p i5::.raw wB #[.int .i64 t,.int .i64 o,.bool kb.null,.string (bb kb.data),.bool false,.string ⟨#[]⟩,.slice none 0 0] 54::.raw wA #[.int .i64 0,.int .i64 0,.bool false,.string ⟨#[]⟩,.bool false,.string ⟨#[]⟩,.slice none 0 0] 54::L)from h);clear h t6;obtain⟨yc0,yc1,yc2,yc3,yc4,yc5,yc6,yf0,yf1,yf2,yf3,yf4,yf5,yf6⟩:=raw7 (H.out.p1);unfold bv)
  |(go_at_call 219;refine(zCn _ i5 (St.set1 (St.set1 H.out))).mono ?_;rw[E6.out];rintro e wn ⟨v,rfl,h⟩;obtain⟨q6,cap6,hv6⟩:=zAu (Know.has_right (Know.has_refl _)) h;subst hv6;replace H:=hQd (show St W0 wn (K.and (Know.flat RHdr (.slice q6 hs.length cap6) 3 hs)) (.inp p i6::.raw wB #[.int .i64 t,.int .i64 o,.bool kb.null,.string (bb kb.data),.bool vb.null,.string (bb vb.data),.slice none 0 0] 54::.raw wA #[.int .i64 0,.int .i64 0,.bool false,.string ⟨#[]⟩,.bool false,.string ⟨#[]⟩,.slice none 0 0] 54::L)from h);clear h;obtain⟨yc0,yc1,yc2,yc3,yc4,yc5,yc6,yf0,yf1,yf2,yf3,yf4,yf5,yf6⟩:=raw7 (H.out.p1);obtain⟨qc0,qc1,qc2,qc3,qc4,qc5,qc6,qf0,qf1,qf2,qf3,qf4,qf5,qf6⟩:=raw7 (H.out.p2);have hne1:¬(wB=wA):=H.out.drop.raw_ne;have hne2:¬(wA=wB):=(fun e=>hne1 e.symm)))
 refine bodyPost_ret (v:=.agg #[.int .i64 t,.int .i64 o,.bool kb.null,.string (bb kb.data),.bool vb.null,.string (bb vb.data),.slice q6 hs.length cap6]) zq20 rfl ⟨.slice q6 hs.length cap6,rfl,?_⟩;exact(((((((((H.out.p1.rawSet 6 (.slice q6 hs.length cap6)).p2).rawSet 0 _).rawSet 1 _).rawSet 2 _).rawSet 3 _).rawSet 4 _).rawSet 5 _).rawSet 6 _).drop.drop
theorem zHx(p:Nat)(i i1 i2 i3 j3 i4 i5 i6:InS)(a t o:Int)(kb vb:BlobS)(hs:List HdrS)(e0:i.int 1=(a,i1))(ha:(a !=0)=false)(e1:i1.vlong=(t,i2))(e2:i2.vint=(o,i3))(ho:o<0)(ej3:i3.fail 11=j3)(e4:j3.varied=(kb,i4))(e5:i4.varied=(vb,i5))(e6:i5.hdrs=(hs,i6))(h:St W0 w K (.inp p i::L)):
  Calls Tryz.prog 212 #[zAs p] w fun en w'=>∃v,en=.returned (.agg #[.int .i64 t,.int .i64 o,.bool kb.null,.string (bb kb.data),.bool vb.null,.string (bb vb.data),v])∧St W0 w' (K.and (Know.flat RHdr v 3 hs)) (.inp p i6::L):=by
 have h0:=(h.allocRaw #[.int .i64 0,.int .i64 0,.bool false,.string ⟨#[]⟩,.bool false,.string ⟨#[]⟩,.slice none 0 0] 54).p1;obtain⟨wA,hwA⟩:∃b,w.heap.size=b:=⟨_,rfl⟩;rw[hwA]at h0;have H:=hQd h0;have E0:=hQd e0;have E1:=hQd e1;have E2:=hQd e2;have E4:=hQd e4;have E5:=hQd e5;have E6:=hQd e6;have EJ3:=hQd ej3;have t0:True:=trivial;have t1:True:=trivial;have t2:True:=trivial;have t3:True:=trivial;have t4:True:=trivial;have t5:True:=trivial;have t6:True:=trivial;clear h h0 e0 e1 e2 e4 e5 e6 ej3;go_enter Tryz.func212,Tryz.ntmps212
 go_wp2_with (first
  |(go_at_call 157;have _t:=t0;clear _t;refine(zCc _ i 1 H.out).mono ?_;rw[E0.out];rintro e wn ⟨rfl,h⟩;replace H:=hQd (show St W0 wn K (.inp p i1::.raw wA #[.int .i64 0,.int .i64 0,.bool false,.string ⟨#[]⟩,.bool false,.string ⟨#[]⟩,.slice none 0 0] 54::L)from h);clear h t0;obtain⟨wB,hwB⟩:∃b,wn.heap.size=b:=⟨_,rfl⟩;have HB:=H.out.allocRaw #[.int .i64 0,.int .i64 0,.bool false,.string ⟨#[]⟩,.bool false,.string ⟨#[]⟩,.slice none 0 0] 54;rw[hwB]at HB;have HB:=hQd HB.p1)
  |(go_at_call 217;have _t:=t2;clear _t;refine(zHl _ i1 HB.out).mono ?_;rw[E1.out];rintro e wn ⟨rfl,h⟩;replace H:=hQd (show St W0 wn (K) (.inp p i2::.raw wB #[.int .i64 0,.int .i64 0,.bool false,.string ⟨#[]⟩,.bool false,.string ⟨#[]⟩,.slice none 0 0] 54::.raw wA #[.int .i64 0,.int .i64 0,.bool false,.string ⟨#[]⟩,.bool false,.string ⟨#[]⟩,.slice none 0 0] 54::L)from h);clear h t2;obtain⟨yc0,yc1,yc2,yc3,yc4,yc5,yc6,yf0,yf1,yf2,yf3,yf4,yf5,yf6⟩:=raw7 (H.out.p1))
  |(go_at_call 218;have _t:=t3;clear _t;refine(zFi _ i2 (St.set1 H.out)).mono ?_;rw[E2.out];rintro e wn ⟨rfl,h⟩;replace H:=hQd (show St W0 wn (K) (.inp p i3::.raw wB #[.int .i64 t,.int .i64 0,.bool false,.string ⟨#[]⟩,.bool false,.string ⟨#[]⟩,.slice none 0 0] 54::.raw wA #[.int .i64 0,.int .i64 0,.bool false,.string ⟨#[]⟩,.bool false,.string ⟨#[]⟩,.slice none 0 0] 54::L)from h);clear h t3;obtain⟨yc0,yc1,yc2,yc3,yc4,yc5,yc6,yf0,yf1,yf2,yf3,yf4,yf5,yf6⟩:=raw7 (H.out.p1))
  |(go_at_call 158;have _t:=t4;clear _t;refine(zBT _ i3 11 (St.set1 H.out)).mono ?_;rw[EJ3.out];rintro e wn ⟨rfl,h⟩;replace H:=hQd (show St W0 wn (K) (.inp p j3::.raw wB #[.int .i64 t,.int .i64 o,.bool false,.string ⟨#[]⟩,.bool false,.string ⟨#[]⟩,.slice none 0 0] 54::.raw wA #[.int .i64 0,.int .i64 0,.bool false,.string ⟨#[]⟩,.bool false,.string ⟨#[]⟩,.slice none 0 0] 54::L)from h);clear h t4;obtain⟨yc0,yc1,yc2,yc3,yc4,yc5,yc6,yf0,yf1,yf2,yf3,yf4,yf5,yf6⟩:=raw7 (H.out.p1);have HX:=H)
  |(go_at_call 216;have _t:=t5;clear _t;refine(zAJ _ j3 H.out).mono ?_;rw[E4.out];rintro e wn ⟨rfl,h⟩;replace H:=hQd (show St W0 wn (K) (.inp p i4::.raw wB #[.int .i64 t,.int .i64 o,.bool false,.string ⟨#[]⟩,.bool false,.string ⟨#[]⟩,.slice none 0 0] 54::.raw wA #[.int .i64 0,.int .i64 0,.bool false,.string ⟨#[]⟩,.bool false,.string ⟨#[]⟩,.slice none 0 0] 54::L)from h);clear h t5;obtain⟨yc0,yc1,yc2,yc3,yc4,yc5,yc6,yf0,yf1,yf2,yf3,yf4,yf5,yf6⟩:=raw7 (H.out.p1);unfold bv)
  |(go_at_call 216;have _t:=t6;clear _t;refine(zAJ _ i4 (St.set1 (St.set1 H.out))).mono ?_;rw[E5.out];rintro e wn ⟨rfl,h⟩;replace H:=hQd (show St W0 wn (K) (.inp p i5::.raw wB #[.int .i64 t,.int .i64 o,.bool kb.null,.string (bb kb.data),.bool false,.string ⟨#[]⟩,.slice none 0 0] 54::.raw wA #[.int .i64 0,.int .i64 0,.bool false,.string ⟨#[]⟩,.bool false,.string ⟨#[]⟩,.slice none 0 0] 54::L)from h);clear h t6;obtain⟨yc0,yc1,yc2,yc3,yc4,yc5,yc6,yf0,yf1,yf2,yf3,yf4,yf5,yf6⟩:=raw7 (H.out.p1);unfold bv)
  |(go_at_call 219;refine(zCn _ i5 (St.set1 (St.set1 H.out))).mono ?_;rw[E6.out];rintro e wn ⟨v,rfl,h⟩;obtain⟨q6,cap6,hv6⟩:=zAu (Know.has_right (Know.has_refl _)) h;subst hv6;replace H:=hQd (show St W0 wn (K.and (Know.flat RHdr (.slice q6 hs.length cap6) 3 hs)) (.inp p i6::.raw wB #[.int .i64 t,.int .i64 o,.bool kb.null,.string (bb kb.data),.bool vb.null,.string (bb vb.data),.slice none 0 0] 54::.raw wA #[.int .i64 0,.int .i64 0,.bool false,.string ⟨#[]⟩,.bool false,.string ⟨#[]⟩,.slice none 0 0] 54::L)from h);clear h;obtain⟨yc0,yc1,yc2,yc3,yc4,yc5,yc6,yf0,yf1,yf2,yf3,yf4,yf5,yf6⟩:=raw7 (H.out.p1);obtain⟨qc0,qc1,qc2,qc3,qc4,qc5,qc6,qf0,qf1,qf2,qf3,qf4,qf5,qf6⟩:=raw7 (H.out.p2);have hne1:¬(wB=wA):=H.out.drop.raw_ne;have hne2:¬(wA=wB):=(fun e=>hne1 e.symm)))
 refine bodyPost_ret (v:=.agg #[.int .i64 t,.int .i64 o,.bool kb.null,.string (bb kb.data),.bool vb.null,.string (bb vb.data),.slice q6 hs.length cap6]) zq20 rfl ⟨.slice q6 hs.length cap6,rfl,?_⟩;exact(((((((((H.out.p1.rawSet 6 (.slice q6 hs.length cap6)).p2).rawSet 0 _).rawSet 1 _).rawSet 2 _).rawSet 3 _).rawSet 4 _).rawSet 5 _).rawSet 6 _).drop.drop
theorem zHA(p:Nat)(i i1 j1 i2 i3 i4 i5 i6:InS)(a t o:Int)(kb vb:BlobS)(hs:List HdrS)(e0:i.int 1=(a,i1))(ha:(a !=0)=true)(ej1:i1.fail 8=j1)(e1:j1.vlong=(t,i2))(e2:i2.vint=(o,i3))(ho:¬o<0)(e4:i3.varied=(kb,i4))(e5:i4.varied=(vb,i5))(e6:i5.hdrs=(hs,i6))(h:St W0 w K (.inp p i::L)):
  Calls Tryz.prog 212 #[zAs p] w fun en w'=>∃v,en=.returned (.agg #[.int .i64 t,.int .i64 o,.bool kb.null,.string (bb kb.data),.bool vb.null,.string (bb vb.data),v])∧St W0 w' (K.and (Know.flat RHdr v 3 hs)) (.inp p i6::L):=by
 have h0:=(h.allocRaw #[.int .i64 0,.int .i64 0,.bool false,.string ⟨#[]⟩,.bool false,.string ⟨#[]⟩,.slice none 0 0] 54).p1;obtain⟨wA,hwA⟩:∃b,w.heap.size=b:=⟨_,rfl⟩;rw[hwA]at h0;have H:=hQd h0;have E0:=hQd e0;have E1:=hQd e1;have E2:=hQd e2;have E4:=hQd e4;have E5:=hQd e5;have E6:=hQd e6;have EJ1:=hQd ej1;have t0:True:=trivial;have t1:True:=trivial;have t2:True:=trivial;have t3:True:=trivial;have t4:True:=trivial;have t5:True:=trivial;have t6:True:=trivial;clear h h0 e0 e1 e2 e4 e5 e6 ej1;go_enter Tryz.func212,Tryz.ntmps212
 go_wp2_with (first
  |(go_at_call 157;have _t:=t0;clear _t;refine(zCc _ i 1 H.out).mono ?_;rw[E0.out];rintro e wn ⟨rfl,h⟩;replace H:=hQd (show St W0 wn K (.inp p i1::.raw wA #[.int .i64 0,.int .i64 0,.bool false,.string ⟨#[]⟩,.bool false,.string ⟨#[]⟩,.slice none 0 0] 54::L)from h);clear h t0;skip)
  |(go_at_call 158;have _t:=t1;clear _t;refine(zBT _ i1 8 H.out).mono ?_;rw[EJ1.out];rintro e wn ⟨rfl,h⟩;replace H:=hQd (show St W0 wn K (.inp p j1::.raw wA #[.int .i64 0,.int .i64 0,.bool false,.string ⟨#[]⟩,.bool false,.string ⟨#[]⟩,.slice none 0 0] 54::L)from h);clear h t1;obtain⟨wB,hwB⟩:∃b,wn.heap.size=b:=⟨_,rfl⟩;have HB:=H.out.allocRaw #[.int .i64 0,.int .i64 0,.bool false,.string ⟨#[]⟩,.bool false,.string ⟨#[]⟩,.slice none 0 0] 54;rw[hwB]at HB;have HB:=hQd HB.p1)
  |(go_at_call 217;have _t:=t2;clear _t;refine(zHl _ j1 HB.out).mono ?_;rw[E1.out];rintro e wn ⟨rfl,h⟩;replace H:=hQd (show St W0 wn (K) (.inp p i2::.raw wB #[.int .i64 0,.int .i64 0,.bool false,.string ⟨#[]⟩,.bool false,.string ⟨#[]⟩,.slice none 0 0] 54::.raw wA #[.int .i64 0,.int .i64 0,.bool false,.string ⟨#[]⟩,.bool false,.string ⟨#[]⟩,.slice none 0 0] 54::L)from h);clear h t2;obtain⟨yc0,yc1,yc2,yc3,yc4,yc5,yc6,yf0,yf1,yf2,yf3,yf4,yf5,yf6⟩:=raw7 (H.out.p1))
  |(go_at_call 218;have _t:=t3;clear _t;refine(zFi _ i2 (St.set1 H.out)).mono ?_;rw[E2.out];rintro e wn ⟨rfl,h⟩;replace H:=hQd (show St W0 wn (K) (.inp p i3::.raw wB #[.int .i64 t,.int .i64 0,.bool false,.string ⟨#[]⟩,.bool false,.string ⟨#[]⟩,.slice none 0 0] 54::.raw wA #[.int .i64 0,.int .i64 0,.bool false,.string ⟨#[]⟩,.bool false,.string ⟨#[]⟩,.slice none 0 0] 54::L)from h);clear h t3;obtain⟨yc0,yc1,yc2,yc3,yc4,yc5,yc6,yf0,yf1,yf2,yf3,yf4,yf5,yf6⟩:=raw7 (H.out.p1))
  |(go_at_call 216;have _t:=t5;clear _t;refine(zAJ _ i3 (St.set1 H.out)).mono ?_;rw[E4.out];rintro e wn ⟨rfl,h⟩;replace H:=hQd (show St W0 wn (K) (.inp p i4::.raw wB #[.int .i64 t,.int .i64 o,.bool false,.string ⟨#[]⟩,.bool false,.string ⟨#[]⟩,.slice none 0 0] 54::.raw wA #[.int .i64 0,.int .i64 0,.bool false,.string ⟨#[]⟩,.bool false,.string ⟨#[]⟩,.slice none 0 0] 54::L)from h);clear h t5;obtain⟨yc0,yc1,yc2,yc3,yc4,yc5,yc6,yf0,yf1,yf2,yf3,yf4,yf5,yf6⟩:=raw7 (H.out.p1);unfold bv)
  |(go_at_call 216;have _t:=t6;clear _t;refine(zAJ _ i4 (St.set1 (St.set1 H.out))).mono ?_;rw[E5.out];rintro e wn ⟨rfl,h⟩;replace H:=hQd (show St W0 wn (K) (.inp p i5::.raw wB #[.int .i64 t,.int .i64 o,.bool kb.null,.string (bb kb.data),.bool false,.string ⟨#[]⟩,.slice none 0 0] 54::.raw wA #[.int .i64 0,.int .i64 0,.bool false,.string ⟨#[]⟩,.bool false,.string ⟨#[]⟩,.slice none 0 0] 54::L)from h);clear h t6;obtain⟨yc0,yc1,yc2,yc3,yc4,yc5,yc6,yf0,yf1,yf2,yf3,yf4,yf5,yf6⟩:=raw7 (H.out.p1);unfold bv)
  |(go_at_call 219;refine(zCn _ i5 (St.set1 (St.set1 H.out))).mono ?_;rw[E6.out];rintro e wn ⟨v,rfl,h⟩;obtain⟨q6,cap6,hv6⟩:=zAu (Know.has_right (Know.has_refl _)) h;subst hv6;replace H:=hQd (show St W0 wn (K.and (Know.flat RHdr (.slice q6 hs.length cap6) 3 hs)) (.inp p i6::.raw wB #[.int .i64 t,.int .i64 o,.bool kb.null,.string (bb kb.data),.bool vb.null,.string (bb vb.data),.slice none 0 0] 54::.raw wA #[.int .i64 0,.int .i64 0,.bool false,.string ⟨#[]⟩,.bool false,.string ⟨#[]⟩,.slice none 0 0] 54::L)from h);clear h;obtain⟨yc0,yc1,yc2,yc3,yc4,yc5,yc6,yf0,yf1,yf2,yf3,yf4,yf5,yf6⟩:=raw7 (H.out.p1);obtain⟨qc0,qc1,qc2,qc3,qc4,qc5,qc6,qf0,qf1,qf2,qf3,qf4,qf5,qf6⟩:=raw7 (H.out.p2);have hne1:¬(wB=wA):=H.out.drop.raw_ne;have hne2:¬(wA=wB):=(fun e=>hne1 e.symm)))
 refine bodyPost_ret (v:=.agg #[.int .i64 t,.int .i64 o,.bool kb.null,.string (bb kb.data),.bool vb.null,.string (bb vb.data),.slice q6 hs.length cap6]) zq20 rfl ⟨.slice q6 hs.length cap6,rfl,?_⟩;exact(((((((((H.out.p1.rawSet 6 (.slice q6 hs.length cap6)).p2).rawSet 0 _).rawSet 1 _).rawSet 2 _).rawSet 3 _).rawSet 4 _).rawSet 5 _).rawSet 6 _).drop.drop
theorem zHz(p:Nat)(i i1 j1 i2 i3 j3 i4 i5 i6:InS)(a t o:Int)(kb vb:BlobS)(hs:List HdrS)(e0:i.int 1=(a,i1))(ha:(a !=0)=true)(ej1:i1.fail 8=j1)(e1:j1.vlong=(t,i2))(e2:i2.vint=(o,i3))(ho:o<0)(ej3:i3.fail 11=j3)(e4:j3.varied=(kb,i4))(e5:i4.varied=(vb,i5))(e6:i5.hdrs=(hs,i6))(h:St W0 w K (.inp p i::L)):
  Calls Tryz.prog 212 #[zAs p] w fun en w'=>∃v,en=.returned (.agg #[.int .i64 t,.int .i64 o,.bool kb.null,.string (bb kb.data),.bool vb.null,.string (bb vb.data),v])∧St W0 w' (K.and (Know.flat RHdr v 3 hs)) (.inp p i6::L):=by
 have h0:=(h.allocRaw #[.int .i64 0,.int .i64 0,.bool false,.string ⟨#[]⟩,.bool false,.string ⟨#[]⟩,.slice none 0 0] 54).p1;obtain⟨wA,hwA⟩:∃b,w.heap.size=b:=⟨_,rfl⟩;rw[hwA]at h0;have H:=hQd h0;have E0:=hQd e0;have E1:=hQd e1;have E2:=hQd e2;have E4:=hQd e4;have E5:=hQd e5;have E6:=hQd e6;have EJ1:=hQd ej1;have EJ3:=hQd ej3;have t0:True:=trivial;have t1:True:=trivial;have t2:True:=trivial;have t3:True:=trivial;have t4:True:=trivial;have t5:True:=trivial;have t6:True:=trivial;clear h h0 e0 e1 e2 e4 e5 e6 ej1 ej3;go_enter Tryz.func212,Tryz.ntmps212
 go_wp2_with (first
  |(go_at_call 157;have _t:=t0;clear _t;refine(zCc _ i 1 H.out).mono ?_;rw[E0.out];rintro e wn ⟨rfl,h⟩;replace H:=hQd (show St W0 wn K (.inp p i1::.raw wA #[.int .i64 0,.int .i64 0,.bool false,.string ⟨#[]⟩,.bool false,.string ⟨#[]⟩,.slice none 0 0] 54::L)from h);clear h t0;skip)
  |(go_at_call 158;have _t:=t1;clear _t;refine(zBT _ i1 8 H.out).mono ?_;rw[EJ1.out];rintro e wn ⟨rfl,h⟩;replace H:=hQd (show St W0 wn K (.inp p j1::.raw wA #[.int .i64 0,.int .i64 0,.bool false,.string ⟨#[]⟩,.bool false,.string ⟨#[]⟩,.slice none 0 0] 54::L)from h);clear h t1;obtain⟨wB,hwB⟩:∃b,wn.heap.size=b:=⟨_,rfl⟩;have HB:=H.out.allocRaw #[.int .i64 0,.int .i64 0,.bool false,.string ⟨#[]⟩,.bool false,.string ⟨#[]⟩,.slice none 0 0] 54;rw[hwB]at HB;have HB:=hQd HB.p1)
  |(go_at_call 217;have _t:=t2;clear _t;refine(zHl _ j1 HB.out).mono ?_;rw[E1.out];rintro e wn ⟨rfl,h⟩;replace H:=hQd (show St W0 wn (K) (.inp p i2::.raw wB #[.int .i64 0,.int .i64 0,.bool false,.string ⟨#[]⟩,.bool false,.string ⟨#[]⟩,.slice none 0 0] 54::.raw wA #[.int .i64 0,.int .i64 0,.bool false,.string ⟨#[]⟩,.bool false,.string ⟨#[]⟩,.slice none 0 0] 54::L)from h);clear h t2;obtain⟨yc0,yc1,yc2,yc3,yc4,yc5,yc6,yf0,yf1,yf2,yf3,yf4,yf5,yf6⟩:=raw7 (H.out.p1))
  |(go_at_call 218;have _t:=t3;clear _t;refine(zFi _ i2 (St.set1 H.out)).mono ?_;rw[E2.out];rintro e wn ⟨rfl,h⟩;replace H:=hQd (show St W0 wn (K) (.inp p i3::.raw wB #[.int .i64 t,.int .i64 0,.bool false,.string ⟨#[]⟩,.bool false,.string ⟨#[]⟩,.slice none 0 0] 54::.raw wA #[.int .i64 0,.int .i64 0,.bool false,.string ⟨#[]⟩,.bool false,.string ⟨#[]⟩,.slice none 0 0] 54::L)from h);clear h t3;obtain⟨yc0,yc1,yc2,yc3,yc4,yc5,yc6,yf0,yf1,yf2,yf3,yf4,yf5,yf6⟩:=raw7 (H.out.p1))
  |(go_at_call 158;have _t:=t4;clear _t;refine(zBT _ i3 11 (St.set1 H.out)).mono ?_;rw[EJ3.out];rintro e wn ⟨rfl,h⟩;replace H:=hQd (show St W0 wn (K) (.inp p j3::.raw wB #[.int .i64 t,.int .i64 o,.bool false,.string ⟨#[]⟩,.bool false,.string ⟨#[]⟩,.slice none 0 0] 54::.raw wA #[.int .i64 0,.int .i64 0,.bool false,.string ⟨#[]⟩,.bool false,.string ⟨#[]⟩,.slice none 0 0] 54::L)from h);clear h t4;obtain⟨yc0,yc1,yc2,yc3,yc4,yc5,yc6,yf0,yf1,yf2,yf3,yf4,yf5,yf6⟩:=raw7 (H.out.p1);have HX:=H)
  |(go_at_call 216;have _t:=t5;clear _t;refine(zAJ _ j3 H.out).mono ?_;rw[E4.out];rintro e wn ⟨rfl,h⟩;replace H:=hQd (show St W0 wn (K) (.inp p i4::.raw wB #[.int .i64 t,.int .i64 o,.bool false,.string ⟨#[]⟩,.bool false,.string ⟨#[]⟩,.slice none 0 0] 54::.raw wA #[.int .i64 0,.int .i64 0,.bool false,.string ⟨#[]⟩,.bool false,.string ⟨#[]⟩,.slice none 0 0] 54::L)from h);clear h t5;obtain⟨yc0,yc1,yc2,yc3,yc4,yc5,yc6,yf0,yf1,yf2,yf3,yf4,yf5,yf6⟩:=raw7 (H.out.p1);unfold bv)
  |(go_at_call 216;have _t:=t6;clear _t;refine(zAJ _ i4 (St.set1 (St.set1 H.out))).mono ?_;rw[E5.out];rintro e wn ⟨rfl,h⟩;replace H:=hQd (show St W0 wn (K) (.inp p i5::.raw wB #[.int .i64 t,.int .i64 o,.bool kb.null,.string (bb kb.data),.bool false,.string ⟨#[]⟩,.slice none 0 0] 54::.raw wA #[.int .i64 0,.int .i64 0,.bool false,.string ⟨#[]⟩,.bool false,.string ⟨#[]⟩,.slice none 0 0] 54::L)from h);clear h t6;obtain⟨yc0,yc1,yc2,yc3,yc4,yc5,yc6,yf0,yf1,yf2,yf3,yf4,yf5,yf6⟩:=raw7 (H.out.p1);unfold bv)
  |(go_at_call 219;refine(zCn _ i5 (St.set1 (St.set1 H.out))).mono ?_;rw[E6.out];rintro e wn ⟨v,rfl,h⟩;obtain⟨q6,cap6,hv6⟩:=zAu (Know.has_right (Know.has_refl _)) h;subst hv6;replace H:=hQd (show St W0 wn (K.and (Know.flat RHdr (.slice q6 hs.length cap6) 3 hs)) (.inp p i6::.raw wB #[.int .i64 t,.int .i64 o,.bool kb.null,.string (bb kb.data),.bool vb.null,.string (bb vb.data),.slice none 0 0] 54::.raw wA #[.int .i64 0,.int .i64 0,.bool false,.string ⟨#[]⟩,.bool false,.string ⟨#[]⟩,.slice none 0 0] 54::L)from h);clear h;obtain⟨yc0,yc1,yc2,yc3,yc4,yc5,yc6,yf0,yf1,yf2,yf3,yf4,yf5,yf6⟩:=raw7 (H.out.p1);obtain⟨qc0,qc1,qc2,qc3,qc4,qc5,qc6,qf0,qf1,qf2,qf3,qf4,qf5,qf6⟩:=raw7 (H.out.p2);have hne1:¬(wB=wA):=H.out.drop.raw_ne;have hne2:¬(wA=wB):=(fun e=>hne1 e.symm)))
 refine bodyPost_ret (v:=.agg #[.int .i64 t,.int .i64 o,.bool kb.null,.string (bb kb.data),.bool vb.null,.string (bb vb.data),.slice q6 hs.length cap6]) zq20 rfl ⟨.slice q6 hs.length cap6,rfl,?_⟩;exact(((((((((H.out.p1.rawSet 6 (.slice q6 hs.length cap6)).p2).rawSet 0 _).rawSet 1 _).rawSet 2 _).rawSet 3 _).rawSet 4 _).rawSet 5 _).rawSet 6 _).drop.drop
theorem zEh(p:Nat)(i:InS)(h:St W0 w K (.inp p i::L)):
   Calls Tryz.prog 212 #[zAs p] w fun en w'=>∃v,en=.returned (.agg #[.int .i64 i.recFields.1.time,.int .i64 i.recFields.1.off,.bool i.recFields.1.key.null,.string (bb i.recFields.1.key.data),.bool i.recFields.1.val.null,.string (bb i.recFields.1.val.data),v])∧St W0 w' (K.and (Know.flat RHdr v 3 i.recFields.1.hdrs)) (.inp p i.recFields.2::L):=by
 obtain⟨⟨a,i1⟩,e0⟩:∃z,i.int 1=z:=⟨_,rfl⟩;unfold InS.recFields;rw[e0];simp only
 by_cases ha:a=0
 · rw[if_pos ha];unfold InS.recTime InS.recOff
   by_cases ho:i1.vlong.2.vint.1<0
   · rw[if_pos ho];exact zHx p i _ _ _ _ _ _ _ a _ _ _ _ _ e0 (by rw[ha];rfl) rfl rfl ho rfl rfl rfl rfl h
   · rw[if_neg ho];exact zHy p i _ _ _ _ _ _ a _ _ _ _ _ e0 (by rw[ha];rfl) rfl rfl ho rfl rfl rfl h
 · rw[if_neg ha];unfold InS.recTime InS.recOff
   by_cases ho:(i1.fail 8).vlong.2.vint.1<0
   · rw[if_pos ho];exact zHz p i _ _ _ _ _ _ _ _ a _ _ _ _ _ e0 (bne_iff_ne.2 ha) rfl rfl rfl ho rfl rfl rfl rfl h
   · rw[if_neg ho];exact zHA p i _ _ _ _ _ _ _ a _ _ _ _ _ e0 (bne_iff_ne.2 ha) rfl rfl rfl ho rfl rfl rfl h
variable {W0 w:World}{K:Know}{L:List Res}
theorem zq23{p:Prop}(h:p:=by simp[results,Tryz.results207,go_sem,ac0,ac1,ac2,ac3,ac4,ac5,ac6]):p:=h
theorem zJ1(p:Nat)(i i1 k c:InS)(nm:Bs)(x:RecS)(hn:i.name=(nm,i1))(hx:(⟨nm,0,0⟩:InS).recFields=(x,k))(hc:k.close=c)(hl:nm.length≤140737488355328)(he:c.err=0)(hj:i1.err=0)(h:St W0 w K (.inp p i::L)):
  Calls Tryz.prog 207 #[zAs p] w fun en w'=>∃v,en=.returned (.agg #[.int .i64 x.time,.int .i64 x.off,.bool x.key.null,.string (bb x.key.data),.bool x.val.null,.string (bb x.val.data),v])∧St W0 w' (K.and (Know.flat RHdr v 3 x.hdrs)) (.inp p i1::L):=by
 have h0:=(h.allocRaw #[.int .i64 0,.int .i64 0,.bool false,.string ⟨#[]⟩,.bool false,.string ⟨#[]⟩,.slice none 0 0] 54).p1;obtain⟨wA,hwA⟩:∃b,w.heap.size=b:=⟨_,rfl⟩;rw[hwA]at h0;have H:=hQd h0;have EN:=hQd hn;have EX:=hQd hx;have EC:=hQd hc;have HL:=hQd hl;have HE:=hQd he;have HJ:=hQd hj
 skip
 clear h h0 hn hx hc hl he hj;go_enter Tryz.func207,Tryz.ntmps207
 go_wp2_with (first
  |(go_at_call 211;refine(zDZ _ i H.out).mono ?_;rw[EN.out];rintro e wn ⟨rfl,h⟩;replace H:=hQd h;clear h)
  |(go_at_call 156;refine(zDj nm HL.out H.out).mono ?_;rintro e wn ⟨bi,rfl,h⟩;replace H:=hQd h;clear h)
  |(go_at_call 212;refine(zEh _ _ H.out).mono ?_;rw[EX.out];rintro e wn ⟨v6,rfl,h⟩;obtain⟨q6,cap6,hv6⟩:=zAu (Know.has_right (Know.has_refl _)) h;subst hv6;obtain⟨wB,hwB⟩:∃b,wn.heap.size=b:=⟨_,rfl⟩;have h:=h.allocRaw #[.int .i64 x.time,.int .i64 x.off,.bool x.key.null,.string (bb x.key.data),.bool x.val.null,.string (bb x.val.data),.slice q6 x.hdrs.length cap6] 54;rw[hwB]at h;replace H:=hQd (show St W0 _ (K.and (Know.flat RHdr (.slice q6 x.hdrs.length cap6) 3 x.hdrs)) (.raw wB #[.int .i64 x.time,.int .i64 x.off,.bool x.key.null,.string (bb x.key.data),.bool x.val.null,.string (bb x.val.data),.slice q6 x.hdrs.length cap6] 54::.inp bi k::.inp p i1::.raw wA #[.int .i64 0,.int .i64 0,.bool false,.string ⟨#[]⟩,.bool false,.string ⟨#[]⟩,.slice none 0 0] 54::L)from h);clear h)
  |(go_at_call 159;refine(zFp _ k H.out.p1).mono ?_;rw[EC.out,HE.out];rintro e wn ⟨rfl,h⟩;replace H:=hQd h.p2;clear h)
  |(go_at_call 168;refine(zGj _ i1 H.out).mono ?_;rw[HJ.out];rintro e wn ⟨rfl,h⟩;replace H:=hQd h;clear h;(first|(obtain⟨ac0,ac1,ac2,ac3,ac4,ac5,ac6,af0,af1,af2,af3,af4,af5,af6⟩:=raw7 (b:=wA) H.out)|(obtain⟨ac0,ac1,ac2,ac3,ac4,ac5,ac6,af0,af1,af2,af3,af4,af5,af6⟩:=raw7 (b:=wA) H.out.p1)|(obtain⟨ac0,ac1,ac2,ac3,ac4,ac5,ac6,af0,af1,af2,af3,af4,af5,af6⟩:=raw7 (b:=wA) H.out.p2)|(obtain⟨ac0,ac1,ac2,ac3,ac4,ac5,ac6,af0,af1,af2,af3,af4,af5,af6⟩:=raw7 (b:=wA) H.out.p3));(first|(obtain⟨bc0,bc1,bc2,bc3,bc4,bc5,bc6,bf0,bf1,bf2,bf3,bf4,bf5,bf6⟩:=raw7 (b:=wB) H.out)|(obtain⟨bc0,bc1,bc2,bc3,bc4,bc5,bc6,bf0,bf1,bf2,bf3,bf4,bf5,bf6⟩:=raw7 (b:=wB) H.out.p1)|(obtain⟨bc0,bc1,bc2,bc3,bc4,bc5,bc6,bf0,bf1,bf2,bf3,bf4,bf5,bf6⟩:=raw7 (b:=wB) H.out.p2)|(obtain⟨bc0,bc1,bc2,bc3,bc4,bc5,bc6,bf0,bf1,bf2,bf3,bf4,bf5,bf6⟩:=raw7 (b:=wB) H.out.p3))))
 refine bodyPost_ret (v:=.agg #[.int .i64 x.time,.int .i64 x.off,.bool x.key.null,.string (bb x.key.data),.bool x.val.null,.string (bb x.val.data),.slice q6 x.hdrs.length cap6]) zq23 rfl ⟨.slice q6 x.hdrs.length cap6,rfl,?_⟩;exact((((((((H.out.p3).rawSet 0 _).rawSet 1 _).rawSet 2 _).rawSet 3 _).rawSet 4 _).rawSet 5 _).rawSet 6 _).drop.p1.drop.p1.drop
theorem zIB(p:Nat)(i i1 k c:InS)(nm:Bs)(x:RecS)(hn:i.name=(nm,i1))(hx:(⟨nm,0,0⟩:InS).recFields=(x,k))(hc:k.close=c)(hl:nm.length≤140737488355328)(he:c.err=0)(f:Int)(hj:i1.err=f)(hf:(f !=0)=true)(h:St W0 w K (.inp p i::L)):
  Calls Tryz.prog 207 #[zAs p] w fun en w'=>en=.returned (.agg #[.int .i64 0,.int .i64 0,.bool false,.string ⟨#[]⟩,.bool false,.string ⟨#[]⟩,.slice none 0 0])∧St W0 w' K (.inp p i1::L):=by
 have h0:=(h.allocRaw #[.int .i64 0,.int .i64 0,.bool false,.string ⟨#[]⟩,.bool false,.string ⟨#[]⟩,.slice none 0 0] 54).p1;obtain⟨wA,hwA⟩:∃b,w.heap.size=b:=⟨_,rfl⟩;rw[hwA]at h0;have H:=hQd h0;have EN:=hQd hn;have EX:=hQd hx;have EC:=hQd hc;have HL:=hQd hl;have HE:=hQd he;have HJ:=hQd hj
 skip
 clear h h0 hn hx hc hl he hj;go_enter Tryz.func207,Tryz.ntmps207
 go_wp2_with (first
  |(go_at_call 211;refine(zDZ _ i H.out).mono ?_;rw[EN.out];rintro e wn ⟨rfl,h⟩;replace H:=hQd h;clear h)
  |(go_at_call 156;refine(zDj nm HL.out H.out).mono ?_;rintro e wn ⟨bi,rfl,h⟩;replace H:=hQd h;clear h)
  |(go_at_call 212;refine(zEh _ _ H.out).mono ?_;rw[EX.out];rintro e wn ⟨v6,rfl,h⟩;obtain⟨q6,cap6,hv6⟩:=zAu (Know.has_right (Know.has_refl _)) h;subst hv6;obtain⟨wB,hwB⟩:∃b,wn.heap.size=b:=⟨_,rfl⟩;have h:=h.allocRaw #[.int .i64 x.time,.int .i64 x.off,.bool x.key.null,.string (bb x.key.data),.bool x.val.null,.string (bb x.val.data),.slice q6 x.hdrs.length cap6] 54;rw[hwB]at h;replace H:=hQd (show St W0 _ (K.and (Know.flat RHdr (.slice q6 x.hdrs.length cap6) 3 x.hdrs)) (.raw wB #[.int .i64 x.time,.int .i64 x.off,.bool x.key.null,.string (bb x.key.data),.bool x.val.null,.string (bb x.val.data),.slice q6 x.hdrs.length cap6] 54::.inp bi k::.inp p i1::.raw wA #[.int .i64 0,.int .i64 0,.bool false,.string ⟨#[]⟩,.bool false,.string ⟨#[]⟩,.slice none 0 0] 54::L)from h);clear h)
  |(go_at_call 159;refine(zFp _ k H.out.p1).mono ?_;rw[EC.out,HE.out];rintro e wn ⟨rfl,h⟩;replace H:=hQd h.p2;clear h)
  |(go_at_call 168;refine(zGj _ i1 H.out).mono ?_;rw[HJ.out];rintro e wn ⟨rfl,h⟩;replace H:=hQd h;clear h;(first|(obtain⟨ac0,ac1,ac2,ac3,ac4,ac5,ac6,af0,af1,af2,af3,af4,af5,af6⟩:=raw7 (b:=wA) H.out)|(obtain⟨ac0,ac1,ac2,ac3,ac4,ac5,ac6,af0,af1,af2,af3,af4,af5,af6⟩:=raw7 (b:=wA) H.out.p1)|(obtain⟨ac0,ac1,ac2,ac3,ac4,ac5,ac6,af0,af1,af2,af3,af4,af5,af6⟩:=raw7 (b:=wA) H.out.p2)|(obtain⟨ac0,ac1,ac2,ac3,ac4,ac5,ac6,af0,af1,af2,af3,af4,af5,af6⟩:=raw7 (b:=wA) H.out.p3));(first|(obtain⟨bc0,bc1,bc2,bc3,bc4,bc5,bc6,bf0,bf1,bf2,bf3,bf4,bf5,bf6⟩:=raw7 (b:=wB) H.out)|(obtain⟨bc0,bc1,bc2,bc3,bc4,bc5,bc6,bf0,bf1,bf2,bf3,bf4,bf5,bf6⟩:=raw7 (b:=wB) H.out.p1)|(obtain⟨bc0,bc1,bc2,bc3,bc4,bc5,bc6,bf0,bf1,bf2,bf3,bf4,bf5,bf6⟩:=raw7 (b:=wB) H.out.p2)|(obtain⟨bc0,bc1,bc2,bc3,bc4,bc5,bc6,bf0,bf1,bf2,bf3,bf4,bf5,bf6⟩:=raw7 (b:=wB) H.out.p3))))
 refine bodyPost_ret (v:=.agg #[.int .i64 0,.int .i64 0,.bool false,.string ⟨#[]⟩,.bool false,.string ⟨#[]⟩,.slice none 0 0]) zq23 rfl ⟨rfl,?_⟩;exact(((((((((H.out.p3).rawSet 0 _).rawSet 1 _).rawSet 2 _).rawSet 3 _).rawSet 4 _).rawSet 5 _).rawSet 6 _).drop.p1.drop.p1.drop).know (Know.has_left (Know.has_refl _))
theorem zGm(p:Nat)(i i1 k c:InS)(nm:Bs)(x:RecS)(hn:i.name=(nm,i1))(hx:(⟨nm,0,0⟩:InS).recFields=(x,k))(hc:k.close=c)(hl:nm.length≤140737488355328)(e:Int)(he:c.err=e)(hen:(e !=0)=true)(j:InS)(hjj:i1.fail e=j)(f:Int)(hj:j.err=f)(hf:(f !=0)=true)(h:St W0 w K (.inp p i::L)):
  Calls Tryz.prog 207 #[zAs p] w fun en w'=>en=.returned (.agg #[.int .i64 0,.int .i64 0,.bool false,.string ⟨#[]⟩,.bool false,.string ⟨#[]⟩,.slice none 0 0])∧St W0 w' K (.inp p j::L):=by
 have h0:=(h.allocRaw #[.int .i64 0,.int .i64 0,.bool false,.string ⟨#[]⟩,.bool false,.string ⟨#[]⟩,.slice none 0 0] 54).p1;obtain⟨wA,hwA⟩:∃b,w.heap.size=b:=⟨_,rfl⟩;rw[hwA]at h0;have H:=hQd h0;have EN:=hQd hn;have EX:=hQd hx;have EC:=hQd hc;have HL:=hQd hl;have HE:=hQd he;have HJ:=hQd hj;have EJ:=hQd hjj;clear h h0 hn hx hc hl he hj hjj;go_enter Tryz.func207,Tryz.ntmps207
 go_wp2_with (first
  |(go_at_call 211;refine(zDZ _ i H.out).mono ?_;rw[EN.out];rintro e wn ⟨rfl,h⟩;replace H:=hQd h;clear h)
  |(go_at_call 156;refine(zDj nm HL.out H.out).mono ?_;rintro e wn ⟨bi,rfl,h⟩;replace H:=hQd h;clear h)
  |(go_at_call 212;refine(zEh _ _ H.out).mono ?_;rw[EX.out];rintro e wn ⟨v6,rfl,h⟩;obtain⟨q6,cap6,hv6⟩:=zAu (Know.has_right (Know.has_refl _)) h;subst hv6;obtain⟨wB,hwB⟩:∃b,wn.heap.size=b:=⟨_,rfl⟩;have h:=h.allocRaw #[.int .i64 x.time,.int .i64 x.off,.bool x.key.null,.string (bb x.key.data),.bool x.val.null,.string (bb x.val.data),.slice q6 x.hdrs.length cap6] 54;rw[hwB]at h;replace H:=hQd (show St W0 _ (K.and (Know.flat RHdr (.slice q6 x.hdrs.length cap6) 3 x.hdrs)) (.raw wB #[.int .i64 x.time,.int .i64 x.off,.bool x.key.null,.string (bb x.key.data),.bool x.val.null,.string (bb x.val.data),.slice q6 x.hdrs.length cap6] 54::.inp bi k::.inp p i1::.raw wA #[.int .i64 0,.int .i64 0,.bool false,.string ⟨#[]⟩,.bool false,.string ⟨#[]⟩,.slice none 0 0] 54::L)from h);clear h)
  |(go_at_call 159;refine(zFp _ k H.out.p1).mono ?_;rw[EC.out,HE.out];rintro e wn ⟨rfl,h⟩;replace H:=hQd h.p2;clear h)
  |(go_at_call 158;refine(zBT _ i1 _ H.out).mono ?_;rw[EJ.out];rintro e wn ⟨rfl,h⟩;replace H:=hQd h;clear h)
  |(go_at_call 168;refine(zGj _ j H.out).mono ?_;rw[HJ.out];rintro e wn ⟨rfl,h⟩;replace H:=hQd h;clear h;(first|(obtain⟨ac0,ac1,ac2,ac3,ac4,ac5,ac6,af0,af1,af2,af3,af4,af5,af6⟩:=raw7 (b:=wA) H.out)|(obtain⟨ac0,ac1,ac2,ac3,ac4,ac5,ac6,af0,af1,af2,af3,af4,af5,af6⟩:=raw7 (b:=wA) H.out.p1)|(obtain⟨ac0,ac1,ac2,ac3,ac4,ac5,ac6,af0,af1,af2,af3,af4,af5,af6⟩:=raw7 (b:=wA) H.out.p2)|(obtain⟨ac0,ac1,ac2,ac3,ac4,ac5,ac6,af0,af1,af2,af3,af4,af5,af6⟩:=raw7 (b:=wA) H.out.p3));(first|(obtain⟨bc0,bc1,bc2,bc3,bc4,bc5,bc6,bf0,bf1,bf2,bf3,bf4,bf5,bf6⟩:=raw7 (b:=wB) H.out)|(obtain⟨bc0,bc1,bc2,bc3,bc4,bc5,bc6,bf0,bf1,bf2,bf3,bf4,bf5,bf6⟩:=raw7 (b:=wB) H.out.p1)|(obtain⟨bc0,bc1,bc2,bc3,bc4,bc5,bc6,bf0,bf1,bf2,bf3,bf4,bf5,bf6⟩:=raw7 (b:=wB) H.out.p2)|(obtain⟨bc0,bc1,bc2,bc3,bc4,bc5,bc6,bf0,bf1,bf2,bf3,bf4,bf5,bf6⟩:=raw7 (b:=wB) H.out.p3))))
 refine bodyPost_ret (v:=.agg #[.int .i64 0,.int .i64 0,.bool false,.string ⟨#[]⟩,.bool false,.string ⟨#[]⟩,.slice none 0 0]) zq23 rfl ⟨rfl,?_⟩;exact(((((((((H.out.p3).rawSet 0 _).rawSet 1 _).rawSet 2 _).rawSet 3 _).rawSet 4 _).rawSet 5 _).rawSet 6 _).drop.p1.drop.p1.drop).know (Know.has_left (Know.has_refl _))
theorem zO3(i:InS)(h:i.ok):i.name.1.length≤i.s.length:=by
 by_cases he:i.err=0
 · obtain⟨s,pos,err⟩:=i;simp only at he;subst he;have hp:pos≤s.length:=h.1
   show(InS.varied ⟨s,pos,0⟩).1.data.length≤s.length
   cases hv:zAq (s.drop pos)with
   |ok b=>
    obtain⟨g1,g2⟩:=zAk.ok s pos b.1 b.2 hp hv;obtain⟨_,_,_,_,_,o⟩:=zBg hv;rw[g2];simp only
    split at o<;>omega
   |error e=>
    obtain⟨_,q,_,g⟩:=zAk.err s pos e hp hv;rw[g]
    simp
 · rw[zEo he];simp
theorem zOP(p:Nat)(i:InS)(h:St W0 w K (.inp p i::L)):
   Calls Tryz.prog 207 #[zAs p] w fun en w'=>∃v,en=.returned (.agg #[.int .i64 i.record.1.time,.int .i64 i.record.1.off,.bool i.record.1.key.null,.string (bb i.record.1.key.data),.bool i.record.1.val.null,.string (bb i.record.1.val.data),v])∧St W0 w' (K.and (Know.flat RHdr v 3 i.record.1.hdrs)) (.inp p i.record.2::L):=by
 have hok:=h.inpGet.2;have hnl:=zO3 i hok;have hsl:=hok.2;obtain⟨⟨nm,i1⟩,hn⟩:∃z,i.name=z:=⟨_,rfl⟩;rw[hn]at hnl;simp only at hnl;obtain⟨⟨x,k⟩,hx⟩:∃z,(⟨nm,0,0⟩:InS).recFields=z:=⟨_,rfl⟩;have hz:∀(K':Know),K'.has (K'.and (Know.flat RHdr (.slice none 0 0) 3 [])):=fun K'=>zK8 _ _ _
 unfold InS.record InS.recJ recD;rw[hn];simp only;rw[hx];simp only
 by_cases he:k.close.err=0
 · rw[if_pos he]
   by_cases hj:i1.err=0
   · rw[if_pos hj];exact zJ1 p i i1 k _ nm x hn hx rfl (by omega) he hj h
   · rw[if_neg hj];exact(zIB p i i1 k _ nm x hn hx rfl (by omega) he _ rfl (bne_iff_ne.2 hj) h).mono fun en w' hh=>⟨_,hh.1,hh.2.know (hz K)⟩
 · rw[if_neg he];have hj:(i1.fail k.close.err).err≠0:=by unfold InS.fail;split;exact he;assumption
   rw[if_neg hj];exact(zGm p i i1 k _ nm x hn hx rfl (by omega) _ rfl (bne_iff_ne.2 he) _ rfl _ rfl (bne_iff_ne.2 hj) h).mono fun en w' hh=>⟨_,hh.1,hh.2.know (hz K)⟩
def Fit (n:Nat):Prop:=n≤140737488351232
def HFit (l:List HdrS):Prop:=∀x∈l,x.key.length≤140737488351232∧x.val.data.length≤140737488351232
def smallN (l:List HdrS):Int:=if hsum l≤1000 then 1 else 0
theorem zFu(p:Nat)(i:InS)(x:RecS)(k:InS)(hx:i.record=(x,k)){W0 w:World}{K:Know}{L:List Res}(h:St W0 w K (.inp p i::L)):
  Calls Tryz.prog 207 #[zAs p] w fun en w'=>∃v,en=.returned (.agg #[.int .i64 x.time,.int .i64 x.off,.bool x.key.null,.string (bb x.key.data),.bool x.val.null,.string (bb x.val.data),v])∧St W0 w' (K.and (Know.flat RHdr v 3 x.hdrs)) (.inp p k::L):=by
 have h1:=zOP p i h;rw[hx]at h1;exact h1
def smallR (x:RecS):Int:=if 500<x.key.data.length∨500<x.val.data.length then 0 else smallN x.hdrs
theorem zE1{l a r:Bs}{n:Nat}(h:l.drop n=a++r):l.drop (n+a.length)=r:=by rw[←List.drop_drop,h,List.drop_left]
theorem zIF(x:RecS)(hx:x.R)(ho:zAV x=0)(hs:x.sum≤1000000):zBM (recF x)=.ok x:=by
 obtain⟨ho,hr⟩:=zGM ho;unfold RecS.allRight at hr;rw[Bool.and_eq_true,Bool.and_eq_true]at hr;unfold RecS.sum at hs;have d1:(recF x).drop 1=encI x.time++(encI x.off++(encV x.key++(encV x.val++zC7 x.hdrs))):=rfl;have d2:=zE1 d1;have d3:=zE1 d2;have d4:=zE1 d3;have d5:=zE1 d4
 have h0:zA7 1 (recF x)=.ok (0,1):=by
  unfold zA7;rw[if_neg (by unfold recF;simp)]
  rfl
 have h1:zFc ((recF x).drop 1)=.ok (x.time,(encI x.time).length):=by rw[d1];exact zMB _ hx.1.1 hx.1.2 _
 have h2:zCv ((recF x).drop (1+(encI x.time).length))=.ok (x.off,(encI x.off).length):=by rw[d2];exact zFd _ (by omega) (by omega) _
 have h3:=zBl x.key hr.1.1 (by omega) (encV x.val++zC7 x.hdrs);have h4:=zBl x.val hr.1.2 (by omega) (zC7 x.hdrs);have h5':=zJ5 x.hdrs [] hr.2 (by omega);rw[List.append_nil]at h5';have h5:zCF ((recF x).drop (1+(encI x.time).length+(encI x.off).length+(encV x.key).length+(encV x.val).length))=.ok (x.hdrs,(zC7 x.hdrs).length):=by rw[d5];exact h5'
 rw[←d3]at h3;rw[←d4]at h4
 have hl:1+(encI x.time).length+(encI x.off).length+(encV x.key).length+(encV x.val).length+(zC7 x.hdrs).length=(recF x).length:=by
  unfold recF;simp only[List.length_append,List.length_cons,List.length_nil]
  omega
 unfold zBM;rw[h0];simp only[if_true];rw[h1];simp only;rw[h2];simp only;rw[if_neg (by omega),h3];simp only;rw[h4];simp only;rw[h5];simp only;rw[if_pos hl]
end Go.Proofs.YtenojajfacacoaaGreatDoor
