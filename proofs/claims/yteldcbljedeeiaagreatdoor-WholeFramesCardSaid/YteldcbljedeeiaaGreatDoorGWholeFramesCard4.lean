/- A text. -/
import Derived.Test.YteldcbljedeeiaaGreatDoorGWholeFramesCard2
import Derived.Test.YteldcbljedeeiaaGreatDoorGWholeFramesCard3
import Derived.RegionTactic
import Derived.Test.YteldcbljedeeiaaGreatDoorGWholeFramesCard1
import Derived.Deep.MidRow
import Derived.Deep.DeepCutAuto
/- A text. -/
namespace Go.Proofs.YteldcbljedeeiaaGreatDoor
open Go.RowKit
set_option maxRecDepth 100000
set_option maxHeartbeats 8000000
open Go.Value renaming bool→U, string→Z, slice→V, int→I, pointer→Ja
open Go.Ending renaming returned→Y
open Go.IntKind renaming i64→O
open _root_.Go.Proofs.Tryz renaming prog→Jb
open _root_.Nat renaming zero_le→Jd, add_assoc→Jm
open _root_.List renaming take_succ_eq_append_getElem→Jf, length_cons→Jn, length_append→Jc, append_nil→Jp, length_drop→Jh, drop_drop→Jk, append_assoc→Je, flatMap_cons→Jg, getElem_mem→Ji, length_map→Jj, take→Jl, drop→Jo
structure Ext {α:Type}(p:Bs→Except Int (α×Nat)):Prop where
 ok:∀(t r:Bs) (x:α×Nat),p t=.ok x→p (t++r)=.ok x
 err:∀(t r:Bs) (e:Int),p t=.error e→e≠1→p (t++r)=.error e
 le:∀(t:Bs) (x:α) (k:Nat),p t=.ok (x,k)→k≤t.length
theorem Ext.short{α:Type}{p:Bs→Except Int (α×Nat)}(h:Ext p){e:Bs}{x:α}(hb:p e=.ok (x,e.length))(j:Nat)(hj:j<e.length):p (e.take j)=.error 1:=by
 have hs:e.take j++e.drop j=e:=List.take_append_drop _ _
 cases hp:p (e.take j)with
 |ok y=>
  obtain⟨y,k⟩:=y;have h1:=h.ok _ (e.drop j) _ hp;rw[hs,hb]at h1
  cases h1
  have h2:=h.le _ _ _ hp;rw[List.length_take]at h2
  omega
 |error f=>
  by_cases hf:f=1
  ·rw[hf]
  ·have h1:=h.err _ (e.drop j) _ hp hf;rw[hs,hb]at h1
   cases h1
theorem zDm(top:Nat):∀(t:Bs) (f r n:Nat) (rest:Bs),(∀x,zBF top f r n t=.ok x→zBF top f r n (t++rest)=.ok x)∧(∀e,zBF top f r n t=.error e→e≠1→zBF top f r n (t++rest)=.error e)
 |[],f,r,n,rest=>⟨fun x h=>(by rw[zC9]at h;cases h),fun e h h1=>(by rw[zC9]at h;cases h;exact absurd rfl h1)⟩
 |c::t,0,r,n,rest=>⟨fun x h=>(by cases h),fun e h h1=>(by cases h;rfl)⟩
 |c::t,f+1,r,n,rest=>by
  have ih:=zDm top t f (r+1) (n+c.toNat % 128*128 ^ r) rest
  constructor
  ·intro x h;simp only[zBF,List.cons_append]at h ⊢
   split at h
   ·cases h
   ·rename_i h1
    rw[if_neg h1]
    split at h
    ·rename_i h2
     rw[if_pos h2];exact ih.1 x h
    ·rename_i h2
     rw[if_neg h2];exact h
  ·intro e h he;simp only[zBF,List.cons_append]at h ⊢
   split at h
   ·rename_i h1
    rw[if_pos h1];exact h
   ·rename_i h1
    rw[if_neg h1]
    split at h
    ·rename_i h2
     rw[if_pos h2];exact ih.2 e h he
    ·cases h
theorem zQF:Ext zDT:=by
 refine⟨fun t r x h=> ?_,fun t r e h he=> ?_,fun t x k h=>(zJU h).2.2.1⟩
 ·unfold zDT at h ⊢
  cases hv:zBF 1 10 0 0 t with
  |error e=>rw[hv]at h;cases h
  |ok y=>rw[hv]at h;rw[(zDm 1 t 10 0 0 r).1 _ hv];exact h
 ·unfold zDT at h ⊢
  cases hv:zBF 1 10 0 0 t with
  |error e2=>rw[hv]at h;cases h;rw[(zDm 1 t 10 0 0 r).2 _ hv he]
  |ok y=>rw[hv]at h;cases h
theorem zDl:Ext zB0:=by
 refine⟨fun t r x h=> ?_,fun t r e h he=> ?_,fun t x k h=>(zEa h).2.2.1⟩
 ·unfold zB0 at h ⊢
  cases hv:zBF 15 5 0 0 t with
  |error e=>rw[hv]at h;cases h
  |ok y=>rw[hv]at h;rw[(zDm 15 t 5 0 0 r).1 _ hv];exact h
 ·unfold zB0 at h ⊢
  cases hv:zBF 15 5 0 0 t with
  |error e2=>rw[hv]at h;cases h;rw[(zDm 15 t 5 0 0 r).2 _ hv he]
  |ok y=>rw[hv]at h;cases h
theorem zq40{p:Prop}(h:p:=by rw[Jc];omega):p:=h
theorem zJn{t:Bs}{k:Nat}{n:Int}{x:BlobS×Nat}(hk:k≤t.length)(h:gotS t k n=.ok x)(r:Bs):gotS (t++r) k n=.ok x∧x.2≤t.length:=by
 unfold gotS at h ⊢
 by_cases h1:n= -1
 ·rw[if_pos h1]at h ⊢;cases h;exact⟨rfl,hk⟩
 rw[if_neg h1]at h ⊢
 by_cases h2:n<0
 ·rw[if_pos h2]at h;cases h
 rw[if_neg h2]at h ⊢
 by_cases h3:(t.length:Int) - k<n
 ·rw[if_pos h3]at h;cases h
 rw[if_neg h3]at h
 cases h
 rw[if_neg zq40];refine⟨?_,by simp only;omega⟩;rw[List.drop_append_of_le_length hk,List.take_append_of_le_length (by rw[Jh];omega)]
theorem zQr{t:Bs}{k:Nat}{n:Int}{e:Int}(h:gotS t k n=.error e)(he:e≠1)(r:Bs):gotS (t++r) k n=.error e:=by
 unfold gotS at h ⊢
 by_cases h1:n= -1
 ·rw[if_pos h1]at h;cases h
 rw[if_neg h1]at h ⊢
 by_cases h2:n<0
 ·rw[if_pos h2]at h ⊢;exact h
 rw[if_neg h2]at h
 by_cases h3:(t.length:Int) - k<n
 ·rw[if_pos h3]at h;cases h;exact absurd rfl he
 ·rw[if_neg h3]at h;cases h
theorem zON:Ext zAn:=by
 refine⟨fun t r x h=> ?_,fun t r e h he=> ?_,fun t x k h=> ?_⟩
 ·unfold zAn at h ⊢
  cases hv:zB0 t with
  |error e=>rw[hv]at h;cases h
  |ok y=>rw[hv]at h;rw[zDl.ok _ r _ hv];exact(zJn (zDl.le _ _ _ hv) h r).1
 ·unfold zAn at h ⊢
  cases hv:zB0 t with
  |error e2=>rw[hv]at h;cases h;rw[zDl.err _ r _ hv he]
  |ok y=>rw[hv]at h;rw[zDl.ok _ r _ hv];exact zQr h he r
 ·unfold zAn at h
  cases hv:zB0 t with
  |error e=>rw[hv]at h;cases h
  |ok y=>rw[hv]at h;exact(zJn (zDl.le _ _ _ hv) h []).2
theorem zQG(size:Nat):Ext (zAI size):=by
 refine⟨fun t r x h=> ?_,fun t r e h he=> ?_,fun t x k h=> ?_⟩
 ·unfold zAI at h ⊢
  by_cases h1:t.length<size
  ·rw[if_pos h1]at h;cases h
  ·rw[if_neg h1]at h;rw[if_neg zq40,List.take_append_of_le_length oM];exact(zJn oM h r).1
 ·unfold zAI at h ⊢
  by_cases h1:t.length<size
  ·rw[if_pos h1]at h;cases h;exact absurd rfl he
  ·rw[if_neg h1]at h;rw[if_neg zq40,List.take_append_of_le_length oM];exact zQr h he r
 ·unfold zAI at h
  by_cases h1:t.length<size
  ·rw[if_pos h1]at h;cases h
  ·rw[if_neg h1]at h;exact(zJn oM h []).2
def rdL (z:Bool×InS) (n:Int):Bool×InS:=(decide (z.2.vlong.1=n) && z.1,z.2.vlong.2)
def rdV (z:Bool×InS) (b:BlobS):Bool×InS:=(decide (z.2.varied.1=b) && z.1,z.2.varied.2)
def rdF (z:Bool×InS) (b:BlobS):Bool×InS:=(decide ((z.2.fixed 2).1=b) && z.1,(z.2.fixed 2).2)
def rdB (z:Bool×InS) (b:BlobS):Bool×InS:=rdF (rdV z b) b
def encN (n:Int):Bs:=putU (zBc n)
def zTp (b:BlobS):Bs:=encV b++encF 2 b
def At (s:Bs) (c:Nat) (z:Bool×InS) (a:Nat):Prop:=(a≤c∧z.2=⟨s.take c,a,0⟩∧(z.1=true))∨(c<a∧z.2.err=1)
theorem At.read{α:Type}[DecidableEq α]{f:InS→α×InS}{p:Bs→Except Int (α×Nat)}{d:α}(hr:Rds f p d)(he:Ext p){s r:Bs}{c a:Nat}{z:Bool×InS}(hc:c≤s.length)(h:At s c z a){e:Bs}{x:α}(hp:p e=.ok (x,e.length))(hs:s.drop a=e++r):
 At s c (decide ((f z.2).1=x) && z.1,(f z.2).2) (a+e.length):=by
 have hl:(s.take c).length=c:=by rw[List.length_take];omega
 rcases h with ⟨h1,h2,h3⟩|⟨h1,h2⟩
 ·rw[h2,h3];have hd:(s.take c).drop a=(e++r).take (c - a):=by rw[←hs,List.drop_take]
  by_cases hlt:a+e.length≤c
  ·have h4:p ((s.take c).drop a)=.ok (x,e.length):=by
    rw[hd,List.take_append,List.take_of_length_le oM];exact he.ok _ _ _ hp
   have h5:=(hr.ok (s.take c) a x e.length oM h4).2;rw[h5];exact .inl ⟨hlt,rfl,by simp⟩
  ·have h4:p ((s.take c).drop a)=.error 1:=by
    rw[hd,List.take_append_of_le_length oM];exact he.short hp _ oM
   obtain⟨_,q,_,h5⟩:=hr.err (s.take c) a 1 oM h4;rw[h5];exact .inr ⟨oM,rfl⟩
 ·have h4:=hr.stuck z.2 (by rw[h2];decide);rw[h4];exact .inr ⟨oM,h2⟩
theorem At.long{s r:Bs}{c a:Nat}{z:Bool×InS}(hc:c≤s.length)(h:At s c z a)(n:Int)(h0: -9223372036854775808≤n)(h1:n<9223372036854775808)(hs:s.drop a=encN n++r):At s c (rdL z n) (a+(encN n).length):=by
 have hp:zDT (encN n)=.ok (n,(encN n).length):=by
  have:=zJT n h0 h1 []
  rwa [Jp]at this
 exact At.read zFP zQF hc h hp hs
theorem At.varied{s r:Bs}{c a:Nat}{z:Bool×InS}(hc:c≤s.length)(h:At s c z a)(b:BlobS)(hb:b.right=true)(hl:b.data.length≤2147483647)(hs:s.drop a=encV b++r):At s c (rdV z b) (a+(encV b).length):=by
 have hp:zAn (encV b)=.ok (b,(encV b).length):=by
  have:=zBa b hb hl []
  rwa [Jp]at this
 exact At.read zAm zON hc h hp hs
theorem At.fixed{s r:Bs}{c a:Nat}{z:Bool×InS}(hc:c≤s.length)(h:At s c z a)(b:BlobS)(hb:b.right=true)(hf:fits b.len 2)(hs:s.drop a=encF 2 b++r):At s c (rdF z b) (a+(encF 2 b).length):=by
 have hp:zAI 2 (encF 2 b)=.ok (b,(encF 2 b).length):=by
  have:=zA4 2 b hb hf []
  rwa [Jp]at this
 exact At.read (zAN 2 dD dD) (zQG 2) hc h hp hs
def BOk (b:BlobS):Prop:=b.right=true∧b.data.length≤200
theorem BOk.fits{b:BlobS}(h:BOk b):fits b.len 2:=by
 have h128:half 2=32768:=by decide
 have hl:=h.2;refine⟨dD,dD,?_,?_⟩<;>unfold BlobS.len<;>split<;>simp[h128]<;>omega
theorem At.blob{s r:Bs}{c a:Nat}{z:Bool×InS}(hc:c≤s.length)(h:At s c z a)(b:BlobS)(hb:BOk b)(hs:s.drop a=zTp b++r):At s c (rdB z b) (a+(zTp b).length):=by
 unfold zTp at hs ⊢;rw[Je]at hs;have h1:=h.varied hc b hb.1 (by have:=hb.2;omega) hs;have h2:s.drop (a+(encV b).length)=encF 2 b++r:=by rw[←Jk,hs,List.drop_left]
 have h3:=h1.fixed hc b hb.1 hb.fits h2;rw[Jc,←Jm];exact h3
variable {W0 w:World}{K:Know}{L:List Res}
def RI (cs:List Value) (x:Int):Prop:=cs=[I O x]
theorem zq28{p:Prop}(h:p:=by obtain⟨F,hF,_⟩:=h.get;obtain⟨q2,cap2,hv,hr⟩:=(hk _ _ hF).at;obtain⟨b,off,hq,_⟩:=hr h0;simp at hv;exact⟨b,off,hv.1.trans hq⟩):p:=h
theorem zD3{α:Type}{R:List Value→α→Prop}{sz n cap:Nat}{q:Option Addr}{l:List α}(hk:K.has (Know.flat R (V q n cap) sz l))(h:St W0 w K L)(h0:0<l.length):∃b off,q=some ⟨b,off,none⟩:=by
 exact zq28
theorem zKZ{α:Type}{R:List Value→α→Prop}{sz n cap b off:Nat}{l:List α}(hk:K.has (Know.flat R (V (some ⟨b,off,none⟩) n cap) sz l))(h:St W0 w K L)(i:Nat)(hi:i<l.length):∃cs,R cs l[i]∧∀f u,cs[f]? =some u→w.cell? ⟨b,off+(i*sz+f),none⟩=some u:=by
 obtain⟨F,hF,_⟩:=h.get;obtain⟨q2,cap2,hv,hr⟩:=(hk _ _ hF).at;obtain⟨b2,off2,hq,hc⟩:=hr oM;rw[hq]at hv;simp at hv;obtain⟨⟨rfl,rfl⟩,_,_⟩:=hv;obtain⟨cs,_,h1,h2⟩:=hc i hi;exact⟨cs,h1,h2⟩
structure TopS where
 name:Bs
 parts:List Int
deriving DecidableEq
def RTop (cs:List Value) (x:TopS×Value):Prop:=cs=[Z (bb x.1.name),x.2]
def tcells (x:TopS×Value):List Value:=[Z (bb x.1.name),x.2]
def RSt (cs:List Value) (x:Bs):Prop:=cs=[Z (bb x)]
def Know.tops (v:Value) (l:List (TopS×Value)):Know:=(Know.flat RTop v 2 l).and (Know.all l fun x=>Know.flat RI x.2 1 x.1.parts)
theorem zF3{K:Know}{v:Value}{l:List (TopS×Value)}(h:K.has (Know.tops v l)):K.has (Know.flat RTop v 2 l):=fun w F x=>(h w F x).1
theorem zB5{K:Know}{v:Value}{l:List (TopS×Value)}(h:K.has (Know.tops v l)){x:TopS×Value}(hx:x∈l):K.has (Know.flat RI x.2 1 x.1.parts):=fun w F y=>(h w F y).2 x hx
theorem zF2{v:Value}{l:List (TopS×Value)}(hk:K.has (Know.tops v l))(h:St W0 w K L):∃q cap,v=V q l.length cap:=by
 obtain⟨F,hF,_⟩:=h.get;obtain⟨q,cap,hv,_⟩:=(zF3 hk _ _ hF).at;exact⟨q,cap,hv⟩
theorem zEX{q:Option Addr}{n cap:Nat}{l:List (TopS×Value)}(hk:K.has (Know.tops (V q n cap) l))(h:St W0 w K L)(h0:0<l.length):∃b off,q=some ⟨b,off,none⟩:=by
 obtain⟨F,hF,_⟩:=h.get;obtain⟨q2,cap2,hv,hr⟩:=(zF3 hk _ _ hF).at;obtain⟨b,off,hq,_⟩:=hr h0;simp at hv;exact⟨b,off,hv.1.trans hq⟩
theorem zBT{b off n cap:Nat}{l:List (TopS×Value)}(hk:K.has (Know.tops (V (some ⟨b,off,none⟩) n cap) l))(h:St W0 w K L)(i:Nat)(hi:i<l.length)(x:TopS×Value)(hx:l[i]=x):
 w.cell? ⟨b,off+i*2,none⟩=some (Z (bb x.1.name))∧w.cell? ⟨b,off+i*2+1,none⟩=some x.2:=by
 subst hx;obtain⟨F,hF,_⟩:=h.get;obtain⟨q2,cap2,hv,hr⟩:=(zF3 hk _ _ hF).at;obtain⟨b2,off2,hq,hc⟩:=hr oM;rw[hq]at hv;simp at hv;obtain⟨⟨rfl,rfl⟩,_,_⟩:=hv;obtain⟨cs,_,hR,hcs⟩:=hc i hi;unfold RTop at hR;subst hR;exact⟨hcs 0 _ rfl,by rw[Jm];exact hcs 1 _ rfl⟩
theorem zCl{b off n cap:Nat}{l:List Int}(hk:K.has (Know.flat RI (V (some ⟨b,off,none⟩) n cap) 1 l))(h:St W0 w K L)(i:Nat)(hi:i<l.length):w.cell? ⟨b,off+i,none⟩=some (I O (l.getD i 0)):=by
 obtain⟨cs,hR,hc⟩:=zKZ hk h i hi;unfold RI at hR;subst hR;have c0:=hc 0 _ rfl;rw[Nat.mul_one,Nat.add_zero]at c0;rw[c0,List.getD_eq_getElem?_getD,List.getElem?_eq_getElem hi]
 rfl
theorem zNg{b off n cap:Nat}{l:List Bs}(hk:K.has (Know.flat RSt (V (some ⟨b,off,none⟩) n cap) 1 l))(h:St W0 w K L)(i:Nat)(hi:i<l.length):w.cell? ⟨b,off+i,none⟩=some (Z (bb (l.getD i []))):=by
 obtain⟨cs,hR,hc⟩:=zKZ hk h i hi;unfold RSt at hR;subst hR;have c0:=hc 0 _ rfl;rw[Nat.mul_one,Nat.add_zero]at c0;rw[c0,List.getD_eq_getElem?_getD,List.getElem?_eq_getElem hi]
 rfl
def allN (n:Nat) (p:Nat→Bool):Bool:=(List.range n).all p
theorem zEO{n:Nat}{p:Nat→Bool}(h:∀k,k<n→p k=true):allN n p=true:=by
 unfold allN;rw[List.all_eq_true];intro x hx;exact h x (List.mem_range.1 hx)
theorem zHm{n:Nat}{p:Nat→Bool}(h:allN n p=true)(k:Nat)(hk:k<n):p k=true:=List.all_eq_true.1 h k (List.mem_range.2 hk)
theorem zDL{n:Nat}{p:Nat→Bool}(k:Nat)(hk:k<n)(h:p k=false):allN n p=false:=by
 cases hh:allN n p with
 |false=>rfl
 |true=>have:=zHm hh k hk;rw[h]at this;cases this
def upI (l:List Int) (k:Nat):Bool:=k==0||decide (l.getD (k - 1) 0<l.getD k 0)
def upS (l:List Bs) (k:Nat):Bool:=k==0||Op.bytesLess (l.getD (k - 1) []) (l.getD k [])
def zPF (l:List Int):Bool:=allN l.length (upI l)
def zRx (l:List Bs):Bool:=allN l.length (upS l)
theorem zq13{p:Prop}(h:p:=by
  have e1:(a==b)=false:=by simpa using h1
  have e2:(b==a)=false:=by simpa using fun h=>h1 h.symm
  rw[e1,e2];simp only[Bool.false_and,Bool.or_false];have h3:a.toNat≠b.toNat:=fun h=>h1 (UInt8.toNat_inj.1 h)
  by_cases h4:a<b
  · have h5:¬b<a:=by rw[UInt8.lt_iff_toNat_lt]at h4 ⊢;omega
    simp[h4,h5]
  · have h5:b<a:=by rw[UInt8.lt_iff_toNat_lt]at h4 ⊢;omega
    simp[h4,h5]):p:=h
theorem zq29{p:Prop}(h:p:=by
 subst h1;have h2:¬a<a:=by rw[UInt8.lt_iff_toNat_lt];omega
 simp only[h2,decide_false,Bool.false_or,beq_self_eq_true,Bool.true_and];exact ih):p:=h
theorem zQj:∀x y:Bs,(Op.bytesLess x y||x==y)= !Op.bytesLess y x
 |[],[]=>rfl
 |[],_::_=>rfl
 | _::_,[]=>rfl
 |a::x,b::y=>by
  have ih:=zQj x y
  show((decide (a<b)||(a==b && Op.bytesLess x y))||(a==b && x==y))= !(decide (b<a)||(b==a && Op.bytesLess y x))
  by_cases h1:a=b
  ·exact zq29
  ·exact zq13
set_option maxHeartbeats 8000000
set_option maxRecDepth 100000
variable {W0 w:World}{K:Know}{L:List Res}
theorem zRk(l:List Int)(j:Nat)(hj:j<1):upI l j=true:=by
 obtain rfl:j=0:=by omega
 rfl
theorem zRj(l:List Bs)(j:Nat)(hj:j<1):upS l j=true:=by
 obtain rfl:j=0:=by omega
 rfl
theorem zPh(l:List Int)(q:Option Addr)(cap:Nat)(r:Bool)(hr:zPF l=r)(hn:l.length≤1000000)(hk:K.has (Know.flat RI (V q l.length cap) 1 l))(h:St W0 w K L):
  Calls Jb 238 #[V q l.length cap] w fun en w'=>en=Y (U r)∧St W0 w' K L:=by
 have H:=hQd h;have HK:=hQd hk;have HR:=hQd hr;have hni:(l.length:Int)≤1000000:=by omega
 clear h hk hr hn;go_enter Tryz.func238,Tryz.ntmps238;go_wp2;go_loopw [3] (fun iv wr=>∃k:Nat,1≤k∧(k≤l.length∨k=1)∧iv=I O k∧Hid (∀j,j<k→j<l.length→upI l j=true)∧St W0 wr K L) (fun iv _=>l.length - (intOf iv).toNat)
 case atStart=>exact⟨1,Nat.le_refl _,.inr rfl,rfl,hQd (fun j hj _=>zRk l j hj),H.out⟩
 case round=>
  obtain⟨k,hk1,hkl,rfl,HP,hst⟩:=hrel;clear H;have H:=hQd hst;clear hst
  by_cases hlt:k<l.length
  · obtain⟨b,off,hqq⟩:=zD3 HK.out H.out oM;subst hqq;obtain⟨j,hj⟩:=eX (k - 1);have c0:=zCl HK.out H.out k hlt;have c1:=zCl HK.out H.out j oM;obtain⟨x,hx⟩:=eX (l.getD k 0);obtain⟨y,hy⟩:=eX (l.getD j 0)
    have hup:upI l k=decide (y<x):=by
      unfold upI;have:(k==0)=false:=by rw[beq_eq_false_iff_ne];omega
      rw[this,hj,hx,hy,Bool.false_or]
    rw[hx]at c0;rw[hy]at c1;have e1:wrap64 ((k:Int) - 1)=(j:Int):=by unfold wrap64;omega
    have e2:IntKind.i64.wrap ((k:Int) - 1)=(j:Int):=by rw[show(k:Int) - 1=(j:Int) by omega];exact IntWalk.i64_in _ oM
    have hjl:(j:Int)<(l.length:Int):=by omega
    have hkl2:(k:Int)<(l.length:Int):=by omega
    have HUP:=hQd hup;clear hj hx hy hup
    by_cases hc:x≤y
    · have hr2:r=false:=by rw[←HR.out];exact zDL k hlt (by rw[HUP.out];exact decide_eq_false oM)
      subst hr2;have hd:decide (x≤y)=true:=decide_eq_true hc;go_wp2;have hs:=H.out.drew
      go_region
      go_wp2;go_ret;exact⟨rfl,hs⟩
    · have hd:decide (x≤y)=false:=decide_eq_false hc;go_wp2;have hs:=H.out.drew
      go_region
      go_wp2;go_roundw
      case rel=>exact⟨k+1,oM,.inl hlt,by go_num,hQd (fun i hi hil=>by
       by_cases hik:i=k
       · subst hik;rw[HUP.out];exact decide_eq_true oM
       · exact HP.out i oM hil),hs⟩
      case measure=>first|(simp[intOf];done)|(simp[intOf];omega)
  · have hr2:r=true:=by
      rw[←HR.out];exact zEO fun j hj=>HP.out j oM hj
    subst hr2;have hge:¬(k:Int)<(l.length:Int):=by omega
    go_wp2;go_ret;exact⟨rfl,H.out⟩
theorem zq24{p:Prop}(h:p:=by
 rw[hq2]at HUP;clear hq hq2;have hr2:r=false:=by rw[←HR.out];exact zDL k hlt HUP.out
 subst hr2;go_wp2;have hs:=H.out.drew
 go_region
 go_wp2;go_ret;exact⟨rfl,hs⟩):p:=h
theorem zPg(l:List Bs)(q:Option Addr)(cap:Nat)(r:Bool)(hr:zRx l=r)(hn:l.length≤1000000)(hk:K.has (Know.flat RSt (V q l.length cap) 1 l))(h:St W0 w K L):
  Calls Jb 205 #[V q l.length cap] w fun en w'=>en=Y (U r)∧St W0 w' K L:=by
 have H:=hQd h;have HK:=hQd hk;have HR:=hQd hr;have hni:(l.length:Int)≤1000000:=by omega
 clear h hk hr hn;go_enter Tryz.func205,Tryz.ntmps205;go_wp2;go_loopw [3] (fun iv wr=>∃k:Nat,1≤k∧(k≤l.length∨k=1)∧iv=I O k∧Hid (∀j,j<k→j<l.length→upS l j=true)∧St W0 wr K L) (fun iv _=>l.length - (intOf iv).toNat)
 case atStart=>exact⟨1,Nat.le_refl _,.inr rfl,rfl,hQd (fun j hj _=>zRj l j hj),H.out⟩
 case round=>
  obtain⟨k,hk1,hkl,rfl,HP,hst⟩:=hrel;clear H;have H:=hQd hst;clear hst
  by_cases hlt:k<l.length
  · obtain⟨b,off,hqq⟩:=zD3 HK.out H.out oM;subst hqq;obtain⟨j,hj⟩:=eX (k - 1);have c0:=zNg HK.out H.out k hlt;have c1:=zNg HK.out H.out j oM;obtain⟨x,hx⟩:=eX (l.getD k []);obtain⟨y,hy⟩:=eX (l.getD j [])
    have hup:upS l k=Op.bytesLess y x:=by
     unfold upS;have:(k==0)=false:=by rw[beq_eq_false_iff_ne];omega
     rw[this,hj,hx,hy,Bool.false_or]
    rw[hx]at c0;rw[hy]at c1;have e1:wrap64 ((k:Int) - 1)=(j:Int):=by unfold wrap64;omega
    have e2:IntKind.i64.wrap ((k:Int) - 1)=(j:Int):=by rw[show(k:Int) - 1=(j:Int) by omega];exact IntWalk.i64_in _ oM
    have hjl:(j:Int)<(l.length:Int):=by omega
    have hkl2:(k:Int)<(l.length:Int):=by omega
    have HUP:=hQd hup;clear hj hx hy hup;have hq:=zQj x y
    cases hp:Op.bytesLess x y with
    |true=>
     rw[hp,Bool.true_or]at hq;have hq2:Op.bytesLess y x=false:=by simpa using hq.symm
     exact zq24
    |false=>
     rw[hp,Bool.false_or]at hq
     cases he:(x==y)with
     |true=>
      rw[he]at hq;have hq2:Op.bytesLess y x=false:=by simpa using hq.symm
      exact zq24
     |false=>
      rw[he]at hq;have hq2:Op.bytesLess y x=true:=by simpa using hq.symm
      rw[hq2]at HUP;clear hq hq2;go_wp2;have hs:=H.out.drew
      go_region
      go_wp2;go_roundw
      case rel=>exact⟨k+1,oM,.inl hlt,by go_num,hQd (fun i hi hil=>by
       by_cases hik:i=k
       · subst hik;rw[HUP.out]
       · exact HP.out i oM hil),hs⟩
      case measure=>first|(simp[intOf];done)|(simp[intOf];omega)
  · have hr2:r=true:=by
     rw[←HR.out];exact zEO fun j hj=>HP.out j oM hj
    subst hr2;have hge:¬(k:Int)<(l.length:Int):=by omega
    go_wp2;go_ret;exact⟨rfl,H.out⟩
def zI6 (l:List Int):Bool:= !l.isEmpty && allN l.length (fun k=>decide (0≤l.getD k 0∧l.getD k 0≤2147483647) && upI l k)
def tOk (t:TopS):Bool:= !t.name.isEmpty && decide (t.name.length≤32767) && zI6 t.parts
def zCN (l:List TopS):Bool:=l.all tOk && zRx (l.map (·.name))
theorem zE4(l:List Int)(h:zPF l=true)(i:Nat):∀j,i≤j→j<l.length→l.getD i 0≤l.getD j 0
 |0,h1,_=>by
  obtain rfl:i=0:=by omega
  exact Int.le_refl _
 |j+1,h1,h2=>by
  by_cases hij:i=j+1
  ·subst hij;exact Int.le_refl _
  ·have ih:=zE4 l h i j oM oM;have hu:=zHm h (j+1) h2;unfold upI at hu;have e:(j+1==0)=false:=by rw[beq_eq_false_iff_ne];omega
   rw[e,Bool.false_or,Nat.add_sub_cancel]at hu;have:=of_decide_eq_true hu
   omega
theorem zQf:zI6 []=false:=rfl
theorem zRR(l:List Int)(h:l≠[]):zI6 l=(decide (0≤l.getD 0 0) && (decide (l.getD (l.length - 1) 0≤2147483647) && zPF l)):=by
 have h0:0<l.length:=List.length_pos_iff.2 h
 have he:l.isEmpty=false:=by cases l with
  |nil=>exact absurd rfl h
  |cons _ _=>rfl
 unfold zI6;rw[he,Bool.not_false,Bool.true_and]
 cases hr:zPF l with
 |false=>
  rw[Bool.and_false,Bool.and_false]
  cases ha:allN l.length (fun k=>decide (0≤l.getD k 0∧l.getD k 0≤2147483647) && upI l k)with
  |false=>rfl
  |true=>
   have:zPF l=true:=zEO fun k hk=>by
    have:=zHm ha k hk;rw[Bool.and_eq_true]at this;exact this.2
   rw[hr]at this;cases this
 |true=>
  rw[Bool.and_true]
  by_cases h1:0≤l.getD 0 0
  ·by_cases h2:l.getD (l.length - 1) 0≤2147483647
   ·rw[decide_eq_true h1,decide_eq_true h2];refine zEO fun k hk=> ?_
    rw[Bool.and_eq_true];have m1:=zE4 l hr 0 k (Jd _) hk;have m2:=zE4 l hr k (l.length - 1) oM oM;exact⟨decide_eq_true ⟨oM,oM⟩,zHm hr k hk⟩
   ·rw[decide_eq_false h2,Bool.and_false];refine zDL (l.length - 1) oM ?_;rw[decide_eq_false (fun h=>h2 h.2),Bool.false_and]
  ·rw[decide_eq_false h1,Bool.false_and];refine zDL 0 h0 ?_;rw[decide_eq_false (fun h=>h1 h.1),Bool.false_and]
structure ValS where
 prod:Int
 epoch:Int
 timeout:Int
 state:Int
 tops:List TopS
 upd:Int
 started:Int
deriving DecidableEq
def ValS.ranged (v:ValS):Bool:=decide (0≤v.prod) && (decide (0≤v.epoch) && (decide (v.epoch≤32767) && (decide (0≤v.timeout) && (decide (v.timeout≤2147483647) && (decide (0≤v.upd) && decide (-1≤v.started))))))
def idle (s:Int):Bool:= !(s==1) && (!(s==2) && !(s==3))
def ValS.err (v:ValS):Int:=
 if v.ranged=false then 11
 else if v.state<0∨7≤v.state then 12
 else if (idle v.state !=v.tops.isEmpty)=true∨((v.state==0) !=(v.started== -1))=true then 10
 else if zCN v.tops=false then 13 else 0
theorem zSj:zCJ Jb 9 (Z ⟨#[]⟩) 1 16:=zAT kR rfl dD
def FewT (l:List (TopS×Value)):Prop:=l.length≤1000000∧∀x∈l,x.1.name.length≤140737488355328∧x.1.parts.length≤1000000
set_option maxHeartbeats 8000000
theorem zEc(l:List Int)(q:Option Addr)(cap:Nat)(r:Bool)(hr:zI6 l=r)(hn:l.length≤1000000){W0 w:World}{K:Know}{L:List Res}(hk:K.has (Know.flat RI (V q l.length cap) 1 l))(h:St W0 w K L):
 Calls Jb 204 #[V q l.length cap] w fun en w'=>en=Y (U r)∧St W0 w' K L:=by
 have H:=hQd h;have HK:=hQd hk;have HN:=hQd hn;clear h hk
 by_cases hl:l=[]
 ·subst hl;rw[zQf]at hr;subst hr;clear hn;go_enter Tryz.func204,Tryz.ntmps204;go_wp2;go_ret;exact⟨rfl,H.out⟩
 ·rw[zRR l hl]at hr;have h0:0<l.length:=List.length_pos_iff.2 hl;obtain⟨b,off,hqq⟩:=zD3 HK.out H.out h0;subst hqq;have c0:=zCl HK.out H.out 0 h0;obtain⟨m,hm⟩:=eX (l.length - 1);have c1:=zCl HK.out H.out m oM;obtain⟨x,hx⟩:=eX (l.getD 0 0);obtain⟨y,hy⟩:=eX (l.getD m 0);rw[hm,hx,hy]at hr;rw[hx]at c0;rw[hy]at c1;rw[Nat.add_zero]at c0;have e1:wrap64 ((l.length:Int) - 1)=(m:Int):=by unfold wrap64;omega
  have e2:IntKind.i64.wrap ((l.length:Int) - 1)=(m:Int):=by rw[show(l.length:Int) - 1=(m:Int) by omega];exact IntWalk.i64_in _ oM
  have hg:decide ((0:Int)<(l.length:Int))=true:=decide_eq_true oM;have hi0:(0:Int)<(l.length:Int):=by omega
  have him:(m:Int)<(l.length:Int):=by omega
  have hl2:0<l.length:=h0;clear hm hx hy hn
  by_cases h1:0≤x
  ·rw[decide_eq_true h1,Bool.true_and]at hr
   by_cases h2:y≤2147483647
   ·rw[decide_eq_true h2,Bool.true_and]at hr;have HR:=hQd hr;clear hr;go_enter Tryz.func204,Tryz.ntmps204;go_wp2_with (go_at_call 238;(with_reducible refine(zPh l _ _ r HR.out HN.out HK.out H.out).zM ?_);clear H;intro wn H);go_ret;exact⟨rfl,H.out⟩
   ·rw[decide_eq_false h2,Bool.false_and]at hr;subst hr;go_enter Tryz.func204,Tryz.ntmps204;go_wp2;go_ret;exact⟨rfl,H.out⟩
  ·rw[decide_eq_false h1,Bool.false_and]at hr;subst hr;go_enter Tryz.func204,Tryz.ntmps204;go_wp2;go_ret;exact⟨rfl,H.out⟩
theorem zPq(l:List TopS)(k:Nat)(hk:k<l.length)(h:tOk l[k]=false):zCN l=false:=by
 unfold zCN
 cases ha:l.all tOk with
 |false=>rfl
 |true=>have:=List.all_eq_true.1 ha _ (Ji hk);rw[h]at this;cases this
theorem zRo(l:List TopS)(h:l.all tOk=true):zCN l=zRx (l.map (·.name)):=by unfold zCN;rw[h,Bool.true_and]
theorem zCn(l:List (TopS×Value))(q:Option Addr)(cap:Nat)(r:Bool)(hr:zCN (l.map (·.1))=r)(hf:FewT l){W0 w:World}{K:Know}{L:List Res}(hk:K.has (Know.tops (V q l.length cap) l))(h:St W0 w K L):
 Calls Jb 148 #[V q l.length cap] w fun en w'=>en=Y (U r)∧St W0 w' K L:=by
 have H:=hQd h;have HK:=hQd hk;have HR:=hQd hr;have HF:=hQd hf;have hni:(l.length:Int)≤1000000:=by have:=hf.1;omega
 clear h hk hr hf;go_enter Tryz.func148,Tryz.ntmps148;go_wp2;go_loopw [3,5,8] (fun nv _ iv wr=>∃(k:Nat) (acc:List Bs),k≤l.length∧iv=I O k∧Hid (acc=(l.take k).map (·.1.name))∧Hid ((l.take k).all (fun x=>tOk x.1)=true)∧St W0 wr K (.row nv 9 1 acc.length (acc.flatMap fun x=>[Z (bb x)])::L)) (fun _ _ iv _=>l.length - (intOf iv).toNat)
 case atStart=>exact⟨0,[],Jd _,rfl,hQd rfl,hQd rfl,H.out.nilRow 9 1⟩
 case round=>
  obtain⟨k,acc,hkl,rfl,HA,HO,hst⟩:=hrel;clear H;have H:=hQd hst;clear hst
  by_cases hlt:k<l.length
  ·obtain⟨b,off,hqq⟩:=zEX HK.out H.out oM;subst hqq;obtain⟨⟨⟨nm,ps⟩,vx⟩,hx⟩:∃x,l[k]=x:=⟨_,rfl⟩;obtain⟨c0,c1⟩:wr.cell? ⟨b,off+k*2,none⟩=some (Z (bb nm))∧wr.cell? ⟨b,off+k*2+1,none⟩=some vx:=zBT HK.out H.out k hlt _ hx;have hmem:((⟨nm,ps⟩:TopS),vx)∈l:=hx ▸ Ji hlt;have hxk:K.has (Know.flat RI vx 1 ps):=zB5 HK.out hmem;obtain⟨qx,capx,hvx⟩:=zAr hxk H.out;subst hvx;have HXK:=hQd hxk;have hfx:nm.length≤140737488355328∧ps.length≤1000000:=HF.out.2 _ hmem;have HPN:=hQd hfx.2;have hnl:nm.length≤140737488355328:=hfx.1;have hkn:(k:Int)<(l.length:Int):=by omega
   have hmk:k<(l.map (·.1)).length:=by rw[Jj];exact hlt
   have hmg:(l.map (·.1))[k]=⟨nm,ps⟩:=by rw[List.getElem_map,hx]
   have hbad:tOk ⟨nm,ps⟩=false→r=false:=fun h=>by rw[←HR.out];exact zPq _ k hmk (by rw[hmg];exact h)
   have htk:l.take (k+1)=l.take k++[((⟨nm,ps⟩:TopS),Value.slice qx ps.length capx)]:=by rw[Jf hlt,hx]
   have HAL:=hQd (show acc.length≤1000000 by rw[HA.out,Jj,List.length_take];have:=HF.out.1;omega);obtain⟨tb,htb⟩:=eX wr.heap.size;have h:=H.out.allocRaw #[Z (bb nm),V qx ps.length capx] 173;rw[htb]at h;obtain⟨t0,t1⟩:=uR2 h;simp at t0 t1;clear H;have H:=hQd h;have HTK:=hQd htk;clear h hx hmem hxk hfx hmk hmg htk
   by_cases hn0:nm=[]
   ·as_aux_lemma=>
    subst hn0;have hr2:r=false:=hbad rfl;subst hr2;go_wp2;go_ret;exact⟨rfl,H.out.drop.drop⟩
   ·have hn1:(nm==[])=false:=by rw[beq_eq_false_iff_ne];exact hn0
    have hn2:([]==nm)=false:=by rw[beq_eq_false_iff_ne];exact fun h=>hn0 h.symm
    have hie:nm.isEmpty=false:=by cases nm with
     |nil=>exact absurd rfl hn0
     |cons _ _=>rfl
    by_cases hln:nm.length≤32767
    ·obtain⟨pr,hpr⟩:=eX (zI6 ps);have HPR:=hQd hpr;have hl2:(nm.length:Int)≤32767:=by omega
     have hl3:decide ((32767:Int)<(nm.length:Int))=false:=decide_eq_false oM
     cases pr with
     |false=>
      as_aux_lemma=>
      have hr2:r=false:=hbad (by unfold tOk;rw[hpr];simp);subst hr2;clear hpr;go_wp2_with (go_at_call 204;(with_reducible refine(zEc ps _ _ _ HPR.out HPN.out HXK.out H.out).mono ?_);rintro e_ wn ⟨rfl,h⟩;obtain⟨t0,t1⟩:=uR2 h;simp at t0 t1;replace H:=hQd h;clear h);go_ret;exact⟨rfl,H.out.drop.drop⟩
     |true=>
      as_aux_lemma=>
      have HO2:=hQd (show(l.take (k+1)).all (fun x=>tOk x.1)=true by
       rw[HTK.out,List.all_append,HO.out]
       show(true && (tOk ⟨nm,ps⟩ && true))=true
       unfold tOk;simp only[hie,hpr,decide_eq_true hln]
       rfl)
      have HA2:=hQd (show acc++[nm]=(l.take (k+1)).map (·.1.name) by rw[HTK.out,List.map_append,HA.out];rfl);clear hpr hie
      go_wp2_with (first
  |(go_at_call 204;(with_reducible refine(zEc ps _ _ _ HPR.out HPN.out HXK.out H.out).mono ?_);rintro e_ wn ⟨rfl,h⟩;obtain⟨t0,t1⟩:=uR2 h;simp at t0 t1;replace H:=hQd h;clear h)
  |(at_builtin;refine zAz rfl _ _ 75 rfl 9 Tryz.underlying75 zSj _ _ _ rfl H.out.p1 [Z (bb nm)] 9 rfl rfl (by simp[Value.oneCell']) (by have:=HAL.out;unfold maxLen;omega) (by have:=HAL.out;omega) ?_;intro v' w' h;replace H:=hQd h;clear h))
      go_roundw
      case rel=>exact⟨k+1,acc++[nm],hlt,by go_num,HA2,HO2,by
       have h3:=H.out.p1.drop;rw[Jc,List.flatMap_append]
       exact H.out.p1.drop⟩
      case measure=>first|(simp[intOf];done)|(simp[intOf];omega)
    ·as_aux_lemma=>
     have hl3:decide ((32767:Int)<(nm.length:Int))=true:=decide_eq_true oM;have hl2:¬(nm.length:Int)≤32767:=by omega
     have hr2:r=false:=hbad (by unfold tOk;simp only[decide_eq_false hln];simp);subst hr2;go_wp2;go_ret;exact⟨rfl,H.out.drop.drop⟩
  ·obtain rfl:k=l.length:=by omega
   have ho:=HO.out;have ha:=HA.out;rw[List.take_length]at ho ha;have h2:=H.out.freezeRow (R:=RSt) (fun x _=>⟨rfl,rfl⟩);obtain⟨p0,cap0,hlv⟩:=H.out.rowAny;subst hlv;have HAL:=hQd (show acc.length≤1000000 by rw[ha,Jj];have:=HF.out.1;omega)
   have HRS:=hQd (show zRx acc=r by
    rw[←HR.out,zRo _ (by rw[List.all_map];exact ho),ha,List.map_map]
    rfl)
   clear H ho ha;have H:=hQd h2;clear h2;go_wp2_with (go_at_call 205;(with_reducible refine(zPg acc _ _ r HRS.out HAL.out (Know.has_right (Know.has_refl _)) H.out).zM ?_);clear H;intro wn H);go_ret;exact⟨rfl,H.out.know (Know.has_left (Know.has_refl _))⟩
def pk (l:List Int) (k:Nat):Bool:=decide (0≤l.getD k 0∧l.getD k 0≤2147483647) && upI l k
theorem zRQ(l:List Int)(h:l≠[]):zI6 l=allN l.length (pk l):=by
 unfold zI6
 cases l with
 |nil=>exact absurd rfl h
 |cons _ _=>rfl
def be4s (l:List Int):Bs:=l.flatMap fun n=>zAa n 4
def encT (t:TopS):Bs:=encF 2 ⟨false,t.name⟩++(zAa t.parts.length 4++be4s t.parts)
def preT (l:List TopS) (k:Nat):Bs:=zAa l.length 4++(l.take k).flatMap encT
def zA3 (l:List TopS):Bs:=zAa l.length 4++l.flatMap encT
def ValS.enc (v:ValS):Bs:=zAa 0 2++zAa v.prod 8++zAa v.epoch 2++zAa v.timeout 4++zAa v.state 1++zA3 v.tops++zAa v.upd 8++zAa v.started 8
def TopS.Fit (t:TopS):Prop:=t.name.length≤32767∧t.parts.length≤1000000∧∀n∈t.parts,-2147483648≤n∧n<2147483648
def zC7 (l:List TopS):Prop:=l.length≤1000000∧∀t∈l,t.Fit
theorem zEJ(l:List Int):(be4s l).length=4*l.length:=by
 unfold be4s
 induction l with
 |nil=>rfl
 |cons x t ih=>rw[Jg,Jc,zAb,ih,Jn];omega
theorem zJs(t:TopS):(encT t).length=6+t.name.length+4*t.parts.length:=by
 unfold encT encF;simp only[Jc,zAb,zEJ]
 omega
theorem zS5(l:List TopS)(h:zC7 l)(k:Nat)(hk:k≤l.length):(preT l k).length≤4+4100000*k:=by
 unfold preT;rw[Jc,zAb]
 have:∀(m:List TopS),(∀t∈m,t.Fit)→(m.flatMap encT).length≤4100000*m.length:=by
  intro m
  induction m with
  |nil=>intro _;simp
  |cons x t ih=>
   intro hm;have h1:=ih (fun y hy=>hm y (by simp[hy]));have h2:=hm x sM;have h3:=zJs x;unfold TopS.Fit at h2;rw[Jg,Jc,Jn]
   omega
 have h1:=this (l.take k) (fun t ht=>h.2 t (List.mem_of_mem_take ht));rw[List.length_take]at h1;have e:min k l.length=k:=by omega
 rw[e]at h1
 omega
theorem zP7(l:List TopS)(k:Nat)(hk:k<l.length)(t:TopS)(ht:l[k]=t):preT l (k+1)=preT l k++(encF 2 ⟨false,t.name⟩++(zAa t.parts.length 4++be4s t.parts)):=by
 unfold preT;rw[Jf hk,List.flatMap_append,ht,Jg,List.flatMap_nil,Jp,Je]
 rfl
theorem zRM(l:List TopS):preT l l.length=zA3 l:=by unfold preT zA3;rw[List.take_length]
theorem zP6(l:List TopS):preT l 0=zAa l.length 4:=by unfold preT;rw[List.take_zero,List.flatMap_nil,Jp]
theorem zQ7(l:List Int)(k:Nat)(hk:k<l.length)(n:Int)(hn:l.getD k 0=n):be4s (l.take (k+1))=be4s (l.take k)++zAa n 4:=by
 have e:l[k]=n:=by rw[←hn,List.getD_eq_getElem?_getD,List.getElem?_eq_getElem hk];rfl
 unfold be4s;rw[Jf hk,List.flatMap_append,e,Jg,List.flatMap_nil,Jp]
theorem zC1(n:Int)(h: -2147483648≤n∧n<2147483648):fits n 4:=by
 unfold fits half;refine⟨dD,dD,?_,?_⟩
 ·show -(128*256 ^ 3)≤n;omega
 ·show n<128*256 ^ 3;omega
theorem zFs(n:Int)(h: -9223372036854775808≤n∧n<9223372036854775808):fits n 8:=by
 unfold fits half;refine⟨dD,dD,?_,?_⟩
 ·show -(128*256 ^ 7)≤n;omega
 ·show n<128*256 ^ 7;omega
theorem zC2(n:Int)(h: -32768≤n∧n<32768):fits n 2:=by
 unfold fits half;refine⟨dD,dD,?_,?_⟩
 ·show -(128*256 ^ 1)≤n;omega
 ·show n<128*256 ^ 1;omega
theorem vfits1(n:Int)(h: -128≤n∧n<128):fits n 1:=by
 unfold fits half;refine⟨dD,dD,?_,?_⟩
 ·show -(128*256 ^ 0)≤n;omega
 ·show n<128*256 ^ 0;omega
theorem zNC(l:List Int)(k:Nat)(hk:k<l.length):l.getD k 0∈l:=by
 rw[List.getD_eq_getElem?_getD,List.getElem?_eq_getElem hk];exact Ji hk
def InS.cnt (i:InS) (each:Nat):Nat×InS:=((i.count 4 each).1.toNat,(i.count 4 each).2)
def cntP (each:Nat) (s:Bs):Except Int (Nat×Nat):=
 if s.length<4 then .error 1 else if sInt (s.take 4)<0 then .error 4 else if ((s.length:Int) - 4) / each<sInt (s.take 4)then .error 1 else .ok ((sInt (s.take 4)).toNat,4)
theorem zGM(s:Bs)(pos:Nat)(hp:pos≤s.length)(h:4≤(s.drop pos).length):pos+4≤s.length∧(⟨s,pos,0⟩:InS).int 4=(sInt ((s.drop pos).take 4),⟨s,pos+4,0⟩):=
 (zAW 4 dD dD).ok s pos _ 4 hp (by unfold zAJ;rw[if_neg oM])
theorem zIc(s:Bs)(pos:Nat)(hp:pos≤s.length)(h:(s.drop pos).length<4):∃q,q≤s.length∧(⟨s,pos,0⟩:InS).int 4=(0,⟨s,q,1⟩):=
 ((zAW 4 dD dD).err s pos 1 hp (by unfold zAJ;rw[if_pos h])).2
theorem int_stuck(i:InS)(hi:i.err≠0):i.int 4=(0,i):=(zAW 4 dD dD).stuck i hi
theorem zBq(each:Nat)(he:0<each):Rds (fun i=>i.cnt each) (cntP each) 0:=by
 refine⟨?_,?_,?_⟩
 ·intro s pos a k hp h;unfold cntP at h
  by_cases h1:(s.drop pos).length<4
  ·rw[if_pos h1]at h;cases h
  rw[if_neg h1]at h;obtain⟨g1,g2⟩:=zGM s pos hp oM
  by_cases h2:sInt ((s.drop pos).take 4)<0
  ·rw[if_pos h2]at h;cases h
  rw[if_neg h2]at h
  by_cases h3:(((s.drop pos).length:Int) - 4) / each<sInt ((s.drop pos).take 4)
  ·rw[if_pos h3]at h;cases h
  rw[if_neg h3]at h
  cases h
  refine⟨g1,?_⟩
  show(((⟨s,pos,0⟩:InS).count 4 each).1.toNat,((⟨s,pos,0⟩:InS).count 4 each).2)=_
  unfold InS.count;simp only[g2]
  rw[if_neg h2,if_neg (fun hh=>h3 (by
   have e:((⟨s,pos+4,0⟩:InS).left:Int)=((s.drop pos).length:Int) - 4:=by simp only[InS.left];rw[Jh];rw[Jh]at h1;omega
   rw[e]at hh
   exact hh.2))]
 ·intro s pos e hp h;unfold cntP at h
  show e≠0∧∃q,q≤s.length∧(((⟨s,pos,0⟩:InS).count 4 each).1.toNat,((⟨s,pos,0⟩:InS).count 4 each).2)=_
  unfold InS.count
  by_cases h1:(s.drop pos).length<4
  ·rw[if_pos h1]at h
   cases h
   obtain⟨q,g1,g2⟩:=zIc s pos hp h1;refine⟨dD,q,g1,?_⟩;simp only[g2]
   rw[if_neg dD,if_neg (fun hh=>by
    have h2:=hh.2;have:(0:Int)≤((⟨s,q,1⟩:InS).left:Int) / (each:Int):=Int.ediv_nonneg oM oM
    omega)]
   rfl
  rw[if_neg h1]at h;obtain⟨g1,g2⟩:=zGM s pos hp oM;simp only[g2]
  by_cases h2:sInt ((s.drop pos).take 4)<0
  ·rw[if_pos h2]at h
   cases h
   rw[if_pos h2];exact⟨dD,pos+4,g1,rfl⟩
  rw[if_neg h2]at h ⊢;have e4:((⟨s,pos+4,0⟩:InS).left:Int)=((s.drop pos).length:Int) - 4:=by simp only[InS.left];rw[Jh];rw[Jh]at h1;omega
  rw[e4]
  by_cases h3:(((s.drop pos).length:Int) - 4) / each<sInt ((s.drop pos).take 4)
  ·rw[if_pos h3]at h
   cases h
   rw[if_pos ⟨oM,h3⟩];exact⟨dD,pos+4,g1,rfl⟩
  rw[if_neg h3]at h
  cases h
 ·intro i hi
  show(((i.count 4 each).1).toNat,(i.count 4 each).2)=_
  unfold InS.count;rw[int_stuck i hi];simp only
  rw[if_neg dD,if_neg (fun hh=>by
   have h2:=hh.2;have:(0:Int)≤(i.left:Int) / (each:Int):=Int.ediv_nonneg oM oM
   omega)]
  rfl
def zKT:Nat→Bs→List Int
 |0,_=>[]
 |n+1,s=>sInt (s.take 4)::zKT n (s.drop 4)
def InS.partsN:Nat→List Int→InS→List Int×InS
 |0,acc,i=>(acc,i)
 |n+1,acc,i=>InS.partsN n (acc++[(i.int 4).1]) (i.int 4).2
def InS.parts (i:InS):List Int×InS:=InS.partsN (i.cnt 4).1 [] (i.cnt 4).2
def zFw (s:Bs):Except Int (List Int×Nat):=match cntP 4 s with
 | .error e=> .error e
 | .ok x=> .ok (zKT x.1 (s.drop 4),4+4*x.1)
theorem zKL:∀(n:Nat) (acc:List Int) (s:Bs) (pos:Nat),pos+4*n≤s.length→InS.partsN n acc ⟨s,pos,0⟩=(acc++zKT n (s.drop pos),⟨s,pos+4*n,0⟩)
 |0,acc,s,pos,_=>by simp[InS.partsN,zKT]
 |n+1,acc,s,pos,h=>by
  have g:=(zGM s pos oM (by rw[Jh];omega)).2;have ih:=zKL n (acc++[sInt ((s.drop pos).take 4)]) s (pos+4) oM;unfold InS.partsN;rw[g];simp only;rw[ih,Je]
  show(acc++(sInt ((s.drop pos).take 4)::zKT n (s.drop (pos+4))),_)=(acc++(sInt ((s.drop pos).take 4)::zKT n ((s.drop pos).drop 4)),_)
  rw[Jk]
  congr 2
  omega
theorem zG8{each:Nat}{s:Bs}{n k:Nat}(he:0<each)(h:cntP each s=.ok (n,k)):k=4∧4+each*n≤s.length∧(n:Int)=sInt (s.take 4)∧n<2147483648:=by
 unfold cntP at h
 by_cases h1:s.length<4
 ·rw[if_pos h1]at h;cases h
 rw[if_neg h1]at h
 by_cases h2:sInt (s.take 4)<0
 ·rw[if_pos h2]at h;cases h
 rw[if_neg h2]at h
 by_cases h3:((s.length:Int) - 4) / each<sInt (s.take 4)
 ·rw[if_pos h3]at h;cases h
 rw[if_neg h3]at h
 cases h
 have hn:((sInt (s.take 4)).toNat:Int)=sInt (s.take 4):=Int.toNat_of_nonneg oM;refine⟨rfl,?_,hn,?_⟩
 ·have h4:sInt (s.take 4)*each≤(s.length:Int) - 4:=(Int.le_ediv_iff_mul_le oM).1 oM;rw[←hn]at h4;have h5:((sInt (s.take 4)).toNat:Int)*(each:Int)=((each*(sInt (s.take 4)).toNat:Nat):Int):=by rw[Nat.mul_comm];exact(Int.natCast_mul _ _).symm
  rw[h5]at h4
  omega
 ·have h6:fits (sInt (s.take 4)) 4:=by
   exact zGe (s.take 4) 4 dD dD (by rw[List.length_take];omega)
  have h7:=h6.2.2.2;have e4:half (4:Int).toNat=2147483648:=by decide
  rw[e4]at h7
  omega
theorem zGr:Rds InS.parts zFw []:=by
 refine⟨?_,?_,?_⟩
 ·intro s pos a k hp h;unfold zFw at h
  cases h1:cntP 4 (s.drop pos)with
  |error e=>rw[h1]at h;cases h
  |ok x=>
   rw[h1]at h
   cases h
   obtain⟨g1,g2⟩:=(zBq 4 dD).ok s pos x.1 x.2 hp h1;obtain⟨c1,c2,_,_⟩:=zG8 dD h1;rw[Jh]at c2
   (try simp only at g2)
   refine⟨oM,?_⟩;unfold InS.parts;rw[g2];simp only;rw[c1,zKL x.1 [] s (pos+4) oM,List.nil_append,Jk,Jm]
 ·intro s pos e hp h;unfold zFw at h
  cases h1:cntP 4 (s.drop pos)with
  |error e1=>
   rw[h1]at h
   cases h
   obtain⟨g1,q,g2,g3⟩:=(zBq 4 dD).err s pos e hp h1;refine⟨g1,q,g2,?_⟩
   (try simp only at g3)
   unfold InS.parts;rw[g3]
   rfl
  |ok x=>rw[h1]at h;cases h
 ·intro i hi;have g:=(zBq 4 dD).stuck i hi
  (try simp only at g)
  unfold InS.parts;rw[g]
  rfl
def zF4 (s:Bs):Except Int (Bs×Nat):=match zAI 2 s with
 | .error e=> .error e
 | .ok x=>if x.1.null then .error 4 else .ok (x.1.data,x.2)
theorem zq23{p:Prop}(h:p:=by
  unfold zAI at h
  split at h
  · cases h
  · unfold gotS at h
    split at h
    · cases h;rfl
    · split at h
      · cases h
      · split at h
        · cases h
        · cases h;cases hn):p:=h
theorem zKp{s:Bs}{x:BlobS×Nat}(h:zAI 2 s=.ok x)(hn:x.1.null=true):x.1.data=[]:=by
 exact zq23
theorem zCO:Rds InS.text zF4 []:=by
 refine⟨?_,?_,?_⟩
 ·intro s pos a k hp h;unfold zF4 at h
  cases h1:zAI 2 (s.drop pos)with
  |error e=>rw[h1]at h;cases h
  |ok x=>
   rw[h1]at h;obtain⟨g1,g2⟩:=(zAN 2 dD dD).ok s pos x.1 x.2 hp h1
   cases hn:x.1.null with
   |true=>simp[hn]at h
   |false=>
    simp only[hn]at h
    cases h
    refine⟨g1,?_⟩;unfold InS.text InS.bytes;have g2:(⟨s,pos,0⟩:InS).fixed 2=(x.1,⟨s,pos+x.2,0⟩):=g2;rw[g2];simp only[hn]
    rfl
 ·intro s pos e hp h;unfold zF4 at h
  cases h1:zAI 2 (s.drop pos)with
  |error e1=>
   rw[h1]at h
   cases h
   obtain⟨g1,q,g2,g3⟩:=(zAN 2 dD dD).err s pos e hp h1;refine⟨g1,q,g2,?_⟩;have g3:(⟨s,pos,0⟩:InS).fixed 2=(⟨false,[]⟩,⟨s,q,e⟩):=g3;unfold InS.text InS.bytes;rw[g3]
   rfl
  |ok x=>
   rw[h1]at h;obtain⟨g1,g2⟩:=(zAN 2 dD dD).ok s pos x.1 x.2 hp h1;have g2:(⟨s,pos,0⟩:InS).fixed 2=(x.1,⟨s,pos+x.2,0⟩):=g2
   cases hn:x.1.null with
   |false=>simp[hn]at h
   |true=>
    simp[hn]at h;subst h;refine⟨dD,pos+x.2,g1,?_⟩;unfold InS.text InS.bytes;rw[g2];simp only[hn];have hd:=zKp h1 hn;rw[hd]
    rfl
 ·intro i hi;have g:i.fixed 2=(⟨false,[]⟩,i):=(zAN 2 dD dD).stuck i hi;unfold InS.text InS.bytes;rw[g]
  rfl
def topP (s:Bs):Except Int (TopS×Nat):=match zF4 s with
  | .error e=> .error e
  | .ok x=>match zFw (s.drop x.2)with
    | .error e=> .error e
    | .ok y=> .ok (⟨x.1,y.1⟩,x.2+y.2)
def topN:Nat→Bs→Except Int (List TopS×Nat)
  |0,_=> .ok ([],0)
  |n+1,s=>match topP s with
    | .error e=> .error e
    | .ok x=>match topN n (s.drop x.2)with
      | .error e=> .error e
      | .ok y=> .ok (x.1::y.1,x.2+y.2)
def zPk (s:Bs):Except Int (List TopS×Nat):=match cntP 6 s with
  | .error e=> .error e
  | .ok x=>match topN x.1 (s.drop 4)with
    | .error e=> .error e
    | .ok y=> .ok (y.1,4+y.2)
def InS.topsN:Nat→List TopS→InS→List TopS×InS
 |0,acc,i=>(acc,i)
 |n+1,acc,i=>if i.text.2.parts.2.err=0 then InS.topsN n (acc++[⟨i.text.1,i.text.2.parts.1⟩]) i.text.2.parts.2 else([],i.text.2.parts.2)
def InS.tops (i:InS):List TopS×InS:=InS.topsN (i.cnt 6).1 [] (i.cnt 6).2
theorem zSS{s:Bs}{pos:Nat}{t:TopS}{m:Nat}(hp:pos≤s.length)(e:topP (s.drop pos)=.ok (t,m)):pos+m≤s.length∧(⟨s,pos,0⟩:InS).text.1=t.name∧(⟨s,pos,0⟩:InS).text.2.parts=(t.parts,⟨s,pos+m,0⟩):=by
 unfold topP at e
 cases h1:zF4 (s.drop pos)with
 |error e1=>rw[h1]at e;cases e
 |ok x=>
  rw[h1]at e;obtain⟨g1,g2⟩:=zCO.ok s pos x.1 x.2 hp h1;simp only at e
  cases h2:zFw ((s.drop pos).drop x.2)with
  |error e2=>rw[h2]at e;cases e
  |ok y=>
   rw[h2]at e
   cases e
   rw[Jk]at h2;obtain⟨g3,g4⟩:=zGr.ok s (pos+x.2) y.1 y.2 g1 h2;rw[g2];rw[Jm]at g3 g4;exact⟨g3,rfl,g4⟩
theorem zRm{s:Bs}{pos:Nat}{e:Int}(hp:pos≤s.length)(h:topP (s.drop pos)=.error e):e≠0∧∃q,q≤s.length∧(⟨s,pos,0⟩:InS).text.2.parts.2=⟨s,q,e⟩:=by
 unfold topP at h
 cases h1:zF4 (s.drop pos)with
 |error e1=>
  rw[h1]at h
  cases h
  obtain⟨g1,q,g2,g3⟩:=zCO.err s pos e hp h1;refine⟨g1,q,g2,?_⟩;rw[g3]
  show(InS.parts ⟨s,q,e⟩).2=_
  rw[zGr.stuck ⟨s,q,e⟩ g1]
 |ok x=>
  rw[h1]at h;obtain⟨g1,g2⟩:=zCO.ok s pos x.1 x.2 hp h1;simp only at h;rw[g2]
  cases h2:zFw ((s.drop pos).drop x.2)with
  |error e2=>
   rw[h2]at h
   cases h
   rw[Jk]at h2;obtain⟨g3,q,g4,g5⟩:=zGr.err s (pos+x.2) e g1 h2;refine⟨g3,q,g4,?_⟩
   show(InS.parts ⟨s,pos+x.2,0⟩).2=_
   rw[g5]
  |ok y=>rw[h2]at h;cases h
theorem zIC:∀(n:Nat) (acc:List TopS) (s:Bs) (pos:Nat),pos≤s.length→
 (∀t k,topN n (s.drop pos)=.ok (t,k)→pos+k≤s.length∧InS.topsN n acc ⟨s,pos,0⟩=(acc++t,⟨s,pos+k,0⟩))∧
 (∀e,topN n (s.drop pos)=.error e→e≠0∧∃q,q≤s.length∧InS.topsN n acc ⟨s,pos,0⟩=([],⟨s,q,e⟩))
 |0,acc,s,pos,hp=>⟨fun t k h=>(by cases h;simp[InS.topsN];exact hp),fun e h=>(by cases h)⟩
 |n+1,acc,s,pos,hp=>by
  unfold topN InS.topsN
  cases h1:topP (s.drop pos)with
  |error e1=>
   refine⟨fun t k h=>(by cases h),fun e h=> ?_⟩
   cases h
   obtain⟨g1,q,g2,g3⟩:=zRm hp h1;refine⟨g1,q,g2,?_⟩;rw[g3,if_neg g1]
  |ok x=>
   obtain⟨g1,g2,g3⟩:=zSS hp h1;have ih:=zIC n (acc++[x.1]) s (pos+x.2) g1;rw[g2,g3];simp only[if_true];rw[Jk];refine⟨fun t k h=> ?_,fun e h=> ?_⟩
   ·cases h2:topN n (s.drop (pos+x.2))with
    |error e2=>rw[h2]at h;cases h
    |ok y=>
     exact zq17
   ·cases h2:topN n (s.drop (pos+x.2))with
    |error e2=>
     rw[h2]at h
     cases h
     exact ih.2 e h2
    |ok y=>rw[h2]at h;cases h
theorem zRF:Rds InS.tops zPk []:=by
 refine⟨?_,?_,?_⟩
 ·intro s pos a k hp h;unfold zPk at h
  cases h1:cntP 6 (s.drop pos)with
  |error e1=>rw[h1]at h;cases h
  |ok x=>
   rw[h1]at h;obtain⟨g1,g2⟩:=(zBq 6 dD).ok s pos x.1 x.2 hp h1;obtain⟨c1,_,_,_⟩:=zG8 dD h1;simp only at h g2;rw[Jk]at h;rw[c1]at g1 g2
   cases h2:topN x.1 (s.drop (pos+4))with
   |error e2=>rw[h2]at h;cases h
   |ok y=>
    rw[h2]at h
    cases h
    obtain⟨a1,b1⟩:=(zIC x.1 [] s (pos+4) g1).1 y.1 y.2 h2;refine⟨oM,?_⟩;unfold InS.tops;rw[g2];simp only;rw[b1,List.nil_append,Jm]
 ·intro s pos e hp h;unfold zPk at h
  cases h1:cntP 6 (s.drop pos)with
  |error e1=>
   rw[h1]at h
   cases h
   obtain⟨g1,q,g2,g3⟩:=(zBq 6 dD).err s pos e hp h1;refine⟨g1,q,g2,?_⟩
   (try simp only at g3)
   unfold InS.tops;rw[g3]
   rfl
  |ok x=>
   rw[h1]at h;obtain⟨g1,g2⟩:=(zBq 6 dD).ok s pos x.1 x.2 hp h1;obtain⟨c1,_,_,_⟩:=zG8 dD h1;simp only at h g2;rw[Jk]at h;rw[c1]at g1 g2;unfold InS.tops;rw[g2];simp only
   cases h2:topN x.1 (s.drop (pos+4))with
   |error e2=>
    rw[h2]at h
    cases h
    exact(zIC x.1 [] s (pos+4) g1).2 e h2
   |ok y=>rw[h2]at h;cases h
 ·intro i hi;have g:=(zBq 6 dD).stuck i hi
  (try simp only at g)
  unfold InS.tops;rw[g]
  rfl
theorem zSa(n size:Int)(h:fits n size): -9223372036854775808≤n∧n<9223372036854775808:=by
 obtain⟨h1,h2,h3,h4⟩:=h;unfold half at h3 h4
 rcases(by omega:size.toNat - 1=0∨size.toNat - 1=1∨size.toNat - 1=2∨size.toNat - 1=3∨size.toNat - 1=4∨size.toNat - 1=5∨size.toNat - 1=6∨size.toNat - 1=7)with h|h|h|h|h|h|h|h<;>rw[h]at h3 h4<;>omega
theorem zq36{p:Prop}(h:p:=by unfold OutS.ok;simp only;omega):p:=h
theorem zBH(p:Nat)(e e2:Bs)(n size:Int)(he:e++zAa n size.toNat=e2)(hf:fits n size)(hl:e.length≤100000000000000)(h:St W0 w K (.out p ⟨e,0⟩::L)):
 Calls Jb 50 #[zAc p,I O n,I O size] w fun en w'=>en=Y (.tuple #[])∧St W0 w' K (.out p ⟨e2,0⟩::L):=by
 have h2:=zGb p ⟨e,0⟩ n size (zSa n size hf) h zq36;have e3:(⟨e,0⟩:OutS).int n size=⟨e2,0⟩:=by unfold OutS.int;rw[if_pos hf,←he];rfl
 rw[e3]at h2;exact h2
theorem zq19{p:Prop}(h:p:=by
 show(⟨(e++zAa (⟨false,s⟩:BlobS).len 2)++s,0⟩:OutS)=_
 rw[Je]
 rfl):p:=h
theorem zq31{p:Prop}(h:p:=by
 show((⟨e,0⟩:OutS).int (⟨false,s⟩:BlobS).len 2).putData ⟨false,s⟩=_
 unfold OutS.int;rw[if_pos hf,←he]
 exact zq19):p:=h
theorem zq46{p:Prop}(h:p:=by show -32768≤(s.length:Int)∧(s.length:Int)<32768;omega):p:=h
theorem zCY(p:Nat)(e e2 s:Bs)(he:e++encF 2 ⟨false,s⟩=e2)(hs:s.length≤32767)(hl:e.length≤100000000000000)(h:St W0 w K (.out p ⟨e,0⟩::L)):
 Calls Jb 89 #[zAc p,Z (bb s)] w fun en w'=>en=Y (.tuple #[])∧St W0 w' K (.out p ⟨e2,0⟩::L):=by
 have h2:=zDr p ⟨e,0⟩ s h zq36;have hf:fits (⟨false,s⟩:BlobS).len 2:=zC2 _ zq46
 have e3:(⟨e,0⟩:OutS).putText s=⟨e2,0⟩:=by
  exact zq31
 rw[e3]at h2;exact h2
theorem zq6{p:Prop}(h:p:=by
  have hr: -2147483648≤(i.int 4).1∧(i.int 4).1<2147483648:=by
   have e4:half (4:Int).toNat=2147483648:=by decide
   by_cases hi:i.err=0
   · obtain⟨s,pos,er⟩:=i;simp only at hi;subst hi;unfold InS.int;rw[if_neg dD];simp only;unfold InS.take
     split
     · show -2147483648≤sInt []∧sInt []<2147483648;decide
     · split
       · show -2147483648≤sInt []∧sInt []<2147483648;decide
       · split
         · show -2147483648≤sInt []∧sInt []<2147483648;decide
         · rename_i h1 h2 h3
           have hl:(((s.drop pos)).take (4:Int).toNat).length=4:=by
            rw[List.length_take,Jh];simp only[InS.left]at h3;have:(4:Int).toNat=4:=rfl
            omega
           have h6:=zGe _ 4 dD dD hl;have h7:=h6.2.2;have e5:half ((4:Nat):Int).toNat=2147483648:=by decide
           rw[e5]at h7;exact h7
   · rw[int_stuck i hi];show(-2147483648:Int)≤0∧(0:Int)<2147483648;decide
  have h0:0≤(i.count 4 each).1∧(i.count 4 each).1<2147483648:=by
   unfold InS.count;simp only
   split
   · simp
   · split
     · simp
     · omega
  unfold InS.cnt;simp only
  omega):p:=h
theorem zJB(i:InS)(each:Nat):(i.count 4 each).1=((i.cnt each).1:Int)∧(i.cnt each).1≤2147483647:=by
 exact zq6
theorem zPB(p:Nat)(i j:InS)(each n:Nat)(ei:Int)(he:ei=each)(hx:i.cnt each=(n,j))(h:St W0 w K (.inp p i::L)):
 Calls Jb 174 #[zAe p,I O 4,I O ei] w fun en w'=>en=Y (I O n)∧St W0 w' K (.inp p j::L):=by
 subst he;have h2:=zPA p i 4 each h;have h3:=(zJB i each).1;rw[hx]at h3;have h4:(i.count 4 each).2=j:=by have:=congrArg Prod.snd hx;exact this
 rw[h3,h4]at h2;exact h2
theorem zCw(p:Nat)(i j:InS)(x:Int)(size:Int)(hx:i.int size=(x,j))(h:St W0 w K (.inp p i::L)):
 Calls Jb 66 #[zAe p,I O size] w fun en w'=>en=Y (I O x)∧St W0 w' K (.inp p j::L):=by
 have h2:=zCa p i size h;rw[hx]at h2;exact h2
theorem zCx(p:Nat)(i:InS)(e:Int)(hx:i.err=e)(h:St W0 w K (.inp p i::L)):
 Calls Jb 22 #[zAe p] w fun en w'=>en=Y (I O e)∧St W0 w' K (.inp p i::L):=by
 subst hx;exact zHs p i h
theorem zDJ(p:Nat)(i j:InS)(s:Bs)(hx:i.text=(s,j))(h:St W0 w K (.inp p i::L)):
 Calls Jb 87 #[zAe p] w fun en w'=>en=Y (Z (bb s))∧St W0 w' K (.inp p j::L):=by
 have h2:=zLp p i h;rw[hx]at h2;exact h2
theorem zSl:zCJ Jb 3 (I O 0) 1 8:=zAT kR rfl dD
theorem zNL:zCJ Jb 173 (.agg #[Z ⟨#[]⟩,V none 0 0]) 2 40:=zAT kR rfl dD
theorem zNd(K:Know):K.has (K.and (Know.tops (V none 0 0) [])):=fun _ _ h=>⟨h,⟨none,0,rfl,fun h=>absurd h sM⟩,fun x hx=>by cases hx⟩
variable {W0 w:World}{K:Know}{L:List Res}
theorem zq35{p:Prop}(h:p:=by have:=HAB.out;unfold maxLen;omega):p:=h
theorem zq44{p:Prop}(h:p:=by rw[Jc,HAL.out];rfl):p:=h
theorem zJW(p:Nat)(i j:InS)(l:List Int)(hx:i.parts=(l,j))(h:St W0 w K (.inp p i::L)):
  Calls Jb 203 #[zAe p] w fun en w'=>∃v,en=Y v∧St W0 w' (K.and (Know.flat RI v 1 l)) (.inp p j::L):=by
 obtain⟨⟨n,c⟩,hc⟩:∃r,i.cnt 4=r:=⟨_,rfl⟩;have hnl:=(zJB i 4).2;rw[hc]at hnl;have hx2:InS.partsN n [] c=(l,j):=by rw[←hx];unfold InS.parts;rw[hc]
 have HC:=hQd hc;have HX:=hQd hx2;have HNL:=hQd hnl;have H:=hQd h;have hni:(n:Int)≤2147483647:=by simp only at hnl;omega
 clear h hx hc hx2 hnl;go_enter Tryz.func203,Tryz.ntmps203;go_wp2_with (go_at_call 174;(with_reducible refine(zPB p i c 4 n 4 rfl HC.out H.out).zM ?_);clear H;intro wn H);go_loopw [3,6] (fun lv iv wr=>∃(k:Nat) (i2:InS) (acc:List Int),k≤n∧iv=I O k∧Hid (acc.length=k)∧Hid (InS.partsN (n - k) acc i2=(l,j))∧St W0 wr K (.row lv 3 1 acc.length (acc.flatMap fun x=>[I O x])::.inp p i2::L)) (fun _ iv _=>n - (intOf iv).toNat)
 case atStart=>exact⟨0,c,[],Jd _,rfl,hQd rfl,hQd HX.out,H.out.nilRow 3 1⟩
 case round=>
  obtain⟨k,i2,acc,hk,rfl,HAL,HP,hst⟩:=hrel;clear H;have H:=hQd hst;clear hst
  by_cases hlt:k<n
  · obtain⟨⟨x,i3⟩,hi3⟩:∃r,i2.int 4=r:=⟨_,rfl⟩;have HI:=hQd hi3
    have HP2:=hQd (show InS.partsN (n - (k+1)) (acc++[x]) i3=(l,j) by
     have h1:=HP.out;rw[show n - k=(n - (k+1))+1 by omega]at h1;have h2:InS.partsN (n - (k+1)) (acc++[(i2.int 4).1]) (i2.int 4).2=(l,j):=h1;rw[hi3]at h2
     exact h2)
    have HAB:=hQd (show acc.length≤2147483647 by have:=HAL.out;have:=HNL.out;omega);have hkn:(k:Int)<(n:Int):=by omega
    clear hi3
    go_wp2_with (first
  |(go_at_call 66;(with_reducible refine(zCw p i2 i3 x 4 HI.out H.out.p1).mono ?_);rintro e_ wn ⟨rfl,h⟩;have h:=h.p1;replace H:=hQd h;clear h)
  |(at_builtin;refine zAz rfl _ _ 90 rfl 3 Tryz.underlying90 zSl _ _ _ rfl H.out [I O x] 3 rfl rfl (by simp[Value.oneCell']) zq35 (by have:=HAB.out;omega) ?_;intro v' w' h;replace H:=hQd h;clear h))
    go_roundw
    case rel=>exact⟨k+1,i3,acc++[x],hlt,by go_num,hQd zq44,HP2,by rw[Jc,List.flatMap_append];exact H.out⟩
    case measure=>first|(simp[intOf];done)|(simp[intOf];omega)
  · obtain rfl:k=n:=by omega
    have hp:=HP.out;rw[Nat.sub_self]at hp;have hp:(acc,i2)=(l,j):=hp;simp only[Prod.mk.injEq]at hp;obtain⟨rfl,rfl⟩:=hp;go_wp2;go_ret;exact⟨_,rfl,H.out.freezeRow (R:=RI) (fun x _=>⟨rfl,rfl⟩)⟩
theorem zEW(p:Nat)(i j:InS)(l:List TopS)(hx:i.tops=(l,j))(h:St W0 w K (.inp p i::L)):
  Calls Jb 145 #[zAe p] w fun en w'=>∃(v:Value) (lr:List (TopS×Value)),en=Y v∧lr.map (·.1)=l∧St W0 w' (K.and (Know.tops v lr)) (.inp p j::L):=by
 obtain⟨⟨n,c⟩,hc⟩:∃r,i.cnt 6=r:=⟨_,rfl⟩;have hnl:=(zJB i 6).2;rw[hc]at hnl;have hx2:InS.topsN n [] c=(l,j):=by rw[←hx];unfold InS.tops;rw[hc]
 have HC:=hQd hc;have HX:=hQd hx2;have HNL:=hQd hnl;have H:=hQd h;have hni:(n:Int)≤2147483647:=by simp only at hnl;omega
 clear h hx hc hx2 hnl;go_enter Tryz.func145,Tryz.ntmps145;go_wp2_with (go_at_call 174;(with_reducible refine(zPB p i c 6 n 6 rfl HC.out H.out).zM ?_);clear H;intro wn H);go_loopw [3,4,7] (fun lv _ iv wr=>∃(k:Nat) (i2:InS) (acc:List (TopS×Value)) (K2:Know),k≤n∧iv=I O k∧Hid (acc.length=k)∧Hid (InS.topsN (n - k) (acc.map (·.1)) i2=(l,j))∧Hid (K2.has K)∧Hid (∀x∈acc,K2.has (Know.flat RI x.2 1 x.1.parts))∧St W0 wr K2 (.row lv 173 2 acc.length (acc.flatMap tcells)::.inp p i2::L)) (fun _ _ iv _=>n - (intOf iv).toNat)
 case atStart=>exact⟨0,c,[],K,Jd _,rfl,hQd rfl,hQd HX.out,hQd (Know.has_refl _),hQd (fun x hx=>by cases hx),H.out.nilRow 173 2⟩
 case round=>
  obtain⟨k,i2,acc,K2,hk,rfl,HAL,HP,HKK,HALL,hst⟩:=hrel;clear H;have H:=hQd hst;clear hst
  by_cases hlt:k<n
  · obtain⟨⟨nm,i3⟩,hi3⟩:∃r,i2.text=r:=⟨_,rfl⟩;obtain⟨⟨ps,i4⟩,hi4⟩:∃r,i3.parts=r:=⟨_,rfl⟩;obtain⟨er,her⟩:=eX i4.err;have HT:=hQd hi3;have HPS:=hQd hi4;have HER:=hQd her
    have hstep:(if er=0 then InS.topsN (n - (k+1)) (acc.map (·.1)++[⟨nm,ps⟩]) i4 else([],i4))=(l,j):=by
      have h1:=HP.out;rw[show n - k=(n - (k+1))+1 by omega]at h1;have h2:(if i2.text.2.parts.2.err=0 then InS.topsN (n - (k+1)) (acc.map (·.1)++[⟨i2.text.1,i2.text.2.parts.1⟩]) i2.text.2.parts.2 else([],i2.text.2.parts.2))=(l,j):=h1;rw[hi3]at h2;simp only at h2;rw[hi4]at h2;simp only at h2;rw[her]at h2;exact h2
    have HAB:=hQd (show acc.length≤2147483647 by have:=HAL.out;have:=HNL.out;omega);have hkn:(k:Int)<(n:Int):=by omega
    clear hi3 hi4 her
    by_cases he0:er=0
    · as_aux_lemma=>
      rw[if_pos he0]at hstep;have HP2:=hQd hstep;subst he0;clear hstep
      go_wp2_with (first
  |(go_at_call 87;(with_reducible refine(zDJ p i2 i3 nm HT.out H.out.p1).zM ?_);clear H;intro wn H)
  |(go_at_call 203;(with_reducible refine(zJW p i3 i4 ps HPS.out H.out).mono ?_);rintro e_ wn ⟨pv,rfl,h⟩;obtain⟨qx,capx,hpv⟩:=zAr (Know.has_right (Know.has_refl _)) h;subst hpv;have h:=h.p1;replace H:=hQd h;clear h)
  |(at_builtin;refine zAz rfl _ _ 28 rfl 173 Tryz.underlying28 zNL _ _ _ rfl H.out [Z (bb nm),V qx ps.length capx] 173 rfl rfl (by simp[Value.oneCell']) zq35 (by have:=HAB.out;omega) ?_;intro v' w' h;have h:=h.p1;replace H:=hQd h;clear h)
  |(go_at_call 22;(with_reducible refine(zCx p i4 0 HER.out H.out).mono ?_);rintro e_ wn ⟨rfl,h⟩;have h:=h.p1;replace H:=hQd h;clear h))
      go_roundw
      case rel=>exact⟨k+1,i4,acc++[((⟨nm,ps⟩:TopS),V qx ps.length capx)],K2.and (Know.flat RI (V qx ps.length capx) 1 ps),hlt,by go_num,hQd zq44,hQd (by rw[List.map_append];exact HP2.out),hQd (Know.has_trans (Know.has_left (Know.has_refl _)) HKK.out),hQd (fun x hx=>by
       rcases List.mem_append.1 hx with hx|hx
       · exact Know.has_left (HALL.out x hx)
       · rw[List.mem_singleton.1 hx];exact Know.has_right (Know.has_refl _)),by rw[Jc,List.flatMap_append];exact H.out⟩
      case measure=>first|(simp[intOf];done)|(simp[intOf];omega)
    · as_aux_lemma=>
      rw[if_neg he0]at hstep;simp only[Prod.mk.injEq]at hstep;obtain⟨rfl,rfl⟩:=hstep;have gz:(er==0)=false:=by rw[beq_eq_false_iff_ne];exact he0
      have gz3:(er !=0)=true:=by simp[bne,gz]
      clear he0
      go_wp2_with (first
  |(go_at_call 87;(with_reducible refine(zDJ p i2 i3 nm HT.out H.out.p1).zM ?_);clear H;intro wn H)
  |(go_at_call 203;(with_reducible refine(zJW p i3 _ ps HPS.out H.out).mono ?_);rintro e_ wn ⟨pv,rfl,h⟩;obtain⟨qx,capx,hpv⟩:=zAr (Know.has_right (Know.has_refl _)) h;subst hpv;have h:=h.p1;replace H:=hQd h;clear h)
  |(at_builtin;refine zAz rfl _ _ 28 rfl 173 Tryz.underlying28 zNL _ _ _ rfl H.out [Z (bb nm),V qx ps.length capx] 173 rfl rfl (by simp[Value.oneCell']) zq35 (by have:=HAB.out;omega) ?_;intro v' w' h;have h:=h.p1;replace H:=hQd h;clear h)
  |(go_at_call 22;(with_reducible refine(zCx p _ er HER.out H.out).zM ?_);clear H;intro wn H))
      go_ret;exact⟨_,[],rfl,rfl,(H.out.p1.drop).know (Know.has_trans (Know.has_left HKK.out) (zNd K))⟩
  · obtain rfl:k=n:=by omega
    have hp:=HP.out;rw[Nat.sub_self]at hp;have hp:(acc.map (·.1),i2)=(l,j):=hp;simp only[Prod.mk.injEq]at hp;obtain⟨rfl,rfl⟩:=hp;go_wp2;go_ret;have hf:=H.out.freezeRow (R:=RTop) (fun x _=>⟨rfl,rfl⟩);have hf2:=hf.know (K':=K.and (Know.tops _ acc)) (fun w F hh=>⟨HKK.out _ _ hh.1,hh.2,fun y hy=>HALL.out y hy _ _ hh.1⟩)
    first|exact⟨_,acc,rfl,rfl,hf2⟩|exact⟨_,rfl,acc,rfl,hf2⟩
variable {W0 w:World}{K:Know}{L:List Res}
def zBQ:List Value:=[I O 0,Z ⟨#[112,114,111,100,117,99,101]⟩,I O 3,I O 4,I O 22,Z ⟨#[98,101,103,105,110]⟩,I O 0,I O 1,I O 24,Z ⟨#[97,100,100]⟩,I O 0,I O 0,I O 26,Z ⟨#[101,110,100]⟩,I O 0,I O 0,I O 27,Z ⟨#[109,97,114,107]⟩,I O 0,I O 1]
def Know.reqs:Know:=⟨fun w F=>F 0∧0<w.heap.size∧∀j u,zBQ[j]? =some u→w.cell? ⟨0,j,Option.none⟩=some u,
 fun _ _ _ h hs hk=>⟨h.1,Nat.lt_of_lt_of_le h.2.1 hs,fun j u hu=>(World.cell?_of_block (a:=⟨0,j,Option.none⟩) (hk 0 h.2.1 h.1)).trans (h.2.2 j u hu)⟩,
 fun _ _ _ h hs=>⟨hs _ h.1,h.2.1,h.2.2⟩⟩
theorem zPI(hk:K.has Know.reqs)(h:St W0 w K L):w.rangeAt 0 0 zBQ:=by
 obtain⟨F,hF,_⟩:=h.get;have hc:=(hk _ _ hF).2.2;intro j v hv;rw[Nat.zero_add];exact hc j v hv
theorem zAC{P:Program}{fn:Func}{p t:Tmp}{ty:TypeId}(h:fn.results= #[.cell p ty,.tmp t])(tmps:Array Value)(w:World)(b:Nat)(cs:List Value)(d:TypeDesc)
 (hp:tmps.getD p undef=Ja (some ⟨b,0,Option.none⟩))(hc:w.rangeAt b 0 cs)(hu:P.underlying ty=some d)(hd:d.isRow=true)(hi:(P.info? ty).map (·.size)=some cs.length):
 (results fn tmps).run P w=.ok (.tuple #[.agg cs.toArray,tmps.getD t undef]) w:=by
 have hp':tmps[p]?.getD undef=Ja (some ⟨b,0,Option.none⟩):=by simpa using hp
 simp[results,h,hp',asAddr,run_loadVar_mid w b 0 ty cs d hc hu hd hi]
theorem St.range{b:Nat}{c:List Value}{T:TypeId}(h:St W0 w K (.raw b c.toArray T::L)):w.rangeAt b 0 c:=by
 intro j v hv;rw[Nat.zero_add,h.rawCell j]
 simpa using hv
def zC5 (kind:Int):Int×Bs×Int×Int×Bool:=if kind=0 then(0,[112,114,111,100,117,99,101],3,4,true)else if kind=22 then(22,[98,101,103,105,110],0,1,true)else if kind=24 then(24,[97,100,100],0,0,true)else if kind=26 then(26,[101,110,100],0,0,true)else if kind=27 then(27,[109,97,114,107],0,1,true)else(0,[],0,0,false)
def zCB:List Int:=[0,22,24,26,27]
theorem zOg(kind:Int)(h:∀k∈zCB,kind≠k):zC5 kind=(0,[],0,0,false):=by
 unfold zC5;have h:=fun k hk=>h k hk
 simp only[zCB,List.mem_cons,List.not_mem_nil,or_false,forall_eq_or_imp,forall_eq]at h;obtain⟨h0,h1,h2,h3,h4⟩:=h;rw[if_neg h0,if_neg h1,if_neg h2,if_neg h3,if_neg h4]
theorem idx0(w:World):(Instr.index 312 (.agg zBQ.toArray) (I O 0)).run Jb w=.ok (.agg #[I O 0,Z ⟨#[112,114,111,100,117,99,101]⟩,I O 3,I O 4]) w:=by kernel_rfl
theorem idx1(w:World):(Instr.index 312 (.agg zBQ.toArray) (I O 1)).run Jb w=.ok (.agg #[I O 22,Z ⟨#[98,101,103,105,110]⟩,I O 0,I O 1]) w:=by kernel_rfl
theorem idx2(w:World):(Instr.index 312 (.agg zBQ.toArray) (I O 2)).run Jb w=.ok (.agg #[I O 24,Z ⟨#[97,100,100]⟩,I O 0,I O 0]) w:=by kernel_rfl
theorem idx3(w:World):(Instr.index 312 (.agg zBQ.toArray) (I O 3)).run Jb w=.ok (.agg #[I O 26,Z ⟨#[101,110,100]⟩,I O 0,I O 0]) w:=by kernel_rfl
theorem idx4(w:World):(Instr.index 312 (.agg zBQ.toArray) (I O 4)).run Jb w=.ok (.agg #[I O 27,Z ⟨#[109,97,114,107]⟩,I O 0,I O 1]) w:=by kernel_rfl
theorem zFK(kind:Int)(a:Int)(nm:Bs)(lo hi:Int)(ok:Bool)(hx:zC5 kind=(a,nm,lo,hi,ok))(hk:K.has Know.reqs)(h:St W0 w K L):
  Calls Jb 172 #[I O kind] w fun en w'=>en=Y (.tuple #[.agg #[I O a,Z (bb nm),I O lo,I O hi],U ok])∧St W0 w' K L:=by
 have HX:=hQd hx;have HK:=hQd hk;have h1:=h.allocRaw #[I O 0,Z ⟨#[]⟩,I O 0,I O 0] 262;obtain⟨rb,hrb⟩:=eX w.heap.size;rw[hrb]at h1;have HR:=hQd (zPI hk h1);have H:=hQd h1;clear h h1 hx hk;go_enter Tryz.func172,Tryz.ntmps172;go_wp2_with (refine wpList_load_mid rfl 312 (.global 0) rfl 0 0 rfl zBQ _ HR.out Tryz.underlying312 rfl kR ?_);clear HR;go_loopw [5,7] (fun _ iv wr=>∃k:Nat,k≤5∧iv=I O k∧Hid (∀x∈zCB.take k,kind≠x)∧St W0 wr K (.raw rb #[I O 0,Z ⟨#[]⟩,I O 0,I O 0] 262::L)) (fun _ iv _=>5 - (intOf iv).toNat)
 case atStart=>exact⟨0,dD,rfl,hQd sM,H.out⟩
 case round=>
  obtain⟨k,hk,rfl,HNO,hst⟩:=hrel;clear H;have H:=hQd hst;clear hst
  rcases(by omega:k=0∨k=1∨k=2∨k=3∨k=4∨k=5)with rfl|rfl|rfl|rfl|rfl|rfl
  · have i0:=idx0;have h2:=H.out.allocRaw #[I O 0,Z ⟨#[112,114,111,100,117,99,101]⟩,I O 3,I O 4] 262;obtain⟨xb,hxb⟩:=eX wr.heap.size;rw[hxb]at h2;obtain⟨x0,x1,x2,x3⟩:=uR4 h2;simp at x0 x1 x2 x3;obtain⟨p0,p1,p2,p3⟩:=uR4 h2.p1;obtain⟨q0,q1,q2,q3⟩:=uS4 h2.p1;simp at p0 p1 p2 p3;clear H;have H:=hQd h2;clear h2
    by_cases hkd:kind=0
    · have HE:=HX.out;subst hkd;have e:zC5 0=(0,[112,114,111,100,117,99,101],3,4,true):=by decide
      rw[e]at HE;simp only[Prod.mk.injEq]at HE;obtain⟨rfl,rfl,rfl,rfl,rfl⟩:=HE;go_wp2;have hz:St W0 _ K (.raw rb #[I O 0,Z ⟨#[112,114,111,100,117,99,101]⟩,I O 3,I O 4] 262::_):=((((H.out.p1.rawSet 0 _).rawSet 1 _).rawSet 2 _).rawSet 3 _);refine bodyPost_ret (zAC rfl _ _ rb [I O 0,Z ⟨#[112,114,111,100,117,99,101]⟩,I O 3,I O 4] _ rfl (St.range hz) Tryz.underlying262 rfl kR) rfl ?_;exact⟨rfl,hz.drop.drop⟩
    · have hkf:((0:Int)==kind)=false:=by rw[beq_eq_false_iff_ne];exact fun h=>hkd h.symm
      have HNO2:=hQd (show ∀x∈zCB.take (0+1),kind≠x by
       intro x hx;rw[Jf dD]at hx
       rcases List.mem_append.1 hx with hx|hx
       · exact HNO.out x hx
       · simp[zCB]at hx;subst hx;exact hkd)
      clear hkd;go_wp2;go_roundw
      case rel=>exact⟨1,dD,rfl,HNO2,H.out.drop⟩
      case measure=>first|(simp[intOf];done)|(simp[intOf];omega)
  · have i1:=idx1;have h2:=H.out.allocRaw #[I O 22,Z ⟨#[98,101,103,105,110]⟩,I O 0,I O 1] 262;obtain⟨xb,hxb⟩:=eX wr.heap.size;rw[hxb]at h2;obtain⟨x0,x1,x2,x3⟩:=uR4 h2;simp at x0 x1 x2 x3;obtain⟨p0,p1,p2,p3⟩:=uR4 h2.p1;obtain⟨q0,q1,q2,q3⟩:=uS4 h2.p1;simp at p0 p1 p2 p3;clear H;have H:=hQd h2;clear h2
    by_cases hkd:kind=22
    · have HE:=HX.out;subst hkd;have e:zC5 22=(22,[98,101,103,105,110],0,1,true):=by decide
      rw[e]at HE;simp only[Prod.mk.injEq]at HE;obtain⟨rfl,rfl,rfl,rfl,rfl⟩:=HE;go_wp2;have hz:St W0 _ K (.raw rb #[I O 22,Z ⟨#[98,101,103,105,110]⟩,I O 0,I O 1] 262::_):=((((H.out.p1.rawSet 0 _).rawSet 1 _).rawSet 2 _).rawSet 3 _);refine bodyPost_ret (zAC rfl _ _ rb [I O 22,Z ⟨#[98,101,103,105,110]⟩,I O 0,I O 1] _ rfl (St.range hz) Tryz.underlying262 rfl kR) rfl ?_;exact⟨rfl,hz.drop.drop⟩
    · have hkf:((22:Int)==kind)=false:=by rw[beq_eq_false_iff_ne];exact fun h=>hkd h.symm
      have HNO2:=hQd (show ∀x∈zCB.take (1+1),kind≠x by
       intro x hx;rw[Jf dD]at hx
       rcases List.mem_append.1 hx with hx|hx
       · exact HNO.out x hx
       · simp[zCB]at hx;subst hx;exact hkd)
      clear hkd;go_wp2;go_roundw
      case rel=>exact⟨2,dD,rfl,HNO2,H.out.drop⟩
      case measure=>first|(simp[intOf];done)|(simp[intOf];omega)
  · have i2:=idx2;have h2:=H.out.allocRaw #[I O 24,Z ⟨#[97,100,100]⟩,I O 0,I O 0] 262;obtain⟨xb,hxb⟩:=eX wr.heap.size;rw[hxb]at h2;obtain⟨x0,x1,x2,x3⟩:=uR4 h2;simp at x0 x1 x2 x3;obtain⟨p0,p1,p2,p3⟩:=uR4 h2.p1;obtain⟨q0,q1,q2,q3⟩:=uS4 h2.p1;simp at p0 p1 p2 p3;clear H;have H:=hQd h2;clear h2
    by_cases hkd:kind=24
    · have HE:=HX.out;subst hkd;have e:zC5 24=(24,[97,100,100],0,0,true):=by decide
      rw[e]at HE;simp only[Prod.mk.injEq]at HE;obtain⟨rfl,rfl,rfl,rfl,rfl⟩:=HE;go_wp2;have hz:St W0 _ K (.raw rb #[I O 24,Z ⟨#[97,100,100]⟩,I O 0,I O 0] 262::_):=((((H.out.p1.rawSet 0 _).rawSet 1 _).rawSet 2 _).rawSet 3 _);refine bodyPost_ret (zAC rfl _ _ rb [I O 24,Z ⟨#[97,100,100]⟩,I O 0,I O 0] _ rfl (St.range hz) Tryz.underlying262 rfl kR) rfl ?_;exact⟨rfl,hz.drop.drop⟩
    · have hkf:((24:Int)==kind)=false:=by rw[beq_eq_false_iff_ne];exact fun h=>hkd h.symm
      have HNO2:=hQd (show ∀x∈zCB.take (2+1),kind≠x by
       intro x hx;rw[Jf dD]at hx
       rcases List.mem_append.1 hx with hx|hx
       · exact HNO.out x hx
       · simp[zCB]at hx;subst hx;exact hkd)
      clear hkd;go_wp2;go_roundw
      case rel=>exact⟨3,dD,rfl,HNO2,H.out.drop⟩
      case measure=>first|(simp[intOf];done)|(simp[intOf];omega)
  · have i3:=idx3;have h2:=H.out.allocRaw #[I O 26,Z ⟨#[101,110,100]⟩,I O 0,I O 0] 262;obtain⟨xb,hxb⟩:=eX wr.heap.size;rw[hxb]at h2;obtain⟨x0,x1,x2,x3⟩:=uR4 h2;simp at x0 x1 x2 x3;obtain⟨p0,p1,p2,p3⟩:=uR4 h2.p1;obtain⟨q0,q1,q2,q3⟩:=uS4 h2.p1;simp at p0 p1 p2 p3;clear H;have H:=hQd h2;clear h2
    by_cases hkd:kind=26
    · have HE:=HX.out;subst hkd;have e:zC5 26=(26,[101,110,100],0,0,true):=by decide
      rw[e]at HE;simp only[Prod.mk.injEq]at HE;obtain⟨rfl,rfl,rfl,rfl,rfl⟩:=HE;go_wp2;have hz:St W0 _ K (.raw rb #[I O 26,Z ⟨#[101,110,100]⟩,I O 0,I O 0] 262::_):=((((H.out.p1.rawSet 0 _).rawSet 1 _).rawSet 2 _).rawSet 3 _);refine bodyPost_ret (zAC rfl _ _ rb [I O 26,Z ⟨#[101,110,100]⟩,I O 0,I O 0] _ rfl (St.range hz) Tryz.underlying262 rfl kR) rfl ?_;exact⟨rfl,hz.drop.drop⟩
    · have hkf:((26:Int)==kind)=false:=by rw[beq_eq_false_iff_ne];exact fun h=>hkd h.symm
      have HNO2:=hQd (show ∀x∈zCB.take (3+1),kind≠x by
       intro x hx;rw[Jf dD]at hx
       rcases List.mem_append.1 hx with hx|hx
       · exact HNO.out x hx
       · simp[zCB]at hx;subst hx;exact hkd)
      clear hkd;go_wp2;go_roundw
      case rel=>exact⟨4,dD,rfl,HNO2,H.out.drop⟩
      case measure=>first|(simp[intOf];done)|(simp[intOf];omega)
  · have i4:=idx4;have h2:=H.out.allocRaw #[I O 27,Z ⟨#[109,97,114,107]⟩,I O 0,I O 1] 262;obtain⟨xb,hxb⟩:=eX wr.heap.size;rw[hxb]at h2;obtain⟨x0,x1,x2,x3⟩:=uR4 h2;simp at x0 x1 x2 x3;obtain⟨p0,p1,p2,p3⟩:=uR4 h2.p1;obtain⟨q0,q1,q2,q3⟩:=uS4 h2.p1;simp at p0 p1 p2 p3;clear H;have H:=hQd h2;clear h2
    by_cases hkd:kind=27
    · have HE:=HX.out;subst hkd;have e:zC5 27=(27,[109,97,114,107],0,1,true):=by decide
      rw[e]at HE;simp only[Prod.mk.injEq]at HE;obtain⟨rfl,rfl,rfl,rfl,rfl⟩:=HE;go_wp2;have hz:St W0 _ K (.raw rb #[I O 27,Z ⟨#[109,97,114,107]⟩,I O 0,I O 1] 262::_):=((((H.out.p1.rawSet 0 _).rawSet 1 _).rawSet 2 _).rawSet 3 _);refine bodyPost_ret (zAC rfl _ _ rb [I O 27,Z ⟨#[109,97,114,107]⟩,I O 0,I O 1] _ rfl (St.range hz) Tryz.underlying262 rfl kR) rfl ?_;exact⟨rfl,hz.drop.drop⟩
    · have hkf:((27:Int)==kind)=false:=by rw[beq_eq_false_iff_ne];exact fun h=>hkd h.symm
      have HNO2:=hQd (show ∀x∈zCB.take (4+1),kind≠x by
       intro x hx;rw[Jf dD]at hx
       rcases List.mem_append.1 hx with hx|hx
       · exact HNO.out x hx
       · simp[zCB]at hx;subst hx;exact hkd)
      clear hkd;go_wp2;go_roundw
      case rel=>exact⟨5,dD,rfl,HNO2,H.out.drop⟩
      case measure=>first|(simp[intOf];done)|(simp[intOf];omega)
  · obtain⟨e1,e2,e3,e4,e5⟩:a=0∧nm=[]∧lo=0∧hi=0∧ok=false:=by
      have:=HX.out;rw[zOg kind HNO.out]at this;simp at this;obtain⟨rfl,rfl,rfl,rfl,rfl⟩:=this;exact⟨rfl,rfl,rfl,rfl,rfl⟩
    subst e1 e2 e3 e4 e5;have cz:True:=trivial;obtain⟨p0,p1,p2,p3⟩:=uR4 H.out;obtain⟨q0,q1,q2,q3⟩:=uS4 H.out;simp at p0 p1 p2 p3;go_wp2
    try simp only[Exit.inBlock,Exit.then]
    have hz:St W0 _ K (.raw rb #[I O 0,Z ⟨#[]⟩,I O 0,I O 0] 262::_):=((((H.out.rawSet 0 _).rawSet 1 _).rawSet 2 _).rawSet 3 _);refine bodyPost_ret (zAC rfl _ _ rb [I O 0,Z ⟨#[]⟩,I O 0,I O 0] _ rfl (St.range hz) Tryz.underlying262 rfl kR) rfl ?_;exact⟨rfl,hz.drop⟩
def setF:Array Value→Nat→List Value→Array Value
 |c,_,[]=>c
 |c,o,v::r=>setF (c.setIfInBounds o v) (o+1) r
theorem St.setFrom{W0:World}{K:Know}{L:List Res}{b:Nat}{T:TypeId}:∀(cs:List Value) (o:Nat) (c:Array Value) (w:World),St W0 w K (.raw b c T::L)→St W0 (w.setCells b o cs) K (.raw b (setF c o cs) T::L)
 |[],_,_,_,h=>h
 |v::r,o,_,_,h=>St.setFrom r (o+1) _ _ (h.rawSet o v)
theorem zKd:∀(cs:List Value) (o:Nat) (c:Array Value),o+cs.length≤c.size→(setF c o cs).toList=c.toList.take o++cs++c.toList.drop (o+cs.length)
 |[],o,c,h=>by
  unfold setF;rw[Jp,List.length_nil,Nat.add_zero,List.take_append_drop]
 |v::r,o,c,h=>by
  rw[Jn]at h;have e:=zKd r (o+1) (c.setIfInBounds o v) (by rw[Array.size_setIfInBounds];omega);unfold setF;rw[e,Array.toList_setIfInBounds,Jn];have hl:o<c.toList.length:=by rw[Array.length_toList];omega
  have e1:(c.toList.set o v).take (o+1)=c.toList.take o++[v]:=by
   rw[Jf (by rw[List.length_set];exact hl),List.getElem_set_self,List.take_set_of_le (Nat.le_refl _)]
  have e2:(c.toList.set o v).drop (o+1+r.length)=c.toList.drop (o+(r.length+1)):=by
   rw[List.drop_set_of_lt oM]
   congr 1
   omega
  rw[e1,e2]
  simp
theorem St.setAll{b:Nat}{c:Array Value}{T:TypeId}(h:St W0 w K (.raw b c T::L))(cs:List Value)(hl:cs.length=c.size):St W0 (w.setCells b 0 cs) K (.raw b cs.toArray T::L):=by
 have h2:=St.setFrom cs 0 c w h
 have e:setF c 0 cs=cs.toArray:=by
  apply Array.toList_inj.1
  rw[zKd cs 0 c oM,List.take_zero,List.nil_append,Nat.zero_add,hl];rw[show c.size=c.toList.length from(Array.length_toList).symm,List.drop_length,Jp]
 rwa [e]at h2
theorem St.there_raw{b n:Nat}{c:Array Value}{T:TypeId}(h:St W0 w K (.raw b c T::L))(hn:n=c.size):w.there b 0 n:=fun j hj=>by
 rw[hn]at hj;rw[Nat.zero_add];refine⟨?_,h.rawFree j⟩;rw[h.rawCell j,Array.getElem?_eq_getElem hj]
 rfl
theorem zAd{P:Program}{ops:Array Oper}{rest:List Oper}{op:Oper}{a:Act}{w W0:World}{Q:Exit→Act→World→Prop}{K:Know}{L:List Res}{c:Array Value}{T:TypeId}(hgd:op.guard=none)(ty:TypeId)(x y:Operand)(ho:op.op=.store ty x y)(b:Nat)(cells:Array Value)(hx:a.eval x=Ja (some ⟨b,0,none⟩))(hy:a.eval y=.agg cells)(hst:St W0 w K (.raw b c T::L))(hn:cells.size=c.size)(hi:(P.info? ty).map (·.size)=some cells.size)(h1:cells.all (fun z=>z.oneCell')=true)(h:∀w',St W0 w' K (.raw b cells T::L)→wpList P ops Q rest (a.put op.dst undef) w'):wpList P ops Q (op::rest) a w:=
 wpList_store_mid hgd ty x y ho b 0 cells hx hy (St.there_raw hst hn) hi h1 (h _ (by
  have:=hst.setAll cells.toList (by rw[Array.length_toList];exact hn)
  rwa [Array.toArray_toList]at this))
theorem zBP{P:Program}{ops:Array Oper}{rest:List Oper}{op:Oper}{a:Act}{w W0:World}{Q:Exit→Act→World→Prop}{K:Know}{L:List Res}{c:Array Value}{T:TypeId}(hgd:op.guard=none)(ty:TypeId)(x y:Operand)(ho:op.op=.store ty x y)(b o:Nat)(cells c':Array Value)(hx:a.eval x=Ja (some ⟨b,o,none⟩))(hy:a.eval y=.agg cells)(hst:St W0 w K (.raw b c T::L))(hn:o+cells.size≤c.size)(hc:setF c o cells.toList=c')(hi:(P.info? ty).map (·.size)=some cells.size)(h1:cells.all (fun z=>z.oneCell')=true)(h:∀w',St W0 w' K (.raw b c' T::L)→wpList P ops Q rest (a.put op.dst undef) w'):wpList P ops Q (op::rest) a w:=
 wpList_store_mid hgd ty x y ho b o cells hx hy (fun j hj=>by
  refine⟨?_,hst.rawFree (o+j)⟩;rw[hst.rawCell (o+j),Array.getElem?_eq_getElem oM]
  rfl) hi h1 (h _ (by
  have:=St.setFrom cells.toList o c w hst
  rwa [hc]at this))
def zAy (kind v:Int):Int:=if (zC5 kind).2.2.2.2 then(if v<(zC5 kind).2.2.1∨(zC5 kind).2.2.2.1<v then 7 else 0)else 12
theorem zB7(kind v:Int)(q:Int)(hq:zAy kind v=q){W0 w:World}{K:Know}{L:List Res}(hk:K.has Know.reqs)(h:St W0 w K L):
 Calls Jb 116 #[I O kind,I O v] w fun en w'=>en=Y (I O q)∧St W0 w' K L:=by
 obtain⟨⟨a,nm,lo,hi,ok⟩,hx⟩:∃p,zC5 kind=p:=⟨_,rfl⟩;have HX:=hQd hx;have HK:=hQd hk;have H:=hQd h;clear h hk;unfold zAy at hq;rw[hx]at hq;simp only at hq;clear hx
 cases ok with
 |false=>
  obtain rfl:(12:Int)=q:=hq;go_enter Tryz.func116,Tryz.ntmps116;go_wp2_with (go_at_call 172;(with_reducible refine(zFK kind a nm lo hi _ HX.out HK.out H.out).mono ?_);rintro e wn ⟨rfl,h⟩;have h:=h.allocRaw #[I O a,Z (bb nm),I O lo,I O hi] 262;obtain⟨rb,hrb⟩:=eX wn.heap.size;rw[hrb]at h;obtain⟨x0,x1,x2,x3⟩:=uR4 h;simp at x0 x1 x2 x3;replace H:=hQd h;clear h);go_ret;exact⟨rfl,H.out.drop⟩
 |true=>
  by_cases h1:v<lo
  ·obtain rfl:(7:Int)=q:=by rw[if_pos rfl,if_pos (.inl h1)]at hq;exact hq
   clear hq;have d1:decide (v<lo)=true:=decide_eq_true h1;go_enter Tryz.func116,Tryz.ntmps116;go_wp2_with (go_at_call 172;(with_reducible refine(zFK kind a nm lo hi _ HX.out HK.out H.out).mono ?_);rintro e wn ⟨rfl,h⟩;have h:=h.allocRaw #[I O a,Z (bb nm),I O lo,I O hi] 262;obtain⟨rb,hrb⟩:=eX wn.heap.size;rw[hrb]at h;obtain⟨x0,x1,x2,x3⟩:=uR4 h;simp at x0 x1 x2 x3;replace H:=hQd h;clear h);go_ret;exact⟨rfl,H.out.drop⟩
  ·by_cases h2:hi<v
   ·obtain rfl:(7:Int)=q:=by rw[if_pos rfl,if_pos (.inr h2)]at hq;exact hq
    clear hq;have d1:decide (v<lo)=false:=decide_eq_false h1;have d2:decide (hi<v)=true:=decide_eq_true h2;go_enter Tryz.func116,Tryz.ntmps116;go_wp2_with (go_at_call 172;(with_reducible refine(zFK kind a nm lo hi _ HX.out HK.out H.out).mono ?_);rintro e wn ⟨rfl,h⟩;have h:=h.allocRaw #[I O a,Z (bb nm),I O lo,I O hi] 262;obtain⟨rb,hrb⟩:=eX wn.heap.size;rw[hrb]at h;obtain⟨x0,x1,x2,x3⟩:=uR4 h;simp at x0 x1 x2 x3;replace H:=hQd h;clear h);go_ret;exact⟨rfl,H.out.drop⟩
   ·obtain rfl:(0:Int)=q:=by rw[if_pos rfl,if_neg oM]at hq;exact hq
    clear hq;have d1:decide (v<lo)=false:=decide_eq_false h1;have d2:decide (hi<v)=false:=decide_eq_false h2;go_enter Tryz.func116,Tryz.ntmps116;go_wp2_with (go_at_call 172;(with_reducible refine(zFK kind a nm lo hi _ HX.out HK.out H.out).mono ?_);rintro e wn ⟨rfl,h⟩;have h:=h.allocRaw #[I O a,Z (bb nm),I O lo,I O hi] 262;obtain⟨rb,hrb⟩:=eX wn.heap.size;rw[hrb]at h;obtain⟨x0,x1,x2,x3⟩:=uR4 h;simp at x0 x1 x2 x3;replace H:=hQd h;clear h);go_ret;exact⟨rfl,H.out.drop⟩
structure HeadS where
 kind:Int
 ver:Int
 num:Int
 cli:BlobS
deriving DecidableEq
def HeadS.z:HeadS:=⟨0,0,0,⟨false,[]⟩⟩
def HeadS.R (h:HeadS):Prop:=(-9223372036854775808≤h.kind∧h.kind<9223372036854775808)∧(-9223372036854775808≤h.ver∧h.ver<9223372036854775808)∧(-9223372036854775808≤h.num∧h.num<9223372036854775808)
def zAq (h:HeadS):Int:=if zAy h.kind h.ver≠0 then zAy h.kind h.ver else if ¬fits h.num 4 then 11 else if h.cli.right=false∨32767<h.cli.data.length then 4 else 0
def zAl (h:HeadS):Bs:=zAa h.kind 2++(zAa h.ver 2++(zAa h.num 4++encF 2 h.cli))
def OutS.head (o:OutS) (h:HeadS):OutS:=if zAq h≠0 then o.fail (zAq h)else(((o.int h.kind 2).int h.ver 2).int h.num 4).putFixed h.cli 2
theorem zCh(k v:Int)(h:zAy k v=0):(0≤k∧k≤27)∧(0≤v∧v≤4):=by
 unfold zAy zC5 at h
 repeat' split at h
 all_goals first
  |(simp at h;done)
  |(simp at*;done)
  |(simp at*;omega)
theorem zBL(n:Int)(h:0≤n∧n≤27):fits n 2:=by
 have h2:half 2=32768:=by decide
 refine⟨dD,dD,?_,?_⟩<;>simp[h2]<;>omega
theorem zq21{p:Prop}(h:p:=by
 have h2:half 2=32768:=by decide
 unfold BlobS.len;refine⟨dD,dD,?_,?_⟩<;>simp[h2]<;>split<;>omega):p:=h
theorem zBe(h:HeadS)(hh:zAq h=0):(⟨[],0⟩:OutS).head h=⟨zAl h,0⟩∧zAy h.kind h.ver=0∧fits h.num 4∧h.cli.right=true∧h.cli.data.length≤32767:=by
 have e:=hh;unfold zAq at e
 by_cases h1:zAy h.kind h.ver=0
 ·rw[if_neg (fun x=>x h1)]at e
  by_cases h2:fits h.num 4
  ·rw[if_neg (fun x=>x h2)]at e
   by_cases h3:h.cli.right=false∨32767<h.cli.data.length
   ·rw[if_pos h3]at e;cases e
   ·have hr:h.cli.right=true:=by cases hx:h.cli.right with
     |false=>exact absurd (.inl hx) h3
     |true=>rfl
    have hl:h.cli.data.length≤32767:=by omega
    refine⟨?_,h1,h2,hr,hl⟩;obtain⟨s1,s2⟩:=zCh _ _ h1
    have hb:fits h.cli.len 2:=by
     exact zq21
    unfold OutS.head OutS.putFixed OutS.int OutS.putData;rw[if_neg (fun x=>x hh),if_pos (zBL _ s1),if_pos (zBL _ ⟨s2.1,oM⟩),if_pos h2,if_pos hb,hr];simp[OutS.put,zAl,encF,Je]
  ·rw[if_pos h2]at e;cases e
 ·rw[if_pos h1]at e;exact absurd e h1
theorem zNA(h:HeadS)(hh:zAq h≠0):(⟨[],0⟩:OutS).head h=⟨[],zAq h⟩:=by
 unfold OutS.head;rw[if_pos hh]
 rfl
def zME (i:InS):Int×InS:=i.int 2
def zJl (i:InS):Int×InS:=(zME i).2.int 2
def zQq (i:InS):Int:=zAy (zME i).1 (zJl i).1
def zR6 (i:InS):InS:=if zQq i=0 then(zJl i).2 else(zJl i).2.fail (zQq i)
def zOE (i:InS):Int×InS:=(zR6 i).int 4
def zJk (i:InS):BlobS×InS:=(zOE i).2.fixed 2
def InS.head (i:InS):HeadS×InS:=(if (zJk i).2.err=0 then⟨(zME i).1,(zJl i).1,(zOE i).1,(zJk i).1⟩else HeadS.z,(zJk i).2)
def zKD (s:Bs):Except Int (HeadS×Nat):=
 if s.length<4 then .error 1
 else if zAy (sInt (s.take 2)) (sInt ((s.drop 2).take 2))≠0 then .error (zAy (sInt (s.take 2)) (sInt ((s.drop 2).take 2)))
 else if s.length<8 then .error 1
 else match zAI 2 (s.drop 8)with
  | .error e=> .error e
  | .ok x=> .ok (⟨sInt (s.take 2),sInt ((s.drop 2).take 2),sInt ((s.drop 4).take 4),x.1⟩,8+x.2)
theorem zMK{i:InS}(h:i.err≠0)(e:Int):i.fail e=i:=if_neg h
theorem zJj(i:InS)(a b:Int)(iA iB iC:InS)(hA:i.int 2=(a,iA))(hB:iA.int 2=(b,iB))(hC:(if zAy a b=0 then iB else iB.fail (zAy a b))=iC):
 InS.head i=(if ((iC.int 4).2.fixed 2).2.err=0 then⟨a,b,(iC.int 4).1,((iC.int 4).2.fixed 2).1⟩else HeadS.z,((iC.int 4).2.fixed 2).2):=by
 have e1:zME i=(a,iA):=hA;have e2:zJl i=(b,iB):=by unfold zJl;rw[e1];exact hB
 have e3:zQq i=zAy a b:=by unfold zQq;rw[e1,e2]
 have e4:zR6 i=iC:=by unfold zR6;rw[e2,e3];exact hC
 unfold InS.head zJk zOE;rw[e1,e2,e4]
theorem zCU(i:InS)(a b:Int)(iA iB iC:InS)(hA:i.int 2=(a,iA))(hB:iA.int 2=(b,iB))(hC:(if zAy a b=0 then iB else iB.fail (zAy a b))=iC)(he:iC.err≠0):InS.head i=(HeadS.z,iC):=by
 have h4:iC.int 4=(0,iC):=(zAW 4 dD dD).stuck iC he;have h5:iC.fixed 2=(⟨false,[]⟩,iC):=(zAN 2 dD dD).stuck iC he;rw[zJj i a b iA iB iC hA hB hC,h4];simp only;rw[h5,if_neg he]
theorem zRG:Rds InS.head zKD HeadS.z:=by
 have r2:=zAW 2 dD dD;have r4:=zAW 4 dD dD;have rf:=zAN 2 dD dD
 have g2:∀(s:Bs) (pos:Nat),pos+2≤s.length→(⟨s,pos,0⟩:InS).int 2=(sInt ((s.drop pos).take 2),⟨s,pos+2,0⟩):=by
  intro s pos hp;exact(r2.ok s pos _ 2 oM (if_neg (by rw[Jh];omega))).2
 have g4:∀(s:Bs) (pos:Nat),pos+4≤s.length→(⟨s,pos,0⟩:InS).int 4=(sInt ((s.drop pos).take 4),⟨s,pos+4,0⟩):=by
  intro s pos hp;exact(r4.ok s pos _ 4 oM (if_neg (by rw[Jh];omega))).2
 have g2e:∀(s:Bs) (pos:Nat),pos≤s.length→s.length<pos+2→∃q,q≤s.length∧(⟨s,pos,0⟩:InS).int 2=(0,⟨s,q,1⟩):=by
  intro s pos hp hl;exact(r2.err s pos 1 hp (if_pos (by rw[Jh];omega))).2
 have g4e:∀(s:Bs) (pos:Nat),pos≤s.length→s.length<pos+4→∃q,q≤s.length∧(⟨s,pos,0⟩:InS).int 4=(0,⟨s,q,1⟩):=by
  intro s pos hp hl;exact(r4.err s pos 1 hp (if_pos (by rw[Jh];omega))).2
 refine⟨?_,?_,?_⟩
 ·intro s pos a k hp h;unfold zKD at h;rw[Jh,Jk,Jk,Jk]at h
  by_cases h1:s.length - pos<4
  ·rw[if_pos h1]at h;cases h
  rw[if_neg h1]at h
  by_cases h2:zAy (sInt ((s.drop pos).take 2)) (sInt ((s.drop (pos+2)).take 2))=0
  ·rw[if_neg (fun x=>x h2)]at h
   by_cases h3:s.length - pos<8
   ·rw[if_pos h3]at h;cases h
   rw[if_neg h3]at h
   cases hx:zAI 2 (s.drop (pos+8))with
   |error e=>rw[hx]at h;cases h
   |ok x=>
    obtain⟨b,m⟩:=x;rw[hx]at h;simp only[Except.ok.injEq,Prod.mk.injEq]at h;obtain⟨rfl,rfl⟩:=h;obtain⟨q1,q2⟩:=rf.ok s (pos+8) b m oM hx;refine⟨oM,?_⟩;rw[zJj _ _ _ _ _ _ (g2 s pos oM) (g2 s (pos+2) oM) (if_pos h2),g4 s (pos+2+2) oM];have q3:(⟨s,pos+2+2+4,0⟩:InS).fixed 2=(b,⟨s,pos+8+m,0⟩):=q2;simp only;rw[q3];simp only[if_true,Jm]
  ·rw[if_pos h2]at h;cases h
 ·intro s pos e hp h;unfold zKD at h;rw[Jh,Jk,Jk,Jk]at h
  by_cases h1:s.length - pos<4
  ·rw[if_pos h1]at h;obtain rfl:(1:Int)=e:=by simpa using h
   refine⟨dD,?_⟩
   by_cases h0:s.length - pos<2
   ·obtain⟨q,hq,e1⟩:=g2e s pos hp oM;have e2:(⟨s,q,1⟩:InS).int 2=(0,⟨s,q,1⟩):=r2.stuck _ (by show(1:Int)≠0;decide)
    have e3:(if zAy 0 0=0 then(⟨s,q,1⟩:InS)else(⟨s,q,1⟩:InS).fail (zAy 0 0))=⟨s,q,1⟩:=by
     split
     ·rfl
     ·exact zMK (by show(1:Int)≠0;decide) _
    exact⟨q,hq,zCU _ _ _ _ _ _ e1 e2 e3 (by show(1:Int)≠0;decide)⟩
   ·obtain⟨q,hq,e2⟩:=g2e s (pos+2) oM oM
    have e3:∀x:Int,(if zAy x 0=0 then(⟨s,q,1⟩:InS)else(⟨s,q,1⟩:InS).fail (zAy x 0))=⟨s,q,1⟩:=by
     intro x
     split
     ·rfl
     ·exact zMK (by show(1:Int)≠0;decide) _
    exact⟨q,hq,zCU _ _ _ _ _ _ (g2 s pos oM) e2 (e3 _) (by show(1:Int)≠0;decide)⟩
  rw[if_neg h1]at h
  by_cases h2:zAy (sInt ((s.drop pos).take 2)) (sInt ((s.drop (pos+2)).take 2))=0
  ·rw[if_neg (fun x=>x h2)]at h
   by_cases h3:s.length - pos<8
   ·rw[if_pos h3]at h;obtain rfl:(1:Int)=e:=by simpa using h
    refine⟨dD,?_⟩;obtain⟨q,hq,e4⟩:=g4e s (pos+2+2) oM oM;refine⟨q,hq,?_⟩;rw[zJj _ _ _ _ _ _ (g2 s pos oM) (g2 s (pos+2) oM) (if_pos h2),e4];have e5:(⟨s,q,1⟩:InS).fixed 2=(⟨false,[]⟩,⟨s,q,1⟩):=rf.stuck _ (by show(1:Int)≠0;decide);simp only;rw[e5]
    rfl
   rw[if_neg h3]at h
   cases hx:zAI 2 (s.drop (pos+8))with
   |ok x=>rw[hx]at h;cases h
   |error e'=>
    rw[hx]at h;obtain rfl:e'=e:=by simpa using h
    obtain⟨he,q,hq,q2⟩:=rf.err s (pos+8) e' oM hx;refine⟨he,q,hq,?_⟩;rw[zJj _ _ _ _ _ _ (g2 s pos oM) (g2 s (pos+2) oM) (if_pos h2),g4 s (pos+2+2) oM];have q3:(⟨s,pos+2+2+4,0⟩:InS).fixed 2=(⟨false,[]⟩,⟨s,q,e'⟩):=q2;simp only;rw[q3];simp only;rw[if_neg he]
  ·rw[if_pos h2]at h;obtain rfl:zAy (sInt ((s.drop pos).take 2)) (sInt ((s.drop (pos+2)).take 2))=e:=by simpa using h
   refine⟨h2,pos+2+2,oM,?_⟩;exact zCU _ _ _ _ _ _ (g2 s pos oM) (g2 s (pos+2) oM) ((if_neg h2).trans rfl) h2
 ·intro i hi;have e1:i.int 2=(0,i):=r2.stuck i hi
  have e3:(if zAy 0 0=0 then i else i.fail (zAy 0 0))=i:=by
   split
   ·rfl
   ·exact zMK hi _
  exact zCU _ _ _ _ _ _ e1 e1 e3 hi
theorem zMo(h:HeadS)(hh:zAq h=0)(r:Bs):zKD (zAl h++r)=.ok (h,(zAl h).length):=by
 obtain⟨_,h1,h2,h3,h4⟩:=zBe h hh;obtain⟨s1,s2⟩:=zCh _ _ h1
 have f2:∀n:Int,fits n 2→sInt (zAa n 2)=n:=fun n hf=>by
  have hfit:=hf.2.2;exact(zAB n 2 dD).2 hfit
 have f4:∀n:Int,fits n 4→sInt (zAa n 4)=n:=fun n hf=>by
  have hfit:=hf.2.2;exact(zAB n 4 dD).2 hfit
 have e1:=f2 _ (zBL _ s1);have e2:=f2 h.ver (zBL _ ⟨s2.1,oM⟩);have e3:=f4 _ h2
 have hb:fits h.cli.len 2:=by
  exact zq21
 have e4:=zA4 2 h.cli h3 hb r;have l2:∀n:Int,(zAa n 2).length=2:=fun n=>zAb n 2
 have l4:∀n:Int,(zAa n 4).length=4:=fun n=>zAb n 4
 obtain⟨kind,ver,num,cli⟩:=h;simp only at e1 e2 e3 e4 h1;unfold zKD zAl;simp only;generalize hA:zAa kind 2=A at e1 ⊢;generalize hB:zAa ver 2=B at e2 ⊢;generalize hC:zAa num 4=C at e3 ⊢;generalize encF 2 cli=D at e4 ⊢;have la:A.length=2:=by rw[←hA];exact l2 _
 have lb:B.length=2:=by rw[←hB];exact l2 _
 have lc:C.length=4:=by rw[←hC];exact l4 _
 have t1:(A++(B++(C++D))++r).take 2=A:=by
  rw[Je,List.take_append_of_le_length oM,List.take_of_length_le oM]
 have t2:(A++(B++(C++D))++r).drop 2=B++(C++(D++r)):=by
  rw[Je,List.drop_append_of_le_length oM,List.drop_of_length_le oM]
  simp
 have t3:(A++(B++(C++D))++r).drop 4=C++(D++r):=by
  rw[show 4=2+2 from rfl,←Jk,t2,List.drop_append_of_le_length oM,List.drop_of_length_le oM]
  simp
 have t4:(A++(B++(C++D))++r).drop 8=D++r:=by
  rw[show 8=4+4 from rfl,←Jk,t3,List.drop_append_of_le_length oM,List.drop_of_length_le oM]
  simp
 have t5:(B++(C++(D++r))).take 2=B:=by rw[List.take_append_of_le_length oM,List.take_of_length_le oM]
 have t6:(C++(D++r)).take 4=C:=by rw[List.take_append_of_le_length oM,List.take_of_length_le oM]
 have hlen:8≤(A++(B++(C++D))++r).length:=by simp;omega
 rw[if_neg oM,t1,t2,t3,t4,t5,t6,e1,e2,e3,if_neg (fun x=>x h1),if_neg oM,e4]
 simp
 omega
end Go.Proofs.YteldcbljedeeiaaGreatDoor
