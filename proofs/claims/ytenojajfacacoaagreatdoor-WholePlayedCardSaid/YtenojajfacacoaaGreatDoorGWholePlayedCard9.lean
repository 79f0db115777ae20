/- A text. -/
import Derived.Test.YtenojajfacacoaaGreatDoorGWholePlayedCard8
import Derived.Test.YtenojajfacacoaaGreatDoorGWholePlayedCard7
import Derived.Test.YtenojajfacacoaaGreatDoorGWholePlayedCard6
import Derived.RegionTactic
import Derived.WalkMore
import Derived.Deep.RegionHeld3
import Derived.Deep.DeepCutAuto
import Derived.Test.YtenojajfacacoaaGreatDoorGWholePlayedCard4
import Derived.Test.YtenojajfacacoaaGreatDoorGWholePlayedCard3
import Derived.Test.YtenojajfacacoaaGreatDoorGWholePlayedCard2
import Derived.Test.YtenojajfacacoaaGreatDoorGWholePlayedCard5
import Derived.Deep.OwnRows
import Derived.IntWalk
/- A text. -/
namespace Go.Proofs.YtenojajfacacoaaGreatDoor
open Go.RowKit
def lnB (b:BatS):Bs:=[98,97,116,99,104]++((batN b).map numW++[letW b.app b.txn b.ctl]).flatMap fun x=>32::x
def lnR (r:RecS):Bs:=[114,101,99,111,114,100]++[numW r.time,numW r.off,zAM r.key,zAM r.val].flatMap fun x=>32::x
def lnH (z:HdrS):Bs:=[104,101,97,100,101,114]++[hexW z.key,zAM z.val].flatMap fun x=>32::x
def lnC (c:Int):Bs:=[99,117,116]++[numW c].flatMap fun x=>32::x
def lnK (l:List Int):Bs:=[99,104,117,110,107,115]++(l.map numW).flatMap fun x=>32::x
theorem zNA(b:BatS):lnB b++[10]=batL b:=by
 unfold lnB batL zI0;simp[List.flatMap_append,List.flatMap_map]
theorem zNy(r:RecS):lnR r++[10]=recH r:=by unfold lnR recH;simp
theorem zNz(z:HdrS):lnH z++[10]=hdrT z:=by unfold lnH hdrT;simp
def lnsR (r:RecS):List Bs:=lnR r::r.hdrs.map lnH
def lnsB (x:BtR):List Bs:=lnB x.b::x.l.flatMap fun y=>lnsR y.1
def lnsC (c:Int):List Bs:=if c<0 then[]else[lnC c]
def lnsK (l:List Int):List Bs:=if l=[]then[]else[lnK l]
def zEr (l:List BtR) (c:Int) (ch:List Int):List Bs:=l.flatMap lnsB++(lnsC c++lnsK ch)
theorem zEq(a b:List Bs):zBo (a++b)=zBo a++zBo b:=by unfold zBo;rw[List.flatMap_append]
theorem zBQ(a:Bs)(b:List Bs):zBo (a::b)=(a++[10])++zBo b:=by unfold zBo;rw[List.flatMap_cons]
theorem zDq{α:Type}(f:α→List Bs)(g:α→Bs)(h:∀x,zBo (f x)=g x):∀l:List α,zBo (l.flatMap f)=l.flatMap g
  |[]=>rfl
  |x::t=>by rw[List.flatMap_cons,List.flatMap_cons,zEq,h,zDq f g h t]
theorem zK7:∀l:List HdrS,zBo (l.map lnH)=l.flatMap hdrT
  |[]=>rfl
  |x::t=>by rw[List.map_cons,zBQ,zNz,zK7 t,List.flatMap_cons]
theorem zO6(r:RecS):zBo (lnsR r)=recT r:=by unfold lnsR recT;rw[zBQ,zNy,zK7]
theorem zO7(x:BtR):zBo (lnsB x)=btT x:=by unfold lnsB btT;rw[zBQ,zNA,zDq (fun y:RecS×Value=>lnsR y.1) (fun y=>recT y.1) (fun y=>zO6 y.1)]
theorem zFU(l:List BtR)(c:Int)(ch:List Int):zBo (zEr l c ch)=l.flatMap btT++(cutT c++chT ch):=by
 unfold zEr;rw[zEq,zEq,zDq lnsB btT zO7]
 congr 2
 · unfold lnsC cutT;split
   · rfl
   · rw[zBQ];unfold lnC;simp[zBo]
 · unfold lnsK chT;split
   · rfl
   · rw[zBQ];unfold lnK zI0;simp[zBo,List.flatMap_map]
theorem zFM:∀ws:List Bs,(∀x∈ws,zA9 x)→(10:UInt8)∉ws.flatMap fun x=>32::x
  |[],_=>List.not_mem_nil
  |x::t,h=>by
    rw[List.flatMap_cons];intro hc
    rcases List.mem_append.1 hc with hc|hc
    · rcases List.mem_cons.1 hc with hc|hc
      · exact absurd hc (by decide)
      · exact(h x (by simp)).2 hc
    · exact zFM t (fun y hy=>h y (by simp[hy])) hc
theorem zB4(w:Bs)(ws:List Bs)(hw:zA9 w)(h:∀x∈ws,zA9 x):(10:UInt8)∉w++ws.flatMap fun x=>32::x:=fun hc=>by
  rcases List.mem_append.1 hc with hc|hc
  · exact hw.2 hc
  · exact zFM ws h hc
theorem zEk(l:List Int):∀x∈l.map numW,zA9 x:=fun x hx=>by
  obtain⟨n,_,rfl⟩:=List.mem_map.1 hx;exact zCI n
theorem zIT(b:BatS):∀x∈(batN b).map numW++[letW b.app b.txn b.ctl],zA9 x:=fun x hx=>by
  rcases List.mem_append.1 hx with hx|hx
  · exact zEk _ x hx
  · rw[List.mem_singleton.1 hx];exact zNq _ _ _
theorem zIQ(r:RecS):∀x∈[numW r.time,numW r.off,zAM r.key,zAM r.val],zA9 x:=fun x hx=>by
  simp only[List.mem_cons,List.not_mem_nil,or_false]at hx
  rcases hx with rfl|rfl|rfl|rfl
  · exact zCI _
  · exact zCI _
  · exact zEl _
  · exact zEl _
theorem zIR(z:HdrS):∀x∈[hexW z.key,zAM z.val],zA9 x:=fun x hx=>by
  simp only[List.mem_cons,List.not_mem_nil,or_false]at hx
  rcases hx with rfl|rfl
  · exact zGU _
  · exact zEl _
theorem zEp(l:List BtR)(c:Int)(ch:List Int):∀y∈zEr l c ch,(10:UInt8)∉y:=by
 intro y hy;unfold zEr at hy
 rcases List.mem_append.1 hy with hy|hy
 · obtain⟨x,_,hy⟩:=List.mem_flatMap.1 hy;unfold lnsB at hy
   rcases List.mem_cons.1 hy with rfl|hy
   · exact zB4 _ _ ⟨by decide,by decide⟩ (zIT x.b)
   · obtain⟨z,_,hy⟩:=List.mem_flatMap.1 hy;unfold lnsR at hy
     rcases List.mem_cons.1 hy with rfl|hy
     · exact zB4 _ _ ⟨by decide,by decide⟩ (zIQ z.1)
     · obtain⟨u,_,rfl⟩:=List.mem_map.1 hy;exact zB4 _ _ ⟨by decide,by decide⟩ (zIR u)
 · rcases List.mem_append.1 hy with hy|hy
   · unfold lnsC at hy
     split at hy
     · cases hy
     · rw[List.mem_singleton.1 hy];exact zB4 _ [numW c] ⟨by decide,by decide⟩ (fun x hx=>by rw[List.mem_singleton.1 hx];exact zCI c)
   · unfold lnsK at hy
     split at hy
     · cases hy
     · rw[List.mem_singleton.1 hy];exact zB4 _ _ ⟨by decide,by decide⟩ (zEk ch)
theorem zB3(w:Bs)(ws:List Bs)(hw:zA9 w)(h:∀x∈ws,zA9 x):zAe 32 (w++ws.flatMap fun x=>32::x)=w::ws:=zFN w ws hw.1 (fun x hx=>(h x hx).1)
theorem zB0(v:VS)(l:Bs)(t:List Bs)(k:Said)(h:zAO v.n v.m v.c v.ch (zAe 32 l)=some k):zCf v (l::t)=zCf (v.app k) t:=by
 show(match zAO v.n v.m v.c v.ch (zAe 32 l)with|none=>none|some k=>zCf (v.app k) t)=_
 rw[h]
theorem ln_bat(n m:Nat)(b:BatS)(hb:batR b):zAO n m (-1) [] (zAe 32 (lnB b))=some (.bat (b.with [])):=by
 unfold lnB;rw[zB3 _ _ ⟨by decide,by decide⟩ (zIT b)];have h:=zL1 (b.with []) hb rfl;have e:(batN (b.with [])).map numW++[letW (b.with []).app (b.with []).txn (b.with []).ctl]=(batN b).map numW++[letW b.app b.txn b.ctl]:=rfl;rw[e]at h;rw[zBr,h]
 simp
def zEi (r:RecS) (l:List HdrS):RecS:=⟨r.time,r.off,r.key,r.val,l⟩
theorem ln_rec(n m:Nat)(r:RecS)(hn:n≠0)(h:zCe r):zAO n m (-1) [] (zAe 32 (lnR r))=some (.recd (zEi r [])):=by
 unfold lnR;rw[zB3 _ _ ⟨by decide,by decide⟩ (zIQ r)];have h2:=zLY (zEi r []) ⟨h.1,h.2.1,(fun z hz=>by cases hz),h.2.2.2.1,h.2.2.2.2⟩ rfl;have e:zBW [numW r.time,numW r.off,zAM r.key,zAM r.val]=some (zEi r []):=h2;rw[zBr,e];simp[hn]
theorem ln_hdr(n m:Nat)(z:HdrS)(hn:n≠0)(hm:m≠0)(h:oddB z.val=false):zAO n m (-1) [] (zAe 32 (lnH z))=some (.hdr z):=by
 unfold lnH;rw[zB3 _ _ ⟨by decide,by decide⟩ (zIR z)];rw[zBr,zLZ z h];simp[hn,hm]
theorem ln_cut(n m:Nat)(c:Int)(h:0≤c)(hr:Rn c):zAO n m (-1) [] (zAe 32 (lnC c))=some (.cut c):=by
 unfold lnC;rw[zB3 _ _ ⟨by decide,by decide⟩ (fun x hx=>by rw[List.mem_singleton.1 hx];exact zCI c)];rw[zBr,zL0 c h hr]
 simp
theorem zNx(n m:Nat)(c:Int)(l:List Int)(h0:l≠[])(hr:∀v∈l,Rn v):zAO n m c [] (zAe 32 (lnK l))=some (.chunks l):=by
 unfold lnK;rw[zB3 _ _ ⟨by decide,by decide⟩ (zEk l)];rw[zBr,zHG l h0 hr]
 simp
theorem zGO(vs:List BatS)(B:BatS)(rs:List RecS)(r:RecS)(n m:Nat)(hn:n≠0)(hm:m≠0)(t:List Bs):∀(hs hs0:List HdrS),(∀z∈hs,oddB z.val=false)→zCf ⟨vs++[B.with (rs++[zEi r hs0])],n,m,-1,[]⟩ (hs.map lnH++t)=zCf ⟨vs++[B.with (rs++[zEi r (hs0++hs)])],n,m,-1,[]⟩ t
  |[],hs0,_=>by rw[List.append_nil];rfl
  |z::hs,hs0,h=>by
    have e:=zB0 ⟨vs++[B.with (rs++[zEi r hs0])],n,m,-1,[]⟩ (lnH z) (hs.map lnH++t) _ (ln_hdr n m z hn hm (h z (by simp)))
    have e2:VS.app ⟨vs++[B.with (rs++[zEi r hs0])],n,m,-1,[]⟩ (.hdr z)=⟨vs++[B.with (rs++[zEi r (hs0++[z])])],n,m,-1,[]⟩:=by
      show VS.mk (modL (fun b=>b.with (modL (fun r=>zJ2 r z) b.recs)) (vs++[B.with (rs++[zEi r hs0])])) n m (-1) []=_
      rw[zDL]
      show VS.mk (vs++[B.with (modL (fun r=>zJ2 r z) (rs++[zEi r hs0]))]) n m (-1) []=_
      rw[zDL]
      rfl
    rw[List.map_cons,List.cons_append,e,e2,zGO vs B rs r n m hn hm t hs (hs0++[z]) (fun y hy=>h y (by simp[hy])),List.append_assoc]
    rfl
theorem zNc(vs:List BatS)(B:BatS)(rs:List RecS)(r:RecS)(n m:Nat)(hn:n≠0)(h:zCe r)(t:List Bs):zCf ⟨vs++[B.with rs],n,m,-1,[]⟩ (lnsR r++t)=zCf ⟨vs++[B.with (rs++[r])],n,m+1,-1,[]⟩ t:=by
 have e:=zB0 ⟨vs++[B.with rs],n,m,-1,[]⟩ (lnR r) (r.hdrs.map lnH++t) _ (ln_rec n m r hn h)
 have e2:VS.app ⟨vs++[B.with rs],n,m,-1,[]⟩ (.recd (zEi r []))=⟨vs++[B.with (rs++[zEi r []])],n,m+1,-1,[]⟩:=by
  show VS.mk (modL (fun b=>b.with (b.recs++[zEi r []])) (vs++[B.with rs])) n (m+1) (-1) []=_
  rw[zDL]
  rfl
 show zCf _ (lnR r::(r.hdrs.map lnH++t))=_
 rw[e,e2,zGO vs B rs r n (m+1) hn (Nat.succ_ne_zero m) t r.hdrs [] h.2.2.1]
 rfl
theorem zGN(vs:List BatS)(B:BatS)(n:Nat)(hn:n≠0)(t:List Bs):∀(l:List (RecS×Value)) (rs:List RecS) (m:Nat),(∀y∈l,zCe y.1)→zCf ⟨vs++[B.with rs],n,m,-1,[]⟩ ((l.flatMap fun y=>lnsR y.1)++t)=zCf ⟨vs++[B.with (rs++l.map (·.1))],n,m+l.length,-1,[]⟩ t
  |[],rs,m,_=>by simp
  |y::l,rs,m,h=>by
    rw[List.flatMap_cons,List.append_assoc,zNc vs B rs y.1 n m hn (h y (by simp)),zGN vs B n hn t l (rs++[y.1]) (m+1) (fun z hz=>h z (by simp[hz])),List.append_assoc,List.length_cons,Nat.add_right_comm]
    rfl
theorem zGP(t:List Bs):∀(l:List BtR) (vs:List BatS) (n m:Nat),(∀x∈l,zBG x)→∃n' m',zCf ⟨vs,n,m,-1,[]⟩ (l.flatMap lnsB++t)=zCf ⟨vs++l.map BtR.val,n',m',-1,[]⟩ t
  |[],vs,n,m,_=>⟨n,m,by simp⟩
  |x::l,vs,n,m,h=>by
    have hx:=h x (by simp);have e:=zB0 ⟨vs,n,m,-1,[]⟩ (lnB x.b) ((x.l.flatMap fun y=>lnsR y.1)++(l.flatMap lnsB++t)) _ (ln_bat n m x.b hx.1);have e2:VS.app ⟨vs,n,m,-1,[]⟩ (.bat (x.b.with []))=⟨vs++[x.b.with []],n+1,0,-1,[]⟩:=rfl;have e3:=zGN vs x.b (n+1) (Nat.succ_ne_zero n) (l.flatMap lnsB++t) x.l [] 0 hx.2;obtain⟨n',m',e4⟩:=zGP t l (vs++[x.val]) (n+1) (0+x.l.length) (fun z hz=>h z (by simp[hz]));refine⟨n',m',?_⟩;rw[List.flatMap_cons,List.append_assoc]
    show zCf _ (lnB x.b::((x.l.flatMap fun y=>lnsR y.1)++(l.flatMap lnsB++t)))=_
    rw[e,e2,e3]
    show zCf ⟨vs++[x.val],n+1,0+x.l.length,-1,[]⟩ _=_
    rw[e4,List.append_assoc]
    rfl
theorem zDm(l:List BtR)(c:Int)(ch:List Int)(hc: -1≤c)(hcr:Rn c)(hchr:∀v∈ch,Rn v)(hf:∀x∈l,zBG x):∃n m,zCf ⟨[],0,0,-1,[]⟩ (zEr l c ch)=some ⟨l.map BtR.val,n,m,c,ch⟩:=by
 obtain⟨n,m,e⟩:=zGP (lnsC c++lnsK ch) l [] 0 0 hf;refine⟨n,m,?_⟩;unfold zEr;rw[e,List.nil_append]
 have hk:∀c':Int,zCf ⟨l.map BtR.val,n,m,c',[]⟩ (lnsK ch)=some ⟨l.map BtR.val,n,m,c',ch⟩:=by
   intro c';unfold lnsK
   split
   · rename_i h0;subst h0;rfl
   · rename_i h0
     rw[zB0 _ _ _ _ (zNx n m c' ch h0 hchr)]
     rfl
 unfold lnsC
 split
 · have e1:c= -1:=by omega
   subst e1;exact hk (-1)
 · rw[List.cons_append,zB0 _ _ _ _ (ln_cut n m c (by omega) hcr)];exact hk c
theorem zFw:∀(ls:List Bs) (v u:VS) (ln:Nat),zCf v ls=some u→zBF v.n v.m v.c v.ch ln (ls++[[]])=0
  |[],v,u,ln,_=>rfl
  |l::t,v,u,ln,h=>by
    have h2:(match zAO v.n v.m v.c v.ch (zAe 32 l)with|none=>none|some k=>zCf (v.app k) t)=some u:=h
    cases hr:zAO v.n v.m v.c v.ch (zAe 32 l)with
    |none=>rw[hr]at h2;cases h2
    |some k=>
      rw[hr]at h2;rw[List.cons_append,zKc _ _ _ _ _ _ _ (by simp) k hr];exact zFw t (v.app k) u (ln+1) h2
theorem zJU(l:List BtR)(c:Int)(ch:List Int)(text:Bs)(ht:l.flatMap btT++(cutT c++chT ch)=text)(hc: -1≤c)(hcr:Rn c)(hchr:∀v∈ch,Rn v)(hf:∀x∈l,zBG x):zBF 0 0 (-1) [] 1 (zAe 10 text)=0:=by
 obtain⟨n,m,e⟩:=zDm l c ch hc hcr hchr hf;rw[←ht,←zFU,zCj _ (zEp l c ch)];exact zFw _ ⟨[],0,0,-1,[]⟩ _ 1 e
theorem zLw(l l':List BtR)(c c':Int)(ch ch':List Int)(text:Bs)(ht:l.flatMap btT++(cutT c++chT ch)=text)(hc: -1≤c)(hcr:Rn c)(hchr:∀v∈ch,Rn v)(hf:∀x∈l,zBG x)(ht':l'.flatMap btT++(cutT c'++chT ch')=text)(hc': -1≤c')(hcr':Rn c')(hchr':∀v∈ch',Rn v)(hf':∀x∈l',zBG x):l'.map BtR.val=l.map BtR.val∧c'=c∧ch'=ch:=by
 obtain⟨n,m,e⟩:=zDm l c ch hc hcr hchr hf;obtain⟨n',m',e'⟩:=zDm l' c' ch' hc' hcr' hchr' hf';have h1:=zCj _ (zEp l c ch);have h2:=zCj _ (zEp l' c' ch');rw[zFU,ht]at h1;rw[zFU,ht',h1]at h2;have h3:=List.append_cancel_right h2;rw[←h3,e]at e';injection e' with e';injection e' with a1 a2 a3 a4 a5;exact⟨a1.symm,a4.symm,a5.symm⟩
variable {W0 w:World}{K:Know}{L:List Res}
theorem zDQ{α:Type}(f:α→Bs):∀(l:List α) (k:Nat) (h:k<l.length) (x:α),l[k]=x→(l.drop k).flatMap f=f x++(l.drop (k+1)).flatMap f:=fun l k h x hx=>by
  rw[List.drop_eq_getElem_cons h,hx,List.flatMap_cons]
theorem zIg{a b S:Bs}(h:a++b=S){n:Nat}(hs:S.length≤n):a.length≤n:=by
 have:=congrArg List.length h;rw[List.length_append]at this
 omega
theorem zB6{K:Know}{v:Value}{l:List BtR}(h:K.has (Know.btrs v l)):K.has (Know.flat RBt v 12 l):=fun w F x=>(h w F x).1
theorem zDY{K:Know}{v:Value}{l:List BtR}(h:K.has (Know.btrs v l)){x:BtR}(hx:x∈l):K.has (Know.recs x.v x.l):=fun w F y=>(h w F y).2 x hx
theorem zHR{α:Type}{R:List Value→α→Prop}{sz:Nat}{v:Value}{l:List α}(hk:K.has (Know.flat R v sz l))(h:St W0 w K L):∃q cap,v=.slice q l.length cap:=by
 obtain⟨F,hF,_⟩:=h.get;obtain⟨q,cap,hv,_⟩:=(hk _ _ hF).at;exact⟨q,cap,hv⟩
theorem zKl{α:Type}{R:List Value→α→Prop}{sz n cap:Nat}{q:Option Addr}{l:List α}(hk:K.has (Know.flat R (.slice q n cap) sz l))(h:St W0 w K L)(h0:0<l.length):∃b off,q=some ⟨b,off,none⟩:=by
 obtain⟨F,hF,_⟩:=h.get;obtain⟨q2,cap2,hv,hr⟩:=(hk _ _ hF).at;obtain⟨b,off,hq,_⟩:=hr h0;simp at hv;exact⟨b,off,hv.1.trans hq⟩
theorem zKk{α:Type}{R:List Value→α→Prop}{sz n cap b off:Nat}{l:List α}(hk:K.has (Know.flat R (.slice (some ⟨b,off,none⟩) n cap) sz l))(h:St W0 w K L)(i:Nat)(hi:i<l.length):∃cs,R cs l[i]∧∀f u,cs[f]? =some u→w.cell? ⟨b,off+(i*sz+f),none⟩=some u:=by
 obtain⟨F,hF,_⟩:=h.get;obtain⟨q2,cap2,hv,hr⟩:=(hk _ _ hF).at;obtain⟨b2,off2,hq,hc⟩:=hr (by omega);rw[hq]at hv;simp at hv;obtain⟨⟨rfl,rfl⟩,_,_⟩:=hv;obtain⟨cs,_,h1,h2⟩:=hc i hi;exact⟨cs,h1,h2⟩
theorem zGb{n cap b off:Nat}{l:List BtR}(hk:K.has (Know.btrs (.slice (some ⟨b,off,none⟩) n cap) l))(h:St W0 w K L)(i:Nat)(hi:i<l.length)(x:BtR)(hx:l[i]=x):
  w.cell? ⟨b,off+i*12,none⟩=some (.int .i64 x.b.base)∧w.cell? ⟨b,off+i*12+1,none⟩=some (.int .i64 x.b.leader)∧w.cell? ⟨b,off+i*12+2,none⟩=some (.bool x.b.app)∧w.cell? ⟨b,off+i*12+3,none⟩=some (.bool x.b.txn)∧w.cell? ⟨b,off+i*12+4,none⟩=some (.bool x.b.ctl)∧w.cell? ⟨b,off+i*12+5,none⟩=some (.int .i64 x.b.last)∧w.cell? ⟨b,off+i*12+6,none⟩=some (.int .i64 x.b.first)∧w.cell? ⟨b,off+i*12+7,none⟩=some (.int .i64 x.b.maxt)∧w.cell? ⟨b,off+i*12+8,none⟩=some (.int .i64 x.b.prod)∧w.cell? ⟨b,off+i*12+9,none⟩=some (.int .i64 x.b.epoch)∧w.cell? ⟨b,off+i*12+10,none⟩=some (.int .i64 x.b.seq)∧w.cell? ⟨b,off+i*12+11,none⟩=some (x.v):=by
 subst hx;obtain⟨cs,h1,h2⟩:=zKk (zB6 hk) h i hi;unfold RBt zAC zC8 at h1;subst h1;refine⟨?_,?_,?_,?_,?_,?_,?_,?_,?_,?_,?_,?_⟩
 · exact h2 0 _ rfl
 · rw[Nat.add_assoc];exact h2 1 _ rfl
 · rw[Nat.add_assoc];exact h2 2 _ rfl
 · rw[Nat.add_assoc];exact h2 3 _ rfl
 · rw[Nat.add_assoc];exact h2 4 _ rfl
 · rw[Nat.add_assoc];exact h2 5 _ rfl
 · rw[Nat.add_assoc];exact h2 6 _ rfl
 · rw[Nat.add_assoc];exact h2 7 _ rfl
 · rw[Nat.add_assoc];exact h2 8 _ rfl
 · rw[Nat.add_assoc];exact h2 9 _ rfl
 · rw[Nat.add_assoc];exact h2 10 _ rfl
 · rw[Nat.add_assoc];exact h2 11 _ rfl
theorem zGL{n cap b off:Nat}{l:List Int}(hk:K.has (Know.flat RInt (.slice (some ⟨b,off,none⟩) n cap) 1 l))(h:St W0 w K L)(i:Nat)(hi:i<l.length)(x:Int)(hx:l[i]=x):w.cell? ⟨b,off+i,none⟩=some (.int .i64 x):=by
 subst hx;obtain⟨cs,h1,h2⟩:=zKk hk h i hi;unfold RInt at h1;subst h1;have:=h2 0 _ rfl
 rwa [Nat.mul_one,Nat.add_zero]at this
theorem zIA{n cap b off:Nat}{l:List HdrS}(hk:K.has (Know.flat RHdr (.slice (some ⟨b,off,none⟩) n cap) 3 l))(h:St W0 w K L)(i:Nat)(hi:i<l.length)(x:HdrS)(hx:l[i]=x):w.cell? ⟨b,off+i*3,none⟩=some (.string (bb x.key))∧w.cell? ⟨b,off+i*3+1,none⟩=some (.bool x.val.null)∧w.cell? ⟨b,off+i*3+2,none⟩=some (.string (bb x.val.data)):=by
 subst hx;obtain⟨cs,h1,h2⟩:=zKk hk h i hi;unfold RHdr at h1;subst h1;exact⟨h2 0 _ rfl,by rw[Nat.add_assoc];exact h2 1 _ rfl,by rw[Nat.add_assoc];exact h2 2 _ rfl⟩
theorem wrap_i64(x:Int)(h0: -9223372036854775808≤x)(h1:x<9223372036854775808):IntKind.i64.wrap x=x:=IntWalk.i64_in _ (by omega)
theorem zF0{α:Type}(f:α→Bs):∀(l:List α),(∀x∈l,1≤(f x).length)→l.length≤(l.flatMap f).length
  |[],_=>Nat.le_refl _
  |x::t,h=>by
    have h1:=zF0 f t (fun y hy=>h y (by simp[hy]));have h2:=h x (by simp);rw[List.flatMap_cons,List.length_append,List.length_cons]
    omega
theorem zLb(s:Bs):s.length≤(hexW s).length:=by
 unfold hexW
 split
 · rename_i h;subst h;exact Nat.zero_le _
 · rw[zC1];omega
theorem zGc(b:BlobS)(h:oddB b=false):b.data.length≤(zAM b).length:=by
 unfold zAM
 split
 · rename_i hn
   unfold oddB at h;rw[hn]at h;simp at h;rw[h];exact Nat.zero_le _
 · exact zLb _
def FitW (l:List (RecS×Value)):Prop:=∀x∈l,x.1.R∧x.1.hdrs.length≤9223372036854775807∧HFit x.1.hdrs∧x.1.key.data.length≤140737488351232∧x.1.val.data.length≤140737488351232
def hAll:List HdrS→Bool
  |[]=>true
  |h::t=>decide (h.key.length+h.val.data.length≤100) && hAll t
def zA5 (x:RecS):Bool:=decide (x.key.data.length+x.val.data.length≤100) && (decide (x.hdrs.length≤6) && hAll x.hdrs)
def rAll:List RecS→Bool
  |[]=>true
  |r::t=>zA5 r && rAll t
def zAN (l:List RecS):Bool:=decide (l.length≤12) && rAll l
theorem zHP:∀(l:List HdrS),hAll l=true→hsum l≤101*l.length
  |[],_=>by simp[hsum]
  |h::t,hh=>by
    simp only[hAll,Bool.and_eq_true,decide_eq_true_eq]at hh;have:=zHP t hh.2;simp only[hsum,List.length_cons,List.map_cons,List.sum_cons]at*
    omega
theorem zCi:∀(l:List RecS),rAll l=true→∀x∈l,zA5 x=true
  |[],_,_,h=>by cases h
  |r::t,hh,x,hx=>by
    simp only[rAll,Bool.and_eq_true]at hh
    rcases List.mem_cons.1 hx with rfl|hx
    · exact hh.1
    · exact zCi t hh.2 x hx
theorem zEH{x:RecS}(h:zA5 x=true):x.sum≤1000:=by
 unfold zA5 at h;simp only[Bool.and_eq_true,decide_eq_true_eq]at h;have:=zHP _ h.2.2;unfold RecS.sum
 omega
theorem FitW.fit{l:List (RecS×Value)}(h:FitW l)(hs:zAN (l.map (·.1))=true):FitB l:=by
 intro x hx;unfold zAN at hs;simp only[Bool.and_eq_true]at hs;have h1:=zEH (zCi _ hs.2 x.1 (List.mem_map.2 ⟨x,hx,rfl⟩));obtain⟨a,b,c,_⟩:=h x hx;exact⟨a,c,by omega⟩
theorem zD8{l:List (RecS×Value)}(hs:zAN (l.map (·.1))=true):l.length≤12:=by
 unfold zAN at hs;simp only[Bool.and_eq_true,decide_eq_true_eq,List.length_map]at hs;exact hs.1
theorem zN3(l:List HdrS)(k:Nat)(h:k<l.length):l.drop k=l[k]::l.drop (k+1):=List.drop_eq_getElem_cons h
theorem zAj(n:Int)(h:Rn n):(numW n).length≤31:=by
 unfold Rn at h;unfold numW
 by_cases h0:n<0
 · obtain⟨u,rfl⟩:∃u:Nat,n= -(u:Int):=⟨n.natAbs,by omega⟩;rw[Lib.itoa_neg u (by omega)]
   by_cases hu:u≤9223372036854775807
   · have:=zHZ u hu;rw[List.length_cons];omega
   · have e:u=9223372036854775808:=by omega
     subst e;have h9:(Lib.decDigits 9223372036854775808).length=(Lib.decDigits 922337203685477580++[UInt8.ofNat (48+9223372036854775808 % 10)]).length:=by rw[zH0 (by omega)]
     rw[List.length_append]at h9;have:=zHZ 922337203685477580 (by omega);rw[List.length_cons,h9,List.length_cons,List.length_nil];omega
 · obtain⟨u,rfl⟩:∃u:Nat,n=(u:Int):=⟨n.natAbs,by omega⟩;rw[Lib.itoa_nonneg];have:=zHZ u (by omega);omega
theorem zHN(s:Bs):(hexW s).length≤2*s.length+1:=by
 unfold hexW
 split
 · simp
 · rw[zC1];omega
theorem zH9(b:BlobS):(zAM b).length≤2*b.data.length+4:=by
 unfold zAM
 split
 · simp
 · have:=zHN b.data;omega
theorem zBU{α:Type}(f:α→Bs)(n:Nat):∀(l:List α),(∀x∈l,(f x).length≤n)→(l.flatMap f).length≤l.length*n
  |[],_=>by simp
  |x::t,h=>by
    have h1:=zBU f n t (fun y hy=>h y (by simp[hy]));have h2:=h x (by simp);rw[List.flatMap_cons,List.length_append,List.length_cons,Nat.succ_mul]
    omega
theorem zHQ:∀(l:List HdrS),hAll l=true→∀z∈l,z.key.length+z.val.data.length≤100
  |[],_,_,h=>by cases h
  |r::t,hh,x,hx=>by
    simp only[hAll,Bool.and_eq_true,decide_eq_true_eq]at hh
    rcases List.mem_cons.1 hx with rfl|hx
    · exact hh.1
    · exact zHQ t hh.2 x hx
theorem zP8(r:RecS)(h:zA5 r=true)(hr:Rn r.time∧Rn r.off):(recT r).length≤2000:=by
 unfold zA5 at h;simp only[Bool.and_eq_true,decide_eq_true_eq]at h;obtain⟨h1,h2,h3⟩:=h;have a1:=zAj r.time hr.1;have a2:=zAj r.off hr.2;have a3:=zH9 r.key;have a4:=zH9 r.val
 have a5:=zBU hdrT 220 r.hdrs (fun z hz=>by
  have b1:=zHQ r.hdrs h3 z hz;have b2:=zHN z.key;have b3:=zH9 z.val;unfold hdrT;simp only[List.length_append,List.length_cons,List.length_nil]
  omega)
 unfold recT recH;simp only[List.length_append,List.length_cons,List.length_nil]
 omega
theorem zK4(l:List Int)(h:∀n∈l,Rn n):(zI0 l).length≤l.length*32:=zBU _ 32 l (fun n hn=>by have:=zAj n (h n hn);simp only[List.length_cons];omega)
theorem zQB(b:BatS)(h:batR b):(batL b).length≤300:=by
 have h1:=zK4 (batN b) h;have h2:(letW b.app b.txn b.ctl).length≤3:=by cases b.app<;>cases b.txn<;>cases b.ctl<;>decide
 unfold batL;simp only[List.length_append,List.length_cons,List.length_nil];have h3:(batN b).length=8:=rfl
 omega
theorem btT_le(x:BtR)(h:zAN (x.l.map (·.1))=true)(hb:batR x.b)(hr:∀y∈x.l,Rn y.1.time∧Rn y.1.off):(btT x).length≤30000:=by
 unfold zAN at h;simp only[Bool.and_eq_true,decide_eq_true_eq,List.length_map]at h;have h1:=zQB x.b hb;have h2:=zBU (fun y:RecS×Value=>recT y.1) 2000 x.l (fun y hy=>zP8 y.1 (zCi _ h.2 y.1 (List.mem_map.2 ⟨y,hy,rfl⟩)) (hr y hy));unfold btT;rw[List.length_append]
 omega
def zBe (l:List BtR) (ch:List Int):Bool:=decide (l.length≤8) && (decide (ch.length≤200) && l.all fun x=>zAN (x.l.map (·.1)))
theorem zIs(l:List BtR)(c:Int)(ch:List Int)(h:zBe l ch=true)(hc:Rn c)(hch:∀v∈ch,Rn v)(hb:∀x∈l,batR x.b)(hr:∀x∈l,∀y∈x.l,Rn y.1.time∧Rn y.1.off):(l.flatMap btT++(cutT c++chT ch)).length≤300000:=by
 unfold zBe at h;simp only[Bool.and_eq_true,decide_eq_true_eq,List.all_eq_true]at h;obtain⟨h1,h2,h3⟩:=h;have a1:=zBU btT 30000 l (fun x hx=>btT_le x (h3 x hx) (hb x hx) (hr x hx));have a2:=zK4 ch hch;have a3:=zAj c hc;have a4:(cutT c).length≤40:=by unfold cutT;split<;>simp only[List.length_append,List.length_cons,List.length_nil]<;>omega
 have a5:(chT ch).length≤7000:=by unfold chT;split<;>simp only[List.length_append,List.length_cons,List.length_nil]<;>omega
 rw[List.length_append,List.length_append]
 omega
def mayP (l:List BtR) (c:Int):Prop:= -1≤c∧∀x∈l,∀y∈x.l,oddB y.1.key=false∧oddB y.1.val=false∧∀z∈y.1.hdrs,oddB z.val=false
theorem zK5{l:List BtR}{c:Int}(h:mayP l c)(hb:∀x∈l,batR x.b)(hr:∀x∈l,∀y∈x.l,Rn y.1.time∧Rn y.1.off):∀x∈l,zBG x:=fun x hx=>⟨hb x hx,fun y hy=>⟨(h.2 x hx y hy).1,(h.2 x hx y hy).2.1,(h.2 x hx y hy).2.2,(hr x hx y hy).1,(hr x hx y hy).2⟩⟩
theorem zG2:∀ws:List Bs,Lib.join ws [32]=zAB 32 ws
  |[]=>rfl
  |w::r=>by
    rw[Lib.join_cons,zA6]
    congr 1
theorem zM0(ws:List Bs)(t:Bs)(wb n cap:Nat)(hn:n=ws.length)(hnc:n≤cap)(hl:ws.length≤1000000)(ht:zAB 32 ws=t)(htl:t.length≤1000000)(hk:K.has (Know.strw wb 0 ws))(h:St W0 w K L):
  Calls Tryz.prog 73 #[.slice (some ⟨wb,0,none⟩) n cap,.string ⟨#[32]⟩] w fun e w'=>e=.returned (.string (bb t))∧St W0 w' K L:=by
 subst hn;obtain⟨F,hF,_⟩:=h.get;obtain⟨_,h2,h3⟩:=hk _ _ hF
 have e1:(ws.map bb).map (fun x=>x.data.toList)=ws:=by
  rw[List.map_map]
  conv=>rhs;rw[←List.map_id ws]
  refine List.map_congr_left fun x _=> ?_
  simp
 have e2:(⟨#[32]⟩:ByteArray).data.toList=[32]:=rfl
 have h4:=Tryz.strings_Join wb 0 cap (ws.map bb) ⟨#[32]⟩ w (fun j x hx=>by
  rw[List.getElem?_map]at hx
  cases hj:ws[j]? with
  |none=>rw[hj]at hx;cases hx
  |some y=>rw[hj]at hx;injection hx with hx;subst hx;exact h3 j y hj) h2 (by simp;omega) (by simpa using hnc) (by rw[e1,e2,zG2,ht];omega)
 rw[e1,e2,zG2,ht,List.length_map]at h4;exact h4.mono (by rintro e w' ⟨rfl,hb⟩;exact⟨rfl,h.below' hb⟩)
theorem zBD:zDw Tryz.prog 9 (.string ⟨#[]⟩) 1 16:=zBv (by kernel_rfl) rfl (by decide)
def zBf (s:Bs):List Value:=[.string (bb s)]
theorem St.rowStrs{v:Value}{ws:List Bs}{T:TypeId}(h:St W0 w K (.row v T 1 ws.length (ws.flatMap zBf)::L))(h0:0<ws.length):∃wb cap,v=.slice (some ⟨wb,0,none⟩) ws.length cap∧ws.length≤cap∧St W0 w (K.and (Know.strw wb 0 ws)) L:=by
 obtain⟨g,cap,hv⟩:=h.rowSlice h0;subst hv;have hcc:=h.rowGet;refine⟨g,cap,rfl,?_,h.freeze fun F S1 _ hr=> ?_⟩
 · rcases hcc.2 with ⟨hv,_⟩|⟨g2,cap2,cur,hv,hle,_⟩
   · cases hv
   · injection hv with _ _ hv;subst hv;omega
 · obtain⟨⟨g1,g2⟩,g3⟩:=hr
   rcases g2 with ⟨hv,_⟩|⟨g4,cap4,cur,hv,_,hg,hn,hcm,hcs,htake⟩
   · cases hv
   · injection hv with hv1 hv2 hv3;injection hv1 with hv1;injection hv1 with hv1;subst hv1;have hlt:=zAy hg;refine⟨.inr ⟨(g3 _).2 rfl,hlt⟩,hlt,fun j x hx=> ?_⟩;rw[zAx hg,Nat.zero_add];have hj:j<ws.length:=(List.getElem?_eq_some_iff.1 hx).1;have e:=zA2 ws zBf 1 (fun _ _=>rfl) j hj 0 (by omega);rw[(List.getElem?_eq_some_iff.1 hx).2,Nat.mul_one,Nat.add_zero]at e;rw[←htake,List.getElem?_take_of_lt (by omega)]at e
     simpa [zBf]using e
def zJO (b:BatS):List Bs:=match zDs b with
  |(_,_,k,_,c,true)=>[if k=1 then[99,111,109,109,105,116]else[97,98,111,114,116],numW c]
  | _=>[[100,97,116,97]]
def zNM (b:BatS):List Bs:=[[98,97,116,99,104],numW b.base,numW b.prod,numW (b.recs.length:Int)]
def zB5 (b:BatS):Bs:=zAB 32 (zNM b++zJO b)++[10]
def totT (P Q:Int):Bs:=zAB 32 [[116,111,116,97,108],numW P,numW Q]++[10]
def endW (V st e:Int):List Bs:=if st=0 then[[118,97,108,105,100],numW V,[99,108,101,97,110]]else if st=1 then[[118,97,108,105,100],numW V,[116,111,114,110]]else[[118,97,108,105,100],numW V,[98,97,100],numW e]
def endT (V st e:Int):Bs:=zAB 32 (endW V st e)++[10]
def sumE (bs:List BatS):Int:=(bs.map fun b=>(b.enc.length:Int)).sum
def sumR (bs:List BatS):Int:=(bs.map fun b=>(b.recs.length:Int)).sum
def zML (bs:List BatS) (V:Int) (st e:Int):Bs:=bs.flatMap zB5++(totT (sumE bs) (sumR bs)++endT V st e)
theorem zIi{b:BatS}{n1 n2 n3 n4 n5:Int}(h:zDs b=(n1,n2,n3,n4,n5,false)):zJO b=[[100,97,116,97]]:=by unfold zJO;rw[h]
theorem zFb{b:BatS}{n1 n2 n3 n4 n5:Int}(h:zDs b=(n1,n2,n3,n4,n5,true))(hk:n3=1):zJO b=[[99,111,109,109,105,116],numW n5]:=by unfold zJO;rw[h];simp only;rw[if_pos hk]
theorem zGF{b:BatS}{n1 n2 n3 n4 n5:Int}(h:zDs b=(n1,n2,n3,n4,n5,true))(hk:¬n3=1):zJO b=[[97,98,111,114,116],numW n5]:=by unfold zJO;rw[h];simp only;rw[if_neg hk]
theorem zE6{ops:Array Oper}{rest:List Oper}{o:Oper}{a:Act}{Q:Exit→Act→World→Prop}(hgd:o.guard=none)(sl x:Operand)(t:TypeId)
    (ho:o.op=.call {callee:=.builtin .append,args:= #[sl,x],argTypes:= #[t,t]})
    (e:TypeId){z:Value}{size bytes:Nat}(ht:Tryz.prog.underlying t=some (.slice e))(he:zDw Tryz.prog e z size bytes)
    (v:Value)(n:Nat)(xs:List Value)(hs:a.eval sl=v)(hst:St W0 w K (.row v e size n xs::L))
    (m:Nat)(news:List Value)(T:TypeId)(hx:a.eval x=.slice (some ⟨w.heap.size,0,none⟩) m m)(hl:news.length=m*size)(h1:∀u∈news,u.oneCell'=true)
    (h63:n+m≤maxLen)(hbytes:(n+m)*bytes≤140737488355328)
    (h:∀v' w',St W0 w' K (.row v' e size (n+m) (xs++news)::L)→wpList Tryz.prog ops Q rest (a.put o.dst v') w'):wpList Tryz.prog ops Q (o::rest) a (w.alloc (.cells news.toArray T)):=
  zBq hgd sl x t ho e ht he v n xs hs (hst.alloc _) ⟨w.heap.size,0,none⟩ m m news hx hl (zJu w news T) h1 h63 hbytes h
theorem St.rowLitEx(h:St W0 w K L)(c:List Value)(T:TypeId)(sz n:Nat)(hc:c.length=n*sz)(hn:n≤maxLen):∃wy b,w.alloc (.cells c.toArray T)=wy∧w.heap.size=b∧St W0 wy K (.row (.slice (some ⟨b,0,none⟩) n n) T sz n c::L):=⟨_,_,rfl,rfl,h.rowLit c T sz n hc hn⟩
theorem nl_cat(t tl:Bs)(h:t++[10]=tl):bb t++(⟨#[10]⟩:ByteArray)=bb tl:=by rw[←h];exact zJE t [10]
set_option maxHeartbeats 1000000
set_option maxRecDepth 100000
theorem zI4(base leader:Int)(app txn ctl:Bool)(last first maxt prod epoch sq:Int)(l:List (RecS×Value))(q:Option Addr)(cap:Nat)(r:Bool)(hr:zAN (l.map (·.1))=r)(hfit:FitW l){W0 w:World}{K:Know}{L:List Res}(hk:K.has (Know.recs (.slice q l.length cap) l))(h:St W0 w K L):
   Calls Tryz.prog 22 #[.agg #[.int .i64 base,.int .i64 leader,.bool app,.bool txn,.bool ctl,.int .i64 last,.int .i64 first,.int .i64 maxt,.int .i64 prod,.int .i64 epoch,.int .i64 sq,.slice q l.length cap]] w fun en w'=>en=.returned (.int .i64 (if r then 1 else 0))∧St W0 w' K L:=by
 have HK:=hQd hk;have HFT:=hQd hfit;have h1:=h.allocRaw #[.int .i64 base,.int .i64 leader,.bool app,.bool txn,.bool ctl,.int .i64 last,.int .i64 first,.int .i64 maxt,.int .i64 prod,.int .i64 epoch,.int .i64 sq,.slice q l.length cap] 30;obtain⟨hb,hhb⟩:∃b,w.heap.size=b:=⟨_,rfl⟩;rw[hhb]at h1;obtain⟨x0,x1,x2,x3,x4,x5,x6,x7,x8,x9,x10,x11,y0,y1,y2,y3,y4,y5,y6,y7,y8,y9,y10,y11⟩:=zAa (b:=hb) (h1);have H:=hQd h1;clear h h1 hk hfit;unfold zAN at hr;rw[List.length_map]at hr
 by_cases hl:12<l.length
 · have dl:decide ((12:Int)<(l.length:Int))=true:=decide_eq_true (by omega);obtain rfl:false=r:=by rw[←hr,decide_eq_false (by omega)];rfl
   clear hr hl;go_enter Tryz.func22,Tryz.ntmps22;go_wp2;go_ret;exact⟨rfl,H.out.drop⟩
 have dl:decide ((12:Int)<(l.length:Int))=false:=decide_eq_false (by omega);have hll:(l.length:Int)≤12:=by omega
 rw[decide_eq_true (by omega),Bool.true_and]at hr;have HR:=hQd hr;clear hr hl;go_enter Tryz.func22,Tryz.ntmps22;go_wp2;clear x0 y0 x1 y1 x2 y2 x3 y3 x4 y4 x5 y5 x6 y6 x7 y7 x8 y8 x9 y9 x10 y10 x11 y11;go_loopw [4,6,14] (fun _ _ iv wr=>∃k:Nat,k≤l.length∧iv=.int .i64 k∧Hid (rAll ((l.map (·.1)).drop k)=r)∧St W0 wr K (.raw hb #[.int .i64 base,.int .i64 leader,.bool app,.bool txn,.bool ctl,.int .i64 last,.int .i64 first,.int .i64 maxt,.int .i64 prod,.int .i64 epoch,.int .i64 sq,.slice q l.length cap] 30::L)) (fun _ _ iv _=>l.length - (intOf iv).toNat)
 case atStart=>exact⟨0,Nat.zero_le _,rfl,HR,H.out⟩
 case round=>
   obtain⟨k,hkl,rfl,HC,hst⟩:=hrel;clear H;have H:=hQd hst;clear hst
   by_cases hlt:k<l.length
   · have hd:=zDR l k hlt _ rfl;obtain⟨b,off,hqq⟩:=zCE HK.out H.out (by omega);subst hqq;obtain⟨⟨x,vx⟩,hx⟩:∃x,l[k]=x:=⟨_,rfl⟩;have cc:=zBA HK.out H.out k hlt (x,vx) hx;have hmem:(x,vx)∈l:=hx ▸ List.getElem_mem hlt;have xf:x.R∧x.hdrs.length≤9223372036854775807∧HFit x.hdrs∧x.key.data.length≤140737488351232∧x.val.data.length≤140737488351232:=HFT.out (x,vx) hmem;have xk:K.has (Know.flat RHdr vx 3 x.hdrs):=zBz HK.out hmem;obtain⟨qx,capx,hvx⟩:=zAu xk H.out;subst hvx;simp only at cc;obtain⟨c0,c1,c2,c3,c4,c5,c6⟩:=cc;rw[←Nat.add_assoc]at c1 c2 c3 c4 c5 c6;have hx1:l[k].1=x:=by rw[hx]
     have XF:=hQd xf;have XK:=hQd xk;have HX:=hQd hx1;clear xf xk hx1 hx hmem;obtain⟨wE,hwE⟩:∃b,wr.heap.size=b:=⟨_,rfl⟩;have hki:(k:Int)<(l.length:Int):=by omega
     have h:=H.out.allocRaw #[.int .i64 x.time,.int .i64 x.off,.bool x.key.null,.string (bb x.key.data),.bool x.val.null,.string (bb x.val.data),.slice qx x.hdrs.length capx] 54;rw[hwE]at h;clear H;have H:=hQd h;clear h;rw[HX.out]at hd;have hc:=HC.out;rw[hd]at hc;have hc:(zA5 x && rAll ((l.map (·.1)).drop (k+1)))=r:=hc;unfold zA5 at hc;obtain⟨ec0,ec1,ec2,ec3,ec4,ec5,ec6,ef0,ef1,ef2,ef3,ef4,ef5,ef6⟩:=raw7 (b:=wE) (H.out);have xf2:=XF.out;obtain⟨_,hxl,_,hkl2,hvl2⟩:=xf2;have ws:wrap64 ((x.key.data.length:Int)+(x.val.data.length:Int))=(x.key.data.length:Int)+(x.val.data.length:Int):=by unfold wrap64;omega
     clear hd hxl hkl2 hvl2
     by_cases c1:100<x.key.data.length+x.val.data.length
     · have d1:decide ((100:Int)<(x.key.data.length:Int)+(x.val.data.length:Int))=true:=decide_eq_true (by omega);have hfin:false=r:=by rw[←hc,decide_eq_false (by omega)];rfl
       clear hc c1;obtain rfl:false=r:=hfin;go_wp2;go_ret;exact⟨rfl,H.out.drop.drop⟩
     have d1:decide ((100:Int)<(x.key.data.length:Int)+(x.val.data.length:Int))=false:=decide_eq_false (by omega);rw[decide_eq_true (by omega),Bool.true_and]at hc
     by_cases c2:6<x.hdrs.length
     · have d2:decide ((6:Int)<(x.hdrs.length:Int))=true:=decide_eq_true (by omega);have hfin:false=r:=by rw[←hc,decide_eq_false (by omega)];rfl
       clear hc c1 c2;obtain rfl:false=r:=hfin;go_wp2;go_ret;exact⟨rfl,H.out.drop.drop⟩
     have d2:decide ((6:Int)<(x.hdrs.length:Int))=false:=decide_eq_false (by omega);rw[decide_eq_true (by omega),Bool.true_and]at hc;have hh6:(x.hdrs.length:Int)≤6:=by omega
     have HC1:=hQd hc;clear hc c1 c2;go_wp2;clear ec0 ef0 ec1 ef1 ec2 ef2 ec3 ef3 ec4 ef4 ec5 ef5 ec6 ef6 c0 c3 c4 c5 c6;go_loopw [6,37] (fun _ iv wr=>∃j:Nat,j≤x.hdrs.length∧iv=.int .i64 j∧Hid ((hAll (x.hdrs.drop j) && rAll ((l.map (·.1)).drop (k+1)))=r)∧St W0 wr K (.raw wE #[.int .i64 x.time,.int .i64 x.off,.bool x.key.null,.string (bb x.key.data),.bool x.val.null,.string (bb x.val.data),.slice qx x.hdrs.length capx] 54::.raw hb #[.int .i64 base,.int .i64 leader,.bool app,.bool txn,.bool ctl,.int .i64 last,.int .i64 first,.int .i64 maxt,.int .i64 prod,.int .i64 epoch,.int .i64 sq,.slice (some ⟨b,off,none⟩) l.length cap] 30::L)) (fun _ iv _=>x.hdrs.length - (intOf iv).toNat)
     case atStart=>exact⟨0,Nat.zero_le _,rfl,HC1,H.out⟩
     case round=>
       obtain⟨j,hjl,rfl,HJ,hst⟩:=hrel;clear H;have H:=hQd hst;clear hst
       by_cases hjt:j<x.hdrs.length
       · obtain⟨bh,oh,hqh,g0,g1,g2⟩:=zFX XK.out H.out j hjt;subst hqh;have hhf:=XF.out.2.2.1 _ (List.getElem_mem hjt);obtain⟨⟨hk,⟨hu,hv⟩⟩,hx⟩:∃y,x.hdrs[j]=y:=⟨_,rfl⟩;have hj:=HJ.out;rw[zN3 _ _ hjt]at hj;rw[hx]at g0 g1 g2 hhf hj;have hj:((decide (hk.length+hv.length≤100) && hAll (x.hdrs.drop (j+1))) && rAll ((l.map (·.1)).drop (k+1)))=r:=hj;simp only at g0 g1 g2 hhf;obtain⟨b1,b2⟩:=hhf;have hji:(j:Int)<(x.hdrs.length:Int):=by omega
         have ws2:wrap64 ((hk.length:Int)+(hv.length:Int))=(hk.length:Int)+(hv.length:Int):=by unfold wrap64;omega
         clear b1 b2;have h:=H.out.allocRaw #[.string (bb hk),.bool hu,.string (bb hv)] 73;obtain⟨wH,hwH⟩:∃b,wr.heap.size=b:=⟨_,rfl⟩;rw[hwH]at h;have u0:=h.rawCell 0;have u1:=h.rawCell 1;have u2:=h.rawCell 2;simp at u0 u1 u2;clear H;have H:=hQd h;clear h hx
         by_cases c1:100<hk.length+hv.length
         · have d1:decide ((100:Int)<(hk.length:Int)+(hv.length:Int))=true:=decide_eq_true (by omega);have hfin:false=r:=by rw[←hj,decide_eq_false (by omega)];rfl
           clear hj c1;obtain rfl:false=r:=hfin;go_wp2;go_ret;exact⟨rfl,H.out.drop.drop.drop⟩
         · have d1:decide ((100:Int)<(hk.length:Int)+(hv.length:Int))=false:=decide_eq_false (by omega);rw[decide_eq_true (by omega),Bool.true_and]at hj;have HJ2:=hQd hj;clear hj c1;go_wp2;go_roundw
           case rel=>exact⟨j+1,hjt,by go_num,HJ2,H.out.drop⟩
           case measure=>first|(simp[intOf];done)|(simp[intOf];omega)
       · obtain rfl:x.hdrs.length=j:=by omega
         have hj:=HJ.out;rw[List.drop_of_length_le (Nat.le_refl _)]at hj;have HC2:=hQd (show rAll ((l.map (·.1)).drop (k+1))=r from hj);clear hj;go_wp2;go_roundw
         case rel=>exact⟨k+1,hlt,by go_num,HC2,H.out.drop⟩
         case measure=>first|(simp[intOf];done)|(simp[intOf];omega)
   · obtain rfl:l.length=k:=by omega
     have hc:=HC.out;rw[List.drop_of_length_le (by simp)]at hc;obtain rfl:true=r:=hc;go_wp2;go_ret;exact⟨rfl,H.out.drop⟩
theorem zMk(x:RecS)(hx:x.R)(hs:x.sum≤1000):(encR x).length≤33000:=by
 have h1:=zFv x hx (by omega);have h2:=zBs ⟨false,recF x⟩ (by simp only;omega);simp only at h2;unfold encR
 omega
theorem zEf:∀(l:List RecS) (n:Nat),(∀x∈l,(encR x).length≤n)→(l.flatMap encR).length≤n*l.length
  |[],_,_=>by simp
  |x::t,n,h=>by
    rw[List.flatMap_cons,List.length_append,List.length_cons,Nat.mul_succ];have h1:=zEf t n (fun y hy=>h y (by simp[hy]));have h2:=h x (by simp)
    omega
theorem zCq:∀(l:List (RecS×Value)),zBb l=(l.map (·.1)).flatMap encR
  |[]=>rfl
  |x::t=>by
    have:=zCq t;unfold zBb at*;rw[List.flatMap_cons,List.map_cons,List.flatMap_cons,this]
structure SmallOk (b:BatS):Prop where
  fit:∀x∈b.recs,x.R∧zAV x=0∧x.sum≤1000
  len:b.recs.length≤12
  err:zAc b=0
  rng:b.R
theorem SmallOk.rows{b:BatS}(h:SmallOk b):b.rowsB.length≤400000:=by
 have:=zEf b.recs 33000 (fun x hx=>zMk x (h.fit x hx).1 (h.fit x hx).2.2);have h2:=h.len;unfold BatS.rowsB
 omega
theorem SmallOk.recs{b:BatS}(h:SmallOk b):∀x∈b.recs,x.R∧zAV x=0∧x.sum≤1000000:=fun x hx=>⟨(h.fit x hx).1,(h.fit x hx).2.1,by have:=(h.fit x hx).2.2;omega⟩
theorem SmallOk.back{b:BatS}(h:SmallOk b)(t:Bs):zCg (b.enc++t)=.ok (b,b.enc.length):=
 zLS h.err h.rng h.recs (by have:=h.rows;omega) (by have:=h.len;omega) t
theorem BatS.enc_len(b:BatS):b.enc.length=61+b.rowsB.length:=by unfold BatS.enc;rw[List.length_append,zAK]
theorem SmallOk.elen{b:BatS}(h:SmallOk b):b.enc.length≤401000:=by rw[b.enc_len];have:=h.rows;omega
theorem SmallOk.of{b:BatS}{l:List (RecS×Value)}(hl:b.recs=l.map (·.1))(hw:FitW l)(hs:zAN (l.map (·.1))=true)(he:zAc b=0)(hR:b.R):SmallOk b where
 fit:=by
  intro x hx;rw[hl]at hx;have hf:=hw.fit hs;obtain⟨y,hy,rfl⟩:=List.mem_map.1 hx;have hr:=zHv _ (zBu he).2.2.2;have hss:=hs;unfold zAN at hss;simp only[Bool.and_eq_true]at hss;exact⟨(hf y hy).1,hr y.1 (by rw[hl];exact hx),zEH (zCi _ hss.2 y.1 hx)⟩
 len:=by rw[hl,List.length_map];exact zD8 hs
 err:=he
 rng:=hR
theorem zBL{x:PreS}(h:FitsAll x.items):(⟨[],0⟩:OutS).ints x.items=⟨zAd x.items,0⟩:=by
 rw[OutS.ints_put _ _ h]
 rfl
theorem SmallOk.preX{b:BatS}(so:SmallOk b):(Go.Proofs.YtenojajfacacoaaGreatDoor.preX b.enc).1=b.pre b.crc∧(Go.Proofs.YtenojajfacacoaaGreatDoor.preX b.enc).2=2∧zAQ b.enc=.ok (b.pre b.crc):=by
 have hb:=so.back [];rw[List.append_nil]at hb;obtain⟨x,hx,_⟩:=zCU hb;have hrow:=so.rows;have hlen:=so.len;have hcr:=b.crc_lt;have f1:=BatS.fitsAll so.err so.rng b.crc (by omega) (by omega) (by omega);have hp:=zIE (b.pre b.crc) f1 (show(49:Int)≤49+(b.rowsB.length:Int) by omega) (show(0:Int)≤(b.recs.length:Int) by omega) b.rowsB;have hp:zAQ b.enc=.ok (b.pre b.crc):=hp;obtain⟨_,h2,h3,_⟩:=zBH hp;exact⟨h2,h3,hp⟩
variable {W0 w:World}{K:Know}{L:List Res}
theorem zKO(p:Nat)(o:OutS)(s:Bs)(e:Int)(hx:o.text=(s,e))(h:St W0 w K (.out p o::L)):
  Calls Tryz.prog 50 #[zAR p] w fun en w'=>en=.returned (.tuple #[.string (bb s),.int .i64 e])∧St W0 w' K (.out p o::L):=by
 have:=zHn p o h;rw[hx]at this;exact this
theorem zHI(p:Nat)(o o2:OutS)(a0 a1 a2 a3 a4 a5 a6 a7 a8 a9 a10 a11:Int)(hx:PreS.R ⟨a0,a1,a2,a3,a4,a5,a6,a7,a8,a9,a10,a11⟩)(ho:o.ints (PreS.items ⟨a0,a1,a2,a3,a4,a5,a6,a7,a8,a9,a10,a11⟩)=o2)(hr:o.ok 200)(h:St W0 w K (.out p o::L)):
  Calls Tryz.prog 121 #[zAR p,.agg #[.int .i64 a0,.int .i64 a1,.int .i64 a2,.int .i64 a3,.int .i64 a4,.int .i64 a5,.int .i64 a6,.int .i64 a7,.int .i64 a8,.int .i64 a9,.int .i64 a10,.int .i64 a11]] w fun en w'=>en=.returned (.tuple #[])∧St W0 w' K (.out p o2::L):=by
 subst ho;exact zIL p o ⟨a0,a1,a2,a3,a4,a5,a6,a7,a8,a9,a10,a11⟩ hx h hr
theorem zGe(a0 a1 a2 a3 a4 a5 a6 a7 a8 a9 a10 a11:Int)(hx:PreS.R ⟨a0,a1,a2,a3,a4,a5,a6,a7,a8,a9,a10,a11⟩)(o2:OutS)(s:Bs)(e:Int)(ho:(⟨[],0⟩:OutS).ints (PreS.items ⟨a0,a1,a2,a3,a4,a5,a6,a7,a8,a9,a10,a11⟩)=o2)(ht:o2.text=(s,e))(h:St W0 w K L):
  Calls Tryz.prog 87 #[.agg #[.int .i64 a0,.int .i64 a1,.int .i64 a2,.int .i64 a3,.int .i64 a4,.int .i64 a5,.int .i64 a6,.int .i64 a7,.int .i64 a8,.int .i64 a9,.int .i64 a10,.int .i64 a11]] w fun en w'=>en=.returned (.tuple #[.string (bb s),.int .i64 e])∧St W0 w' K L:=by
 have g1:=h.allocRaw #[.int .i64 a0,.int .i64 a1,.int .i64 a2,.int .i64 a3,.int .i64 a4,.int .i64 a5,.int .i64 a6,.int .i64 a7,.int .i64 a8,.int .i64 a9,.int .i64 a10,.int .i64 a11] 130;have g2:=g1.allocOut;obtain⟨hb,hhb⟩:∃b,w.heap.size=b:=⟨_,rfl⟩;obtain⟨po,hpo⟩:∃b,hb+1=b:=⟨_,rfl⟩;simp only[World.size_alloc,hhb,hpo]at g2;obtain⟨x0,x1,x2,x3,x4,x5,x6,x7,x8,x9,x10,x11,y0,y1,y2,y3,y4,y5,y6,y7,y8,y9,y10,y11⟩:=zAa (b:=hb) (g2.p1);have H:=hQd g2;have HX:=hQd hx;have HO:=hQd ho;have HT:=hQd ht;have HR:=hQd (show(⟨[],0⟩:OutS).ok 200 by simp[OutS.ok]);clear g1 g2 h hx ho ht;go_enter Tryz.func87,Tryz.ntmps87
 go_wp2_with (first
  |(go_at_call 121;(with_reducible refine(zHI po _ _ _ _ _ _ _ _ _ _ _ _ _ _ HX.out HO.out HR.out H.out).mono ?_);rintro e_ wn ⟨rfl,h⟩;replace H:=hQd h;clear h)
  |(go_at_call 50;(with_reducible refine(zKO po _ _ _ HT.out H.out).mono ?_);rintro e_ wn ⟨rfl,h⟩;replace H:=hQd h;clear h))
 go_ret2;exact⟨rfl,H.out.drop.drop⟩
theorem zPp(l:List (RecS×Value))(q:Option Addr)(cap:Nat)(rows:Bs)(hrows:zBb l=rows)(hc:zCw (l.map (·.1))=0)(hfit:FitB l)(hll:l.length≤1000){W0 w:World}{K:Know}{L:List Res}(hk:K.has (Know.recs (.slice q l.length cap) l))(h:St W0 w K L):
  Calls Tryz.prog 85 #[.slice q l.length cap] w fun en w'=>en=.returned (.tuple #[.string (bb rows),.int .i64 0])∧St W0 w' K L:=by
 have g1:=h.allocOut;obtain⟨po,hpo⟩:∃b,w.heap.size=b:=⟨_,rfl⟩;rw[hpo]at g1;have H:=hQd g1;have HK:=hQd hk;have HFT:=hQd hfit;have HC:=hQd hc;have HRW:=hQd hrows;have HLL:=hQd hll;clear h g1 hk hfit hc hrows hll;go_enter Tryz.func85,Tryz.ntmps85;go_wp2;go_loopw [6,9] (fun _ iv wr=>∃k:Nat,k≤l.length∧iv=.int .i64 k∧St W0 wr K (.out po ⟨zBb (l.take k),0⟩::L)) (fun _ iv _=>l.length - (intOf iv).toNat)
 case atStart=>exact⟨0,Nat.zero_le _,rfl,H.out⟩
 case round=>
  obtain⟨k,hkl,rfl,hst⟩:=hrel;clear H;have H:=hQd hst;clear hst
  by_cases hlt:k<l.length
  · have OK:=hQd (show(⟨zBb (l.take k),0⟩:OutS).ok 40000000 by
     have h1:=zJg (l:=l.take k) (fun y hy=>HFT.out y (List.mem_of_mem_take hy));have h2:=HLL.out;rw[List.length_take]at h1;unfold OutS.ok;simp only
     omega)
    have hok:=zHv _ HC.out l[k].1 (List.mem_map.2 ⟨_,List.getElem_mem hlt,rfl⟩);have het:=zKq l k hlt;have hll2:=HLL.out;obtain⟨b,off,hqq⟩:=zCE HK.out H.out (by omega);subst hqq;obtain⟨⟨x,vx⟩,hx⟩:∃x,l[k]=x:=⟨_,rfl⟩;have cc:=zBA HK.out H.out k hlt (x,vx) hx;have hmem:(x,vx)∈l:=hx ▸ List.getElem_mem hlt;have xf:x.R∧HFit x.hdrs∧x.sum≤1000000:=HFT.out (x,vx) hmem;have xk:K.has (Know.flat RHdr vx 3 x.hdrs):=zBz HK.out hmem;obtain⟨qx,capx,hvx⟩:=zAu xk H.out;subst hvx;simp only at cc;obtain⟨c0,c1,c2,c3,c4,c5,c6⟩:=cc;rw[←Nat.add_assoc]at c1 c2 c3 c4 c5 c6;have hx1:l[k].1=x:=by rw[hx]
    have XF:=hQd xf;have XK:=hQd xk;have HX:=hQd hx1;clear xf xk hx1 hx hmem;obtain⟨wE,hwE⟩:∃b,wr.heap.size=b:=⟨_,rfl⟩;have hki:(k:Int)<(l.length:Int):=by omega
    have h:=H.out.allocRaw #[.int .i64 x.time,.int .i64 x.off,.bool x.key.null,.string (bb x.key.data),.bool x.val.null,.string (bb x.val.data),.slice qx x.hdrs.length capx] 54;rw[hwE]at h;clear H;have H:=hQd h;clear h;rw[HX.out]at hok het;have EO:=hQd (show(⟨zBb (l.take k),0⟩:OutS).putRec x=⟨zBb (l.take (k+1)),0⟩ by rw[zJ7 _ _ hok,het]);have hll3:(l.length:Int)≤1000:=by omega
    obtain⟨ec0,ec1,ec2,ec3,ec4,ec5,ec6,ef0,ef1,ef2,ef3,ef4,ef5,ef6⟩:=raw7 (b:=wE) (H.out);clear hok het hll2;go_wp2_with (go_at_call 119;(with_reducible refine(zM9 po _ _ x (.slice qx x.hdrs.length capx) XF.out.1 XF.out.2.2 EO.out OK.out XK.out H.out.p1).mono ?_);rintro e_ wn ⟨rfl,h⟩;replace H:=hQd h;clear h);go_roundw
    case rel=>exact⟨k+1,hlt,by go_num,H.out.p1.drop⟩
    case measure=>first|(simp[intOf];done)|(simp[intOf];omega)
  · obtain rfl:l.length=k:=by omega
    have h:=H.out;rw[List.take_length,HRW.out]at h;clear H;have H:=hQd h;clear h;have HT:=hQd (show(⟨rows,0⟩:OutS).text=(rows,0)from rfl);go_wp2_with (go_at_call 50;(with_reducible refine(zKO po _ _ _ HT.out H.out).mono ?_);rintro e_ wn ⟨rfl,h⟩;replace H:=hQd h;clear h);go_ret2;exact⟨rfl,H.out.drop⟩
set_option maxHeartbeats 2000000
variable {W0 w:World}{K:Know}{L:List Res}
theorem zGC(base leader:Int)(app txn ctl:Bool)(last first maxt prod epoch sq:Int)(l:List (RecS×Value))(q:Option Addr)(cap:Nat)(e:Int)(he:zAc ⟨base,leader,app,txn,ctl,last,first,maxt,prod,epoch,sq,l.map (·.1)⟩=e)(h0:e≠0)(hmx:first≤9223372036854775807)(hfit:FitB l)(hll:l.length≤1000)(hk:K.has (Know.recs (.slice q l.length cap) l))(h:St W0 w K L):
  Calls Tryz.prog 48 #[.agg #[.int .i64 base,.int .i64 leader,.bool app,.bool txn,.bool ctl,.int .i64 last,.int .i64 first,.int .i64 maxt,.int .i64 prod,.int .i64 epoch,.int .i64 sq,.slice q l.length cap]] w fun en w'=>en=.returned (.tuple #[.string ⟨#[]⟩,.int .i64 e])∧St W0 w' K L:=by
 have HK:=hQd hk;have HFT:=hQd hfit;have HLL:=hQd (show l.length≤1000000 by omega);have HMX:=hQd hmx;have HE:=hQd he;have gz:(e==0)=false:=by rw[beq_eq_false_iff_ne];exact h0
 have h1:=h.allocRaw #[.int .i64 base,.int .i64 leader,.bool app,.bool txn,.bool ctl,.int .i64 last,.int .i64 first,.int .i64 maxt,.int .i64 prod,.int .i64 epoch,.int .i64 sq,.slice q l.length cap] 30;obtain⟨hb,hhb⟩:∃b,w.heap.size=b:=⟨_,rfl⟩;rw[hhb]at h1;obtain⟨x0,x1,x2,x3,x4,x5,x6,x7,x8,x9,x10,x11,y0,y1,y2,y3,y4,y5,y6,y7,y8,y9,y10,y11⟩:=zAa (b:=hb) (h1);have H:=hQd h1;clear h h1 hk hfit hll hmx he h0;go_enter Tryz.func48,Tryz.ntmps48;go_wp2_with (go_at_call 35;(with_reducible refine(zBS _ _ _ _ _ _ _ _ _ _ _ l _ _ e HE.out HMX.out HFT.out HLL.out HK.out H.out).mono ?_);rintro e_ wn ⟨rfl,h⟩;replace H:=hQd h;clear h;obtain⟨x0,x1,x2,x3,x4,x5,x6,x7,x8,x9,x10,x11,y0,y1,y2,y3,y4,y5,y6,y7,y8,y9,y10,y11⟩:=zAa (b:=hb) (H.out));go_ret2;exact⟨rfl,H.out.drop⟩
theorem zCr(base leader:Int)(app txn ctl:Bool)(last first maxt prod epoch sq:Int)(l:List (RecS×Value))(q:Option Addr)(cap:Nat)(he:zAc ⟨base,leader,app,txn,ctl,last,first,maxt,prod,epoch,sq,l.map (·.1)⟩=0)(hmx:first≤9223372036854775807)(hfit:FitB l)(hll:l.length≤1000)(rows said0 said1 all:Bs)(x:Nat)(at_:Int)(hrc:zCw (l.map (·.1))=0)(hrw:zBb l=rows)(hrl:rows.length≤100000000)(hat:zAA app txn ctl 3=at_)
    (r0:PreS.R ⟨base,49+rows.length,leader,0,at_,last,first,maxt,prod,epoch,sq,l.length⟩)(r1:PreS.R ⟨base,49+rows.length,leader,x,at_,last,first,maxt,prod,epoch,sq,l.length⟩)(o0:(⟨[],0⟩:OutS).ints (PreS.items ⟨base,49+rows.length,leader,0,at_,last,first,maxt,prod,epoch,sq,l.length⟩)=⟨said0,0⟩)(o1:(⟨[],0⟩:OutS).ints (PreS.items ⟨base,49+rows.length,leader,x,at_,last,first,maxt,prod,epoch,sq,l.length⟩)=⟨said1,0⟩)(l0:said0.length=61)(l1:said1.length=61)(hx:(zAp 0#32 (said0.drop 21++rows)).toNat=x)(hall:said1++rows=all)(hk:K.has (Know.recs (.slice q l.length cap) l))(h:St W0 w K L):
    Calls Tryz.prog 48 #[.agg #[.int .i64 base,.int .i64 leader,.bool app,.bool txn,.bool ctl,.int .i64 last,.int .i64 first,.int .i64 maxt,.int .i64 prod,.int .i64 epoch,.int .i64 sq,.slice q l.length cap]] w fun en w'=>en=.returned (.tuple #[.string (bb all),.int .i64 0])∧St W0 w' K L:=by
  have HK:=hQd hk;have HFT:=hQd hfit;have HLL:=hQd (show l.length≤1000000 by omega);have HL1:=hQd hll;have HMX:=hQd hmx;have HE:=hQd he;have HRW:=hQd hrw;have HRC:=hQd hrc;have AT:=hQd hat;have HSZ:=hQd (show rows.length≤140737488355328 by omega);have R0:=hQd r0;have R1:=hQd r1;have O0:=hQd o0;have O1:=hQd o1;have T0:=hQd (show(⟨said0,0⟩:OutS).text=(said0,0)from rfl);have T1:=hQd (show(⟨said1,0⟩:OutS).text=(said1,0)from rfl);have HX:=hQd hx;have HS21:=hQd (show 21≤said0.length by omega);have HS2:=hQd (show said0.length≤140737488355328 by omega);have HR2:=hQd (show rows.length≤140737488355328 by omega);have HALL:=hQd hall;have hcat:bb said1++bb rows=bb all:=by rw[←hall];exact zJE _ _
  have hg:¬(9223372036854775807<said1.length+rows.length):=by omega
  have t1:True:=trivial;have h1:=h.allocRaw #[.int .i64 base,.int .i64 leader,.bool app,.bool txn,.bool ctl,.int .i64 last,.int .i64 first,.int .i64 maxt,.int .i64 prod,.int .i64 epoch,.int .i64 sq,.slice q l.length cap] 30;obtain⟨hb,hhb⟩:∃b,w.heap.size=b:=⟨_,rfl⟩;rw[hhb]at h1;obtain⟨x0,x1,x2,x3,x4,x5,x6,x7,x8,x9,x10,x11,y0,y1,y2,y3,y4,y5,y6,y7,y8,y9,y10,y11⟩:=zAa (b:=hb) (h1);have H:=hQd h1;clear h h1 hk hfit hll hmx he hrw hrc hat r0 r1 o0 o1 l0 l1 hx hall hrl;go_enter Tryz.func48,Tryz.ntmps48
  go_wp2_with (first
    |(go_at_call 35;(with_reducible refine(zBS _ _ _ _ _ _ _ _ _ _ _ l _ _ 0 HE.out HMX.out HFT.out HLL.out HK.out H.out).mono ?_);rintro e_ wn ⟨rfl,h⟩;replace H:=hQd h;clear h;obtain⟨x0,x1,x2,x3,x4,x5,x6,x7,x8,x9,x10,x11,y0,y1,y2,y3,y4,y5,y6,y7,y8,y9,y10,y11⟩:=zAa (b:=hb) (H.out))
    |(go_at_call 85;(with_reducible refine(zPp l _ _ rows HRW.out HRC.out HFT.out HL1.out HK.out H.out).mono ?_);rintro e_ wn ⟨rfl,h⟩;replace H:=hQd h;clear h;obtain⟨x0,x1,x2,x3,x4,x5,x6,x7,x8,x9,x10,x11,y0,y1,y2,y3,y4,y5,y6,y7,y8,y9,y10,y11⟩:=zAa (b:=hb) (H.out))
    |(go_at_call 86;(with_reducible refine(zPq _ _ _ _ _ _ _ _ _ _ _ l _ _ rows.length HSZ.out H.out).mono ?_);rw[AT.out];rintro e_ wn ⟨rfl,h⟩;have h:=h.allocRaw #[.int .i64 base,.int .i64 (49+rows.length),.int .i64 leader,.int .i64 0,.int .i64 at_,.int .i64 last,.int .i64 first,.int .i64 maxt,.int .i64 prod,.int .i64 epoch,.int .i64 sq,.int .i64 l.length] 130;obtain⟨pb,hpb⟩:∃b,wn.heap.size=b:=⟨_,rfl⟩;rw[hpb]at h;replace H:=hQd h;clear h;obtain⟨p0,p1,p2,p3,p4,p5,p6,p7,p8,p9,p10,p11,u0,u1,u2,u3,u4,u5,u6,u7,u8,u9,u10,u11⟩:=zAa (b:=pb) (H.out))
    |(go_at_call 87;have _t:=t1;clear _t;(with_reducible refine(zGe _ _ _ _ _ _ _ _ _ _ _ _ R0.out _ _ _ O0.out T0.out H.out).mono ?_);rintro e_ wn ⟨rfl,h⟩;replace H:=hQd h;clear h;obtain⟨p0,p1,p2,p3,p4,p5,p6,p7,p8,p9,p10,p11,u0,u1,u2,u3,u4,u5,u6,u7,u8,u9,u10,u11⟩:=zAa (b:=pb) (H.out);have t2:True:=trivial;clear t1)
    |(go_at_call 88;(with_reducible refine(zEE said0 rows x HX.out HS21.out HS2.out HR2.out H.out).mono ?_);rintro e_ wn ⟨rfl,h⟩;replace H:=hQd h;clear h;obtain⟨p0,p1,p2,p3,p4,p5,p6,p7,p8,p9,p10,p11,u0,u1,u2,u3,u4,u5,u6,u7,u8,u9,u10,u11⟩:=zAa (b:=pb) (H.out);have h3:St W0 _ K (.raw pb #[.int .i64 base,.int .i64 (49+rows.length),.int .i64 leader,.int .i64 x,.int .i64 at_,.int .i64 last,.int .i64 first,.int .i64 maxt,.int .i64 prod,.int .i64 epoch,.int .i64 sq,.int .i64 l.length] 130::_):=H.out.rawSet 3 (.int .i64 x);obtain⟨a0,a1,a2,a3,a4,a5,a6,a7,a8,a9,a10,a11,f0,f1,f2,f3,f4,f5,f6,f7,f8,f9,f10,f11⟩:=zAa (b:=pb) (h3);clear h3)
    |(go_at_call 87;have _t:=t2;clear _t;(with_reducible refine(zGe _ _ _ _ _ _ _ _ _ _ _ _ R1.out _ _ _ O1.out T1.out (H.out.rawSet 3 (.int .i64 x))).mono ?_);rintro e_ wn ⟨rfl,h⟩;replace H:=hQd h;clear h;clear t2))
  go_ret2;exact⟨rfl,H.out.drop.drop⟩
theorem zGB(b:BatS)(l:List (RecS×Value))(q:Option Addr)(cap:Nat)(hl:l.map (·.1)=b.recs)(so:SmallOk b){W0 w:World}{K:Know}{L:List Res}(hk:K.has (Know.recs (.slice q l.length cap) l))(h:St W0 w K L):
  Calls Tryz.prog 48 #[.agg #[.int .i64 b.base,.int .i64 b.leader,.bool b.app,.bool b.txn,.bool b.ctl,.int .i64 b.last,.int .i64 b.first,.int .i64 b.maxt,.int .i64 b.prod,.int .i64 b.epoch,.int .i64 b.seq,.slice q l.length cap]] w fun en w'=>en=.returned (.tuple #[.string (bb b.enc),.int .i64 0])∧St W0 w' K L:=by
 have hrow:=so.rows;have hlen:=so.len;have hcr:=b.crc_lt;have hml:l.length=b.recs.length:=by rw[←hl,List.length_map]
 have f0:=BatS.fitsAll so.err so.rng 0 (by decide) (by omega) (by omega);have f1:=BatS.fitsAll so.err so.rng b.crc (by omega) (by omega) (by omega);have r0:=BatS.pre_R so.err so.rng 0 (by decide) (by omega) (by omega);have r1:=BatS.pre_R so.err so.rng b.crc (by omega) (by omega) (by omega);have hmx:b.first≤9223372036854775807:=by have:=so.rng.2.2.2.1.2;omega
 have e0:b.pre 0=(⟨b.base,49+(b.rowsB.length:Int),b.leader,0,zAA b.app b.txn b.ctl 3,b.last,b.first,b.maxt,b.prod,b.epoch,b.seq,(l.length:Int)⟩:PreS):=by unfold BatS.pre;rw[hml]
 have e1:b.pre b.crc=(⟨b.base,49+(b.rowsB.length:Int),b.leader,(b.crc:Int),zAA b.app b.txn b.ctl 3,b.last,b.first,b.maxt,b.prod,b.epoch,b.seq,(l.length:Int)⟩:PreS):=by unfold BatS.pre;rw[hml]
 have i0:=zBL f0;have i1:=zBL f1;have hd0:=b.pre_drop 0;have l0:=zAK (b.pre 0);have l1:=zAK (b.pre b.crc);have he:zAc ⟨b.base,b.leader,b.app,b.txn,b.ctl,b.last,b.first,b.maxt,b.prod,b.epoch,b.seq,l.map (·.1)⟩=0:=by rw[hl];exact so.err
 have hrc:zCw (l.map (·.1))=0:=by rw[hl];exact(zBu so.err).2.2.2
 have hrw:zBb l=b.rowsB:=by rw[zCq,hl];rfl
 have hfb:FitB l:=by
  intro x hx;obtain⟨a,c,d⟩:=so.fit x.1 (by rw[←hl];exact List.mem_map.2 ⟨x,hx,rfl⟩);have:=zDM x.1.hdrs 1000 (by unfold RecS.sum at d;omega);exact⟨a,fun y hy=>by have:=this y hy;omega,by omega⟩
 have hall:zAd (b.pre b.crc).items++b.rowsB=b.enc:=rfl;have hx:(zAp 0#32 ((zAd (b.pre 0).items).drop 21++b.rowsB)).toNat=b.crc:=by rw[hd0];rfl
 rw[e0]at r0 i0;rw[e1]at r1 i1;obtain⟨s0,hs0⟩:∃s,zAd (b.pre 0).items=s:=⟨_,rfl⟩;obtain⟨s1,hs1⟩:∃s,zAd (b.pre b.crc).items=s:=⟨_,rfl⟩;have g0:zAd (⟨b.base,49+(b.rowsB.length:Int),b.leader,0,zAA b.app b.txn b.ctl 3,b.last,b.first,b.maxt,b.prod,b.epoch,b.seq,(l.length:Int)⟩:PreS).items=s0:=e0 ▸ hs0;have g1:zAd (⟨b.base,49+(b.rowsB.length:Int),b.leader,(b.crc:Int),zAA b.app b.txn b.ctl 3,b.last,b.first,b.maxt,b.prod,b.epoch,b.seq,(l.length:Int)⟩:PreS).items=s1:=e1 ▸ hs1;rw[g0]at i0;rw[g1]at i1;rw[hs0]at hx l0;rw[hs1]at hall l1;exact zCr b.base b.leader b.app b.txn b.ctl b.last b.first b.maxt b.prod b.epoch b.seq l q cap he hmx hfb (by omega) b.rowsB s0 s1 b.enc b.crc (zAA b.app b.txn b.ctl 3) hrc hrw (by omega) rfl r0 r1 i0 i1 l0 l1 hx hall hk h
def AgreeB (a b:Bs) (first n:Nat):Prop:=b.take 21=a.take 21∧∀i,(i<first∨first+n≤i)→(zPP (a.drop 21)).getD i false=(zPP (b.drop 21)).getD i false
theorem AgreeB.refl(a:Bs)(f:Nat):AgreeB a a f 0:=⟨rfl,fun _ _=>rfl⟩
theorem AgreeB.step{a b:Bs}{f n:Nat}(h:AgreeB a b f n):AgreeB a b f (n+1):=⟨h.1,fun i hi=>h.2 i (by omega)⟩
theorem zGg(b:BatS)(s:Bs)(hs:b.enc=s)(l:List (RecS×Value))(q:Option Addr)(cap:Nat)(hl:l.map (·.1)=b.recs)(so:SmallOk b){W0 w:World}{K:Know}{L:List Res}(hk:K.has (Know.recs (.slice q l.length cap) l))(h:St W0 w K L):
  Calls Tryz.prog 48 #[.agg #[.int .i64 b.base,.int .i64 b.leader,.bool b.app,.bool b.txn,.bool b.ctl,.int .i64 b.last,.int .i64 b.first,.int .i64 b.maxt,.int .i64 b.prod,.int .i64 b.epoch,.int .i64 b.seq,.slice q l.length cap]] w fun en w'=>en=.returned (.tuple #[.string (bb s),.int .i64 0])∧St W0 w' K L:=by
 subst hs;exact zGB b l q cap hl so hk h
structure BatR where
  b:BatS
  l:List (RecS×Value)
  q:Option Addr
  cap:Nat
def RBat (cs:List Value) (x:BatR):Prop:=cs=[.int .i64 x.b.base,.int .i64 x.b.leader,.bool x.b.app,.bool x.b.txn,.bool x.b.ctl,.int .i64 x.b.last,.int .i64 x.b.first,.int .i64 x.b.maxt,.int .i64 x.b.prod,.int .i64 x.b.epoch,.int .i64 x.b.seq,.slice x.q x.l.length x.cap]
def BatR.Fit (x:BatR):Prop:=x.b.R∧FitW x.l∧x.l.map (·.1)=x.b.recs
def Know.bats (v:Value) (l:List BatR):Know:=(Know.flat RBat v 12 l).and (Know.all l fun x=>Know.recs (.slice x.q x.l.length x.cap) x.l)
theorem zGd{K:Know}{v:Value}{l:List BatR}(h:K.has (Know.bats v l)):K.has (Know.flat RBat v 12 l):=fun w F x=>(h w F x).1
theorem zB8{K:Know}{v:Value}{l:List BatR}(h:K.has (Know.bats v l)){x:BatR}(hx:x∈l):K.has (Know.recs (.slice x.q x.l.length x.cap) x.l):=fun w F y=>(h w F y).2 x hx
theorem zED{q:Option Addr}{n cap:Nat}{l:List BatR}(hk:K.has (Know.bats (.slice q n cap) l))(h:St W0 w K L)(h0:0<l.length):∃b off,q=some ⟨b,off,none⟩:=by
 obtain⟨F,hF,_⟩:=h.get;obtain⟨q2,cap2,hv,hr⟩:=(zGd hk _ _ hF).at;obtain⟨b,off,hq,_⟩:=hr h0;simp at hv;exact⟨b,off,hv.1.trans hq⟩
theorem zCO{b off n cap:Nat}{l:List BatR}(hk:K.has (Know.bats (.slice (some ⟨b,off,none⟩) n cap) l))(h:St W0 w K L)(i:Nat)(hi:i<l.length)(x:BatR)(hx:l[i]=x):
  w.cell? ⟨b,off+i*12,none⟩=some (.int .i64 x.b.base)∧w.cell? ⟨b,off+i*12+1,none⟩=some (.int .i64 x.b.leader)∧w.cell? ⟨b,off+i*12+2,none⟩=some (.bool x.b.app)∧w.cell? ⟨b,off+i*12+3,none⟩=some (.bool x.b.txn)∧w.cell? ⟨b,off+i*12+4,none⟩=some (.bool x.b.ctl)∧w.cell? ⟨b,off+i*12+5,none⟩=some (.int .i64 x.b.last)∧w.cell? ⟨b,off+i*12+6,none⟩=some (.int .i64 x.b.first)∧w.cell? ⟨b,off+i*12+7,none⟩=some (.int .i64 x.b.maxt)∧w.cell? ⟨b,off+i*12+8,none⟩=some (.int .i64 x.b.prod)∧w.cell? ⟨b,off+i*12+9,none⟩=some (.int .i64 x.b.epoch)∧w.cell? ⟨b,off+i*12+10,none⟩=some (.int .i64 x.b.seq)∧w.cell? ⟨b,off+i*12+11,none⟩=some (.slice x.q x.l.length x.cap):=by
 subst hx;obtain⟨F,hF,_⟩:=h.get;obtain⟨q2,cap2,hv,hr⟩:=(zGd hk _ _ hF).at;obtain⟨b2,off2,hq,hc⟩:=hr (by omega);rw[hq]at hv;simp at hv;obtain⟨⟨rfl,rfl⟩,_,_⟩:=hv;obtain⟨cs,_,hR,hcs⟩:=hc i hi;unfold RBat at hR;subst hR;refine⟨?_,?_,?_,?_,?_,?_,?_,?_,?_,?_,?_,?_⟩
 · exact hcs 0 _ rfl
 · rw[Nat.add_assoc];exact hcs 1 _ rfl
 · rw[Nat.add_assoc];exact hcs 2 _ rfl
 · rw[Nat.add_assoc];exact hcs 3 _ rfl
 · rw[Nat.add_assoc];exact hcs 4 _ rfl
 · rw[Nat.add_assoc];exact hcs 5 _ rfl
 · rw[Nat.add_assoc];exact hcs 6 _ rfl
 · rw[Nat.add_assoc];exact hcs 7 _ rfl
 · rw[Nat.add_assoc];exact hcs 8 _ rfl
 · rw[Nat.add_assoc];exact hcs 9 _ rfl
 · rw[Nat.add_assoc];exact hcs 10 _ rfl
 · rw[Nat.add_assoc];exact hcs 11 _ rfl
def errB:List BatR→Int
  |[]=>0
  |x::t=>if zAc x.b=0 then errB t else zAc x.b
def encB (l:List BatR):Bs:=l.flatMap fun x=>x.b.enc
def allB (l:List BatR):Bs×Int:=if errB l=0 then(encB l,0)else([],errB l)
theorem zF7(l m:List BatR):encB (l++m)=encB l++encB m:=List.flatMap_append
theorem zPe(x:BatR):encB [x]=x.b.enc:=by unfold encB;rw[List.flatMap_cons,List.flatMap_nil,List.append_nil]
theorem zF6(x:BatR)(t:List BatR):encB (x::t)=x.b.enc++encB t:=rfl
theorem zMm(l:List BatR)(k:Nat):encB l=encB (l.take k)++encB (l.drop k):=by rw[←zF7,List.take_append_drop]
theorem zF5(l:List BatR)(k:Nat)(h:k<l.length):encB (l.take (k+1))=encB (l.take k)++l[k].b.enc:=by
 rw[List.take_succ_eq_append_getElem h,zF7,zPe]
theorem zKo(l m:List BatR)(h:errB l=0):errB (l++m)=errB m:=by
 induction l with
 |nil=>rfl
 |cons x t ih=>
  have hx:(if zAc x.b=0 then errB t else zAc x.b)=0:=h
  show(if zAc x.b=0 then errB (t++m)else zAc x.b)=_
  by_cases h1:zAc x.b=0
  · rw[if_pos h1]at hx ⊢;exact ih hx
  · rw[if_neg h1]at hx;exact absurd hx h1
theorem zGu(l m:List BatR)(h:errB l≠0):errB (l++m)=errB l:=by
 induction l with
 |nil=>exact absurd rfl h
 |cons x t ih=>
  have hx:(if zAc x.b=0 then errB t else zAc x.b)≠0:=h
  show(if zAc x.b=0 then errB (t++m)else zAc x.b)=if zAc x.b=0 then errB t else zAc x.b
  by_cases h1:zAc x.b=0
  · rw[if_pos h1]at hx;rw[if_pos h1,if_pos h1];exact ih hx
  · rw[if_neg h1,if_neg h1]
theorem zJe(l:List BatR)(k:Nat)(h:k<l.length)(h0:errB (l.take k)=0):errB (l.take (k+1))=zAc l[k].b:=by
 rw[List.take_succ_eq_append_getElem h,zKo _ _ h0]
 show(if zAc l[k].b=0 then 0 else zAc l[k].b)=_
 by_cases h1:zAc l[k].b=0
 · rw[if_pos h1,h1]
 · rw[if_neg h1]
theorem zQr(l:List BatR)(k:Nat)(h:k<l.length)(h0:errB (l.take k)=0)(h1:zAc l[k].b≠0):errB l=zAc l[k].b:=by
 have e:errB l=errB (l.take (k+1)++l.drop (k+1)):=by rw[List.take_append_drop]
 have h2:=zJe l k h h0;rw[e,zGu _ _ (by rw[h2];exact h1),h2]
theorem zLf:∀(l:List BatR),errB l=0→∀x∈l,zAc x.b=0
  |[],_,_,h=>by cases h
  |y::t,hh,x,hx=>by
    have hh:(if zAc y.b=0 then errB t else zAc y.b)=0:=hh
    by_cases h1:zAc y.b=0
    · rw[if_pos h1]at hh
      rcases List.mem_cons.1 hx with rfl|hx
      · exact h1
      · exact zLf t hh x hx
    · rw[if_neg h1]at hh;exact absurd hh h1
theorem zNX:∀(l:List BatR),(∀x∈l,x.b.enc.length≤401000)→(encB l).length≤401000*l.length
  |[],_=>by simp[encB]
  |x::t,h=>by
    have h1:=zNX t (fun y hy=>h y (by simp[hy]));have h2:=h x (by simp);have e:encB (x::t)=x.b.enc++encB t:=rfl;rw[e,List.length_append,List.length_cons]
    omega
theorem BatR.small{x:BatR}(hf:x.Fit)(hs:zAN (x.l.map (·.1))=true)(he:zAc x.b=0):SmallOk x.b:=SmallOk.of hf.2.2.symm hf.2.1 hs he hf.1
theorem zKp(x:RecS)(hx:x.R)(hs:zA5 x=true):(encR x).length≤1100:=by
 unfold zA5 at hs;simp only[Bool.and_eq_true,decide_eq_true_eq]at hs;obtain⟨s1,s2,s3⟩:=hs;have hm:=zHP _ s3;have h0:=zCJ x.hdrs;have h1:=zCp x.time hx.1;have h2:=zCp x.off hx.2;have h3:=zBs x.key (by omega);have h4:=zBs x.val (by omega);have h5:=zHV x.hdrs (by omega);have h8:=zCp x.hdrs.length (by omega)
 have h6:(recF x).length≤1060:=by
  unfold recF zC7;simp only[List.length_append,List.length_cons,List.length_nil]
  omega
 have h7:=zBs ⟨false,recF x⟩ (by simp only;omega);simp only at h7;unfold encR
 omega
theorem BatR.elen{x:BatR}(hf:x.Fit)(hs:zAN (x.l.map (·.1))=true):x.b.enc.length≤14000:=by
 rw[x.b.enc_len];unfold zAN at hs;simp only[Bool.and_eq_true,decide_eq_true_eq]at hs;rw[hf.2.2]at hs
 have h1:=zEf x.b.recs 1100 (fun y hy=>zKp y (by
  have hy2:y∈x.l.map (·.1):=hf.2.2 ▸ hy;obtain⟨z,hz,rfl⟩:=List.mem_map.1 hy2
  exact(hf.2.1 z hz).1) (zCi _ hs.2 y hy))
 unfold BatS.rowsB
 omega
def zPC:Nat→List Bool→List Bool
  |0,m=>m
  |k+1,m=>(zPC k m).set k (!(zPC k m).getD k false)
def zAg (R:Bs):Except Int (Option (BatS×Nat)):=
  if R.length<61 then .ok none else match zAQ R with
  | .error e=> .error e
  | .ok x=>if R.length<61+(x.len - 49).toNat then .ok none else match asmB x (R.take 61) ((R.drop 61).take (x.len - 49).toNat)with
    | .error e=> .error e
    | .ok b=> .ok (some (b,61+(x.len - 49).toNat))
theorem zDG(R M:Bs)(h:61≤R.length):zAQ (R++M)=zAQ R:=by
 rw[←zBh (R++M) (by rw[List.length_append];omega),←zBh R h,List.take_append_of_le_length h]
theorem zNQ{R:Bs}(M:Bs)(h:zAg R≠.ok none):zAg (R++M)=zAg R:=by
 unfold zAg at h ⊢
 by_cases c1:R.length<61
 · rw[if_pos c1]at h;exact absurd rfl h
 rw[if_neg c1]at h ⊢;rw[if_neg (by rw[List.length_append];omega),zDG R M (by omega)]
 cases hp:zAQ R with
 |error e2=>rfl
 |ok x=>
  rw[hp]at h;simp only at h ⊢
  by_cases c2:R.length<61+(x.len - 49).toNat
  · rw[if_pos c2]at h;exact absurd rfl h
  rw[if_neg c2];rw[if_neg (by rw[List.length_append];omega),List.take_append_of_le_length (by omega),List.drop_append_of_le_length (by omega),List.take_append_of_le_length (by rw[List.length_drop];omega)]
theorem zNP{R:Bs}{e:Int}(h:zAg R=.error e):e≠0:=by
 unfold zAg at h
 by_cases c1:R.length<61
 · rw[if_pos c1]at h;cases h
 rw[if_neg c1]at h
 cases hp:zAQ R with
 |error e2=>rw[hp]at h;cases h;exact zDF hp
 |ok x=>
  rw[hp]at h;simp only at h
  by_cases c2:R.length<61+(x.len - 49).toNat
  · rw[if_pos c2]at h;cases h
  rw[if_neg c2]at h
  cases ha:asmB x (R.take 61) ((R.drop 61).take (x.len - 49).toNat)with
  |error e2=>rw[ha]at h;cases h;exact zIf ha
  |ok b=>rw[ha]at h;cases h
def zPB (N:Nat) (b:BatS):Prop:=b.recs.length≤N∧∀x∈b.recs,x.sum≤N
theorem zFY{R:Bs}{b:BatS}{n:Nat}(h:zAg R=.ok (some (b,n))):(61≤n∧n≤R.length)∧zPB R.length b:=by
 unfold zAg at h
 by_cases c1:R.length<61
 · rw[if_pos c1]at h;cases h
 rw[if_neg c1]at h
 cases hp:zAQ R with
 |error e2=>rw[hp]at h;cases h
 |ok x=>
  rw[hp]at h;simp only at h
  by_cases c2:R.length<61+(x.len - 49).toNat
  · rw[if_pos c2]at h;cases h
  rw[if_neg c2]at h
  cases ha:asmB x (R.take 61) ((R.drop 61).take (x.len - 49).toNat)with
  |error e2=>rw[ha]at h;cases h
  |ok b2=>
   rw[ha]at h
   cases h
   refine⟨⟨by omega,by omega⟩,?_⟩;obtain⟨_,_,rs,hu,_,hb⟩:=zIe ha;obtain⟨_,h2,h3⟩:=zHh _ _ 0 rs (Nat.zero_le _) hu;rw[List.length_take,List.length_drop]at h2;have hr:b.recs=rs:=by rw[hb]
   refine⟨by rw[hr];omega,fun y hy=> ?_⟩;have:=(h3 y (by rw[←hr];exact hy)).2.2;rw[List.length_take,List.length_drop]at this
   omega
theorem zQn{R:Bs}{b:BatS}{n k:Nat}(h:zAg R=.ok (some (b,n)))(hk:n≤k):zAg (R.take k)=.ok (some (b,n)):=by
 by_cases hkl:R.length≤k
 · rw[List.take_of_length_le hkl];exact h
 by_cases hn:zAg (R.take k)=.ok none
 · exfalso
   have hs:=h;unfold zAg at hs hn
   by_cases c1:R.length<61
   · rw[if_pos c1]at hs;cases hs
   have h61:=(zFY h).1;have hl:(R.take k).length=k:=by rw[List.length_take];omega
   rw[if_neg c1]at hs;rw[if_neg (by rw[hl];omega)]at hn;have hpp:=zDG (R.take k) (R.drop k) (by rw[hl];omega);rw[List.take_append_drop]at hpp;rw[←hpp]at hn
   cases hp:zAQ R with
   |error e2=>rw[hp]at hs;cases hs
   |ok x=>
    rw[hp]at hs hn;simp only at hs hn
    by_cases c2:R.length<61+(x.len - 49).toNat
    · rw[if_pos c2]at hs;cases hs
    rw[if_neg c2]at hs
    have hm:61+(x.len - 49).toNat=n:=by
     cases ha:asmB x (R.take 61) ((R.drop 61).take (x.len - 49).toNat)with
     |error e2=>rw[ha]at hs;cases hs
     |ok b2=>rw[ha]at hs;cases hs;rfl
    rw[if_neg (by rw[hl];omega)]at hn
    cases ha:asmB x ((R.take k).take 61) (((R.take k).drop 61).take (x.len - 49).toNat)with
    |error e2=>rw[ha]at hn;cases hn
    |ok b2=>rw[ha]at hn;cases hn
 · have:=zNQ (R.drop k) hn;rw[List.take_append_drop]at this;rw[←this];exact h
def zER:Nat→Bs→List BatS×Bs×Int
  |0,R=>([],R,0)
  |f+1,R=>match zAg R with
    | .error e=>([],R,e)
    | .ok none=>([],R,0)
    | .ok (some y)=>(y.1::(zER f (R.drop y.2)).1,(zER f (R.drop y.2)).2)
theorem zGK:∀(f g:Nat) (R:Bs),R.length≤f→R.length≤g→zER f R=zER g R:=by
 intro f
 induction f with
 |zero=>
  intro g R h1 _;have h0:zAg R=.ok none:=by unfold zAg;rw[if_pos (by omega)]
  cases g with
  |zero=>rfl
  |succ g=>unfold zER;rw[h0]
 |succ f ih=>
  intro g R h1 h2
  cases g with
  |zero=>
   have h0:zAg R=.ok none:=by unfold zAg;rw[if_pos (by omega)]
   unfold zER;rw[h0]
  |succ g=>
   unfold zER
   cases hf:zAg R with
   |error e=>rfl
   |ok o=>
    cases o with
    |none=>rfl
    |some y=>
     obtain⟨b,n⟩:=y;have h3:=(zFY hf).1;simp only;rw[ih g (R.drop n) (by rw[List.length_drop];omega) (by rw[List.length_drop];omega)]
def zAh (R:Bs):List BatS×Bs×Int:=zER R.length R
theorem zEb(R:Bs):zAh R=match zAg R with
    | .error e=>([],R,e)
    | .ok none=>([],R,0)
    | .ok (some y)=>(y.1::(zAh (R.drop y.2)).1,(zAh (R.drop y.2)).2):=by
  have h1:zAh R=zER (R.length+1) R:=zGK _ _ R (Nat.le_refl _) (by omega);rw[h1]
  show(match zAg R with
    | .error e=>([],R,e)
    | .ok none=>([],R,0)
    | .ok (some y)=>(y.1::(zER R.length (R.drop y.2)).1,(zER R.length (R.drop y.2)).2))=_
  cases hf:zAg R with
  |error e=>rfl
  |ok o=>
    cases o with
    |none=>rfl
    |some y=>
      have:zER R.length (R.drop y.2)=zAh (R.drop y.2):=zGK _ _ _ (by rw[List.length_drop];omega) (Nat.le_refl _);simp only;rw[this]
theorem zBJ{R:Bs}{b:BatS}{n:Nat}(h:zAg R=.ok (some (b,n))):zAh R=(b::(zAh (R.drop n)).1,(zAh (R.drop n)).2):=by
 rw[zEb,h]
theorem zAF{R:Bs}(h:zAg R=.ok none):zAh R=([],R,0):=by rw[zEb,h]
theorem zDB{R:Bs}{e:Int}(h:zAg R=.error e):zAh R=([],R,e):=by rw[zEb,h]
theorem zKR(M:Bs):∀(f:Nat) (R:Bs),R.length≤f→zAh (R++M)=if (zAh R).2.2≠0 then((zAh R).1,(zAh R).2.1++M,(zAh R).2.2)else((zAh R).1++(zAh ((zAh R).2.1++M)).1,(zAh ((zAh R).2.1++M)).2):=by
 intro f
 induction f with
 |zero=>
  intro R h;have h0:zAg R=.ok none:=by unfold zAg;rw[if_pos (by omega)]
  rw[zAF h0]
  simp
 |succ f ih=>
  intro R h
  cases hf:zAg R with
  |error e=>
   have h1:=zNQ M (by rw[hf];simp:zAg R≠.ok none);rw[hf]at h1;rw[zDB h1,zDB hf];simp only;rw[if_pos (zNP hf)]
  |ok o=>
   cases o with
   |none=>
    rw[zAF hf]
    simp
   |some y=>
    obtain⟨b,n⟩:=y;have h1:=zNQ M (by rw[hf];simp:zAg R≠.ok none);rw[hf]at h1;have h3:=(zFY hf).1;rw[zBJ h1,zBJ hf,List.drop_append_of_le_length h3.2,ih (R.drop n) (by rw[List.length_drop];omega)];simp only
    by_cases c:(zAh (R.drop n)).2.2≠0
    · rw[if_pos c,if_pos c]
    · rw[if_neg c,if_neg c,List.cons_append]
theorem zCA:∀(f:Nat) (R:Bs),R.length≤f→∃k,k≤R.length∧(zAh R).2.1=R.drop k∧((zAh R).2.2=0→zAg (R.drop k)=.ok none)∧((zAh R).2.2≠0→zAg (R.drop k)=.error (zAh R).2.2)∧zAh (R.take k)=((zAh R).1,[],0)∧(∀b∈(zAh R).1,zPB R.length b)∧61*(zAh R).1.length≤k:=by
 intro f
 induction f with
 |zero=>
  intro R h;have h0:zAg R=.ok none:=by unfold zAg;rw[if_pos (by omega)]
  refine⟨0,Nat.zero_le _,?_⟩;rw[zAF h0,List.drop_zero,List.take_zero];exact⟨rfl,fun _=>h0,fun hh=>absurd rfl hh,zAF (by unfold zAg;rw[if_pos (by decide)]),(fun b hb=>by cases hb),by simp⟩
 |succ f ih=>
  intro R h
  cases hf:zAg R with
  |error e=>
   refine⟨0,Nat.zero_le _,?_⟩;rw[zDB hf,List.drop_zero,List.take_zero];exact⟨rfl,fun hh=>absurd hh (zNP hf),fun _=>hf,zAF (by unfold zAg;rw[if_pos (by decide)]),(fun b hb=>by cases hb),by simp⟩
  |ok o=>
   cases o with
   |none=>
    refine⟨0,Nat.zero_le _,?_⟩;rw[zAF hf,List.drop_zero,List.take_zero];exact⟨rfl,fun _=>hf,fun hh=>absurd rfl hh,zAF (by unfold zAg;rw[if_pos (by decide)]),(fun b hb=>by cases hb),by simp⟩
   |some y=>
    obtain⟨b,n⟩:=y;obtain⟨h3,hlb⟩:=zFY hf;obtain⟨k,a1,a2,a3,a4,a5,a6,a7⟩:=ih (R.drop n) (by rw[List.length_drop];omega);rw[List.length_drop]at a1;rw[List.drop_drop]at a2 a3 a4;refine⟨n+k,by omega,?_⟩;rw[zBJ hf];refine⟨a2,a3,a4,?_,?_,by simp only[List.length_cons];omega⟩
    · have h4:zAg (R.take (n+k))=.ok (some (b,n)):=zQn hf (by omega);have h5:(R.take (n+k)).drop n=(R.drop n).take k:=by rw[List.drop_take,Nat.add_sub_cancel_left]
      rw[zBJ h4,h5,a5]
    · intro x hx
      rcases List.mem_cons.1 hx with rfl|hx
      · exact hlb
      · have:=a6 x hx;rw[List.length_drop]at this;exact⟨by have:=this.1;omega,fun z hz=>by have:=this.2 z hz;omega⟩
def finS (R:Bs):List BatS×Nat×Bs×Int:=((zAh R).1,R.length - (zAh R).2.1.length,(if (zAh R).2.2≠0 then[]else(zAh R).2.1),(zAh R).2.2)
theorem zKn:finS []=([],0,[],0):=by
 have h0:zAg []=.ok none:=by unfold zAg;rw[if_pos (by decide)]
 unfold finS;rw[zAF h0]
 rfl
theorem zQq(R c:Bs)(h:(finS R).2.2.2≠0):finS (R++c)=finS R:=by
 have h0:(zAh R).2.2≠0:=h;obtain⟨k,a1,a2,_⟩:=zCA _ R (Nat.le_refl _);unfold finS;rw[zKR c _ R (Nat.le_refl _),if_pos h0];simp only;rw[if_pos h0,if_pos h0,List.length_append,List.length_append]
 congr 2
 rw[a2,List.length_drop]
 omega
theorem zPc(R c:Bs)(h:(finS R).2.2.2=0):finS (R++c)=((finS R).1++(zAh ((finS R).2.2.1++c)).1,(finS R).2.1+(((finS R).2.2.1++c).length - (zAh ((finS R).2.2.1++c)).2.1.length),(if (zAh ((finS R).2.2.1++c)).2.2≠0 then[]else(zAh ((finS R).2.2.1++c)).2.1),(zAh ((finS R).2.2.1++c)).2.2):=by
 have h0:¬(zAh R).2.2≠0:=by
  have:(zAh R).2.2=0:=h;rw[this];simp
 obtain⟨k,a1,a2,_⟩:=zCA _ R (Nat.le_refl _);have hr:(finS R).2.2.1=(zAh R).2.1:=by unfold finS;simp only;rw[if_neg h0]
 have hv:(finS R).2.1=R.length - (zAh R).2.1.length:=rfl;have hb:(finS R).1=(zAh R).1:=rfl;rw[hr,hv,hb];unfold finS;rw[zKR c _ R (Nat.le_refl _),if_neg h0];simp only
 congr 2
 obtain⟨k2,b1,b2,_⟩:=zCA _ ((zAh R).2.1++c) (Nat.le_refl _);rw[List.length_append]at b1;have l2:=congrArg List.length b2;rw[List.length_drop,List.length_append]at l2;have l1:=congrArg List.length a2;rw[List.length_drop]at l1;rw[List.length_append,List.length_append]
 omega
def zGi (rest:Bs) (e:Int):Int:=if e≠0 then 2 else if rest≠[]then 1 else 0
theorem zPs(a:Int)(h:chk a=0):zAA (zAb a 3) (zAb a 4) (zAb a 5) 3=a∧(zAb a 5=true→zAb a 4=true):=by
 have hr:0≤a∧a≤63:=by
  unfold chk at h
  split at h
  · cases h
  · split at h
    · cases h
    · rename_i _ h2
      simp only[Bool.or_eq_true,decide_eq_true_eq,not_or]at h2
      omega
 have key:∀k:Fin 64,chk (k.val:Int)=0→zAA (zAb k.val 3) (zAb k.val 4) (zAb k.val 5) 3=k.val∧(zAb k.val 5=true→zAb k.val 4=true):=by decide
 have:=key ⟨a.toNat,by omega⟩;simp only at this;rw[show((a.toNat:Nat):Int)=a by omega]at this;exact this h
theorem zIp(v:Int)(h: -2147483648≤v∧v<2147483648):zAE (v % 4294967296)=v:=by
 unfold zAE;rw[if_neg (by omega)]
 split<;>omega
theorem zL3{s:Bs}(h:61≤s.length)(h2:(preX s).2=2):zAd (preX s).1.items=s.take 61:=by
 have e:=zG8 zAD s h;have hs:zAD.sum=61:=rfl;rw[hs]at e;rw[←e];have h4:=zDk ((s.drop 17).take 4) (by rw[List.length_take];omega);have h5:=zIp _ h4
 have e2:zBp zAD s=[sInt (s.take 8),sInt ((s.drop 8).take 4),sInt ((s.drop 12).take 4),sInt ((s.drop 16).take 1),sInt ((s.drop 17).take 4),sInt ((s.drop 21).take 2),sInt ((s.drop 23).take 4),sInt ((s.drop 27).take 8),sInt ((s.drop 35).take 8),sInt ((s.drop 43).take 8),sInt ((s.drop 51).take 2),sInt ((s.drop 53).take 4),sInt ((s.drop 57).take 4)]:=by
  unfold zAD;simp only[zBp,List.drop_drop,Nat.reduceAdd]
 unfold preX at h2 ⊢;rw[e2]at h2 ⊢;have h3:sInt ((s.drop 16).take 1)=2:=h2;rw[h3]
 show zAd (PreS.items ⟨_,_,_,sInt ((s.drop 17).take 4) % 4294967296,_,_,_,_,_,_,_,_⟩)=_
 unfold PreS.items;simp only[h5]
 rfl
theorem zMI:∀(n:Nat) (rows:Bs) (pos:Nat) (rs:List RecS),pos≤rows.length→unp n ⟨rows,pos,0⟩=.ok rs→rows.drop pos=rs.flatMap encR
  |0,rows,pos,rs,hp,h=>by
    have h:(if (⟨rows,pos,0⟩:InS).left=0 then Except.ok []else Except.error (10:Int))=Except.ok rs:=h
    by_cases c1:(⟨rows,pos,0⟩:InS).left=0
    · rw[if_pos c1]at h
      cases h
      have c2:rows.length - pos=0:=c1;rw[List.drop_of_length_le (by omega)]
      rfl
    · rw[if_neg c1]at h;cases h
  |n+1,rows,pos,rs,hp,h=>by
    have h:(if (⟨rows,pos,0⟩:InS).left=0 then .error 10 else if (⟨rows,pos,0⟩:InS).record.2.err=0 then zH6 (⟨rows,pos,0⟩:InS).record.1 (unp n (⟨rows,pos,0⟩:InS).record.2)else .error (⟨rows,pos,0⟩:InS).record.2.err)=.ok rs:=h
    by_cases c1:(⟨rows,pos,0⟩:InS).left=0
    · rw[if_pos c1]at h;cases h
    rw[if_neg c1]at h
    cases hr:zHB (rows.drop pos)with
    |error e=>
      obtain⟨he,q,_,hf⟩:=zFA.err rows pos e hp hr;rw[hf]at h;simp only at h;rw[if_neg he]at h
      cases h
    |ok y=>
      obtain⟨x,m⟩:=y;obtain⟨hpm,hf⟩:=zFA.ok rows pos x m hp hr;rw[hf]at h;simp only[if_true]at h
      cases hu:unp n ⟨rows,pos+m,0⟩with
      |error e=>rw[hu]at h;cases h
      |ok t=>
        rw[hu]at h;have h:Except.ok (x::t)=Except.ok rs:=h;injection h with h;subst h;have i1:=zMI n rows (pos+m) t hpm hu;have j1:=(zFx hr).1;rw[List.flatMap_cons,←i1,j1,←List.drop_drop,List.take_append_drop]
theorem zNf{s:Bs}{b:BatS}{n:Nat}(h:zCg s=.ok (b,n)):b.enc=s.take n∧zAc b=0∧b.rowsB.length≤s.length∧b.recs.length≤s.length∧∀x∈b.recs,x.R∧zAV x=0∧x.sum≤s.length:=by
 obtain⟨x,hp,hn,hns,ha⟩:=zCU h;obtain⟨p1,p2,p3,p4,p5⟩:=zBH hp;obtain⟨a1,a2,rs,a3,a4,a5⟩:=zIe ha;obtain⟨k,hk⟩:∃k,(x.len - 49).toNat=k:=⟨_,rfl⟩;rw[hk]at hn a1 a3;obtain⟨rows,hrw⟩:∃r,(s.drop 61).take k=r:=⟨_,rfl⟩;rw[hrw]at a1 a3;have hrl:rows.length=k:=by rw[←hrw,List.length_take,List.length_drop];omega
 have u1:=zMI _ _ _ _ (Nat.zero_le _) a3;obtain⟨u2,u3,u4⟩:=zHh _ _ _ _ (Nat.zero_le _) a3;rw[List.drop_zero]at u1;have hrb:b.rowsB=rows:=by rw[u1,a5];rfl
 have hrc:b.recs=rs:=by rw[a5]
 obtain⟨at1,at2⟩:=zPs x.attr a2
 have hpre:b.pre x.sum=x:=by
   unfold BatS.pre;rw[hrb,hrc,hrl,u2];rw[a5];simp only;rw[at1,show 49+((k:Nat):Int)=x.len by omega,show((x.count.toNat:Nat):Int)=x.count by omega]
 have hby:=zL3 p1 p3
 rw[p2]at hby
 have hbk:(s.take 61).drop 21=b.back:=by rw[←hby,←hpre,b.pre_drop]
 have hcr:(b.crc:Int)=x.sum:=by
   unfold BatS.crc;rw[←hbk,hrb];exact a1
 refine⟨?_,by rw[a5];exact a4,by rw[hrb,hrl];omega,by rw[hrc];omega,fun y hy=> ?_⟩
 · unfold BatS.enc;rw[hcr,hpre,hby,hrb,←hrw,hn,List.take_add]
 · rw[hrc]at hy;obtain⟨v1,v2,v3⟩:=u4 y hy;exact⟨v1,v2,by omega⟩
theorem zQc{s:Bs}{x:PreS}(h:zAQ s=.ok x):Rn x.base∧Rn x.leader∧Rn x.last∧Rn x.first∧Rn x.maxt∧Rn x.prod∧Rn x.epoch∧Rn x.seq:=by
 obtain⟨h1,h2,_,h3,h4⟩:=zBH h;rw[zKa]at h2;have h2:=h2.symm;subst h2;have r:∀(k m:Nat),m≤8→Rn (sInt ((s.drop k).take m)):=fun k m hm=>zCT _ (by rw[List.length_take];omega)
 exact⟨r 0 8 (by decide),r 12 4 (by decide),r 23 4 (by decide),r 27 8 (by decide),r 35 8 (by decide),r 43 8 (by decide),r 51 2 (by decide),r 53 4 (by decide)⟩
structure MidOk (b:BatS):Prop where
  fit:∀x∈b.recs,x.R∧zAV x=0∧x.sum≤2000
  len:b.recs.length≤1000
  err:zAc b=0
  rng:b.R
  rows:b.rowsB.length≤2000
theorem zKY:∀(l:List RecS),2*l.length≤(l.flatMap encR).length
  |[]=>by simp
  |x::t=>by
    have h1:=zKY t
    have h2:2≤(encR x).length:=by
      have h3:=zHU x.key;have h4:2≤(recF x).length:=by unfold recF;simp only[List.length_append,List.length_cons,List.length_nil];omega
      show 2≤(putU _++recF x).length
      rw[List.length_append]
      omega
    rw[List.flatMap_cons,List.length_append,List.length_cons]
    omega
theorem MidOk.of{s:Bs}{b:BatS}{n:Nat}(h:zCg s=.ok (b,n))(hl:s.length≤1500):MidOk b:=by
 obtain⟨h1,h2,h3,h4,h5⟩:=zNf h;obtain⟨x,hp,_,_,ha⟩:=zCU h;obtain⟨_,_,rs,_,_,hb⟩:=zIe ha;have hr:=zQc hp;have h6:=zKY b.recs;have h7:(b.recs.flatMap encR).length=b.rowsB.length:=rfl;refine⟨fun y hy=> ?_,by omega,h2,?_,by omega⟩
 · obtain⟨v1,v2,v3⟩:=h5 y hy;exact⟨v1,v2,by omega⟩
 · rw[hb];exact hr
structure EncOk (b:BatS):Prop where
  rows:b.rowsB.length≤400000
  len:b.recs.length≤1000
  err:zAc b=0
  rng:b.R
  recs:∀x∈b.recs,x.R∧zAV x=0∧x.sum≤1000000
theorem EncOk.small{b:BatS}(h:SmallOk b):EncOk b:=⟨h.rows,by have:=h.len;omega,h.err,h.rng,h.recs⟩
end Go.Proofs.YtenojajfacacoaaGreatDoor
