/- A text. -/
import Derived.Test.YtenojajfacacoaaGreatDoorGReportPlaysCard14
import Derived.Lib.Split
import Derived.Lib.SplitLaws
import Derived.Lib.ItoaMem
import Derived.Lib.ItoaLen
import Derived.Test.YtenojajfacacoaaGreatDoorGReportPlaysCard7
import Derived.RegionTactic
import Derived.WalkMore
import Derived.Deep.RegionHeld3
import Derived.Deep.DeepCutAuto
/- A text. -/
namespace Go.Proofs.YtenojajfacacoaaGreatDoor
open Go.RowKit
open Go.Value renaming bool→U, string→Z, slice→Ja, int→I, pointer→Jc
open Go.Ending renaming returned→Jb
open _root_.Nat renaming le_refl→Jo, zero_le→Ji, add_assoc→Jm
open Go.IntKind renaming i64→O
open _root_.Go.Proofs.Tryz renaming prog→Jd
open _root_.List renaming length_cons→Jg, take_of_length_le→Jj, length_take→Jk, length_append→Je, length→Jh, take→Jq, getElem_mem→Jp, length_drop→Jf, length_nil→Jl, length_map→Jn
variable {W0 w:World}{K:Know}{L:List Res}
inductive Said
 |chunks (l:List Int)
 |cut (n:Int)
 |bat (b:BatS)
 |recd (r:RecS)
 |hdr (h:HdrS)
def zEv (r:List Bs):Option BatS:=match zAx (r.take 8),r.drop 8 with
 |some [n0,n1,n2,n3,n4,n5,n6,n7],[t]=>if zQD t then some ⟨n0,n1,hasB t 97,hasB t 116,hasB t 99,n2,n3,n4,n5,n6,n7,[]⟩else none
 | _,_=>none
def zCR:List Bs→Option RecS
 |[a,b,kw,vw]=>match zAx [a,b]with
  |some [t,o]=>if (zA6 kw).2.2 && (zA6 vw).2.2 then some ⟨t,o,⟨(zA6 kw).1,(zA6 kw).2.1⟩,⟨(zA6 vw).1,(zA6 vw).2.1⟩,[]⟩else none
  | _=>none
 | _=>none
def zEt:List Bs→Option HdrS
 |[kw,vw]=>if (hexV kw).2 && (zA6 vw).2.2 then some ⟨(hexV kw).1,⟨(zA6 vw).1,(zA6 vw).2.1⟩⟩else none
 | _=>none
def zEu:List Bs→Option Int
 |[x]=>match zBU x with
  |some n=>if n<0 then none else some n
  |none=>none
 | _=>none
def zBl (r:List Bs):Option (List Int):=if r=[]then none else zAx r
def zBd (n m:Nat) (c:Int) (ch:List Int):List Bs→Option Said
 |[]=>none
 |w::r=>if ch≠[]then none
  else if w=[99,104,117,110,107,115]then(zBl r).map .chunks
  else if c≠ -1 then none
  else if w=[99,117,116]then(zEu r).map .cut
  else if w=[98,97,116,99,104]then(zEv r).map .bat
  else if w=[114,101,99,111,114,100]then(if n=0 then none else(zCR r).map .recd)
  else if w=[104,101,97,100,101,114]then(if n=0∨m=0 then none else(zEt r).map .hdr)
  else none
def BSt.close:BSt→Value→Value→List BtR
 | .zero,_,_=>[]
 | .bat d b,vR,_=>d++[⟨b,[],vR⟩]
 | .recd d b l r,vR,vH=>d++[⟨b,l++[(r,vH)],vR⟩]
def BSt.put (s:BSt) (vR vH:Value):Said→BSt
  | .chunks _=>s
  | .cut _=>s
  | .bat b=> .bat (s.close vR vH) b
  | .recd r=>match s with
    | .zero=>s
    | .bat d b=> .recd d b [] r
    | .recd d b l r0=> .recd d b (l++[(r0,vH)]) r
  | .hdr h=>match s with
    | .recd d b l r=> .recd d b l ⟨r.time,r.off,r.key,r.val,r.hdrs++[h]⟩
    |s=>s
def zFU (c:Int):Said→Int
 | .cut n=>n
 | _=>c
def chOf (ch:List Int):Said→List Int
 | .chunks l=>l
 | _=>ch
def RInt (cs:List Value) (x:Int):Prop:=cs=[I O x]
def MemS (rd:Nat) (s:BSt) (c:Int) (ch:List Int) (W0 w:World) (K:Know) (L:List Res):Prop:=∃vB vR vH q cap,St W0 w K (.raw rd #[vB,I O c,Ja q ch.length cap] 122::s.rows vB vR vH L)∧s.known K∧K.has (Know.flat RInt (Ja q ch.length cap) 1 ch)
theorem zS6{x:Res}{s:BSt}{vB vR vH:Value}(hs:s.known K)(h:St W0 w K (x::s.rows vB vR vH L)):∃K',K'.has K∧(∀y∈s.close vR vH,K'.has (Know.recs y.v y.l))∧St W0 w K' (x::.row vB 30 12 (s.close vR vH).length ((s.close vR vH).flatMap zAZ)::L):=by
 cases s with
 |zero=>exact⟨K,Know.has_refl _,(fun y hy=>by cases hy),(h.p2.drop).p2.drop⟩
 |bat d b=>
  have h1:St W0 w K (.row vR 54 7 ([]:List (RecS×Value)).length (([]:List (RecS×Value)).flatMap zBm)::x::.row vB 30 12 (d.length+1) (d.flatMap zAZ++zEe b vR)::L):=h.p3.drop.p2;obtain⟨K',hk,hr,h2⟩:=shutR h1 (fun y hy=>by cases hy);refine⟨K',hk,fun y hy=> ?_,?_⟩
  · rcases List.mem_append.1 hy with hy|hy
    · exact Know.has_trans hk (hs y hy)
    · rw[List.mem_singleton.1 hy];exact hr
  · have e:(BSt.close (.bat d b) vR vH).flatMap zAZ=d.flatMap zAZ++zEe b vR:=zDO _ _ _;have e2:(BSt.close (.bat d b) vR vH).length=d.length+1:=by simp[BSt.close]
    rw[e,e2];exact h2
 |recd d b l r=>
  have h1:St W0 w K (.row vH 73 3 r.hdrs.length (r.hdrs.flatMap hcells)::x::.row vB 30 12 (d.length+1) (d.flatMap zAZ++zEe b vR)::.row vR 54 7 (l.length+1) (l.flatMap zBm++zBm (r,vH))::L):=h.p3;have h2:=shutH h1
  have h3:St W0 w (K.and (Know.flat RHdr vH 3 r.hdrs)) (.row vR 54 7 (l++[(r,vH)]).length ((l++[(r,vH)]).flatMap zBm)::x::.row vB 30 12 (d.length+1) (d.flatMap zAZ++zEe b vR)::L):=by
    rw[zDO,Je];exact h2.p2
  obtain⟨K',hk,hr,h4⟩:=shutR h3 (fun y hy=>by
    rcases List.mem_append.1 hy with hy|hy
    · exact Know.has_left (hs.2 y hy)
    · rw[List.mem_singleton.1 hy];exact Know.has_right (Know.has_refl _))
  have hk2:K'.has K:=Know.has_trans hk (Know.has_left (Know.has_refl _));refine⟨K',hk2,fun y hy=> ?_,?_⟩
  · rcases List.mem_append.1 hy with hy|hy
    · exact Know.has_trans hk2 (hs.1 y hy)
    · rw[List.mem_singleton.1 hy];exact hr
  · have e:(BSt.close (.recd d b l r) vR vH).flatMap zAZ=d.flatMap zAZ++zEe b vR:=zDO _ _ _;have e2:(BSt.close (.recd d b l r) vR vH).length=d.length+1:=by simp[BSt.close]
    rw[e,e2];exact h4
theorem closeR{x:Res}{d:List BtR}{b:BatS}{l:List (RecS×Value)}{r:RecS}{vB vR vH:Value}(hs:(BSt.recd d b l r).known K)(h:St W0 w K (x::(BSt.recd d b l r).rows vB vR vH L)):(∀y∈l++[(r,vH)],(K.and (Know.flat RHdr vH 3 r.hdrs)).has (Know.flat RHdr y.2 3 y.1.hdrs))∧St W0 w (K.and (Know.flat RHdr vH 3 r.hdrs)) (x::.row vB 30 12 (d.length+1) (d.flatMap zAZ++zEe b vR)::.row vR 54 7 (l++[(r,vH)]).length ((l++[(r,vH)]).flatMap zBm)::L):=by
 refine⟨fun y hy=> ?_,?_⟩
 ·rcases List.mem_append.1 hy with hy|hy
  ·exact Know.has_left (hs.2 y hy)
  ·rw[List.mem_singleton.1 hy];exact Know.has_right (Know.has_refl _)
 ·rw[zDO,Je];exact shutH (r:=r) (show St W0 w K (.row vH 73 3 r.hdrs.length (r.hdrs.flatMap hcells)::x::.row vB 30 12 (d.length+1) (d.flatMap zAZ++zEe b vR)::.row vR 54 7 (l.length+1) (l.flatMap zBm++zBm (r,vH))::L)from h.p3)
def Came (rd:Nat) (s:BSt) (c:Int) (ch:List Int) (o:Option Said) (W0:World) (K:Know) (L:List Res) (b:Bool) (w':World):Prop:=∃K',K'.has K∧match o with
 |none=>b=false∧St W0 w' K' L
 |some k=>b=true∧∃vR vH,MemS rd (s.put vR vH k) (zFU c k) (chOf ch k) W0 w' K' L
theorem Came.no{rd:Nat}{s:BSt}{c:Int}{ch:List Int}{o:Option Said}{W0 w':World}{K:Know}{L:List Res}(ho:o=none)(h:St W0 w' K L):Came rd s c ch o W0 K L false w':=by
 subst ho;exact⟨K,Know.has_refl _,rfl,h⟩
theorem Came.no'{rd:Nat}{s:BSt}{c:Int}{ch:List Int}{o:Option Said}{W0 w':World}{K K':Know}{L:List Res}(ho:o=none)(hk:K'.has K)(h:St W0 w' K' L):Came rd s c ch o W0 K L false w':=by
 subst ho;exact⟨K',hk,rfl,h⟩
theorem Came.yes{rd:Nat}{s:BSt}{c:Int}{ch:List Int}{o:Option Said}{k:Said}{W0 w':World}{K K':Know}{L:List Res}(ho:o=some k)(hk:K'.has K)(vR vH:Value)(h:MemS rd (s.put vR vH k) (zFU c k) (chOf ch k) W0 w' K' L):Came rd s c ch o W0 K L true w':=by
 subst ho;exact⟨K',hk,rfl,vR,vH,h⟩
theorem shutI{cb:Nat}{vs:List Int}(h:St W0 w K (.raw cb (vs.map fun v=>Value.int O v).toArray 3::L)):∃K',K'.has K∧K'.has (Know.flat RInt (Ja (some ⟨cb,0,none⟩) vs.length vs.length) 1 vs)∧St W0 w K' L:=by
 refine⟨_,Know.has_left (Know.has_refl _),Know.has_right (Know.has_refl _),h.freeze fun F S1 _ hr=> ?_⟩;refine⟨_,_,rfl,fun _=>⟨cb,0,rfl,.inr ⟨(hr.2 cb).2 rfl,zA1 hr.1⟩,zA1 hr.1,fun i hi=>⟨[I O vs[i]],rfl,rfl,fun f u hu=> ?_⟩⟩⟩
 rcases f with _|f
 ·rw[zAO hr.1];simp at hu;simp[hi,hu]
 ·simp at hu
theorem zAF{s:BSt}{vB vR vH:Value}(h:St W0 w K (s.rows vB vR vH L)):St W0 w K L:=h.drop.drop.drop
theorem list8{vs:List Int}(h:vs.length=8):∃n0 n1 n2 n3 n4 n5 n6 n7,vs=[n0,n1,n2,n3,n4,n5,n6,n7]:=by
 rcases vs with _|⟨n0,_|⟨n1,_|⟨n2,_|⟨n3,_|⟨n4,_|⟨n5,_|⟨n6,_|⟨n7,_|⟨n8,t⟩⟩⟩⟩⟩⟩⟩⟩⟩<;>simp at h
 exact⟨n0,n1,n2,n3,n4,n5,n6,n7,rfl⟩
theorem list2{vs:List Int}(h:vs.length=2):∃t o,vs=[t,o]:=by
 rcases vs with _|⟨n0,_|⟨n1,_|⟨n2,t⟩⟩⟩<;>simp at h
 exact⟨n0,n1,rfl⟩
theorem zQf(r:List Bs)(h:r.length≠9):zEv r=none:=by
 unfold zEv
 split
 ·rename_i h1 h2
  exfalso
  have:=congrArg Jh h2;simp at this
  omega
 ·rfl
theorem zKS(ws:List Bs)(t:Bs)(h:8=ws.length):zEv (ws++[t])=match zAx ws with
 |some [n0,n1,n2,n3,n4,n5,n6,n7]=>if zQD t then some ⟨n0,n1,hasB t 97,hasB t 116,hasB t 99,n2,n3,n4,n5,n6,n7,[]⟩else none
 | _=>none:=by
 unfold zEv;rw[List.take_left' h.symm,List.drop_left' h.symm]
 cases hn:zAx ws with
 |none=>rfl
 |some vs=>
  obtain⟨n0,n1,n2,n3,n4,n5,n6,n7,rfl⟩:=list8 ((zBP ws vs hn).trans h.symm)
  rfl
theorem split9(r:List Bs)(h:r.length=9):∃ws t,r=ws++[t]∧8=ws.length:=by
 refine⟨r.take 8,r[8],?_,by simp;omega⟩;rw[←List.take_succ_eq_append_getElem (by omega:8<r.length),Jj oM]
def zAv (c:UInt8):Bs→List Bs
 |[]=>[[]]
 |x::t=>if x=c then[]::zAv c t else match zAv c t with
  |[]=>[[x]]
  |h::r=>(x::h)::r
theorem zCe(c:UInt8):∀s:Bs,∃h r,zAv c s=h::r
 |[]=>⟨_,_,rfl⟩
 |x::t=>by
  obtain⟨h,r,e⟩:=zCe c t;unfold zAv
  by_cases hx:x=c
  ·rw[if_pos hx];exact⟨_,_,rfl⟩
  ·rw[if_neg hx,e];exact⟨_,_,rfl⟩
theorem zDY(c:UInt8)(x:UInt8)(t:Bs)(hx:x=c):zAv c (x::t)=[]::zAv c t:=by
 show(if x=c then[]::zAv c t else match zAv c t with|[]=>[[x]]|h::r=>(x::h)::r)=_
 rw[if_pos hx]
theorem zBr(c:UInt8)(x:UInt8)(t h:Bs)(r:List Bs)(hx:¬x=c)(e:zAv c t=h::r):zAv c (x::t)=(x::h)::r:=by
 show(if x=c then[]::zAv c t else match zAv c t with|[]=>[[x]]|h::r=>(x::h)::r)=_
 rw[if_neg hx,e]
theorem zHv(c:UInt8):∀s:Bs,(Lib.index s [c]= -1∧zAv c s=[s])∨∃i:Nat,Lib.index s [c]=i∧i<s.length∧zAv c s=s.take i::zAv c (s.drop (i+1))
 |[]=> .inl ⟨rfl,rfl⟩
 |x::t=>by
  by_cases hx:x=c
  ·refine .inr ⟨0,?_,by simp,?_⟩
   ·unfold Lib.index;rw[if_pos (by simp[List.isPrefixOf,hx])];rfl
   ·rw[zDY c x t hx];rfl
  ·have h0:([c]:Bs).isPrefixOf (x::t)=false:=by
    have:(c==x)=false:=by rw[beq_eq_false_iff_ne];exact fun h=>hx h.symm
    simp[List.isPrefixOf,this]
   rcases zHv c t with ⟨h1,h2⟩|⟨i,h1,h2,h3⟩
   ·refine .inl ⟨?_,?_⟩
    ·unfold Lib.index;rw[h0,h1];rfl
    ·rcases t with _|⟨y,t⟩
     ·exact zBr c x [] [] [] hx rfl
     ·exact zBr c x _ _ _ hx h2
   ·refine .inr ⟨i+1,?_,by simp;omega,?_⟩
    ·unfold Lib.index;rw[h0,h1];have:((i:Int)== -1)=false:=by rw[beq_eq_false_iff_ne];omega
     simp[this]
    ·exact zBr c x _ _ _ hx h3
theorem zRc(c:UInt8)(s:Bs):(zAv c s=[s]∧Lib.cut s [c]=(s,[],false))∨∃i,i<s.length∧zAv c s=s.take i::zAv c (s.drop (i+1))∧Lib.cut s [c]=(s.take i,s.drop (i+1),true):=by
 rcases zHv c s with ⟨h1,h2⟩|⟨i,h1,h2,h3⟩
 ·exact .inl ⟨h2,by unfold Lib.cut;rw[h1];rfl⟩
 ·refine .inr ⟨i,h2,h3,?_⟩;unfold Lib.cut;rw[h1,if_pos oM]
  rfl
theorem zF2(c:UInt8):∀(n:Nat) (s:Bs),s.length≤n→Lib.splitK [c] 0 (Lib.count s [c]) s=zAv c s
 |0,s,h=>by
  obtain rfl:s=[]:=List.length_eq_zero_iff.1 oM
  rfl
 |n+1,s,h=>by
  rcases zHv c s with ⟨h1,h2⟩|⟨i,h1,h2,h3⟩
  ·rw[Lib.count_miss h1,h2];rfl
  ·rw[Lib.count_hit sM h1,Nat.add_comm,h3];have hm:¬(Lib.index s [c]== -1)=true:=fun e=>by have:=beq_iff_eq.1 e;omega
   have e:(Lib.index s [c]).toNat=i:=by omega
   unfold Lib.splitK;rw[if_neg hm,e];have ih:=zF2 c n (s.drop (i+1)) (by simp;omega)
   show s.take (i+0)::Lib.splitK [c] 0 (Lib.count (s.drop (i+1)) [c]) (s.drop (i+1))=_
   rw[ih]
   rfl
theorem zKr(c:UInt8)(s:Bs):Lib.splitB (bb [c]) 0 (Lib.countB (bb s) (bb [c])) (bb s)=(zAv c s).map bb:=by
 have d1:(bb s).data.toList=s:=by simp
 have d2:(bb [c]).data.toList=[c]:=by simp
 have h:=Lib.splitB_data (bb [c]) 0 (Lib.countB (bb s) (bb [c])) (bb s);unfold Lib.countB at h ⊢;rw[d1,d2]at h ⊢;rw[zF2 c s.length s (Jo _)]at h;rw[←h,List.map_map]
 conv=>lhs;rw[←List.map_id (Lib.splitB _ _ _ _)]
 refine List.map_congr_left fun x _=> ?_
 show x=bb x.data.toList
 rcases x with ⟨⟨l⟩⟩
 rfl
theorem zI9(s:Bs):zDw s=(zAv 32 s).map bb:=zKr 32 s
def zAN (c:UInt8):List Bs→Bs
 |[]=>[]
 |[w]=>w
 |w::t=>w++c::zAN c t
theorem zD3(c:UInt8)(w h:Bs)(t:List Bs):zAN c (w::h::t)=w++c::zAN c (h::t):=rfl
theorem zD2(c:UInt8):∀s:Bs,zAN c (zAv c s)=s
 |[]=>rfl
 |x::t=>by
  have ih:=zD2 c t;obtain⟨h,r,e⟩:=zCe c t
  by_cases hx:x=c
  ·rw[zDY c x t hx,e,zD3,←e,ih,hx];rfl
  ·rw[zBr c x t h r hx e];rw[e]at ih
   rcases r with _|⟨h2,r⟩
   ·show x::h=x::t
    rw[show h=t from ih]
   ·show zAN c ((x::h)::h2::r)=_
    rw[zD3]at ih ⊢;rw[←ih];rfl
theorem zFC(c:UInt8):∀s:Bs,(zAv c s).length≤s.length+1∧∀y∈zAv c s,y.length≤s.length
 |[]=>⟨Jo _,fun y hy=>by rw[List.mem_singleton.1 hy];exact Jo _⟩
 |x::t=>by
  obtain⟨h1,h2⟩:=zFC c t;obtain⟨h,r,e⟩:=zCe c t
  by_cases hx:x=c
  ·rw[zDY c x t hx];exact⟨by simp;omega,fun y hy=>by rcases List.mem_cons.1 hy with rfl|hy;exact Ji _;have:=h2 y hy;simp;omega⟩
  ·rw[zBr c x t h r hx e];rw[e]at h1 h2;refine⟨by simp at h1 ⊢;omega,fun y hy=> ?_⟩
   rcases List.mem_cons.1 hy with rfl|hy
   ·have:=h2 h sM;simp;omega
   ·have:=h2 y (by simp[hy]);simp;omega
def nOf (n:Nat):Said→Nat
 | .bat _=>n+1
 | _=>n
def mOf (m:Nat):Said→Nat
 | .bat _=>0
 | .recd _=>m+1
 | _=>m
def zCm (n m:Nat) (c:Int) (ch:List Int) (ln:Nat):List Bs→Nat
 |[]=>0
 |[l]=>if l=[]then 0 else ln
 |l::r=>match zBd n m c ch (zAv 32 l)with
  |none=>ln
  |some k=>zCm (nOf n k) (mOf m k) (zFU c k) (chOf ch k) (ln+1) r
def numW (n:Int):Bs:=Lib.itoa n
def zBa (b:BlobS):Bs:=if b.null then[110,111,110,101]else hexW b.data
def hdrT (h:HdrS):Bs:=[104,101,97,100,101,114]++32::(hexW h.key++32::(zBa h.val++[10]))
def recH (r:RecS):Bs:=[114,101,99,111,114,100]++32::(numW r.time++32::(numW r.off++32::(zBa r.key++32::(zBa r.val++[10]))))
def recT (r:RecS):Bs:=recH r++r.hdrs.flatMap hdrT
def zJK (l:List Int):Bs:=l.flatMap fun n=>32::numW n
def batN (b:BatS):List Int:=[b.base,b.leader,b.last,b.first,b.maxt,b.prod,b.epoch,b.seq]
def batL (b:BatS):Bs:=[98,97,116,99,104]++(zJK (batN b)++32::(letW b.app b.txn b.ctl++[10]))
def btT (x:BtR):Bs:=batL x.b++x.l.flatMap fun y=>recT y.1
def cutT (c:Int):Bs:=if c<0 then[]else[99,117,116]++32::(numW c++[10])
def chT (l:List Int):Bs:=if l=[]then[]else[99,104,117,110,107,115]++(zJK l++[10])
def BSt.txt:BSt→Bs
 | .zero=>[]
 | .bat d b=>d.flatMap btT++batL b
 | .recd d b l r=>d.flatMap btT++(batL b++(l.flatMap (fun y=>recT y.1)++recT r))
def txtS (s:BSt) (c:Int) (ch:List Int):Bs:=s.txt++(cutT c++chT ch)
def oddB (b:BlobS):Bool:=b.null && !b.data.isEmpty
def zDg (r:RecS):Prop:=oddB r.key=false∧oddB r.val=false∧(∀h∈r.hdrs,oddB h.val=false)∧Rn r.time∧Rn r.off
def batR (b:BatS):Prop:=∀n∈batN b,Rn n
def zCN (x:BtR):Prop:=batR x.b∧∀y∈x.l,zDg y.1
def BSt.fine:BSt→Prop
 | .zero=>True
 | .bat d b=>(∀x∈d,zCN x)∧batR b
 | .recd d b l r=>(∀x∈d,zCN x)∧batR b∧(∀y∈l,zDg y.1)∧zDg r
theorem zLa{x:Bs}{v:Int}(h:zBU x=some v):numW v=x:=by
 unfold zBU at h
 split at h
 ·rename_i e
  injection h with h;subst h;exact e
 ·cases h
theorem zFD:∀{l:List Bs}{vs:List Int},zAx l=some vs→vs.map numW=l
 |[],vs,h=>by unfold zAx at h;injection h with h;subst h;rfl
 |a::t,vs,h=>by
  unfold zAx at h
  cases ha:zBU a with
  |none=>rw[ha]at h;cases h
  |some x=>
   rw[ha]at h;simp only at h
   cases ht:zAx t with
   |none=>rw[ht]at h;cases h
   |some y=>rw[ht]at h;injection h with h;subst h;rw[List.map_cons,zLa ha,zFD ht]
theorem zIQ{l:List Bs}{vs:List Int}(h:zAx l=some vs):zJK vs=l.flatMap fun w=>32::w:=by
 rw[←zFD h,List.flatMap_map];rfl
theorem zK9{x:Bs}{v:Int}(h:zBU x=some v):Rn v:=by
 unfold zBU at h
 split at h
 ·injection h with h;subst h;exact zLT x
 ·cases h
theorem zD1:∀{l:List Bs}{vs:List Int},zAx l=some vs→∀v∈vs,Rn v
 |[],vs,h=>by unfold zAx at h;injection h with h;subst h;exact fun v hv=>by cases hv
 |a::t,vs,h=>by
  unfold zAx at h
  cases ha:zBU a with
  |none=>rw[ha]at h;cases h
  |some x=>
   rw[ha]at h;simp only at h
   cases ht:zAx t with
   |none=>rw[ht]at h;cases h
   |some y=>
    rw[ht]at h;injection h with h;subst h;intro v hv
    rcases List.mem_cons.1 hv with rfl|hv
    ·exact zK9 ha
    ·exact zD1 ht v hv
theorem zFI(w:Bs):∀r:List Bs,zAN 32 (w::r)=w++r.flatMap fun w=>32::w
 |[]=>by simp[zAN]
 |h::t=>by
  rw[zD3,zFI h t,List.flatMap_cons]
  rfl
theorem zNI{w d:Bs}(h:hexV w=(d,true)):hexW d=w:=by
 unfold hexV at h
 cases hr:zJN w with
 |none=>rw[hr]at h;cases h
 |some c=>rw[hr]at h;injection h with h1 h2;subst h1;exact zQK hr
theorem zRt{w d:Bs}{nl:Bool}(h:zA6 w=(nl,d,true)):zBa ⟨nl,d⟩=w∧oddB ⟨nl,d⟩=false:=by
 unfold zA6 at h
 by_cases hw:w=[110,111,110,101]
 ·rw[if_pos hw]at h;injection h with h1 h2;injection h2 with h2 h3;subst h1 h2 hw;exact⟨rfl,rfl⟩
 ·rw[if_neg hw]at h;injection h with h1 h2;injection h2 with h2 h3;subst h1;refine⟨?_,rfl⟩
  show hexW d=w
  exact zNI (Prod.ext h2 h3)
theorem zQJ(w:Bs)(h:(hexV w).2=true):hexW (hexV w).1=w:=zNI (Prod.ext rfl h)
theorem zFW(w:Bs)(h:(zA6 w).2.2=true):zBa ⟨(zA6 w).1,(zA6 w).2.1⟩=w∧oddB ⟨(zA6 w).1,(zA6 w).2.1⟩=false:=zRt (Prod.ext rfl (Prod.ext rfl h))
theorem zQd{r:List Bs}{h:HdrS}(e:zEt r=some h):hdrT h=[104,101,97,100,101,114]++(r.flatMap fun w=>32::w)++[10]∧oddB h.val=false:=by
 unfold zEt at e
 split at e
 ·rename_i kw vw
  split at e
  ·rename_i hb
   rw[Bool.and_eq_true]at hb;injection e with e;subst e;obtain⟨h1,h2⟩:=zFW vw hb.2;refine⟨?_,h2⟩;unfold hdrT;simp only;rw[zQJ kw hb.1,h1]
   simp
  ·cases e
 ·cases e
theorem zQc{r:List Bs}{x:RecS}(e:zCR r=some x):recT x=[114,101,99,111,114,100]++(r.flatMap fun w=>32::w)++[10]∧zDg x:=by
 unfold zCR at e
 split at e
 ·rename_i a b kw vw
  split at e
  ·rename_i t o hn
   split at e
   ·rename_i hb
    rw[Bool.and_eq_true]at hb;injection e with e;subst e;obtain⟨h1,h2⟩:=zFW kw hb.1;obtain⟨h3,h4⟩:=zFW vw hb.2;have hg:=zD1 hn;refine⟨?_,h2,h4,(fun h hh=>by cases hh),hg t sM,hg o sM⟩;have h5:=zFD hn;simp only[List.map_cons,List.map_nil,List.cons.injEq,and_true]at h5;unfold recT recH;simp only;rw[h5.1,h5.2,h1,h3]
    simp
   ·cases e
  ·cases e
 ·cases e
theorem zKR{r:List Bs}{b:BatS}(e:zEv r=some b):batL b=[98,97,116,99,104]++(r.flatMap fun w=>32::w)++[10]∧batR b:=by
 unfold zEv at e
 split at e
 ·rename_i n0 n1 n2 n3 n4 n5 n6 n7 t hn hd
  split at e
  ·rename_i hl
   injection e with e;subst e;have h1:=zIQ hn;have h2:letW (hasB t 97) (hasB t 116) (hasB t 99)=t:=eq_of_beq hl;have hg:=zD1 hn;refine⟨?_,fun n hn=>hg n (by simp only[batN,List.mem_cons,List.not_mem_nil,or_false]at hn ⊢;omega)⟩;unfold batL batN;simp only;rw[h1,h2];have h3:r=r.take 8++[t]:=by rw[←hd,List.take_append_drop]
   conv=>rhs;rw[h3]
   simp
  ·cases e
 ·cases e
theorem zQe{r:List Bs}{n:Int}(e:zEu r=some n):cutT n=[99,117,116]++(r.flatMap fun w=>32::w)++[10]∧0≤n∧Rn n:=by
 unfold zEu at e
 split at e
 ·rename_i x
  split at e
  ·rename_i v hv
   split at e
   ·cases e
   ·rename_i h0
    injection e with e;subst e;refine⟨?_,oM,zK9 hv⟩;unfold cutT;rw[if_neg h0,zLa hv]
    simp
  ·cases e
 ·cases e
theorem zF8{r:List Bs}{l:List Int}(e:zBl r=some l):chT l=[99,104,117,110,107,115]++(r.flatMap fun w=>32::w)++[10]∧∀v∈l,Rn v:=by
 unfold zBl at e
 split at e
 ·cases e
 ·rename_i h0
  have h1:=zBP _ _ e;refine⟨?_,zD1 e⟩;unfold chT;rw[if_neg (by intro h;subst h;exact h0 (List.length_eq_zero_iff.1 h1.symm)),zIQ e]
  simp
theorem zLz(s:BSt)(vR vH:Value):(s.close vR vH).flatMap btT=s.txt:=by
 cases s with
 |zero=>rfl
 |bat d b=>show(d++[_]).flatMap btT=_;rw[List.flatMap_append];simp[btT,BSt.txt]
 |recd d b l r=>show(d++[_]).flatMap btT=_;rw[List.flatMap_append];simp[btT,BSt.txt]
theorem zI3(s:BSt)(vR vH:Value)(h:s.fine):∀x∈s.close vR vH,zCN x:=by
 cases s with
 |zero=>exact fun x hx=>by cases hx
 |bat d b=>
  intro x hx
  rcases List.mem_append.1 hx with hx|hx
  ·exact h.1 x hx
  ·rw[List.mem_singleton.1 hx];exact⟨h.2,fun y hy=>by cases hy⟩
 |recd d b l r=>
  intro x hx
  rcases List.mem_append.1 hx with hx|hx
  ·exact h.1 x hx
  ·rw[List.mem_singleton.1 hx];refine⟨h.2.1,fun y hy=> ?_⟩
   rcases List.mem_append.1 hy with hy|hy
   ·exact h.2.2.1 y hy
   ·rw[List.mem_singleton.1 hy];exact h.2.2.2
theorem zUj(s:BSt)(vR vH:Value):(s.close vR vH).length=s.n:=by cases s<;>simp[BSt.close,BSt.n]
theorem zB1(n m:Nat)(c:Int)(ch:List Int)(w:Bs)(r:List Bs):zBd n m c ch (w::r)=if ch≠[]then none
 else if w=[99,104,117,110,107,115]then(zBl r).map .chunks
 else if c≠ -1 then none
 else if w=[99,117,116]then(zEu r).map .cut
 else if w=[98,97,116,99,104]then(zEv r).map .bat
 else if w=[114,101,99,111,114,100]then(if n=0 then none else(zCR r).map .recd)
 else if w=[104,101,97,100,101,114]then(if n=0∨m=0 then none else(zEt r).map .hdr)
 else none:=rfl
theorem zSp(s:BSt)(c:Int)(ch:List Int)(l:Bs)(k:Said)(vR vH:Value)(hc: -1≤c)(hcr:Rn c)(hcs:∀v∈ch,Rn v)(hf:s.fine)(e:zBd s.n s.m c ch (zAv 32 l)=some k):
 txtS (s.put vR vH k) (zFU c k) (chOf ch k)=txtS s c ch++(l++[10])∧(s.put vR vH k).n=nOf s.n k∧(s.put vR vH k).m=mOf s.m k∧(s.put vR vH k).p≤s.p+1∧ -1≤zFU c k∧Rn (zFU c k)∧(∀v∈chOf ch k,Rn v)∧(s.put vR vH k).fine:=by
 obtain⟨w,r,hp⟩:=zCe 32 l;have hl:l=w++r.flatMap fun w=>32::w:=by rw[←zD2 32 l,hp,zFI]
 rw[hp,zB1]at e
 split at e
 ·cases e
 rename_i hch
 have hch:ch=[]:=Classical.not_not.1 hch;subst hch
 split at e
 ·rename_i hw
  cases h1:zBl r with
  |none=>rw[h1]at e;cases e
  |some v=>
   rw[h1]at e;injection e with e;subst e;refine⟨?_,rfl,rfl,Nat.le_succ _,hc,hcr,(zF8 h1).2,hf⟩
   show s.txt++(cutT c++chT v)=s.txt++(cutT c++chT [])++_
   rw[(zF8 h1).1,hl,hw];simp[chT]
 split at e
 ·cases e
 rename_i hc1
 have hc1:c= -1:=Classical.not_not.1 hc1;subst hc1;have t0:txtS s (-1) []=s.txt:=by simp[txtS,cutT,chT]
 split at e
 ·rename_i hw
  cases h1:zEu r with
  |none=>rw[h1]at e;cases e
  |some v=>
   rw[h1]at e;injection e with e;subst e;obtain⟨h2,h3,h4⟩:=zQe h1;refine⟨?_,rfl,rfl,Nat.le_succ _,(show -1≤v by omega),h4,hcs,hf⟩;rw[t0]
   show s.txt++(cutT v++chT [])=_
   rw[h2,hl,hw];simp[chT]
 split at e
 ·rename_i hw
  cases h1:zEv r with
  |none=>rw[h1]at e;cases e
  |some v=>
   rw[h1]at e;injection e with e;subst e;refine⟨?_,by show(s.close vR vH).length+1=s.n+1;rw[zUj],rfl,Ji _,hc,hcr,hcs,zI3 s vR vH hf,(zKR h1).2⟩;rw[t0]
   show(BSt.bat (s.close vR vH) v).txt++(cutT (-1)++chT [])=_
   show((s.close vR vH).flatMap btT++batL v)++(cutT (-1)++chT [])=_
   rw[zLz,(zKR h1).1,hl,hw];simp[chT,cutT]
 split at e
 ·rename_i hw
  split at e
  ·cases e
  rename_i hn
  cases h1:zCR r with
  |none=>rw[h1]at e;cases e
  |some v=>
   rw[h1]at e;injection e with e;subst e;obtain⟨h2,h3⟩:=zQc h1
   have h0:v.hdrs.length=0:=by
    unfold zCR at h1
    split at h1
    ·split at h1
     ·split at h1
      ·injection h1 with h1;subst h1;rfl
      ·cases h1
     ·cases h1
    ·cases h1
   cases s with
   |zero=>exact absurd rfl hn
   |bat d b=>
    refine⟨?_,rfl,rfl,(show v.hdrs.length≤_ by omega),hc,hcr,hcs,hf.1,hf.2,(fun y hy=>by cases hy),h3⟩;rw[t0]
    show(d.flatMap btT++(batL b++(([]:List (RecS×Value)).flatMap (fun y=>recT y.1)++recT v)))++(cutT (-1)++chT [])=_
    rw[h2,hl,hw];simp[chT,cutT,BSt.txt]
   |recd d b l0 r0=>
    refine⟨?_,rfl,by show(l0++[_]).length+1=_;simp[mOf,BSt.m],(show v.hdrs.length≤_ by omega),hc,hcr,hcs,hf.1,hf.2.1,(fun y hy=> ?_),h3⟩
    ·rw[t0]
     show(d.flatMap btT++(batL b++((l0++[(r0,vH)]).flatMap (fun y=>recT y.1)++recT v)))++(cutT (-1)++chT [])=_
     rw[h2,hl,hw];simp[chT,cutT,BSt.txt]
    ·rcases List.mem_append.1 hy with hy|hy
     ·exact hf.2.2.1 y hy
     ·rw[List.mem_singleton.1 hy];exact hf.2.2.2
 split at e
 ·rename_i hw
  split at e
  ·cases e
  rename_i hn
  cases h1:zEt r with
  |none=>rw[h1]at e;cases e
  |some v=>
   rw[h1]at e;injection e with e;subst e;obtain⟨h2,h3⟩:=zQd h1
   cases s with
   |zero=>exact absurd (.inl rfl) hn
   |bat d b=>exact absurd (.inr rfl) hn
   |recd d b l0 r0=>
    refine⟨?_,rfl,rfl,(show(r0.hdrs++[v]).length≤r0.hdrs.length+1 by simp),hc,hcr,hcs,hf.1,hf.2.1,hf.2.2.1,hf.2.2.2.1,hf.2.2.2.2.1,(fun h hh=> ?_),hf.2.2.2.2.2.2⟩
    ·rw[t0]
     show(d.flatMap btT++(batL b++(l0.flatMap (fun y=>recT y.1)++(recH r0++(r0.hdrs++[v]).flatMap hdrT))))++(cutT (-1)++chT [])=_
     rw[List.flatMap_append];have h9:[v].flatMap hdrT=hdrT v:=by simp
     rw[h9,h2,hl,hw];simp[chT,cutT,BSt.txt,recT]
    ·rcases List.mem_append.1 hh with hh|hh
     ·exact hf.2.2.2.2.2.1 h hh
     ·rw[List.mem_singleton.1 hh];exact h3
 ·cases e
theorem zD8(c:UInt8)(n:Int)(hn:n=c.toNat){W0 w:World}{K:Know}{L:List Res}{b:Nat}{T:TypeId}(h:St W0 w K (.raw b #[.int .u8 n] T::L)):
 (convert 57 9 (Ja (some ⟨b,0,none⟩) 1 1)).run Jd w=.ok (Z (bb [c])) w:=by
 subst hn;refine run_convert_bytes_back (P:=Jd) w 57 9 5 ⟨b,0,none⟩ 1 [c] Tryz.underlying57 Tryz.underlying5 Tryz.underlying9 (fun j hj=> ?_);have hj:j=0:=by simp at hj;exact hj
 subst hj;exact h.rawCell 0
theorem zC5{u:Nat}(h:u<10):Lib.decDigits u=[UInt8.ofNat (48+u)]:=by rw[Lib.decDigits,dif_pos h]
theorem zE3(v:Nat)(h:v≤9223372036854775807):(Lib.decDigits v).length≤29:=by
 have h1:=Lib.itoa_length_le v oM oM;rw[Lib.itoa_nonneg]at h1
 omega
theorem zUe(v:Nat)(h:v≤9223372036854775807):(Lib.decDigits v).length≤30:=Nat.le_succ_of_le (zE3 v h)
theorem zFT{u:Nat}(h:¬u<10):Lib.decDigits u=Lib.decDigits (u / 10)++[UInt8.ofNat (48+u % 10)]:=by rw[Lib.decDigits,dif_neg h]
theorem zE2(d:Nat)(h:d<10):(UInt8.ofNat (48+d)).toNat=48+d:=by rw[UInt8.toNat_ofNat'];omega
theorem zK4:∀(n u:Nat),u≤n→u≤9223372036854775808→∀r:Bs,Lib.parseUint10 0 (Lib.decDigits u++r)=Lib.parseUint10 u r
 |0,u,h,hu,r=>by
  obtain rfl:u=0:=by omega
  rw[zC5 oM]
  rfl
 |n+1,u,h,hu,r=>by
  by_cases hs:u<10
  ·rw[zC5 hs]
   show Lib.parseUint10 0 (UInt8.ofNat (48+u)::r)=_
   unfold Lib.parseUint10;rw[zE2 u hs,if_pos oM,if_neg oM,if_neg oM,show 0*10+(48+u - 48)=u by omega]
   cases r<;>rfl
  ·rw[zFT hs,List.append_assoc,zK4 n (u / 10) oM oM]
   show Lib.parseUint10 (u / 10) (UInt8.ofNat (48+u % 10)::r)=_
   conv=>lhs;unfold Lib.parseUint10
   rw[zE2 (u % 10) oM,if_pos oM,if_neg oM,if_neg oM,show u / 10*10+(48+u % 10 - 48)=u by omega]
theorem zS5(u:Nat):∃(d:Nat) (r:Bs),d<10∧Lib.decDigits u=UInt8.ofNat (48+d)::r:=by
 induction u using Nat.strongRecOn with
 | _ u ih=>
  by_cases hs:u<10
  ·exact⟨u,[],hs,zC5 hs⟩
  ·obtain⟨d,r,h1,h2⟩:=ih (u / 10) oM;exact⟨d,r++[UInt8.ofNat (48+u % 10)],h1,by rw[zFT hs,h2];rfl⟩
theorem zF9(u:Nat)(hu:u≤9223372036854775808):Lib.parseMag (Lib.decDigits u)=.ok u:=by
 unfold Lib.parseMag;obtain⟨d,r,_,h2⟩:=zS5 u;rw[if_neg (by rw[h2];simp)];have h:=zK4 u u (Jo _) hu [];rw[List.append_nil]at h;rw[h];rfl
theorem zRA(n:Int)(hn:Rn n):Lib.atoiAll (Lib.itoa n)=.ok n:=by
 unfold Rn at hn
 by_cases h0:n<0
 ·obtain⟨u,rfl⟩:∃u:Nat,n= -(u:Int):=⟨n.natAbs,oM⟩;rw[Lib.itoa_neg u oM];unfold Lib.atoiAll;simp only;rw[if_pos (.inr rfl),zF9 u oM];have e:(45:UInt8).toNat=45:=rfl;simp only[e];rw[if_neg sM,if_neg oM,if_pos sM]
 ·obtain⟨u,rfl⟩:∃u:Nat,n=(u:Int):=⟨n.natAbs,oM⟩;rw[Lib.itoa_nonneg];obtain⟨d,r,h1,h2⟩:=zS5 u;have hm:=zF9 u oM;rw[h2]at hm ⊢;unfold Lib.atoiAll;simp only;rw[zE2 d h1,if_neg oM,hm];simp only;rw[if_neg oM,if_neg oM,if_neg oM]
theorem zIS(n:Int)(hn:Rn n):zBU (numW n)=some n:=by
 have e:zEC (numW n)=n:=by unfold zEC numW;rw[zRA n hn]
 unfold zBU;rw[e];exact if_pos rfl
theorem zDm:∀(l:List Int),(∀n∈l,Rn n)→zAx (l.map numW)=some l
 |[],_=>rfl
 |n::t,h=>by
  show(match zBU (numW n)with|none=>none|some v=>(zAx (t.map numW)).map (v:: ·))=_
  rw[zIS n (h n sM),zDm t (fun x hx=>h x (by simp[hx]))]
  rfl
set_option maxHeartbeats 8000000
set_option maxRecDepth 100000
variable {W0 w:World}{K:Know}{L:List Res}
theorem zKP(rd wb off cap nw:Nat)(c:Array Value)(hnw:nw≠9)(h:St W0 w K (.raw rd c 122::L)):
 Calls Jd 113 #[Jc (some ⟨rd,0,none⟩),Ja (some ⟨wb,off,none⟩) nw cap] w fun en w'=>en=Jb (U false)∧St W0 w' K L:=by
 obtain⟨nb,hnb⟩:=eX w.heap.size;have g1:=h.allocRaw #[I O 0,I O 0,I O 0,I O 0,I O 0,I O 0,I O 0,I O 0] 135;rw[hnb]at g1;have H:=hQd g1;have e1:((nw:Int)==9)=false:=by rw[beq_eq_false_iff_ne];omega
 have e2:((nw:Int) !=9)=true:=by simp[bne,e1]
 clear h g1 hnw;go_enter Tryz.func113,Tryz.ntmps113;go_upto_region 2 with fail;have hs:=H.out.drew;clear H;refine wp_region_held_drew (S:=fun _=>True) kR trivial (fun hHeld=> ?_);refine tR 0 ?_;refine tR 1 ?_;refine tR 2 ?_;refine tR 3 ?_;refine wpAnyH_take (i:=4) (oi:=⟨some 12,.slice 135 (.tmp 5) none none none,23,_,_,some (3,false)⟩) (v:=undef) rfl kR kR kR (fun _ _ _ h=>h) (Or.inr ⟨by rfl,rfl⟩) (by assumption) ?_;simp only[Act.put,sA,sB,sC];refine wpAnyH_take (i:=5) (oi:=⟨some 13,.move (.tmp 1),69,_,_,some (3,false)⟩) (v:=undef) rfl kR kR kR (fun _ _ _ h=>h) (Or.inr ⟨by rfl,rfl⟩) (by assumption) ?_;simp only[Act.put,sA,sB,sC];refine wpAnyH_take (i:=6) (oi:=⟨some 14,.slice 69 (.tmp 13) none (some (.const (Value.int IntKind.i64 8))) none,69,_,_,some (3,false)⟩) (v:=undef) rfl kR kR kR (fun _ _ _ h=>h) (Or.inr ⟨by rfl,rfl⟩) (by assumption) ?_;simp only[Act.put,sA,sB,sC];refine wpAnyH_take (i:=7) (oi:=⟨some 15,.call {callee:=.value (.func 139),args:= #[.tmp 12,.tmp 14],argTypes:= #[23,69]},4,_,_,some (3,false)⟩) (v:=undef) rfl kR kR kR (fun _ _ _ h=>h) (Or.inr ⟨by rfl,rfl⟩) (by assumption) ?_;simp only[Act.put,sA,sB,sC];refine wpAnyH_take (i:=8) (oi:=⟨some 16,.unOp UnOp.not 4 (.tmp 15),4,_,_,some (3,false)⟩) (v:=undef) rfl kR kR kR (fun _ _ _ h=>h) (Or.inr ⟨by rfl,rfl⟩) (by assumption) ?_;simp only[Act.put,sA,sB,sC];refine tR 9 ?_;refine wpAnyH_done kR ?_ _;clear hHeld;have H:=hQd hs;clear hs;go_wp2_with fail;go_ret;exact⟨rfl,H.out.drop.drop⟩
theorem zKQ(rd wb off cap:Nat)(c:Array Value)(ws:List Bs)(s:Bs)(hw:8=ws.length)(hns:zAx ws=none)(hxl:∀y∈ws,y.length≤1000000)(hcap:9≤cap)(hlib:K.has Know.lib)(hk:K.has (Know.strw wb off (ws++[s])))(h:St W0 w K (.raw rd c 122::L)):
 Calls Jd 113 #[Jc (some ⟨rd,0,none⟩),Ja (some ⟨wb,off,none⟩) 9 cap] w fun en w'=>en=Jb (U false)∧St W0 w' K L:=by
 obtain⟨nb,hnb⟩:=eX w.heap.size;have g1:=h.allocRaw #[I O 0,I O 0,I O 0,I O 0,I O 0,I O 0,I O 0,I O 0] 135;rw[hnb]at g1;have H:=hQd g1;have HK2:=hQd (show K.has (Know.strw wb off ws)from by have h9:=zBR hk 8;rw[List.take_append_of_le_length oM,Jj oM]at h9;exact h9);have HLIB:=hQd hlib;have HW:=hQd hw;have HNS:=hQd hns;have HXL:=hQd hxl;have HZ:=hQd (show((#[I O 0,I O 0,I O 0,I O 0,I O 0,I O 0,I O 0,I O 0]:Array Value)).size=ws.length from hw);have HL1:=hQd (show ws.length≤1000000 by omega);have hc8:(8:Int)≤(cap:Int):=by omega
 clear h g1 hk hlib hns hxl hw hcap;go_enter Tryz.func113,Tryz.ntmps113;go_upto_region 2 with fail;have hs:=H.out.drew;clear H;refine wp_region_held_drew (S:=fun _=>True) kR trivial (fun hHeld=> ?_);refine tR 0 ?_;refine tR 1 ?_;refine tR 2 ?_;refine tR 3 ?_;refine tR 4 ?_;refine tR 5 ?_;refine tR 6 ?_;refine wR [7] (rC rfl (fun KK hK=> ?_) rN);go_simp;go_at_call 139;with_reducible refine(zDa nb #[I O 0,I O 0,I O 0,I O 0,I O 0,I O 0,I O 0,I O 0] 135 wb off cap 8 ws 8 HW.out HNS.out HZ.out HL1.out HXL.out HLIB.out HK2.out hs).mono ?_;rintro e wq ⟨rfl,hs⟩;refine zK hK (trivial) (fun hHeld=> ?_);clear hK KK
 refine tR 8 ?_;refine tR 9 ?_;refine wpAnyH_done kR ?_ _;clear hHeld;have H:=hQd hs;clear hs;go_wp2_with fail;go_ret;exact⟨rfl,H.out.drop⟩
theorem zIb(rd wb off cap n bcap:Nat)(q:Option Addr)(ch:Value)(c:Int)(nw:Nat)(hn:n=0)(h:St W0 w K (.raw rd #[Ja q n bcap,I O c,ch] 122::L)):
 Calls Jd 114 #[Jc (some ⟨rd,0,none⟩),Ja (some ⟨wb,off,none⟩) nw cap] w fun en w'=>en=Jb (U false)∧St W0 w' K L:=by
 obtain⟨nb,hnb⟩:=eX w.heap.size;have g1:=h.allocRaw #[I O 0,I O 0] 194;rw[hnb]at g1;have H:=hQd g1;subst hn;clear h g1;go_enter Tryz.func114,Tryz.ntmps114;go_upto_region 2 with fail;have hs:=H.out.drew;have KEEP:=hQd (show ∀(w':World) (L':List Res),St W0 w' K (.raw rd #[Ja q 0 bcap,I O c,ch] 122::L')→w'.cell? ⟨rd,0,none⟩=some (Ja q 0 bcap)from fun w' L' h'=>h'.rawCell 0);clear H;refine wp_region_held_drew (S:=fun w'=>w'.cell? ⟨rd,0,none⟩=some (Ja q 0 bcap)) kR (KEEP.out _ _ hs.p1) (fun hHeld=> ?_);refine tR 0 ?_;refine tR 1 ?_;refine tR 2 ?_;refine tR 3 ?_;refine tR 4 ?_;refine tR 5 ?_;refine tR 6 ?_;refine tR 7 ?_;refine wpAnyH_take (i:=8) (oi:=⟨some 19,.move (.tmp 1),69,_,_,some (7,false)⟩) (v:=undef) rfl kR kR kR (fun _ _ _ h=>h) (Or.inr ⟨by rfl,rfl⟩) (by assumption) ?_;simp only[Act.put,sA,sB,sC];refine wpAnyH_take (i:=9) (oi:=⟨some 20,.call {callee:=.builtin .len,args:= #[.tmp 19],argTypes:= #[69]},3,_,_,some (7,false)⟩) (v:=undef) rfl kR kR kR (fun _ _ _ h=>h) (Or.inr ⟨by rfl,rfl⟩) (by assumption) ?_;simp only[Act.put,sA,sB,sC];refine wpAnyH_take (i:=10) (oi:=⟨some 21,.binOp .neq 3 (.tmp 20) (.const (Value.int IntKind.i64 4)) 3,4,_,_,some (7,false)⟩) (v:=undef) rfl kR kR kR (fun _ _ _ h=>h) (Or.inr ⟨by rfl,rfl⟩) (by assumption) ?_;simp only[Act.put,sA,sB,sC];refine tR 11 ?_;refine tR 12 ?_;refine wpAnyH_take (i:=13) (oi:=⟨some 24,.slice 194 (.tmp 5) none none none,23,_,_,some (12,false)⟩) (v:=undef) rfl kR kR kR (fun _ _ _ h=>h) (Or.inr ⟨by rfl,rfl⟩) (by assumption) ?_;simp only[Act.put,sA,sB,sC];refine wpAnyH_take (i:=14) (oi:=⟨some 25,.move (.tmp 1),69,_,_,some (12,false)⟩) (v:=undef) rfl kR kR kR (fun _ _ _ h=>h) (Or.inr ⟨by rfl,rfl⟩) (by assumption) ?_;simp only[Act.put,sA,sB,sC];refine wpAnyH_take (i:=15) (oi:=⟨some 26,.slice 69 (.tmp 25) none (some (.const (Value.int IntKind.i64 2))) none,69,_,_,some (12,false)⟩) (v:=undef) rfl kR kR kR (fun _ _ _ h=>h) (Or.inr ⟨by rfl,rfl⟩) (by assumption) ?_;simp only[Act.put,sA,sB,sC];refine wpAnyH_take (i:=16) (oi:=⟨some 27,.call {callee:=.value (.func 139),args:= #[.tmp 24,.tmp 26],argTypes:= #[23,69]},4,_,_,some (12,false)⟩) (v:=undef) rfl kR kR kR (fun _ _ _ h=>h) (Or.inr ⟨by rfl,rfl⟩) (by assumption) ?_;simp only[Act.put,sA,sB,sC];refine wpAnyH_take (i:=17) (oi:=⟨some 28,.unOp UnOp.not 4 (.tmp 27),4,_,_,some (12,false)⟩) (v:=undef) rfl kR kR kR (fun _ _ _ h=>h) (Or.inr ⟨by rfl,rfl⟩) (by assumption) ?_;simp only[Act.put,sA,sB,sC];refine tR 18 ?_;refine wpAnyH_done kR ?_ _;clear hHeld;have H:=hQd hs;clear hs;go_wp2_with fail;go_ret;exact⟨rfl,H.out.drop.drop⟩
theorem zJz(rd wb off cap n bcap:Nat)(q:Option Addr)(ch:Value)(c:Int)(nw:Nat)(hn:n≠0)(hnw:nw≠4)(h:St W0 w K (.raw rd #[Ja q n bcap,I O c,ch] 122::L)):
 Calls Jd 114 #[Jc (some ⟨rd,0,none⟩),Ja (some ⟨wb,off,none⟩) nw cap] w fun en w'=>en=Jb (U false)∧St W0 w' K L:=by
 obtain⟨nb,hnb⟩:=eX w.heap.size;have g1:=h.allocRaw #[I O 0,I O 0] 194;rw[hnb]at g1;have H:=hQd g1;have q0:((n:Int)==0)=false:=by rw[beq_eq_false_iff_ne];omega
 have e1:((nw:Int)==4)=false:=by rw[beq_eq_false_iff_ne];omega
 have e2:((nw:Int) !=4)=true:=by simp[bne,e1]
 clear h g1 hn hnw;go_enter Tryz.func114,Tryz.ntmps114;go_upto_region 2 with fail;have hs:=H.out.drew;have KEEP:=hQd (show ∀(w':World) (L':List Res),St W0 w' K (.raw rd #[Ja q n bcap,I O c,ch] 122::L')→w'.cell? ⟨rd,0,none⟩=some (Ja q n bcap)from fun w' L' h'=>h'.rawCell 0);clear H;refine wp_region_held_drew (S:=fun w'=>w'.cell? ⟨rd,0,none⟩=some (Ja q n bcap)) kR (KEEP.out _ _ hs.p1) (fun hHeld=> ?_);refine tR 0 ?_;refine tR 1 ?_;refine tR 2 ?_;refine tR 3 ?_;refine tR 4 ?_;refine tR 5 ?_;refine tR 6 ?_;refine tR 7 ?_;refine tR 8 ?_;refine tR 9 ?_;refine tR 10 ?_;refine tR 11 ?_;refine tR 12 ?_;refine wpAnyH_take (i:=13) (oi:=⟨some 24,.slice 194 (.tmp 5) none none none,23,_,_,some (12,false)⟩) (v:=undef) rfl kR kR kR (fun _ _ _ h=>h) (Or.inr ⟨by rfl,rfl⟩) (by assumption) ?_;simp only[Act.put,sA,sB,sC];refine wpAnyH_take (i:=14) (oi:=⟨some 25,.move (.tmp 1),69,_,_,some (12,false)⟩) (v:=undef) rfl kR kR kR (fun _ _ _ h=>h) (Or.inr ⟨by rfl,rfl⟩) (by assumption) ?_;simp only[Act.put,sA,sB,sC];refine wpAnyH_take (i:=15) (oi:=⟨some 26,.slice 69 (.tmp 25) none (some (.const (Value.int IntKind.i64 2))) none,69,_,_,some (12,false)⟩) (v:=undef) rfl kR kR kR (fun _ _ _ h=>h) (Or.inr ⟨by rfl,rfl⟩) (by assumption) ?_;simp only[Act.put,sA,sB,sC];refine wpAnyH_take (i:=16) (oi:=⟨some 27,.call {callee:=.value (.func 139),args:= #[.tmp 24,.tmp 26],argTypes:= #[23,69]},4,_,_,some (12,false)⟩) (v:=undef) rfl kR kR kR (fun _ _ _ h=>h) (Or.inr ⟨by rfl,rfl⟩) (by assumption) ?_;simp only[Act.put,sA,sB,sC];refine wpAnyH_take (i:=17) (oi:=⟨some 28,.unOp UnOp.not 4 (.tmp 27),4,_,_,some (12,false)⟩) (v:=undef) rfl kR kR kR (fun _ _ _ h=>h) (Or.inr ⟨by rfl,rfl⟩) (by assumption) ?_;simp only[Act.put,sA,sB,sC];refine tR 18 ?_;refine wpAnyH_done kR ?_ _;clear hHeld;have H:=hQd hs;clear hs;go_wp2_with fail;go_ret;exact⟨rfl,H.out.drop.drop⟩
theorem zJA(rd wb off cap n bcap:Nat)(q:Option Addr)(ch:Value)(c:Int)(a b kw vw:Bs)(hn:n≠0)(hns:zAx [a,b]=none)(hxl:∀y∈[a,b],y.length≤1000000)(hcap:4≤cap)(hlib:K.has Know.lib)(hk:K.has (Know.strw wb off [a,b,kw,vw]))(h:St W0 w K (.raw rd #[Ja q n bcap,I O c,ch] 122::L)):
 Calls Jd 114 #[Jc (some ⟨rd,0,none⟩),Ja (some ⟨wb,off,none⟩) 4 cap] w fun en w'=>en=Jb (U false)∧St W0 w' K L:=by
 obtain⟨nb,hnb⟩:=eX w.heap.size;have g1:=h.allocRaw #[I O 0,I O 0] 194;rw[hnb]at g1;have H:=hQd g1;have q0:((n:Int)==0)=false:=by rw[beq_eq_false_iff_ne];omega
 have q4:(2:Int)≤(cap:Int):=by omega
 have HK2:=hQd (show K.has (Know.strw wb off [a,b])from zBR hk 2);have HLIB:=hQd hlib;have HW:=hQd (show 2=[a,b].length from rfl);have HNS:=hQd hns;have HXL:=hQd hxl;have HZ:=hQd (show(#[Value.int O 0,I O 0]:Array Value).size=[a,b].length from rfl);have HL1:=hQd (show[a,b].length≤1000000 by simp);clear h g1 hn hns hxl hcap hk hlib;go_enter Tryz.func114,Tryz.ntmps114;go_upto_region 2 with fail;have hs:=H.out.drew;have KEEP:=hQd (show ∀(w':World) (L':List Res),St W0 w' K (.raw rd #[Ja q n bcap,I O c,ch] 122::L')→w'.cell? ⟨rd,0,none⟩=some (Ja q n bcap)from fun w' L' h'=>h'.rawCell 0);clear H;refine wp_region_held_drew (S:=fun w'=>w'.cell? ⟨rd,0,none⟩=some (Ja q n bcap)) kR (KEEP.out _ _ hs.p1) (fun hHeld=> ?_);refine tR 0 ?_;refine tR 1 ?_;refine tR 2 ?_;refine tR 3 ?_;refine tR 4 ?_;refine tR 5 ?_;refine tR 6 ?_;refine tR 7 ?_;refine tR 8 ?_;refine tR 9 ?_;refine tR 10 ?_;refine tR 11 ?_;refine tR 12 ?_;refine tR 13 ?_;refine tR 14 ?_;refine tR 15 ?_;refine wR [16] (rC rfl (fun KK hK=> ?_) rN);go_simp;go_at_call 139;with_reducible refine(zDa nb #[I O 0,I O 0] 194 wb off cap 2 [a,b] 2 HW.out HNS.out HZ.out HL1.out HXL.out HLIB.out HK2.out hs).mono ?_;rintro e wq ⟨rfl,hs⟩;refine zK hK (KEEP.out _ _ hs) (fun hHeld=> ?_);clear hK KK
 refine tR 17 ?_;refine tR 18 ?_;refine wpAnyH_done kR ?_ _;clear hHeld;have H:=hQd hs;clear hs;go_wp2_with fail;go_ret;exact⟨rfl,H.out.drop⟩
theorem zIc(rd wb off cap n bcap:Nat)(q:Option Addr)(ch:Value)(c:Int)(nw:Nat)(hn:n=0)(h:St W0 w K (.raw rd #[Ja q n bcap,I O c,ch] 122::L)):
 Calls Jd 115 #[Jc (some ⟨rd,0,none⟩),Ja (some ⟨wb,off,none⟩) nw cap] w fun en w'=>en=Jb (U false)∧St W0 w' K L:=by
 subst hn;have H:=hQd h;have z0:=(h).rawCell 0;simp at z0;clear h;go_enter Tryz.func115,Tryz.ntmps115;go_wp2_with fail;go_ret;exact⟨rfl,H.out.drop⟩
theorem zEP(rd wb off cap n bcap:Nat)(q:Option Addr)(ch:Value)(c:Int)(nw:Nat)(hn:n≠0)(hnw:nw≠2)(h:St W0 w K (.raw rd #[Ja q n bcap,I O c,ch] 122::L)):
 Calls Jd 115 #[Jc (some ⟨rd,0,none⟩),Ja (some ⟨wb,off,none⟩) nw cap] w fun en w'=>en=Jb (U false)∧St W0 w' K L:=by
 have q0:((n:Int)==0)=false:=by rw[beq_eq_false_iff_ne];omega
 have e1:((nw:Int)==2)=false:=by rw[beq_eq_false_iff_ne];omega
 have e2:((nw:Int) !=2)=true:=by simp[bne,e1]
 have H:=hQd h;have z0:=(h).rawCell 0;simp at z0;clear h hn hnw;go_enter Tryz.func115,Tryz.ntmps115;go_wp2_with fail;go_ret;exact⟨rfl,H.out.drop⟩
theorem k_bat(rd wb off cap:Nat)(s:BSt)(q:Option Addr)(vB vR vH:Value)(r:List Bs)(hx:∀y∈r,y.length≤1000000)(hr:r.length≤1000000)(hb:s.n≤1000000∧s.m≤1000000∧s.p≤1000000){W0 w:World}{K:Know}{L:List Res}(hlib:K.has Know.lib)(hs:s.known K)(hk:K.has (Know.strw wb off r))(h:St W0 w K (.raw rd #[vB,I O (-1),Ja q 0 cap] 122::s.rows vB vR vH L)):
 Calls Jd 113 #[Jc (some ⟨rd,0,none⟩),Ja (some ⟨wb,off,none⟩) r.length r.length] w fun en w'=>∃b,en=Jb (U b)∧Came rd s (-1) [] ((zEv r).map .bat) W0 K L b w':=by
 by_cases h9:r.length=9
 ·obtain⟨ws,t,rfl,hw⟩:=split9 r h9;have e:=zKS ws t hw;rw[h9]
  cases hn:zAx ws with
  |none=>
   rw[hn]at e;refine(zKQ rd wb off 9 _ ws t hw hn (fun y hy=>hx y (List.mem_append_left _ hy)) oM hlib hk h).mono ?_;rintro en w' ⟨rfl,h⟩;exact⟨_,rfl,.no (by rw[e];rfl) (zAF h)⟩
  |some vs=>
   obtain⟨n0,n1,n2,n3,n4,n5,n6,n7,rfl⟩:=list8 ((zBP ws vs hn).trans hw.symm);rw[hn]at e;simp only at e;obtain⟨K',hk',hc,h1⟩:=zS6 hs h
   have hlen:(s.close vR vH).length≤1000000:=by
    have:(s.close vR vH).length=s.n:=by cases s<;>simp[BSt.close,BSt.n]
    rw[this];exact hb.1
   refine(zR7 rd wb off 9 vB (Ja q 0 cap) (-1) (s.close vR vH).length ((s.close vR vH).flatMap zAZ) ws t n0 n1 n2 n3 n4 n5 n6 n7 (hasB t 97) (hasB t 116) (hasB t 99) (zQD t) hw hn rfl rfl rfl rfl hlen (fun y hy=>hx y (List.mem_append_left _ hy)) oM (Know.has_trans hk' hlib) (Know.has_trans hk' hk) h1).mono ?_;rintro en w' ⟨v',rfl,h2⟩;refine⟨_,rfl,?_⟩
   cases hl:zQD t with
   |false=>
    rw[hl]at e;exact .no' (by rw[e];rfl) hk' h2.drop.drop
   |true=>
    rw[hl]at e;have e9:(zEv (ws++[t])).map Said.bat=some (.bat ⟨n0,n1,hasB t 97,hasB t 116,hasB t 99,n2,n3,n4,n5,n6,n7,[]⟩):=by rw[e];rfl
    refine .yes e9 hk' vR vH ⟨v',Ja none 0 0,Ja none 0 0,q,cap,?_,hc,?_⟩
    ·exact((h2.nilRow 54 7).p2.p2.nilRow 73 3).p3.p3.p3
    ·exact fun w F hh=>⟨q,cap,rfl,fun h0=>absurd h0 (Nat.lt_irrefl 0)⟩
 ·refine(zKP rd wb off r.length r.length _ h9 h).mono ?_;rintro en w' ⟨rfl,h⟩;exact⟨_,rfl,.no (by rw[zQf r h9];rfl) (zAF h)⟩
variable {W0 w:World}{K:Know}{L:List Res}
theorem zIe(rd wb off cap nw:Nat)(v x2:Value)(c:Int)(ws:List Bs)(vs:List Int)(hw:nw=ws.length)(hpos:0<nw)(hns:zAx ws=some vs)(hxl:∀y∈ws,y.length≤1000000)(hl:nw≤1000000)(hlib:K.has Know.lib)(hk:K.has (Know.strw wb off ws))(h:St W0 w K (.raw rd #[v,I O c,x2] 122::L)):
 Calls Jd 111 #[Jc (some ⟨rd,0,none⟩),Ja (some ⟨wb,off,none⟩) nw cap] w fun en w'=>∃cb,en=Jb (U true)∧St W0 w' K (.raw cb (vs.map fun v=>Value.int O v).toArray 3::.raw rd #[v,I O c,Ja (some ⟨cb,0,none⟩) nw nw] 122::L):=by
 obtain⟨cb,hcb⟩:=eX w.heap.size;have hmk:=zMx nw hl;have g0:=h.allocRaw (madeCells #[Value.int O 0] nw) 3;rw[hcb]at g0;have c2:=g0.p1.rawCell 2;have r2:=g0.p1.rawFree 2;simp at c2;have hz:=(g0.p1.rawSet 2 (Ja (some ⟨cb,0,none⟩) nw nw)).p1;have H:=hQd (show St W0 _ K (.raw cb (madeCells #[Value.int O 0] nw) 3::.raw rd #[v,I O c,Ja (some ⟨cb,0,none⟩) nw nw] 122::L)from hz);have d2:=H.out.p1.rawCell 2;simp at d2;have HLIB:=hQd hlib;have HK:=hQd hk;have HW:=hQd hw;have HNS:=hQd hns;have HXL:=hQd hxl;have HZ:=hQd (show(madeCells #[Value.int O 0] nw).size=ws.length by rw[zND,hw]);have HL1:=hQd (show ws.length≤1000000 by omega);have q1:0<nw:=hpos;have q2:decide (0<nw)=true:=decide_eq_true hpos;have q3:(0:Int)<(nw:Int):=by omega
 have q4:decide ((0:Int)<(nw:Int))=true:=decide_eq_true q3;clear h g0 hk hlib hz hns hxl hw hl hpos;go_enter Tryz.func111,Tryz.ntmps111;go_wp2_with (go_at_call 139;(with_reducible refine(zCb cb (madeCells #[Value.int O 0] nw) 3 wb off cap nw ws vs nw HW.out HNS.out HZ.out HL1.out HXL.out HLIB.out HK.out H.out).zM ?_);clear H;intro wn H);go_ret;exact⟨_,rfl,H.out⟩
theorem zJB(rd wb off cap nw:Nat)(v x2:Value)(c:Int)(ws:List Bs)(hw:nw=ws.length)(hpos:0<nw)(hns:zAx ws=none)(hxl:∀y∈ws,y.length≤1000000)(hl:nw≤1000000)(hlib:K.has Know.lib)(hk:K.has (Know.strw wb off ws))(h:St W0 w K (.raw rd #[v,I O c,x2] 122::L)):
 Calls Jd 111 #[Jc (some ⟨rd,0,none⟩),Ja (some ⟨wb,off,none⟩) nw cap] w fun en w'=>en=Jb (U false)∧St W0 w' K L:=by
 obtain⟨cb,hcb⟩:=eX w.heap.size;have hmk:=zMx nw hl;have g0:=h.allocRaw (madeCells #[Value.int O 0] nw) 3;rw[hcb]at g0;have c2:=g0.p1.rawCell 2;have r2:=g0.p1.rawFree 2;simp at c2;have hz:=(g0.p1.rawSet 2 (Ja (some ⟨cb,0,none⟩) nw nw)).p1;have H:=hQd (show St W0 _ K (.raw cb (madeCells #[Value.int O 0] nw) 3::.raw rd #[v,I O c,Ja (some ⟨cb,0,none⟩) nw nw] 122::L)from hz);have d2:=H.out.p1.rawCell 2;simp at d2;have HLIB:=hQd hlib;have HK:=hQd hk;have HW:=hQd hw;have HNS:=hQd hns;have HXL:=hQd hxl;have HZ:=hQd (show(madeCells #[Value.int O 0] nw).size=ws.length by rw[zND,hw]);have HL1:=hQd (show ws.length≤1000000 by omega);have q1:0<nw:=hpos;have q2:decide (0<nw)=true:=decide_eq_true hpos;have q3:(0:Int)<(nw:Int):=by omega
 have q4:decide ((0:Int)<(nw:Int))=true:=decide_eq_true q3;clear h g0 hk hlib hz hns hxl hw hl hpos;go_enter Tryz.func111,Tryz.ntmps111;go_wp2_with (go_at_call 139;(with_reducible refine(zDa cb (madeCells #[Value.int O 0] nw) 3 wb off cap nw ws nw HW.out HNS.out HZ.out HL1.out HXL.out HLIB.out HK.out H.out).zM ?_);clear H;intro wn H);go_ret;exact⟨rfl,H.out.drop⟩
theorem zId(rd wb off cap:Nat)(v x2:Value)(c:Int)(ws:List Bs)(hlib:K.has Know.lib)(hk:K.has (Know.strw wb off ws))(h:St W0 w K (.raw rd #[v,I O c,x2] 122::L)):
 Calls Jd 111 #[Jc (some ⟨rd,0,none⟩),Ja (some ⟨wb,off,none⟩) 0 cap] w fun en w'=>en=Jb (U false)∧St W0 w' K L:=by
 obtain⟨cb,hcb⟩:=eX w.heap.size;have hmk:=zMx 0 oM;simp only[Int.natCast_zero]at hmk;have g0:=h.allocRaw (madeCells #[Value.int O 0] 0) 3;rw[hcb]at g0;have c2:=g0.p1.rawCell 2;have r2:=g0.p1.rawFree 2;simp at c2;have hz:=(g0.p1.rawSet 2 (Ja (some ⟨cb,0,none⟩) 0 0)).p1;have H:=hQd (show St W0 _ K (.raw cb (madeCells #[Value.int O 0] 0) 3::.raw rd #[v,I O c,Ja (some ⟨cb,0,none⟩) 0 0] 122::L)from hz);have d2:=H.out.p1.rawCell 2;simp at d2;have HLIB:=hQd hlib;have HK:=hQd hk;clear h g0 hk hlib hz;go_enter Tryz.func111,Tryz.ntmps111;go_wp2_with fail;go_ret;exact⟨rfl,H.out.drop.drop⟩
theorem zOz(rd wb off cap nw:Nat)(v ch:Value)(c:Int)(ws:List Bs)(hw:nw=ws.length)(hne:nw≠1)(h:St W0 w K (.raw rd #[v,I O c,ch] 122::L)):
 Calls Jd 112 #[Jc (some ⟨rd,0,none⟩),Ja (some ⟨wb,off,none⟩) nw cap] w fun en w'=>en=Jb (U false)∧St W0 w' K L:=by
 obtain⟨nb,hnb⟩:=eX w.heap.size;have g1:=h.allocRaw #[I O 0] 191;rw[hnb]at g1;have H:=hQd g1;have HW:=hQd hw;have HNE:=hQd hne;clear h g1 hw hne;go_enter Tryz.func112,Tryz.ntmps112;go_wp2_with (go_at_call 139;(with_reducible refine(zKu nb 1 nw wb off cap 1 ws HW.out HNE.out H.out).zM ?_);clear H;intro wn H);go_ret;exact⟨rfl,H.out.drop.drop⟩
theorem zOA(rd wb off cap:Nat)(v ch:Value)(c:Int)(x:Bs)(hx:zBU x=none)(hxl:x.length≤1000000)(hlib:K.has Know.lib)(hk:K.has (Know.strw wb off [x]))(h:St W0 w K (.raw rd #[v,I O c,ch] 122::L)):
 Calls Jd 112 #[Jc (some ⟨rd,0,none⟩),Ja (some ⟨wb,off,none⟩) 1 cap] w fun en w'=>en=Jb (U false)∧St W0 w' K L:=by
 obtain⟨nb,hnb⟩:=eX w.heap.size;have g1:=h.allocRaw #[I O 0] 191;rw[hnb]at g1;have H:=hQd g1;have HK:=hQd hk;have HLIB:=hQd hlib;have HXL:=hQd (show ∀y∈[x],y.length≤1000000 from fun y hy=>by rw[List.mem_singleton.1 hy];exact hxl);have HL1:=hQd (show[x].length≤1000000 by simp);have HNS:=hQd (show zAx [x]=none by show(match zBU x with|none=>none|some v=>(zAx []).map (v:: ·))=_;rw[hx]);clear h g1 hk hlib hx hxl;go_enter Tryz.func112,Tryz.ntmps112;go_wp2_with (go_at_call 139;(with_reducible refine(zDa nb #[I O 0] 191 wb off cap 1 [x] 1 rfl HNS.out rfl HL1.out HXL.out HLIB.out HK.out H.out).zM ?_);clear H;intro wn H);go_ret;exact⟨rfl,H.out.drop⟩
theorem zOy(rd wb off cap:Nat)(v ch:Value)(c:Int)(x:Bs)(n:Int)(hx:zBU x=some n)(hn:n<0)(hxl:x.length≤1000000)(hlib:K.has Know.lib)(hk:K.has (Know.strw wb off [x]))(h:St W0 w K (.raw rd #[v,I O c,ch] 122::L)):
 Calls Jd 112 #[Jc (some ⟨rd,0,none⟩),Ja (some ⟨wb,off,none⟩) 1 cap] w fun en w'=>en=Jb (U false)∧St W0 w' K L:=by
 obtain⟨nb,hnb⟩:=eX w.heap.size;have g1:=h.allocRaw #[I O 0] 191;rw[hnb]at g1;have H:=hQd g1;have HK:=hQd hk;have HLIB:=hQd hlib;have HXL:=hQd (show ∀y∈[x],y.length≤1000000 from fun y hy=>by rw[List.mem_singleton.1 hy];exact hxl);have HL1:=hQd (show[x].length≤1000000 by simp);have HNS:=hQd (show zAx [x]=some [n] by show(match zBU x with|none=>none|some v=>(zAx []).map (v:: ·))=_;rw[hx];rfl);have q2:decide (n<0)=true:=decide_eq_true hn;clear h g1 hk hlib hx hxl;go_enter Tryz.func112,Tryz.ntmps112;go_wp2_with (go_at_call 139;(with_reducible refine(zCb nb #[I O 0] 191 wb off cap 1 [x] [n] 1 rfl HNS.out rfl HL1.out HXL.out HLIB.out HK.out H.out).mono ?_);rintro e_ wn ⟨rfl,h⟩;have h:St W0 wn K (.raw nb #[I O n] 191::_):=h;have c0:=h.rawCell 0;simp at c0;replace H:=hQd h;clear h);go_ret;exact⟨rfl,H.out.drop.drop⟩
theorem zHc(rd wb off cap g bcap k n rcap:Nat)(qr:Option Addr)(ch:Value)(c:Int)(xs:List Value)(hn:n=k+1)(hn6:n≤1000000)(hxs:xs[k*12+11]? =some (Ja qr 0 rcap))(h:St W0 w K (.raw rd #[(Ja (some ⟨g,0,none⟩) n bcap),I O c,ch] 122::.row (Ja (some ⟨g,0,none⟩) n bcap) 30 12 n xs::L)):
 Calls Jd 115 #[Jc (some ⟨rd,0,none⟩),Ja (some ⟨wb,off,none⟩) 2 cap] w fun en w'=>en=Jb (U false)∧St W0 w' K L:=by
 have H:=hQd h;have HJ:=hQd (show k*12+11<n*12 by omega);have z0:w.cell? ⟨rd,0,none⟩=some (Ja (some ⟨g,0,none⟩) n bcap):=h.rawCell 0;have z1:w.cell? ⟨g,k*12+11,none⟩=some (Ja qr 0 rcap):=(h.p1.rowCell (k*12+11) HJ.out).trans hxs;have q0:((n:Int)==0)=false:=by rw[beq_eq_false_iff_ne];omega
 have q1:(n:Int) - 1=(k:Int):=by omega
 have q3:(k:Int)<(n:Int):=by omega
 have q5:(k:Int)≤1000000:=by omega
 clear h hxs hn hn6;go_enter Tryz.func115,Tryz.ntmps115;go_upto_region 3 with fail
 go_region
 all_goals
  go_wp2_with fail;go_ret;exact⟨rfl,H.out.drew.drop.drop⟩
theorem k_cut(rd wb off cap:Nat)(s:BSt)(q:Option Addr)(vB vR vH:Value)(r:List Bs)(hx:∀y∈r,y.length≤1000000)(hr:r.length≤1000000)(hb:s.n≤1000000∧s.m≤1000000∧s.p≤1000000)(hlib:K.has Know.lib)(hs:s.known K)(hk:K.has (Know.strw wb off r))(h:St W0 w K (.raw rd #[vB,I O (-1),Ja q 0 cap] 122::s.rows vB vR vH L)):
 Calls Jd 112 #[Jc (some ⟨rd,0,none⟩),Ja (some ⟨wb,off,none⟩) r.length r.length] w fun en w'=>∃b,en=Jb (U b)∧Came rd s (-1) [] ((zEu r).map .cut) W0 K L b w':=by
 by_cases h1:r.length=1
 ·obtain⟨x,rfl⟩:∃x,r=[x]:=List.length_eq_one_iff.1 h1;have hxl:x.length≤1000000:=hx x sM
  cases hn:zBU x with
  |none=>
   refine(zOA rd wb off 1 vB _ (-1) x hn hxl hlib hk h).mono ?_;rintro en w' ⟨rfl,h⟩;exact⟨_,rfl,.no (by simp[zEu,hn]) (zAF h)⟩
  |some n=>
   by_cases h0:n<0
   ·refine(zOy rd wb off 1 vB _ (-1) x n hn h0 hxl hlib hk h).mono ?_;rintro en w' ⟨rfl,h⟩;exact⟨_,rfl,.no (by simp[zEu,hn,h0]) (zAF h)⟩
   ·refine(rd_cut rd wb off 1 vB _ (-1) n x hn oM hxl hlib hk h).mono ?_;rintro en w' ⟨rfl,h⟩;have e9:(zEu [x]).map Said.cut=some (.cut n):=by simp[zEu,hn,h0]
    exact⟨_,rfl,.yes e9 (Know.has_refl _) vR vH ⟨vB,vR,vH,q,cap,h,hs,fun w F hh=>⟨q,cap,rfl,fun h0=>absurd h0 (Nat.lt_irrefl 0)⟩⟩⟩
 ·refine(zOz rd wb off r.length r.length vB _ (-1) r rfl h1 h).mono ?_;rintro en w' ⟨rfl,h⟩;refine⟨_,rfl,.no ?_ (zAF h)⟩
  rcases r with _|⟨a,_|⟨b,t⟩⟩
  ·rfl
  ·exact absurd rfl h1
  ·rfl
theorem zNF(rd wb off cap:Nat)(s:BSt)(c:Int)(q:Option Addr)(vB vR vH:Value)(r:List Bs)(hx:∀y∈r,y.length≤1000000)(hr:r.length≤1000000)(hb:s.n≤1000000∧s.m≤1000000∧s.p≤1000000)(hlib:K.has Know.lib)(hs:s.known K)(hk:K.has (Know.strw wb off r))(h:St W0 w K (.raw rd #[vB,I O c,Ja q 0 cap] 122::s.rows vB vR vH L)):
 Calls Jd 111 #[Jc (some ⟨rd,0,none⟩),Ja (some ⟨wb,off,none⟩) r.length r.length] w fun en w'=>∃b,en=Jb (U b)∧Came rd s c [] ((zBl r).map .chunks) W0 K L b w':=by
 by_cases h0:r=[]
 ·subst h0;refine(zId rd wb off 0 vB _ c [] hlib hk h).mono ?_;rintro en w' ⟨rfl,h⟩;exact⟨_,rfl,.no rfl (zAF h)⟩
 ·have hpos:0<r.length:=List.length_pos_iff.2 h0
  cases hn:zAx r with
  |none=>
   refine(zJB rd wb off r.length r.length vB _ c r rfl hpos hn hx hr hlib hk h).mono ?_;rintro en w' ⟨rfl,h⟩;exact⟨_,rfl,.no (by unfold zBl;rw[if_neg h0,hn];rfl) (zAF h)⟩
  |some vs=>
   refine(zIe rd wb off r.length r.length vB _ c r vs rfl hpos hn hx hr hlib hk h).mono ?_;rintro en w' ⟨cb,rfl,h⟩;have e9:(zBl r).map Said.chunks=some (.chunks vs):=by unfold zBl;rw[if_neg h0,hn];rfl
   obtain⟨K',hk',hf,h2⟩:=shutI h;rw[zBP r vs hn]at hf;refine⟨_,rfl,.yes e9 hk' vR vH ⟨vB,vR,vH,some ⟨cb,0,none⟩,r.length,?_,hs.mono hk',?_⟩⟩
   ·have e8:(chOf [] (Said.chunks vs)).length=r.length:=zBP r vs hn;rw[e8];exact h2
   ·have e8:(chOf [] (Said.chunks vs)).length=r.length:=zBP r vs hn;rw[e8];exact hf
theorem zQ6:zEg Jd 73 (.agg #[Z ⟨#[]⟩,U false,Z ⟨#[]⟩]) 3 40:=zB8 kR rfl dD
theorem zS8(vn:Bool)(kd vd:ByteArray)(w:World):(Instr.buildSlice 52 1 #[(0,.agg #[Z kd,U vn,Z vd])]).run Jd w=.ok (Ja (some ⟨w.heap.size,0,none⟩) 1 1) (w.alloc (.cells #[Z kd,U vn,Z vd] 73 (0,0))):=by go_simp
theorem zHL{o:Oper}{ρ:Operand→Value}(ps:Array (Nat×Value))(v:Value)(w w':World)(ho:execOp ρ o=(do pure (Next.value (←Instr.buildSlice 52 1 ps))))(hb:(Instr.buildSlice 52 1 ps).run Jd w=.ok v w'):(execOp ρ o).run Jd w=.ok (.value v) w':=by
 rw[ho];simp[hb,Result.andThen]
variable {W0 w:World}{K:Know}{L:List Res}
theorem zTI(h:St W0 w K L):
 Calls Jd 141 #[Z (bb [110,111,110,101])] w fun en w'=>en=Jb (.tuple #[.agg #[U true,Z (bb [])],U true])∧St W0 w' K L:=by
 obtain⟨rb,hrb⟩:=eX w.heap.size;have g1:=h.allocRaw #[U false,Z ⟨#[]⟩] 51;rw[hrb]at g1;have hz:=h.allocRaw #[U true,Z (bb [])] 51;rw[hrb]at hz;have H:=hQd g1;obtain⟨c0,c1⟩:=uR2 ((g1));simp at c0 c1;obtain⟨r0,r1⟩:=uS2 ((g1));clear h g1;go_enter Tryz.func141,Tryz.ntmps141;go_wp2_with fail;refine bodyPost_ret (zBe rfl _ _ rb [U true,Z (bb [])] _ rfl (zCc hz) Tryz.underlying51 rfl kR) rfl ?_;exact⟨rfl,hz.drop⟩
theorem zTH(s d:Bs)(ok:Bool)(hne:s≠[110,111,110,101])(hv:hexV s=(d,ok))(hl:s.length≤1000000)(h:St W0 w K L):
 Calls Jd 141 #[Z (bb s)] w fun en w'=>en=Jb (.tuple #[.agg #[U false,Z (bb d)],U ok])∧St W0 w' K L:=by
 obtain⟨rb,hrb⟩:=eX w.heap.size;have g1:=h.allocRaw #[U false,Z ⟨#[]⟩] 51;rw[hrb]at g1;have H:=hQd g1;have HV:=hQd hv;have HL:=hQd hl;have e1:([110,111,110,101]==s)=false:=by rw[beq_eq_false_iff_ne];exact fun h=>hne h.symm
 have e2:(s==[110,111,110,101])=false:=by rw[beq_eq_false_iff_ne];exact hne
 clear h g1 hv hl hne;go_enter Tryz.func141,Tryz.ntmps141;go_wp2_with (go_at_call 18;(with_reducible refine(zJm s HL.out H.out).mono ?_);rintro e_ wn ⟨rfl,h⟩;rw[HV.out];obtain⟨c0,c1⟩:=uR2 ((h));simp at c0 c1;obtain⟨r0,r1⟩:=uS2 ((h));replace H:=hQd h;clear h);have hz:St W0 _ K (.raw rb #[U false,Z (bb d)] 51::L):=(H.out.rawSet 0 (U false)).rawSet 1 (Z (bb d));refine bodyPost_ret (zBe rfl _ _ rb [U false,Z (bb d)] _ rfl (zCc hz) Tryz.underlying51 rfl kR) rfl ?_;exact⟨rfl,hz.drop⟩
theorem zEn(s d:Bs)(nl ok:Bool)(hv:zA6 s=(nl,d,ok))(hl:s.length≤1000000)(h:St W0 w K L):
 Calls Jd 141 #[Z (bb s)] w fun en w'=>en=Jb (.tuple #[.agg #[U nl,Z (bb d)],U ok])∧St W0 w' K L:=by
 unfold zA6 at hv
 by_cases hs:s=[110,111,110,101]
 ·rw[if_pos hs]at hv;injection hv with h1 h2;injection h2 with h2 h3;subst h1 h2 h3 hs;exact zTI h
 ·rw[if_neg hs]at hv;injection hv with h1 h2;injection h2 with h2 h3;subst h1;exact zTH s d ok hs (Prod.ext h2 h3) hl h
theorem zQb(rd wb off cap g bcap k n gr rcap j m p:Nat)(vH ch:Value)(c:Int)(xs rs us:List Value)(kw vw kd vd:Bs)(vn kok vok:Bool)(hn:n=k+1)(hm1:m=j+1)(hxs:xs[k*12+11]? =some (Ja (some ⟨gr,0,none⟩) m rcap))(hrs:rs[j*7+6]? =some vH)(hkb:hexV kw=(kd,kok))(hvb:zA6 vw=(vn,vd,vok))(hxl:∀y∈[kw,vw],y.length≤1000000)(hn6:n≤1000000)(hm:m≤1000000)(hp:p≤1000000)(hcap:2≤cap){W0 w:World}{K:Know}{L:List Res}(hlib:K.has Know.lib)(hk:K.has (Know.strw wb off [kw,vw]))(h:St W0 w K (.raw rd #[(Ja (some ⟨g,0,none⟩) n bcap),I O c,ch] 122::.row (Ja (some ⟨g,0,none⟩) n bcap) 30 12 n xs::.row (Ja (some ⟨gr,0,none⟩) m rcap) 54 7 m rs::.row vH 73 3 p us::L)):
 Calls Jd 115 #[Jc (some ⟨rd,0,none⟩),Ja (some ⟨wb,off,none⟩) 2 cap] w fun en w'=>∃vH',en=Jb (U (kok && vok))∧St W0 w' K (.raw rd #[(Ja (some ⟨g,0,none⟩) n bcap),I O c,ch] 122::.row (Ja (some ⟨g,0,none⟩) n bcap) 30 12 n xs::.row (Ja (some ⟨gr,0,none⟩) m rcap) 54 7 m (rs.set (j*7+6) vH')::.row vH' 73 3 (p+1) (us++[Z (bb kd),U vn,Z (bb vd)])::L):=by
 have H:=hQd h;have C0:=hQd (show ∀(w':World) (L':List Res),St W0 w' K L'→w'.cell? ⟨wb,off,none⟩=some (Z (bb kw))from zAB hk 0 kw rfl);have C1:=hQd (zAB (W0:=W0) hk 1 vw rfl);have HLIB:=hQd hlib;have HRS:=hQd hrs;have HKB:=hQd hkb;have HVB:=hQd hvb;have HKWL:=hQd (hxl kw sM);have HVWL:=hQd (hxl vw sM);have HP:=hQd hp;have HJ:=hQd (show k*12+11<n*12 by omega);have HJR:=hQd (show j*7+6<m*7 by omega);have z0:w.cell? ⟨rd,0,none⟩=some (Ja (some ⟨g,0,none⟩) n bcap):=h.rawCell 0;have z1:w.cell? ⟨g,k*12+11,none⟩=some (Ja (some ⟨gr,0,none⟩) m rcap):=(h.p1.rowCell (k*12+11) HJ.out).trans hxs;have q0:((n:Int)==0)=false:=by rw[beq_eq_false_iff_ne];omega
 have q1:(n:Int) - 1=(k:Int):=by omega
 have q3:(k:Int)<(n:Int):=by omega
 have q5:(k:Int)≤1000000:=by omega
 have r0:((m:Int)==0)=false:=by rw[beq_eq_false_iff_ne];omega
 have r1:(m:Int) - 1=(j:Int):=by omega
 have r3:(j:Int)<(m:Int):=by omega
 have r5:(j:Int)≤1000000:=by omega
 clear h hk hlib hxs hrs hkb hvb hxl hcap hm hn hn6 hm1 hp;go_enter Tryz.func115,Tryz.ntmps115;go_upto_region 3 with fail
 go_region
 all_goals
  have c0:=C0.out _ _ H.out.drew;replace H:=hQd H.out.drew;clear z0 z1
  go_upto_region 9 with (first
  |(go_at_call 18;(try clear c0);(with_reducible refine(zJm kw HKWL.out H.out).mono ?_);rintro e_ wn ⟨rfl,h⟩;rw[HKB.out];have c1:=C1.out _ _ h;replace H:=hQd h;clear h)
  |(go_at_call 141;(try clear c1);(with_reducible refine(zEn vw vd vn vok HVB.out HVWL.out H.out).mono ?_);rintro e_ wn ⟨rfl,h⟩;obtain⟨vb,hvb⟩:=eX wn.heap.size;have h:=h.allocRaw #[U vn,Z (bb vd)] 51;rw[hvb]at h;replace H:=hQd h;clear h))
 have K9:=hQd (show ∀(w1:World) (L1:List Res),St W0 w1 K (.raw vb #[U vn,Z (bb vd)] 51::L1)→(w1.cell? ⟨vb,0,none⟩=some (U vn)∧w1.cell? ⟨vb,1,none⟩=some (Z (bb vd)))from fun w1 L1 h1=>⟨h1.rawCell 0,h1.rawCell 1⟩);have hs:=H.out.drew;clear H;refine wp_region_held_drew (S:=fun w'=>w'.cell? ⟨vb,0,none⟩=some (U vn)∧w'.cell? ⟨vb,1,none⟩=some (Z (bb vd))) kR (K9.out _ _ (hs)) (fun hHeld=> ?_);refine tR 0 ?_;refine tR 1 ?_;refine tR 2 ?_;refine tR 3 ?_;refine tR 5 ?_;refine tR 6 ?_;refine tR 7 ?_;refine wR [4,8] (rC rfl (fun KK hK=> ?_) (rC rfl (fun KK hK=> ?_) rN))
 focus
  have z3:=(hs.p3.rowCell (j*7+6) HJR.out).trans HRS.out;go_simp;refine zK hK (K9.out _ _ (hs)) (fun hHeld=> ?_);clear hK KK
  clear z3;refine wR [8] (rC rfl (fun KK hK=> ?_) rN);rw[if_pos (by rfl)];refine zB6 (zHL _ _ _ _ kR (zS8 vn (bb kd) (bb vd) _)) ?_;obtain⟨wy,b2,ey,eb,hs⟩:=hs.allocEx #[Z (bb kd),U vn,Z (bb vd)] 73;rw[ey,eb];clear ey eb;refine zK hK (K9.out _ _ (hs.p1)) (fun hHeld=> ?_);clear hK KK
 rotate_left
 focus
  rw[if_pos (by rfl)];refine zB6 (zHL _ _ _ _ kR (zS8 vn (bb kd) (bb vd) _)) ?_;obtain⟨wy,b2,ey,eb,hs⟩:=hs.allocEx #[Z (bb kd),U vn,Z (bb vd)] 73;rw[ey,eb];clear ey eb;refine zK hK (K9.out _ _ (hs.p1)) (fun hHeld=> ?_);clear hK KK
  refine wR [4] (rC rfl (fun KK hK=> ?_) rN);have z3:=(hs.p4.rowCell (j*7+6) HJR.out).trans HRS.out;go_simp;refine zK hK (K9.out _ _ (hs.p1)) (fun hHeld=> ?_);clear hK KK
  clear z3
 all_goals
  refine wR [9] (rC rfl (fun KK hK=> ?_) rN);have hs:=hs.p5.p1;rw[if_pos (by rfl)];refine zMu (.tmp 64) (.tmp 68) 52 rfl 73 Tryz.underlying52 zQ6 _ _ _ (by rfl) b2 #[Z (bb kd),U vn,Z (bb vd)] 73 hs (by rfl) rfl (by simp[Value.oneCell']) (by have:=HP.out;unfold maxLen;omega) (by have:=HP.out;omega) (fun v' w' h=> ?_);have hs:=h;clear h;obtain⟨qv,cv,hv⟩:=hs.rowAny;subst hv;refine zK hK (K9.out _ _ (hs.p1)) (fun hHeld=> ?_);clear hK KK
  refine tR 10 ?_;refine tR 11 ?_;refine wR [12] (rC rfl (fun KK hK=> ?_) rN);have hs:=hs.p4;have q1:=hs.rowFree (j*7+6);have z3:=(hs.rowCell (j*7+6) HJR.out).trans HRS.out;rw[if_pos (by rfl)];refine zHx (w':=w'.setCell ⟨gr,j*7+6,none⟩ (Ja qv (p+1) cv)) (by go_simp) ?_;obtain⟨wz,ez,hs⟩:=hs.rowSetEx (j*7+6) (Ja qv (p+1) cv);rw[ez];clear ez q1 z3;refine hK.out _ _ (K9.out _ _ (hs.p2)) (fun hHeld=> ?_);clear hK KK
  try simp only[Act.put]
  refine wpAnyH_done kR ?_ _;clear hHeld;have H:=hQd hs;clear hs
  cases kok<;>(go_wp2_with fail;go_ret;exact⟨rfl,_,H.out.p2.drop.p3.p3⟩)
theorem k_hdr(rd wb off cap:Nat)(s:BSt)(q:Option Addr)(vB vR vH:Value)(r:List Bs)(hx:∀y∈r,y.length≤1000000)(hr:r.length≤1000000)(hb:s.n≤1000000∧s.m≤1000000∧s.p≤1000000){W0 w:World}{K:Know}{L:List Res}(hlib:K.has Know.lib)(hs:s.known K)(hk:K.has (Know.strw wb off r))(h:St W0 w K (.raw rd #[vB,I O (-1),Ja q 0 cap] 122::s.rows vB vR vH L)):
 Calls Jd 115 #[Jc (some ⟨rd,0,none⟩),Ja (some ⟨wb,off,none⟩) r.length r.length] w fun en w'=>∃b,en=Jb (U b)∧Came rd s (-1) [] (if s.n=0∨s.m=0 then none else(zEt r).map .hdr) W0 K L b w':=by
 cases s with
 |zero=>
  obtain⟨qb,cb,hv⟩:=h.p1.rowAny;subst hv;refine(zIc rd wb off r.length 0 cb qb _ (-1) r.length rfl h).mono ?_;rintro en w' ⟨rfl,h⟩;exact⟨_,rfl,.no rfl (zAF (s:=.zero) h)⟩
 |bat d b=>
  obtain⟨g,bcap,hv⟩:=h.p1.rowSlice (Nat.succ_pos _);subst hv
  by_cases h2:r.length=2
  ·rw[h2];obtain⟨qr,rcap,hv⟩:=h.p2.rowAny;subst hv;refine(zHc rd wb off 2 g bcap d.length (d.length+1) rcap qr _ (-1) _ rfl hb.1 (zTa d b _) h).mono ?_;rintro en w' ⟨rfl,h⟩;exact⟨_,rfl,.no (if_pos (.inr rfl)) h.drop.drop⟩
  ·refine(zEP rd wb off r.length (d.length+1) bcap _ _ (-1) r.length oM h2 h).mono ?_;rintro en w' ⟨rfl,h⟩;exact⟨_,rfl,.no (if_pos (.inr rfl)) (zAF (s:=.bat d b) h)⟩
 |recd d b l r0=>
  obtain⟨g,bcap,hv⟩:=h.p1.rowSlice (Nat.succ_pos _);subst hv;have hif:(if (BSt.recd d b l r0).n=0∨(BSt.recd d b l r0).m=0 then none else(zEt r).map Said.hdr)=(zEt r).map Said.hdr:=if_neg (by simp[BSt.n,BSt.m]);rw[hif]
  by_cases h2:r.length=2
  ·obtain⟨kw,vw,rfl⟩:∃kw vw,r=[kw,vw]:=by
    rcases r with _|⟨a,_|⟨b,_|⟨c,t⟩⟩⟩<;>simp at h2
    exact⟨a,b,rfl⟩
   obtain⟨gr,rcap,hv⟩:=h.p2.rowSlice (Nat.succ_pos _);subst hv;obtain⟨kd,kok,hkd⟩:∃kd kok,hexV kw=(kd,kok):=⟨_,_,rfl⟩;obtain⟨vn,vd,vok,hvd⟩:∃vn vd vok,zA6 vw=(vn,vd,vok):=⟨_,_,_,rfl⟩;refine(zQb rd wb off 2 g bcap d.length (d.length+1) gr rcap l.length (l.length+1) r0.hdrs.length vH _ (-1) _ _ _ kw vw kd vd vn kok vok rfl rfl (zTa d b _) (ys_at l r0 vH) hkd hvd hx hb.1 hb.2.1 hb.2.2 (Jo 2) hlib hk h).mono ?_;rintro en w' ⟨vH',rfl,h2⟩;refine⟨_,rfl,?_⟩;have e:zEt [kw,vw]=if kok && vok then some ⟨kd,⟨vn,vd⟩⟩else none:=by show(if (hexV kw).2 && (zA6 vw).2.2 then some (⟨(hexV kw).1,⟨(zA6 vw).1,(zA6 vw).2.1⟩⟩:HdrS)else none)=_;rw[hkd,hvd]
   rw[ys_set]at h2
   cases hl:(kok && vok)with
   |false=>
    rw[hl]at e;exact .no (by rw[e];rfl) h2.drop.drop.drop.drop
   |true=>
    rw[hl]at e;have e9:(zEt [kw,vw]).map Said.hdr=some (.hdr ⟨kd,⟨vn,vd⟩⟩):=by rw[e];rfl
    refine .yes e9 (Know.has_refl _) (Ja (some ⟨gr,0,none⟩) (l.length+1) rcap) vH ⟨Ja (some ⟨g,0,none⟩) (d.length+1) bcap,Ja (some ⟨gr,0,none⟩) (l.length+1) rcap,vH',q,cap,?_,hs,fun w F hh=>⟨q,cap,rfl,fun h0=>absurd h0 (Nat.lt_irrefl 0)⟩⟩;have e7:(r0.hdrs++[(⟨kd,⟨vn,vd⟩⟩:HdrS)]).flatMap hcells=r0.hdrs.flatMap hcells++[Z (bb kd),U vn,Z (bb vd)]:=zDO _ _ _;have e6:(r0.hdrs++[(⟨kd,⟨vn,vd⟩⟩:HdrS)]).length=r0.hdrs.length+1:=by simp
    show St _ _ _ (_::_::_::.row vH' _ 3 (r0.hdrs++[(⟨kd,⟨vn,vd⟩⟩:HdrS)]).length ((r0.hdrs++[(⟨kd,⟨vn,vd⟩⟩:HdrS)]).flatMap hcells)::_)
    rw[e7,e6];exact h2
  ·refine(zEP rd wb off r.length (d.length+1) bcap _ _ (-1) r.length oM h2 h).mono ?_;rintro en w' ⟨rfl,h⟩;refine⟨_,rfl,.no ?_ (zAF (s:=.recd d b l r0) h)⟩
   have e:zEt r=none:=by
    rcases r with _|⟨a,_|⟨b,_|⟨c,t⟩⟩⟩
    ·rfl
    ·rfl
    ·exact absurd rfl h2
    ·rfl
   rw[e];rfl
theorem zP9(rd wb off cap g bcap k n m:Nat)(vR ch:Value)(c t o:Int)(xs rs:List Value)(a b kw vw kd vd:Bs)(kn vn kok vok:Bool)(hn:n=k+1)(hxs:xs[k*12+11]? =some vR)(hns:zAx [a,b]=some [t,o])(hkb:zA6 kw=(kn,kd,kok))(hvb:zA6 vw=(vn,vd,vok))(hxl:∀y∈[a,b,kw,vw],y.length≤1000000)(hn6:n≤1000000)(hm:m≤1000000)(hcap:4≤cap){W0 w:World}{K:Know}{L:List Res}(hlib:K.has Know.lib)(hk:K.has (Know.strw wb off [a,b,kw,vw]))(h:St W0 w K (.raw rd #[(Ja (some ⟨g,0,none⟩) n bcap),I O c,ch] 122::.row (Ja (some ⟨g,0,none⟩) n bcap) 30 12 n xs::.row vR 54 7 m rs::L)):
 Calls Jd 114 #[Jc (some ⟨rd,0,none⟩),Ja (some ⟨wb,off,none⟩) 4 cap] w fun en w'=>∃vR',en=Jb (U (kok && vok))∧St W0 w' K (.raw rd #[(Ja (some ⟨g,0,none⟩) n bcap),I O c,ch] 122::.row (Ja (some ⟨g,0,none⟩) n bcap) 30 12 n (xs.set (k*12+11) vR')::.row vR' 54 7 (m+1) (rs++[I O t,I O o,U kn,Z (bb kd),U vn,Z (bb vd),Ja none 0 0])::L):=by
 obtain⟨nb,hnb⟩:=eX w.heap.size;have g1:=h.allocRaw #[I O 0,I O 0] 194;rw[hnb]at g1;have H:=hQd g1;have C2:=hQd (zAB (W0:=W0) hk 2 kw rfl);have C3:=hQd (zAB (W0:=W0) hk 3 vw rfl);have HK2:=hQd (show K.has (Know.strw wb off [a,b])from zBR hk 2);have HLIB:=hQd hlib;have HNS:=hQd hns;have HXS:=hQd hxs;have HKB:=hQd hkb;have HVB:=hQd hvb;have HXL:=hQd (show ∀y∈[a,b],y.length≤1000000 from fun y hy=>hxl y (by simp only[List.mem_cons,List.not_mem_nil,or_false]at hy ⊢;rcases hy with rfl|rfl<;>simp));have HKWL:=hQd (hxl kw sM);have HVWL:=hQd (hxl vw sM);have HL1:=hQd (show[a,b].length≤1000000 by simp);have HM:=hQd hm;have HJ:=hQd (show k*12+11<n*12 by omega);have q0:((n:Int)==0)=false:=by rw[beq_eq_false_iff_ne];omega
 have q1:(n:Int) - 1=(k:Int):=by omega
 have q3:(k:Int)<(n:Int):=by omega
 have q4:(2:Int)≤(cap:Int):=by omega
 have q5:(k:Int)≤1000000:=by omega
 clear h g1 hk hlib hns hxs hkb hvb hxl hcap hm hn hn6;go_enter Tryz.func114,Tryz.ntmps114;go_upto_region 2 with fail;have hs:=H.out.drew;have KEEP:=hQd (show ∀(w':World) (L':List Res),St W0 w' K (.raw rd #[(Ja (some ⟨g,0,none⟩) n bcap),I O c,ch] 122::L')→w'.cell? ⟨rd,0,none⟩=some (Ja (some ⟨g,0,none⟩) n bcap)from fun w' L' h'=>h'.rawCell 0);clear H;refine wp_region_held_drew (S:=fun w'=>w'.cell? ⟨rd,0,none⟩=some (Ja (some ⟨g,0,none⟩) n bcap)) kR (KEEP.out _ _ hs.p1) (fun hHeld=> ?_);refine tR 0 ?_;refine tR 1 ?_;refine tR 2 ?_;refine tR 3 ?_;refine tR 4 ?_;refine tR 5 ?_;refine tR 6 ?_;refine tR 7 ?_;refine tR 8 ?_;refine tR 9 ?_;refine tR 10 ?_;refine tR 11 ?_;refine tR 12 ?_;refine tR 13 ?_;refine tR 14 ?_;refine tR 15 ?_;refine wR [16] (rC rfl (fun KK hK=> ?_) rN);go_simp;go_at_call 139;with_reducible refine(zCb nb #[I O 0,I O 0] 194 wb off cap 2 [a,b] [t,o] 2 rfl HNS.out rfl HL1.out HXL.out HLIB.out HK2.out hs).mono ?_;rintro e wq ⟨rfl,hs⟩;refine zK hK (KEEP.out _ _ hs.p1) (fun hHeld=> ?_);clear hK KK
 have hs:St W0 wq K (.raw nb #[I O t,I O o] 194::.raw rd #[(Ja (some ⟨g,0,none⟩) n bcap),I O c,ch] 122::.row (Ja (some ⟨g,0,none⟩) n bcap) 30 12 n xs::.row vR 54 7 m rs::L):=hs;refine tR 17 ?_;refine tR 18 ?_;refine wpAnyH_done kR ?_ _;clear hHeld;have H:=hQd hs;clear hs;have c2:=C2.out _ _ H.out
 go_upto_region 6 with (first
 |(go_at_call 141;(try clear c2);(with_reducible refine(zEn kw kd kn kok HKB.out HKWL.out H.out).mono ?_);rintro e_ wn ⟨rfl,h⟩;obtain⟨kb,hkb⟩:=eX wn.heap.size;have h:=h.allocRaw #[U kn,Z (bb kd)] 51;rw[hkb]at h;have c3:=C3.out _ _ h;replace H:=hQd h;clear h)
 |(go_at_call 141;(try clear c3);(with_reducible refine(zEn vw vd vn vok HVB.out HVWL.out H.out).mono ?_);rintro e_ wn ⟨rfl,h⟩;obtain⟨vb,hvb⟩:=eX wn.heap.size;have h:=h.allocRaw #[U vn,Z (bb vd)] 51;rw[hvb]at h;have z0:=KEEP.out _ _ h.p3;replace H:=hQd h;clear h))
 go_region
 have K7:=hQd (show ∀(w1:World) (L1 L2 L3:List Res),St W0 w1 K (.raw vb #[U vn,Z (bb vd)] 51::L1)→St W0 w1 K (.raw kb #[U kn,Z (bb kd)] 51::L2)→St W0 w1 K (.raw nb #[I O t,I O o] 194::L3)→(w1.cell? ⟨nb,0,none⟩=some (I O t)∧w1.cell? ⟨nb,1,none⟩=some (I O o)∧w1.cell? ⟨kb,0,none⟩=some (U kn)∧w1.cell? ⟨kb,1,none⟩=some (Z (bb kd))∧w1.cell? ⟨vb,0,none⟩=some (U vn)∧w1.cell? ⟨vb,1,none⟩=some (Z (bb vd)))from fun w1 L1 L2 L3 h1 h2 h3=>⟨h3.rawCell 0,h3.rawCell 1,h2.rawCell 0,h2.rawCell 1,h1.rawCell 0,h1.rawCell 1⟩);clear z0;go_upto_region 7 with fail;have hs:=H.out.drew.drew;clear H;refine wp_region_held_drew (S:=fun w'=>w'.cell? ⟨nb,0,none⟩=some (I O t)∧w'.cell? ⟨nb,1,none⟩=some (I O o)∧w'.cell? ⟨kb,0,none⟩=some (U kn)∧w'.cell? ⟨kb,1,none⟩=some (Z (bb kd))∧w'.cell? ⟨vb,0,none⟩=some (U vn)∧w'.cell? ⟨vb,1,none⟩=some (Z (bb vd))) kR (K7.out _ _ _ _ (hs) (hs.p1) (hs.p2)) (fun hHeld=> ?_);refine tR 0 ?_;refine tR 1 ?_;refine tR 2 ?_;refine tR 3 ?_;refine tR 5 ?_;refine tR 6 ?_;refine tR 7 ?_;refine tR 8 ?_;refine tR 9 ?_;refine tR 10 ?_;refine tR 11 ?_;refine wR [4,12] (rC rfl (fun KK hK=> ?_) (rC rfl (fun KK hK=> ?_) rN))
 focus
  have z1:=(hs.p4.rowCell (k*12+11) HJ.out).trans HXS.out;go_simp;refine zK hK (K7.out _ _ _ _ (hs) (hs.p1) (hs.p2)) (fun hHeld=> ?_);clear hK KK
  clear z1;refine wR [12] (rC rfl (fun KK hK=> ?_) rN);rw[if_pos (by rfl)];refine zB6 (zHK _ _ _ _ kR (zS7 t o kn vn (bb kd) (bb vd) _)) ?_;obtain⟨wy,b2,ey,eb,hs⟩:=hs.allocEx #[I O t,I O o,U kn,Z (bb kd),U vn,Z (bb vd),Ja none 0 0] 54;rw[ey,eb];clear ey eb;refine zK hK (K7.out _ _ _ _ (hs.p1) (hs.p2) (hs.p3)) (fun hHeld=> ?_);clear hK KK
 rotate_left
 focus
  rw[if_pos (by rfl)];refine zB6 (zHK _ _ _ _ kR (zS7 t o kn vn (bb kd) (bb vd) _)) ?_;obtain⟨wy,b2,ey,eb,hs⟩:=hs.allocEx #[I O t,I O o,U kn,Z (bb kd),U vn,Z (bb vd),Ja none 0 0] 54;rw[ey,eb];clear ey eb;refine zK hK (K7.out _ _ _ _ (hs.p1) (hs.p2) (hs.p3)) (fun hHeld=> ?_);clear hK KK
  refine wR [4] (rC rfl (fun KK hK=> ?_) rN);have z1:=(hs.p5.rowCell (k*12+11) HJ.out).trans HXS.out;go_simp;refine zK hK (K7.out _ _ _ _ (hs.p1) (hs.p2) (hs.p3)) (fun hHeld=> ?_);clear hK KK
  clear z1
 all_goals
  refine wR [13] (rC rfl (fun KK hK=> ?_) rN);have hs:=hs.p6.p1;rw[if_pos (by rfl)];refine zMu (.tmp 61) (.tmp 69) 28 rfl 54 Tryz.underlying28 zQ5 _ _ _ (by rfl) b2 #[I O t,I O o,U kn,Z (bb kd),U vn,Z (bb vd),Ja none 0 0] 54 hs (by rfl) rfl (by simp[Value.oneCell']) (by have:=HM.out;unfold maxLen;omega) (by have:=HM.out;omega) (fun v' w' h=> ?_);have hs:=h;clear h;obtain⟨qv,cv,hv⟩:=hs.rowAny;subst hv;refine zK hK (K7.out _ _ _ _ (hs.p1) (hs.p2) (hs.p3)) (fun hHeld=> ?_);clear hK KK
  refine tR 14 ?_;refine tR 15 ?_;refine wR [16] (rC rfl (fun KK hK=> ?_) rN);have hs:=hs.p5;have q1:=hs.rowFree (k*12+11);have z1:=(hs.rowCell (k*12+11) HJ.out).trans HXS.out;rw[if_pos (by rfl)];refine zHx (w':=w'.setCell ⟨g,k*12+11,none⟩ (Ja qv (m+1) cv)) (by go_simp) ?_;obtain⟨wz,ez,hs⟩:=hs.rowSetEx (k*12+11) (Ja qv (m+1) cv);rw[ez];clear ez q1 z1;refine hK.out _ _ (K7.out _ _ _ _ (hs.p2) (hs.p3) (hs.p4)) (fun hHeld=> ?_);clear hK KK
  try simp only[Act.put]
  refine wpAnyH_done kR ?_ _;clear hHeld;have H:=hQd hs;clear hs
  cases kok<;>(go_wp2_with fail;go_ret;exact⟨rfl,_,H.out.p2.drop.p2.drop.p2.drop.p2⟩)
theorem zOB(r:List Bs)(h:r.length≠4):zCR r=none:=by
 rcases r with _|⟨a,_|⟨b,_|⟨c,_|⟨d,_|⟨e,t⟩⟩⟩⟩⟩
 ·rfl
 ·rfl
 ·rfl
 ·rfl
 ·exact absurd rfl h
 ·rfl
theorem zS2(rd wb off cap:Nat)(s:BSt)(q:Option Addr)(vB vR vH:Value)(d:List BtR)(b:BatS)(l:List (RecS×Value))(r:List Bs)(hx:∀y∈r,y.length≤1000000)(hn6:d.length+1≤1000000)(hm:l.length≤1000000)(hput:∀x,s.put vR vH (.recd x)=.recd d b l x){W0 w:World}{K K':Know}{L:List Res}(hkk:K'.has K)(hlib:K.has Know.lib)(hs:∀x∈d,K.has (Know.recs x.v x.l))(hl:∀x∈l,K'.has (Know.flat RHdr x.2 3 x.1.hdrs))(hk:K.has (Know.strw wb off r))(h:St W0 w K' (.raw rd #[vB,I O (-1),Ja q 0 cap] 122::.row vB 30 12 (d.length+1) (d.flatMap zAZ++zEe b vR)::.row vR 54 7 l.length (l.flatMap zBm)::L)):
 Calls Jd 114 #[Jc (some ⟨rd,0,none⟩),Ja (some ⟨wb,off,none⟩) r.length r.length] w fun en w'=>∃b,en=Jb (U b)∧Came rd s (-1) [] ((zCR r).map .recd) W0 K L b w':=by
 obtain⟨g,bcap,hv⟩:=h.p1.rowSlice (Nat.succ_pos _);subst hv
 by_cases h4:r.length=4
 ·obtain⟨a,c,kw,vw,rfl⟩:∃a c kw vw,r=[a,c,kw,vw]:=by
   rcases r with _|⟨a,_|⟨b,_|⟨c,_|⟨d,_|⟨e,t⟩⟩⟩⟩⟩<;>simp at h4
   exact⟨a,b,c,d,rfl⟩
  cases hn:zAx [a,c]with
  |none=>
   refine(zJA rd wb off 4 (d.length+1) bcap _ _ (-1) a c kw vw oM hn (fun y hy=>hx y (by simp only[List.mem_cons,List.not_mem_nil,or_false]at hy ⊢;rcases hy with rfl|rfl<;>simp)) oM (Know.has_trans hkk hlib) (Know.has_trans hkk hk) h).mono ?_;rintro en w' ⟨rfl,h⟩;exact⟨_,rfl,.no' (by simp[zCR,hn]) hkk h.drop.drop⟩
  |some vs=>
   obtain⟨t,o,rfl⟩:=list2 (zBP _ vs hn);obtain⟨kn,kd,kok,hkd⟩:∃kn kd kok,zA6 kw=(kn,kd,kok):=⟨_,_,_,rfl⟩;obtain⟨vn,vd,vok,hvd⟩:∃vn vd vok,zA6 vw=(vn,vd,vok):=⟨_,_,_,rfl⟩;refine(zP9 rd wb off 4 g bcap d.length (d.length+1) l.length vR _ (-1) t o _ _ a c kw vw kd vd kn vn kok vok rfl (zTa d b vR) hn hkd hvd hx hn6 hm (Jo 4) (Know.has_trans hkk hlib) (Know.has_trans hkk hk) h).mono ?_;rintro en w' ⟨vR',rfl,h2⟩;refine⟨_,rfl,?_⟩;have e:zCR [a,c,kw,vw]=if kok && vok then some ⟨t,o,⟨kn,kd⟩,⟨vn,vd⟩,[]⟩else none:=by show(match zAx [a,c]with|some [t,o]=>if (zA6 kw).2.2 && (zA6 vw).2.2 then some (⟨t,o,⟨(zA6 kw).1,(zA6 kw).2.1⟩,⟨(zA6 vw).1,(zA6 vw).2.1⟩,[]⟩:RecS)else none| _=>none)=_;rw[hn,hkd,hvd]
   rw[xs_set]at h2
   cases hl2:(kok && vok)with
   |false=>
    rw[hl2]at e;exact .no' (by rw[e];rfl) hkk h2.drop.drop.drop
   |true=>
    rw[hl2]at e;have e9:(zCR [a,c,kw,vw]).map Said.recd=some (.recd ⟨t,o,⟨kn,kd⟩,⟨vn,vd⟩,[]⟩):=by rw[e];rfl
    refine .yes e9 hkk vR vH ⟨Ja (some ⟨g,0,none⟩) (d.length+1) bcap,vR',Ja none 0 0,q,cap,?_,?_,fun w F hh=>⟨q,cap,rfl,fun h0=>absurd h0 (Nat.lt_irrefl 0)⟩⟩
    ·rw[hput];exact(h2.nilRow 73 3).p3.p3.p3
    ·rw[hput];exact⟨fun x hx=>Know.has_trans hkk (hs x hx),hl⟩
 ·refine(zJz rd wb off r.length (d.length+1) bcap _ _ (-1) r.length oM h4 h).mono ?_;rintro en w' ⟨rfl,h⟩;exact⟨_,rfl,.no' (by rw[zOB r h4];rfl) hkk h.drop.drop⟩
theorem k_rec(rd wb off cap:Nat)(s:BSt)(q:Option Addr)(vB vR vH:Value)(r:List Bs)(hx:∀y∈r,y.length≤1000000)(hr:r.length≤1000000)(hb:s.n≤1000000∧s.m≤1000000∧s.p≤1000000){W0 w:World}{K:Know}{L:List Res}(hlib:K.has Know.lib)(hs:s.known K)(hk:K.has (Know.strw wb off r))(h:St W0 w K (.raw rd #[vB,I O (-1),Ja q 0 cap] 122::s.rows vB vR vH L)):
 Calls Jd 114 #[Jc (some ⟨rd,0,none⟩),Ja (some ⟨wb,off,none⟩) r.length r.length] w fun en w'=>∃b,en=Jb (U b)∧Came rd s (-1) [] (if s.n=0 then none else(zCR r).map .recd) W0 K L b w':=by
 cases s with
 |zero=>
  obtain⟨qb,cb,hv⟩:=h.p1.rowAny;subst hv;refine(zIb rd wb off r.length 0 cb qb _ (-1) r.length rfl h).mono ?_;rintro en w' ⟨rfl,h⟩;exact⟨_,rfl,.no rfl (zAF (s:=.zero) h)⟩
 |bat d b=>
  rw[show(if (BSt.bat d b).n=0 then none else(zCR r).map Said.recd)=(zCR r).map Said.recd from if_neg (by simp[BSt.n])];exact zS2 rd wb off cap (.bat d b) q vB vR vH d b [] r hx hb.1 (Ji _) (fun _=>rfl) (Know.has_refl _) hlib hs (fun x hx=>by cases hx) hk h.p3.drop
 |recd d b l r0=>
  rw[show(if (BSt.recd d b l r0).n=0 then none else(zCR r).map Said.recd)=(zCR r).map Said.recd from if_neg (by simp[BSt.n])];obtain⟨h1,h2⟩:=closeR hs h;exact zS2 rd wb off cap (.recd d b l r0) q vB vR vH d b (l++[(r0,vH)]) r hx hb.1 (by have:=hb.2.1;simp only[BSt.m]at this;simpa using this) (fun _=>rfl) (Know.has_left (Know.has_refl _)) hlib hs.1 h1 hk h2
end Go.Proofs.YtenojajfacacoaaGreatDoor
