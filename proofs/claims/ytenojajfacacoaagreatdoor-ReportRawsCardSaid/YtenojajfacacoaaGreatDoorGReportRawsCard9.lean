/- A text. -/
import Derived.Test.YtenojajfacacoaaGreatDoorGReportRawsCard8
import Derived.Lib.ItoaMem
import Derived.Lib.ItoaLen
import Derived.RegionTactic
import Derived.WalkMore
import Derived.Deep.RegionHeld3
import Derived.Deep.DeepCutAuto
import Derived.Lib.Join
import Derived.Test.YtenojajfacacoaaGreatDoorGReportRawsCard4
import Derived.Test.YtenojajfacacoaaGreatDoorGReportRawsCard3
import Derived.Test.YtenojajfacacoaaGreatDoorGReportRawsCard2
import Derived.Test.YtenojajfacacoaaGreatDoorGReportRawsCard5
/- A text. -/
namespace Go.Proofs.YtenojajfacacoaaGreatDoor
open Go.RowKit
def numW (n:Int):Bs:=Lib.itoa n
def zNP (b:BlobS):Bs:=if b.null then[110,111,110,101]else hexW b.data
def hdrT (h:HdrS):Bs:=[104,101,97,100,101,114]++32::(hexW h.key++32::(zNP h.val++[10]))
def recH (r:RecS):Bs:=[114,101,99,111,114,100]++32::(numW r.time++32::(numW r.off++32::(zNP r.key++32::(zNP r.val++[10]))))
def recT (r:RecS):Bs:=recH r++r.hdrs.flatMap hdrT
def zPS (l:List Int):Bs:=l.flatMap fun n=>32::numW n
def batN (b:BatS):List Int:=[b.base,b.leader,b.last,b.first,b.maxt,b.prod,b.epoch,b.seq]
def batL (b:BatS):Bs:=[98,97,116,99,104]++(zPS (batN b)++32::(letW b.app b.txn b.ctl++[10]))
def btT (x:BtR):Bs:=batL x.b++x.l.flatMap fun y=>recT y.1
def cutT (c:Int):Bs:=if c<0 then[]else[99,117,116]++32::(numW c++[10])
def chT (l:List Int):Bs:=if l=[]then[]else[99,104,117,110,107,115]++(zPS l++[10])
def BSt.txt:BSt→Bs
  | .zero=>[]
  | .bat d b=>d.flatMap btT++batL b
  | .recd d b l r=>d.flatMap btT++(batL b++(l.flatMap (fun y=>recT y.1)++recT r))
def txtS (s:BSt) (c:Int) (ch:List Int):Bs:=s.txt++(cutT c++chT ch)
def oddB (b:BlobS):Bool:=b.null && !b.data.isEmpty
def zHG (r:RecS):Prop:=oddB r.key=false∧oddB r.val=false∧(∀h∈r.hdrs,oddB h.val=false)∧Rn r.time∧Rn r.off
def batR (b:BatS):Prop:=∀n∈batN b,Rn n
def zNK (x:BtR):Prop:=batR x.b∧∀y∈x.l,zHG y.1
def BSt.fine:BSt→Prop
  | .zero=>True
  | .bat d b=>(∀x∈d,zNK x)∧batR b
  | .recd d b l r=>(∀x∈d,zNK x)∧batR b∧(∀y∈l,zHG y.1)∧zHG r
theorem zIZ{x:Bs}{v:Int}(h:zHN x=some v):numW v=x:=by
 unfold zHN at h
 split at h
 · rename_i e
   injection h with h;subst h;exact e
 · cases h
theorem zEo:∀{l:List Bs}{vs:List Int},zBL l=some vs→vs.map numW=l
  |[],vs,h=>by unfold zBL at h;injection h with h;subst h;rfl
  |a::t,vs,h=>by
    unfold zBL at h
    cases ha:zHN a with
    |none=>rw[ha]at h;cases h
    |some x=>
      rw[ha]at h;simp only at h
      cases ht:zBL t with
      |none=>rw[ht]at h;cases h
      |some y=>rw[ht]at h;injection h with h;subst h;rw[List.map_cons,zIZ ha,zEo ht]
theorem zG4{l:List Bs}{vs:List Int}(h:zBL l=some vs):zPS vs=l.flatMap fun w=>32::w:=by
 rw[←zEo h,List.flatMap_map];rfl
theorem zIY{x:Bs}{v:Int}(h:zHN x=some v):Rn v:=by
 unfold zHN at h
 split at h
 · injection h with h;subst h;exact zNT x
 · cases h
theorem zC4:∀{l:List Bs}{vs:List Int},zBL l=some vs→∀v∈vs,Rn v
  |[],vs,h=>by unfold zBL at h;injection h with h;subst h;exact fun v hv=>by cases hv
  |a::t,vs,h=>by
    unfold zBL at h
    cases ha:zHN a with
    |none=>rw[ha]at h;cases h
    |some x=>
      rw[ha]at h;simp only at h
      cases ht:zBL t with
      |none=>rw[ht]at h;cases h
      |some y=>
        rw[ht]at h;injection h with h;subst h;intro v hv
        rcases List.mem_cons.1 hv with rfl|hv
        · exact zIY ha
        · exact zC4 ht v hv
theorem zEq(w:Bs):∀r:List Bs,zAT 32 (w::r)=w++r.flatMap fun w=>32::w
  |[]=>by simp[zAT]
  |h::t=>by
    rw[zEr,zEq h t,List.flatMap_cons]
    rfl
theorem zHQ{w d:Bs}(h:hexV w=(d,true)):hexW d=w:=by
 unfold hexV at h
 cases hr:zI4 w with
 |none=>rw[hr]at h;cases h
 |some c=>rw[hr]at h;injection h with h1 h2;subst h1;exact zNf hr
theorem zNO{w d:Bs}{nl:Bool}(h:zDe w=(nl,d,true)):zNP ⟨nl,d⟩=w∧oddB ⟨nl,d⟩=false:=by
 unfold zDe at h
 by_cases hw:w=[110,111,110,101]
 · rw[if_pos hw]at h;injection h with h1 h2;injection h2 with h2 h3;subst h1 h2 hw;exact⟨rfl,rfl⟩
 · rw[if_neg hw]at h;injection h with h1 h2;injection h2 with h2 h3;subst h1;refine⟨?_,rfl⟩
   show hexW d=w
   exact zHQ (Prod.ext h2 h3)
theorem zNe(w:Bs)(h:(hexV w).2=true):hexW (hexV w).1=w:=zHQ (Prod.ext rfl h)
theorem zEA(w:Bs)(h:(zDe w).2.2=true):zNP ⟨(zDe w).1,(zDe w).2.1⟩=w∧oddB ⟨(zDe w).1,(zDe w).2.1⟩=false:=zNO (Prod.ext rfl (Prod.ext rfl h))
theorem zMP{r:List Bs}{h:HdrS}(e:zMQ r=some h):hdrT h=[104,101,97,100,101,114]++(r.flatMap fun w=>32::w)++[10]∧oddB h.val=false:=by
 unfold zMQ at e
 split at e
 · rename_i kw vw
   split at e
   · rename_i hb
     rw[Bool.and_eq_true]at hb;injection e with e;subst e;obtain⟨h1,h2⟩:=zEA vw hb.2;refine⟨?_,h2⟩;unfold hdrT;simp only;rw[zNe kw hb.1,h1]
     simp
   · cases e
 · cases e
theorem zMO{r:List Bs}{x:RecS}(e:zLB r=some x):recT x=[114,101,99,111,114,100]++(r.flatMap fun w=>32::w)++[10]∧zHG x:=by
 unfold zLB at e
 split at e
 · rename_i a b kw vw
   split at e
   · rename_i t o hn
     split at e
     · rename_i hb
       rw[Bool.and_eq_true]at hb;injection e with e;subst e;obtain⟨h1,h2⟩:=zEA kw hb.1;obtain⟨h3,h4⟩:=zEA vw hb.2;have hg:=zC4 hn;refine⟨?_,h2,h4,(fun h hh=>by cases hh),hg t (by simp),hg o (by simp)⟩;have h5:=zEo hn;simp only[List.map_cons,List.map_nil,List.cons.injEq,and_true]at h5;unfold recT recH;simp only;rw[h5.1,h5.2,h1,h3]
       simp
     · cases e
   · cases e
 · cases e
theorem zIM{r:List Bs}{b:BatS}(e:zMT r=some b):batL b=[98,97,116,99,104]++(r.flatMap fun w=>32::w)++[10]∧batR b:=by
 unfold zMT at e
 split at e
 · rename_i n0 n1 n2 n3 n4 n5 n6 n7 t hn hd
   split at e
   · rename_i hl
     injection e with e;subst e;have h1:=zG4 hn;have h2:letW (hasB t 97) (hasB t 116) (hasB t 99)=t:=eq_of_beq hl;have hg:=zC4 hn;refine⟨?_,fun n hn=>hg n (by simp only[batN,List.mem_cons,List.not_mem_nil,or_false]at hn ⊢;omega)⟩;unfold batL batN;simp only;rw[h1,h2];have h3:r=r.take 8++[t]:=by rw[←hd,List.take_append_drop]
     conv=>rhs;rw[h3]
     simp
   · cases e
 · cases e
theorem zMR{r:List Bs}{n:Int}(e:zMS r=some n):cutT n=[99,117,116]++(r.flatMap fun w=>32::w)++[10]∧0≤n∧Rn n:=by
 unfold zMS at e
 split at e
 · rename_i x
   split at e
   · rename_i v hv
     split at e
     · cases e
     · rename_i h0
       injection e with e;subst e;refine⟨?_,by omega,zIY hv⟩;unfold cutT;rw[if_neg h0,zIZ hv]
       simp
   · cases e
 · cases e
theorem zEJ{r:List Bs}{l:List Int}(e:zDG r=some l):chT l=[99,104,117,110,107,115]++(r.flatMap fun w=>32::w)++[10]∧∀v∈l,Rn v:=by
 unfold zDG at e
 split at e
 · cases e
 · rename_i h0
   have h1:=zG5 _ _ e;refine⟨?_,zC4 e⟩;unfold chT;rw[if_neg (by intro h;subst h;exact h0 (List.length_eq_zero_iff.1 h1.symm)),zG4 e]
   simp
theorem zNE(s:BSt)(vR vH:Value):(s.close vR vH).flatMap btT=s.txt:=by
 cases s with
 |zero=>rfl
 |bat d b=>show(d++[_]).flatMap btT=_;rw[List.flatMap_append];simp[btT,BSt.txt]
 |recd d b l r=>show(d++[_]).flatMap btT=_;rw[List.flatMap_append];simp[btT,BSt.txt]
theorem zLY(s:BSt)(vR vH:Value)(h:s.fine):∀x∈s.close vR vH,zNK x:=by
 cases s with
 |zero=>exact fun x hx=>by cases hx
 |bat d b=>
  intro x hx
  rcases List.mem_append.1 hx with hx|hx
  · exact h.1 x hx
  · rw[List.mem_singleton.1 hx];exact⟨h.2,fun y hy=>by cases hy⟩
 |recd d b l r=>
  intro x hx
  rcases List.mem_append.1 hx with hx|hx
  · exact h.1 x hx
  · rw[List.mem_singleton.1 hx];refine⟨h.2.1,fun y hy=> ?_⟩
    rcases List.mem_append.1 hy with hy|hy
    · exact h.2.2.1 y hy
    · rw[List.mem_singleton.1 hy];exact h.2.2.2
theorem zQi(s:BSt)(vR vH:Value):(s.close vR vH).length=s.n:=by cases s<;>simp[BSt.close,BSt.n]
theorem zJY(n m:Nat)(c:Int)(ch:List Int)(w:Bs)(r:List Bs):zG0 n m c ch (w::r)=if ch≠[]then none
    else if w=[99,104,117,110,107,115]then(zDG r).map .chunks
    else if c≠ -1 then none
    else if w=[99,117,116]then(zMS r).map .cut
    else if w=[98,97,116,99,104]then(zMT r).map .bat
    else if w=[114,101,99,111,114,100]then(if n=0 then none else(zLB r).map .recd)
    else if w=[104,101,97,100,101,114]then(if n=0∨m=0 then none else(zMQ r).map .hdr)
    else none:=rfl
theorem zOD(s:BSt)(c:Int)(ch:List Int)(l:Bs)(k:Said)(vR vH:Value)(hc: -1≤c)(hcr:Rn c)(hcs:∀v∈ch,Rn v)(hf:s.fine)(e:zG0 s.n s.m c ch (zBi 32 l)=some k):
   txtS (s.put vR vH k) (zH0 c k) (chOf ch k)=txtS s c ch++(l++[10])∧(s.put vR vH k).n=nOf s.n k∧(s.put vR vH k).m=mOf s.m k∧(s.put vR vH k).p≤s.p+1∧ -1≤zH0 c k∧Rn (zH0 c k)∧(∀v∈chOf ch k,Rn v)∧(s.put vR vH k).fine:=by
 obtain⟨w,r,hp⟩:=zDK 32 l;have hl:l=w++r.flatMap fun w=>32::w:=by rw[←zG6 32 l,hp,zEq]
 rw[hp,zJY]at e
 split at e
 · cases e
 rename_i hch
 have hch:ch=[]:=Classical.not_not.1 hch;subst hch
 split at e
 · rename_i hw
   cases h1:zDG r with
   |none=>rw[h1]at e;cases e
   |some v=>
    rw[h1]at e;injection e with e;subst e;refine⟨?_,rfl,rfl,Nat.le_succ _,hc,hcr,(zEJ h1).2,hf⟩
    show s.txt++(cutT c++chT v)=s.txt++(cutT c++chT [])++_
    rw[(zEJ h1).1,hl,hw];simp[chT]
 split at e
 · cases e
 rename_i hc1
 have hc1:c= -1:=Classical.not_not.1 hc1;subst hc1;have t0:txtS s (-1) []=s.txt:=by simp[txtS,cutT,chT]
 split at e
 · rename_i hw
   cases h1:zMS r with
   |none=>rw[h1]at e;cases e
   |some v=>
    rw[h1]at e;injection e with e;subst e;obtain⟨h2,h3,h4⟩:=zMR h1;refine⟨?_,rfl,rfl,Nat.le_succ _,(show -1≤v by omega),h4,hcs,hf⟩;rw[t0]
    show s.txt++(cutT v++chT [])=_
    rw[h2,hl,hw];simp[chT]
 split at e
 · rename_i hw
   cases h1:zMT r with
   |none=>rw[h1]at e;cases e
   |some v=>
    rw[h1]at e;injection e with e;subst e;refine⟨?_,by show(s.close vR vH).length+1=s.n+1;rw[zQi],rfl,Nat.zero_le _,hc,hcr,hcs,zLY s vR vH hf,(zIM h1).2⟩;rw[t0]
    show(BSt.bat (s.close vR vH) v).txt++(cutT (-1)++chT [])=_
    show((s.close vR vH).flatMap btT++batL v)++(cutT (-1)++chT [])=_
    rw[zNE,(zIM h1).1,hl,hw];simp[chT,cutT]
 split at e
 · rename_i hw
   split at e
   · cases e
   rename_i hn
   cases h1:zLB r with
   |none=>rw[h1]at e;cases e
   |some v=>
    rw[h1]at e;injection e with e;subst e;obtain⟨h2,h3⟩:=zMO h1
    have h0:v.hdrs.length=0:=by
     unfold zLB at h1
     split at h1
     · split at h1
       · split at h1
         · injection h1 with h1;subst h1;rfl
         · cases h1
       · cases h1
     · cases h1
    cases s with
    |zero=>exact absurd rfl hn
    |bat d b=>
     refine⟨?_,rfl,rfl,(show v.hdrs.length≤_ by omega),hc,hcr,hcs,hf.1,hf.2,(fun y hy=>by cases hy),h3⟩;rw[t0]
     show(d.flatMap btT++(batL b++(([]:List (RecS×Value)).flatMap (fun y=>recT y.1)++recT v)))++(cutT (-1)++chT [])=_
     rw[h2,hl,hw];simp[chT,cutT,BSt.txt]
    |recd d b l0 r0=>
     refine⟨?_,rfl,by show(l0++[_]).length+1=_;simp[mOf,BSt.m],(show v.hdrs.length≤_ by omega),hc,hcr,hcs,hf.1,hf.2.1,(fun y hy=> ?_),h3⟩
     · rw[t0]
       show(d.flatMap btT++(batL b++((l0++[(r0,vH)]).flatMap (fun y=>recT y.1)++recT v)))++(cutT (-1)++chT [])=_
       rw[h2,hl,hw];simp[chT,cutT,BSt.txt]
     · rcases List.mem_append.1 hy with hy|hy
       · exact hf.2.2.1 y hy
       · rw[List.mem_singleton.1 hy];exact hf.2.2.2
 split at e
 · rename_i hw
   split at e
   · cases e
   rename_i hn
   cases h1:zMQ r with
   |none=>rw[h1]at e;cases e
   |some v=>
    rw[h1]at e;injection e with e;subst e;obtain⟨h2,h3⟩:=zMP h1
    cases s with
    |zero=>exact absurd (.inl rfl) hn
    |bat d b=>exact absurd (.inr rfl) hn
    |recd d b l0 r0=>
     refine⟨?_,rfl,rfl,(show(r0.hdrs++[v]).length≤r0.hdrs.length+1 by simp),hc,hcr,hcs,hf.1,hf.2.1,hf.2.2.1,hf.2.2.2.1,hf.2.2.2.2.1,(fun h hh=> ?_),hf.2.2.2.2.2.2⟩
     · rw[t0]
       show(d.flatMap btT++(batL b++(l0.flatMap (fun y=>recT y.1)++(recH r0++(r0.hdrs++[v]).flatMap hdrT))))++(cutT (-1)++chT [])=_
       rw[List.flatMap_append];have h9:[v].flatMap hdrT=hdrT v:=by simp
       rw[h9,h2,hl,hw];simp[chT,cutT,BSt.txt,recT]
     · rcases List.mem_append.1 hh with hh|hh
       · exact hf.2.2.2.2.2.1 h hh
       · rw[List.mem_singleton.1 hh];exact h3
 · cases e
theorem zDa(c:UInt8)(n:Int)(hn:n=c.toNat){W0 w:World}{K:Know}{L:List Res}{b:Nat}{T:TypeId}(h:St W0 w K (.raw b #[.int .u8 n] T::L)):
  (convert 57 9 (.slice (some ⟨b,0,none⟩) 1 1)).run Tryz.prog w=.ok (.string (bb [c])) w:=by
 subst hn;refine run_convert_bytes_back (P:=Tryz.prog) w 57 9 5 ⟨b,0,none⟩ 1 [c] Tryz.underlying57 Tryz.underlying5 Tryz.underlying9 (fun j hj=> ?_);have hj:j=0:=by simp at hj;exact hj
 subst hj;exact h.rawCell 0
theorem zJi{u:Nat}(h:u<10):Lib.decDigits u=[UInt8.ofNat (48+u)]:=by rw[Lib.decDigits,dif_pos h]
theorem zDT(v:Nat)(h:v≤9223372036854775807):(Lib.decDigits v).length≤29:=by
 have h1:=Lib.itoa_length_le v (by omega) (by omega);rw[Lib.itoa_nonneg]at h1
 omega
theorem zQd(v:Nat)(h:v≤9223372036854775807):(Lib.decDigits v).length≤30:=Nat.le_succ_of_le (zDT v h)
theorem zKk{u:Nat}(h:¬u<10):Lib.decDigits u=Lib.decDigits (u / 10)++[UInt8.ofNat (48+u % 10)]:=by rw[Lib.decDigits,dif_neg h]
set_option maxHeartbeats 4000000
set_option maxRecDepth 100000
theorem zMB(rd wb cap:Nat)(q:Option Addr)(v:Value)(c:Int)(w0:Bs)(ws:List Bs)(hc:c= -1)(h1:w0≠[99,104,117,110,107,115])(h2:w0≠[99,117,116])(h3:w0≠[98,97,116,99,104])(h4:w0≠[114,101,99,111,114,100])(h5:w0≠[104,101,97,100,101,114]){W0 w:World}{K:Know}{L:List Res}(hk:K.has (Know.strw wb 0 (w0::ws)))(h:St W0 w K (.raw rd #[v,.int .i64 c,.slice q 0 cap] 122::L)):
  Calls Tryz.prog 81 #[.pointer (some ⟨rd,0,none⟩),.slice (some ⟨wb,0,none⟩) 1 1] w fun en w'=>en=.returned (.bool false)∧St W0 w' K L:=by
 have c0:w.cell? ⟨wb,0,none⟩=some (.string (bb w0)):=zMj hk 0 _ rfl _ _ h;have d0:=(h).rawCell 0;have d1:=(h).rawCell 1;have d2:=(h).rawCell 2;simp at d0 d1 d2;subst hc;have e1:(w0==[99,104,117,110,107,115])=false:=by rw[beq_eq_false_iff_ne];exact h1
 have g1:([99,104,117,110,107,115]==w0)=false:=by rw[beq_eq_false_iff_ne];exact fun h=>h1 h.symm
 have e2:(w0==[99,117,116])=false:=by rw[beq_eq_false_iff_ne];exact h2
 have g2:([99,117,116]==w0)=false:=by rw[beq_eq_false_iff_ne];exact fun h=>h2 h.symm
 have e3:(w0==[98,97,116,99,104])=false:=by rw[beq_eq_false_iff_ne];exact h3
 have g3:([98,97,116,99,104]==w0)=false:=by rw[beq_eq_false_iff_ne];exact fun h=>h3 h.symm
 have e4:(w0==[114,101,99,111,114,100])=false:=by rw[beq_eq_false_iff_ne];exact h4
 have g4:([114,101,99,111,114,100]==w0)=false:=by rw[beq_eq_false_iff_ne];exact fun h=>h4 h.symm
 have e5:(w0==[104,101,97,100,101,114])=false:=by rw[beq_eq_false_iff_ne];exact h5
 have g5:([104,101,97,100,101,114]==w0)=false:=by rw[beq_eq_false_iff_ne];exact fun h=>h5 h.symm
 have H:=hQd h
 skip
 clear h hk h1 h2 h3 h4 h5;go_enter Tryz.func81,Tryz.ntmps81;go_upto_region 1 with fail
 go_region
 all_goals (
  go_wp2_with fail;go_ret
  exact⟨rfl,H.out.drew.drop⟩)
theorem zLH(n m:Nat)(c:Int)(ch:List Int)(ln:Nat)(l:Bs)(q:Bs)(r:List Bs)(k:Said)(h:zG0 n m c ch (zBi 32 l)=some k):zG2 n m c ch ln (l::q::r)=zG2 (nOf n k) (mOf m k) (zH0 c k) (chOf ch k) (ln+1) (q::r):=by
 show(match zG0 n m c ch (zBi 32 l)with|none=>ln|some k=>zG2 (nOf n k) (mOf m k) (zH0 c k) (chOf ch k) (ln+1) (q::r))=_
 rw[h]
structure Upto (text t:Bs) (s:BSt) (c:Int) (ch:List Int) (ln:Nat):Prop where
  txt:txtS s c ch++t=text
  cut: -1≤c
  cutR:Rn c
  chR:∀v∈ch,Rn v
  fine:s.fine
  n:s.n≤ln
  m:s.m≤ln
  p:s.p≤ln
  one:1≤ln
  len:ln+t.length≤text.length+1
  rest:zG2 s.n s.m c ch ln (zBi 10 t)=zG2 0 0 (-1) [] 1 (zBi 10 text)
theorem Upto.next{text t:Bs}{s:BSt}{c:Int}{ch:List Int}{ln i:Nat}{k:Said}(u:Upto text t s c ch ln)(hi:i<t.length)(hp:zBi 10 t=t.take i::zBi 10 (t.drop (i+1)))(hl:zG0 s.n s.m c ch (zBi 32 (t.take i))=some k)(ht:t=t.take i++10::t.drop (i+1))(vR vH:Value):Upto text (t.drop (i+1)) (s.put vR vH k) (zH0 c k) (chOf ch k) (ln+1):=by
 obtain⟨h1,h2,h3,h4,h5,h6,h7,h8⟩:=zOD s c ch (t.take i) k vR vH u.cut u.cutR u.chR u.fine hl;have h9:nOf s.n k≤s.n+1:=by cases k<;>simp[nOf]
 have h10:mOf s.m k≤s.m+1:=by cases k<;>simp[mOf]
 have:=u.n;have:=u.m;have:=u.p;have:=u.len;refine⟨?_,h5,h6,h7,h8,by omega,by omega,by omega,by omega,by simp;omega,?_⟩
 · rw[h1,←u.txt]
   conv=>rhs;rw[ht]
   simp
 · rw[←u.rest,hp,h2,h3];obtain⟨q,r,e⟩:=zDK 10 (t.drop (i+1));rw[e,zLH _ _ _ _ _ _ _ _ k hl]
theorem zI3(s:Bs):hexV (hexW s)=(s,true):=by unfold hexV;rw[zLN]
def modL {α:Type}(f:α→α):List α→List α
  |[]=>[]
  |[x]=>[f x]
  |x::y::t=>x::modL f (y::t)
def BatS.with (b:BatS) (l:List RecS):BatS:=⟨b.base,b.leader,b.app,b.txn,b.ctl,b.last,b.first,b.maxt,b.prod,b.epoch,b.seq,l⟩
def BtR.val (x:BtR):BatS:=x.b.with (x.l.map (·.1))
def zPC (r:RecS) (h:HdrS):RecS:=⟨r.time,r.off,r.key,r.val,r.hdrs++[h]⟩
def appV (vs:List BatS):Said→List BatS
  | .bat b=>vs++[b.with []]
  | .recd r=>modL (fun b=>b.with (b.recs++[r])) vs
  | .hdr h=>modL (fun b=>b.with (modL (fun r=>zPC r h) b.recs)) vs
  | _=>vs
structure VS where
  vs:List BatS
  n:Nat
  m:Nat
  c:Int
  ch:List Int
def VS.app (v:VS) (k:Said):VS:=⟨appV v.vs k,nOf v.n k,mOf v.m k,zH0 v.c k,chOf v.ch k⟩
variable {W0 w:World}{K:Know}{L:List Res}
theorem zI9{α:Type}(f:α→Bs):∀(l:List α) (k:Nat) (h:k<l.length) (x:α),l[k]=x→(l.drop k).flatMap f=f x++(l.drop (k+1)).flatMap f:=fun l k h x hx=>by
  rw[List.drop_eq_getElem_cons h,hx,List.flatMap_cons]
theorem zK9{a b S:Bs}(h:a++b=S){n:Nat}(hs:S.length≤n):a.length≤n:=by
 have:=congrArg List.length h;rw[List.length_append]at this
 omega
theorem zNo{α:Type}{R:List Value→α→Prop}{sz:Nat}{v:Value}{l:List α}(hk:K.has (Know.flat R v sz l))(h:St W0 w K L):∃q cap,v=.slice q l.length cap:=by
 obtain⟨F,hF,_⟩:=h.get;obtain⟨q,cap,hv,_⟩:=(hk _ _ hF).at;exact⟨q,cap,hv⟩
theorem fl_at{α:Type}{R:List Value→α→Prop}{sz n cap:Nat}{q:Option Addr}{l:List α}(hk:K.has (Know.flat R (.slice q n cap) sz l))(h:St W0 w K L)(h0:0<l.length):∃b off,q=some ⟨b,off,none⟩:=by
 obtain⟨F,hF,_⟩:=h.get;obtain⟨q2,cap2,hv,hr⟩:=(hk _ _ hF).at;obtain⟨b,off,hq,_⟩:=hr h0;simp at hv;exact⟨b,off,hv.1.trans hq⟩
theorem zP5{α:Type}{R:List Value→α→Prop}{sz n cap b off:Nat}{l:List α}(hk:K.has (Know.flat R (.slice (some ⟨b,off,none⟩) n cap) sz l))(h:St W0 w K L)(i:Nat)(hi:i<l.length):∃cs,R cs l[i]∧∀f u,cs[f]? =some u→w.cell? ⟨b,off+(i*sz+f),none⟩=some u:=by
 obtain⟨F,hF,_⟩:=h.get;obtain⟨q2,cap2,hv,hr⟩:=(hk _ _ hF).at;obtain⟨b2,off2,hq,hc⟩:=hr (by omega);rw[hq]at hv;simp at hv;obtain⟨⟨rfl,rfl⟩,_,_⟩:=hv;obtain⟨cs,_,h1,h2⟩:=hc i hi;exact⟨cs,h1,h2⟩
theorem zLq{n cap b off:Nat}{l:List Int}(hk:K.has (Know.flat RInt (.slice (some ⟨b,off,none⟩) n cap) 1 l))(h:St W0 w K L)(i:Nat)(hi:i<l.length)(x:Int)(hx:l[i]=x):w.cell? ⟨b,off+i,none⟩=some (.int .i64 x):=by
 subst hx;obtain⟨cs,h1,h2⟩:=zP5 hk h i hi;unfold RInt at h1;subst h1;have:=h2 0 _ rfl
 rwa [Nat.mul_one,Nat.add_zero]at this
variable {W0 w:World}{K:Know}{L:List Res}
theorem zPa(u:Nat)(hu:u≤9223372036854775807)(hs:u<10)(h:St W0 w K L):
  Calls Tryz.prog 9 #[.int .i64 u] w fun en w'=>en=.returned (.string (bb (Lib.decDigits u)))∧St W0 w' K L:=by
 obtain⟨d,hd⟩:∃d,u % 10=d:=⟨_,rfl⟩;obtain⟨v,hv⟩:∃v,u / 10=v:=⟨_,rfl⟩;have hd9:d<10:=by omega
 obtain⟨c,hc⟩:∃c,UInt8.ofNat (48+d)=c:=⟨_,rfl⟩;have hcn:(48+(d:Int))=c.toNat:=by rw[←hc,UInt8.toNat_ofNat'];omega
 obtain⟨nb,hnb⟩:∃b,w.heap.size=b:=⟨_,rfl⟩;have g1:=h.allocRaw #[.int .u8 (48+(d:Int))] 5;rw[hnb]at g1;have cb:=zDa c _ hcn g1;have H:=hQd g1;have q1:(u:Int).tmod 10=(d:Int):=by rw[Int.tmod_eq_emod_of_nonneg (by omega)];omega
 have q2:(u:Int) % 10=(d:Int):=by omega
 have q3:(u:Int).tdiv 10=(v:Int):=by rw[Int.tdiv_eq_ediv_of_nonneg (by omega)];omega
 have q4:(u:Int) / 10=(v:Int):=by omega
 have r1:¬((u:Int)<0):=by omega
 have r2:decide ((u:Int)<0)=false:=decide_eq_false r1;have r3:(u:Int)<10:=by omega
 have r4:decide ((u:Int)<10)=true:=decide_eq_true r3;have q5:(48+(d:Int)) % 256=48+(d:Int):=by omega
 have HD:=hQd (show Lib.decDigits u=[c]from by rw[zJi hs,←hc];rw[←hd,Nat.mod_eq_of_lt hs]);have HWV:=hQd (show wrap64 ((v:Int))=(v:Int)from IntWalk.wrap64_in _ (by omega))
 skip
 skip
 skip
 skip
 skip
 skip
 skip
 clear h g1 hu hs hd hv hc hcn hd9;go_enter Tryz.func9,Tryz.ntmps9;go_wp2_with fail;go_ret;exact⟨by rw[HD.out];try rfl,H.out.drop⟩
theorem num_p1(u:Nat)(hu:u≤9223372036854775807)(hs:¬u<10)(hrec:∀w,St W0 w K L→Calls Tryz.prog 9 #[.int .i64 (u / 10:Nat)] w fun en w'=>en=.returned (.string (bb (Lib.decDigits (u / 10))))∧St W0 w' K L)(h:St W0 w K L):
  Calls Tryz.prog 9 #[.int .i64 u] w fun en w'=>en=.returned (.string (bb (Lib.decDigits u)))∧St W0 w' K L:=by
 obtain⟨d,hd⟩:∃d,u % 10=d:=⟨_,rfl⟩;obtain⟨v,hv⟩:∃v,u / 10=v:=⟨_,rfl⟩;have hd9:d<10:=by omega
 obtain⟨c,hc⟩:∃c,UInt8.ofNat (48+d)=c:=⟨_,rfl⟩;have hcn:(48+(d:Int))=c.toNat:=by rw[←hc,UInt8.toNat_ofNat'];omega
 obtain⟨nb,hnb⟩:∃b,w.heap.size=b:=⟨_,rfl⟩;have g1:=h.allocRaw #[.int .u8 (48+(d:Int))] 5;rw[hnb]at g1;have cb:=zDa c _ hcn g1;have H:=hQd g1;have q1:(u:Int).tmod 10=(d:Int):=by rw[Int.tmod_eq_emod_of_nonneg (by omega)];omega
 have q2:(u:Int) % 10=(d:Int):=by omega
 have q3:(u:Int).tdiv 10=(v:Int):=by rw[Int.tdiv_eq_ediv_of_nonneg (by omega)];omega
 have q4:(u:Int) / 10=(v:Int):=by omega
 have r1:¬((u:Int)<0):=by omega
 have r2:decide ((u:Int)<0)=false:=decide_eq_false r1;have r3:¬((u:Int)<10):=by omega
 have r4:decide ((u:Int)<10)=false:=decide_eq_false r3;have q5:(48+(d:Int)) % 256=48+(d:Int):=by omega
 have HD:=hQd (show Lib.decDigits u=(Lib.decDigits v++[c])from by rw[zKk hs,hd,hv,hc]);have HWV:=hQd (show wrap64 ((v:Int))=(v:Int)from IntWalk.wrap64_in _ (by omega));have HREC:=hQd hrec;rw[hv]at HREC;obtain⟨p,hp⟩:∃p,Lib.decDigits v=p:=⟨_,rfl⟩;have hpl:p.length≤30:=by rw[←hp];exact zQd v (by omega)
 have hpi:¬9223372036854775807<p.length+1:=by omega
 rw[hp]at HREC;rw[show Lib.decDigits v++[c]=p++[c] by rw[←hp]<;>rfl]at HD;clear h g1 hu hs hd hv hc hcn hd9 hrec;go_enter Tryz.func9,Tryz.ntmps9;go_wp2_with (go_at_call 9;rw[HWV.out];(with_reducible refine(HREC.out _ H.out.drop).mono ?_);rintro e_ wn ⟨rfl,h⟩;replace H:=hQd h;clear h);go_ret;exact⟨by rw[HD.out];try rfl,H.out⟩
theorem num_n0(u:Nat)(hu:u≤9223372036854775808)(h1:1≤u)(hs:u<10)(h:St W0 w K L):
  Calls Tryz.prog 9 #[.int .i64 (-(u:Int))] w fun en w'=>en=.returned (.string (bb ((45::Lib.decDigits u))))∧St W0 w' K L:=by
 obtain⟨d,hd⟩:∃d,u % 10=d:=⟨_,rfl⟩;obtain⟨v,hv⟩:∃v,u / 10=v:=⟨_,rfl⟩;have hd9:d<10:=by omega
 obtain⟨c,hc⟩:∃c,UInt8.ofNat (48+d)=c:=⟨_,rfl⟩;have hcn:(48+(d:Int))=c.toNat:=by rw[←hc,UInt8.toNat_ofNat'];omega
 obtain⟨nb,hnb⟩:∃b,w.heap.size=b:=⟨_,rfl⟩;have g1:=h.allocRaw #[.int .u8 (48+(d:Int))] 5;rw[hnb]at g1;have cb:=zDa c _ hcn g1;have H:=hQd g1;have q1:(-(u:Int)).tmod 10= -(d:Int):=by rw[Int.neg_tmod,Int.tmod_eq_emod_of_nonneg (by omega)];omega
 have q3:(-(u:Int)).tdiv 10= -(v:Int):=by rw[Int.neg_tdiv,Int.tdiv_eq_ediv_of_nonneg (by omega)];omega
 have r1:(-(u:Int))<0:=by omega
 have r2:decide ((-(u:Int))<0)=true:=decide_eq_true r1;have r5:(0:Int)<(u:Int):=by omega
 have r3: -10<(-(u:Int)):=by omega
 have r4:decide (-10<(-(u:Int)))=true:=decide_eq_true r3;have r6:(u:Int)<10:=by omega
 have q5:(48+(d:Int)) % 256=48+(d:Int):=by omega
 have HD:=hQd (show(45::Lib.decDigits u)=[45,c]from by rw[zJi hs,←hc];rw[←hd,Nat.mod_eq_of_lt hs]);have HWV:=hQd (show wrap64 (-(v:Int))= -(v:Int)from IntWalk.wrap64_in _ (by omega))
 skip
 skip
 skip
 skip
 skip
 skip
 skip
 clear h g1 hu hs hd hv hc hcn hd9 h1;go_enter Tryz.func9,Tryz.ntmps9;go_wp2_with fail;go_ret;exact⟨by rw[HD.out];try rfl,H.out.drop⟩
theorem num_n1(u:Nat)(hu:u≤9223372036854775808)(h1:1≤u)(hs:¬u<10)(hrec:∀w,St W0 w K L→Calls Tryz.prog 9 #[.int .i64 (-((u / 10:Nat):Int))] w fun en w'=>en=.returned (.string (bb (45::Lib.decDigits (u / 10))))∧St W0 w' K L)(h:St W0 w K L):
  Calls Tryz.prog 9 #[.int .i64 (-(u:Int))] w fun en w'=>en=.returned (.string (bb ((45::Lib.decDigits u))))∧St W0 w' K L:=by
 obtain⟨d,hd⟩:∃d,u % 10=d:=⟨_,rfl⟩;obtain⟨v,hv⟩:∃v,u / 10=v:=⟨_,rfl⟩;have hd9:d<10:=by omega
 obtain⟨c,hc⟩:∃c,UInt8.ofNat (48+d)=c:=⟨_,rfl⟩;have hcn:(48+(d:Int))=c.toNat:=by rw[←hc,UInt8.toNat_ofNat'];omega
 obtain⟨nb,hnb⟩:∃b,w.heap.size=b:=⟨_,rfl⟩;have g1:=h.allocRaw #[.int .u8 (48+(d:Int))] 5;rw[hnb]at g1;have cb:=zDa c _ hcn g1;have H:=hQd g1;have q1:(-(u:Int)).tmod 10= -(d:Int):=by rw[Int.neg_tmod,Int.tmod_eq_emod_of_nonneg (by omega)];omega
 have q3:(-(u:Int)).tdiv 10= -(v:Int):=by rw[Int.neg_tdiv,Int.tdiv_eq_ediv_of_nonneg (by omega)];omega
 have r1:(-(u:Int))<0:=by omega
 have r2:decide ((-(u:Int))<0)=true:=decide_eq_true r1;have r5:(0:Int)<(u:Int):=by omega
 have r3:¬(-10<(-(u:Int))):=by omega
 have r4:decide (-10<(-(u:Int)))=false:=decide_eq_false r3;have r6:¬((u:Int)<10):=by omega
 have q5:(48+(d:Int)) % 256=48+(d:Int):=by omega
 have HD:=hQd (show(45::Lib.decDigits u)=(45::(Lib.decDigits v++[c]))from by rw[zKk hs,hd,hv,hc]);have HWV:=hQd (show wrap64 (-(v:Int))= -(v:Int)from IntWalk.wrap64_in _ (by omega));have HREC:=hQd hrec;rw[hv]at HREC;obtain⟨p,hp⟩:∃p,(45::Lib.decDigits v)=p:=⟨_,rfl⟩;have hpl:p.length≤30:=by rw[←hp];exact Nat.succ_le_succ (zDT v (by omega))
 have hpi:¬9223372036854775807<p.length+1:=by omega
 rw[hp]at HREC;rw[show 45::(Lib.decDigits v++[c])=p++[c] by rw[←hp]<;>rfl]at HD;clear h g1 hu hs hd hv hc hcn hd9 hrec h1;go_enter Tryz.func9,Tryz.ntmps9;go_wp2_with (go_at_call 9;rw[HWV.out];(with_reducible refine(HREC.out _ H.out.drop).mono ?_);rintro e_ wn ⟨rfl,h⟩;replace H:=hQd h;clear h);go_ret;exact⟨by rw[HD.out];try rfl,H.out⟩
theorem zM1:∀(n u:Nat),u≤n→u≤9223372036854775807→∀{W0 w:World}{K:Know}{L:List Res},St W0 w K L→Calls Tryz.prog 9 #[.int .i64 u] w fun en w'=>en=.returned (.string (bb (Lib.decDigits u)))∧St W0 w' K L
  |0,u,h,hu,_,_,_,_,hst=>zPa u hu (by omega) hst
  |n+1,u,h,hu,_,_,_,_,hst=>by
    by_cases hs:u<10
    · exact zPa u hu hs hst
    · exact num_p1 u hu hs (fun w' h'=>zM1 n (u / 10) (by omega) (by omega) h') hst
theorem zM2:∀(n u:Nat),u≤n→u≤9223372036854775808→1≤u→∀{W0 w:World}{K:Know}{L:List Res},St W0 w K L→Calls Tryz.prog 9 #[.int .i64 (-(u:Int))] w fun en w'=>en=.returned (.string (bb (45::Lib.decDigits u)))∧St W0 w' K L
  |0,u,h,hu,h1,_,_,_,_,hst=>absurd h (by omega)
  |n+1,u,h,hu,h1,_,_,_,_,hst=>by
    by_cases hs:u<10
    · exact num_n0 u hu h1 hs hst
    · exact num_n1 u hu h1 hs (fun w' h'=>zM2 n (u / 10) (by omega) (by omega) (by omega) h') hst
theorem zBJ(n:Int)(hn:Rn n)(t:Bs)(ht:numW n=t)(h:St W0 w K L):Calls Tryz.prog 9 #[.int .i64 n] w fun en w'=>en=.returned (.string (bb t))∧St W0 w' K L:=by
 subst ht;unfold Rn at hn
 by_cases h0:n<0
 · obtain⟨u,rfl⟩:∃u:Nat,n= -(u:Int):=⟨n.natAbs,by omega⟩;have e:numW (-(u:Int))=45::Lib.decDigits u:=by unfold numW;exact Lib.itoa_neg u (by omega)
   rw[e];exact zM2 u u (Nat.le_refl _) (by omega) (by omega) h
 · obtain⟨u,rfl⟩:∃u:Nat,n=(u:Int):=⟨n.natAbs,by omega⟩;have e:numW (u:Int)=Lib.decDigits u:=by unfold numW;exact Lib.itoa_nonneg u
   rw[e];exact zM1 u u (Nat.le_refl _) (by omega) h
variable {W0 w:World}{K:Know}{L:List Res}
theorem zPR{o:Oper}{a:Act}{KK:Act→World→Prop}{Q:Exit→Act→World→Prop}(sl x:Operand)(t:TypeId)
    (ho:o.op=.call {callee:=.builtin .append,args:= #[sl,x],argTypes:= #[t,t]})
    (e:TypeId){z:Value}{size bytes:Nat}(ht:Tryz.prog.underlying t=some (.slice e))(he:zEZ Tryz.prog e z size bytes)
    (v:Value)(n:Nat)(xs:List Value)(hs:a.eval sl=v)(bS m:Nat)(cs:Array Value)(T:TypeId)(hst:St W0 w K (.raw bS cs T::.row v e size n xs::L))
    (hx:a.eval x=.slice (some ⟨bS,0,none⟩) m m)(hl:cs.toList.length=m*size)(h1:∀u∈cs.toList,u.oneCell'=true)
    (h63:n+m≤maxLen)(hbytes:(n+m)*bytes≤140737488355328)
    (h:∀v' w',St W0 w' K (.row v' e size (n+m) (xs++cs.toList)::L)→KK (a.put o.dst v') w'):o.wp Tryz.prog a w KK Q:=by
  have hc:=hst.rawCell;have hst2:=hst.p1;obtain⟨⟨i,g1,g2,g3,g4⟩,g5,g6⟩:=he
  obtain⟨v',w',hr,h2,h3,h4⟩:=zNW (P:=Tryz.prog) w t o.type e i z size bytes ht g1 g2 g3 g4 g5 g6 v n xs hst2.rowGet ⟨bS,0,none⟩ m m cs.toList hl (fun j u hj=>by
    have ha:(⟨bS,0,none⟩:Addr).add j=⟨bS,j,none⟩:=by unfold Addr.add;split<;>simp_all
    rw[ha,hc j]
    simpa using hj) h1 h63 hbytes
  unfold Oper.wp execOp;simp only[ho,resolve,invoke,builtin,Sem.run_bind,Sem.run_pure,Result.andThen_ok,List.map_toArray,List.map_cons,List.map_nil,hs,hx,hr];exact h v' w' (hst2.rowGrown h2 h3 h4).p1.drop
theorem build2(a b:Int)(w:World):(Instr.buildSlice 57 2 #[(0,.int .u8 a),(1,.int .u8 b)]).run Tryz.prog w=.ok (.slice (some ⟨w.heap.size,0,none⟩) 2 2) (w.alloc (.cells #[.int .u8 a,.int .u8 b] 5 (0,0))):=by go_simp
theorem zKc{o:Oper}{ρ:Operand→Value}(ps:Array (Nat×Value))(v:Value)(w w':World)(ho:execOp ρ o=(do pure (Next.value (←Instr.buildSlice 57 2 ps))))(hb:(Instr.buildSlice 57 2 ps).run Tryz.prog w=.ok v w'):(execOp ρ o).run Tryz.prog w=.ok (.value v) w':=by
 rw[ho];simp[hb,Result.andThen]
theorem zOd(n:Nat)(hn:n<16)(h:St W0 w K L):
   Calls Tryz.prog 44 #[.int .i64 n] w fun en w'=>en=.returned (.int .u8 (hexD n).toNat)∧St W0 w' K L:=by
 have H:=hQd h;have hn1:(n:Int)<16:=by omega
 have HE:=hQd (show(hexD n).toNat=if n<10 then 48+n else 87+n by unfold hexD;split<;>(rw[UInt8.toNat_ofNat'];omega));clear h hn
 by_cases h1:n<10
 · have h2:(n:Int)<10:=by omega
   have h3:decide ((n:Int)<10)=true:=decide_eq_true h2;rw[if_pos h1]at HE;have h4:(48+(n:Int)) % 256=(((hexD n).toNat:Nat):Int):=by rw[HE.out];omega
   clear h1;go_enter Tryz.func44,Tryz.ntmps44;go_wp2;go_ret;exact⟨by rw[HE.out];rfl,H.out⟩
 · have h2:¬(n:Int)<10:=by omega
   have h3:decide ((n:Int)<10)=false:=decide_eq_false h2;rw[if_neg h1]at HE;clear h1;go_enter Tryz.func44,Tryz.ntmps44;go_wp2;go_ret;have e9:(97+(n:Int) - 10)=((87+n:Nat):Int):=by omega
   exact⟨by rw[HE.out,←e9];rfl,H.out⟩
theorem zIs(v:Int)(n:Nat)(d:UInt8)(hv:v=n)(hn:n<16)(hd:hexD n=d)(h:St W0 w K L):
  Calls Tryz.prog 44 #[.int .i64 v] w fun en w'=>en=.returned (.int .u8 d.toNat)∧St W0 w' K L:=by
 subst hv hd;exact zOd n hn h
theorem wrap_i64(x:Int)(h0: -9223372036854775808≤x)(h1:x<9223372036854775808):IntKind.i64.wrap x=x:=IntWalk.i64_in _ (by omega)
theorem nib1(x:UInt8):IntKind.i64.wrap ((IntKind.i64.wrap ((x.toNat:Nat):Int)).tdiv 16)=((x.toNat / 16:Nat):Int):=by
 have hx:=x.toNat_lt;rw[wrap_i64 ((x.toNat:Nat):Int) (by omega) (by omega),Int.tdiv_eq_ediv_of_nonneg (by omega),wrap_i64 _ (by omega) (by omega)]
 rfl
theorem nib2(x:UInt8):(IntKind.i64.wrap ((x.toNat:Nat):Int)).tmod 16=((x.toNat % 16:Nat):Int):=by
 have hx:=x.toNat_lt;rw[wrap_i64 ((x.toNat:Nat):Int) (by omega) (by omega),Int.tmod_eq_emod_of_nonneg (by omega)]
 rfl
theorem rs_hex(s:Bs)(hs:s.length≤1000000){W0 w:World}{K:Know}{L:List Res}(h:St W0 w K L):
   Calls Tryz.prog 17 #[.string (bb s)] w fun en w'=>en=.returned (.string (bb (hexW s)))∧St W0 w' K L:=by
 by_cases h0:s=[]
 · subst h0;have H:=hQd h;clear h;go_enter Tryz.func17,Tryz.ntmps17;go_wp2;go_ret;exact⟨rfl,H.out⟩
 have hw:hexW s=hexL s:=by unfold hexW;rw[if_neg h0]
 rw[hw];have q3:(s==[])=false:=by rw[beq_eq_false_iff_ne];exact h0
 have q4:(s !=[])=true:=by simp[bne,q3]
 have hsl:(s.length:Int)≤1000000:=by omega
 have g1:=h.rowLit [] 5 1 0 (by simp) (Nat.zero_le _);have H:=hQd g1;have HS:=hQd hs;clear h g1 hs h0 hw;go_enter Tryz.func17,Tryz.ntmps17;go_wp2_with fail;go_loopw [3,4] (fun ov iv wr=>∃(k cp:Nat) (q:Option Addr),k≤s.length∧iv=.int .i64 k∧ov=.slice q (2*k) cp∧St W0 wr K (.row (.slice q (2*k) cp) 5 1 (2*k) (zAu (hexL (s.take k)))::L)) (fun _ iv _=>s.length - (intOf iv).toNat)
 case atStart=>exact⟨0,0,_,Nat.zero_le _,rfl,rfl,H.out⟩
 case round=>
   obtain⟨k,cp,q,hk,rfl,rfl,hst⟩:=hrel;clear H;have H:=hQd hst;clear hst
   by_cases hlt:k<s.length
   · have hlti:(k:Int)<(s.length:Int):=by omega
     have hx:=(s[k]'hlt).toNat_lt;have HQ1:=hQd (show(s[k]'hlt).toNat / 16<16 by omega);have HQ2:=hQd (show(s[k]'hlt).toNat % 16<16 by omega);have HV1:=hQd (nib1 (s[k]'hlt));have HV2:=hQd (nib2 (s[k]'hlt));obtain⟨d1,hd1⟩:∃d,hexD ((s[k]'hlt).toNat / 16)=d:=⟨_,rfl⟩;obtain⟨d2,hd2⟩:∃d,hexD ((s[k]'hlt).toNat % 16)=d:=⟨_,rfl⟩;have HD1:=hQd hd1;have HD2:=hQd hd2;have HTK:=hQd (show zAu (hexL (s.take k))++[.int .u8 d1.toNat,.int .u8 d2.toNat]=zAu (hexL (s.take (k+1))) by rw[←zNh s k hlt _ rfl,hd1,hd2];simp[zAu]);clear hx hd1 hd2;go_upto_region 7 with fail;have hs:=H.out.drew;clear H;refine wp_region_held_drew (S:=fun _=>True) (by kernel_rfl) trivial (fun hHeld=> ?_);refine tQ 0 ⟨some 14,.move (.tmp 3),57,_,_,none⟩ ?_;simp only[Act.put,sA,sB,sC];refine tQ 1 ⟨some 15,.move (.tmp 0),9,_,_,none⟩ ?_;simp only[Act.put,sA,sB,sC];refine tQ 2 ⟨some 16,.move (.tmp 4),3,_,_,none⟩ ?_;simp only[Act.put,sA,sB,sC];refine tQ 3 ⟨some 17,.index 9 (.tmp 15) (.tmp 16),5,_,_,none⟩ ?_;simp only[Act.put,sA,sB,sC];refine tQ 4 ⟨some 18,.convert 5 3 (.tmp 17),3,_,_,none⟩ ?_;simp only[Act.put,sA,sB,sC];refine tQ 5 ⟨some 19,.binOp .quo 3 (.tmp 18) (.const (Value.int IntKind.i64 16)) 3,3,_,_,none⟩ ?_;simp only[Act.put,sA,sB,sC];refine tQ 7 ⟨some 21,.move (.tmp 0),9,_,_,none⟩ ?_;simp only[Act.put,sA,sB,sC];refine tQ 8 ⟨some 22,.move (.tmp 4),3,_,_,none⟩ ?_;simp only[Act.put,sA,sB,sC];refine tQ 9 ⟨some 23,.index 9 (.tmp 21) (.tmp 22),5,_,_,none⟩ ?_;simp only[Act.put,sA,sB,sC];refine tQ 10 ⟨some 24,.convert 5 3 (.tmp 23),3,_,_,none⟩ ?_;simp only[Act.put,sA,sB,sC];refine tQ 11 ⟨some 25,.binOp .rem 3 (.tmp 24) (.const (Value.int IntKind.i64 16)) 3,3,_,_,none⟩ ?_;simp only[Act.put,sA,sB,sC];refine wpAnyH_ready (rs:=[6]) (by kernel_rfl) (by simp) (AllReadyH.cons (o:=⟨some 20,.call {callee:=.value (.func 44),args:= #[.tmp 19],argTypes:= #[3]},5,_,_,none⟩) rfl (fun KK hK=> ?_) AllReadyH.nil);go_simp;go_at_call 44;with_reducible refine(zIs _ _ d1 ?_ HQ1.out HD1.out hs).mono ?_
     · exact HV1.out
     rintro e wq ⟨rfl,hs⟩;refine hK.out _ _ (trivial) (fun hHeld=> ?_);clear hK KK
     try simp only[Act.put,sA,sB,sC]
     refine wpAnyH_ready (rs:=[12]) (by kernel_rfl) (by simp) (AllReadyH.cons (o:=⟨some 26,.call {callee:=.value (.func 44),args:= #[.tmp 25],argTypes:= #[3]},5,_,_,none⟩) rfl (fun KK hK=> ?_) AllReadyH.nil);go_simp;go_at_call 44;with_reducible refine(zIs _ _ d2 ?_ HQ2.out HD2.out hs).mono ?_
     · exact HV2.out
     rintro e wq ⟨rfl,hs⟩;refine hK.out _ _ (trivial) (fun hHeld=> ?_);clear hK KK
     try simp only[Act.put,sA,sB,sC]
     refine wpAnyH_ready (rs:=[13]) (by kernel_rfl) (by simp) (AllReadyH.cons (o:=⟨some 27,.buildSlice 57 2 #[(0,.tmp 20),(1,.tmp 26)],57,_,_,none⟩) rfl (fun KK hK=> ?_) AllReadyH.nil);rw[if_pos (by rfl)];refine zE9 (zKc _ _ _ _ (by kernel_rfl) (build2 d1.toNat d2.toNat wq)) ?_;obtain⟨wy,b2,ey,eb,hs⟩:=hs.allocEx #[.int .u8 d1.toNat,.int .u8 d2.toNat] 5;rw[ey,eb];clear ey eb;refine hK.out _ _ (trivial) (fun hHeld=> ?_);clear hK KK
     try simp only[Act.put,sA,sB,sC]
     refine wpAnyH_ready (rs:=[14]) (by kernel_rfl) (by simp) (AllReadyH.cons (o:=⟨some 28,.call {callee:=.builtin .append,args:= #[.tmp 14,.tmp 27],argTypes:= #[57,57]},57,_,_,none⟩) rfl (fun KK hK=> ?_) AllReadyH.nil);rw[if_pos (by rfl)];refine zPR (.tmp 14) (.tmp 27) 57 rfl 5 Tryz.underlying57 zHW _ _ _ (by rfl) b2 2 _ 5 hs (by rfl) rfl (by simp[Value.oneCell']) (by have:=HS.out;unfold maxLen;omega) (by have:=HS.out;omega) (fun v' w' h=> ?_);have hs:=h;clear h;obtain⟨qv,cv,hv⟩:=hs.rowAny;subst hv;refine hK.out _ _ (trivial) (fun hHeld=> ?_);clear hK KK
     try simp only[Act.put,sA,sB,sC]
     refine tQ 15 ⟨some 3,.assign (.tmp 28),57,_,_,none⟩ ?_;simp only[Act.put,sA,sB,sC];refine wpAnyH_done (by kernel_rfl) ?_ _;clear hHeld;have H:=hQd (show St W0 w' K (.row (.slice qv (2*(k+1)) cv) 5 1 (2*(k+1)) (zAu (hexL (s.take (k+1))))::L) by rw[←HTK.out];exact hs);clear hs;go_wp2_with fail;go_roundw
     case rel=>exact⟨k+1,cv,qv,hlt,by go_num,rfl,H.out⟩
     case measure=>first|(simp[intOf];done)|(simp[intOf];omega)
   · obtain rfl:k=s.length:=by omega
     have hz:St W0 wr K (.row (.slice q (2*s.length) cp) 5 1 (2*s.length) (zAu (hexL s))::L):=by have h9:=H.out;rw[List.take_length]at h9;exact h9
     have hcv:=hz.rowText (by rw[zFb]);have H2:=hQd hz;clear H hz;go_wp2_with fail;go_ret;exact⟨rfl,H2.out.drop⟩
theorem zMz(s t:Bs)(ht:hexW s=t)(hs:s.length≤1000000){W0 w:World}{K:Know}{L:List Res}(h:St W0 w K L):
  Calls Tryz.prog 17 #[.string (bb s)] w fun en w'=>en=.returned (.string (bb t))∧St W0 w' K L:=by
 subst ht;exact rs_hex s hs h
theorem zOG(s:Bs):s.length≤(hexW s).length:=by
 unfold hexW
 split
 · rename_i h;subst h;exact Nat.zero_le _
 · rw[zFb];omega
def FitW (l:List (RecS×Value)):Prop:=∀x∈l,x.1.R∧x.1.hdrs.length≤9223372036854775807∧HFit x.1.hdrs∧x.1.key.data.length≤140737488351232∧x.1.val.data.length≤140737488351232
def hAll:List HdrS→Bool
  |[]=>true
  |h::t=>decide (h.key.length+h.val.data.length≤100) && hAll t
def zC1 (x:RecS):Bool:=decide (x.key.data.length+x.val.data.length≤100) && (decide (x.hdrs.length≤6) && hAll x.hdrs)
def rAll:List RecS→Bool
  |[]=>true
  |r::t=>zC1 r && rAll t
def zDz (l:List RecS):Bool:=decide (l.length≤12) && rAll l
theorem zHR:∀(l:List HdrS),hAll l=true→hsum l≤101*l.length
  |[],_=>by simp[hsum]
  |h::t,hh=>by
    simp only[hAll,Bool.and_eq_true,decide_eq_true_eq]at hh;have:=zHR t hh.2;simp only[hsum,List.length_cons,List.map_cons,List.sum_cons]at*
    omega
theorem zE6:∀(l:List RecS),rAll l=true→∀x∈l,zC1 x=true
  |[],_,_,h=>by cases h
  |r::t,hh,x,hx=>by
    simp only[rAll,Bool.and_eq_true]at hh
    rcases List.mem_cons.1 hx with rfl|hx
    · exact hh.1
    · exact zE6 t hh.2 x hx
theorem zEF{x:RecS}(h:zC1 x=true):x.sum≤1000:=by
 unfold zC1 at h;simp only[Bool.and_eq_true,decide_eq_true_eq]at h;have:=zHR _ h.2.2;unfold RecS.sum
 omega
theorem FitW.fit{l:List (RecS×Value)}(h:FitW l)(hs:zDz (l.map (·.1))=true):FitB l:=by
 intro x hx;unfold zDz at hs;simp only[Bool.and_eq_true]at hs;have h1:=zEF (zE6 _ hs.2 x.1 (List.mem_map.2 ⟨x,hx,rfl⟩));obtain⟨a,b,c,_⟩:=h x hx;exact⟨a,c,by omega⟩
theorem zLl{l:List (RecS×Value)}(hs:zDz (l.map (·.1))=true):l.length≤12:=by
 unfold zDz at hs;simp only[Bool.and_eq_true,decide_eq_true_eq,List.length_map]at hs;exact hs.1
theorem zAp(n:Int)(h:Rn n):(numW n).length≤31:=by
 unfold Rn at h;unfold numW
 by_cases h0:n<0
 · obtain⟨u,rfl⟩:∃u:Nat,n= -(u:Int):=⟨n.natAbs,by omega⟩;rw[Lib.itoa_neg u (by omega)]
   by_cases hu:u≤9223372036854775807
   · have:=zDT u hu;rw[List.length_cons];omega
   · have e:u=9223372036854775808:=by omega
     subst e;have h9:(Lib.decDigits 9223372036854775808).length=(Lib.decDigits 922337203685477580++[UInt8.ofNat (48+9223372036854775808 % 10)]).length:=by rw[zKk (by omega)]
     rw[List.length_append]at h9;have:=zDT 922337203685477580 (by omega);rw[List.length_cons,h9,List.length_cons,List.length_nil];omega
 · obtain⟨u,rfl⟩:∃u:Nat,n=(u:Int):=⟨n.natAbs,by omega⟩;rw[Lib.itoa_nonneg];have:=zDT u (by omega);omega
theorem zNd(s:Bs):(hexW s).length≤2*s.length+1:=by
 unfold hexW
 split
 · simp
 · rw[zFb];omega
theorem zK1{α:Type}(f:α→Bs)(n:Nat):∀(l:List α),(∀x∈l,(f x).length≤n)→(l.flatMap f).length≤l.length*n
  |[],_=>by simp
  |x::t,h=>by
    have h1:=zK1 f n t (fun y hy=>h y (by simp[hy]));have h2:=h x (by simp);rw[List.flatMap_cons,List.length_append,List.length_cons,Nat.succ_mul]
    omega
theorem zG7:∀ws:List Bs,Lib.join ws [32]=zAT 32 ws
  |[]=>rfl
  |w::r=>by
    rw[Lib.join_cons,zEq]
    congr 1
theorem zPk(ws:List Bs)(t:Bs)(wb n cap:Nat)(hn:n=ws.length)(hnc:n≤cap)(hl:ws.length≤1000000)(ht:zAT 32 ws=t)(htl:t.length≤1000000)(hk:K.has (Know.strw wb 0 ws))(h:St W0 w K L):
  Calls Tryz.prog 73 #[.slice (some ⟨wb,0,none⟩) n cap,.string ⟨#[32]⟩] w fun e w'=>e=.returned (.string (bb t))∧St W0 w' K L:=by
 subst hn;obtain⟨F,hF,_⟩:=h.get;obtain⟨_,h2,h3⟩:=hk _ _ hF
 have e1:(ws.map bb).map (fun x=>x.data.toList)=ws:=by
  rw[List.map_map]
  conv=>rhs;rw[←List.map_id ws]
  refine List.map_congr_left fun x _=> ?_
  simp
 have e2:(⟨#[32]⟩:ByteArray).data.toList=[32]:=rfl
 have h4:=Tryz.strings_Join wb 0 cap (ws.map bb) ⟨#[32]⟩ w (fun j x hx=>by
  rw[List.getElem?_map]at hx
  cases hj:ws[j]? with
  |none=>rw[hj]at hx;cases hx
  |some y=>rw[hj]at hx;injection hx with hx;subst hx;exact h3 j y hj) h2 (by simp;omega) (by simpa using hnc) (by rw[e1,e2,zG7,ht];omega)
 rw[e1,e2,zG7,ht,List.length_map]at h4;exact h4.mono (by rintro e w' ⟨rfl,hb⟩;exact⟨rfl,h.below' hb⟩)
theorem zGk:zEZ Tryz.prog 9 (.string ⟨#[]⟩) 1 16:=zCz (by kernel_rfl) rfl (by decide)
def zKM (s:Bs):List Value:=[.string (bb s)]
theorem St.rowStrs{v:Value}{ws:List Bs}{T:TypeId}(h:St W0 w K (.row v T 1 ws.length (ws.flatMap zKM)::L))(h0:0<ws.length):∃wb cap,v=.slice (some ⟨wb,0,none⟩) ws.length cap∧ws.length≤cap∧St W0 w (K.and (Know.strw wb 0 ws)) L:=by
 obtain⟨g,cap,hv⟩:=h.rowSlice h0;subst hv;have hcc:=h.rowGet;refine⟨g,cap,rfl,?_,h.freeze fun F S1 _ hr=> ?_⟩
 · rcases hcc.2 with ⟨hv,_⟩|⟨g2,cap2,cur,hv,hle,_⟩
   · cases hv
   · injection hv with _ _ hv;subst hv;omega
 · obtain⟨⟨g1,g2⟩,g3⟩:=hr
   rcases g2 with ⟨hv,_⟩|⟨g4,cap4,cur,hv,_,hg,hn,hcm,hcs,htake⟩
   · cases hv
   · injection hv with hv1 hv2 hv3;injection hv1 with hv1;injection hv1 with hv1;subst hv1;have hlt:=zA6 hg;refine⟨.inr ⟨(g3 _).2 rfl,hlt⟩,hlt,fun j x hx=> ?_⟩;rw[zAP hg,Nat.zero_add];have hj:j<ws.length:=(List.getElem?_eq_some_iff.1 hx).1;have e:=zBq ws zKM 1 (fun _ _=>rfl) j hj 0 (by omega);rw[(List.getElem?_eq_some_iff.1 hx).2,Nat.mul_one,Nat.add_zero]at e;rw[←htake,List.getElem?_take_of_lt (by omega)]at e
     simpa [zKM]using e
def zJF (b:BatS):List Bs:=match zB7 b with
  |(_,_,k,_,c,true)=>[if k=1 then[99,111,109,109,105,116]else[97,98,111,114,116],numW c]
  | _=>[[100,97,116,97]]
def zI7 (b:BatS):List Bs:=[[98,97,116,99,104],numW b.base,numW b.prod,numW (b.recs.length:Int)]
def zBc (b:BatS):Bs:=zAT 32 (zI7 b++zJF b)++[10]
def totT (P Q:Int):Bs:=zAT 32 [[116,111,116,97,108],numW P,numW Q]++[10]
def endW (V st e:Int):List Bs:=if st=0 then[[118,97,108,105,100],numW V,[99,108,101,97,110]]else if st=1 then[[118,97,108,105,100],numW V,[116,111,114,110]]else[[118,97,108,105,100],numW V,[98,97,100],numW e]
def endT (V st e:Int):Bs:=zAT 32 (endW V st e)++[10]
def sumE (bs:List BatS):Int:=(bs.map fun b=>(b.enc.length:Int)).sum
def sumR (bs:List BatS):Int:=(bs.map fun b=>(b.recs.length:Int)).sum
def zMg (bs:List BatS) (V:Int) (st e:Int):Bs:=bs.flatMap zBc++(totT (sumE bs) (sumR bs)++endT V st e)
theorem zFj{b:BatS}{n1 n2 n3 n4 n5:Int}(h:zB7 b=(n1,n2,n3,n4,n5,false)):zJF b=[[100,97,116,97]]:=by unfold zJF;rw[h]
theorem zDi{b:BatS}{n1 n2 n3 n4 n5:Int}(h:zB7 b=(n1,n2,n3,n4,n5,true))(hk:n3=1):zJF b=[[99,111,109,109,105,116],numW n5]:=by unfold zJF;rw[h];simp only;rw[if_pos hk]
theorem zD4{b:BatS}{n1 n2 n3 n4 n5:Int}(h:zB7 b=(n1,n2,n3,n4,n5,true))(hk:¬n3=1):zJF b=[[97,98,111,114,116],numW n5]:=by unfold zJF;rw[h];simp only;rw[if_neg hk]
theorem zFf{ops:Array Oper}{rest:List Oper}{o:Oper}{a:Act}{Q:Exit→Act→World→Prop}(hgd:o.guard=none)(sl x:Operand)(t:TypeId)
    (ho:o.op=.call {callee:=.builtin .append,args:= #[sl,x],argTypes:= #[t,t]})
    (e:TypeId){z:Value}{size bytes:Nat}(ht:Tryz.prog.underlying t=some (.slice e))(he:zEZ Tryz.prog e z size bytes)
    (v:Value)(n:Nat)(xs:List Value)(hs:a.eval sl=v)(hst:St W0 w K (.row v e size n xs::L))
    (m:Nat)(news:List Value)(T:TypeId)(hx:a.eval x=.slice (some ⟨w.heap.size,0,none⟩) m m)(hl:news.length=m*size)(h1:∀u∈news,u.oneCell'=true)
    (h63:n+m≤maxLen)(hbytes:(n+m)*bytes≤140737488355328)
    (h:∀v' w',St W0 w' K (.row v' e size (n+m) (xs++news)::L)→wpList Tryz.prog ops Q rest (a.put o.dst v') w'):wpList Tryz.prog ops Q (o::rest) a (w.alloc (.cells news.toArray T)):=
  zCX hgd sl x t ho e ht he v n xs hs (hst.alloc _) ⟨w.heap.size,0,none⟩ m m news hx hl (zJn w news T) h1 h63 hbytes h
theorem St.rowLitEx(h:St W0 w K L)(c:List Value)(T:TypeId)(sz n:Nat)(hc:c.length=n*sz)(hn:n≤maxLen):∃wy b,w.alloc (.cells c.toArray T)=wy∧w.heap.size=b∧St W0 wy K (.row (.slice (some ⟨b,0,none⟩) n n) T sz n c::L):=⟨_,_,rfl,rfl,h.rowLit c T sz n hc hn⟩
theorem nl_cat(t tl:Bs)(h:t++[10]=tl):bb t++(⟨#[10]⟩:ByteArray)=bb tl:=by rw[←h];exact zAh t [10]
theorem zFw(base leader:Int)(app txn ctl:Bool)(last first maxt prod epoch sq:Int)(l:List (RecS×Value))(q:Option Addr)(cap:Nat)(G:Int)(hG:zCK first last (l.map (·.1)) (-1) first=.ok G)(hf:0≤first∧first≤9223372036854775807)(hfit:FitB l)(hll:l.length≤1000000){W0 w:World}{K:Know}{L:List Res}(hk:K.has (Know.recs (.slice q l.length cap) l))(h:St W0 w K L):
  Calls Tryz.prog 58 #[.agg #[.int .i64 base,.int .i64 leader,.bool app,.bool txn,.bool ctl,.int .i64 last,.int .i64 first,.int .i64 maxt,.int .i64 prod,.int .i64 epoch,.int .i64 sq,.slice q l.length cap]] w fun en w'=>en=.returned (.int .i64 G)∧St W0 w' K L:=by
 have HT:=hQd hG;have HK:=hQd hk;have HFT:=hQd hfit;have HF:=hQd hf;obtain⟨nf,hnf⟩:∃m,-first=m:=⟨_,rfl⟩;obtain⟨mf,hmf⟩:∃m,9223372036854775807 - first=m:=⟨_,rfl⟩;have HNF:=hQd hnf;have HMF:=hQd hmf;have n1:wrap64 (-first)=nf:=by rw[←hnf];unfold wrap64;omega
 have n2:IntKind.i64.wrap (-first)=nf:=by rw[←hnf];exact IntWalk.i64_in _ (by omega)
 have m1:wrap64 (9223372036854775807 - first)=mf:=by rw[←hmf];unfold wrap64;omega
 have m2:IntKind.i64.wrap (9223372036854775807 - first)=mf:=by rw[←hmf];exact IntWalk.i64_in _ (by omega)
 have h1:=h.allocRaw #[.int .i64 base,.int .i64 leader,.bool app,.bool txn,.bool ctl,.int .i64 last,.int .i64 first,.int .i64 maxt,.int .i64 prod,.int .i64 epoch,.int .i64 sq,.slice q l.length cap] 30;obtain⟨hb,hhb⟩:∃b,w.heap.size=b:=⟨_,rfl⟩;rw[hhb]at h1;obtain⟨x0,x1,x2,x3,x4,x5,x6,x7,x8,x9,x10,x11,y0,y1,y2,y3,y4,y5,y6,y7,y8,y9,y10,y11⟩:=zAd (b:=hb) (h1);have H:=hQd h1;clear h h1 hk hfit hG hnf hmf hf;go_enter Tryz.func58,Tryz.ntmps58;go_wp2;clear x0 y0 x1 y1 x2 y2 x3 y3 x4 y4 x5 y5 x6 y6 x7 y7 x8 y8 x9 y9 x10 y10 x11 y11;go_loopw [3,4,5] (fun gv iv _ wr=>∃(k:Nat) (ah g:Int),k≤l.length∧gv=.int .i64 g∧iv=.int .i64 k∧Hid (zCK first last ((l.map (·.1)).drop k) ah g=.ok G)∧St W0 wr K (.raw hb #[.int .i64 base,.int .i64 leader,.bool app,.bool txn,.bool ctl,.int .i64 last,.int .i64 first,.int .i64 maxt,.int .i64 prod,.int .i64 epoch,.int .i64 sq,.slice q l.length cap] 30::L)) (fun _ iv _ _=>l.length - (intOf iv).toNat)
 case atStart=>exact⟨0,-1,first,Nat.zero_le _,rfl,rfl,HT,H.out⟩
 case round=>
  obtain⟨k,ah,g,hkl,rfl,rfl,HC,hst⟩:=hrel;clear H;have H:=hQd hst;clear hst;obtain⟨x0,x1,x2,x3,x4,x5,x6,x7,x8,x9,x10,x11,y0,y1,y2,y3,y4,y5,y6,y7,y8,y9,y10,y11⟩:=zAd (b:=hb) (H.out)
  by_cases hlt:k<l.length
  · have hd:=zB8 l k hlt _ rfl;obtain⟨b,off,hqq⟩:=zBR HK.out H.out (by omega);subst hqq;obtain⟨⟨x,vx⟩,hx⟩:∃x,l[k]=x:=⟨_,rfl⟩;have cc:=zA2 HK.out H.out k hlt (x,vx) hx;have hmem:(x,vx)∈l:=hx ▸ List.getElem_mem hlt;have xf:x.R∧HFit x.hdrs∧x.sum≤1000000:=HFT.out (x,vx) hmem;have xk:K.has (Know.flat RHdr vx 3 x.hdrs):=zA8 HK.out hmem;obtain⟨qx,capx,hvx⟩:=zAv xk H.out;subst hvx;simp only at cc;obtain⟨c0,c1,c2,c3,c4,c5,c6⟩:=cc;rw[←Nat.add_assoc]at c1 c2 c3 c4 c5 c6;have hx1:l[k].1=x:=by rw[hx]
    have XF:=hQd xf;have XK:=hQd xk;have HX:=hQd hx1;clear xf xk hx1 hx hmem;have hki:(k:Int)<(l.length:Int):=by omega
    rw[HX.out]at hd;have hc:=HC.out;rw[hd,zCk]at hc
    by_cases c1:x.off≤ah∨last<x.off
    · rw[if_pos c1]at hc;cases hc
    rw[if_neg c1]at hc
    by_cases c3:x.time< -first∨9223372036854775807 - first<x.time
    · rw[if_pos c3]at hc;cases hc
    rw[if_neg c3]at hc;have d1:decide (mf<x.time)=false:=by rw[←HMF.out];exact decide_eq_false (by omega)
    have d2:decide (x.time<nf)=false:=by rw[←HNF.out];exact decide_eq_false (by omega)
    obtain⟨ft,hft⟩:∃t,first+x.time=t:=⟨_,rfl⟩;have f1:wrap64 (first+x.time)=ft:=by have:=HF.out;rw[←hft];unfold wrap64;omega
    have f2:IntKind.i64.wrap (first+x.time)=ft:=by have:=HF.out;rw[←hft];exact IntWalk.i64_in _ (by omega)
    rw[hft]at hc
    by_cases c4:g<ft
    · have d4:decide (g<ft)=true:=decide_eq_true c4;have HC2:=hQd (show zCK first last ((l.map (·.1)).drop (k+1)) x.off ft=.ok G by rw[Int.max_eq_right (by omega)]at hc;exact hc);clear hd hc c1 c3 c4 hft;go_wp2;go_roundw
      case rel=>exact⟨k+1,x.off,ft,hlt,rfl,by go_num,HC2,H.out⟩
      case measure=>first|(simp[intOf];done)|(simp[intOf];omega)
    · have d4:decide (g<ft)=false:=decide_eq_false c4;have HC2:=hQd (show zCK first last ((l.map (·.1)).drop (k+1)) x.off g=.ok G by rw[Int.max_eq_left (by omega)]at hc;exact hc);clear hd hc c1 c3 c4 hft;go_wp2;go_roundw
      case rel=>exact⟨k+1,x.off,g,hlt,rfl,by go_num,HC2,H.out⟩
      case measure=>first|(simp[intOf];done)|(simp[intOf];omega)
  · obtain rfl:l.length=k:=by omega
    have hc:=HC.out;rw[List.drop_of_length_le (by simp)]at hc;obtain rfl:g=G:=by have hc:Except.ok g=Except.ok G:=hc;cases hc;rfl
    clear hc;go_wp2;go_ret;exact⟨rfl,H.out.drop⟩
def zNX (l:List (RecS×Value)) (k:Nat) (ah:Int):Prop:=(k=0∧ah= -1)∨(∃(j:Nat) (h:j<l.length),k=j+1∧(l[j]'h).1.off=ah∧0≤ah)
theorem zq12{p:Prop}(h:p:=by
  by_cases c3:9223372036854775807 - first<x.time
  · have d3:decide (mf<x.time)=true:=by rw[←HMF.out];exact decide_eq_true c3
    rw[if_pos (.inr c3)]at hc;obtain rfl:11=e:=by have:=HE.out;rw[←hc]at this;exact this
    clear c3 hc;go_wp2;go_ret;exact⟨rfl,H.out.drop⟩
  · have d3:decide (mf<x.time)=false:=by rw[←HMF.out];exact decide_eq_false c3
    by_cases c4:x.time< -first
    · have d4:decide (x.time<nf)=true:=by rw[←HNF.out];exact decide_eq_true c4
      rw[if_pos (.inl c4)]at hc;obtain rfl:11=e:=by have:=HE.out;rw[←hc]at this;exact this
      clear c3 c4 hc;go_wp2;go_ret;exact⟨rfl,H.out.drop⟩
    · have d4:decide (x.time<nf)=false:=by rw[←HNF.out];exact decide_eq_false c4
      rw[if_neg (by omega)]at hc;have HC2:=hQd hc;clear c3 c4 hc;go_wp2;go_roundw
      case rel=>exact⟨k+1,x.off,_,hlt,by go_num,HC2,PR2,H.out⟩
      case measure=>first|(simp[intOf];done)|(simp[intOf];omega)):p:=h
theorem zq17{p:Prop}(h:p:=by
  try simp only[Act.put,sA,sB,sC]
  refine tQ 8 ⟨some 68,.binOp .neq 3 (.tmp 65) (.tmp 67) 3,4,_,_,some (3,true)⟩ ?_;simp only[Act.put,sA,sB,sC];refine tQ 9 ⟨some 69,.pick (.tmp 63) (.tmp 68) (.const (Value.bool false)),4,_,_,none⟩ ?_;simp only[Act.put,sA,sB,sC];refine wpAnyH_done (by kernel_rfl) ?_ _;clear hHeld;go_wp2_with fail;go_ret;exact⟨rfl,hs.drop⟩):p:=h
theorem zEG(base leader:Int)(app txn ctl:Bool)(last first maxt prod epoch sq:Int)(l:List (RecS×Value))(q:Option Addr)(cap:Nat)(e:Int)(he:BatS.rows ⟨base,leader,app,txn,ctl,last,first,maxt,prod,epoch,sq,l.map (·.1)⟩=e)(hf:0≤first∧first≤9223372036854775807)(hfit:FitB l)(hll:l.length≤1000000){W0 w:World}{K:Know}{L:List Res}(hk:K.has (Know.recs (.slice q l.length cap) l))(h:St W0 w K L):
  Calls Tryz.prog 27 #[.agg #[.int .i64 base,.int .i64 leader,.bool app,.bool txn,.bool ctl,.int .i64 last,.int .i64 first,.int .i64 maxt,.int .i64 prod,.int .i64 epoch,.int .i64 sq,.slice q l.length cap]] w fun en w'=>en=.returned (.int .i64 e)∧St W0 w' K L:=by
 obtain⟨tot,htot⟩:∃t,zCK first last (l.map (·.1)) (-1) first=t:=⟨_,rfl⟩;have HE:=hQd (show zLo app maxt tot=e by rw[←he,←htot];rfl);have HT:=hQd htot;have HLL:=hQd hll;have HK:=hQd hk;have HFT:=hQd hfit;have HF:=hQd hf;obtain⟨nf,hnf⟩:∃m,-first=m:=⟨_,rfl⟩;obtain⟨mf,hmf⟩:∃m,9223372036854775807 - first=m:=⟨_,rfl⟩;have HNF:=hQd hnf;have HMF:=hQd hmf;have n1:wrap64 (-first)=nf:=by rw[←hnf];unfold wrap64;omega
 have n2:IntKind.i64.wrap (-first)=nf:=by rw[←hnf];exact IntWalk.i64_in _ (by omega)
 have m1:wrap64 (9223372036854775807 - first)=mf:=by rw[←hmf];unfold wrap64;omega
 have m2:IntKind.i64.wrap (9223372036854775807 - first)=mf:=by rw[←hmf];exact IntWalk.i64_in _ (by omega)
 have h1:=h.allocRaw #[.int .i64 base,.int .i64 leader,.bool app,.bool txn,.bool ctl,.int .i64 last,.int .i64 first,.int .i64 maxt,.int .i64 prod,.int .i64 epoch,.int .i64 sq,.slice q l.length cap] 30;obtain⟨hb,hhb⟩:∃b,w.heap.size=b:=⟨_,rfl⟩;rw[hhb]at h1;obtain⟨x0,x1,x2,x3,x4,x5,x6,x7,x8,x9,x10,x11,y0,y1,y2,y3,y4,y5,y6,y7,y8,y9,y10,y11⟩:=zAd (b:=hb) (h1);have H:=hQd h1;have HP:=hQd (show zNX l 0 (-1)from .inl ⟨rfl,rfl⟩);clear h h1 hk hfit he htot hnf hmf hf;go_enter Tryz.func27,Tryz.ntmps27;go_wp2;clear x0 y0 x1 y1 x2 y2 x3 y3 x4 y4 x5 y5 x6 y6 x7 y7 x8 y8 x9 y9 x10 y10 x11 y11;go_loopw [3,4,5] (fun iv _ _ wr=>∃(k:Nat) (ah g:Int),k≤l.length∧iv=.int .i64 k∧Hid (zCK first last ((l.map (·.1)).drop k) ah g=tot)∧Hid (zNX l k ah)∧St W0 wr K (.raw hb #[.int .i64 base,.int .i64 leader,.bool app,.bool txn,.bool ctl,.int .i64 last,.int .i64 first,.int .i64 maxt,.int .i64 prod,.int .i64 epoch,.int .i64 sq,.slice q l.length cap] 30::L)) (fun iv _ _ _=>l.length - (intOf iv).toNat)
 case atStart=>exact⟨0,-1,first,Nat.zero_le _,rfl,HT,HP,H.out⟩
 case round=>
  obtain⟨k,ah,g,hkl,rfl,HC,PR,hst⟩:=hrel;clear H;have H:=hQd hst;clear hst;obtain⟨x0,x1,x2,x3,x4,x5,x6,x7,x8,x9,x10,x11,y0,y1,y2,y3,y4,y5,y6,y7,y8,y9,y10,y11⟩:=zAd (b:=hb) (H.out)
  by_cases hlt:k<l.length
  · have hd:=zB8 l k hlt _ rfl;obtain⟨b,off,hqq⟩:=zBR HK.out H.out (by omega);subst hqq;obtain⟨⟨x,vx⟩,hx⟩:∃x,l[k]=x:=⟨_,rfl⟩;have cc:=zA2 HK.out H.out k hlt (x,vx) hx;have hmem:(x,vx)∈l:=hx ▸ List.getElem_mem hlt;have xf:x.R∧HFit x.hdrs∧x.sum≤1000000:=HFT.out (x,vx) hmem;have xk:K.has (Know.flat RHdr vx 3 x.hdrs):=zA8 HK.out hmem;obtain⟨qx,capx,hvx⟩:=zAv xk H.out;subst hvx;simp only at cc;obtain⟨c0,c1,c2,c3,c4,c5,c6⟩:=cc;rw[←Nat.add_assoc]at c1 c2 c3 c4 c5 c6;have hx1:l[k].1=x:=by rw[hx]
    have XF:=hQd xf;have XK:=hQd xk;have HX:=hQd hx1;clear xf xk hx1 hx hmem;have hki:(k:Int)<(l.length:Int):=by omega
    rw[HX.out]at hd;have hc:=HC.out;rw[hd,zCk]at hc;clear hd
    by_cases c2:last<x.off
    · have d2:decide (last<x.off)=true:=decide_eq_true c2;rw[if_pos (.inr c2)]at hc;clear c2;obtain rfl:13=e:=by have:=HE.out;rw[←hc]at this;exact this
      go_wp2;go_ret;exact⟨rfl,H.out.drop⟩
    · have d2:decide (last<x.off)=false:=decide_eq_false c2;have PR2:=hQd (show 0≤x.off→zNX l (k+1) x.off from fun h0=> .inr ⟨k,hlt,rfl,by rw[HX.out],h0⟩)
      rcases PR.out with ⟨hk0,rfl⟩|⟨j,hj,hk1,hjo,ha0⟩
      · have dk:decide ((0:Int)<(k:Int))=false:=decide_eq_false (by omega);have dk2:decide (0<k)=false:=decide_eq_false (by omega);clear hk0
        by_cases c5:x.off<0
        · have d5:decide (x.off<0)=true:=decide_eq_true c5;rw[if_pos (.inl (by omega))]at hc;clear c2 c5;obtain rfl:13=e:=by have:=HE.out;rw[←hc]at this;exact this
          go_wp2;go_ret;exact⟨rfl,H.out.drop⟩
        · have d5:decide (x.off<0)=false:=decide_eq_false c5;rw[if_neg (by omega)]at hc;replace PR2:=hQd (PR2.out (by omega));clear c2 c5
          exact zq12
      · have dk:decide ((0:Int)<(k:Int))=true:=decide_eq_true (by omega);have dk2:decide (0<k)=true:=decide_eq_true (by omega);have kj:(k:Int) - 1=(j:Int):=by omega
        obtain⟨⟨y,vy⟩,hy⟩:∃y,l[j]=y:=⟨_,rfl⟩;have cy:=zA2 HK.out H.out j hj (y,vy) hy;rw[hy]at hjo;simp only at cy hjo;obtain⟨_,g1,_⟩:=cy;rw[←Nat.add_assoc,hjo]at g1;have hjl:(j:Int)<(l.length:Int):=by omega
        have hj0:(0:Int)≤(j:Int):=by omega
        clear hy hk1 hj
        by_cases c1:x.off≤ah
        · have d1:decide (x.off≤ah)=true:=decide_eq_true c1;rw[if_pos (.inl c1)]at hc;clear c1 c2;obtain rfl:13=e:=by have:=HE.out;rw[←hc]at this;exact this
          go_wp2;go_ret;exact⟨rfl,H.out.drop⟩
        · have d1:decide (x.off≤ah)=false:=decide_eq_false c1;have d5:decide (x.off<0)=false:=decide_eq_false (by omega);rw[if_neg (by omega)]at hc;replace PR2:=hQd (PR2.out (by omega));clear c1 c2
          exact zq12
  · obtain rfl:l.length=k:=by omega
    have hc:=HC.out;rw[List.drop_of_length_le (by simp)]at hc;obtain rfl:Except.ok g=tot:=hc;have hee:=HE.out;simp only[zLo]at hee
    cases app with
    |true=>
      obtain rfl:0=e:=by rw[←hee];rfl
      clear hee;go_upto_region 10 with (fail);have hs:=H.out.drew;refine wp_region_held_drew (S:=fun w'=>w'.cell? ⟨hb,0,none⟩=some (.int .i64 base)∧w'.cell? ⟨hb,1,none⟩=some (.int .i64 leader)∧w'.cell? ⟨hb,2,none⟩=some (.bool true)∧w'.cell? ⟨hb,3,none⟩=some (.bool txn)∧w'.cell? ⟨hb,4,none⟩=some (.bool ctl)∧w'.cell? ⟨hb,5,none⟩=some (.int .i64 last)∧w'.cell? ⟨hb,6,none⟩=some (.int .i64 first)∧w'.cell? ⟨hb,7,none⟩=some (.int .i64 maxt)∧w'.cell? ⟨hb,8,none⟩=some (.int .i64 prod)∧w'.cell? ⟨hb,9,none⟩=some (.int .i64 epoch)∧w'.cell? ⟨hb,10,none⟩=some (.int .i64 sq)∧w'.cell? ⟨hb,11,none⟩=some (.slice q l.length cap)) (by kernel_rfl) (let ⟨x0,x1,x2,x3,x4,x5,x6,x7,x8,x9,x10,x11,_⟩:=zAd (b:=hb) hs;⟨x0,x1,x2,x3,x4,x5,x6,x7,x8,x9,x10,x11⟩) (fun hHeld=> ?_);refine tQ 0 ⟨some 60,.fieldAddr 30 (.tmp 1) 2,0,_,_,none⟩ ?_;simp only[Act.put,sA,sB,sC];refine tQ 1 ⟨some 61,.load 4 (.tmp 60),4,_,_,none⟩ ?_;simp only[Act.put,sA,sB,sC];refine tQ 2 ⟨some 62,.unOp UnOp.not 4 (.tmp 61),4,_,_,none⟩ ?_;simp only[Act.put,sA,sB,sC];refine tQ 3 ⟨some 63,.move (.tmp 62),4,_,_,none⟩ ?_;simp only[Act.put,sA,sB,sC];refine wpAnyH_take (i:=4) (oi:=⟨some 64,.load 30 (.tmp 1),30,_,_,some (3,true)⟩) (v:=undef) rfl (by kernel_rfl) (by kernel_rfl) (by kernel_rfl) (fun _ _ _ h=>h) (Or.inr ⟨by rfl,rfl⟩) (by assumption) ?_;simp only[Act.put,sA,sB,sC];refine wpAnyH_take (i:=5) (oi:=⟨some 65,.call {callee:=.value (.func 58),args:= #[.tmp 64],argTypes:= #[30]},3,_,_,some (3,true)⟩) (v:=undef) rfl (by kernel_rfl) (by kernel_rfl) (by kernel_rfl) (fun _ _ _ h=>h) (Or.inr ⟨by rfl,rfl⟩) (by assumption) ?_;simp only[Act.put,sA,sB,sC];refine wpAnyH_take (i:=6) (oi:=⟨some 66,.fieldAddr 30 (.tmp 1) 7,0,_,_,some (3,true)⟩) (v:=undef) rfl (by kernel_rfl) (by kernel_rfl) (by kernel_rfl) (fun _ _ _ h=>h) (Or.inr ⟨by rfl,rfl⟩) (by assumption) ?_;simp only[Act.put,sA,sB,sC];refine wpAnyH_take (i:=7) (oi:=⟨some 67,.load 3 (.tmp 66),3,_,_,some (3,true)⟩) (v:=undef) rfl (by kernel_rfl) (by kernel_rfl) (by kernel_rfl) (fun _ _ _ h=>h) (Or.inr ⟨by rfl,rfl⟩) (by assumption) ?_;simp only[Act.put,sA,sB,sC];refine wpAnyH_take (i:=8) (oi:=⟨some 68,.binOp .neq 3 (.tmp 65) (.tmp 67) 3,4,_,_,some (3,true)⟩) (v:=undef) rfl (by kernel_rfl) (by kernel_rfl) (by kernel_rfl) (fun _ _ _ h=>h) (Or.inr ⟨by rfl,rfl⟩) (by assumption) ?_;simp only[Act.put,sA,sB,sC];refine tQ 9 ⟨some 69,.pick (.tmp 63) (.tmp 68) (.const (Value.bool false)),4,_,_,none⟩ ?_;simp only[Act.put,sA,sB,sC];refine wpAnyH_done (by kernel_rfl) ?_ _;clear hHeld;go_wp2_with fail;go_ret;exact⟨rfl,hs.drop⟩
    |false=>
      have HG:=hQd (show zCK first last (l.map (·.1)) (-1) first=.ok g from HT.out)
      by_cases c1:maxt=g
      · subst c1;obtain rfl:0=e:=by rw[←hee];simp
        clear hee;go_upto_region 10 with (fail);have hs:=H.out.drew;refine wp_region_held_drew (S:=fun w'=>w'.cell? ⟨hb,0,none⟩=some (.int .i64 base)∧w'.cell? ⟨hb,1,none⟩=some (.int .i64 leader)∧w'.cell? ⟨hb,2,none⟩=some (.bool false)∧w'.cell? ⟨hb,3,none⟩=some (.bool txn)∧w'.cell? ⟨hb,4,none⟩=some (.bool ctl)∧w'.cell? ⟨hb,5,none⟩=some (.int .i64 last)∧w'.cell? ⟨hb,6,none⟩=some (.int .i64 first)∧w'.cell? ⟨hb,7,none⟩=some (.int .i64 maxt)∧w'.cell? ⟨hb,8,none⟩=some (.int .i64 prod)∧w'.cell? ⟨hb,9,none⟩=some (.int .i64 epoch)∧w'.cell? ⟨hb,10,none⟩=some (.int .i64 sq)∧w'.cell? ⟨hb,11,none⟩=some (.slice q l.length cap)) (by kernel_rfl) (let ⟨x0,x1,x2,x3,x4,x5,x6,x7,x8,x9,x10,x11,_⟩:=zAd (b:=hb) hs;⟨x0,x1,x2,x3,x4,x5,x6,x7,x8,x9,x10,x11⟩) (fun hHeld=> ?_);refine tQ 0 ⟨some 60,.fieldAddr 30 (.tmp 1) 2,0,_,_,none⟩ ?_;simp only[Act.put,sA,sB,sC];refine tQ 1 ⟨some 61,.load 4 (.tmp 60),4,_,_,none⟩ ?_;simp only[Act.put,sA,sB,sC];refine tQ 2 ⟨some 62,.unOp UnOp.not 4 (.tmp 61),4,_,_,none⟩ ?_;simp only[Act.put,sA,sB,sC];refine tQ 3 ⟨some 63,.move (.tmp 62),4,_,_,none⟩ ?_;simp only[Act.put,sA,sB,sC];refine tQ 4 ⟨some 64,.load 30 (.tmp 1),30,_,_,some (3,true)⟩ ?_;simp only[Act.put,sA,sB,sC];refine tQ 6 ⟨some 66,.fieldAddr 30 (.tmp 1) 7,0,_,_,some (3,true)⟩ ?_;simp only[Act.put,sA,sB,sC];refine tQ 7 ⟨some 67,.load 3 (.tmp 66),3,_,_,some (3,true)⟩ ?_;simp only[Act.put,sA,sB,sC];refine wpAnyH_ready (rs:=[5]) (by kernel_rfl) (by simp) (AllReadyH.cons (o:=⟨some 65,.call {callee:=.value (.func 58),args:= #[.tmp 64],argTypes:= #[30]},3,_,_,some (3,true)⟩) rfl (fun KK hK=> ?_) AllReadyH.nil);go_simp;go_at_call 58;with_reducible refine(zFw base leader false txn ctl last first maxt prod epoch sq l _ _ _ HG.out HF.out HFT.out HLL.out HK.out hs).mono ?_;rintro e wq ⟨rfl,hs⟩;refine hK.out _ _ (let ⟨x0,x1,x2,x3,x4,x5,x6,x7,x8,x9,x10,x11,_⟩:=zAd (b:=hb) hs;⟨x0,x1,x2,x3,x4,x5,x6,x7,x8,x9,x10,x11⟩) (fun hHeld=> ?_);clear hK KK
        exact zq17
      · obtain rfl:11=e:=by rw[←hee];simp[c1]
        have b1:(g==maxt)=false:=by rw[beq_eq_false_iff_ne];exact fun h=>c1 h.symm
        have b2:(g !=maxt)=true:=by simp[bne,b1]
        clear hee c1;go_upto_region 10 with (fail);have hs:=H.out.drew;refine wp_region_held_drew (S:=fun w'=>w'.cell? ⟨hb,0,none⟩=some (.int .i64 base)∧w'.cell? ⟨hb,1,none⟩=some (.int .i64 leader)∧w'.cell? ⟨hb,2,none⟩=some (.bool false)∧w'.cell? ⟨hb,3,none⟩=some (.bool txn)∧w'.cell? ⟨hb,4,none⟩=some (.bool ctl)∧w'.cell? ⟨hb,5,none⟩=some (.int .i64 last)∧w'.cell? ⟨hb,6,none⟩=some (.int .i64 first)∧w'.cell? ⟨hb,7,none⟩=some (.int .i64 maxt)∧w'.cell? ⟨hb,8,none⟩=some (.int .i64 prod)∧w'.cell? ⟨hb,9,none⟩=some (.int .i64 epoch)∧w'.cell? ⟨hb,10,none⟩=some (.int .i64 sq)∧w'.cell? ⟨hb,11,none⟩=some (.slice q l.length cap)) (by kernel_rfl) (let ⟨x0,x1,x2,x3,x4,x5,x6,x7,x8,x9,x10,x11,_⟩:=zAd (b:=hb) hs;⟨x0,x1,x2,x3,x4,x5,x6,x7,x8,x9,x10,x11⟩) (fun hHeld=> ?_);refine tQ 0 ⟨some 60,.fieldAddr 30 (.tmp 1) 2,0,_,_,none⟩ ?_;simp only[Act.put,sA,sB,sC];refine tQ 1 ⟨some 61,.load 4 (.tmp 60),4,_,_,none⟩ ?_;simp only[Act.put,sA,sB,sC];refine tQ 2 ⟨some 62,.unOp UnOp.not 4 (.tmp 61),4,_,_,none⟩ ?_;simp only[Act.put,sA,sB,sC];refine tQ 3 ⟨some 63,.move (.tmp 62),4,_,_,none⟩ ?_;simp only[Act.put,sA,sB,sC];refine tQ 4 ⟨some 64,.load 30 (.tmp 1),30,_,_,some (3,true)⟩ ?_;simp only[Act.put,sA,sB,sC];refine tQ 6 ⟨some 66,.fieldAddr 30 (.tmp 1) 7,0,_,_,some (3,true)⟩ ?_;simp only[Act.put,sA,sB,sC];refine tQ 7 ⟨some 67,.load 3 (.tmp 66),3,_,_,some (3,true)⟩ ?_;simp only[Act.put,sA,sB,sC];refine wpAnyH_ready (rs:=[5]) (by kernel_rfl) (by simp) (AllReadyH.cons (o:=⟨some 65,.call {callee:=.value (.func 58),args:= #[.tmp 64],argTypes:= #[30]},3,_,_,some (3,true)⟩) rfl (fun KK hK=> ?_) AllReadyH.nil);go_simp;go_at_call 58;with_reducible refine(zFw base leader false txn ctl last first maxt prod epoch sq l _ _ _ HG.out HF.out HFT.out HLL.out HK.out hs).mono ?_;rintro e wq ⟨rfl,hs⟩;refine hK.out _ _ (let ⟨x0,x1,x2,x3,x4,x5,x6,x7,x8,x9,x10,x11,_⟩:=zAd (b:=hb) hs;⟨x0,x1,x2,x3,x4,x5,x6,x7,x8,x9,x10,x11⟩) (fun hHeld=> ?_);clear hK KK
        exact zq17
variable {W0 w:World}{K:Know}{L:List Res}
theorem zAm(n lo:Int)(r:Bool)(hr:decide (lo≤n∧n≤2147483647)=r)(h:St W0 w K L):
   Calls Tryz.prog 23 #[.int .i64 n,.int .i64 lo] w fun en w'=>en=.returned (.bool r)∧St W0 w' K L:=by
 have H:=hQd h;clear h
 by_cases h1:lo≤n
 · have d1:decide (lo≤n)=true:=decide_eq_true h1
   by_cases h2:n≤2147483647
   · have d2:decide (n≤2147483647)=true:=decide_eq_true h2;obtain rfl:true=r:=(decide_eq_true ⟨h1,h2⟩).symm.trans hr;clear h1 h2;go_enter Tryz.func23,Tryz.ntmps23;go_wp2;go_ret;exact⟨rfl,H.out⟩
   · have d2:decide (n≤2147483647)=false:=decide_eq_false h2;obtain rfl:false=r:=(decide_eq_false (fun x=>h2 x.2)).symm.trans hr;clear h1 h2;go_enter Tryz.func23,Tryz.ntmps23;go_wp2;go_ret;exact⟨rfl,H.out⟩
 · have d1:decide (lo≤n)=false:=decide_eq_false h1;obtain rfl:false=r:=(decide_eq_false (fun x=>h1 x.1)).symm.trans hr;clear h1;go_enter Tryz.func23,Tryz.ntmps23;go_wp2;go_ret;exact⟨rfl,H.out⟩
theorem zBk(base leader:Int)(app txn ctl:Bool)(last first maxt prod epoch sq:Int)(rv:Value)(r:Bool)(hr:(if prod= -1 then decide (epoch= -1∧sq= -1∧txn=false)else if prod<0∨¬(0≤epoch∧epoch≤32767)then false else if ctl then decide (sq= -1)else decide (0≤sq∧sq≤2147483647))=r)(h:St W0 w K L):
   Calls Tryz.prog 24 #[.agg #[.int .i64 base,.int .i64 leader,.bool app,.bool txn,.bool ctl,.int .i64 last,.int .i64 first,.int .i64 maxt,.int .i64 prod,.int .i64 epoch,.int .i64 sq,rv]] w fun en w'=>en=.returned (.bool r)∧St W0 w' K L:=by
 have h1:=h.allocRaw #[.int .i64 base,.int .i64 leader,.bool app,.bool txn,.bool ctl,.int .i64 last,.int .i64 first,.int .i64 maxt,.int .i64 prod,.int .i64 epoch,.int .i64 sq,rv] 30;obtain⟨hb,hhb⟩:∃b,w.heap.size=b:=⟨_,rfl⟩;rw[hhb]at h1;obtain⟨x0,x1,x2,x3,x4,x5,x6,x7,x8,x9,x10,x11,y0,y1,y2,y3,y4,y5,y6,y7,y8,y9,y10,y11⟩:=zAd (b:=hb) (h1);have H:=hQd h1;clear h h1
 by_cases c0:prod= -1
 · rw[if_pos c0]at hr;subst c0
   by_cases c1:epoch= -1
   · subst c1
     by_cases c2:sq= -1
     · subst c2;obtain rfl:(!txn)=r:=by rw[←hr];cases txn<;>rfl
       clear hr;go_enter Tryz.func24,Tryz.ntmps24;go_wp2;go_ret;exact⟨rfl,H.out.drop⟩
     · obtain rfl:false=r:=by rw[←hr];exact(decide_eq_false (fun x=>c2 x.2.1)).symm
       have b2:(sq== -1)=false:=by rw[beq_eq_false_iff_ne];exact c2
       clear hr c2;go_enter Tryz.func24,Tryz.ntmps24;go_wp2;go_ret;exact⟨rfl,H.out.drop⟩
   · obtain rfl:false=r:=by rw[←hr];exact(decide_eq_false (fun x=>c1 x.1)).symm
     have b1:(epoch== -1)=false:=by rw[beq_eq_false_iff_ne];exact c1
     clear hr c1;go_enter Tryz.func24,Tryz.ntmps24;go_wp2;go_ret;exact⟨rfl,H.out.drop⟩
 · rw[if_neg c0]at hr;have b0:(prod== -1)=false:=by rw[beq_eq_false_iff_ne];exact c0
   by_cases c1:prod<0
   · rw[if_pos (.inl c1)]at hr;subst hr;have d1:decide (prod<0)=true:=decide_eq_true c1;clear c0 c1;go_enter Tryz.func24,Tryz.ntmps24;go_wp2;go_ret;exact⟨rfl,H.out.drop⟩
   · have d1:decide (prod<0)=false:=decide_eq_false c1
     by_cases c2:epoch<0
     · rw[if_pos (.inr (by omega))]at hr;subst hr;have d2:decide (epoch<0)=true:=decide_eq_true c2;clear c0 c1 c2;go_enter Tryz.func24,Tryz.ntmps24;go_wp2;go_ret;exact⟨rfl,H.out.drop⟩
     · have d2:decide (epoch<0)=false:=decide_eq_false c2
       by_cases c3:32767<epoch
       · rw[if_pos (.inr (by omega))]at hr;subst hr;have d3:decide ((32767:Int)<epoch)=true:=decide_eq_true c3;clear c0 c1 c2 c3;go_enter Tryz.func24,Tryz.ntmps24;go_wp2;go_ret;exact⟨rfl,H.out.drop⟩
       · have d3:decide ((32767:Int)<epoch)=false:=decide_eq_false c3;rw[if_neg (by rintro(x|x);exact c1 x;exact x (by omega))]at hr;clear c0 c1 c2 c3
         cases ctl with
         |true=>
          obtain rfl:(sq== -1)=r:=by rw[←hr];rfl
          clear hr;go_enter Tryz.func24,Tryz.ntmps24;go_wp2;go_ret;exact⟨rfl,H.out.drop⟩
         |false=>
          have HS:=hQd (show decide (0≤sq∧sq≤2147483647)=r from hr);clear hr;go_enter Tryz.func24,Tryz.ntmps24;go_wp2_with (go_at_call 23;(with_reducible refine(zAm sq 0 _ HS.out H.out).mono ?_);rintro e_ wn ⟨rfl,h⟩;replace H:=hQd h;clear h;obtain⟨x0,x1,x2,x3,x4,x5,x6,x7,x8,x9,x10,x11,y0,y1,y2,y3,y4,y5,y6,y7,y8,y9,y10,y11⟩:=zAd (b:=hb) (H.out));go_ret;exact⟨rfl,H.out.drop⟩
end Go.Proofs.YtenojajfacacoaaGreatDoor
