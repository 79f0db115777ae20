/- A text. -/
import Derived.Test.YtnnnglklgofabaaGreatGProduceReads2
import Derived.Test.YtnnnglklgofabaaGreatGProduceReads6
import Derived.Test.YtnnnglklgofabaaGreatGProduceReads9
import Derived.Test.YtnnnglklgofabaaGreatGProduceReads3
import Derived.Test.YtnnnglklgofabaaGreatGProduceReads5
import Derived.Test.YtnnnglklgofabaaGreatGProduceReads4
import Derived.RegionTactic
import Derived.Test.YtnnnglklgofabaaGreatGProduceReads1
import Derived.Test.YtnnnglklgofabaaGreatGProduceReads8
import Derived.Test.YtnnnglklgofabaaGreatGProduceReads7
import Derived.Deep.RegionHeld3
import Derived.Deep.DeepCutAuto
import Derived.WalkMore
/- A text. -/
namespace Go.Proofs.YtnnnglklgofabaaGreat
open Go.RowKit
theorem zAM{P:Program}{o:Oper}{a:Act}{w w':World}{v:Value}{KK:Act→World→Prop}{Q:Exit→Act→World→Prop}(hr:(execOp a.eval o).run P w=.ok (.value v) w')(h:KK (a.put o.dst v) w'):o.wp P a w KK Q:=by
 unfold Oper.wp;rw[hr];exact h
theorem zD5{W0 w:World}{K:Know}{L:List Res}{o:Oper}{a:Act}{KK:Act→World→Prop}{Q:Exit→Act→World→Prop}(sl x:Operand)(t:TypeId)
 (ho:o.op=.call {callee:=.builtin .append,args:= #[sl,x],argTypes:= #[t,t]})
 (e:TypeId){z:Value}{size bytes:Nat}(ht:Tryz.prog.underlying t=some (.slice e))(he:zEd Tryz.prog e z size bytes)
 (v:Value)(n:Nat)(xs:List Value)(hs:a.eval sl=v)(bS:Nat)(cs:Array Value)(T:TypeId)(hst:St W0 w K (.raw bS cs T::.row v e size n xs::L))
 (hx:a.eval x=.slice (some ⟨bS,0,none⟩) 1 1)(hl:cs.toList.length=size)(h1:∀u∈cs.toList,u.oneCell'=true)
 (h63:n+1≤maxLen)(hbytes:(n+1)*bytes≤140737488355328)
 (h:∀v' w',St W0 w' K (.row v' e size (n+1) (xs++cs.toList)::L)→KK (a.put o.dst v') w'):o.wp Tryz.prog a w KK Q:=by
 have hc:=hst.rawCell;have hst2:=hst.p1;obtain⟨⟨i,g1,g2,g3,g4⟩,g5,g6⟩:=he
 obtain⟨v',w',hr,h2,h3,h4⟩:=zPJ (P:=Tryz.prog) w t o.type e i z size bytes ht g1 g2 g3 g4 g5 g6 v n xs hst2.rowGet ⟨bS,0,none⟩ 1 1 cs.toList oM (fun j u hj=>by
  have ha:(⟨bS,0,none⟩:Addr).add j=⟨bS,j,none⟩:=by unfold Addr.add;split<;>simp_all
  rw[ha,hc j]
  simpa using hj) h1 h63 hbytes
 unfold Oper.wp execOp;simp only[ho,resolve,invoke,builtin,Sem.run_bind,Sem.run_pure,Result.andThen_ok,List.map_toArray,List.map_cons,List.map_nil,hs,hx,hr];exact h v' w' (hst2.rowGrown h2 h3 h4).p1.drop
theorem zDx{P:Program}{o:Oper}{a:Act}{w w':World}{KK:Act→World→Prop}{Q:Exit→Act→World→Prop}(hr:(execOp a.eval o).run P w=.ok .skip w')(h:KK (a.put o.dst undef) w'):o.wp P a w KK Q:=by
 unfold Oper.wp;rw[hr];exact h
variable {W0 w:World}{K:Know}{L:List Res}
theorem zAy{P:Program}{fn:Func}{p:Tmp}{ty:TypeId}(h:fn.results= #[.cell p ty])(tmps:Array Value)(w:World)(b:Nat)(cs:List Value)(d:TypeDesc)
 (hp:tmps.getD p undef=.pointer (some ⟨b,0,none⟩))(hc:w.rangeAt b 0 cs)(hu:P.underlying ty=some d)(hd:d.isRow=true)(hi:(P.info? ty).map (·.size)=some cs.length):
 (results fn tmps).run P w=.ok (.agg cs.toArray) w:=by
 have hp':tmps[p]?.getD undef=.pointer (some ⟨b,0,none⟩):=by simpa using hp
 simp[results,h,hp',asAddr,run_loadVar_mid w b 0 ty cs d hc hu hd hi]
theorem zAr{b:Nat}{c:List Value}{T:TypeId}(h:St W0 w K (.raw b c.toArray T::L)):w.rangeAt b 0 c:=by
 intro j v hv;rw[Nat.zero_add,h.rawCell j]
 simpa using hv
theorem St.setExP{b:Nat}{c:Array Value}{T:TypeId}(h:St W0 w K (.raw b c T::L))(j:Nat)(v:Value):∃wz,w.setCell ⟨b,j,none⟩ v=wz∧St W0 wz K (.raw b (c.setIfInBounds j v) T::L):=⟨_,rfl,h.rawSet j v⟩
theorem zML(n b p t:Nat){T1 T2 T3:TypeId}(h:St W0 w K (.raw b ((List.replicate n nobR).flatMap zIT).toArray T1::.raw p #[.int .i64 0,.slice (some ⟨b,0,none⟩) n n] T2::.raw t #[.string (bb [97]),.slice (some ⟨p,0,none⟩) 1 1] T3::L)):
 ∃Kp:Know,Kp.has K∧Kp.has (Know.ptops (.slice (some ⟨t,0,none⟩) 1 1) [zBD n b p])∧St W0 w Kp L∧∀(w':World) (L':List Res),St W0 w' Kp L'→St W0 w' K (.raw b ((List.replicate n nobR).flatMap zIT).toArray T1::.raw p #[.int .i64 0,.slice (some ⟨b,0,none⟩) n n] T2::.raw t #[.string (bb [97]),.slice (some ⟨p,0,none⟩) 1 1] T3::L'):=by
 obtain⟨K1,a1,a2,a3,a4⟩:=h.lend (Kr:=Know.flat RBat (.slice (some ⟨b,0,none⟩) (List.replicate n nobR).length n) 12 (List.replicate n nobR)) (fun S1 h1 _=>zII (List.replicate n nobR) zIT (fun x _=>⟨rfl,rfl⟩) rfl S1 h1);obtain⟨K2,b1,b2,b3,b4⟩:=a3.lend (Kr:=Know.flat zOa (.slice (some ⟨p,0,none⟩) [zBS n b].length 1) 2 [zBS n b]) (fun S1 h1 _=>zII [zBS n b] zG4 (fun x _=>⟨rfl,rfl⟩) (by show _= #[Value.int .i64 0,.slice (some ⟨b,0,none⟩) (List.replicate n nobR).length n];rw[List.length_replicate]) S1 h1);obtain⟨K3,c1,c2,c3,c4⟩:=b3.lend (Kr:=Know.flat zOb (.slice (some ⟨t,0,none⟩) [zBD n b p].length 1) 2 [zBD n b p]) (fun S1 h1 _=>zII [zBD n b p] zCE (fun x _=>⟨rfl,rfl⟩) rfl S1 h1);refine⟨K3,Know.has_trans c1 (Know.has_trans b1 a1),?_,c3,fun w' L' h'=>a4 w' _ K1 (Know.has_refl _) (b4 w' _ K2 (Know.has_refl _) (c4 w' _ K3 (Know.has_refl _) h'))⟩;intro w' F' hF
 have hbats:(Know.bats (.slice (some ⟨b,0,none⟩) (List.replicate n nobR).length n) (List.replicate n nobR)).p w' F':=by
  refine⟨a2 _ _ (b1 _ _ (c1 _ _ hF)),fun x hx=> ?_⟩;rw[List.eq_of_mem_replicate hx];exact⟨⟨none,0,rfl,fun hh=>absurd hh dD⟩,fun y hy=>by cases hy⟩
 refine⟨c2 _ _ hF,fun x hx=> ?_⟩;rw[List.mem_singleton.1 hx];refine⟨b2 _ _ (c1 _ _ hF),fun y hy=> ?_⟩;rw[List.mem_singleton.1 hy];exact hbats
theorem zP8(p:Nat)(e:Bs)(h:St W0 w K (.out p ⟨e,0⟩::L)):
 Calls Tryz.prog 9 #[zAO p] w fun en w'=>en=.returned (.tuple #[.string (bb e),.int .i64 0])∧St W0 w' K (.out p ⟨e,0⟩::L):=zIp p ⟨e,0⟩ h
theorem zPz(w:World):(Instr.buildSlice 66 2 #[(0,.agg #[.int .i64 0,.int .i64 0,.bool false,.bool false,.bool false,.int .i64 0,.int .i64 0,.int .i64 0,.int .i64 (-1),.int .i64 (-1),.int .i64 (-1),.slice none 0 0]),(1,.agg #[.int .i64 0,.int .i64 0,.bool false,.bool false,.bool false,.int .i64 0,.int .i64 0,.int .i64 0,.int .i64 (-1),.int .i64 (-1),.int .i64 (-1),.slice none 0 0])]).run Tryz.prog w=.ok (.slice (some ⟨w.heap.size,0,none⟩) 2 2) (w.alloc (.cells #[.int .i64 0,.int .i64 0,.bool false,.bool false,.bool false,.int .i64 0,.int .i64 0,.int .i64 0,.int .i64 (-1),.int .i64 (-1),.int .i64 (-1),.slice none 0 0,.int .i64 0,.int .i64 0,.bool false,.bool false,.bool false,.int .i64 0,.int .i64 0,.int .i64 0,.int .i64 (-1),.int .i64 (-1),.int .i64 (-1),.slice none 0 0] 58 (0,0))):=by go_simp
theorem zLW{o:Oper}{ρ:Operand→Value}(ps:Array (Nat×Value))(v:Value)(w w':World)(ho:execOp ρ o=(do pure (Next.value (←Instr.buildSlice 66 2 ps))))(hb:(Instr.buildSlice 66 2 ps).run Tryz.prog w=.ok v w'):(execOp ρ o).run Tryz.prog w=.ok (.value v) w':=by
 rw[ho];simp[hb]
def zDf (x:BatR):List Value:=[.int .i64 x.b.base,.int .i64 x.b.leader,.bool x.b.app,.bool x.b.txn,.bool x.b.ctl,.int .i64 x.b.last,.int .i64 x.b.first,.int .i64 x.b.maxt,.int .i64 x.b.prod,.int .i64 x.b.epoch,.int .i64 x.b.seq,.slice x.q x.l.length x.cap]
theorem zEA:zEd Tryz.prog 58 (.agg #[.int .i64 0,.int .i64 0,.bool false,.bool false,.bool false,.int .i64 0,.int .i64 0,.int .i64 0,.int .i64 0,.int .i64 0,.int .i64 0,.slice none 0 0]) 12 96:=zBT (by kernel_rfl) rfl dD
def zEG (b:BatS) (r:Except Int (List BatS)):Except Int (List BatS):=match r with| .ok t=> .ok (b::t)| .error e=> .error e
def preB (acc:List BatS) (r:Except Int (List BatS)):Except Int (List BatS):=match r with| .ok t=> .ok (acc++t)| .error e=> .error e
theorem zMJ(r:Except Int (List BatS)):preB [] r=r:=by cases r<;>rfl
theorem zG0(acc:List BatS)(b:BatS)(r:Except Int (List BatS)):preB (acc++[b]) r=preB acc (zEG b r):=by
 cases r with
 |error e=>rfl
 |ok t=>simp[preB,zEG]
def zC8:Nat→Bs→Except Int (List BatS)
 |0,_=> .ok []
 |f+1,s=>if s=[]then .ok []else match zBd s with
  | .error e=> .error e
  | .ok y=>zEG y.1 (zC8 f (s.drop y.2))
theorem zFo:∀(f g:Nat) (s:Bs),s.length≤f→s.length≤g→zC8 f s=zC8 g s
 |0,0,_,_,_=>rfl
 |0,g+1,s,h,_=>by
  obtain rfl:s=[]:=List.eq_nil_of_length_eq_zero oM
  rfl
 |f+1,0,s,_,h=>by
  obtain rfl:s=[]:=List.eq_nil_of_length_eq_zero oM
  rfl
 |f+1,g+1,s,h1,h2=>by
  show(if s=[]then Except.ok []else match zBd s with
   | .error e=>Except.error e
   | .ok y=>zEG y.1 (zC8 f (s.drop y.2)))=if s=[]then Except.ok []else match zBd s with
   | .error e=>Except.error e
   | .ok y=>zEG y.1 (zC8 g (s.drop y.2))
  by_cases c:s=[]
  ·rw[if_pos c,if_pos c]
  rw[if_neg c,if_neg c]
  cases hr:zBd s with
  |error e=>rfl
  |ok y=>
   obtain⟨b,n⟩:=y;obtain⟨x,_,hn,hl,_⟩:=zBI hr;simp only;rw[zFo f g (s.drop n) (by rw[List.length_drop];omega) (by rw[List.length_drop];omega)]
def zBk (s:Bs):Except Int (List BatS):=zC8 s.length s
theorem zC7:zBk []=.ok []:=rfl
theorem zIe(s:Bs)(h0:s≠[]):zBk s=match zBd s with
 | .error e=>Except.error e
 | .ok y=>zEG y.1 (zBk (s.drop y.2)):=by
 have h1:zBk s=zC8 (s.length+1) s:=zFo _ _ s (Nat.le_refl _) oM;rw[h1]
 show(if s=[]then Except.ok []else match zBd s with
  | .error e=>Except.error e
  | .ok y=>zEG y.1 (zC8 s.length (s.drop y.2)))=_
 rw[if_neg h0]
 cases hr:zBd s with
 |error e=>rfl
 |ok y=>
  simp only;rw[zFo s.length _ (s.drop y.2) (by rw[List.length_drop];omega) (Nat.le_refl _)]
  rfl
theorem zHr{s:Bs}{e:Int}(h0:s≠[])(h:zBd s=.error e):zBk s=.error e:=by rw[zIe s h0,h]
theorem zJh{s:Bs}{b:BatS}{n:Nat}(h0:s≠[])(h:zBd s=.ok (b,n)):zBk s=zEG b (zBk (s.drop n)):=by rw[zIe s h0,h]
def InS.ppart (i:InS):(Int×List BatS)×InS:=
 let a:=i.int 4
 let b:=a.2.fixed 4
 let c:=if b.1.null=true then b.2.fail 4 else b.2
 match zBk b.1.data with
 | .ok l=>((a.1,l),c)
 | .error e=>((a.1,[]),c.fail e)
theorem zNM(p:Nat)(i j:InS)(x:Int)(size:Int)(hx:i.int size=(x,j))(h:St W0 w K (.inp p i::L)):
 Calls Tryz.prog 44 #[zAu p,.int .i64 size] w fun en w'=>en=.returned (.int .i64 x)∧St W0 w' K (.inp p j::L):=by
 have h2:=zCO p i size h;rw[hx]at h2;exact h2
theorem zIP(p:Nat)(i j:InS)(k:Int)(u:Bool)(d:Bs)(hx:i.fixed k=(⟨u,d⟩,j))(h:St W0 w K (.inp p i::L)):
 Calls Tryz.prog 43 #[zAu p,.int .i64 k] w fun en w'=>en=.returned (.agg #[.bool u,.string (bb d)])∧St W0 w' K (.inp p j::L):=by
 have h2:=zIc p i k h;rw[hx]at h2;exact h2
theorem zDW(p:Nat)(i:InS)(e:Int)(hx:i.err=e)(h:St W0 w K (.inp p i::L)):
 Calls Tryz.prog 20 #[zAu p] w fun en w'=>en=.returned (.int .i64 e)∧St W0 w' K (.inp p i::L):=by
 subst hx;exact zIr p i h
theorem zKn(p:Nat)(i:InS)(n:Nat)(hx:i.left=n)(h:St W0 w K (.inp p i::L)):
 Calls Tryz.prog 52 #[zAu p] w fun en w'=>en=.returned (.int .i64 n)∧St W0 w' K (.inp p i::L):=by
 subst hx;exact zMx p i h
theorem zKo(p:Nat)(i j:InS)(e:Int)(hx:i.fail e=j)(h:St W0 w K (.inp p i::L)):
 Calls Tryz.prog 47 #[zAu p,.int .i64 e] w fun en w'=>en=.returned (.tuple #[])∧St W0 w' K (.inp p j::L):=by
 subst hx;exact zCz p i e h
def PInM (b n:Nat) (w:World):Nat:=if intOf ((w.cell? ⟨b,2,none⟩).getD undef)≠0 then 0 else n+1 - (intOf ((w.cell? ⟨b,1,none⟩).getD undef)).toNat
theorem pinM{b n:Nat}{i:InS}(h:St W0 w K (.inp b i::L)):PInM b n w=if i.err≠0 then 0 else n+1 - i.pos:=by
 have h1:=zAS h.inpGet.1 1;have h2:=zAS h.inpGet.1 2;unfold PInM;rw[h1,h2]
 rfl
def zR6 (K2:Know) (d:Bs) (n:Nat) (xs:List Value) (pos:Nat) (er:Int):Prop:=
 (er=0∧pos≤d.length∧61*n≤pos∧∃acc:List BatR,n=acc.length∧xs=acc.flatMap zDf∧preB (acc.map BatR.b) (zBk (d.drop pos))=zBk d∧(∀x∈acc,K2.has (Know.recs (.slice x.q x.l.length x.cap) x.l))∧∀x∈acc,x.l.map (·.1)=x.b.recs)∨
 (er≠0∧zBk d=.error er)
theorem St.freezeBatsP{v:Value}{T:TypeId}{l:List BatR}(h:St W0 w K (.row v T 12 l.length (l.flatMap zDf)::L))(ht:∀x∈l,K.has (Know.recs (.slice x.q x.l.length x.cap) x.l)):St W0 w (K.and (Know.bats v l)) L:=by
 have hf:=h.freezeRow (R:=RBat) (fun x _=>⟨rfl,rfl⟩);exact hf.know (K':=K.and (Know.bats v l)) (fun w F hh=>⟨hh.1,hh.2,fun x hx=>ht x hx _ _ hh.1⟩)
theorem zPf{i j:InS}{e:Int}(h:i.fail e=j)(h0:e≠0):j.err≠0:=by
 subst h;unfold InS.fail
 split
 ·exact h0
 ·assumption
structure Ext {α:Type}(p:Bs→Except Int (α×Nat)):Prop where
 ok:∀(t r:Bs) (x:α×Nat),p t=.ok x→p (t++r)=.ok x
 err:∀(t r:Bs) (e:Int),p t=.error e→e≠1→p (t++r)=.error e
 le:∀(t:Bs) (x:α) (k:Nat),p t=.ok (x,k)→k≤t.length
theorem Ext.short{α:Type}{p:Bs→Except Int (α×Nat)}(h:Ext p){e:Bs}{x:α}(hb:p e=.ok (x,e.length))(j:Nat)(hj:j<e.length):p (e.take j)=.error 1:=by
 have hs:e.take j++e.drop j=e:=List.take_append_drop _ _
 cases hp:p (e.take j)with
 |ok y=>
  obtain⟨y,k⟩:=y;have h1:=h.ok _ (e.drop j) _ hp;rw[hs,hb]at h1
  cases h1
  have h2:=h.le _ _ _ hp;rw[List.length_take]at h2
  omega
 |error f=>
  by_cases hf:f=1
  ·rw[hf]
  ·have h1:=h.err _ (e.drop j) _ hp hf;rw[hs,hb]at h1
   cases h1
theorem zDC(top:Nat):∀(t:Bs) (f r n:Nat) (rest:Bs),(∀x,zAF top f r n t=.ok x→zAF top f r n (t++rest)=.ok x)∧(∀e,zAF top f r n t=.error e→e≠1→zAF top f r n (t++rest)=.error e)
 |[],f,r,n,rest=>⟨fun x h=>(by rw[zDa]at h;cases h),fun e h h1=>(by rw[zDa]at h;cases h;exact absurd rfl h1)⟩
 |c::t,0,r,n,rest=>⟨fun x h=>(by cases h),fun e h h1=>(by cases h;rfl)⟩
 |c::t,f+1,r,n,rest=>by
  have ih:=zDC top t f (r+1) (n+c.toNat % 128*128 ^ r) rest
  constructor
  ·intro x h;simp only[zAF,List.cons_append]at h ⊢
   split at h
   ·cases h
   ·rename_i h1
    rw[if_neg h1]
    split at h
    ·rename_i h2
     rw[if_pos h2];exact ih.1 x h
    ·rename_i h2
     rw[if_neg h2];exact h
  ·intro e h he;simp only[zAF,List.cons_append]at h ⊢
   split at h
   ·rename_i h1
    rw[if_pos h1];exact h
   ·rename_i h1
    rw[if_neg h1]
    split at h
    ·rename_i h2
     rw[if_pos h2];exact ih.2 e h he
    ·cases h
theorem zPg:Ext zCg:=by
 refine⟨fun t r x h=> ?_,fun t r e h he=> ?_,fun t x k h=>(zF7 h).2.2.1⟩
 ·unfold zCg at h ⊢
  cases hv:zAF 1 10 0 0 t with
  |error e=>rw[hv]at h;cases h
  |ok y=>rw[hv]at h;rw[(zDC 1 t 10 0 0 r).1 _ hv];exact h
 ·unfold zCg at h ⊢
  cases hv:zAF 1 10 0 0 t with
  |error e2=>rw[hv]at h;cases h;rw[(zDC 1 t 10 0 0 r).2 _ hv he]
  |ok y=>rw[hv]at h;cases h
theorem zDB:Ext zBf:=by
 refine⟨fun t r x h=> ?_,fun t r e h he=> ?_,fun t x k h=>(zCu h).2.2.1⟩
 ·unfold zBf at h ⊢
  cases hv:zAF 15 5 0 0 t with
  |error e=>rw[hv]at h;cases h
  |ok y=>rw[hv]at h;rw[(zDC 15 t 5 0 0 r).1 _ hv];exact h
 ·unfold zBf at h ⊢
  cases hv:zAF 15 5 0 0 t with
  |error e2=>rw[hv]at h;cases h;rw[(zDC 15 t 5 0 0 r).2 _ hv he]
  |ok y=>rw[hv]at h;cases h
theorem zI1{t:Bs}{k:Nat}{n:Int}{x:BlobS×Nat}(hk:k≤t.length)(h:gotS t k n=.ok x)(r:Bs):gotS (t++r) k n=.ok x∧x.2≤t.length:=by
 unfold gotS at h ⊢
 by_cases h1:n= -1
 ·rw[if_pos h1]at h ⊢;cases h;exact⟨rfl,hk⟩
 rw[if_neg h1]at h ⊢
 by_cases h2:n<0
 ·rw[if_pos h2]at h;cases h
 rw[if_neg h2]at h ⊢
 by_cases h3:(t.length:Int) - k<n
 ·rw[if_pos h3]at h;cases h
 rw[if_neg h3]at h
 cases h
 rw[if_neg (by rw[List.length_append];omega)];refine⟨?_,by simp only;omega⟩;rw[List.drop_append_of_le_length hk,List.take_append_of_le_length (by rw[List.length_drop];omega)]
theorem zO9{t:Bs}{k:Nat}{n:Int}{e:Int}(h:gotS t k n=.error e)(he:e≠1)(r:Bs):gotS (t++r) k n=.error e:=by
 unfold gotS at h ⊢
 by_cases h1:n= -1
 ·rw[if_pos h1]at h;cases h
 rw[if_neg h1]at h ⊢
 by_cases h2:n<0
 ·rw[if_pos h2]at h ⊢;exact h
 rw[if_neg h2]at h
 by_cases h3:(t.length:Int) - k<n
 ·rw[if_pos h3]at h;cases h;exact absurd rfl he
 ·rw[if_neg h3]at h;cases h
theorem zNU:Ext zAh:=by
 refine⟨fun t r x h=> ?_,fun t r e h he=> ?_,fun t x k h=> ?_⟩
 ·unfold zAh at h ⊢
  cases hv:zBf t with
  |error e=>rw[hv]at h;cases h
  |ok y=>rw[hv]at h;rw[zDB.ok _ r _ hv];exact(zI1 (zDB.le _ _ _ hv) h r).1
 ·unfold zAh at h ⊢
  cases hv:zBf t with
  |error e2=>rw[hv]at h;cases h;rw[zDB.err _ r _ hv he]
  |ok y=>rw[hv]at h;rw[zDB.ok _ r _ hv];exact zO9 h he r
 ·unfold zAh at h
  cases hv:zBf t with
  |error e=>rw[hv]at h;cases h
  |ok y=>rw[hv]at h;exact(zI1 (zDB.le _ _ _ hv) h []).2
theorem zPh(size:Nat):Ext (zAk size):=by
 refine⟨fun t r x h=> ?_,fun t r e h he=> ?_,fun t x k h=> ?_⟩
 ·unfold zAk at h ⊢
  by_cases h1:t.length<size
  ·rw[if_pos h1]at h;cases h
  ·rw[if_neg h1]at h;rw[if_neg (by rw[List.length_append];omega),List.take_append_of_le_length oM];exact(zI1 oM h r).1
 ·unfold zAk at h ⊢
  by_cases h1:t.length<size
  ·rw[if_pos h1]at h;cases h;exact absurd rfl he
  ·rw[if_neg h1]at h;rw[if_neg (by rw[List.length_append];omega),List.take_append_of_le_length oM];exact zO9 h he r
 ·unfold zAk at h
  by_cases h1:t.length<size
  ·rw[if_pos h1]at h;cases h
  ·rw[if_neg h1]at h;exact(zI1 oM h []).2
def rdL (z:Bool×InS) (n:Int):Bool×InS:=(decide (z.2.vlong.1=n) && z.1,z.2.vlong.2)
def rdV (z:Bool×InS) (b:BlobS):Bool×InS:=(decide (z.2.varied.1=b) && z.1,z.2.varied.2)
def rdF (z:Bool×InS) (b:BlobS):Bool×InS:=(decide ((z.2.fixed 2).1=b) && z.1,(z.2.fixed 2).2)
def rdB (z:Bool×InS) (b:BlobS):Bool×InS:=rdF (rdV z b) b
def encN (n:Int):Bs:=putU (zBg n)
def zRN (b:BlobS):Bs:=encV b++encF 2 b
def At (s:Bs) (c:Nat) (z:Bool×InS) (a:Nat):Prop:=(a≤c∧z.2=⟨s.take c,a,0⟩∧(z.1=true))∨(c<a∧z.2.err=1)
theorem At.read{α:Type}[DecidableEq α]{f:InS→α×InS}{p:Bs→Except Int (α×Nat)}{d:α}(hr:Rds f p d)(he:Ext p){s r:Bs}{c a:Nat}{z:Bool×InS}(hc:c≤s.length)(h:At s c z a){e:Bs}{x:α}(hp:p e=.ok (x,e.length))(hs:s.drop a=e++r):
 At s c (decide ((f z.2).1=x) && z.1,(f z.2).2) (a+e.length):=by
 have hl:(s.take c).length=c:=by rw[List.length_take];omega
 rcases h with ⟨h1,h2,h3⟩|⟨h1,h2⟩
 ·rw[h2,h3];have hd:(s.take c).drop a=(e++r).take (c - a):=by rw[←hs,List.drop_take]
  by_cases hlt:a+e.length≤c
  ·have h4:p ((s.take c).drop a)=.ok (x,e.length):=by
    rw[hd,List.take_append,List.take_of_length_le oM];exact he.ok _ _ _ hp
   have h5:=(hr.ok (s.take c) a x e.length oM h4).2;rw[h5];exact .inl ⟨hlt,rfl,by simp⟩
  ·have h4:p ((s.take c).drop a)=.error 1:=by
    rw[hd,List.take_append_of_le_length oM];exact he.short hp _ oM
   obtain⟨_,q,_,h5⟩:=hr.err (s.take c) a 1 oM h4;rw[h5];exact .inr ⟨oM,rfl⟩
 ·have h4:=hr.stuck z.2 (by rw[h2];decide);rw[h4];exact .inr ⟨oM,h2⟩
theorem At.long{s r:Bs}{c a:Nat}{z:Bool×InS}(hc:c≤s.length)(h:At s c z a)(n:Int)(h0: -9223372036854775808≤n)(h1:n<9223372036854775808)(hs:s.drop a=encN n++r):At s c (rdL z n) (a+(encN n).length):=by
 have hp:zCg (encN n)=.ok (n,(encN n).length):=by
  have:=zJl n h0 h1 []
  rwa [List.append_nil]at this
 exact At.read zFV zPg hc h hp hs
theorem At.varied{s r:Bs}{c a:Nat}{z:Bool×InS}(hc:c≤s.length)(h:At s c z a)(b:BlobS)(hb:b.right=true)(hl:b.data.length≤2147483647)(hs:s.drop a=encV b++r):At s c (rdV z b) (a+(encV b).length):=by
 have hp:zAh (encV b)=.ok (b,(encV b).length):=by
  have:=zBt b hb hl []
  rwa [List.append_nil]at this
 exact At.read zAt zNU hc h hp hs
theorem At.fixed{s r:Bs}{c a:Nat}{z:Bool×InS}(hc:c≤s.length)(h:At s c z a)(b:BlobS)(hb:b.right=true)(hf:fits b.len 2)(hs:s.drop a=encF 2 b++r):At s c (rdF z b) (a+(encF 2 b).length):=by
 have hp:zAk 2 (encF 2 b)=.ok (b,(encF 2 b).length):=by
  have:=zJM 2 b hb hf []
  rwa [List.append_nil]at this
 exact At.read (zA3 2 dD dD) (zPh 2) hc h hp hs
def BOk (b:BlobS):Prop:=b.right=true∧b.data.length≤200
theorem BOk.fits{b:BlobS}(h:BOk b):fits b.len 2:=by
 have h128:half 2=32768:=by decide
 have hl:=h.2;refine⟨dD,dD,?_,?_⟩<;>unfold BlobS.len<;>split<;>simp[h128]<;>omega
theorem At.blob{s r:Bs}{c a:Nat}{z:Bool×InS}(hc:c≤s.length)(h:At s c z a)(b:BlobS)(hb:BOk b)(hs:s.drop a=zRN b++r):At s c (rdB z b) (a+(zRN b).length):=by
 unfold zRN at hs ⊢;rw[List.append_assoc]at hs;have h1:=h.varied hc b hb.1 (by have:=hb.2;omega) hs;have h2:s.drop (a+(encV b).length)=encF 2 b++r:=by rw[←List.drop_drop,hs,List.drop_left]
 have h3:=h1.fixed hc b hb.1 hb.fits h2;rw[List.length_append,←Nat.add_assoc];exact h3
def RI (cs:List Value) (x:Int):Prop:=cs=[.int .i64 x]
theorem zRI{α:Type}{R:List Value→α→Prop}{sz n cap:Nat}{q:Option Addr}{l:List α}(hk:K.has (Know.flat R (.slice q n cap) sz l))(h:St W0 w K L)(h0:0<l.length):∃b off,q=some ⟨b,off,none⟩:=by
 obtain⟨F,hF,_⟩:=h.get;obtain⟨q2,cap2,hv,hr⟩:=(hk _ _ hF).at;obtain⟨b,off,hq,_⟩:=hr h0;simp at hv;exact⟨b,off,hv.1.trans hq⟩
theorem zPc{α:Type}{R:List Value→α→Prop}{sz n cap b off:Nat}{l:List α}(hk:K.has (Know.flat R (.slice (some ⟨b,off,none⟩) n cap) sz l))(h:St W0 w K L)(i:Nat)(hi:i<l.length):∃cs,R cs l[i]∧∀f u,cs[f]? =some u→w.cell? ⟨b,off+(i*sz+f),none⟩=some u:=by
 obtain⟨F,hF,_⟩:=h.get;obtain⟨q2,cap2,hv,hr⟩:=(hk _ _ hF).at;obtain⟨b2,off2,hq,hc⟩:=hr oM;rw[hq]at hv;simp at hv;obtain⟨⟨rfl,rfl⟩,_,_⟩:=hv;obtain⟨cs,_,h1,h2⟩:=hc i hi;exact⟨cs,h1,h2⟩
structure TopS where
 name:Bs
 parts:List Int
deriving DecidableEq
def RTop (cs:List Value) (x:TopS×Value):Prop:=cs=[.string (bb x.1.name),x.2]
def zJq (x:TopS×Value):List Value:=[.string (bb x.1.name),x.2]
def Know.tops (v:Value) (l:List (TopS×Value)):Know:=(Know.flat RTop v 2 l).and (Know.all l fun x=>Know.flat RI x.2 1 x.1.parts)
theorem zJo{K:Know}{v:Value}{l:List (TopS×Value)}(h:K.has (Know.tops v l)):K.has (Know.flat RTop v 2 l):=fun w F x=>(h w F x).1
theorem zNe{K:Know}{v:Value}{l:List (TopS×Value)}(h:K.has (Know.tops v l)){x:TopS×Value}(hx:x∈l):K.has (Know.flat RI x.2 1 x.1.parts):=fun w F y=>(h w F y).2 x hx
theorem zQ6{q:Option Addr}{n cap:Nat}{l:List (TopS×Value)}(hk:K.has (Know.tops (.slice q n cap) l))(h:St W0 w K L)(h0:0<l.length):∃b off,q=some ⟨b,off,none⟩:=by
 obtain⟨F,hF,_⟩:=h.get;obtain⟨q2,cap2,hv,hr⟩:=(zJo hk _ _ hF).at;obtain⟨b,off,hq,_⟩:=hr h0;simp at hv;exact⟨b,off,hv.1.trans hq⟩
theorem zJp{b off n cap:Nat}{l:List (TopS×Value)}(hk:K.has (Know.tops (.slice (some ⟨b,off,none⟩) n cap) l))(h:St W0 w K L)(i:Nat)(hi:i<l.length)(x:TopS×Value)(hx:l[i]=x):
 w.cell? ⟨b,off+i*2,none⟩=some (.string (bb x.1.name))∧w.cell? ⟨b,off+i*2+1,none⟩=some x.2:=by
 subst hx;obtain⟨F,hF,_⟩:=h.get;obtain⟨q2,cap2,hv,hr⟩:=(zJo hk _ _ hF).at;obtain⟨b2,off2,hq,hc⟩:=hr oM;rw[hq]at hv;simp at hv;obtain⟨⟨rfl,rfl⟩,_,_⟩:=hv;obtain⟨cs,_,hR,hcs⟩:=hc i hi;unfold RTop at hR;subst hR;exact⟨hcs 0 _ rfl,by rw[Nat.add_assoc];exact hcs 1 _ rfl⟩
theorem zFZ{b off n cap:Nat}{l:List Int}(hk:K.has (Know.flat RI (.slice (some ⟨b,off,none⟩) n cap) 1 l))(h:St W0 w K L)(i:Nat)(hi:i<l.length):w.cell? ⟨b,off+i,none⟩=some (.int .i64 (l.getD i 0)):=by
 obtain⟨cs,hR,hc⟩:=zPc hk h i hi;unfold RI at hR;subst hR;have c0:=hc 0 _ rfl;rw[Nat.mul_one,Nat.add_zero]at c0;rw[c0,List.getD_eq_getElem?_getD,List.getElem?_eq_getElem hi]
 rfl
def allN (n:Nat) (p:Nat→Bool):Bool:=(List.range n).all p
theorem zEQ{n:Nat}{p:Nat→Bool}(h:∀k,k<n→p k=true):allN n p=true:=by
 unfold allN;rw[List.all_eq_true];intro x hx;exact h x (List.mem_range.1 hx)
theorem zMh{n:Nat}{p:Nat→Bool}(h:allN n p=true)(k:Nat)(hk:k<n):p k=true:=List.all_eq_true.1 h k (List.mem_range.2 hk)
theorem zDU{n:Nat}{p:Nat→Bool}(k:Nat)(hk:k<n)(h:p k=false):allN n p=false:=by
 cases hh:allN n p with
 |false=>rfl
 |true=>have:=zMh hh k hk;rw[h]at this;cases this
theorem zJk{n:Nat}{p q:Nat→Bool}(h:∀k,k<n→p k=q k):allN n p=allN n q:=by
 cases hh:allN n q with
 |true=>exact zEQ fun k hk=>(h k hk).trans (zMh hh k hk)
 |false=>
  cases h2:allN n p with
  |false=>rfl
  |true=>rw[zEQ fun k hk=>(h k hk).symm.trans (zMh h2 k hk)]at hh;cases hh
def upI (l:List Int) (k:Nat):Bool:=k==0||decide (l.getD (k - 1) 0<l.getD k 0)
def upS (l:List Bs) (k:Nat):Bool:=k==0||Op.bytesLess (l.getD (k - 1) []) (l.getD k [])
def zRc (l:List Bs):Bool:=allN l.length (upS l)
def zNN (l:List Int):Bool:= !l.isEmpty && allN l.length (fun k=>decide (0≤l.getD k 0∧l.getD k 0≤2147483647) && upI l k)
def tOk (t:TopS):Bool:= !t.name.isEmpty && decide (t.name.length≤32767) && zNN t.parts
def zEV (l:List TopS):Bool:=l.all tOk && zRc (l.map (·.name))
theorem zOY:zNN []=false:=rfl
structure ValS where
 prod:Int
 epoch:Int
 timeout:Int
 state:Int
 tops:List TopS
 upd:Int
 started:Int
deriving DecidableEq
def ValS.ranged (v:ValS):Bool:=decide (0≤v.prod) && (decide (0≤v.epoch) && (decide (v.epoch≤32767) && (decide (0≤v.timeout) && (decide (v.timeout≤2147483647) && (decide (0≤v.upd) && decide (-1≤v.started))))))
def idle (s:Int):Bool:= !(s==1) && (!(s==2) && !(s==3))
def ValS.err (v:ValS):Int:=
 if v.ranged=false then 11
 else if v.state<0∨7≤v.state then 12
 else if (idle v.state !=v.tops.isEmpty)=true∨((v.state==0) !=(v.started== -1))=true then 10
 else if zEV v.tops=false then 13 else 0
def FewT (l:List (TopS×Value)):Prop:=l.length≤1000000∧∀x∈l,x.1.name.length≤140737488355328∧x.1.parts.length≤1000000
theorem zKu:∀(i:Nat) (a b:Bs) (hi:i<a.length) (hj:i<b.length),a.take i=b.take i→a[i]≠b[i]→Op.bytesLess a b=decide (a[i]<b[i])
 |0,x::a,y::b,_,_,_,hne=>by
  show(decide (x<y)||(x==y && Op.bytesLess a b))=decide (x<y)
  have e:(x==y)=false:=by simpa using hne
  rw[e,Bool.false_and,Bool.or_false]
 |i+1,x::a,y::b,hi,hj,ht,hne=>by
  rw[List.take_succ_cons,List.take_succ_cons]at ht;injection ht with h1 h2;subst h1;have ih:=zKu i a b (by simpa using hi) (by simpa using hj) h2 hne
  show(decide (x<x)||(x==x && Op.bytesLess a b))=_
  have h3:¬x<x:=by rw[UInt8.lt_iff_toNat_lt];omega
  rw[decide_eq_false h3,beq_self_eq_true,Bool.true_and,Bool.false_or,ih]
  rfl
theorem zIW:∀(i:Nat) (a b:Bs),i≤a.length→i≤b.length→a.take i=b.take i→(i=a.length∨i=b.length)→Op.bytesLess a b=decide (a.length<b.length)
 |0,[],[],_,_,_,_=>rfl
 |0,[],y::b,_,_,_,_=>by show true=_;simp
 |0,x::a,[],_,_,_,_=>by show false=_;simp
 |0,x::a,y::b,_,_,_,h=>by rcases h with h|h<;>simp at h
 |i+1,[],_,h,_,_,_=>by simp at h
 |i+1,x::a,[],_,h,_,_=>by simp at h
 |i+1,x::a,y::b,hi,hj,ht,h=>by
  rw[List.take_succ_cons,List.take_succ_cons]at ht;injection ht with h1 h2;subst h1;have ih:=zIW i a b (by simpa using hi) (by simpa using hj) h2 (by simpa using h)
  show(decide (x<x)||(x==x && Op.bytesLess a b))=_
  have h3:¬x<x:=by rw[UInt8.lt_iff_toNat_lt];omega
  rw[decide_eq_false h3,beq_self_eq_true,Bool.true_and,Bool.false_or,ih]
  simp
theorem zOk(i:Nat)(a b:Bs)(hi:i<a.length)(hj:i<b.length)(h:a.take i=b.take i)(he:a[i]=b[i]):a.take (i+1)=b.take (i+1):=by
 rw[List.take_succ_eq_append_getElem hi,List.take_succ_eq_append_getElem hj,h,he]
set_option maxHeartbeats 1000000
set_option maxRecDepth 100000
theorem zHN(a b:Bs)(r:Bool)(hr:Op.bytesLess a b=r)(ha:a.length≤140737488355328)(hb:b.length≤140737488355328){W0 w:World}{K:Know}{L:List Res}(h:St W0 w K L):
 Calls Tryz.prog 99 #[.string (bb a),.string (bb b)] w fun en w'=>en=.returned (.bool r)∧St W0 w' K L:=by
 have H:=hQd h;have HR:=hQd hr;have hai:(a.length:Int)≤140737488355328:=by omega
 have hbi:(b.length:Int)≤140737488355328:=by omega
 clear h hr ha hb;go_enter Tryz.func99,Tryz.ntmps99;go_wp2;go_loopw [5] (fun iv wr=>∃i:Nat,i≤a.length∧i≤b.length∧iv=.int .i64 i∧Hid (a.take i=b.take i)∧St W0 wr K L) (fun iv _=>a.length - (intOf iv).toNat)
 case atStart=>exact⟨0,Nat.zero_le _,Nat.zero_le _,rfl,hQd rfl,H.out⟩
 case round=>
  obtain⟨i,hia,hib,rfl,HT,hst⟩:=hrel;clear H;have H:=hQd hst;clear hst
  by_cases h1:i<a.length
  ·by_cases h2:i<b.length
   ·have hi1:(i:Int)<(a.length:Int):=by omega
    have hi2:(i:Int)<(b.length:Int):=by omega
    have hi0:(0:Int)≤(i:Int):=by omega
    by_cases hxy:a[i]=b[i]
    ·have HT2:=hQd (zOk i a b h1 h2 HT.out hxy);have e1:(((a[i]).toNat:Int) !=((b[i]).toNat:Int))=false:=by rw[hxy];simp
     have e2:(((a[i]).toNat:Int)==((b[i]).toNat:Int))=true:=by rw[hxy];simp
     clear hxy;go_wp2;have hs:=H.out.drew
     go_region
     go_wp2;go_roundw
     case rel=>exact⟨i+1,h1,h2,by go_num,HT2,hs⟩
     case measure=>first|(simp[intOf];done)|(simp[intOf];omega)
    ·have hl:=zKu i a b h1 h2 HT.out hxy;rw[HR.out]at hl;have hne:((a[i]).toNat:Int)≠((b[i]).toNat:Int):=fun h=>hxy (UInt8.toNat_inj.1 oM)
     have e1:(((a[i]).toNat:Int) !=((b[i]).toNat:Int))=true:=by simpa using hne
     have e2:(((a[i]).toNat:Int)==((b[i]).toNat:Int))=false:=by simpa using hne
     have hl2:r=decide ((a[i]).toNat<(b[i]).toNat):=by
      rw[hl]
      congr 1
     clear hl hxy hne;subst hl2;go_wp2;have hs:=H.out.drew
     go_region
     go_wp2;have hs:=hs.drew
     go_region
     go_wp2;go_ret;exact⟨rfl,hs⟩
   ·have hl:=zIW i a b hia hib HT.out oM;rw[HR.out]at hl
    have hl2:r=decide ((a.length:Int)<(b.length:Int)):=by
     rw[hl];congr 1;exact propext ⟨fun h=>by omega,fun h=>by omega⟩
    clear hl;subst hl2;have hi1:(i:Int)<(a.length:Int):=by omega
    have hi2:¬(i:Int)<(b.length:Int):=by omega
    go_wp2;go_ret;exact⟨by simp,H.out⟩
  ·have hl:=zIW i a b hia hib HT.out oM;rw[HR.out]at hl
   have hl2:r=decide ((a.length:Int)<(b.length:Int)):=by
    rw[hl];congr 1;exact propext ⟨fun h=>by omega,fun h=>by omega⟩
   clear hl;subst hl2;have hi1:¬(i:Int)<(a.length:Int):=by omega
   go_wp2;go_ret;exact⟨by simp,H.out⟩
def tRef (l:List TopS) (i:Nat):Bool:=tOk (l.getD i ⟨[],[]⟩) && upS (l.map (·.name)) i
theorem zNh(l:List TopS):zEV l=allN l.length (tRef l):=by
 have hg:∀i (h:i<l.length),l.getD i ⟨[],[]⟩=l[i]:=fun i h=>by rw[List.getD_eq_getElem?_getD,List.getElem?_eq_getElem h];rfl
 unfold zEV
 cases ha:l.all tOk with
 |false=>
  rw[Bool.false_and];obtain⟨x,hx,hx2⟩:=List.all_eq_false.1 ha;obtain⟨i,hi,rfl⟩:=List.mem_iff_getElem.1 hx;refine(zDU i hi ?_).symm;unfold tRef;rw[hg i hi];have:tOk l[i]=false:=by simpa using hx2
  rw[this,Bool.false_and]
 |true=>
  rw[Bool.true_and];unfold zRc;rw[List.length_map];refine zJk fun k hk=> ?_
  unfold tRef;rw[hg k hk,List.all_eq_true.1 ha _ (List.getElem_mem hk),Bool.true_and]
def pk (l:List Int) (k:Nat):Bool:=decide (0≤l.getD k 0∧l.getD k 0≤2147483647) && upI l k
theorem zIQ(l:List Int)(h:l≠[]):zNN l=allN l.length (pk l):=by
 unfold zNN
 cases l with
 |nil=>exact absurd rfl h
 |cons _ _=>rfl
def be4s (l:List Int):Bs:=l.flatMap fun n=>zAd n 4
def encT (t:TopS):Bs:=encF 2 ⟨false,t.name⟩++(zAd t.parts.length 4++be4s t.parts)
def encTs (l:List TopS):Bs:=zAd l.length 4++l.flatMap encT
def ValS.enc (v:ValS):Bs:=zAd 0 2++zAd v.prod 8++zAd v.epoch 2++zAd v.timeout 4++zAd v.state 1++encTs v.tops++zAd v.upd 8++zAd v.started 8
def TopS.Fit (t:TopS):Prop:=t.name.length≤32767∧t.parts.length≤1000000∧∀n∈t.parts,-2147483648≤n∧n<2147483648
def InS.cnt (i:InS) (each:Nat):Nat×InS:=((i.count 4 each).1.toNat,(i.count 4 each).2)
def cntP (each:Nat) (s:Bs):Except Int (Nat×Nat):=
 if s.length<4 then .error 1 else if sInt (s.take 4)<0 then .error 4 else if ((s.length:Int) - 4) / each<sInt (s.take 4)then .error 1 else .ok ((sInt (s.take 4)).toNat,4)
theorem zIY(s:Bs)(pos:Nat)(hp:pos≤s.length)(h:4≤(s.drop pos).length):pos+4≤s.length∧(⟨s,pos,0⟩:InS).int 4=(sInt ((s.drop pos).take 4),⟨s,pos+4,0⟩):=
 (zBl 4 dD dD).ok s pos _ 4 hp (by unfold zAI;rw[if_neg oM])
theorem zH5(s:Bs)(pos:Nat)(hp:pos≤s.length)(h:(s.drop pos).length<4):∃q,q≤s.length∧(⟨s,pos,0⟩:InS).int 4=(0,⟨s,q,1⟩):=
 ((zBl 4 dD dD).err s pos 1 hp (by unfold zAI;rw[if_pos h])).2
theorem int_stuck(i:InS)(hi:i.err≠0):i.int 4=(0,i):=(zBl 4 dD dD).stuck i hi
theorem zCP(each:Nat)(he:0<each):Rds (fun i=>i.cnt each) (cntP each) 0:=by
 refine⟨?_,?_,?_⟩
 ·intro s pos a k hp h;unfold cntP at h
  by_cases h1:(s.drop pos).length<4
  ·rw[if_pos h1]at h;cases h
  rw[if_neg h1]at h;obtain⟨g1,g2⟩:=zIY s pos hp oM
  by_cases h2:sInt ((s.drop pos).take 4)<0
  ·rw[if_pos h2]at h;cases h
  rw[if_neg h2]at h
  by_cases h3:(((s.drop pos).length:Int) - 4) / each<sInt ((s.drop pos).take 4)
  ·rw[if_pos h3]at h;cases h
  rw[if_neg h3]at h
  cases h
  refine⟨g1,?_⟩
  show(((⟨s,pos,0⟩:InS).count 4 each).1.toNat,((⟨s,pos,0⟩:InS).count 4 each).2)=_
  unfold InS.count;simp only[g2]
  rw[if_neg h2,if_neg (fun hh=>h3 (by
   have e:((⟨s,pos+4,0⟩:InS).left:Int)=((s.drop pos).length:Int) - 4:=by simp only[InS.left];rw[List.length_drop];rw[List.length_drop]at h1;omega
   rw[e]at hh
   exact hh.2))]
 ·intro s pos e hp h;unfold cntP at h
  show e≠0∧∃q,q≤s.length∧(((⟨s,pos,0⟩:InS).count 4 each).1.toNat,((⟨s,pos,0⟩:InS).count 4 each).2)=_
  unfold InS.count
  by_cases h1:(s.drop pos).length<4
  ·rw[if_pos h1]at h
   cases h
   obtain⟨q,g1,g2⟩:=zH5 s pos hp h1;refine⟨dD,q,g1,?_⟩;simp only[g2]
   rw[if_neg dD,if_neg (fun hh=>by
    have h2:=hh.2;have:(0:Int)≤((⟨s,q,1⟩:InS).left:Int) / (each:Int):=Int.ediv_nonneg oM oM
    omega)]
   rfl
  rw[if_neg h1]at h;obtain⟨g1,g2⟩:=zIY s pos hp oM;simp only[g2]
  by_cases h2:sInt ((s.drop pos).take 4)<0
  ·rw[if_pos h2]at h
   cases h
   rw[if_pos h2];exact⟨dD,pos+4,g1,rfl⟩
  rw[if_neg h2]at h ⊢;have e4:((⟨s,pos+4,0⟩:InS).left:Int)=((s.drop pos).length:Int) - 4:=by simp only[InS.left];rw[List.length_drop];rw[List.length_drop]at h1;omega
  rw[e4]
  by_cases h3:(((s.drop pos).length:Int) - 4) / each<sInt ((s.drop pos).take 4)
  ·rw[if_pos h3]at h
   cases h
   rw[if_pos ⟨oM,h3⟩];exact⟨dD,pos+4,g1,rfl⟩
  rw[if_neg h3]at h
  cases h
 ·intro i hi
  show(((i.count 4 each).1).toNat,(i.count 4 each).2)=_
  unfold InS.count;rw[int_stuck i hi];simp only
  rw[if_neg dD,if_neg (fun hh=>by
   have h2:=hh.2;have:(0:Int)≤(i.left:Int) / (each:Int):=Int.ediv_nonneg oM oM
   omega)]
  rfl
def InS.partsN:Nat→List Int→InS→List Int×InS
 |0,acc,i=>(acc,i)
 |n+1,acc,i=>InS.partsN n (acc++[(i.int 4).1]) (i.int 4).2
def InS.parts (i:InS):List Int×InS:=InS.partsN (i.cnt 4).1 [] (i.cnt 4).2
theorem zFk{each:Nat}{s:Bs}{n k:Nat}(he:0<each)(h:cntP each s=.ok (n,k)):k=4∧4+each*n≤s.length∧(n:Int)=sInt (s.take 4)∧n<2147483648:=by
 unfold cntP at h
 by_cases h1:s.length<4
 ·rw[if_pos h1]at h;cases h
 rw[if_neg h1]at h
 by_cases h2:sInt (s.take 4)<0
 ·rw[if_pos h2]at h;cases h
 rw[if_neg h2]at h
 by_cases h3:((s.length:Int) - 4) / each<sInt (s.take 4)
 ·rw[if_pos h3]at h;cases h
 rw[if_neg h3]at h
 cases h
 have hn:((sInt (s.take 4)).toNat:Int)=sInt (s.take 4):=Int.toNat_of_nonneg oM;refine⟨rfl,?_,hn,?_⟩
 ·have h4:sInt (s.take 4)*each≤(s.length:Int) - 4:=(Int.le_ediv_iff_mul_le oM).1 oM;rw[←hn]at h4;have h5:((sInt (s.take 4)).toNat:Int)*(each:Int)=((each*(sInt (s.take 4)).toNat:Nat):Int):=by rw[Nat.mul_comm];exact(Int.natCast_mul _ _).symm
  rw[h5]at h4
  omega
 ·have h6:fits (sInt (s.take 4)) 4:=by
   exact zGg (s.take 4) 4 dD dD (by rw[List.length_take];omega)
  have h7:=h6.2.2.2;have e4:half (4:Int).toNat=2147483648:=by decide
  rw[e4]at h7
  omega
def zD0 (s:Bs):Except Int (Bs×Nat):=match zAk 2 s with
 | .error e=> .error e
 | .ok x=>if x.1.null then .error 4 else .ok (x.1.data,x.2)
theorem zq40{p:Prop}(h:p:=by
  unfold zAk at h
  split at h
  · cases h
  · unfold gotS at h
    split at h
    · cases h;rfl
    · split at h
      · cases h
      · split at h
        · cases h
        · cases h;cases hn):p:=h
theorem zJL{s:Bs}{x:BlobS×Nat}(h:zAk 2 s=.ok x)(hn:x.1.null=true):x.1.data=[]:=by
 exact zq40
theorem zIH:Rds InS.text zD0 []:=by
 refine⟨?_,?_,?_⟩
 ·intro s pos a k hp h;unfold zD0 at h
  cases h1:zAk 2 (s.drop pos)with
  |error e=>rw[h1]at h;cases h
  |ok x=>
   rw[h1]at h;obtain⟨g1,g2⟩:=(zA3 2 dD dD).ok s pos x.1 x.2 hp h1
   cases hn:x.1.null with
   |true=>simp[hn]at h
   |false=>
    simp only[hn]at h
    cases h
    refine⟨g1,?_⟩;unfold InS.text InS.bytes;have g2:(⟨s,pos,0⟩:InS).fixed 2=(x.1,⟨s,pos+x.2,0⟩):=g2;rw[g2];simp only[hn]
    rfl
 ·intro s pos e hp h;unfold zD0 at h
  cases h1:zAk 2 (s.drop pos)with
  |error e1=>
   rw[h1]at h
   cases h
   obtain⟨g1,q,g2,g3⟩:=(zA3 2 dD dD).err s pos e hp h1;refine⟨g1,q,g2,?_⟩;have g3:(⟨s,pos,0⟩:InS).fixed 2=(⟨false,[]⟩,⟨s,q,e⟩):=g3;unfold InS.text InS.bytes;rw[g3]
   rfl
  |ok x=>
   rw[h1]at h;obtain⟨g1,g2⟩:=(zA3 2 dD dD).ok s pos x.1 x.2 hp h1;have g2:(⟨s,pos,0⟩:InS).fixed 2=(x.1,⟨s,pos+x.2,0⟩):=g2
   cases hn:x.1.null with
   |false=>simp[hn]at h
   |true=>
    simp[hn]at h;subst h;refine⟨dD,pos+x.2,g1,?_⟩;unfold InS.text InS.bytes;rw[g2];simp only[hn];have hd:=zJL h1 hn;rw[hd]
    rfl
 ·intro i hi;have g:i.fixed 2=(⟨false,[]⟩,i):=(zA3 2 dD dD).stuck i hi;unfold InS.text InS.bytes;rw[g]
  rfl
def InS.topsN:Nat→List TopS→InS→List TopS×InS
 |0,acc,i=>(acc,i)
 |n+1,acc,i=>if i.text.2.parts.2.err=0 then InS.topsN n (acc++[⟨i.text.1,i.text.2.parts.1⟩]) i.text.2.parts.2 else([],i.text.2.parts.2)
def InS.tops (i:InS):List TopS×InS:=InS.topsN (i.cnt 6).1 [] (i.cnt 6).2
theorem zKS(i:InS)(each:Nat):(i.count 4 each).1=((i.cnt each).1:Int)∧(i.cnt each).1≤2147483647:=by
 have hr: -2147483648≤(i.int 4).1∧(i.int 4).1<2147483648:=by
  have e4:half (4:Int).toNat=2147483648:=by decide
  by_cases hi:i.err=0
  ·obtain⟨s,pos,er⟩:=i;simp only at hi;subst hi;unfold InS.int;rw[if_neg dD];simp only;unfold InS.take
   split
   ·show -2147483648≤sInt []∧sInt []<2147483648;decide
   ·split
    ·show -2147483648≤sInt []∧sInt []<2147483648;decide
    ·split
     ·show -2147483648≤sInt []∧sInt []<2147483648;decide
     ·rename_i h1 h2 h3
      have hl:(((s.drop pos)).take (4:Int).toNat).length=4:=by
       rw[List.length_take,List.length_drop];simp only[InS.left]at h3;have:(4:Int).toNat=4:=rfl
       omega
      have h6:=zGg _ 4 dD dD hl;have h7:=h6.2.2;have e5:half ((4:Nat):Int).toNat=2147483648:=by decide
      rw[e5]at h7;exact h7
  ·rw[int_stuck i hi];show(-2147483648:Int)≤0∧(0:Int)<2147483648;decide
 have h0:0≤(i.count 4 each).1∧(i.count 4 each).1<2147483648:=by
  unfold InS.count;simp only
  split
  ·simp
  ·split
   ·simp
   ·omega
 unfold InS.cnt;simp only
 omega
theorem zMp(i:InS)(n:Int):(i.take n).2.s=i.s∧(i.take n).1.length≤i.s.length:=by
 unfold InS.take
 split
 ·exact⟨rfl,Nat.zero_le _⟩
 ·split
  ·exact⟨rfl,Nat.zero_le _⟩
  ·split
   ·exact⟨rfl,Nat.zero_le _⟩
   ·refine⟨rfl,?_⟩;rw[List.length_take,List.length_drop]
    omega
theorem zDP(i:InS)(e:Int):(i.fail e).s=i.s:=by unfold InS.fail;split<;>rfl
theorem zB2(i:InS)(k:Int):(i.int k).2.s=i.s:=by
 unfold InS.int
 split
 ·exact zDP _ _
 ·exact(zMp _ _).1
theorem tk_s12(i:InS)(n:Int):(i.tk n).2.s=i.s∧(i.tk n).1.data.length≤i.s.length:=by
 unfold InS.tk
 split
 ·exact⟨rfl,Nat.zero_le _⟩
 ·exact zMp _ _
theorem zBr(i:InS)(k:Int):(i.fixed k).2.s=i.s∧(i.fixed k).1.data.length≤i.s.length:=by
 unfold InS.fixed;have h:=tk_s12 (i.int k).2 (i.int k).1;rw[zB2]at h;exact h
theorem zIj(i:InS):i.text.2.s=i.s:=by
 unfold InS.text InS.bytes;simp only
 split
 ·rw[zDP];exact(zBr i 2).1
 ·exact(zBr i 2).1
theorem zFj(i:InS)(each:Nat):(i.cnt each).2.s=i.s:=by
 unfold InS.cnt InS.count;simp only
 split
 ·rw[zDP];exact zB2 i 4
 ·split
  ·rw[zDP];exact zB2 i 4
  ·exact zB2 i 4
theorem zCY(i:InS):(((i.int 4).2.fixed 4).1.data).length≤i.s.length:=by
 have h:=(zBr (i.int 4).2 4).2;rw[zB2]at h;exact h
theorem zEs(i:InS):i.ppart.2.s=i.s:=by
 have h1:((i.int 4).2.fixed 4).2.s=i.s:=by rw[(zBr _ 4).1,zB2]
 have h2:(if ((i.int 4).2.fixed 4).1.null=true then((i.int 4).2.fixed 4).2.fail 4 else((i.int 4).2.fixed 4).2).s=i.s:=by
  split
  ·rw[zDP];exact h1
  ·exact h1
 unfold InS.ppart;simp only
 split
 ·exact h2
 ·rw[zDP];exact h2
def PartR.pb (x:PartR):Int×List BatS:=(x.idx,x.l.map BatR.b)
def InS.ppartsN:Nat→List (Int×List BatS)→InS→List (Int×List BatS)×InS
 |0,acc,i=>(acc,i)
 |n+1,acc,i=>if i.ppart.2.err=0 then InS.ppartsN n (acc++[i.ppart.1]) i.ppart.2 else([],i.ppart.2)
def InS.ptop (i:InS):(Bs×List (Int×List BatS))×InS:=
 ((i.text.1,(InS.ppartsN (i.text.2.cnt 8).1 [] (i.text.2.cnt 8).2).1),(InS.ppartsN (i.text.2.cnt 8).1 [] (i.text.2.cnt 8).2).2)
theorem zG2:∀(n:Nat) (acc:List (Int×List BatS)) (i:InS),(InS.ppartsN n acc i).2.s=i.s
 |0,_,_=>rfl
 |n+1,acc,i=>by
  show(if i.ppart.2.err=0 then InS.ppartsN n (acc++[i.ppart.1]) i.ppart.2 else([],i.ppart.2)).2.s=i.s
  split
  ·rw[zG2 n];exact zEs i
  ·exact zEs i
theorem zMH(i:InS):i.ptop.2.s=i.s:=by
 unfold InS.ptop;simp only;rw[zG2,zFj,zIj]
theorem zRy(p:Nat)(i j:InS)(each n:Nat)(ei:Int)(he:ei=each)(hx:i.cnt each=(n,j))(h:St W0 w K (.inp p i::L)):
 Calls Tryz.prog 45 #[zAu p,.int .i64 4,.int .i64 ei] w fun en w'=>en=.returned (.int .i64 n)∧St W0 w' K (.inp p j::L):=by
 subst he;have h2:=zRb p i 4 each h;have hm:=(zKS i each).1;rw[hx]at hm;have h4:(i.count 4 each).2=j:=by have:=congrArg Prod.snd hx;exact this
 rw[hm,h4]at h2;exact h2
theorem p_text(p:Nat)(i j:InS)(s:Bs)(hx:i.text=(s,j))(h:St W0 w K (.inp p i::L)):
 Calls Tryz.prog 78 #[zAu p] w fun en w'=>en=.returned (.string (bb s))∧St W0 w' K (.inp p j::L):=by
 have h2:=zPB p i h;rw[hx]at h2;exact h2
theorem zH8:zEd Tryz.prog 68 (.agg #[.int .i64 0,.slice none 0 0]) 2 32:=zBT (by kernel_rfl) rfl dD
theorem St.freezeParts{v:Value}{T:TypeId}{l:List PartR}(h:St W0 w K (.row v T 2 l.length (l.flatMap zG4)::L))(ht:∀x∈l,K.has (Know.bats (.slice x.q x.l.length x.cap) x.l)):St W0 w (K.and (Know.pparts v l)) L:=by
 have hf:=h.freezeRow (R:=zOa) (fun x _=>⟨rfl,rfl⟩);exact hf.know (K':=K.and (Know.pparts v l)) (fun w F hh=>⟨hh.1,hh.2,fun x hx=>ht x hx _ _ hh.1⟩)
theorem zMF{s:Bs}{b:BatS}{n:Nat}(h:zBd s=.ok (b,n))(hs:s.length≤1000000)(x:BatR)(hb:x.b=b)(hl:x.l.map (·.1)=x.b.recs):CkR x:=by
 obtain⟨y,hy,_,hn,ha⟩:=zBI h;obtain⟨_,_,_,_,_,r6⟩:=zAT hy;obtain⟨_,_,rs,hu,_,hbb⟩:=zHu ha;have hr:b.recs=rs:=by rw[hbb]
 have hf:b.first=y.first:=by rw[hbb]
 have hrl:(((s.drop 61).take (y.len - 49).toNat)).length≤1000000:=by rw[List.length_take,List.length_drop];omega
 obtain⟨f1,f2⟩:=zEe (l:=x.l) hu (by rw[hl,hb,hr]) hrl;exact⟨hl,by rw[hb,hf];exact r6,f1,f2⟩
def BsOk (M:Nat) (l:List BatS):Prop:=l.length≤M∧∀b∈l,∃t n,zBd t=.ok (b,n)∧t.length≤M
def PpOk (M:Nat) (x:Int×List BatS):Prop:=BsOk M x.2
def PtOk (M:Nat) (x:Bs×List (Int×List BatS)):Prop:=x.1.length≤M∧x.2.length≤M∧∀y∈x.2,PpOk M y
theorem zM2{M:Nat}:∀(f:Nat) (s:Bs) (l:List BatS),zC8 f s=.ok l→s.length≤M→61*l.length≤s.length∧∀b∈l,∃t n,zBd t=.ok (b,n)∧t.length≤M
 |0,s,l,h,_=>by
  have h:Except.ok []=Except.ok l:=h;injection h with h;subst h;exact⟨Nat.zero_le _,fun b hb=>by cases hb⟩
 |f+1,s,l,h,hs=>by
  have h:(if s=[]then Except.ok []else match zBd s with
   | .error e=>Except.error e
   | .ok y=>zEG y.1 (zC8 f (s.drop y.2)))=.ok l:=h
  by_cases c:s=[]
  ·rw[if_pos c]at h;injection h with h;subst h;exact⟨Nat.zero_le _,fun b hb=>by cases hb⟩
  ·rw[if_neg c]at h
   cases hr:zBd s with
   |error e=>rw[hr]at h;cases h
   |ok y=>
    obtain⟨b,n⟩:=y;rw[hr]at h;have h:zEG b (zC8 f (s.drop n))=.ok l:=h;obtain⟨x,_,hn,hl,_⟩:=zBI hr
    cases ht:zC8 f (s.drop n)with
    |error e=>rw[ht]at h;cases h
    |ok t=>
     rw[ht]at h;have h:Except.ok (b::t)=Except.ok l:=h;injection h with h;subst h;obtain⟨g1,g2⟩:=zM2 (M:=M) f (s.drop n) t ht (by rw[List.length_drop];omega);rw[List.length_drop]at g1;refine⟨by rw[List.length_cons];omega,fun z hz=> ?_⟩
     rcases List.mem_cons.1 hz with hz|hz
     ·subst hz;exact⟨s,n,hr,hs⟩
     ·exact g2 z hz
theorem zQd{M:Nat}(i:InS)(hd:i.s.length≤M):PpOk M i.ppart.1:=by
 have h1:=zCY i;unfold InS.ppart;simp only
 split
 ·rename_i l hl
  obtain⟨g1,g2⟩:=zM2 (M:=M) _ _ l hl oM;exact⟨by show l.length≤M;omega,g2⟩
 ·exact⟨Nat.zero_le _,fun b hb=>by cases hb⟩
theorem zHX{M:Nat}:∀(n:Nat) (acc:List (Int×List BatS)) (i:InS),i.s.length≤M→(∀x∈acc,PpOk M x)→(InS.ppartsN n acc i).1.length≤acc.length+n∧∀x∈(InS.ppartsN n acc i).1,PpOk M x
  |0,acc,i,_,ha=>⟨Nat.le_refl _,ha⟩
  |n+1,acc,i,hd,ha=>by
    show(if i.ppart.2.err=0 then InS.ppartsN n (acc++[i.ppart.1]) i.ppart.2 else([],i.ppart.2)).1.length≤acc.length+(n+1)∧∀x∈(if i.ppart.2.err=0 then InS.ppartsN n (acc++[i.ppart.1]) i.ppart.2 else([],i.ppart.2)).1,PpOk M x
    split
    · obtain⟨g1,g2⟩:=zHX n (acc++[i.ppart.1]) i.ppart.2 (by rw[zEs];exact hd) (fun x hx=>by
        rcases List.mem_append.1 hx with hx|hx
        · exact ha x hx
        · rw[List.mem_singleton.1 hx];exact zQd i hd)
      rw[List.length_append,List.length_singleton]at g1;exact⟨oM,g2⟩
    · exact⟨Nat.zero_le _,fun x hx=>by cases hx⟩
theorem zJa(i:InS)(each:Nat)(he:1≤each):(i.cnt each).1≤i.s.length:=by
 unfold InS.cnt InS.count;simp only
 split
 ·exact Nat.zero_le _
 ·split
  ·exact Nat.zero_le _
  ·rename_i h1 h2
   have h3:(i.int 4).1≤(((i.int 4).2.left:Nat):Int) / each:=by omega
   have h4:(((i.int 4).2.left:Nat):Int) / each≤((i.int 4).2.left:Nat):=Int.ediv_le_self _ oM;have h5:(i.int 4).2.left≤i.s.length:=by unfold InS.left;rw[zB2];omega
   omega
theorem zRu{M:Nat}(i:InS)(hd:i.s.length≤M):PtOk M i.ptop.1:=by
 have h0:i.text.1.length≤i.s.length:=(zBr i 2).2;have h1:=zJa i.text.2 8 dD;have h2:=zFj i.text.2 8;rw[zIj]at h1 h2;obtain⟨g1,g2⟩:=zHX (i.text.2.cnt 8).1 [] (i.text.2.cnt 8).2 (by rw[h2];exact hd) (fun x hx=>by cases hx);rw[List.length_nil]at g1;exact⟨by show i.text.1.length≤M;omega,by show(InS.ppartsN (i.text.2.cnt 8).1 [] (i.text.2.cnt 8).2).1.length≤M;omega,g2⟩
def PTop.pt (x:PTop):Bs×List (Int×List BatS):=(x.name,x.l.map PartR.pb)
theorem zPw{M:Nat}(hM:M≤1000000)(x:PTop)(h:PtOk M x.pt)(hm:∀y∈x.l,∀z∈y.l,z.l.map (·.1)=z.b.recs):CkT x:=by
 obtain⟨h1,h2,h3⟩:=h;have h2:(x.l.map PartR.pb).length≤M:=h2;rw[List.length_map]at h2;have h1:x.name.length≤M:=h1;refine⟨oM,oM,fun y hy=> ?_⟩;obtain⟨g1,g2⟩:=h3 y.pb (List.mem_map_of_mem hy);have g1:(y.l.map BatR.b).length≤M:=g1;rw[List.length_map]at g1;refine⟨oM,fun z hz=> ?_⟩;obtain⟨t,n,hr,ht⟩:=g2 z.b (List.mem_map_of_mem hz);exact zMF hr oM z rfl (hm y hy z hz)
def InS.ptopsN:Nat→List (Bs×List (Int×List BatS))→InS→List (Bs×List (Int×List BatS))×InS
 |0,acc,i=>(acc,i)
 |n+1,acc,i=>if i.ptop.2.err=0 then InS.ptopsN n (acc++[i.ptop.1]) i.ptop.2 else([],i.ptop.2)
theorem zEp{M:Nat}:∀(n:Nat) (acc:List (Bs×List (Int×List BatS))) (i:InS),i.s.length≤M→(∀x∈acc,PtOk M x)→(InS.ptopsN n acc i).1.length≤acc.length+n∧∀x∈(InS.ptopsN n acc i).1,PtOk M x
  |0,acc,i,_,ha=>⟨Nat.le_refl _,ha⟩
  |n+1,acc,i,hd,ha=>by
    show(if i.ptop.2.err=0 then InS.ptopsN n (acc++[i.ptop.1]) i.ptop.2 else([],i.ptop.2)).1.length≤acc.length+(n+1)∧∀x∈(if i.ptop.2.err=0 then InS.ptopsN n (acc++[i.ptop.1]) i.ptop.2 else([],i.ptop.2)).1,PtOk M x
    split
    · obtain⟨g1,g2⟩:=zEp n (acc++[i.ptop.1]) i.ptop.2 (by rw[zMH];exact hd) (fun x hx=>by
        rcases List.mem_append.1 hx with hx|hx
        · exact ha x hx
        · rw[List.mem_singleton.1 hx];exact zRu i hd)
      rw[List.length_append,List.length_singleton]at g1;exact⟨oM,g2⟩
    · exact⟨Nat.zero_le _,fun x hx=>by cases hx⟩
theorem zKL:zEd Tryz.prog 65 (.agg #[.string ⟨#[]⟩,.slice none 0 0]) 2 40:=zBT (by kernel_rfl) rfl dD
theorem St.freezeTopsP{W0 w:World}{K:Know}{L:List Res}{v:Value}{T:TypeId}{l:List PTop}(h:St W0 w K (.row v T 2 l.length (l.flatMap zCE)::L))(ht:∀x∈l,K.has (Know.pparts (.slice x.q x.l.length x.cap) x.l)):St W0 w (K.and (Know.ptops v l)) L:=by
 have hf:=h.freezeRow (R:=zOb) (fun x _=>⟨rfl,rfl⟩);exact hf.know (K':=K.and (Know.ptops v l)) (fun w F hh=>⟨hh.1,hh.2,fun x hx=>ht x hx _ _ hh.1⟩)
abbrev zCf:=Int×List BatS
abbrev TopV:=Bs×List zCf
theorem zM3:∀(f:Nat) (s:Bs) (e:Int),zC8 f s=.error e→e≠0
 |0,s,e,h=>by cases h
 |f+1,s,e,h=>by
  have h:(if s=[]then Except.ok []else match zBd s with
   | .error e=>Except.error e
   | .ok y=>zEG y.1 (zC8 f (s.drop y.2)))=.error e:=h
  by_cases c:s=[]
  ·rw[if_pos c]at h;cases h
  ·rw[if_neg c]at h
   cases hr:zBd s with
   |error e2=>rw[hr]at h;cases h;exact zFU hr
   |ok y=>
    rw[hr]at h;have h:zEG y.1 (zC8 f (s.drop y.2))=.error e:=h
    cases ht:zC8 f (s.drop y.2)with
    |error e2=>rw[ht]at h;have h:Except.error e2=Except.error e:=h;cases h;exact zM3 f _ e ht
    |ok t=>rw[ht]at h;cases h
theorem zQH{s:Bs}{e:Int}(h:zBk s=.error e):e≠0:=zM3 _ _ _ h
def zBC (s:Bs):Except Int (zCf×Nat):=
  if s.length<4 then .error 1 else match zAk 4 (s.drop 4)with
  | .error e=> .error e
  | .ok x=>if x.1.null then .error 4 else match zBk x.1.data with
    | .error e=> .error e
    | .ok l=> .ok ((sInt (s.take 4),l),4+x.2)
def zAY:Nat→Bs→Except Int (List zCf×Nat)
  |0,_=> .ok ([],0)
  |n+1,s=>match zBC s with
    | .error e=> .error e
    | .ok x=>match zAY n (s.drop x.2)with
      | .error e=> .error e
      | .ok y=> .ok (x.1::y.1,x.2+y.2)
def zCD (s:Bs):Except Int (TopV×Nat):=match zD0 s with
  | .error e=> .error e
  | .ok x=>match cntP 8 (s.drop x.2)with
    | .error e=> .error e
    | .ok n=>match zAY n.1 (s.drop (x.2+4))with
      | .error e=> .error e
      | .ok y=> .ok ((x.1,y.1),x.2+4+y.2)
def zBN:Nat→Bs→Except Int (List TopV×Nat)
  |0,_=> .ok ([],0)
  |n+1,s=>match zCD s with
    | .error e=> .error e
    | .ok x=>match zBN n (s.drop x.2)with
      | .error e=> .error e
      | .ok y=> .ok (x.1::y.1,x.2+y.2)
def zB1 (s:Bs):Except Int ((BlobS×Int×Int×List TopV)×Nat):=match zAk 2 s with
  | .error e=> .error e
  | .ok b=>if (s.drop b.2).length<6 then .error 1 else match cntP 6 (s.drop (b.2+6))with
    | .error e=> .error e
    | .ok n=>match zBN n.1 (s.drop (b.2+10))with
      | .error e=> .error e
      | .ok y=> .ok ((b.1,sInt ((s.drop b.2).take 2),sInt ((s.drop (b.2+2)).take 4),y.1),b.2+10+y.2)
theorem zIs{k:Nat}{s:Bs}{x:BlobS×Nat}(h:zAk k s=.ok x)(hn:x.1.null=true):x.1.data=[]:=by
 exact zq40
theorem zQX{s:Bs}{pos:Nat}{x:zCf}{m:Nat}(hp:pos≤s.length)(h:zBC (s.drop pos)=.ok (x,m)):pos+m≤s.length∧(⟨s,pos,0⟩:InS).ppart=(x,⟨s,pos+m,0⟩):=by
 unfold zBC at h
 by_cases h4:(s.drop pos).length<4
 ·rw[if_pos h4]at h;cases h
 rw[if_neg h4]at h;obtain⟨g1,g2⟩:=zIY s pos hp oM;rw[List.drop_drop]at h
 cases hr:zAk 4 (s.drop (pos+4))with
 |error e=>rw[hr]at h;cases h
 |ok b=>
  rw[hr]at h;obtain⟨g3,g4⟩:=(zA3 4 dD dD).ok s (pos+4) b.1 b.2 g1 hr;have g4:(⟨s,pos+4,0⟩:InS).fixed 4=(b.1,⟨s,pos+4+b.2,0⟩):=g4
  (try simp only at h)
  cases hn:b.1.null with
  |true=>rw[hn,if_pos rfl]at h;cases h
  |false=>
   rw[hn,if_neg dD]at h
   cases hb:zBk b.1.data with
   |error e=>rw[hb]at h;cases h
   |ok l=>
    rw[hb]at h
    cases h
    refine⟨oM,?_⟩;unfold InS.ppart;simp only[g2,g4,hn,hb];rw[Nat.add_assoc]
    rfl
theorem zQW{s:Bs}{pos:Nat}{e:Int}(hp:pos≤s.length)(h:zBC (s.drop pos)=.error e):e≠0∧∃q,q≤s.length∧(⟨s,pos,0⟩:InS).ppart.2=⟨s,q,e⟩:=by
 unfold zBC at h
 by_cases h4:(s.drop pos).length<4
 ·rw[if_pos h4]at h
  cases h
  obtain⟨q,g1,g2⟩:=zH5 s pos hp h4;have g3:(⟨s,q,1⟩:InS).fixed 4=(⟨false,[]⟩,⟨s,q,1⟩):=(zA3 4 dD dD).stuck ⟨s,q,1⟩ (by show(1:Int)≠0;decide);refine⟨dD,q,g1,?_⟩;unfold InS.ppart;simp only[g2,g3,zC7]
  rfl
 rw[if_neg h4]at h;obtain⟨g1,g2⟩:=zIY s pos hp oM;rw[List.drop_drop]at h
 cases hr:zAk 4 (s.drop (pos+4))with
 |error e2=>
  rw[hr]at h
  cases h
  obtain⟨g3,q,g4,g5⟩:=(zA3 4 dD dD).err s (pos+4) e g1 hr;refine⟨g3,q,g4,?_⟩;have g5:(⟨s,pos+4,0⟩:InS).fixed 4=(⟨false,[]⟩,⟨s,q,e⟩):=g5;unfold InS.ppart;simp only[g2,g5,zC7]
  rfl
 |ok b=>
  rw[hr]at h;obtain⟨g3,g4⟩:=(zA3 4 dD dD).ok s (pos+4) b.1 b.2 g1 hr;have g4:(⟨s,pos+4,0⟩:InS).fixed 4=(b.1,⟨s,pos+4+b.2,0⟩):=g4
  (try simp only at h)
  cases hn:b.1.null with
  |true=>
   rw[hn,if_pos rfl]at h
   cases h
   refine⟨dD,pos+4+b.2,g3,?_⟩;unfold InS.ppart;simp only[g2,g4,hn,if_true,zIs hr hn,zC7]
   rfl
  |false=>
   rw[hn,if_neg dD]at h
   cases hb:zBk b.1.data with
   |error e2=>
    rw[hb]at h
    cases h
    refine⟨zQH hb,pos+4+b.2,g3,?_⟩;unfold InS.ppart;simp only[g2,g4,hn,hb]
    rfl
   |ok l=>rw[hb]at h;cases h
theorem zE9:∀(n:Nat) (acc:List zCf) (s:Bs) (pos:Nat),pos≤s.length→
 (∀t k,zAY n (s.drop pos)=.ok (t,k)→pos+k≤s.length∧InS.ppartsN n acc ⟨s,pos,0⟩=(acc++t,⟨s,pos+k,0⟩))∧
 (∀e,zAY n (s.drop pos)=.error e→e≠0∧∃q,q≤s.length∧InS.ppartsN n acc ⟨s,pos,0⟩=([],⟨s,q,e⟩))
 |0,acc,s,pos,hp=>⟨fun t k h=>(by cases h;simp[InS.ppartsN];exact hp),fun e h=>(by cases h)⟩
 |n+1,acc,s,pos,hp=>by
  unfold zAY InS.ppartsN
  cases h1:zBC (s.drop pos)with
  |error e1=>
   refine⟨fun t k h=>(by cases h),fun e h=> ?_⟩
   cases h
   obtain⟨g1,q,g2,g3⟩:=zQW hp h1;refine⟨g1,q,g2,?_⟩;rw[g3,if_neg g1]
  |ok x=>
   obtain⟨g1,g2⟩:=zQX hp h1;have ih:=zE9 n (acc++[x.1]) s (pos+x.2) g1;rw[g2];simp only[if_true];rw[List.drop_drop];refine⟨fun t k h=> ?_,fun e h=> ?_⟩
   ·cases h2:zAY n (s.drop (pos+x.2))with
    |error e2=>rw[h2]at h;cases h
    |ok y=>
     exact zq35
   ·cases h2:zAY n (s.drop (pos+x.2))with
    |error e2=>
     rw[h2]at h
     cases h
     exact ih.2 e h2
    |ok y=>rw[h2]at h;cases h
theorem ptopA{s:Bs}{pos:Nat}{x:TopV}{m:Nat}(hp:pos≤s.length)(h:zCD (s.drop pos)=.ok (x,m)):pos+m≤s.length∧(⟨s,pos,0⟩:InS).ptop=(x,⟨s,pos+m,0⟩):=by
 unfold zCD at h
 cases h1:zD0 (s.drop pos)with
 |error e1=>rw[h1]at h;cases h
 |ok t=>
  rw[h1]at h;obtain⟨g1,g2⟩:=zIH.ok s pos t.1 t.2 hp h1;simp only[List.drop_drop]at h
  cases h2:cntP 8 (s.drop (pos+t.2))with
  |error e2=>rw[h2]at h;cases h
  |ok c=>
   rw[h2]at h;obtain⟨g3,g4⟩:=(zCP 8 dD).ok s (pos+t.2) c.1 c.2 g1 h2;obtain⟨c1,_,_,_⟩:=zFk dD h2;have g4:(⟨s,pos+t.2,0⟩:InS).cnt 8=(c.1,⟨s,pos+t.2+c.2,0⟩):=g4
   (try simp only at h)
   rw[c1]at g3 g4
   cases h3:zAY c.1 (s.drop (pos+(t.2+4)))with
   |error e3=>rw[h3]at h;cases h
   |ok y=>
    rw[h3]at h
    cases h
    rw[←Nat.add_assoc]at h3;obtain⟨a,b⟩:=(zE9 c.1 [] s (pos+t.2+4) g3).1 y.1 y.2 h3;refine⟨oM,?_⟩;unfold InS.ptop;rw[g2];simp only[g4,b,List.nil_append];rw[show pos+(t.2+4+y.2)=pos+t.2+4+y.2 by omega]
theorem ptopB{s:Bs}{pos:Nat}{e:Int}(hp:pos≤s.length)(h:zCD (s.drop pos)=.error e):e≠0∧∃q,q≤s.length∧(⟨s,pos,0⟩:InS).ptop.2=⟨s,q,e⟩:=by
 unfold zCD at h
 cases h1:zD0 (s.drop pos)with
 |error e1=>
  rw[h1]at h
  cases h
  obtain⟨g1,q,g2,g3⟩:=zIH.err s pos e hp h1;have g4:(⟨s,q,e⟩:InS).cnt 8=(0,⟨s,q,e⟩):=(zCP 8 dD).stuck ⟨s,q,e⟩ g1;refine⟨g1,q,g2,?_⟩;unfold InS.ptop;rw[g3];simp only[g4]
  rfl
 |ok t=>
  rw[h1]at h;obtain⟨g1,g2⟩:=zIH.ok s pos t.1 t.2 hp h1;simp only[List.drop_drop]at h
  cases h2:cntP 8 (s.drop (pos+t.2))with
  |error e2=>
   rw[h2]at h
   cases h
   obtain⟨g3,q,g4,g5⟩:=(zCP 8 dD).err s (pos+t.2) e g1 h2;have g5:(⟨s,pos+t.2,0⟩:InS).cnt 8=(0,⟨s,q,e⟩):=g5;refine⟨g3,q,g4,?_⟩;unfold InS.ptop;rw[g2];simp only[g5]
   rfl
  |ok c=>
   rw[h2]at h;obtain⟨g3,g4⟩:=(zCP 8 dD).ok s (pos+t.2) c.1 c.2 g1 h2;obtain⟨c1,_,_,_⟩:=zFk dD h2;have g4:(⟨s,pos+t.2,0⟩:InS).cnt 8=(c.1,⟨s,pos+t.2+c.2,0⟩):=g4
   (try simp only at h)
   rw[c1]at g3 g4
   cases h3:zAY c.1 (s.drop (pos+(t.2+4)))with
   |error e3=>
    rw[h3]at h
    cases h
    rw[←Nat.add_assoc]at h3;obtain⟨g5,q,g6,g7⟩:=(zE9 c.1 [] s (pos+t.2+4) g3).2 e h3;refine⟨g5,q,g6,?_⟩;unfold InS.ptop;rw[g2];simp only[g4,g7]
   |ok y=>rw[h3]at h;cases h
theorem zEq:∀(n:Nat) (acc:List TopV) (s:Bs) (pos:Nat),pos≤s.length→
 (∀t k,zBN n (s.drop pos)=.ok (t,k)→pos+k≤s.length∧InS.ptopsN n acc ⟨s,pos,0⟩=(acc++t,⟨s,pos+k,0⟩))∧
 (∀e,zBN n (s.drop pos)=.error e→e≠0∧∃q,q≤s.length∧InS.ptopsN n acc ⟨s,pos,0⟩=([],⟨s,q,e⟩))
 |0,acc,s,pos,hp=>⟨fun t k h=>(by cases h;simp[InS.ptopsN];exact hp),fun e h=>(by cases h)⟩
 |n+1,acc,s,pos,hp=>by
  unfold zBN InS.ptopsN
  cases h1:zCD (s.drop pos)with
  |error e1=>
   refine⟨fun t k h=>(by cases h),fun e h=> ?_⟩
   cases h
   obtain⟨g1,q,g2,g3⟩:=ptopB hp h1;refine⟨g1,q,g2,?_⟩;rw[g3,if_neg g1]
  |ok x=>
   obtain⟨g1,g2⟩:=ptopA hp h1;have ih:=zEq n (acc++[x.1]) s (pos+x.2) g1;rw[g2];simp only[if_true];rw[List.drop_drop];refine⟨fun t k h=> ?_,fun e h=> ?_⟩
   ·cases h2:zBN n (s.drop (pos+x.2))with
    |error e2=>rw[h2]at h;cases h
    |ok y=>
     exact zq35
   ·cases h2:zBN n (s.drop (pos+x.2))with
    |error e2=>
     rw[h2]at h
     cases h
     exact ih.2 e h2
    |ok y=>rw[h2]at h;cases h
def ReqI (i:InS) (b:BlobS) (ac tm:Int) (ts:List TopV) (j:InS):Prop:=
 ∃(i1 i2 i3 c:InS) (n:Nat),i.fixed 2=(b,i1)∧i1.int 2=(ac,i2)∧i2.int 4=(tm,i3)∧i3.cnt 6=(n,c)∧InS.ptopsN n [] c=(ts,j)
theorem zLL{s:Bs}{b:BlobS}{ac tm:Int}{ts:List TopV}{m:Nat}(h:zB1 s=.ok ((b,ac,tm,ts),m)):m≤s.length∧ReqI ⟨s,0,0⟩ b ac tm ts ⟨s,m,0⟩:=by
 unfold zB1 at h
 cases h1:zAk 2 s with
 |error e=>rw[h1]at h;cases h
 |ok x=>
  rw[h1]at h;obtain⟨g1,g2⟩:=(zA3 2 dD dD).ok s 0 x.1 x.2 (Nat.zero_le _) (by rw[List.drop_zero];exact h1);have g2:(⟨s,0,0⟩:InS).fixed 2=(x.1,⟨s,0+x.2,0⟩):=g2;simp only[Nat.zero_add]at g1 g2
  (try simp only at h)
  by_cases h6:(s.drop x.2).length<6
  ·rw[if_pos h6]at h;cases h
  rw[if_neg h6]at h;have h6l:=h6;rw[List.length_drop]at h6l;have g3:=zD6 2 dD dD s x.2 oM;have g4:=zD6 4 dD dD s (x.2+2) oM
  cases h2:cntP 6 (s.drop (x.2+6))with
  |error e=>rw[h2]at h;cases h
  |ok c=>
   rw[h2]at h;obtain⟨g5,g6⟩:=(zCP 6 dD).ok s (x.2+6) c.1 c.2 oM h2;obtain⟨c1,_,_,_⟩:=zFk dD h2;have g6:(⟨s,x.2+6,0⟩:InS).cnt 6=(c.1,⟨s,x.2+6+c.2,0⟩):=g6
   (try simp only at h)
   rw[c1]at g5 g6
   cases h3:zBN c.1 (s.drop (x.2+10))with
   |error e=>rw[h3]at h;cases h
   |ok y=>
    rw[h3]at h;obtain⟨a,d⟩:=(zEq c.1 [] s (x.2+6+4) g5).1 y.1 y.2 h3
    cases h
    refine⟨oM,_,_,_,_,c.1,g2,g3,g4,g6,?_⟩;rw[d,List.nil_append]
theorem zMI{s:Bs}{e:Int}(h:zB1 s=.error e):e≠0∧∃b ac tm ts q,q≤s.length∧ReqI ⟨s,0,0⟩ b ac tm ts ⟨s,q,e⟩:=by
 unfold zB1 at h
 cases h1:zAk 2 s with
 |error e1=>
  rw[h1]at h
  cases h
  obtain⟨g1,q,g2,g3⟩:=(zA3 2 dD dD).err s 0 e (Nat.zero_le _) (by rw[List.drop_zero];exact h1);have s1:=(zBl 2 dD dD).stuck ⟨s,q,e⟩ g1;have s2:=(zBl 4 dD dD).stuck ⟨s,q,e⟩ g1;have s3:=(zCP 6 dD).stuck ⟨s,q,e⟩ g1;exact⟨g1,_,_,_,_,q,g2,_,_,_,_,0,g3,s1,s2,s3,rfl⟩
 |ok x=>
  rw[h1]at h;obtain⟨g1,g2⟩:=(zA3 2 dD dD).ok s 0 x.1 x.2 (Nat.zero_le _) (by rw[List.drop_zero];exact h1);have g2:(⟨s,0,0⟩:InS).fixed 2=(x.1,⟨s,0+x.2,0⟩):=g2;simp only[Nat.zero_add]at g1 g2
  (try simp only at h)
  by_cases h6:(s.drop x.2).length<6
  ·rw[if_pos h6]at h
   cases h
   rw[List.length_drop]at h6
   by_cases h22:x.2+2≤s.length
   ·have g3:=zD6 2 dD dD s x.2 h22;obtain⟨q,q1,g4⟩:=zFb 4 dD dD s (x.2+2) h22 oM;have s3:=(zCP 6 dD).stuck ⟨s,q,1⟩ (by show(1:Int)≠0;decide);exact⟨dD,_,_,_,_,q,q1,_,_,_,_,0,g2,g3,g4,s3,rfl⟩
   ·obtain⟨q,q1,g3⟩:=zFb 2 dD dD s x.2 g1 oM;have s2:=(zBl 4 dD dD).stuck ⟨s,q,1⟩ (by show(1:Int)≠0;decide);have s3:=(zCP 6 dD).stuck ⟨s,q,1⟩ (by show(1:Int)≠0;decide);exact⟨dD,_,_,_,_,q,q1,_,_,_,_,0,g2,g3,s2,s3,rfl⟩
  rw[if_neg h6]at h;have h6l:=h6;rw[List.length_drop]at h6l;have g3:=zD6 2 dD dD s x.2 oM;have g4:=zD6 4 dD dD s (x.2+2) oM
  cases h2:cntP 6 (s.drop (x.2+6))with
  |error e1=>
   rw[h2]at h
   cases h
   obtain⟨g5,q,g6,g7⟩:=(zCP 6 dD).err s (x.2+6) e oM h2;exact⟨g5,_,_,_,_,q,g6,_,_,_,_,0,g2,g3,g4,g7,rfl⟩
  |ok c=>
   rw[h2]at h;obtain⟨g5,g6⟩:=(zCP 6 dD).ok s (x.2+6) c.1 c.2 oM h2;obtain⟨c1,_,_,_⟩:=zFk dD h2;have g6:(⟨s,x.2+6,0⟩:InS).cnt 6=(c.1,⟨s,x.2+6+c.2,0⟩):=g6
   (try simp only at h)
   rw[c1]at g5 g6
   cases h3:zBN c.1 (s.drop (x.2+10))with
   |error e1=>
    rw[h3]at h
    cases h
    obtain⟨a,q,d1,d2⟩:=(zEq c.1 [] s (x.2+6+4) g5).2 e h3;exact⟨a,_,_,_,_,q,d1,_,_,_,_,c.1,g2,g3,g4,g6,d2⟩
   |ok y=>rw[h3]at h;cases h
def BatS.rr (b:BatS):BatR:=⟨b,[],none,0⟩
def zRx (x:zCf):PartR:=⟨x.1,x.2.map BatS.rr,none,0⟩
def topU (x:TopV):PTop:=⟨x.1,x.2.map zRx,none,0⟩
theorem zQ5{α β:Type}(f:α→β)(g:β→α)(h:∀x,g (f x)=x)(l:List α):(l.map f).map g=l:=by
 induction l with
 |nil=>rfl
 |cons a t ih=>simp only[List.map_cons,h,ih]
theorem zQ7(ts:List TopV):(ts.map topU).map PTop.pt=ts:=zQ5 topU PTop.pt (fun x=>by
 show(x.1,(x.2.map zRx).map PartR.pb)=x
 rw[zQ5 zRx PartR.pb (fun y=>by
  show(y.1,(y.2.map BatS.rr).map BatR.b)=y
  rw[zQ5 BatS.rr BatR.b (fun _=>rfl)])]) ts
theorem zNK{s:Bs}{x:zCf×Nat}(h:zBC s=.ok x): -2147483648≤x.1.1∧x.1.1<2147483648:=by
 unfold zBC at h
 split at h
 ·cases h
 ·split at h
  ·cases h
  ·split at h
   ·cases h
   ·split at h
    ·cases h
    ·cases h
     exact zBX _ (by rw[List.length_take];omega)
theorem zHZ:∀(n:Nat) (s:Bs) (y:List zCf×Nat),zAY n s=.ok y→∀x∈y.1,-2147483648≤x.1∧x.1<2147483648
 |0,_,_,h=>by cases h;intro x hx;cases hx
 |n+1,s,y,h=>by
  unfold zAY at h
  split at h
  ·cases h
  ·rename_i z hz
   split at h
   ·cases h
   ·rename_i u hu
    cases h
    intro x hx
    rcases List.mem_cons.1 hx with rfl|hx
    ·exact zNK hz
    ·exact zHZ n _ u hu x hx
theorem zKe:∀(n:Nat) (s:Bs) (y:List TopV×Nat),zBN n s=.ok y→∀t∈y.1,∀x∈t.2,-2147483648≤x.1∧x.1<2147483648
 |0,_,_,h=>by cases h;intro x hx;cases hx
 |n+1,s,y,h=>by
  unfold zBN at h
  split at h
  ·cases h
  ·rename_i z hz
   split at h
   ·cases h
   ·rename_i u hu
    cases h
    intro t ht
    rcases List.mem_cons.1 ht with rfl|ht
    ·unfold zCD at hz
     split at hz
     ·cases hz
     ·split at hz
      ·cases hz
      ·split at hz
       ·cases hz
       ·rename_i w hw
        cases hz
        exact zHZ _ _ w hw
    ·exact zKe n _ u hu t ht
theorem zOR{s:Bs}{x:(BlobS×Int×Int×List TopV)×Nat}(h:zB1 s=.ok x):∀t∈x.1.2.2.2,∀y∈t.2,-2147483648≤y.1∧y.1<2147483648:=by
 unfold zB1 at h
 split at h
 ·cases h
 ·split at h
  ·cases h
  ·split at h
   ·cases h
   ·split at h
    ·cases h
    ·rename_i y hy
     cases h
     exact zKe _ _ y hy
set_option maxHeartbeats 8000000
theorem zP2(po:Nat)(e e2:Bs)(idx:Int)(l:List BatR)(q:Option Addr)(cap:Nat)(hp:PutP ⟨idx,l,q,cap⟩)(he:e++zAL ⟨idx,l,q,cap⟩=e2)(hel:e.length≤10000000){W0 w:World}{K:Know}{L:List Res}(hk:K.has (Know.bats (.slice q l.length cap) l))(h:St W0 w K (.out po ⟨e,0⟩::L)):
 Calls Tryz.prog 34 #[zAO po,.agg #[.int .i64 idx,.slice q l.length cap]] w fun en w'=>en=.returned (.tuple #[])∧St W0 w' K (.out po ⟨e2,0⟩::L):=by
 obtain⟨rb,hrb⟩:∃b,w.heap.size=b:=⟨_,rfl⟩;have g1:=(h.allocRaw #[.int .i64 idx,.slice q l.length cap] 68).p1;rw[hrb]at g1;obtain⟨y0,y1⟩:=uR2 g1.p1;simp at y0 y1;obtain⟨s,hs⟩:∃s,encB l=s:=⟨_,rfl⟩;obtain⟨e1,he1⟩:∃x,e++zAd idx (4:Int).toNat=x:=⟨_,rfl⟩;have hsl:s.length≤280000:=by rw[←hs];exact hp.len
 have H:=hQd g1;have HK:=hQd hk;have HSE:=hQd (show allB l=(s,0) by rw[zPL hp.err,hs]);have HFT:=hQd (show ∀x∈l,x.Fit from hp.fit);have HSM:=hQd (show ∀x∈l,zCy (x.l.map (·.1))=true from hp.small);have HLL:=hQd (show l.length≤20 from hp.few);have HE1:=hQd he1;have HF4:=hQd (zKk idx (by have h1:0≤idx∧idx≤2147483647:=hp.idx;omega));have HR8:=hQd (show -9223372036854775808≤idx∧idx<9223372036854775808 by have h1:0≤idx∧idx≤2147483647:=hp.idx;omega);have HL0:=hQd (show e.length≤100000000000000 by omega);have HL1:=hQd (show e1.length≤100000000000000 by rw[←he1,List.length_append,zAg];show e.length+4≤_;omega)
 have HE2:=hQd (show e1++encF 4 ⟨false,s⟩=e2 by
  rw[←he1,←he,List.append_assoc,←hs]
  rfl)
 have HSL:=hQd (show s.length≤100000000 by omega);clear h g1 hk hp he he1 hel hs hsl;go_enter Tryz.func34,Tryz.ntmps34
 go_wp2_with (first
  |(go_at_call 25;clear y0 y1;(with_reducible refine(zRW l q cap s 0 HSE.out HFT.out HSM.out HLL.out HK.out H.out).mono ?_);rintro e_ wn ⟨rfl,h⟩;obtain⟨y0,y1⟩:=uR2 h.p1;simp at y0 y1;replace H:=hQd h;clear h)
  |(go_at_call 32;(with_reducible refine(zGO po e e1 idx 4 HE1.out HF4.out HR8.out HL0.out H.out).zM ?_);clear H;intro wn H)
  |(go_at_call 68;(with_reducible refine(zQe s H.out).zM ?_);clear H;intro wn H)
  |(go_at_call 31;(with_reducible refine(zKl po e1 e2 s HE2.out HSL.out HL1.out H.out).zM ?_);clear H;intro wn H))
 go_end0;exact⟨rfl,H.out.p1.drop⟩
variable {W0 w:World}{K:Know}{L:List Res}
theorem zH0(l:List PartR)(q:Option Addr)(cap:Nat)(r:Bool)(hr:zBL (-1) l=r)(hll:l.length≤4398046511104)(hk:K.has (Know.pparts (.slice q l.length cap) l))(h:St W0 w K L):
 Calls Tryz.prog 72 #[.slice q l.length cap] w fun en w'=>en=.returned (.bool r)∧St W0 w' K L:=by
 have H:=hQd h;have HK:=hQd hk;have HR:=hQd (show zBL (-1) (l.drop 0)=r by rw[List.drop_zero];exact hr);have hni:(l.length:Int)≤4398046511104:=by omega
 clear h hk hr hll;go_enter Tryz.func72,Tryz.ntmps72;go_wp2;go_loopw [3,8] (fun av iv wr=>∃(k:Nat) (a:Int),k≤l.length∧iv=.int .i64 k∧av=.int .i64 a∧Hid (zBL a (l.drop k)=r)∧St W0 wr K L) (fun _ iv _=>l.length - (intOf iv).toNat)
 case atStart=>exact⟨0,-1,Nat.zero_le _,rfl,rfl,HR,H.out⟩
 case round=>
  obtain⟨k,a,hkl,rfl,rfl,HC,hst⟩:=hrel;clear H HR;have H:=hQd hst;clear hst
  by_cases hlt:k<l.length
  ·obtain⟨bk,off,hqq⟩:=zBB HK.out H.out oM;subst hqq;obtain⟨x,hx⟩:∃x,l[k]=x:=⟨_,rfl⟩;obtain⟨c0,c1⟩:=zAW HK.out H.out k hlt x hx;have hc:=HC.out;rw[List.drop_eq_getElem_cons hlt,hx,zDK]at hc;have hkn:(k:Int)<(l.length:Int):=by omega
   obtain⟨i,hi⟩:∃i,x.idx=i:=⟨_,rfl⟩;rw[hi]at c0 hc
   by_cases c2:a<i
   ·have d1:decide (i≤a)=false:=decide_eq_false oM
    by_cases c3:i≤2147483647
    ·have d2:decide (2147483647<i)=false:=decide_eq_false oM;rw[decide_eq_true c2,decide_eq_true c3,Bool.true_and,Bool.true_and]at hc;have HC2:=hQd hc;clear hc hx hi c2 c3;go_wp2_with fail;go_roundw
     case rel=>
      refine⟨k+1,i,hlt,by go_num,rfl,HC2,?_⟩
      first|exact H.out|exact H.out.alloc _
     case measure=>first|(simp[intOf];done)|(simp[intOf];omega)
    ·have d2:decide (2147483647<i)=true:=decide_eq_true oM;rw[decide_eq_false c3,Bool.and_false,Bool.false_and]at hc;subst hc;clear hx hi c2 c3;go_wp2_with fail;go_ret;exact⟨rfl,by first|exact H.out|exact H.out.alloc _⟩
   ·have d1:decide (i≤a)=true:=decide_eq_true oM;rw[decide_eq_false c2,Bool.false_and,Bool.false_and]at hc;subst hc;clear hx hi c2;go_wp2_with fail;go_ret;exact⟨rfl,by first|exact H.out|exact H.out.alloc _⟩
  ·obtain rfl:k=l.length:=by omega
   have hc:=HC.out;rw[List.drop_length]at hc;have hc:true=r:=hc;subst hc;go_wp2_with fail;go_ret;exact⟨rfl,H.out⟩
theorem zq47{p:Prop}(h:p:=by
 obtain rfl:k=l.length:=by omega
 have hc:=HC.out;rw[List.drop_length]at hc;have hc:0=e:=hc;subst hc;go_wp2_with fail;go_ret;exact⟨rfl,H.out⟩):p:=h
theorem zEJ(txn:Bool)(l:List BatR)(q:Option Addr)(cap:Nat)(e:Int)(he:zB5 txn l=e)(hf:∀x∈l,CkR x)(hll:l.length≤4398046511104)(hk:K.has (Know.bats (.slice q l.length cap) l))(h:St W0 w K L):
 Calls Tryz.prog 73 #[.slice q l.length cap,.bool txn] w fun en w'=>en=.returned (.int .i64 e)∧St W0 w' K L:=by
 have H:=hQd h;have HK:=hQd hk;have HF:=hQd hf;have HR:=hQd (show zB5 txn (l.drop 0)=e by rw[List.drop_zero];exact he);have hni:(l.length:Int)≤4398046511104:=by omega
 clear h hk he hll hf;go_enter Tryz.func73,Tryz.ntmps73;go_wp2;go_loopw [10] (fun iv wr=>∃(k:Nat),k≤l.length∧iv=.int .i64 k∧Hid (zB5 txn (l.drop k)=e)∧St W0 wr K L) (fun iv _=>l.length - (intOf iv).toNat)
 case atStart=>exact⟨0,Nat.zero_le _,rfl,HR,H.out⟩
 case round=>
  obtain⟨k,hkl,rfl,HC,hst⟩:=hrel;clear H HR;have H:=hQd hst;clear hst
  by_cases hlt:k<l.length
  ·obtain⟨bk,off,hqq⟩:=zFn HK.out H.out oM;subst hqq;obtain⟨x,hx⟩:∃x,l[k]=x:=⟨_,rfl⟩;have hmem:x∈l:=hx ▸ List.getElem_mem hlt;have hck:=HF.out x hmem;have hcell0:=zBF HK.out H.out k hlt x hx;have HXK0:=zC6 HK.out hmem;have hc:=HC.out;rw[List.drop_eq_getElem_cons hlt,hx,zC1]at hc;have hkn:(k:Int)<(l.length:Int):=by omega
   obtain⟨⟨base,leader,app,txn2,ctl,last,first,maxt,prod,epoch,sq,rcs⟩,xl,xq,xcap⟩:=x;have hcell:wr.cell? ⟨bk,off+k*12,none⟩=some (.int .i64 base)∧wr.cell? ⟨bk,off+k*12+1,none⟩=some (.int .i64 leader)∧wr.cell? ⟨bk,off+k*12+2,none⟩=some (.bool app)∧wr.cell? ⟨bk,off+k*12+3,none⟩=some (.bool txn2)∧wr.cell? ⟨bk,off+k*12+4,none⟩=some (.bool ctl)∧wr.cell? ⟨bk,off+k*12+5,none⟩=some (.int .i64 last)∧wr.cell? ⟨bk,off+k*12+6,none⟩=some (.int .i64 first)∧wr.cell? ⟨bk,off+k*12+7,none⟩=some (.int .i64 maxt)∧wr.cell? ⟨bk,off+k*12+8,none⟩=some (.int .i64 prod)∧wr.cell? ⟨bk,off+k*12+9,none⟩=some (.int .i64 epoch)∧wr.cell? ⟨bk,off+k*12+10,none⟩=some (.int .i64 sq)∧wr.cell? ⟨bk,off+k*12+11,none⟩=some (.slice xq xl.length xcap):=hcell0;obtain⟨c0,c1,c2,c3,c4,c5,c6,c7,c8,c9,c10,c11⟩:=hcell;have HXK:=hQd (show K.has (Know.recs (.slice xq xl.length xcap) xl)from HXK0);have HFI:=hQd (show first≤9223372036854775807 from hck.first);have HFB:=hQd (show FitB xl from hck.fit);have HLN:=hQd (show xl.length≤1000000 from hck.len);obtain⟨be,hbe⟩:∃n,zAl ⟨base,leader,app,txn2,ctl,last,first,maxt,prod,epoch,sq,rcs⟩=n:=⟨_,rfl⟩;have HBE:=hQd (show zAl ⟨base,leader,app,txn2,ctl,last,first,maxt,prod,epoch,sq,xl.map (·.1)⟩=be by rw[show xl.map (·.1)=rcs from hck.recs];exact hbe);have hc:(if be≠0 then be else if ctl=true then 12 else if txn2≠txn then 8 else zB5 txn (l.drop (k+1)))=e:=by rw[←hbe];exact hc
   clear hx hmem hck hcell0 HXK0 hbe
   by_cases b0:be=0
   ·subst b0;rw[if_neg (by simp)]at hc
    cases ctl with
    |true=>
     rw[if_pos rfl]at hc;subst hc;go_wp2_with (go_at_call 88;(with_reducible refine(zBG base leader app txn2 true last first maxt prod epoch sq xl xq xcap 0 HBE.out HFI.out HFB.out HLN.out HXK.out (H.out.allocRaw #[.int .i64 base,.int .i64 leader,.bool app,.bool txn2,.bool true,.int .i64 last,.int .i64 first,.int .i64 maxt,.int .i64 prod,.int .i64 epoch,.int .i64 sq,.slice xq xl.length xcap] 58)).mono ?_);rintro e_ wn ⟨rfl,h⟩;have y3:=h.rawCell 3;have y4:=h.rawCell 4;simp at y3 y4;replace H:=hQd h;clear h);go_ret;exact⟨rfl,H.out.drop⟩
    |false=>
     rw[if_neg (by simp)]at hc
     cases txn2 with
     |true=>
      cases txn with
      |true=>
       rw[if_neg (by simp)]at hc;have HC2:=hQd hc;clear hc;go_wp2_with (go_at_call 88;(with_reducible refine(zBG base leader app true false last first maxt prod epoch sq xl xq xcap 0 HBE.out HFI.out HFB.out HLN.out HXK.out (H.out.allocRaw #[.int .i64 base,.int .i64 leader,.bool app,.bool true,.bool false,.int .i64 last,.int .i64 first,.int .i64 maxt,.int .i64 prod,.int .i64 epoch,.int .i64 sq,.slice xq xl.length xcap] 58)).mono ?_);rintro e_ wn ⟨rfl,h⟩;have y3:=h.rawCell 3;have y4:=h.rawCell 4;simp at y3 y4;replace H:=hQd h;clear h);go_roundw
       case rel=>
        refine⟨k+1,hlt,by go_num,HC2,?_⟩;exact H.out.drop
       case measure=>first|(simp[intOf];done)|(simp[intOf];omega)
      |false=>
       rw[if_pos (by simp)]at hc;subst hc;go_wp2_with (go_at_call 88;(with_reducible refine(zBG base leader app true false last first maxt prod epoch sq xl xq xcap 0 HBE.out HFI.out HFB.out HLN.out HXK.out (H.out.allocRaw #[.int .i64 base,.int .i64 leader,.bool app,.bool true,.bool false,.int .i64 last,.int .i64 first,.int .i64 maxt,.int .i64 prod,.int .i64 epoch,.int .i64 sq,.slice xq xl.length xcap] 58)).mono ?_);rintro e_ wn ⟨rfl,h⟩;have y3:=h.rawCell 3;have y4:=h.rawCell 4;simp at y3 y4;replace H:=hQd h;clear h);go_ret;exact⟨rfl,H.out.drop⟩
     |false=>
      cases txn with
      |true=>
       rw[if_pos (by simp)]at hc;subst hc;go_wp2_with (go_at_call 88;(with_reducible refine(zBG base leader app false false last first maxt prod epoch sq xl xq xcap 0 HBE.out HFI.out HFB.out HLN.out HXK.out (H.out.allocRaw #[.int .i64 base,.int .i64 leader,.bool app,.bool false,.bool false,.int .i64 last,.int .i64 first,.int .i64 maxt,.int .i64 prod,.int .i64 epoch,.int .i64 sq,.slice xq xl.length xcap] 58)).mono ?_);rintro e_ wn ⟨rfl,h⟩;have y3:=h.rawCell 3;have y4:=h.rawCell 4;simp at y3 y4;replace H:=hQd h;clear h);go_ret;exact⟨rfl,H.out.drop⟩
      |false=>
       rw[if_neg (by simp)]at hc;have HC2:=hQd hc;clear hc;go_wp2_with (go_at_call 88;(with_reducible refine(zBG base leader app false false last first maxt prod epoch sq xl xq xcap 0 HBE.out HFI.out HFB.out HLN.out HXK.out (H.out.allocRaw #[.int .i64 base,.int .i64 leader,.bool app,.bool false,.bool false,.int .i64 last,.int .i64 first,.int .i64 maxt,.int .i64 prod,.int .i64 epoch,.int .i64 sq,.slice xq xl.length xcap] 58)).mono ?_);rintro e_ wn ⟨rfl,h⟩;have y3:=h.rawCell 3;have y4:=h.rawCell 4;simp at y3 y4;replace H:=hQd h;clear h);go_roundw
       case rel=>
        refine⟨k+1,hlt,by go_num,HC2,?_⟩;exact H.out.drop
       case measure=>first|(simp[intOf];done)|(simp[intOf];omega)
   ·rw[if_pos b0]at hc;subst hc;have g1:(be==0)=false:=by rw[beq_eq_false_iff_ne];exact b0
    have g2:(be !=0)=true:=by simp[bne,g1]
    clear b0;go_wp2_with (go_at_call 88;(with_reducible refine(zBG base leader app txn2 ctl last first maxt prod epoch sq xl xq xcap be HBE.out HFI.out HFB.out HLN.out HXK.out (H.out.allocRaw #[.int .i64 base,.int .i64 leader,.bool app,.bool txn2,.bool ctl,.int .i64 last,.int .i64 first,.int .i64 maxt,.int .i64 prod,.int .i64 epoch,.int .i64 sq,.slice xq xl.length xcap] 58)).mono ?_);rintro e_ wn ⟨rfl,h⟩;have y3:=h.rawCell 3;have y4:=h.rawCell 4;simp at y3 y4;replace H:=hQd h;clear h);go_ret;exact⟨rfl,H.out.drop⟩
  ·exact zq47
theorem zCM(l:List PTop)(q:Option Addr)(cap:Nat)(e:Int)(he:zAP l=e)(hf:∀x∈l,x.name.length≤140737488355328∧x.l.length≤4398046511104)(hll:l.length≤4398046511104){W0 w:World}{K:Know}{L:List Res}(hk:K.has (Know.ptops (.slice q l.length cap) l))(h:St W0 w K L):
 Calls Tryz.prog 39 #[.slice q l.length cap] w fun en w'=>en=.returned (.int .i64 e)∧St W0 w' K L:=by
 have H:=hQd h;have HK:=hQd hk;have HF:=hQd hf;have hni:(l.length:Int)≤4398046511104:=by omega
 unfold zAP at he;clear h hk hf
 by_cases h0:l.length=0
 ·rw[if_pos h0]at he;subst he;rw[h0];clear hni hll h0;go_enter Tryz.func39,Tryz.ntmps39;go_wp2;go_ret;exact⟨rfl,H.out⟩
 rw[if_neg h0]at he;have HR:=hQd (show errT [] (l.drop 0)=e by rw[List.drop_zero];exact he);have hz:((l.length:Int)==0)=false:=by rw[beq_eq_false_iff_ne];omega
 have hz2:¬l.length=0:=h0;clear he hll h0;go_enter Tryz.func39,Tryz.ntmps39;go_wp2;go_loopw [3,11] (fun av iv wr=>∃(k:Nat) (a:Bs),k≤l.length∧iv=.int .i64 k∧av=.string (bb a)∧Hid (errT a (l.drop k)=e)∧St W0 wr K L) (fun _ iv _=>l.length - (intOf iv).toNat)
 case atStart=>exact⟨0,[],Nat.zero_le _,rfl,rfl,HR,H.out⟩
 case round=>
  obtain⟨k,a,hkl,rfl,rfl,HC,hst⟩:=hrel;clear H HR;have H:=hQd hst;clear hst
  by_cases hlt:k<l.length
  ·obtain⟨bk,off,hqq⟩:=zB9 HK.out H.out oM;subst hqq;obtain⟨x,hx⟩:∃x,l[k]=x:=⟨_,rfl⟩;have hmem:x∈l:=hx ▸ List.getElem_mem hlt;obtain⟨hn1,hn2⟩:=HF.out x hmem;obtain⟨c0,c1⟩:=zAZ HK.out H.out k hlt x hx;have HXK0:=zA5 HK.out hmem;have hc:=HC.out;rw[List.drop_eq_getElem_cons hlt,hx,zDD]at hc;have hkn:(k:Int)<(l.length:Int):=by omega
   obtain⟨nm,xl,xq,xcap⟩:=x;simp only at c0 c1 hc hn1 hn2 HXK0;have HXK:=hQd HXK0;have HNM:=hQd hn1;have HLN:=hQd hn2;clear hx hmem hn1 HXK0
   by_cases z:xl.length=0
   ·rw[if_pos z]at hc;subst hc;rw[z]at c1;clear z hn2;go_wp2_with fail;go_ret;exact⟨rfl,H.out.alloc _⟩
   rw[if_neg z]at hc;have z1:((xl.length:Int)==0)=false:=by rw[beq_eq_false_iff_ne];omega
   have z2:¬xl.length=0:=z;obtain⟨kr,hkr⟩:∃r,zAv nm=r:=⟨_,rfl⟩;obtain⟨rp,hrp⟩:∃r,zBL (-1) xl=r:=⟨_,rfl⟩;rw[hkr,hrp]at hc;have HKR:=hQd hkr;have HRP:=hQd hrp;clear z hn2 hkr hrp
   cases kr with
   |false=>
    simp only[Bool.false_and,Bool.false_eq_true,if_false]at hc;subst hc
    go_wp2_with (first
   |(go_at_call 38;(with_reducible refine(zA0 nm false HKR.out HNM.out (H.out.allocRaw #[.string (bb nm),.slice xq xl.length xcap] 65)).mono ?_);rintro e_ wn ⟨rfl,h⟩;obtain⟨y0,y1⟩:=uR2 h;simp at y0 y1;replace H:=hQd h;clear h))
    go_ret;exact⟨rfl,H.out.drop⟩
   |true=>
    simp only[Bool.true_and]at hc
    cases hp:Op.bytesLess a nm with
    |false=>
     rw[hp]at hc;simp only[Bool.false_and,Bool.false_eq_true,if_false]at hc;subst hc
     rcases zO4 nm a hp with g1|⟨g1,g2⟩
     ·clear hp
      go_wp2_with (first
   |(go_at_call 38;(with_reducible refine(zA0 nm true HKR.out HNM.out (H.out.allocRaw #[.string (bb nm),.slice xq xl.length xcap] 65)).mono ?_);rintro e_ wn ⟨rfl,h⟩;obtain⟨y0,y1⟩:=uR2 h;simp at y0 y1;replace H:=hQd h;clear h))
      go_ret;exact⟨rfl,H.out.drop⟩
     ·clear hp
      go_wp2_with (first
   |(go_at_call 38;(with_reducible refine(zA0 nm true HKR.out HNM.out (H.out.allocRaw #[.string (bb nm),.slice xq xl.length xcap] 65)).mono ?_);rintro e_ wn ⟨rfl,h⟩;obtain⟨y0,y1⟩:=uR2 h;simp at y0 y1;replace H:=hQd h;clear h))
      go_ret;exact⟨rfl,H.out.drop⟩
    |true=>
     rw[hp]at hc;simp only[Bool.true_and]at hc;obtain⟨g1,g2⟩:=zO3 nm a hp;clear hp
     cases rp with
     |false=>
      simp only[Bool.false_eq_true,if_false]at hc;subst hc
      go_wp2_with (first
   |(go_at_call 38;(with_reducible refine(zA0 nm true HKR.out HNM.out (H.out.allocRaw #[.string (bb nm),.slice xq xl.length xcap] 65)).mono ?_);rintro e_ wn ⟨rfl,h⟩;obtain⟨y0,y1⟩:=uR2 h;simp at y0 y1;replace H:=hQd h;clear h)
   |(go_at_call 72;clear y0 y1;(with_reducible refine(zH0 xl xq xcap false HRP.out HLN.out HXK.out H.out).mono ?_);rintro e_ wn ⟨rfl,h⟩;have y0:=h.rawCell 0;simp at y0;replace H:=hQd h;clear h))
      go_ret;exact⟨rfl,H.out.drop⟩
     |true=>
      rw[if_pos rfl]at hc;have HC2:=hQd hc;clear hc
      go_wp2_with (first
   |(go_at_call 38;(with_reducible refine(zA0 nm true HKR.out HNM.out (H.out.allocRaw #[.string (bb nm),.slice xq xl.length xcap] 65)).mono ?_);rintro e_ wn ⟨rfl,h⟩;obtain⟨y0,y1⟩:=uR2 h;simp at y0 y1;replace H:=hQd h;clear h)
   |(go_at_call 72;clear y0 y1;(with_reducible refine(zH0 xl xq xcap true HRP.out HLN.out HXK.out H.out).mono ?_);rintro e_ wn ⟨rfl,h⟩;have y0:=h.rawCell 0;simp at y0;replace H:=hQd h;clear h))
      go_roundw
      case rel=>
       refine⟨k+1,nm,hlt,by go_num,rfl,HC2,?_⟩;exact H.out.drop
      case measure=>first|(simp[intOf];done)|(simp[intOf];omega)
  ·exact zq47
theorem zq13{p:Prop}(h:p:=by
  clear n0 he2 hv v3
  by_cases e0:e2=0
  · subst e0;rw[if_neg (by simp)]at hep;rw[←hep]at hc;have HC2:=hQd hc;clear hc;go_wp2_with (go_at_call 73;(with_reducible refine(zEJ (!nl) yl yq ycap 0 HBE.out HCK.out HYL.out HYK.out (H.out.allocRaw #[.int .i64 yi,.slice yq yl.length ycap] 68)).mono ?_);rintro e_ wn ⟨rfl,h⟩;have h:=h.drop;replace H:=hQd h;clear h);go_roundw
    case rel=>
     refine⟨j+1,hjt,by go_num,HC2,?_⟩;exact H.out
    case measure=>first|(simp[intOf];done)|(simp[intOf];omega)
  · rw[if_pos e0]at hep;subst hep;rw[if_pos e0]at hc;subst hc;have e1:(e2==0)=false:=by rw[beq_eq_false_iff_ne];exact e0
    have e3:(e2 !=0)=true:=by simp[bne,e1]
    clear e0;go_wp2_with (go_at_call 73;(with_reducible refine(zEJ (!nl) yl yq ycap e2 HBE.out HCK.out HYL.out HYK.out (H.out.allocRaw #[.int .i64 yi,.slice yq yl.length ycap] 68)).mono ?_);rintro e_ wn ⟨rfl,h⟩;have h:=h.drop;replace H:=hQd h;clear h);go_ret;exact⟨rfl,H.out.drop⟩):p:=h
theorem zHm(nl:Bool)(dd:Bs)(ac tm v:Int)(l:List PTop)(q:Option Addr)(cap:Nat)(e:Int)(he:zBO (!nl) v l=e)(hf:∀x∈l,CkT x)(hll:l.length≤4398046511104){W0 w:World}{K:Know}{L:List Res}(hk:K.has (Know.ptops (.slice q l.length cap) l))(h:St W0 w K L):
 Calls Tryz.prog 40 #[.agg #[.bool nl,.string (bb dd),.int .i64 ac,.int .i64 tm,.slice q l.length cap],.int .i64 v] w fun en w'=>en=.returned (.int .i64 e)∧St W0 w' K L:=by
 obtain⟨rb,hrb⟩:∃b,w.heap.size=b:=⟨_,rfl⟩;have g1:=h.allocRaw #[.bool nl,.string (bb dd),.int .i64 ac,.int .i64 tm,.slice q l.length cap] 26;rw[hrb]at g1;have z0:=g1.rawCell 0;have z3:=g1.rawCell 4;simp at z0 z3;have H:=hQd g1;have HK:=hQd hk;have HF:=hQd hf;have HR:=hQd (show zBO (!nl) v (l.drop 0)=e by rw[List.drop_zero];exact he);have hni:(l.length:Int)≤4398046511104:=by omega
 clear h g1 hk hf he hll;go_enter Tryz.func40,Tryz.ntmps40;go_wp2;clear z0 z3;go_loopw [13] (fun iv wr=>∃(k:Nat),k≤l.length∧iv=.int .i64 k∧Hid (zBO (!nl) v (l.drop k)=e)∧St W0 wr K (.raw rb #[.bool nl,.string (bb dd),.int .i64 ac,.int .i64 tm,.slice q l.length cap] 26::L)) (fun iv _=>l.length - (intOf iv).toNat)
 case atStart=>exact⟨0,Nat.zero_le _,rfl,HR,H.out⟩
 case round=>
  obtain⟨k,hkl,rfl,HC,hst⟩:=hrel;clear H HR;have H:=hQd hst;clear hst
  by_cases hlt:k<l.length
  ·obtain⟨bk,off,hqq⟩:=zB9 HK.out H.out oM;obtain⟨x,hx⟩:∃x,l[k]=x:=⟨_,rfl⟩;have hmem:x∈l:=hx ▸ List.getElem_mem hlt;have hck:=HF.out x hmem;have HK':=HK.out;rw[hqq]at HK';obtain⟨c0,c1⟩:=zAZ HK' H.out k hlt x hx;have HXK0:=zA5 HK.out hmem;have hc:=HC.out;rw[List.drop_eq_getElem_cons hlt,hx,zCt]at hc;have hkn:(k:Int)<(l.length:Int):=by omega
   obtain⟨nm,xl,xq,xcap⟩:=x;simp only at c0 c1 hc HXK0;have HXK:=hQd HXK0;have HPF:=hQd (show ∀y∈xl,CkP y from hck.parts);have hxl:xl.length≤4398046511104:=hck.len;have hxi:(xl.length:Int)≤4398046511104:=by omega
   have HIR:=hQd (show(if zBz (!nl) v (xl.drop 0)≠0 then zBz (!nl) v (xl.drop 0)else zBO (!nl) v (l.drop (k+1)))=e by rw[List.drop_zero];exact hc);have HS:=hQd (H.out.alloc (.cells #[.string (bb nm),.slice xq xl.length xcap] 65 (0,0)));subst hqq;clear hx hmem hck HK' HXK0 hc hxl;go_wp2_with fail;go_loopw [20] (fun jv wr=>∃(j:Nat),j≤xl.length∧jv=.int .i64 j∧Hid ((if zBz (!nl) v (xl.drop j)≠0 then zBz (!nl) v (xl.drop j)else zBO (!nl) v (l.drop (k+1)))=e)∧St W0 wr K (.raw rb #[.bool nl,.string (bb dd),.int .i64 ac,.int .i64 tm,.slice (some ⟨bk,off,none⟩) l.length cap] 26::L)) (fun jv _=>xl.length - (intOf jv).toNat)
   case atStart=>exact⟨0,Nat.zero_le _,rfl,HIR,HS.out⟩
   case round=>
    obtain⟨j,hjl,rfl,HIC,hst⟩:=hrel;clear H HIR HS c0 c1;have H:=hQd hst;clear hst
    by_cases hjt:j<xl.length
    ·obtain⟨pk,poff,hpq⟩:=zBB HXK.out H.out oM;subst hpq;obtain⟨y,hy⟩:∃y,xl[j]=y:=⟨_,rfl⟩;have hmem:y∈xl:=hy ▸ List.getElem_mem hjt;have hck:=HPF.out y hmem;obtain⟨d0,d1⟩:=zAW HXK.out H.out j hjt y hy;have HYK0:=zBp HXK.out hmem;have hc:=HIC.out;rw[List.drop_eq_getElem_cons hjt,hy]at hc;obtain⟨ep,hep⟩:∃ep,zBz (!nl) v (y::xl.drop (j+1))=ep:=⟨_,rfl⟩;rw[hep]at hc;rw[zB4]at hep;have hjn:(j:Int)<(xl.length:Int):=by omega
     obtain⟨yi,yl,yq,ycap⟩:=y;simp only at d0 d1 hep HYK0;have HYK:=hQd HYK0;have HCK:=hQd (show ∀z∈yl,CkR z from hck.bats);have HYL:=hQd (show yl.length≤4398046511104 from hck.len);have z0:=(H.out.alloc (.cells #[.int .i64 yi,.slice yq yl.length ycap] 68 (0,0))).rawCell 0;simp at z0;clear hy hmem hck HYK0
     by_cases n0:yl.length=0
     ·rw[if_pos (Or.inl n0)]at hep;subst hep;rw[if_pos dD]at hc;subst hc;rw[n0]at d1 z0;clear n0 HCK HYL HYK;go_wp2_with fail;go_ret;exact⟨rfl,by first|exact H.out.drop|exact(H.out.alloc _).drop⟩
     have n1:((yl.length:Int)==0)=false:=by rw[beq_eq_false_iff_ne];omega
     have n2:¬yl.length=0:=n0
     by_cases hv:v=3∧1<yl.length
     ·rw[if_pos (Or.inr hv)]at hep;subst hep;rw[if_pos dD]at hc;subst hc;have v4:(v==3)=true:=by rw[hv.1];rfl
      have g2:(1:Int)<(yl.length:Int):=by omega
      clear n0 hv;go_wp2_with fail;go_ret;exact⟨rfl,by first|exact H.out.drop|exact(H.out.alloc _).drop⟩
     rw[if_neg (by intro hh;rcases hh with hh|hh;exact n0 hh;exact hv hh)]at hep;obtain⟨e2,he2⟩:∃e2,zB5 (!nl) yl=e2:=⟨_,rfl⟩;rw[he2]at hep;have HBE:=hQd he2
     by_cases v3:v=3
     ·have v4:(v==3)=true:=by rw[v3];rfl
      have g2:¬(1:Int)<(yl.length:Int):=by intro hh;exact hv ⟨v3,oM⟩
      exact zq13
     ·have v4:(v==3)=false:=by rw[beq_eq_false_iff_ne];exact v3
      exact zq13
    ·obtain rfl:j=xl.length:=by omega
     have hc:=HIC.out;rw[List.drop_length]at hc;have hc:(if (0:Int)≠0 then 0 else zBO (!nl) v (l.drop (k+1)))=e:=hc;rw[if_neg (by simp)]at hc;have HC2:=hQd hc;clear hc;go_wp2_with fail;go_roundw
     case rel=>
      refine⟨k+1,hlt,by go_num,HC2,?_⟩;exact H.out
     case measure=>first|(simp[intOf];done)|(simp[intOf];omega)
  ·obtain rfl:k=l.length:=by omega
   have hc:=HC.out;rw[List.drop_length]at hc;have hc:0=e:=hc;subst hc;go_wp2_with fail;go_ret;exact⟨rfl,H.out.drop⟩
end Go.Proofs.YtnnnglklgofabaaGreat
