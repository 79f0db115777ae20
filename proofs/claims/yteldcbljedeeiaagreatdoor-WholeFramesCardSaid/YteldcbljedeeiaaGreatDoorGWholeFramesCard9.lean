/- A text. -/
import Derived.Test.YteldcbljedeeiaaGreatDoorGWholeFramesCard8
import Derived.Test.YteldcbljedeeiaaGreatDoorGWholeFramesCard2
import Derived.Test.YteldcbljedeeiaaGreatDoorGWholeFramesCard4
import Derived.Test.YteldcbljedeeiaaGreatDoorGWholeFramesCard7
import Derived.RegionTactic
import Derived.Deep.RegionHeld3
import Derived.Deep.DeepCutAuto
import Derived.WalkMore
/- A text. -/
namespace Go.Proofs.YteldcbljedeeiaaGreatDoor
open Go.RowKit
set_option maxRecDepth 100000
set_option maxHeartbeats 8000000
open Go.Value renaming bool→U, string→Z, slice→V, int→I, pointer→Ja
open Go.Ending renaming returned→Y
open Go.IntKind renaming i64→O
open _root_.Go.Proofs.Tryz renaming prog→Jb
open _root_.Nat renaming zero_le→Jd, add_assoc→Jm
open _root_.List renaming take_succ_eq_append_getElem→Jf, length_cons→Jn, length_append→Jc, append_nil→Jp, length_drop→Jh, drop_drop→Jk, append_assoc→Je, flatMap_cons→Jg, getElem_mem→Ji, length_map→Jj, take→Jl, drop→Jo
variable {W0 w:World}{K:Know}{L:List Res}
theorem zBr{P:Program}{fn:Func}{p:Tmp}{ty:TypeId}(h:fn.results= #[.cell p ty])(tmps:Array Value)(w:World)(b:Nat)(cs:List Value)(d:TypeDesc)
 (hp:tmps.getD p undef=Ja (some ⟨b,0,none⟩))(hc:w.rangeAt b 0 cs)(hu:P.underlying ty=some d)(hd:d.isRow=true)(hi:(P.info? ty).map (·.size)=some cs.length):
 (results fn tmps).run P w=.ok (.agg cs.toArray) w:=by
 have hp':tmps[p]?.getD undef=Ja (some ⟨b,0,none⟩):=by simpa using hp
 simp[results,h,hp',asAddr,run_loadVar_mid w b 0 ty cs d hc hu hd hi]
theorem zDd{b:Nat}{c:List Value}{T:TypeId}(h:St W0 w K (.raw b c.toArray T::L)):w.rangeAt b 0 c:=by
 intro j v hv;rw[Nat.zero_add,h.rawCell j]
 simpa using hv
theorem St.setExP{b:Nat}{c:Array Value}{T:TypeId}(h:St W0 w K (.raw b c T::L))(j:Nat)(v:Value):∃wz,w.setCell ⟨b,j,none⟩ v=wz∧St W0 wz K (.raw b (c.setIfInBounds j v) T::L):=⟨_,rfl,h.rawSet j v⟩
theorem zNt(p:Nat)(e:Bs)(h:St W0 w K (.out p ⟨e,0⟩::L)):
 Calls Jb 49 #[zAc p] w fun en w'=>en=Y (.tuple #[Z (bb e),I O 0])∧St W0 w' K (.out p ⟨e,0⟩::L):=zGa p ⟨e,0⟩ h
def zI4 (x:BatR):List Value:=[I O x.b.base,I O x.b.leader,U x.b.app,U x.b.txn,U x.b.ctl,I O x.b.last,I O x.b.first,I O x.b.maxt,I O x.b.prod,I O x.b.epoch,I O x.b.seq,V x.q x.l.length x.cap]
theorem zQT:zCJ Jb 101 (.agg #[I O 0,I O 0,U false,U false,U false,I O 0,I O 0,I O 0,I O 0,I O 0,I O 0,V none 0 0]) 12 96:=zAT kR rfl dD
def zFJ (b:BatS) (r:Except Int (List BatS)):Except Int (List BatS):=match r with| .ok t=> .ok (b::t)| .error e=> .error e
def preB (acc:List BatS) (r:Except Int (List BatS)):Except Int (List BatS):=match r with| .ok t=> .ok (acc++t)| .error e=> .error e
theorem zRN(r:Except Int (List BatS)):preB [] r=r:=by cases r<;>rfl
theorem zQb(acc:List BatS)(b:BatS)(r:Except Int (List BatS)):preB (acc++[b]) r=preB acc (zFJ b r):=by
 cases r with
 |error e=>rfl
 |ok t=>simp[preB,zFJ]
def zDM:Nat→Bs→Except Int (List BatS)
 |0,_=> .ok []
 |f+1,s=>if s=[]then .ok []else match zBI s with
  | .error e=> .error e
  | .ok y=>zFJ y.1 (zDM f (s.drop y.2))
theorem zFp:∀(f g:Nat) (s:Bs),s.length≤f→s.length≤g→zDM f s=zDM g s
 |0,0,_,_,_=>rfl
 |0,g+1,s,h,_=>by
  obtain rfl:s=[]:=List.eq_nil_of_length_eq_zero oM
  rfl
 |f+1,0,s,_,h=>by
  obtain rfl:s=[]:=List.eq_nil_of_length_eq_zero oM
  rfl
 |f+1,g+1,s,h1,h2=>by
  show(if s=[]then Except.ok []else match zBI s with
   | .error e=>Except.error e
   | .ok y=>zFJ y.1 (zDM f (s.drop y.2)))=if s=[]then Except.ok []else match zBI s with
   | .error e=>Except.error e
   | .ok y=>zFJ y.1 (zDM g (s.drop y.2))
  by_cases c:s=[]
  ·rw[if_pos c,if_pos c]
  rw[if_neg c,if_neg c]
  cases hr:zBI s with
  |error e=>rfl
  |ok y=>
   obtain⟨b,n⟩:=y;obtain⟨x,_,hn,hl,_⟩:=zCj hr;simp only;rw[zFp f g (s.drop n) (by rw[Jh];omega) (by rw[Jh];omega)]
def zCt (s:Bs):Except Int (List BatS):=zDM s.length s
theorem zEK:zCt []=.ok []:=rfl
theorem zIo(s:Bs)(h0:s≠[]):zCt s=match zBI s with
 | .error e=>Except.error e
 | .ok y=>zFJ y.1 (zCt (s.drop y.2)):=by
 have h1:zCt s=zDM (s.length+1) s:=zFp _ _ s (Nat.le_refl _) oM;rw[h1]
 show(if s=[]then Except.ok []else match zBI s with
  | .error e=>Except.error e
  | .ok y=>zFJ y.1 (zDM s.length (s.drop y.2)))=_
 rw[if_neg h0]
 cases hr:zBI s with
 |error e=>rfl
 |ok y=>
  simp only;rw[zFp s.length _ (s.drop y.2) (by rw[Jh];omega) (Nat.le_refl _)]
  rfl
theorem zQ8{s:Bs}{e:Int}(h0:s≠[])(h:zBI s=.error e):zCt s=.error e:=by rw[zIo s h0,h]
theorem zNP{s:Bs}{b:BatS}{n:Nat}(h0:s≠[])(h:zBI s=.ok (b,n)):zCt s=zFJ b (zCt (s.drop n)):=by rw[zIo s h0,h]
def InS.ppart (i:InS):(Int×List BatS)×InS:=
 let a:=i.int 4
 let b:=a.2.fixed 4
 let c:=if b.1.null=true then b.2.fail 4 else b.2
 match zCt b.1.data with
 | .ok l=>((a.1,l),c)
 | .error e=>((a.1,[]),c.fail e)
theorem zMy(p:Nat)(i j:InS)(x:Int)(size:Int)(hx:i.int size=(x,j))(h:St W0 w K (.inp p i::L)):
 Calls Jb 66 #[zAe p,I O size] w fun en w'=>en=Y (I O x)∧St W0 w' K (.inp p j::L):=by
 have h2:=zCa p i size h;rw[hx]at h2;exact h2
theorem zI5(p:Nat)(i j:InS)(k:Int)(u:Bool)(d:Bs)(hx:i.fixed k=(⟨u,d⟩,j))(h:St W0 w K (.inp p i::L)):
 Calls Jb 117 #[zAe p,I O k] w fun en w'=>en=Y (.agg #[U u,Z (bb d)])∧St W0 w' K (.inp p j::L):=by
 have h2:=zDK p i k h;rw[hx]at h2;exact h2
theorem zOx(p:Nat)(i:InS)(e:Int)(hx:i.err=e)(h:St W0 w K (.inp p i::L)):
 Calls Jb 22 #[zAe p] w fun en w'=>en=Y (I O e)∧St W0 w' K (.inp p i::L):=by
 subst hx;exact zHs p i h
theorem zSG(p:Nat)(i:InS)(n:Nat)(hx:i.left=n)(h:St W0 w K (.inp p i::L)):
 Calls Jb 75 #[zAe p] w fun en w'=>en=Y (I O n)∧St W0 w' K (.inp p i::L):=by
 subst hx;exact zNk p i h
def PInM (b n:Nat) (w:World):Nat:=if intOf ((w.cell? ⟨b,2,none⟩).getD undef)≠0 then 0 else n+1 - (intOf ((w.cell? ⟨b,1,none⟩).getD undef)).toNat
theorem pinM{b n:Nat}{i:InS}(h:St W0 w K (.inp b i::L)):PInM b n w=if i.err≠0 then 0 else n+1 - i.pos:=by
 have h1:=zAK h.inpGet.1 1;have h2:=zAK h.inpGet.1 2;unfold PInM;rw[h1,h2]
 rfl
def PartJ (K2:Know) (d:Bs) (n:Nat) (xs:List Value) (pos:Nat) (er:Int):Prop:=
 (er=0∧pos≤d.length∧61*n≤pos∧∃acc:List BatR,n=acc.length∧xs=acc.flatMap zI4∧preB (acc.map BatR.b) (zCt (d.drop pos))=zCt d∧(∀x∈acc,K2.has (Know.recs (V x.q x.l.length x.cap) x.l))∧∀x∈acc,x.l.map (·.1)=x.b.recs)∨
 (er≠0∧zCt d=.error er)
theorem St.freezeBatsP{v:Value}{T:TypeId}{l:List BatR}(h:St W0 w K (.row v T 12 l.length (l.flatMap zI4)::L))(ht:∀x∈l,K.has (Know.recs (V x.q x.l.length x.cap) x.l)):St W0 w (K.and (Know.bats v l)) L:=by
 have hf:=h.freezeRow (R:=RBat) (fun x _=>⟨rfl,rfl⟩);exact hf.know (K':=K.and (Know.bats v l)) (fun w F hh=>⟨hh.1,hh.2,fun x hx=>ht x hx _ _ hh.1⟩)
theorem zML{i j:InS}{e:Int}(h:i.fail e=j)(h0:e≠0):j.err≠0:=by
 subst h;unfold InS.fail
 split
 ·exact h0
 ·assumption
theorem zLh(i:InS)(each:Nat):(i.count 4 each).1=((i.cnt each).1:Int)∧(i.cnt each).1≤2147483647:=by
 exact zq6
theorem zNe(i:InS)(n:Int):(i.take n).2.s=i.s∧(i.take n).1.length≤i.s.length:=by
 unfold InS.take
 split
 ·exact⟨rfl,Jd _⟩
 ·split
  ·exact⟨rfl,Jd _⟩
  ·split
   ·exact⟨rfl,Jd _⟩
   ·refine⟨rfl,?_⟩;rw[List.length_take,Jh]
    omega
theorem zDF(i:InS)(e:Int):(i.fail e).s=i.s:=by unfold InS.fail;split<;>rfl
theorem zCe(i:InS)(k:Int):(i.int k).2.s=i.s:=by
 unfold InS.int
 split
 ·exact zDF _ _
 ·exact(zNe _ _).1
theorem tk_s12(i:InS)(n:Int):(i.tk n).2.s=i.s∧(i.tk n).1.data.length≤i.s.length:=by
 unfold InS.tk
 split
 ·exact⟨rfl,Jd _⟩
 ·exact zNe _ _
theorem zBw(i:InS)(k:Int):(i.fixed k).2.s=i.s∧(i.fixed k).1.data.length≤i.s.length:=by
 unfold InS.fixed;have h:=tk_s12 (i.int k).2 (i.int k).1;rw[zCe]at h;exact h
theorem zID(i:InS):i.text.2.s=i.s:=by
 unfold InS.text InS.bytes;simp only
 split
 ·rw[zDF];exact(zBw i 2).1
 ·exact(zBw i 2).1
theorem zG7(i:InS)(each:Nat):(i.cnt each).2.s=i.s:=by
 unfold InS.cnt InS.count;simp only
 split
 ·rw[zDF];exact zCe i 4
 ·split
  ·rw[zDF];exact zCe i 4
  ·exact zCe i 4
theorem zFb(i:InS):(((i.int 4).2.fixed 4).1.data).length≤i.s.length:=by
 have h:=(zBw (i.int 4).2 4).2;rw[zCe]at h;exact h
theorem zEo(i:InS):i.ppart.2.s=i.s:=by
 have h1:((i.int 4).2.fixed 4).2.s=i.s:=by rw[(zBw _ 4).1,zCe]
 have h2:(if ((i.int 4).2.fixed 4).1.null=true then((i.int 4).2.fixed 4).2.fail 4 else((i.int 4).2.fixed 4).2).s=i.s:=by
  split
  ·rw[zDF];exact h1
  ·exact h1
 unfold InS.ppart;simp only
 split
 ·exact h2
 ·rw[zDF];exact h2
def PartR.pb (x:PartR):Int×List BatS:=(x.idx,x.l.map BatR.b)
def InS.ppartsN:Nat→List (Int×List BatS)→InS→List (Int×List BatS)×InS
 |0,acc,i=>(acc,i)
 |n+1,acc,i=>if i.ppart.2.err=0 then InS.ppartsN n (acc++[i.ppart.1]) i.ppart.2 else([],i.ppart.2)
def InS.ptop (i:InS):(Bs×List (Int×List BatS))×InS:=
 ((i.text.1,(InS.ppartsN (i.text.2.cnt 8).1 [] (i.text.2.cnt 8).2).1),(InS.ppartsN (i.text.2.cnt 8).1 [] (i.text.2.cnt 8).2).2)
theorem zGD:∀(n:Nat) (acc:List (Int×List BatS)) (i:InS),(InS.ppartsN n acc i).2.s=i.s
 |0,_,_=>rfl
 |n+1,acc,i=>by
  show(if i.ppart.2.err=0 then InS.ppartsN n (acc++[i.ppart.1]) i.ppart.2 else([],i.ppart.2)).2.s=i.s
  split
  ·rw[zGD n];exact zEo i
  ·exact zEo i
theorem zNs(i:InS):i.ptop.2.s=i.s:=by
 unfold InS.ptop;simp only;rw[zGD,zG7,zID]
theorem zRP(p:Nat)(i j:InS)(each n:Nat)(ei:Int)(he:ei=each)(hx:i.cnt each=(n,j))(h:St W0 w K (.inp p i::L)):
 Calls Jb 174 #[zAe p,I O 4,I O ei] w fun en w'=>en=Y (I O n)∧St W0 w' K (.inp p j::L):=by
 subst he;have h2:=zPA p i 4 each h;have hm:=(zLh i each).1;rw[hx]at hm;have h4:(i.count 4 each).2=j:=by have:=congrArg Prod.snd hx;exact this
 rw[hm,h4]at h2;exact h2
theorem p_text(p:Nat)(i j:InS)(s:Bs)(hx:i.text=(s,j))(h:St W0 w K (.inp p i::L)):
 Calls Jb 87 #[zAe p] w fun en w'=>en=Y (Z (bb s))∧St W0 w' K (.inp p j::L):=by
 have h2:=zLp p i h;rw[hx]at h2;exact h2
theorem zOS:zCJ Jb 181 (.agg #[I O 0,V none 0 0]) 2 32:=zAT kR rfl dD
theorem St.freezeParts{v:Value}{T:TypeId}{l:List PartR}(h:St W0 w K (.row v T 2 l.length (l.flatMap zNv)::L))(ht:∀x∈l,K.has (Know.bats (V x.q x.l.length x.cap) x.l)):St W0 w (K.and (Know.pparts v l)) L:=by
 have hf:=h.freezeRow (R:=zM8) (fun x _=>⟨rfl,rfl⟩);exact hf.know (K':=K.and (Know.pparts v l)) (fun w F hh=>⟨hh.1,hh.2,fun x hx=>ht x hx _ _ hh.1⟩)
theorem zRE{s:Bs}{b:BatS}{n:Nat}(h:zBI s=.ok (b,n))(hs:s.length≤1000000)(x:BatR)(hb:x.b=b)(hl:x.l.map (·.1)=x.b.recs):CkR x:=by
 obtain⟨y,hy,_,hn,ha⟩:=zCj h;obtain⟨_,_,_,_,_,r6⟩:=zH2 hy;obtain⟨_,_,rs,hu,_,hbb⟩:=zJN ha;have hr:b.recs=rs:=by rw[hbb]
 have hf:b.first=y.first:=by rw[hbb]
 have hrl:(((s.drop 61).take (y.len - 49).toNat)).length≤1000000:=by rw[List.length_take,Jh];omega
 obtain⟨f1,f2⟩:=zNb (l:=x.l) hu (by rw[hl,hb,hr]) hrl;exact⟨hl,by rw[hb,hf];exact r6,f1,f2⟩
def BsOk (M:Nat) (l:List BatS):Prop:=l.length≤M∧∀b∈l,∃t n,zBI t=.ok (b,n)∧t.length≤M
def PpOk (M:Nat) (x:Int×List BatS):Prop:=BsOk M x.2
def PtOk (M:Nat) (x:Bs×List (Int×List BatS)):Prop:=x.1.length≤M∧x.2.length≤M∧∀y∈x.2,PpOk M y
theorem zNQ{M:Nat}:∀(f:Nat) (s:Bs) (l:List BatS),zDM f s=.ok l→s.length≤M→61*l.length≤s.length∧∀b∈l,∃t n,zBI t=.ok (b,n)∧t.length≤M
 |0,s,l,h,_=>by
  have h:Except.ok []=Except.ok l:=h;injection h with h;subst h;exact⟨Jd _,fun b hb=>by cases hb⟩
 |f+1,s,l,h,hs=>by
  have h:(if s=[]then Except.ok []else match zBI s with
   | .error e=>Except.error e
   | .ok y=>zFJ y.1 (zDM f (s.drop y.2)))=.ok l:=h
  by_cases c:s=[]
  ·rw[if_pos c]at h;injection h with h;subst h;exact⟨Jd _,fun b hb=>by cases hb⟩
  ·rw[if_neg c]at h
   cases hr:zBI s with
   |error e=>rw[hr]at h;cases h
   |ok y=>
    obtain⟨b,n⟩:=y;rw[hr]at h;have h:zFJ b (zDM f (s.drop n))=.ok l:=h;obtain⟨x,_,hn,hl,_⟩:=zCj hr
    cases ht:zDM f (s.drop n)with
    |error e=>rw[ht]at h;cases h
    |ok t=>
     rw[ht]at h;have h:Except.ok (b::t)=Except.ok l:=h;injection h with h;subst h;obtain⟨g1,g2⟩:=zNQ (M:=M) f (s.drop n) t ht (by rw[Jh];omega);rw[Jh]at g1;refine⟨by rw[Jn];omega,fun z hz=> ?_⟩
     rcases List.mem_cons.1 hz with hz|hz
     ·subst hz;exact⟨s,n,hr,hs⟩
     ·exact g2 z hz
theorem zRO{M:Nat}(i:InS)(hd:i.s.length≤M):PpOk M i.ppart.1:=by
 have h1:=zFb i;unfold InS.ppart;simp only
 split
 ·rename_i l hl
  obtain⟨g1,g2⟩:=zNQ (M:=M) _ _ l hl oM;exact⟨by show l.length≤M;omega,g2⟩
 ·exact⟨Jd _,fun b hb=>by cases hb⟩
theorem zH3{M:Nat}:∀(n:Nat) (acc:List (Int×List BatS)) (i:InS),i.s.length≤M→(∀x∈acc,PpOk M x)→(InS.ppartsN n acc i).1.length≤acc.length+n∧∀x∈(InS.ppartsN n acc i).1,PpOk M x
  |0,acc,i,_,ha=>⟨Nat.le_refl _,ha⟩
  |n+1,acc,i,hd,ha=>by
    show(if i.ppart.2.err=0 then InS.ppartsN n (acc++[i.ppart.1]) i.ppart.2 else([],i.ppart.2)).1.length≤acc.length+(n+1)∧∀x∈(if i.ppart.2.err=0 then InS.ppartsN n (acc++[i.ppart.1]) i.ppart.2 else([],i.ppart.2)).1,PpOk M x
    split
    · obtain⟨g1,g2⟩:=zH3 n (acc++[i.ppart.1]) i.ppart.2 (by rw[zEo];exact hd) (fun x hx=>by
        rcases List.mem_append.1 hx with hx|hx
        · exact ha x hx
        · rw[List.mem_singleton.1 hx];exact zRO i hd)
      rw[Jc,List.length_singleton]at g1;exact⟨oM,g2⟩
    · exact⟨Jd _,fun x hx=>by cases hx⟩
theorem zJC(i:InS)(each:Nat)(he:1≤each):(i.cnt each).1≤i.s.length:=by
 unfold InS.cnt InS.count;simp only
 split
 ·exact Jd _
 ·split
  ·exact Jd _
  ·rename_i h1 h2
   have h3:(i.int 4).1≤(((i.int 4).2.left:Nat):Int) / each:=by omega
   have h4:(((i.int 4).2.left:Nat):Int) / each≤((i.int 4).2.left:Nat):=Int.ediv_le_self _ oM;have h5:(i.int 4).2.left≤i.s.length:=by unfold InS.left;rw[zCe];omega
   omega
theorem zS1{M:Nat}(i:InS)(hd:i.s.length≤M):PtOk M i.ptop.1:=by
 have h0:i.text.1.length≤i.s.length:=(zBw i 2).2;have h1:=zJC i.text.2 8 dD;have h2:=zG7 i.text.2 8;rw[zID]at h1 h2;obtain⟨g1,g2⟩:=zH3 (i.text.2.cnt 8).1 [] (i.text.2.cnt 8).2 (by rw[h2];exact hd) (fun x hx=>by cases hx);rw[List.length_nil]at g1;exact⟨by show i.text.1.length≤M;omega,by show(InS.ppartsN (i.text.2.cnt 8).1 [] (i.text.2.cnt 8).2).1.length≤M;omega,g2⟩
def PTop.pt (x:PTop):Bs×List (Int×List BatS):=(x.name,x.l.map PartR.pb)
theorem zSL{M:Nat}(hM:M≤1000000)(x:PTop)(h:PtOk M x.pt)(hm:∀y∈x.l,∀z∈y.l,z.l.map (·.1)=z.b.recs):CkT x:=by
 obtain⟨h1,h2,h3⟩:=h;have h2:(x.l.map PartR.pb).length≤M:=h2;rw[Jj]at h2;have h1:x.name.length≤M:=h1;refine⟨oM,oM,fun y hy=> ?_⟩;obtain⟨g1,g2⟩:=h3 y.pb (List.mem_map_of_mem hy);have g1:(y.l.map BatR.b).length≤M:=g1;rw[Jj]at g1;refine⟨oM,fun z hz=> ?_⟩;obtain⟨t,n,hr,ht⟩:=g2 z.b (List.mem_map_of_mem hz);exact zRE hr oM z rfl (hm y hy z hz)
def InS.ptopsN:Nat→List (Bs×List (Int×List BatS))→InS→List (Bs×List (Int×List BatS))×InS
 |0,acc,i=>(acc,i)
 |n+1,acc,i=>if i.ptop.2.err=0 then InS.ptopsN n (acc++[i.ptop.1]) i.ptop.2 else([],i.ptop.2)
theorem zKF{M:Nat}:∀(n:Nat) (acc:List (Bs×List (Int×List BatS))) (i:InS),i.s.length≤M→(∀x∈acc,PtOk M x)→(InS.ptopsN n acc i).1.length≤acc.length+n∧∀x∈(InS.ptopsN n acc i).1,PtOk M x
  |0,acc,i,_,ha=>⟨Nat.le_refl _,ha⟩
  |n+1,acc,i,hd,ha=>by
    show(if i.ptop.2.err=0 then InS.ptopsN n (acc++[i.ptop.1]) i.ptop.2 else([],i.ptop.2)).1.length≤acc.length+(n+1)∧∀x∈(if i.ptop.2.err=0 then InS.ptopsN n (acc++[i.ptop.1]) i.ptop.2 else([],i.ptop.2)).1,PtOk M x
    split
    · obtain⟨g1,g2⟩:=zKF n (acc++[i.ptop.1]) i.ptop.2 (by rw[zNs];exact hd) (fun x hx=>by
        rcases List.mem_append.1 hx with hx|hx
        · exact ha x hx
        · rw[List.mem_singleton.1 hx];exact zS1 i hd)
      rw[Jc,List.length_singleton]at g1;exact⟨oM,g2⟩
    · exact⟨Jd _,fun x hx=>by cases hx⟩
theorem zQN:zCJ Jb 178 (.agg #[Z ⟨#[]⟩,V none 0 0]) 2 40:=zAT kR rfl dD
theorem St.freezeTopsP{W0 w:World}{K:Know}{L:List Res}{v:Value}{T:TypeId}{l:List PTop}(h:St W0 w K (.row v T 2 l.length (l.flatMap zE8)::L))(ht:∀x∈l,K.has (Know.pparts (V x.q x.l.length x.cap) x.l)):St W0 w (K.and (Know.ptops v l)) L:=by
 have hf:=h.freezeRow (R:=zLG) (fun x _=>⟨rfl,rfl⟩);exact hf.know (K':=K.and (Know.ptops v l)) (fun w F hh=>⟨hh.1,hh.2,fun x hx=>ht x hx _ _ hh.1⟩)
set_option maxHeartbeats 8000000
set_option maxRecDepth 100000
variable {W0 w:World}{K:Know}{L:List Res}
theorem zH4(l:List PartR)(q:Option Addr)(cap:Nat)(r:Bool)(hr:zEj (-1) l=r)(hll:l.length≤4398046511104)(hk:K.has (Know.pparts (V q l.length cap) l))(h:St W0 w K L):
 Calls Jb 239 #[V q l.length cap] w fun en w'=>en=Y (U r)∧St W0 w' K L:=by
 have H:=hQd h;have HK:=hQd hk;have HR:=hQd (show zEj (-1) (l.drop 0)=r by rw[List.drop_zero];exact hr);have hni:(l.length:Int)≤4398046511104:=by omega
 clear h hk hr hll;go_enter Tryz.func239,Tryz.ntmps239;go_wp2;go_loopw [3,8] (fun av iv wr=>∃(k:Nat) (a:Int),k≤l.length∧iv=I O k∧av=I O a∧Hid (zEj a (l.drop k)=r)∧St W0 wr K L) (fun _ iv _=>l.length - (intOf iv).toNat)
 case atStart=>exact⟨0,-1,Jd _,rfl,rfl,HR,H.out⟩
 case round=>
  obtain⟨k,a,hkl,rfl,rfl,HC,hst⟩:=hrel;clear H HR;have H:=hQd hst;clear hst
  by_cases hlt:k<l.length
  ·obtain⟨bk,off,hqq⟩:=zBW HK.out H.out oM;subst hqq;obtain⟨x,hx⟩:=eX (l[k]);obtain⟨c0,c1⟩:=zA8 HK.out H.out k hlt x hx;have hc:=HC.out;rw[List.drop_eq_getElem_cons hlt,hx,zDC]at hc;have hkn:(k:Int)<(l.length:Int):=by omega
   obtain⟨i,hi⟩:=eX x.idx;rw[hi]at c0 hc
   by_cases c2:a<i
   ·have d1:decide (i≤a)=false:=decide_eq_false oM
    by_cases c3:i≤2147483647
    ·have d2:decide (2147483647<i)=false:=decide_eq_false oM;rw[decide_eq_true c2,decide_eq_true c3,Bool.true_and,Bool.true_and]at hc;have HC2:=hQd hc;clear hc hx hi c2 c3;go_wp2_with fail;go_roundw
     case rel=>
      refine⟨k+1,i,hlt,by go_num,rfl,HC2,?_⟩
      first|exact H.out|exact H.out.alloc _
     case measure=>first|(simp[intOf];done)|(simp[intOf];omega)
    ·have d2:decide (2147483647<i)=true:=decide_eq_true oM;rw[decide_eq_false c3,Bool.and_false,Bool.false_and]at hc;subst hc;clear hx hi c2 c3;go_wp2_with fail;go_ret;exact⟨rfl,by first|exact H.out|exact H.out.alloc _⟩
   ·have d1:decide (i≤a)=true:=decide_eq_true oM;rw[decide_eq_false c2,Bool.false_and,Bool.false_and]at hc;subst hc;clear hx hi c2;go_wp2_with fail;go_ret;exact⟨rfl,by first|exact H.out|exact H.out.alloc _⟩
  ·obtain rfl:k=l.length:=by omega
   have hc:=HC.out;rw[List.drop_length]at hc;have hc:true=r:=hc;subst hc;go_wp2_with fail;go_ret;exact⟨rfl,H.out⟩
theorem zq27{p:Prop}(h:p:=by
 obtain rfl:k=l.length:=by omega
 have hc:=HC.out;rw[List.drop_length]at hc;have hc:0=e:=hc;subst hc;go_wp2_with fail;go_ret;exact⟨rfl,H.out⟩):p:=h
theorem zEF(txn:Bool)(l:List BatR)(q:Option Addr)(cap:Nat)(e:Int)(he:zDo txn l=e)(hf:∀x∈l,CkR x)(hll:l.length≤4398046511104)(hk:K.has (Know.bats (V q l.length cap) l))(h:St W0 w K L):
 Calls Jb 240 #[V q l.length cap,U txn] w fun en w'=>en=Y (I O e)∧St W0 w' K L:=by
 have H:=hQd h;have HK:=hQd hk;have HF:=hQd hf;have HR:=hQd (show zDo txn (l.drop 0)=e by rw[List.drop_zero];exact he);have hni:(l.length:Int)≤4398046511104:=by omega
 clear h hk he hll hf;go_enter Tryz.func240,Tryz.ntmps240;go_wp2;go_loopw [10] (fun iv wr=>∃(k:Nat),k≤l.length∧iv=I O k∧Hid (zDo txn (l.drop k)=e)∧St W0 wr K L) (fun iv _=>l.length - (intOf iv).toNat)
 case atStart=>exact⟨0,Jd _,rfl,HR,H.out⟩
 case round=>
  obtain⟨k,hkl,rfl,HC,hst⟩:=hrel;clear H HR;have H:=hQd hst;clear hst
  by_cases hlt:k<l.length
  ·obtain⟨bk,off,hqq⟩:=zHj HK.out H.out oM;subst hqq;obtain⟨x,hx⟩:=eX (l[k]);have hmem:x∈l:=hx ▸ Ji hlt;have hck:=HF.out x hmem;have hcell0:=zDu HK.out H.out k hlt x hx;have HXK0:=zDt HK.out hmem;have hc:=HC.out;rw[List.drop_eq_getElem_cons hlt,hx,zDI]at hc;have hkn:(k:Int)<(l.length:Int):=by omega
   obtain⟨⟨base,leader,app,txn2,ctl,last,first,maxt,prod,epoch,sq,rcs⟩,xl,xq,xcap⟩:=x;have hcell:wr.cell? ⟨bk,off+k*12,none⟩=some (I O base)∧wr.cell? ⟨bk,off+k*12+1,none⟩=some (I O leader)∧wr.cell? ⟨bk,off+k*12+2,none⟩=some (U app)∧wr.cell? ⟨bk,off+k*12+3,none⟩=some (U txn2)∧wr.cell? ⟨bk,off+k*12+4,none⟩=some (U ctl)∧wr.cell? ⟨bk,off+k*12+5,none⟩=some (I O last)∧wr.cell? ⟨bk,off+k*12+6,none⟩=some (I O first)∧wr.cell? ⟨bk,off+k*12+7,none⟩=some (I O maxt)∧wr.cell? ⟨bk,off+k*12+8,none⟩=some (I O prod)∧wr.cell? ⟨bk,off+k*12+9,none⟩=some (I O epoch)∧wr.cell? ⟨bk,off+k*12+10,none⟩=some (I O sq)∧wr.cell? ⟨bk,off+k*12+11,none⟩=some (V xq xl.length xcap):=hcell0;obtain⟨c0,c1,c2,c3,c4,c5,c6,c7,c8,c9,c10,c11⟩:=hcell;have HXK:=hQd (show K.has (Know.recs (V xq xl.length xcap) xl)from HXK0);have HFI:=hQd (show first≤9223372036854775807 from hck.first);have HFB:=hQd (show FitB xl from hck.fit);have HLN:=hQd (show xl.length≤1000000 from hck.len);obtain⟨be,hbe⟩:=eX (zAj ⟨base,leader,app,txn2,ctl,last,first,maxt,prod,epoch,sq,rcs⟩);have HBE:=hQd (show zAj ⟨base,leader,app,txn2,ctl,last,first,maxt,prod,epoch,sq,xl.map (·.1)⟩=be by rw[show xl.map (·.1)=rcs from hck.recs];exact hbe);have hc:(if be≠0 then be else if ctl=true then 12 else if txn2≠txn then 8 else zDo txn (l.drop (k+1)))=e:=by rw[←hbe];exact hc
   clear hx hmem hck hcell0 HXK0 hbe
   by_cases b0:be=0
   ·subst b0;rw[if_neg sM]at hc
    cases ctl with
    |true=>
     rw[if_pos rfl]at hc;subst hc;go_wp2_with (go_at_call 82;(with_reducible refine(zBA base leader app txn2 true last first maxt prod epoch sq xl xq xcap 0 HBE.out HFI.out HFB.out HLN.out HXK.out (H.out.allocRaw #[I O base,I O leader,U app,U txn2,U true,I O last,I O first,I O maxt,I O prod,I O epoch,I O sq,V xq xl.length xcap] 101)).mono ?_);rintro e_ wn ⟨rfl,h⟩;have y3:=h.rawCell 3;have y4:=h.rawCell 4;simp at y3 y4;replace H:=hQd h;clear h);go_ret;exact⟨rfl,H.out.drop⟩
    |false=>
     rw[if_neg sM]at hc
     cases txn2 with
     |true=>
      cases txn with
      |true=>
       rw[if_neg sM]at hc;have HC2:=hQd hc;clear hc;go_wp2_with (go_at_call 82;(with_reducible refine(zBA base leader app true false last first maxt prod epoch sq xl xq xcap 0 HBE.out HFI.out HFB.out HLN.out HXK.out (H.out.allocRaw #[I O base,I O leader,U app,U true,U false,I O last,I O first,I O maxt,I O prod,I O epoch,I O sq,V xq xl.length xcap] 101)).mono ?_);rintro e_ wn ⟨rfl,h⟩;have y3:=h.rawCell 3;have y4:=h.rawCell 4;simp at y3 y4;replace H:=hQd h;clear h);go_roundw
       case rel=>
        refine⟨k+1,hlt,by go_num,HC2,?_⟩;exact H.out.drop
       case measure=>first|(simp[intOf];done)|(simp[intOf];omega)
      |false=>
       rw[if_pos sM]at hc;subst hc;go_wp2_with (go_at_call 82;(with_reducible refine(zBA base leader app true false last first maxt prod epoch sq xl xq xcap 0 HBE.out HFI.out HFB.out HLN.out HXK.out (H.out.allocRaw #[I O base,I O leader,U app,U true,U false,I O last,I O first,I O maxt,I O prod,I O epoch,I O sq,V xq xl.length xcap] 101)).mono ?_);rintro e_ wn ⟨rfl,h⟩;have y3:=h.rawCell 3;have y4:=h.rawCell 4;simp at y3 y4;replace H:=hQd h;clear h);go_ret;exact⟨rfl,H.out.drop⟩
     |false=>
      cases txn with
      |true=>
       rw[if_pos sM]at hc;subst hc;go_wp2_with (go_at_call 82;(with_reducible refine(zBA base leader app false false last first maxt prod epoch sq xl xq xcap 0 HBE.out HFI.out HFB.out HLN.out HXK.out (H.out.allocRaw #[I O base,I O leader,U app,U false,U false,I O last,I O first,I O maxt,I O prod,I O epoch,I O sq,V xq xl.length xcap] 101)).mono ?_);rintro e_ wn ⟨rfl,h⟩;have y3:=h.rawCell 3;have y4:=h.rawCell 4;simp at y3 y4;replace H:=hQd h;clear h);go_ret;exact⟨rfl,H.out.drop⟩
      |false=>
       rw[if_neg sM]at hc;have HC2:=hQd hc;clear hc;go_wp2_with (go_at_call 82;(with_reducible refine(zBA base leader app false false last first maxt prod epoch sq xl xq xcap 0 HBE.out HFI.out HFB.out HLN.out HXK.out (H.out.allocRaw #[I O base,I O leader,U app,U false,U false,I O last,I O first,I O maxt,I O prod,I O epoch,I O sq,V xq xl.length xcap] 101)).mono ?_);rintro e_ wn ⟨rfl,h⟩;have y3:=h.rawCell 3;have y4:=h.rawCell 4;simp at y3 y4;replace H:=hQd h;clear h);go_roundw
       case rel=>
        refine⟨k+1,hlt,by go_num,HC2,?_⟩;exact H.out.drop
       case measure=>first|(simp[intOf];done)|(simp[intOf];omega)
   ·rw[if_pos b0]at hc;subst hc;have g1:(be==0)=false:=by rw[beq_eq_false_iff_ne];exact b0
    have g2:(be !=0)=true:=by simp[bne,g1]
    clear b0;go_wp2_with (go_at_call 82;(with_reducible refine(zBA base leader app txn2 ctl last first maxt prod epoch sq xl xq xcap be HBE.out HFI.out HFB.out HLN.out HXK.out (H.out.allocRaw #[I O base,I O leader,U app,U txn2,U ctl,I O last,I O first,I O maxt,I O prod,I O epoch,I O sq,V xq xl.length xcap] 101)).mono ?_);rintro e_ wn ⟨rfl,h⟩;have y3:=h.rawCell 3;have y4:=h.rawCell 4;simp at y3 y4;replace H:=hQd h;clear h);go_ret;exact⟨rfl,H.out.drop⟩
  ·exact zq27
theorem zCm(l:List PTop)(q:Option Addr)(cap:Nat)(e:Int)(he:zBx l=e)(hf:∀x∈l,x.name.length≤140737488355328∧x.l.length≤4398046511104)(hll:l.length≤4398046511104){W0 w:World}{K:Know}{L:List Res}(hk:K.has (Know.ptops (V q l.length cap) l))(h:St W0 w K L):
 Calls Jb 206 #[V q l.length cap] w fun en w'=>en=Y (I O e)∧St W0 w' K L:=by
 have H:=hQd h;have HK:=hQd hk;have HF:=hQd hf;have hni:(l.length:Int)≤4398046511104:=by omega
 unfold zBx at he;clear h hk hf
 by_cases h0:l.length=0
 ·rw[if_pos h0]at he;subst he;rw[h0];clear hni hll h0;go_enter Tryz.func206,Tryz.ntmps206;go_wp2;go_ret;exact⟨rfl,H.out⟩
 rw[if_neg h0]at he;have HR:=hQd (show errT [] (l.drop 0)=e by rw[List.drop_zero];exact he);have hz:((l.length:Int)==0)=false:=by rw[beq_eq_false_iff_ne];omega
 have hz2:¬l.length=0:=h0;clear he hll h0;go_enter Tryz.func206,Tryz.ntmps206;go_wp2;go_loopw [3,11] (fun av iv wr=>∃(k:Nat) (a:Bs),k≤l.length∧iv=I O k∧av=Z (bb a)∧Hid (errT a (l.drop k)=e)∧St W0 wr K L) (fun _ iv _=>l.length - (intOf iv).toNat)
 case atStart=>exact⟨0,[],Jd _,rfl,rfl,HR,H.out⟩
 case round=>
  obtain⟨k,a,hkl,rfl,rfl,HC,hst⟩:=hrel;clear H HR;have H:=hQd hst;clear hst
  by_cases hlt:k<l.length
  ·obtain⟨bk,off,hqq⟩:=zCk HK.out H.out oM;subst hqq;obtain⟨x,hx⟩:=eX (l[k]);have hmem:x∈l:=hx ▸ Ji hlt;obtain⟨hn1,hn2⟩:=HF.out x hmem;obtain⟨c0,c1⟩:=zBl HK.out H.out k hlt x hx;have HXK0:=zA7 HK.out hmem;have hc:=HC.out;rw[List.drop_eq_getElem_cons hlt,hx,zEy]at hc;have hkn:(k:Int)<(l.length:Int):=by omega
   obtain⟨nm,xl,xq,xcap⟩:=x;simp only at c0 c1 hc hn1 hn2 HXK0;have HXK:=hQd HXK0;have HNM:=hQd hn1;have HLN:=hQd hn2;clear hx hmem hn1 HXK0
   by_cases z:xl.length=0
   ·rw[if_pos z]at hc;subst hc;rw[z]at c1;clear z hn2;go_wp2_with fail;go_ret;exact⟨rfl,H.out.alloc _⟩
   rw[if_neg z]at hc;have z1:((xl.length:Int)==0)=false:=by rw[beq_eq_false_iff_ne];omega
   have z2:¬xl.length=0:=z;obtain⟨kr,hkr⟩:=eX (zAu nm);obtain⟨rp,hrp⟩:=eX (zEj (-1) xl);rw[hkr,hrp]at hc;have HKR:=hQd hkr;have HRP:=hQd hrp;clear z hn2 hkr hrp
   cases kr with
   |false=>
    simp only[Bool.false_and,Bool.false_eq_true,if_false]at hc;subst hc
    go_wp2_with (first
   |(go_at_call 88;(with_reducible refine(zAM nm false HKR.out HNM.out (H.out.allocRaw #[Z (bb nm),V xq xl.length xcap] 178)).mono ?_);rintro e_ wn ⟨rfl,h⟩;obtain⟨y0,y1⟩:=uR2 h;simp at y0 y1;replace H:=hQd h;clear h))
    go_ret;exact⟨rfl,H.out.drop⟩
   |true=>
    simp only[Bool.true_and]at hc
    cases hp:Op.bytesLess a nm with
    |false=>
     rw[hp]at hc;simp only[Bool.false_and,Bool.false_eq_true,if_false]at hc;subst hc
     rcases zQl nm a hp with g1|⟨g1,g2⟩
     ·clear hp
      go_wp2_with (first
   |(go_at_call 88;(with_reducible refine(zAM nm true HKR.out HNM.out (H.out.allocRaw #[Z (bb nm),V xq xl.length xcap] 178)).mono ?_);rintro e_ wn ⟨rfl,h⟩;obtain⟨y0,y1⟩:=uR2 h;simp at y0 y1;replace H:=hQd h;clear h))
      go_ret;exact⟨rfl,H.out.drop⟩
     ·clear hp
      go_wp2_with (first
   |(go_at_call 88;(with_reducible refine(zAM nm true HKR.out HNM.out (H.out.allocRaw #[Z (bb nm),V xq xl.length xcap] 178)).mono ?_);rintro e_ wn ⟨rfl,h⟩;obtain⟨y0,y1⟩:=uR2 h;simp at y0 y1;replace H:=hQd h;clear h))
      go_ret;exact⟨rfl,H.out.drop⟩
    |true=>
     rw[hp]at hc;simp only[Bool.true_and]at hc;obtain⟨g1,g2⟩:=zQk nm a hp;clear hp
     cases rp with
     |false=>
      simp only[Bool.false_eq_true,if_false]at hc;subst hc
      go_wp2_with (first
   |(go_at_call 88;(with_reducible refine(zAM nm true HKR.out HNM.out (H.out.allocRaw #[Z (bb nm),V xq xl.length xcap] 178)).mono ?_);rintro e_ wn ⟨rfl,h⟩;obtain⟨y0,y1⟩:=uR2 h;simp at y0 y1;replace H:=hQd h;clear h)
   |(go_at_call 239;clear y0 y1;(with_reducible refine(zH4 xl xq xcap false HRP.out HLN.out HXK.out H.out).mono ?_);rintro e_ wn ⟨rfl,h⟩;have y0:=h.rawCell 0;simp at y0;replace H:=hQd h;clear h))
      go_ret;exact⟨rfl,H.out.drop⟩
     |true=>
      rw[if_pos rfl]at hc;have HC2:=hQd hc;clear hc
      go_wp2_with (first
   |(go_at_call 88;(with_reducible refine(zAM nm true HKR.out HNM.out (H.out.allocRaw #[Z (bb nm),V xq xl.length xcap] 178)).mono ?_);rintro e_ wn ⟨rfl,h⟩;obtain⟨y0,y1⟩:=uR2 h;simp at y0 y1;replace H:=hQd h;clear h)
   |(go_at_call 239;clear y0 y1;(with_reducible refine(zH4 xl xq xcap true HRP.out HLN.out HXK.out H.out).mono ?_);rintro e_ wn ⟨rfl,h⟩;have y0:=h.rawCell 0;simp at y0;replace H:=hQd h;clear h))
      go_roundw
      case rel=>
       refine⟨k+1,nm,hlt,by go_num,rfl,HC2,?_⟩;exact H.out.drop
      case measure=>first|(simp[intOf];done)|(simp[intOf];omega)
  ·exact zq27
set_option maxHeartbeats 8000000
theorem zq8{p:Prop}(h:p:=by
  clear n0 he2 hv v3
  by_cases e0:e2=0
  · subst e0;rw[if_neg sM]at hep;rw[←hep]at hc;have HC2:=hQd hc;clear hc;go_wp2_with (go_at_call 240;(with_reducible refine(zEF (!nl) yl yq ycap 0 HBE.out HCK.out HYL.out HYK.out (H.out.allocRaw #[I O yi,V yq yl.length ycap] 181)).mono ?_);rintro e_ wn ⟨rfl,h⟩;have h:=h.drop;replace H:=hQd h;clear h);go_roundw
    case rel=>
     refine⟨j+1,hjt,by go_num,HC2,?_⟩;exact H.out
    case measure=>first|(simp[intOf];done)|(simp[intOf];omega)
  · rw[if_pos e0]at hep;subst hep;rw[if_pos e0]at hc;subst hc;have e1:(e2==0)=false:=by rw[beq_eq_false_iff_ne];exact e0
    have e3:(e2 !=0)=true:=by simp[bne,e1]
    clear e0;go_wp2_with (go_at_call 240;(with_reducible refine(zEF (!nl) yl yq ycap e2 HBE.out HCK.out HYL.out HYK.out (H.out.allocRaw #[I O yi,V yq yl.length ycap] 181)).mono ?_);rintro e_ wn ⟨rfl,h⟩;have h:=h.drop;replace H:=hQd h;clear h);go_ret;exact⟨rfl,H.out.drop⟩):p:=h
theorem zG9(nl:Bool)(dd:Bs)(ac tm v:Int)(l:List PTop)(q:Option Addr)(cap:Nat)(e:Int)(he:zD4 (!nl) v l=e)(hf:∀x∈l,CkT x)(hll:l.length≤4398046511104){W0 w:World}{K:Know}{L:List Res}(hk:K.has (Know.ptops (V q l.length cap) l))(h:St W0 w K L):
 Calls Jb 207 #[.agg #[U nl,Z (bb dd),I O ac,I O tm,V q l.length cap],I O v] w fun en w'=>en=Y (I O e)∧St W0 w' K L:=by
 obtain⟨rb,hrb⟩:=eX w.heap.size;have g1:=h.allocRaw #[U nl,Z (bb dd),I O ac,I O tm,V q l.length cap] 36;rw[hrb]at g1;have z0:=g1.rawCell 0;have z3:=g1.rawCell 4;simp at z0 z3;have H:=hQd g1;have HK:=hQd hk;have HF:=hQd hf;have HR:=hQd (show zD4 (!nl) v (l.drop 0)=e by rw[List.drop_zero];exact he);have hni:(l.length:Int)≤4398046511104:=by omega
 clear h g1 hk hf he hll;go_enter Tryz.func207,Tryz.ntmps207;go_wp2;clear z0 z3;go_loopw [13] (fun iv wr=>∃(k:Nat),k≤l.length∧iv=I O k∧Hid (zD4 (!nl) v (l.drop k)=e)∧St W0 wr K (.raw rb #[U nl,Z (bb dd),I O ac,I O tm,V q l.length cap] 36::L)) (fun iv _=>l.length - (intOf iv).toNat)
 case atStart=>exact⟨0,Jd _,rfl,HR,H.out⟩
 case round=>
  obtain⟨k,hkl,rfl,HC,hst⟩:=hrel;clear H HR;have H:=hQd hst;clear hst
  by_cases hlt:k<l.length
  ·obtain⟨bk,off,hqq⟩:=zCk HK.out H.out oM;obtain⟨x,hx⟩:=eX (l[k]);have hmem:x∈l:=hx ▸ Ji hlt;have hck:=HF.out x hmem;have HK':=HK.out;rw[hqq]at HK';obtain⟨c0,c1⟩:=zBl HK' H.out k hlt x hx;have HXK0:=zA7 HK.out hmem;have hc:=HC.out;rw[List.drop_eq_getElem_cons hlt,hx,zDH]at hc;have hkn:(k:Int)<(l.length:Int):=by omega
   obtain⟨nm,xl,xq,xcap⟩:=x;simp only at c0 c1 hc HXK0;have HXK:=hQd HXK0;have HPF:=hQd (show ∀y∈xl,CkP y from hck.parts);have hxl:xl.length≤4398046511104:=hck.len;have hxi:(xl.length:Int)≤4398046511104:=by omega
   have HIR:=hQd (show(if zDn (!nl) v (xl.drop 0)≠0 then zDn (!nl) v (xl.drop 0)else zD4 (!nl) v (l.drop (k+1)))=e by rw[List.drop_zero];exact hc);have HS:=hQd (H.out.alloc (.cells #[Z (bb nm),V xq xl.length xcap] 178 (0,0)));subst hqq;clear hx hmem hck HK' HXK0 hc hxl;go_wp2_with fail;go_loopw [20] (fun jv wr=>∃(j:Nat),j≤xl.length∧jv=I O j∧Hid ((if zDn (!nl) v (xl.drop j)≠0 then zDn (!nl) v (xl.drop j)else zD4 (!nl) v (l.drop (k+1)))=e)∧St W0 wr K (.raw rb #[U nl,Z (bb dd),I O ac,I O tm,V (some ⟨bk,off,none⟩) l.length cap] 36::L)) (fun jv _=>xl.length - (intOf jv).toNat)
   case atStart=>exact⟨0,Jd _,rfl,HIR,HS.out⟩
   case round=>
    obtain⟨j,hjl,rfl,HIC,hst⟩:=hrel;clear H HIR HS c0 c1;have H:=hQd hst;clear hst
    by_cases hjt:j<xl.length
    ·obtain⟨pk,poff,hpq⟩:=zBW HXK.out H.out oM;subst hpq;obtain⟨y,hy⟩:=eX (xl[j]);have hmem:y∈xl:=hy ▸ Ji hjt;have hck:=HPF.out y hmem;obtain⟨d0,d1⟩:=zA8 HXK.out H.out j hjt y hy;have HYK0:=zBh HXK.out hmem;have hc:=HIC.out;rw[List.drop_eq_getElem_cons hjt,hy]at hc;obtain⟨ep,hep⟩:=eX (zDn (!nl) v (y::xl.drop (j+1)));rw[hep]at hc;rw[zDG]at hep;have hjn:(j:Int)<(xl.length:Int):=by omega
     obtain⟨yi,yl,yq,ycap⟩:=y;simp only at d0 d1 hep HYK0;have HYK:=hQd HYK0;have HCK:=hQd (show ∀z∈yl,CkR z from hck.bats);have HYL:=hQd (show yl.length≤4398046511104 from hck.len);have z0:=(H.out.alloc (.cells #[I O yi,V yq yl.length ycap] 181 (0,0))).rawCell 0;simp at z0;clear hy hmem hck HYK0
     by_cases n0:yl.length=0
     ·rw[if_pos (Or.inl n0)]at hep;subst hep;rw[if_pos dD]at hc;subst hc;rw[n0]at d1 z0;clear n0 HCK HYL HYK;go_wp2_with fail;go_ret;exact⟨rfl,by first|exact H.out.drop|exact(H.out.alloc _).drop⟩
     have n1:((yl.length:Int)==0)=false:=by rw[beq_eq_false_iff_ne];omega
     have n2:¬yl.length=0:=n0
     by_cases hv:v=3∧1<yl.length
     ·rw[if_pos (Or.inr hv)]at hep;subst hep;rw[if_pos dD]at hc;subst hc;have v4:(v==3)=true:=by rw[hv.1];rfl
      have g2:(1:Int)<(yl.length:Int):=by omega
      clear n0 hv;go_wp2_with fail;go_ret;exact⟨rfl,by first|exact H.out.drop|exact(H.out.alloc _).drop⟩
     rw[if_neg (by intro hh;rcases hh with hh|hh;exact n0 hh;exact hv hh)]at hep;obtain⟨e2,he2⟩:=eX (zDo (!nl) yl);rw[he2]at hep;have HBE:=hQd he2
     by_cases v3:v=3
     ·have v4:(v==3)=true:=by rw[v3];rfl
      have g2:¬(1:Int)<(yl.length:Int):=by intro hh;exact hv ⟨v3,oM⟩
      exact zq8
     ·have v4:(v==3)=false:=by rw[beq_eq_false_iff_ne];exact v3
      exact zq8
    ·obtain rfl:j=xl.length:=by omega
     have hc:=HIC.out;rw[List.drop_length]at hc;have hc:(if (0:Int)≠0 then 0 else zD4 (!nl) v (l.drop (k+1)))=e:=hc;rw[if_neg sM]at hc;have HC2:=hQd hc;clear hc;go_wp2_with fail;go_roundw
     case rel=>
      refine⟨k+1,hlt,by go_num,HC2,?_⟩;exact H.out
     case measure=>first|(simp[intOf];done)|(simp[intOf];omega)
  ·obtain rfl:k=l.length:=by omega
   have hc:=HC.out;rw[List.drop_length]at hc;have hc:0=e:=hc;subst hc;go_wp2_with fail;go_ret;exact⟨rfl,H.out.drop⟩
variable {W0 w:World}{K:Know}{L:List Res}
theorem rqc_r0(nl:Bool)(dd:Bs)(ac tm v:Int)(l:List PTop)(q:Option Addr)(cap:Nat)(hdd:dd.length≤140737488355328)(hf:∀x∈l,CkT x)(hll:l.length≤4398046511104)(hr:(⟨nl,dd⟩:BlobS).right=false)(hk:K.has (Know.ptops (V q l.length cap) l))(h:St W0 w K L):
 Calls Jb 152 #[.agg #[U nl,Z (bb dd),I O ac,I O tm,V q l.length cap],I O v] w fun en w'=>en=Y (I O 4)∧St W0 w' K L:=by
 obtain⟨rb,hrb⟩:=eX w.heap.size;have g1:=h.allocRaw #[U nl,Z (bb dd),I O ac,I O tm,V q l.length cap] 36;rw[hrb]at g1;obtain⟨z0,z1,z2,z3,z4⟩:=uR5 g1;simp at z0 z1 z2 z3 z4;have H:=hQd g1;have HK:=hQd hk;have HF:=hQd hf;have HTF:=hQd (zBz hf);have HLL:=hQd hll;have HDL:=hQd hdd;have HBR:=hQd hr;clear h g1 hk hf hll hdd hr;go_enter Tryz.func152,Tryz.ntmps152
 go_wp2_with (first
  |(go_at_call 149;clear z0 z1 z2 z3 z4;(with_reducible refine(zAx nl dd false HBR.out H.out).mono ?_);rintro e_ wn ⟨rfl,h⟩;obtain⟨z0,z1,z2,z3,z4⟩:=uR5 h;simp at z0 z1 z2 z3 z4;replace H:=hQd h;clear h))
 go_ret;exact⟨rfl,H.out.drop⟩
theorem rqc_k0(dd:Bs)(ac tm v:Int)(l:List PTop)(q:Option Addr)(cap:Nat)(hdd:dd.length≤140737488355328)(hf:∀x∈l,CkT x)(hll:l.length≤4398046511104)(hr:(⟨false,dd⟩:BlobS).right=true)(hkr:zAu dd=false)(hk:K.has (Know.ptops (V q l.length cap) l))(h:St W0 w K L):
 Calls Jb 152 #[.agg #[U false,Z (bb dd),I O ac,I O tm,V q l.length cap],I O v] w fun en w'=>en=Y (I O 4)∧St W0 w' K L:=by
 obtain⟨rb,hrb⟩:=eX w.heap.size;have g1:=h.allocRaw #[U false,Z (bb dd),I O ac,I O tm,V q l.length cap] 36;rw[hrb]at g1;obtain⟨z0,z1,z2,z3,z4⟩:=uR5 g1;simp at z0 z1 z2 z3 z4;have H:=hQd g1;have HK:=hQd hk;have HF:=hQd hf;have HTF:=hQd (zBz hf);have HLL:=hQd hll;have HDL:=hQd hdd;have HBR:=hQd hr;have HKR:=hQd hkr;clear h g1 hk hf hll hdd hr hkr;go_enter Tryz.func152,Tryz.ntmps152
 go_wp2_with (first
  |(go_at_call 149;clear z0 z1 z2 z3 z4;(with_reducible refine(zAx false dd true HBR.out H.out).mono ?_);rintro e_ wn ⟨rfl,h⟩;obtain⟨z0,z1,z2,z3,z4⟩:=uR5 h;simp at z0 z1 z2 z3 z4;replace H:=hQd h;clear h)
  |(go_at_call 88;clear z0 z1 z2 z3 z4;(with_reducible refine(zAM dd false HKR.out HDL.out H.out).mono ?_);rintro e_ wn ⟨rfl,h⟩;obtain⟨z0,z1,z2,z3,z4⟩:=uR5 h;simp at z0 z1 z2 z3 z4;replace H:=hQd h;clear h))
 go_ret;exact⟨rfl,H.out.drop⟩
theorem zLZ(dd:Bs)(ac tm v:Int)(l:List PTop)(q:Option Addr)(cap:Nat)(hdd:dd.length≤140737488355328)(hf:∀x∈l,CkT x)(hll:l.length≤4398046511104)(hr:(⟨true,dd⟩:BlobS).right=true)(n1:ac< -1)(hk:K.has (Know.ptops (V q l.length cap) l))(h:St W0 w K L):
 Calls Jb 152 #[.agg #[U true,Z (bb dd),I O ac,I O tm,V q l.length cap],I O v] w fun en w'=>en=Y (I O 11)∧St W0 w' K L:=by
 obtain⟨rb,hrb⟩:=eX w.heap.size;have g1:=h.allocRaw #[U true,Z (bb dd),I O ac,I O tm,V q l.length cap] 36;rw[hrb]at g1;obtain⟨z0,z1,z2,z3,z4⟩:=uR5 g1;simp at z0 z1 z2 z3 z4;have H:=hQd g1;have HK:=hQd hk;have HF:=hQd hf;have HTF:=hQd (zBz hf);have HLL:=hQd hll;have HDL:=hQd hdd;have HBR:=hQd hr;have d1:decide (ac< -1)=true:=decide_eq_true n1;clear h g1 hk hf hll hdd hr n1;go_enter Tryz.func152,Tryz.ntmps152
 go_wp2_with (first
  |(go_at_call 149;clear z0 z1 z2 z3 z4;(with_reducible refine(zAx true dd true HBR.out H.out).mono ?_);rintro e_ wn ⟨rfl,h⟩;obtain⟨z0,z1,z2,z3,z4⟩:=uR5 h;simp at z0 z1 z2 z3 z4;replace H:=hQd h;clear h))
 go_ret;exact⟨rfl,H.out.drop⟩
theorem zLY(dd:Bs)(ac tm v:Int)(l:List PTop)(q:Option Addr)(cap:Nat)(hdd:dd.length≤140737488355328)(hf:∀x∈l,CkT x)(hll:l.length≤4398046511104)(hr:(⟨true,dd⟩:BlobS).right=true)(n1:¬ac< -1)(n2:1<ac)(hk:K.has (Know.ptops (V q l.length cap) l))(h:St W0 w K L):
 Calls Jb 152 #[.agg #[U true,Z (bb dd),I O ac,I O tm,V q l.length cap],I O v] w fun en w'=>en=Y (I O 11)∧St W0 w' K L:=by
 obtain⟨rb,hrb⟩:=eX w.heap.size;have g1:=h.allocRaw #[U true,Z (bb dd),I O ac,I O tm,V q l.length cap] 36;rw[hrb]at g1;obtain⟨z0,z1,z2,z3,z4⟩:=uR5 g1;simp at z0 z1 z2 z3 z4;have H:=hQd g1;have HK:=hQd hk;have HF:=hQd hf;have HTF:=hQd (zBz hf);have HLL:=hQd hll;have HDL:=hQd hdd;have HBR:=hQd hr;have d1:decide (ac< -1)=false:=decide_eq_false n1;have d2:decide (1<ac)=true:=decide_eq_true n2;clear h g1 hk hf hll hdd hr n1 n2;go_enter Tryz.func152,Tryz.ntmps152
 go_wp2_with (first
  |(go_at_call 149;clear z0 z1 z2 z3 z4;(with_reducible refine(zAx true dd true HBR.out H.out).mono ?_);rintro e_ wn ⟨rfl,h⟩;obtain⟨z0,z1,z2,z3,z4⟩:=uR5 h;simp at z0 z1 z2 z3 z4;replace H:=hQd h;clear h))
 go_ret;exact⟨rfl,H.out.drop⟩
theorem zLX(dd:Bs)(ac tm v:Int)(l:List PTop)(q:Option Addr)(cap:Nat)(hdd:dd.length≤140737488355328)(hf:∀x∈l,CkT x)(hll:l.length≤4398046511104)(hr:(⟨true,dd⟩:BlobS).right=true)(n1:¬ac< -1)(n2:¬1<ac)(n3:tm<0)(hk:K.has (Know.ptops (V q l.length cap) l))(h:St W0 w K L):
 Calls Jb 152 #[.agg #[U true,Z (bb dd),I O ac,I O tm,V q l.length cap],I O v] w fun en w'=>en=Y (I O 11)∧St W0 w' K L:=by
 obtain⟨rb,hrb⟩:=eX w.heap.size;have g1:=h.allocRaw #[U true,Z (bb dd),I O ac,I O tm,V q l.length cap] 36;rw[hrb]at g1;obtain⟨z0,z1,z2,z3,z4⟩:=uR5 g1;simp at z0 z1 z2 z3 z4;have H:=hQd g1;have HK:=hQd hk;have HF:=hQd hf;have HTF:=hQd (zBz hf);have HLL:=hQd hll;have HDL:=hQd hdd;have HBR:=hQd hr;have d1:decide (ac< -1)=false:=decide_eq_false n1;have d2:decide (1<ac)=false:=decide_eq_false n2;have d3:decide (tm<0)=true:=decide_eq_true n3;clear h g1 hk hf hll hdd hr n1 n2 n3;go_enter Tryz.func152,Tryz.ntmps152
 go_wp2_with (first
  |(go_at_call 149;clear z0 z1 z2 z3 z4;(with_reducible refine(zAx true dd true HBR.out H.out).mono ?_);rintro e_ wn ⟨rfl,h⟩;obtain⟨z0,z1,z2,z3,z4⟩:=uR5 h;simp at z0 z1 z2 z3 z4;replace H:=hQd h;clear h))
 go_ret;exact⟨rfl,H.out.drop⟩
theorem zLW(dd:Bs)(ac tm v:Int)(l:List PTop)(q:Option Addr)(cap:Nat)(hdd:dd.length≤140737488355328)(hf:∀x∈l,CkT x)(hll:l.length≤4398046511104)(hr:(⟨true,dd⟩:BlobS).right=true)(n1:¬ac< -1)(n2:¬1<ac)(n3:¬tm<0)(n4:2147483647<tm)(hk:K.has (Know.ptops (V q l.length cap) l))(h:St W0 w K L):
 Calls Jb 152 #[.agg #[U true,Z (bb dd),I O ac,I O tm,V q l.length cap],I O v] w fun en w'=>en=Y (I O 11)∧St W0 w' K L:=by
 obtain⟨rb,hrb⟩:=eX w.heap.size;have g1:=h.allocRaw #[U true,Z (bb dd),I O ac,I O tm,V q l.length cap] 36;rw[hrb]at g1;obtain⟨z0,z1,z2,z3,z4⟩:=uR5 g1;simp at z0 z1 z2 z3 z4;have H:=hQd g1;have HK:=hQd hk;have HF:=hQd hf;have HTF:=hQd (zBz hf);have HLL:=hQd hll;have HDL:=hQd hdd;have HBR:=hQd hr;have d1:decide (ac< -1)=false:=decide_eq_false n1;have d2:decide (1<ac)=false:=decide_eq_false n2;have d3:decide (tm<0)=false:=decide_eq_false n3;have d4:decide (2147483647<tm)=true:=decide_eq_true n4;clear h g1 hk hf hll hdd hr n1 n2 n3 n4;go_enter Tryz.func152,Tryz.ntmps152
 go_wp2_with (first
  |(go_at_call 149;clear z0 z1 z2 z3 z4;(with_reducible refine(zAx true dd true HBR.out H.out).mono ?_);rintro e_ wn ⟨rfl,h⟩;obtain⟨z0,z1,z2,z3,z4⟩:=uR5 h;simp at z0 z1 z2 z3 z4;replace H:=hQd h;clear h))
 go_ret;exact⟨rfl,H.out.drop⟩
theorem zOa(dd:Bs)(ac tm v:Int)(l:List PTop)(q:Option Addr)(cap:Nat)(hdd:dd.length≤140737488355328)(hf:∀x∈l,CkT x)(hll:l.length≤4398046511104)(hr:(⟨true,dd⟩:BlobS).right=true)(n1:¬ac< -1)(n2:¬1<ac)(n3:¬tm<0)(n4:¬2147483647<tm)(e:Int)(het:zBx l=e)(h0:e≠0)(hk:K.has (Know.ptops (V q l.length cap) l))(h:St W0 w K L):
 Calls Jb 152 #[.agg #[U true,Z (bb dd),I O ac,I O tm,V q l.length cap],I O v] w fun en w'=>en=Y (I O e)∧St W0 w' K L:=by
 obtain⟨rb,hrb⟩:=eX w.heap.size;have g1:=h.allocRaw #[U true,Z (bb dd),I O ac,I O tm,V q l.length cap] 36;rw[hrb]at g1;obtain⟨z0,z1,z2,z3,z4⟩:=uR5 g1;simp at z0 z1 z2 z3 z4;have H:=hQd g1;have HK:=hQd hk;have HF:=hQd hf;have HTF:=hQd (zBz hf);have HLL:=hQd hll;have HDL:=hQd hdd;have HBR:=hQd hr;have d1:decide (ac< -1)=false:=decide_eq_false n1;have d2:decide (1<ac)=false:=decide_eq_false n2;have d3:decide (tm<0)=false:=decide_eq_false n3;have d4:decide (2147483647<tm)=false:=decide_eq_false n4;have HET:=hQd het;have e1:(e==0)=false:=by rw[beq_eq_false_iff_ne];exact h0
 have e3:(e !=0)=true:=by simp[bne,e1]
 clear h g1 hk hf hll hdd hr n1 n2 n3 n4 het h0;go_enter Tryz.func152,Tryz.ntmps152
 go_wp2_with (first
  |(go_at_call 149;clear z0 z1 z2 z3 z4;(with_reducible refine(zAx true dd true HBR.out H.out).mono ?_);rintro e_ wn ⟨rfl,h⟩;obtain⟨z0,z1,z2,z3,z4⟩:=uR5 h;simp at z0 z1 z2 z3 z4;replace H:=hQd h;clear h)
  |(go_at_call 206;clear z0 z1 z2 z3 z4;(with_reducible refine(zCm l q cap e HET.out HTF.out HLL.out HK.out H.out).mono ?_);rintro e_ wn ⟨rfl,h⟩;obtain⟨z0,z1,z2,z3,z4⟩:=uR5 h;simp at z0 z1 z2 z3 z4;replace H:=hQd h;clear h))
 go_ret;exact⟨rfl,H.out.drop⟩
theorem zOb(dd:Bs)(ac tm v:Int)(l:List PTop)(q:Option Addr)(cap:Nat)(hdd:dd.length≤140737488355328)(hf:∀x∈l,CkT x)(hll:l.length≤4398046511104)(hr:(⟨true,dd⟩:BlobS).right=true)(n1:¬ac< -1)(n2:¬1<ac)(n3:¬tm<0)(n4:¬2147483647<tm)(het:zBx l=0)(e:Int)(hep:zD4 (!true) v l=e)(hk:K.has (Know.ptops (V q l.length cap) l))(h:St W0 w K L):
 Calls Jb 152 #[.agg #[U true,Z (bb dd),I O ac,I O tm,V q l.length cap],I O v] w fun en w'=>en=Y (I O e)∧St W0 w' K L:=by
 obtain⟨rb,hrb⟩:=eX w.heap.size;have g1:=h.allocRaw #[U true,Z (bb dd),I O ac,I O tm,V q l.length cap] 36;rw[hrb]at g1;obtain⟨z0,z1,z2,z3,z4⟩:=uR5 g1;simp at z0 z1 z2 z3 z4;have H:=hQd g1;have HK:=hQd hk;have HF:=hQd hf;have HTF:=hQd (zBz hf);have HLL:=hQd hll;have HDL:=hQd hdd;have HBR:=hQd hr;have d1:decide (ac< -1)=false:=decide_eq_false n1;have d2:decide (1<ac)=false:=decide_eq_false n2;have d3:decide (tm<0)=false:=decide_eq_false n3;have d4:decide (2147483647<tm)=false:=decide_eq_false n4;have HET:=hQd het;have HEP:=hQd hep;clear h g1 hk hf hll hdd hr n1 n2 n3 n4 het hep;go_enter Tryz.func152,Tryz.ntmps152
 go_wp2_with (first
  |(go_at_call 149;clear z0 z1 z2 z3 z4;(with_reducible refine(zAx true dd true HBR.out H.out).mono ?_);rintro e_ wn ⟨rfl,h⟩;obtain⟨z0,z1,z2,z3,z4⟩:=uR5 h;simp at z0 z1 z2 z3 z4;replace H:=hQd h;clear h)
  |(go_at_call 206;clear z0 z1 z2 z3 z4;(with_reducible refine(zCm l q cap 0 HET.out HTF.out HLL.out HK.out H.out).mono ?_);rintro e_ wn ⟨rfl,h⟩;obtain⟨z0,z1,z2,z3,z4⟩:=uR5 h;simp at z0 z1 z2 z3 z4;replace H:=hQd h;clear h)
  |(go_at_call 207;clear z0 z1 z2 z3 z4;(with_reducible refine(zG9 true dd ac tm v l q cap e HEP.out HF.out HLL.out HK.out H.out).mono ?_);rintro e_ wn ⟨rfl,h⟩;obtain⟨z0,z1,z2,z3,z4⟩:=uR5 h;simp at z0 z1 z2 z3 z4;replace H:=hQd h;clear h))
 go_ret;exact⟨rfl,H.out.drop⟩
theorem zKj(dd:Bs)(ac tm v:Int)(l:List PTop)(q:Option Addr)(cap:Nat)(hdd:dd.length≤140737488355328)(hf:∀x∈l,CkT x)(hll:l.length≤4398046511104)(hr:(⟨false,dd⟩:BlobS).right=true)(hkr:zAu dd=true)(n1:ac< -1)(hk:K.has (Know.ptops (V q l.length cap) l))(h:St W0 w K L):
 Calls Jb 152 #[.agg #[U false,Z (bb dd),I O ac,I O tm,V q l.length cap],I O v] w fun en w'=>en=Y (I O 11)∧St W0 w' K L:=by
 obtain⟨rb,hrb⟩:=eX w.heap.size;have g1:=h.allocRaw #[U false,Z (bb dd),I O ac,I O tm,V q l.length cap] 36;rw[hrb]at g1;obtain⟨z0,z1,z2,z3,z4⟩:=uR5 g1;simp at z0 z1 z2 z3 z4;have H:=hQd g1;have HK:=hQd hk;have HF:=hQd hf;have HTF:=hQd (zBz hf);have HLL:=hQd hll;have HDL:=hQd hdd;have HBR:=hQd hr;have HKR:=hQd hkr;have d1:decide (ac< -1)=true:=decide_eq_true n1;clear h g1 hk hf hll hdd hr hkr n1;go_enter Tryz.func152,Tryz.ntmps152
 go_wp2_with (first
  |(go_at_call 149;clear z0 z1 z2 z3 z4;(with_reducible refine(zAx false dd true HBR.out H.out).mono ?_);rintro e_ wn ⟨rfl,h⟩;obtain⟨z0,z1,z2,z3,z4⟩:=uR5 h;simp at z0 z1 z2 z3 z4;replace H:=hQd h;clear h)
  |(go_at_call 88;clear z0 z1 z2 z3 z4;(with_reducible refine(zAM dd true HKR.out HDL.out H.out).mono ?_);rintro e_ wn ⟨rfl,h⟩;obtain⟨z0,z1,z2,z3,z4⟩:=uR5 h;simp at z0 z1 z2 z3 z4;replace H:=hQd h;clear h))
 go_ret;exact⟨rfl,H.out.drop⟩
theorem zKi(dd:Bs)(ac tm v:Int)(l:List PTop)(q:Option Addr)(cap:Nat)(hdd:dd.length≤140737488355328)(hf:∀x∈l,CkT x)(hll:l.length≤4398046511104)(hr:(⟨false,dd⟩:BlobS).right=true)(hkr:zAu dd=true)(n1:¬ac< -1)(n2:1<ac)(hk:K.has (Know.ptops (V q l.length cap) l))(h:St W0 w K L):
 Calls Jb 152 #[.agg #[U false,Z (bb dd),I O ac,I O tm,V q l.length cap],I O v] w fun en w'=>en=Y (I O 11)∧St W0 w' K L:=by
 obtain⟨rb,hrb⟩:=eX w.heap.size;have g1:=h.allocRaw #[U false,Z (bb dd),I O ac,I O tm,V q l.length cap] 36;rw[hrb]at g1;obtain⟨z0,z1,z2,z3,z4⟩:=uR5 g1;simp at z0 z1 z2 z3 z4;have H:=hQd g1;have HK:=hQd hk;have HF:=hQd hf;have HTF:=hQd (zBz hf);have HLL:=hQd hll;have HDL:=hQd hdd;have HBR:=hQd hr;have HKR:=hQd hkr;have d1:decide (ac< -1)=false:=decide_eq_false n1;have d2:decide (1<ac)=true:=decide_eq_true n2;clear h g1 hk hf hll hdd hr hkr n1 n2;go_enter Tryz.func152,Tryz.ntmps152
 go_wp2_with (first
  |(go_at_call 149;clear z0 z1 z2 z3 z4;(with_reducible refine(zAx false dd true HBR.out H.out).mono ?_);rintro e_ wn ⟨rfl,h⟩;obtain⟨z0,z1,z2,z3,z4⟩:=uR5 h;simp at z0 z1 z2 z3 z4;replace H:=hQd h;clear h)
  |(go_at_call 88;clear z0 z1 z2 z3 z4;(with_reducible refine(zAM dd true HKR.out HDL.out H.out).mono ?_);rintro e_ wn ⟨rfl,h⟩;obtain⟨z0,z1,z2,z3,z4⟩:=uR5 h;simp at z0 z1 z2 z3 z4;replace H:=hQd h;clear h))
 go_ret;exact⟨rfl,H.out.drop⟩
theorem zKh(dd:Bs)(ac tm v:Int)(l:List PTop)(q:Option Addr)(cap:Nat)(hdd:dd.length≤140737488355328)(hf:∀x∈l,CkT x)(hll:l.length≤4398046511104)(hr:(⟨false,dd⟩:BlobS).right=true)(hkr:zAu dd=true)(n1:¬ac< -1)(n2:¬1<ac)(n3:tm<0)(hk:K.has (Know.ptops (V q l.length cap) l))(h:St W0 w K L):
 Calls Jb 152 #[.agg #[U false,Z (bb dd),I O ac,I O tm,V q l.length cap],I O v] w fun en w'=>en=Y (I O 11)∧St W0 w' K L:=by
 obtain⟨rb,hrb⟩:=eX w.heap.size;have g1:=h.allocRaw #[U false,Z (bb dd),I O ac,I O tm,V q l.length cap] 36;rw[hrb]at g1;obtain⟨z0,z1,z2,z3,z4⟩:=uR5 g1;simp at z0 z1 z2 z3 z4;have H:=hQd g1;have HK:=hQd hk;have HF:=hQd hf;have HTF:=hQd (zBz hf);have HLL:=hQd hll;have HDL:=hQd hdd;have HBR:=hQd hr;have HKR:=hQd hkr;have d1:decide (ac< -1)=false:=decide_eq_false n1;have d2:decide (1<ac)=false:=decide_eq_false n2;have d3:decide (tm<0)=true:=decide_eq_true n3;clear h g1 hk hf hll hdd hr hkr n1 n2 n3;go_enter Tryz.func152,Tryz.ntmps152
 go_wp2_with (first
  |(go_at_call 149;clear z0 z1 z2 z3 z4;(with_reducible refine(zAx false dd true HBR.out H.out).mono ?_);rintro e_ wn ⟨rfl,h⟩;obtain⟨z0,z1,z2,z3,z4⟩:=uR5 h;simp at z0 z1 z2 z3 z4;replace H:=hQd h;clear h)
  |(go_at_call 88;clear z0 z1 z2 z3 z4;(with_reducible refine(zAM dd true HKR.out HDL.out H.out).mono ?_);rintro e_ wn ⟨rfl,h⟩;obtain⟨z0,z1,z2,z3,z4⟩:=uR5 h;simp at z0 z1 z2 z3 z4;replace H:=hQd h;clear h))
 go_ret;exact⟨rfl,H.out.drop⟩
theorem zKg(dd:Bs)(ac tm v:Int)(l:List PTop)(q:Option Addr)(cap:Nat)(hdd:dd.length≤140737488355328)(hf:∀x∈l,CkT x)(hll:l.length≤4398046511104)(hr:(⟨false,dd⟩:BlobS).right=true)(hkr:zAu dd=true)(n1:¬ac< -1)(n2:¬1<ac)(n3:¬tm<0)(n4:2147483647<tm)(hk:K.has (Know.ptops (V q l.length cap) l))(h:St W0 w K L):
 Calls Jb 152 #[.agg #[U false,Z (bb dd),I O ac,I O tm,V q l.length cap],I O v] w fun en w'=>en=Y (I O 11)∧St W0 w' K L:=by
 obtain⟨rb,hrb⟩:=eX w.heap.size;have g1:=h.allocRaw #[U false,Z (bb dd),I O ac,I O tm,V q l.length cap] 36;rw[hrb]at g1;obtain⟨z0,z1,z2,z3,z4⟩:=uR5 g1;simp at z0 z1 z2 z3 z4;have H:=hQd g1;have HK:=hQd hk;have HF:=hQd hf;have HTF:=hQd (zBz hf);have HLL:=hQd hll;have HDL:=hQd hdd;have HBR:=hQd hr;have HKR:=hQd hkr;have d1:decide (ac< -1)=false:=decide_eq_false n1;have d2:decide (1<ac)=false:=decide_eq_false n2;have d3:decide (tm<0)=false:=decide_eq_false n3;have d4:decide (2147483647<tm)=true:=decide_eq_true n4;clear h g1 hk hf hll hdd hr hkr n1 n2 n3 n4;go_enter Tryz.func152,Tryz.ntmps152
 go_wp2_with (first
  |(go_at_call 149;clear z0 z1 z2 z3 z4;(with_reducible refine(zAx false dd true HBR.out H.out).mono ?_);rintro e_ wn ⟨rfl,h⟩;obtain⟨z0,z1,z2,z3,z4⟩:=uR5 h;simp at z0 z1 z2 z3 z4;replace H:=hQd h;clear h)
  |(go_at_call 88;clear z0 z1 z2 z3 z4;(with_reducible refine(zAM dd true HKR.out HDL.out H.out).mono ?_);rintro e_ wn ⟨rfl,h⟩;obtain⟨z0,z1,z2,z3,z4⟩:=uR5 h;simp at z0 z1 z2 z3 z4;replace H:=hQd h;clear h))
 go_ret;exact⟨rfl,H.out.drop⟩
theorem zLU(dd:Bs)(ac tm v:Int)(l:List PTop)(q:Option Addr)(cap:Nat)(hdd:dd.length≤140737488355328)(hf:∀x∈l,CkT x)(hll:l.length≤4398046511104)(hr:(⟨false,dd⟩:BlobS).right=true)(hkr:zAu dd=true)(n1:¬ac< -1)(n2:¬1<ac)(n3:¬tm<0)(n4:¬2147483647<tm)(e:Int)(het:zBx l=e)(h0:e≠0)(hk:K.has (Know.ptops (V q l.length cap) l))(h:St W0 w K L):
 Calls Jb 152 #[.agg #[U false,Z (bb dd),I O ac,I O tm,V q l.length cap],I O v] w fun en w'=>en=Y (I O e)∧St W0 w' K L:=by
 obtain⟨rb,hrb⟩:=eX w.heap.size;have g1:=h.allocRaw #[U false,Z (bb dd),I O ac,I O tm,V q l.length cap] 36;rw[hrb]at g1;obtain⟨z0,z1,z2,z3,z4⟩:=uR5 g1;simp at z0 z1 z2 z3 z4;have H:=hQd g1;have HK:=hQd hk;have HF:=hQd hf;have HTF:=hQd (zBz hf);have HLL:=hQd hll;have HDL:=hQd hdd;have HBR:=hQd hr;have HKR:=hQd hkr;have d1:decide (ac< -1)=false:=decide_eq_false n1;have d2:decide (1<ac)=false:=decide_eq_false n2;have d3:decide (tm<0)=false:=decide_eq_false n3;have d4:decide (2147483647<tm)=false:=decide_eq_false n4;have HET:=hQd het;have e1:(e==0)=false:=by rw[beq_eq_false_iff_ne];exact h0
 have e3:(e !=0)=true:=by simp[bne,e1]
 clear h g1 hk hf hll hdd hr hkr n1 n2 n3 n4 het h0;go_enter Tryz.func152,Tryz.ntmps152
 go_wp2_with (first
  |(go_at_call 149;clear z0 z1 z2 z3 z4;(with_reducible refine(zAx false dd true HBR.out H.out).mono ?_);rintro e_ wn ⟨rfl,h⟩;obtain⟨z0,z1,z2,z3,z4⟩:=uR5 h;simp at z0 z1 z2 z3 z4;replace H:=hQd h;clear h)
  |(go_at_call 88;clear z0 z1 z2 z3 z4;(with_reducible refine(zAM dd true HKR.out HDL.out H.out).mono ?_);rintro e_ wn ⟨rfl,h⟩;obtain⟨z0,z1,z2,z3,z4⟩:=uR5 h;simp at z0 z1 z2 z3 z4;replace H:=hQd h;clear h)
  |(go_at_call 206;clear z0 z1 z2 z3 z4;(with_reducible refine(zCm l q cap e HET.out HTF.out HLL.out HK.out H.out).mono ?_);rintro e_ wn ⟨rfl,h⟩;obtain⟨z0,z1,z2,z3,z4⟩:=uR5 h;simp at z0 z1 z2 z3 z4;replace H:=hQd h;clear h))
 go_ret;exact⟨rfl,H.out.drop⟩
theorem zLV(dd:Bs)(ac tm v:Int)(l:List PTop)(q:Option Addr)(cap:Nat)(hdd:dd.length≤140737488355328)(hf:∀x∈l,CkT x)(hll:l.length≤4398046511104)(hr:(⟨false,dd⟩:BlobS).right=true)(hkr:zAu dd=true)(n1:¬ac< -1)(n2:¬1<ac)(n3:¬tm<0)(n4:¬2147483647<tm)(het:zBx l=0)(e:Int)(hep:zD4 (!false) v l=e)(hk:K.has (Know.ptops (V q l.length cap) l))(h:St W0 w K L):
 Calls Jb 152 #[.agg #[U false,Z (bb dd),I O ac,I O tm,V q l.length cap],I O v] w fun en w'=>en=Y (I O e)∧St W0 w' K L:=by
 obtain⟨rb,hrb⟩:=eX w.heap.size;have g1:=h.allocRaw #[U false,Z (bb dd),I O ac,I O tm,V q l.length cap] 36;rw[hrb]at g1;obtain⟨z0,z1,z2,z3,z4⟩:=uR5 g1;simp at z0 z1 z2 z3 z4;have H:=hQd g1;have HK:=hQd hk;have HF:=hQd hf;have HTF:=hQd (zBz hf);have HLL:=hQd hll;have HDL:=hQd hdd;have HBR:=hQd hr;have HKR:=hQd hkr;have d1:decide (ac< -1)=false:=decide_eq_false n1;have d2:decide (1<ac)=false:=decide_eq_false n2;have d3:decide (tm<0)=false:=decide_eq_false n3;have d4:decide (2147483647<tm)=false:=decide_eq_false n4;have HET:=hQd het;have HEP:=hQd hep;clear h g1 hk hf hll hdd hr hkr n1 n2 n3 n4 het hep;go_enter Tryz.func152,Tryz.ntmps152
 go_wp2_with (first
  |(go_at_call 149;clear z0 z1 z2 z3 z4;(with_reducible refine(zAx false dd true HBR.out H.out).mono ?_);rintro e_ wn ⟨rfl,h⟩;obtain⟨z0,z1,z2,z3,z4⟩:=uR5 h;simp at z0 z1 z2 z3 z4;replace H:=hQd h;clear h)
  |(go_at_call 88;clear z0 z1 z2 z3 z4;(with_reducible refine(zAM dd true HKR.out HDL.out H.out).mono ?_);rintro e_ wn ⟨rfl,h⟩;obtain⟨z0,z1,z2,z3,z4⟩:=uR5 h;simp at z0 z1 z2 z3 z4;replace H:=hQd h;clear h)
  |(go_at_call 206;clear z0 z1 z2 z3 z4;(with_reducible refine(zCm l q cap 0 HET.out HTF.out HLL.out HK.out H.out).mono ?_);rintro e_ wn ⟨rfl,h⟩;obtain⟨z0,z1,z2,z3,z4⟩:=uR5 h;simp at z0 z1 z2 z3 z4;replace H:=hQd h;clear h)
  |(go_at_call 207;clear z0 z1 z2 z3 z4;(with_reducible refine(zG9 false dd ac tm v l q cap e HEP.out HF.out HLL.out HK.out H.out).mono ?_);rintro e_ wn ⟨rfl,h⟩;obtain⟨z0,z1,z2,z3,z4⟩:=uR5 h;simp at z0 z1 z2 z3 z4;replace H:=hQd h;clear h))
 go_ret;exact⟨rfl,H.out.drop⟩
theorem zCz(nl:Bool)(dd:Bs)(ac tm v:Int)(l:List PTop)(q:Option Addr)(cap:Nat)(hdd:dd.length≤140737488355328)(hf:∀x∈l,CkT x)(hll:l.length≤4398046511104)(e:Int)(he:zA9 ⟨nl,dd⟩ ac tm v l=e){W0 w:World}{K:Know}{L:List Res}(hk:K.has (Know.ptops (V q l.length cap) l))(h:St W0 w K L):
 Calls Jb 152 #[.agg #[U nl,Z (bb dd),I O ac,I O tm,V q l.length cap],I O v] w fun en w'=>en=Y (I O e)∧St W0 w' K L:=by
 unfold zA9 at he
 cases hr:(⟨nl,dd⟩:BlobS).right with
 |false=>
  rw[if_pos (.inl hr)]at he;subst he;exact rqc_r0 nl dd ac tm v l q cap hdd hf hll hr hk h
 |true=>
  cases nl with
  |true=>
   rw[if_neg (by simp[hr])]at he
   by_cases n1:ac< -1
   ·rw[if_pos (.inl n1)]at he;subst he;exact zLZ dd ac tm v l q cap hdd hf hll hr n1 hk h
   by_cases n2:1<ac
   ·rw[if_pos (.inr (.inl n2))]at he;subst he;exact zLY dd ac tm v l q cap hdd hf hll hr n1 n2 hk h
   by_cases n3:tm<0
   ·rw[if_pos (.inr (.inr (.inl n3)))]at he;subst he;exact zLX dd ac tm v l q cap hdd hf hll hr n1 n2 n3 hk h
   by_cases n4:2147483647<tm
   ·rw[if_pos (.inr (.inr (.inr n4)))]at he;subst he;exact zLW dd ac tm v l q cap hdd hf hll hr n1 n2 n3 n4 hk h
   rw[if_neg oM]at he
   by_cases ht:zBx l=0
   ·rw[if_neg (by simp[ht])]at he;exact zOb dd ac tm v l q cap hdd hf hll hr n1 n2 n3 n4 ht e he hk h
   ·rw[if_pos ht]at he;exact zOa dd ac tm v l q cap hdd hf hll hr n1 n2 n3 n4 e he (by rw[←he];exact ht) hk h
  |false=>
   cases hkr:zAu dd with
   |false=>
    rw[if_pos (.inr ⟨rfl,hkr⟩)]at he;subst he;exact rqc_k0 dd ac tm v l q cap hdd hf hll hr hkr hk h
   |true=>
    rw[if_neg (by simp[hr,hkr])]at he
    by_cases n1:ac< -1
    ·rw[if_pos (.inl n1)]at he;subst he;exact zKj dd ac tm v l q cap hdd hf hll hr hkr n1 hk h
    by_cases n2:1<ac
    ·rw[if_pos (.inr (.inl n2))]at he;subst he;exact zKi dd ac tm v l q cap hdd hf hll hr hkr n1 n2 hk h
    by_cases n3:tm<0
    ·rw[if_pos (.inr (.inr (.inl n3)))]at he;subst he;exact zKh dd ac tm v l q cap hdd hf hll hr hkr n1 n2 n3 hk h
    by_cases n4:2147483647<tm
    ·rw[if_pos (.inr (.inr (.inr n4)))]at he;subst he;exact zKg dd ac tm v l q cap hdd hf hll hr hkr n1 n2 n3 n4 hk h
    rw[if_neg oM]at he
    by_cases ht:zBx l=0
    ·rw[if_neg (by simp[ht])]at he;exact zLV dd ac tm v l q cap hdd hf hll hr hkr n1 n2 n3 n4 ht e he hk h
    ·rw[if_pos ht]at he;exact zLU dd ac tm v l q cap hdd hf hll hr hkr n1 n2 n3 n4 e he (by rw[←he];exact ht) hk h
theorem zHg(a sl:Value)(w:World):(Instr.buildSlice 34 1 #[(0,.agg #[a,sl])]).run Jb w=.ok (V (some ⟨w.heap.size,0,none⟩) 1 1) (w.alloc (.cells #[a,sl] 178 (0,0))):=by go_simp
theorem zCW{o:Oper}{ρ:Operand→Value}(ps:Array (Nat×Value))(v:Value)(w w':World)(ho:execOp ρ o=(do pure (Next.value (←Instr.buildSlice 34 1 ps))))(hb:(Instr.buildSlice 34 1 ps).run Jb w=.ok v w'):(execOp ρ o).run Jb w=.ok (.value v) w':=by
 rw[ho];simp[hb]
theorem St.sets5P{b:Nat}{T:TypeId}{a0 a1 a2 a3 a4:Value}(v0 v1 v2 v3 v4:Value)(h:St W0 w K (.raw b #[a0,a1,a2,a3,a4] T::L)):St W0 (((((w.setCell ⟨b,0,none⟩ v0).setCell ⟨b,1,none⟩ v1).setCell ⟨b,2,none⟩ v2).setCell ⟨b,3,none⟩ v3).setCell ⟨b,4,none⟩ v4) K (.raw b #[v0,v1,v2,v3,v4] T::L):=by
 have h:St W0 _ K (.raw b #[v0,a1,a2,a3,a4] T::L):=h.rawSet 0 v0;have h:St W0 _ K (.raw b #[v0,v1,a2,a3,a4] T::L):=h.rawSet 1 v1;have h:St W0 _ K (.raw b #[v0,v1,v2,a3,a4] T::L):=h.rawSet 2 v2;have h:St W0 _ K (.raw b #[v0,v1,v2,v3,a4] T::L):=h.rawSet 3 v3;have h:St W0 _ K (.raw b #[v0,v1,v2,v3,v4] T::L):=h.rawSet 4 v4;exact h
theorem St.freezeTopsK{v:Value}{T:TypeId}{l:List PTop}{k:Nat}{xs:List Value}(h:St W0 w K (.row v T 2 k xs::L))(hk:k=l.length)(hx:xs=l.flatMap zE8)(ht:∀x∈l,K.has (Know.pparts (V x.q x.l.length x.cap) x.l)):St W0 w (K.and (Know.ptops v l)) L:=by
 subst hk;subst hx;exact h.freezeTopsP ht
theorem zGs(nl:Bool)(dd:Bs)(ac tm v:Int)(l:List PTop)(q:Option Addr)(cap n:Nat)(hn:n=l.length)(hdd:dd.length≤140737488355328)(hf:∀x∈l,CkT x)(hll:l.length≤4398046511104)(e:Int)(he:zA9 ⟨nl,dd⟩ ac tm v l=e)(hk:K.has (Know.ptops (V q n cap) l))(h:St W0 w K L):
 Calls Jb 152 #[.agg #[U nl,Z (bb dd),I O ac,I O tm,V q n cap],I O v] w fun en w'=>en=Y (I O e)∧St W0 w' K L:=by
 subst hn;exact zCz nl dd ac tm v l q cap hdd hf hll e he hk h
theorem zA1{α β:Type}(f:α→β)(l:List α)(k:Nat)(h:k<l.length)(x:β)(hx:f l[k]=x):(l.map f).take (k+1)=(l.map f).take k++[x]:=by
 have h2:k<(l.map f).length:=by simpa using h
 rw[Jf h2,List.getElem_map,hx]
theorem zCp{α β:Type}(f:α→β)(l m:List α)(k:Nat)(h1:k<l.length)(h2:k<m.length)(x y:β)(hx:f l[k]=x)(hy:f m[k]=y)(h:x≠y):l.map f≠m.map f:=by
 intro he
 apply h
 have e1:(l.map f)[k]? =some x:=by rw[List.getElem?_map,List.getElem?_eq_getElem h1];simp[hx]
 have e2:(m.map f)[k]? =some y:=by rw[List.getElem?_map,List.getElem?_eq_getElem h2];simp[hy]
 rw[he,e2]at e1
 simpa using e1.symm
theorem zD2{α β:Type}(f:α→β)(l m:List α)(h:l.length≠m.length):l.map f≠m.map f:=fun hh=>h (by have:=congrArg List.length hh;simpa using this)
structure EqR (x:BatR):Prop where
 len:x.l.length≤1000000
 recs:x.l.map (·.1)=x.b.recs
 hdrs:∀y∈x.l,y.1.hdrs.length≤9223372036854775807
def SmP (y:PartR):Prop:=∀z∈y.l,zBj (z.l.map (·.1))=true
def SmT (x:PTop):Prop:=∀y∈x.l,SmP y
def zCv:List PartR→Nat
 |[]=>0
 |y::t=>10+100*y.l.length+zCv t
def zBU:List PTop→Nat
 |[]=>0
 |x::t=>x.name.length+10+zCv x.l+zBU t
theorem zKc(l m:List PartR):zCv (l++m)=zCv l+zCv m:=by
 induction l with
 |nil=>simp[zCv]
 |cons x t ih=>simp only[List.cons_append,zCv,ih];omega
theorem zJ9(l m:List PTop):zBU (l++m)=zBU l+zBU m:=by
 induction l with
 |nil=>simp[zBU]
 |cons x t ih=>simp only[List.cons_append,zBU,ih];omega
def AllP (l:List PTop):Prop:=∀x∈l,x.l.length≠0
def FewI20 (dl:Nat) (l:List PTop) (k:Nat) (z:Int):Prop:=
 (∀x∈l.take k,SmT x)∧(∀j,j≤k→AllP (l.take j)→j=0∨dl+zBU (l.take j)≤2000)∧(AllP (l.take k)→z=dl+zBU (l.take k))
def FewJ (dl:Nat) (l:List PTop) (k:Nat) (x:PTop) (j:Nat) (z:Int):Prop:=
 (∀y∈x.l.take j,SmP y)∧(AllP (l.take k)→z=dl+zBU (l.take k)+x.name.length+10+zCv (x.l.take j)∧(j=0∨z≤2000))
def FewR (dl:Nat) (l:List PTop) (r:Int):Prop:=
 r=0∨(r=1∧(∀x∈l,SmT x)∧(∀j,j≤l.length→AllP (l.take j)→j=0∨dl+zBU (l.take j)≤2000)∧(l=[]→dl≤2000))
theorem FewI20.zero(dl:Nat)(l:List PTop):FewI20 dl l 0 dl:=by
 refine⟨fun x hx=>by simp at hx,fun j hj _=> .inl oM,fun _=>by simp[zBU]⟩
theorem FewI20.bound{dl:Nat}{l:List PTop}{k:Nat}{z:Int}(h:FewI20 dl l k z)(hd:dl≤140737488351232)(ha:AllP (l.take k)):0≤z∧z≤140737488351232:=by
 have e:=h.2.2 ha
 rcases h.2.1 k (Nat.le_refl _) ha with h0|h0
 ·subst h0;simp[zBU]at e
  omega
 ·omega
theorem FewJ.zero{dl:Nat}{l:List PTop}{k:Nat}{z z2:Int}(x:PTop)(h:FewI20 dl l k z)(hd:dl≤140737488351232)(hn:x.name.length≤140737488351232)(hw: -9223372036854775808≤z+((x.name.length:Int)+10)→z+((x.name.length:Int)+10)<9223372036854775808→z2=z+((x.name.length:Int)+10)):FewJ dl l k x 0 z2:=by
 refine⟨fun y hy=>by simp at hy,fun ha=> ?_⟩;obtain⟨b1,b2⟩:=h.bound hd ha;have e:=h.2.2 ha;have e2:=hw oM oM;refine⟨?_,.inl rfl⟩;simp[zCv]
 omega
theorem FewJ.step{dl:Nat}{l:List PTop}{k:Nat}{z0 z z2:Int}{x:PTop}{j:Nat}(y:PartR)(hI:FewI20 dl l k z0)(h:FewJ dl l k x j z)(hj:j<x.l.length)(hy:x.l[j]=y)(hd:dl≤140737488351232)(hn:x.name.length≤140737488351232)(hb:y.l.length≤1466015503701)(hs:SmP y)(hw: -9223372036854775808≤z+(10+100*(y.l.length:Int))→z+(10+100*(y.l.length:Int))<9223372036854775808→z2=z+(10+100*(y.l.length:Int)))(h2:z2≤2000):FewJ dl l k x (j+1) z2:=by
 have et:x.l.take (j+1)=x.l.take j++[y]:=by rw[Jf hj,hy]
 refine⟨fun v hv=> ?_,fun ha=> ?_⟩
 ·rw[et]at hv
  rcases List.mem_append.1 hv with hv|hv
  ·exact h.1 v hv
  ·rw[List.mem_singleton.1 hv];exact hs
 ·obtain⟨e1,e2⟩:=h.2 ha;obtain⟨b1,b2⟩:=hI.bound hd ha;have e3:=hI.2.2 ha
  have hz:0≤z∧z≤300000000000000:=by
   rcases e2 with h0|h0
   ·subst h0;simp[zCv]at e1
    omega
   ·omega
  have e4:=hw oM oM;refine⟨?_,.inr h2⟩;rw[et,zKc];simp only[zCv]
  omega
theorem FewI20.step{dl:Nat}{l:List PTop}{k:Nat}{z0 z:Int}(x:PTop)(hI:FewI20 dl l k z0)(h:FewJ dl l k x x.l.length z)(hk:k<l.length)(hx:l[k]=x):FewI20 dl l (k+1) z:=by
 have et:l.take (k+1)=l.take k++[x]:=by rw[Jf hk,hx]
 have hs:=h.1;rw[List.take_length]at hs
 have hall:AllP (l.take (k+1))→z=dl+zBU (l.take (k+1))∧z≤2000:=by
  intro ha;rw[et]at ha;have ha1:AllP (l.take k):=fun v hv=>ha v (List.mem_append_left _ hv)
  have ha2:x.l.length≠0:=ha x (List.mem_append_right _ (List.mem_singleton.2 rfl));obtain⟨e1,e2⟩:=h.2 ha1;rw[List.take_length]at e1;refine⟨?_,by rcases e2 with h0|h0;exact absurd h0 ha2;exact h0⟩;rw[et,zJ9];simp only[zBU]
  omega
 refine⟨fun v hv=> ?_,fun j hj ha=> ?_,fun ha=>(hall ha).1⟩
 ·rw[et]at hv
  rcases List.mem_append.1 hv with hv|hv
  ·exact hI.1 v hv
  ·rw[List.mem_singleton.1 hv];exact hs
 ·by_cases hjk:j≤k
  ·exact hI.2.1 j hjk ha
  ·obtain rfl:j=k+1:=by omega
   obtain⟨e1,e2⟩:=hall ha
   right;omega
theorem FewI20.done{dl:Nat}{l:List PTop}{z:Int}(h:FewI20 dl l l.length z)(hz:¬2000<z):FewR dl l 1:=by
 refine .inr ⟨rfl,by have:=h.1;rwa [List.take_length]at this,h.2.1,fun h0=> ?_⟩;subst h0;have e:=h.2.2 (by intro x hx;simp at hx);simp[zBU]at e
 omega
structure FewPt (y:PartR):Prop where
 len:y.l.length≤1466015503701
 fit:∀z∈y.l,z.Fit
structure FewT20 (x:PTop):Prop where
 name:x.name.length≤140737488351232
 len:x.l.length≤4398046511104
 parts:∀y∈x.l,FewPt y
theorem EqR.of{z:BatR}(hf:z.Fit)(hs:zBj (z.l.map (·.1))=true)(hh:∀y∈z.l,y.1.hdrs.length≤9223372036854775807):EqR z:=⟨by have:=zDA hs;omega,hf.2.2,hh⟩
def PTop.nl (x:PTop):Bs×List PartR:=(x.name,x.l)
theorem nl_pt{l m:List PTop}(h:l.map PTop.nl=m.map PTop.nl):l.map PTop.pt=m.map PTop.pt:=by
 have e:PTop.pt=(fun p:Bs×List PartR=>(p.1,p.2.map PartR.pb))∘PTop.nl:=rfl;rw[e,←List.map_map,h,List.map_map]
theorem nl_len{l m:List PTop}(h:l.map PTop.nl=m.map PTop.nl):l.length=m.length:=by have:=congrArg List.length h;simpa using this
theorem nl_mem{l m:List PTop}(h:l.map PTop.nl=m.map PTop.nl){x:PTop}(hx:x∈l):∃y∈m,y.name=x.name∧y.l=x.l:=by
 have h1:x.nl∈m.map PTop.nl:=h ▸ List.mem_map_of_mem hx;obtain⟨y,hy,e⟩:=List.mem_map.1 h1;exact⟨y,hy,congrArg Prod.fst e,congrArg Prod.snd e⟩
theorem zQP:zCJ Jb 196 (.agg #[I O 0,V none 0 0]) 2 32:=zAT kR rfl dD
theorem zQO:zCJ Jb 194 (.agg #[Z ⟨#[]⟩,V none 0 0]) 2 40:=zAT kR rfl dD
theorem zPp{α:Type}(f:α→List Value)(l:List α)(k:Nat)(h:k<l.length)(x:α)(hx:l[k]=x):(l.take (k+1)).flatMap f=(l.take k).flatMap f++f x:=by
 rw[Jf h,hx,List.flatMap_append]
 simp
set_option maxHeartbeats 8000000
theorem of20(nl:Bool)(dd:Bs)(ac tm:Int)(l:List PTop)(q:Option Addr)(cap:Nat)(hll:l.length≤3518437208780)(hf:∀x∈l,x.l.length≤4398046511104){W0 w:World}{K:Know}{L:List Res}(hk:K.has (Know.ptops (V q l.length cap) l))(h:St W0 w K L):
  Calls Jb 56 #[.agg #[U nl,Z (bb dd),I O ac,I O tm,V q l.length cap]] w fun en w'=>∃(q2:Option Addr) (cap2:Nat) (l2:List PTop) (K2:Know),en=Y (.agg #[U nl,Z (bb dd),I O ac,I O tm,V q2 l2.length cap2])∧l2.map PTop.nl=l.map PTop.nl∧K2.has K∧K2.has (Know.ptops (V q2 l2.length cap2) l2)∧St W0 w' K2 L:=by
 obtain⟨rq,hrq⟩:=eX w.heap.size;obtain⟨rb,hrb⟩:=eX (rq+1);obtain⟨xb,hxb⟩:=eX (rb+1);have h0:=((h.allocRaw #[U nl,Z (bb dd),I O ac,I O tm,V q l.length cap] 36).allocRaw #[U false,Z ⟨#[]⟩,I O 0,I O 0,V none 0 0] 51).allocRaw #[U nl,Z (bb dd),I O ac,I O tm,V none 0 0] 51;simp only[World.size_alloc,hrq,hrb,hxb]at h0;obtain⟨a0,a1,a2,a3,a4⟩:=uR5 h0.p2;simp at a0 a1 a2 a3 a4;have g0:=((h.allocRaw #[U nl,Z (bb dd),I O ac,I O tm,V q l.length cap] 36).allocRaw #[U false,Z ⟨#[]⟩,I O 0,I O 0,V none 0 0] 51);simp only[World.size_alloc,hrq,hrb]at g0;obtain⟨b0,b1,b2,b3⟩:=uR4 g0.p1;simp at b0 b1 b2 b3;have H:=hQd h0;have HKT:=hQd hk;have HF:=hQd hf;have HLN:=hQd hll;have hni:(l.length:Int)≤3518437208780:=by omega
 clear h h0 g0 hk hf hll;go_enter Tryz.func56,Tryz.ntmps56;go_wp2;clear a0 a1 a2 a3 a4 b0 b1 b2 b3;go_loopw [19] (fun iv wr=>∃(k:Nat) (v:Value) (acc:List PTop) (K2:Know),k≤l.length∧iv=I O k∧Hid (k=acc.length)∧Hid (acc.map PTop.nl=(l.take k).map PTop.nl)∧Hid (K2.has K)∧Hid (∀x∈acc,K2.has (Know.pparts (V x.q x.l.length x.cap) x.l))∧St W0 wr K2 (.row v 194 2 k (acc.flatMap zE8)::.raw xb #[U nl,Z (bb dd),I O ac,I O tm,v] 51::.raw rb #[U false,Z ⟨#[]⟩,I O 0,I O 0,V none 0 0] 51::.raw rq #[U nl,Z (bb dd),I O ac,I O tm,V q l.length cap] 36::L)) (fun iv _=>l.length - (intOf iv).toNat)
 case atStart=>
  refine⟨0,V none 0 0,[],K,Jd _,rfl,hQd rfl,hQd sM,hQd (Know.has_refl _),hQd (fun x hx=>by cases hx),?_⟩;exact(H.out.nilRow 194 2)
 case round=>
  obtain⟨k,v,acc,K2,hkl,rfl,HAL,HNL,HKK,HALL,hst⟩:=hrel;clear H;have H:=hQd hst;clear hst
  by_cases hlt:k<l.length
  · obtain⟨bk,off,hqq⟩:=zCk (Know.has_trans HKK.out HKT.out) H.out oM;obtain⟨x,hx⟩:=eX (l[k]);have hmem:x∈l:=hx ▸ Ji hlt;have hfx:=HF.out x hmem;have HK':=(Know.has_trans HKK.out HKT.out);rw[hqq]at HK';obtain⟨c0,c1⟩:=zBl HK' H.out k hlt x hx;have HXK0:=zA7 (Know.has_trans HKK.out HKT.out) hmem;have hkn:(k:Int)<(l.length:Int):=by omega
    have HX:=hQd hx;have HKN:=hQd (show k≤3518437208780 by have:=HLN.out;omega);obtain⟨nm,xl,xq,xcap⟩:=x;simp only at c0 c1 HXK0;have HXK:=hQd HXK0;have hxl:xl.length≤4398046511104:=hfx;have HXN:=hQd hxl;have hxi:(xl.length:Int)≤4398046511104:=by omega
    subst hqq;obtain⟨nb,hnb⟩:=eX wr.heap.size;obtain⟨tb,htb⟩:=eX (nb+1);have h:=(H.out.allocRaw #[Z (bb nm),V xq xl.length xcap] 178).allocRaw #[Z (bb nm),V none 0 0] 194;simp only[World.size_alloc,hnb,htb]at h;have h1:=H.out.allocRaw #[Z (bb nm),V xq xl.length xcap] 178;simp only[hnb]at h1;have e0:=h1.rawCell 0;have e1:=h.p1.rawCell 1;simp at e0 e1;clear H;have H:=hQd h;clear h h1;clear hx hmem hfx HK' HXK0 hxl;go_wp2_with fail;clear e0 e1 c0 c1;go_loopw [29] (fun jv wr=>∃(j:Nat) (v2:Value),j≤xl.length∧jv=I O j∧St W0 wr K2 (.row v2 196 2 j ((xl.take j).flatMap zNv)::.raw tb #[Z (bb nm),v2] 194::.row v 194 2 k (acc.flatMap zE8)::.raw xb #[U nl,Z (bb dd),I O ac,I O tm,v] 51::.raw rb #[U false,Z ⟨#[]⟩,I O 0,I O 0,V none 0 0] 51::.raw rq #[U nl,Z (bb dd),I O ac,I O tm,V (some ⟨bk,off,none⟩) l.length cap] 36::L)) (fun jv _=>xl.length - (intOf jv).toNat)
    case atStart=>exact⟨0,V none 0 0,Jd _,rfl,(H.out.p1.drop.nilRow 196 2)⟩
    case round=>
     obtain⟨j,v2,hjl,rfl,hst⟩:=hrel;clear H;have H:=hQd hst;clear hst;obtain⟨qj,cj,hvj⟩:=H.out.rowAny;subst hvj
     by_cases hjt:j<xl.length
     · obtain⟨pk,poff,hpq⟩:=zBW HXK.out H.out oM;subst hpq;obtain⟨y,hy⟩:=eX (xl[j]);obtain⟨d0,d1⟩:=zA8 HXK.out H.out j hjt y hy;have hjn:(j:Int)<(xl.length:Int):=by omega
       have HY:=hQd hy;have HJN:=hQd (show j≤4398046511104 by have:=HXN.out;omega);obtain⟨yi,yl,yq,ycap⟩:=y;simp only at d0 d1;have h:=H.out.allocRaw #[I O yi,V yq yl.length ycap] 181;obtain⟨ub,hub⟩:=eX wr.heap.size;rw[hub]at h;obtain⟨f0,f1⟩:=uR2 h;have f2:=h.p2.rawCell 1;simp at f0 f1 f2;clear H;have H:=hQd h;clear h hy;go_wp2_with (at_builtin;refine zAz rfl _ _ 192 rfl 196 Tryz.underlying192 zQP _ _ _ rfl H.out.p1 [I O yi,V yq yl.length ycap] 196 (by first|rfl|(rw[World.size_alloc];rfl)|(rw[World.size_alloc,hub];rfl)) rfl (by simp[Value.oneCell']) (by have:=HJN.out;unfold maxLen;omega) (by have:=HJN.out;omega) ?_;intro v' w' h;obtain⟨qv,cv,hv⟩:=h.rowAny;subst hv;have q1:=h.p2.rawFree 1;have q2:=h.p2.rawCell 1;simp at q2;replace H:=hQd h;clear h);go_roundw
       case rel=>
        refine⟨j+1,V qv (j+1) cv,hjt,by go_num,?_⟩;rw[zPp zNv xl j hjt _ HY.out];exact((H.out.p2.rawSet 1 (V qv (j+1) cv)).p1.p2.drop)
       case measure=>first|(simp[intOf];done)|(simp[intOf];omega)
     · obtain rfl:j=xl.length:=by omega
       have hr:=H.out;rw[List.take_length]at hr;have hf2:=hr.freezeParts (fun x hx=>zBh HXK.out hx);obtain⟨qa,ca,hva⟩:=hf2.p1.rowAny;subst hva;have HK3:=hQd (show(K2.and (Know.pparts (V qj xl.length cj) xl)).has (Know.pparts (V qj xl.length cj) xl)from Know.has_right (Know.has_refl _));obtain⟨e0,e1⟩:=uR2 hf2;have e4:=hf2.p2.rawCell 4;simp at e0 e1 e4;have hz:=hf2.p1;clear H;have H:=hQd hz;clear hr hf2 hz;go_wp2_with (at_builtin;refine zAz rfl _ _ 49 rfl 194 Tryz.underlying49 zQO _ _ _ rfl H.out [Z (bb nm),V qj xl.length cj] 194 (by first|rfl|(rw[World.size_alloc];rfl)|(rw[World.size_alloc,hub];rfl)) rfl (by simp[Value.oneCell']) (by have:=HKN.out;unfold maxLen;omega) (by have:=HKN.out;omega) ?_;intro v' w' h;obtain⟨qv,cv,hv⟩:=h.rowAny;subst hv;have q1:=h.p2.rawFree 4;have q2:=h.p2.rawCell 4;simp at q2;replace H:=hQd h;clear h);go_roundw
       case rel=>
        refine⟨k+1,V qv (k+1) cv,acc++[⟨nm,xl,qj,cj⟩],K2.and (Know.pparts (V qj xl.length cj) xl),hlt,by go_num,hQd (by rw[Jc,←HAL.out];rfl),hQd (by rw[Jf hlt,List.map_append,List.map_append,HNL.out,HX.out];rfl),hQd (Know.has_trans (Know.has_left (Know.has_refl _)) HKK.out),hQd (fun x hx=>by
         rcases List.mem_append.1 hx with hx|hx
         · exact Know.has_left (HALL.out x hx)
         · rw[List.mem_singleton.1 hx];exact HK3.out),?_⟩
        rw[List.flatMap_append];exact((H.out.p2.rawSet 4 (V qv (k+1) cv)).p2.drop).p1
       case measure=>first|(simp[intOf];done)|(simp[intOf];omega)
  · obtain rfl:k=l.length:=by omega
    obtain⟨qv0,cv0,hv0⟩:=H.out.rowAny;subst hv0;obtain⟨y0,y1,y2,y3,y4⟩:=uR5 H.out.p1;obtain⟨w0,w1,w2,w3,w4⟩:=uS5 H.out.p2;obtain⟨v0,v1,v2,v3,v4⟩:=uR5 H.out.p2;simp at y0 y1 y2 y3 y4 v0 v1 v2 v3 v4;go_wp2;have hz:St W0 _ _ (.raw rb #[U nl,Z (bb dd),I O ac,I O tm,V qv0 l.length cv0] 51::_):=St.sets5P _ _ _ _ _ H.out.p2;refine bodyPost_ret (zBr rfl _ _ rb [U nl,Z (bb dd),I O ac,I O tm,V qv0 l.length cv0] _ rfl (zDd hz) Tryz.underlying51 rfl kR) rfl ?_;have hr:=hz.drop;have hn:=HAL.out;have hf:=hr.freezeTopsK hn rfl (fun x hx=>HALL.out x hx);rw[hn]at hf ⊢;exact⟨qv0,cv0,acc,_,rfl,by rw[HNL.out,List.take_length],Know.has_trans (Know.has_left (Know.has_refl _)) HKK.out,Know.has_right (Know.has_refl _),hf.drop.drop⟩
end Go.Proofs.YteldcbljedeeiaaGreatDoor
