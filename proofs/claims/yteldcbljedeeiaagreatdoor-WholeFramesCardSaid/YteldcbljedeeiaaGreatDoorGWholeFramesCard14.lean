/- A text. -/
import Derived.Test.YteldcbljedeeiaaGreatDoorGWholeFramesCard13
import Derived.Test.YteldcbljedeeiaaGreatDoorGWholeFramesCard1
import Derived.SizedLaws
import Derived.Deep.Slices
import Derived.Test.YteldcbljedeeiaaGreatDoorGWholeFramesCard3
import Derived.Lib.SmallJoins
import Derived.Test.YteldcbljedeeiaaGreatDoorGWholeFramesCard8
import Derived.Test.YteldcbljedeeiaaGreatDoorGWholeFramesCard6
import Derived.Test.YteldcbljedeeiaaGreatDoorGWholeFramesCard4
import Derived.Test.YteldcbljedeeiaaGreatDoorGWholeFramesCard5
import Derived.Test.YteldcbljedeeiaaGreatDoorGWholeFramesCard10
import Derived.Test.YteldcbljedeeiaaGreatDoorGWholeFramesCard12
import Derived.Test.YteldcbljedeeiaaGreatDoorGWholeFramesCard7
import Derived.Test.YteldcbljedeeiaaGreatDoorGWholeFramesCard2
import Derived.Great.BuildSlice
import Derived.Test.YteldcbljedeeiaaGreatDoorGWholeFramesCard9
import Derived.RegionTactic
import Derived.Deep.RegionHeld3
import Derived.Deep.DeepCutAuto
import Derived.WalkMore
import Derived.Handy
/- A text. -/
namespace Go.Proofs.YteldcbljedeeiaaGreatDoor
open Go.RowKit
set_option maxRecDepth 100000
set_option maxHeartbeats 8000000
open Go.Value renaming bool→U, string→Z, slice→V, int→I, pointer→Ja
open Go.Ending renaming returned→Y
open Go.IntKind renaming i64→O
open _root_.Go.Proofs.Tryz renaming prog→Jb
open _root_.Nat renaming zero_le→Jd, add_assoc→Jm
open _root_.List renaming take_succ_eq_append_getElem→Jf, length_cons→Jn, length_append→Jc, append_nil→Jp, length_drop→Jh, drop_drop→Jk, append_assoc→Je, flatMap_cons→Jg, getElem_mem→Ji, length_map→Jj, take→Jl, drop→Jo
theorem zBG(k v:Int)(h:zAy k v=0):k=0∨(k=22∧v=0)∨(k=22∧v=1)∨(k=24∧v=0)∨(k=26∧v=0)∨k=27:=by
 by_cases h0:k=0
 ·exact .inl h0
 by_cases h1:k=22
 ·subst h1;unfold zAy zC5 at h;simp at h
  omega
 by_cases h2:k=24
 ·subst h2;unfold zAy zC5 at h;simp at h
  omega
 by_cases h3:k=26
 ·subst h3;unfold zAy zC5 at h;simp at h
  omega
 by_cases h4:k=27
 ·omega
 ·unfold zAy zC5 at h;rw[if_neg h0,if_neg h1,if_neg h2,if_neg h3,if_neg h4]at h;simp at h
theorem On.pos{s:Bs}{i:InS}(h:i.On s)(h0:i.err=0):i.pos≤i.s.length:=by
 obtain⟨p,hp,rfl⟩:=On.zero h h0;exact hp
theorem Got.all{t:Bs}{j:InS}{x:Bs}(h:Got t ⟨t,0,0⟩ j x)(h1:j.err=0)(h0:j.close.err=0):x=t:=by
 obtain⟨p,q,e1,rfl,_,g2,g3⟩:=h.2 h1;obtain rfl:0=p:=(InS.mk.inj e1).2.1
 have hq:q=t.length:=by
  unfold InS.close at h0
  by_cases hl:0<(⟨t,q,0⟩:InS).left
  ·rw[if_pos hl]at h0;have h0:(2:Int)=0:=h0
   cases h0
  ·have:¬0<t.length - q:=hl
   omega
 rw[hq,List.take_zero,List.nil_append,List.take_length]at g3;exact g3
theorem zAs:Tryz.prog.cellsOf 3=1:=by kernel_rfl
theorem zHb:Tryz.prog.cellsOf 9=1:=by kernel_rfl
theorem len2{α:Type}{l:List α}(h:l.length=2):∃a b,l=[a,b]:=by
 match l,h with
 |[a,b],_=>exact⟨a,b,rfl⟩
theorem len3{α:Type}{l:List α}(h:l.length=3):∃a b c,l=[a,b,c]:=by
 match l,h with
 |[a,b,c],_=>exact⟨a,b,c,rfl⟩
open Go.ChangeShapes Go.WideShapes Go.ChangeAt Go.Deep
def zBB {H:Type}(t:TypeId) (d:DataW H):Prop:=∀k∈d.weights Jb t,k≤reachBytes
theorem zNp:reachBytes=140737488351232:=rfl
section
variable {H:Type}{enc:TypeId×Value→H}{w:World}{spare:Nat→Bool}{held:Bool}
theorem zGJ{ts:List TypeId}{ds:List (DataW H)}(h:(DataW.weightsEach Jb ts ds).all (· ≤reachBytes)=true){j:Nat}{t:TypeId}{d:DataW H}(ht:ts[j]? =some t)(hd:ds[j]? =some d):zBB t d:=by
 intro k hk;have:=List.all_eq_true.1 h k (DataW.weights_mem_each ht hd k hk)
 simpa using this
theorem zAA{t:TypeId}{fs:Array Field}{n N:Nat}{cs:List Value}{y:DataW H×List MemPlace}(ht:Tryz.prog.underlying t=some (.struct fs))(h:DataW.trod enc Jb w 0 spare held n t cs=some y)(hl:zBB t y.1)(hN:∀x∈y.2,x.block<N):
 cs.length=Tryz.prog.cellsOf t∧∃m,∀(i:Nat) (f:Field),fs[i]? =some f→∃z,DataW.trod enc Jb w 0 spare held m f.type ((cs.drop f.offset).take (Tryz.prog.cellsOf f.type))=some z∧zBB f.type z.1∧∀x∈z.2,x.block<N:=by
 obtain⟨xs,m,_,rfl,hc,hxl,hg⟩:=DataW.trod_struct ht h;refine⟨hc,m,fun i f hf=> ?_⟩;have hi:i<fs.size:=(Array.getElem?_eq_some_iff.1 hf).1;have hx:xs[i]? =some (xs[i]'(by omega)):=List.getElem?_eq_getElem (by omega);refine⟨_,(hg i f hf).trans hx,?_,fun x hxx=>hN x (List.mem_flatMap.2 ⟨_,Ji _,hxx⟩)⟩;intro k hk;refine hl k ?_;simp only[DataW.weights,ht];exact DataW.weights_mem_each (j:=i) (by rw[List.getElem?_map,Array.getElem?_toList,hf];rfl) (by rw[List.getElem?_map,hx];rfl) k hk
theorem zCA{t:TypeId}{n:Nat}{cs:List Value}{y:DataW H×List MemPlace}(ht:Tryz.prog.underlying t=some .string)(h:DataW.trod enc Jb w 0 spare held n t cs=some y)(hl:zBB t y.1):∃s:Bs,cs=[Z (bb s)]∧s.length≤140737488351232:=by
 obtain⟨s,e,e2,q⟩:=DataW.trod_string ht h;refine⟨s.data.toList,e,?_⟩;subst e2;have:=hl s.data.toList.length (by simp[DataW.weights]);rw[zNp]at this;exact this
theorem zAk{t:TypeId}{n:Nat}{cs:List Value}{y:DataW H×List MemPlace}(ht:Tryz.prog.underlying t=some (.int .i64))(h:DataW.trod enc Jb w 0 spare held n t cs=some y):∃x:Int,cs=[I O x]∧ -9223372036854775808≤x∧x<9223372036854775808:=by
 obtain⟨x,e,_,q⟩:=DataW.trod_int ht h;exact⟨x,e,wf_i64 q⟩
theorem zB6{t:TypeId}{n:Nat}{cs:List Value}{y:DataW H×List MemPlace}(ht:Tryz.prog.underlying t=some .bool)(h:DataW.trod enc Jb w 0 spare held n t cs=some y):∃x:Bool,cs=[U x]:=by
 obtain⟨x,e,_⟩:=DataW.trod_bool ht h;exact⟨x,e⟩
theorem zC8{P:Program}{e:TypeId}:∀{l:List (DataW H)}{d:DataW H},d∈l→∀k∈d.weights P e,k∈DataW.weightsAll P e l
 |a::l,d,hd,k,hk=>by
  simp only[DataW.weightsAll,List.mem_append]
  rcases List.mem_cons.1 hd with rfl|hd
  ·exact .inl hk
  ·exact .inr (zC8 hd k hk)
theorem zA0{α:Type}{R:World→List Value→α→Prop}{t e:TypeId}{sz N:Nat}(ht:Tryz.prog.underlying t=some (.slice e))(hC:Tryz.prog.cellsOf e=sz)(hsz:0<sz)
 (hR:∀n cs y,DataW.trod enc Jb w 0 spare held n e cs=some y→zBB e y.1→(∀x∈y.2,x.block<N)→∃x,R w cs x)
 {fuel:Nat}{cs:List Value}{x:DataW H×List MemPlace}(h:DataW.trod enc Jb w 0 spare held fuel t cs=some x)(hl:zBB t x.1)(hlt:∀y∈x.2,y.block<N)(hN:N≤w.heap.size):
 ∃v l,cs=[v]∧RowsOf R (· <N) w v sz l∧l.length*Tryz.prog.bytesOf e≤140737488351232∧l.length≤maxLen:=by
 rcases open_slice ht h with ⟨rfl,rfl⟩|⟨a,len,cap,m,n,D,Pl,rfl,hb,hlc,hm,hmm,hx,hi⟩
 ·exact⟨_,[],rfl,⟨none,0,rfl,fun h=>absurd h (by simp)⟩,by simp,by simp⟩
 ·have hlm:len≤m:=by rw[hmm];split<;>omega
  have hp2:x.2=MemPlace.row a (m*Tryz.prog.cellsOf e)++(List.range m).flatMap Pl:=by rw[hx]
  have hx1:x.1=.slice ((List.range len).map D) ((List.range (m - len)).map fun j=>D (len+j)):=by rw[hx]
  have hsum:len*Tryz.prog.bytesOf e≤140737488351232:=by
   have:=hl (((List.range len).map D).length*Tryz.prog.bytesOf e+((List.range (m - len)).map fun j=>D (len+j)).length*Tryz.prog.bytesOf e) (by rw[hx1];simp[DataW.weights,ht,Nat.add_mul]);rw[zNp]at this;simp only[Jj,List.length_range]at this
   omega
  have hle:∀i,i<len→zBB e (D i):=by
   intro i hil k hk;refine hl k ?_;rw[hx1];simp only[DataW.weights,ht,List.mem_cons,List.mem_append];exact .inr (.inl (zC8 (List.mem_map.2 ⟨i,List.mem_range.2 hil,rfl⟩) k hk))
  have key:∀i,i<len→∃y:α,∃cs',cs'.length=sz∧R w cs' y∧(∀f u,cs'[f]? =some u→w.cell? ((a.add (i*sz)).add f)=some u):=by
   intro i hil;obtain⟨cs',hc,htr⟩:=hi i (by omega);obtain⟨_,hcl,hat⟩:=World.cells?_some hc;obtain⟨y,hy⟩:=hR n cs' _ htr (hle i hil) (fun z hz=>hlt z (by rw[hp2,List.mem_append];exact .inr (List.mem_flatMap.2 ⟨i,by simp;omega,hz⟩)));rw[hC]at hcl hat;refine⟨y,cs',hcl,hy,fun f u hu=> ?_⟩;have hf:f<sz:=by rw[←hcl];exact(List.getElem?_eq_some_iff.1 hu).1
   rw[hat f hf,hu]
  obtain⟨l,hll,hq⟩:=zTb len _ key;refine⟨_,l,rfl,⟨some a,cap,by rw[hll],fun h0=> ?_⟩,by rw[hll];exact hsum,by omega⟩;obtain⟨cs0,h1,h2,h3⟩:=hq 0 h0
  have hc0:w.cell? a=some (cs0[0]'(by omega)):=by
   have:=h3 0 _ (List.getElem?_eq_getElem (by omega))
   simpa [Addr.add]using this
  have hsp:a.spot=none:=by
   cases hs:a.spot with
   |none=>rfl
   |some s=>
    unfold World.cell? at hc0
    split at hc0<;>simp_all
  obtain⟨ab,ao,asp⟩:=a;simp only at hsp;subst hsp
  have hlt0:ab<N:=hlt (.cell ab ao) (by
   rw[hp2,List.mem_append]
   left
   simp only[MemPlace.row,List.mem_map,List.mem_range]
   exact⟨0,by rw[hC];exact Nat.mul_pos (by omega) hsz,by simp⟩)
  refine⟨ab,ao,rfl,hlt0,Nat.lt_of_lt_of_le hlt0 hN,fun i hi=> ?_⟩;obtain⟨cs',g1,g2,g3⟩:=hq i hi;refine⟨cs',g1,g2,fun f u hu=> ?_⟩;have:=g3 f u hu;have e1:∀(o q:Nat),(⟨ab,o,none⟩:Addr).add q=⟨ab,o+q,none⟩:=by intro o q;unfold Addr.add;split<;>simp_all
  rw[e1,e1,Jm]at this;exact this
end
theorem RowsOf.part{α:Type}{R:World→List Value→α→Prop}{Q:α→Prop}{D:Nat→Prop}{w:World}{v:Value}{sz:Nat}{l:List α}(h:RowsOf (fun w cs x=>R w cs x∧Q x) D w v sz l):RowsOf R D w v sz l∧∀x∈l,Q x:=by
 refine⟨h.mono (fun _ _ h=>h) (fun _ _ h=>h.1),fun x hx=> ?_⟩;obtain⟨i,hi,rfl⟩:=List.mem_iff_getElem.1 hx;obtain⟨p,cap,rfl,h⟩:=h;obtain⟨b,off,rfl,_,_,hc⟩:=h (by omega);obtain⟨cs,_,h2,_⟩:=hc i hi;exact h2.2
end Go.Proofs.YteldcbljedeeiaaGreatDoor
namespace Go.Proofs.YteldcbljedeeiaaGreatDoor
open Go.RowKit
open Go.Value renaming bool→U, string→Z, slice→V, int→I, pointer→Ja
open Go.Ending renaming returned→Y
open Go.IntKind renaming i64→O
open _root_.Go.Proofs.Tryz renaming prog→Jb
open _root_.Nat renaming zero_le→Jd, add_assoc→Jm
open _root_.List renaming take_succ_eq_append_getElem→Jf, length_cons→Jn, length_append→Jc, append_nil→Jp, length_drop→Jh, drop_drop→Jk, append_assoc→Je, flatMap_cons→Jg, getElem_mem→Ji, length_map→Jj, take→Jl, drop→Jo
open Go.ChangeShapes Go.WideShapes Go.ChangeAt Go.Deep
theorem zLn:Tryz.prog.cellsOf 244=3:=by kernel_rfl
theorem zCF:Tryz.prog.cellsOf 23=2:=by kernel_rfl
theorem zCE:Tryz.prog.cellsOf 4=1:=by kernel_rfl
section
variable {H:Type}{enc:TypeId×Value→H}{w:World}{spare:Nat→Bool}{held:Bool}
end
end Go.Proofs.YteldcbljedeeiaaGreatDoor
namespace Go.Proofs.YteldcbljedeeiaaGreatDoor
open Go.RowKit
open Go.Value renaming bool→U, string→Z, slice→V, int→I, pointer→Ja
open Go.Ending renaming returned→Y
open Go.IntKind renaming i64→O
open _root_.Go.Proofs.Tryz renaming prog→Jb
open _root_.Nat renaming zero_le→Jd, add_assoc→Jm
open _root_.List renaming take_succ_eq_append_getElem→Jf, length_cons→Jn, length_append→Jc, append_nil→Jp, length_drop→Jh, drop_drop→Jk, append_assoc→Je, flatMap_cons→Jg, getElem_mem→Ji, length_map→Jj, take→Jl, drop→Jo
set_option maxRecDepth 100000
open Go.ChangeShapes Go.WideShapes Go.ChangeAt Go.Deep
section
variable {H:Type}{enc:TypeId×Value→H}{w:World}{spare:Nat→Bool}{held:Bool}
theorem zq9{p:Prop}(h:p:=by intro n cs y h hl hN;obtain⟨hc,m,hf⟩:=zAA Tryz.underlying23 h hl hN;rw[zCF]at hc;obtain⟨a,b,rfl⟩:=len2 hc;obtain⟨z0,g0,l0,_⟩:=hf 0 _ rfl;obtain⟨z1,g1,l1,_⟩:=hf 1 _ rfl;have g0:DataW.trod enc Jb w 0 spare held m 4 (Jl (Tryz.prog.cellsOf 4) (Jo 0 [a,b]))=some z0:=g0;have g1:DataW.trod enc Jb w 0 spare held m 9 (Jl (Tryz.prog.cellsOf 9) (Jo 1 [a,b]))=some z1:=g1;rw[zCE]at g0;rw[zHb]at g1;obtain⟨x,e0⟩:=zB6 Tryz.underlying4 g0;obtain⟨s,e1,hs⟩:=zCA Tryz.underlying9 g1 l1;simp at e0 e1;subst e0 e1;exact⟨⟨x,s⟩,rfl,hs⟩):p:=h
theorem zBM{N:Nat}:∀n cs y,DataW.trod enc Jb w 0 spare held n 23 cs=some y→zBB 23 y.1→(∀x∈y.2,x.block<N)→∃x:BlobS,cs=[U x.null,Z (bb x.data)]∧x.data.length≤140737488351232:=by
 exact zq9
theorem zOe{N:Nat}:∀n cs y,DataW.trod enc Jb w 0 spare held n 244 cs=some y→zBB 244 y.1→(∀x∈y.2,x.block<N)→∃x:HdrS,RHdr cs x∧(x.key.length≤140737488351232∧x.val.data.length≤140737488351232):=by
 intro n cs y h hl hN;obtain⟨hc,m,hf⟩:=zAA Tryz.underlying244 h hl hN;rw[zLn]at hc;obtain⟨a,b,c,rfl⟩:=len3 hc;obtain⟨z0,g0,l0,n0⟩:=hf 0 _ rfl;obtain⟨z1,g1,l1,n1⟩:=hf 1 _ rfl;have g0:DataW.trod enc Jb w 0 spare held m 9 (Jl (Tryz.prog.cellsOf 9) (Jo 0 [a,b,c]))=some z0:=g0;have g1:DataW.trod enc Jb w 0 spare held m 23 (Jl (Tryz.prog.cellsOf 23) (Jo 1 [a,b,c]))=some z1:=g1;rw[zHb]at g0;rw[zCF]at g1;obtain⟨s,e0,hs⟩:=zCA Tryz.underlying9 g0 l0;obtain⟨x,e1,hx⟩:=zBM _ _ _ g1 l1 n1;simp at e0 e1;obtain⟨e1,e2⟩:=e1;subst e0 e1 e2;exact⟨⟨s,x⟩,rfl,hs,hx⟩
end
end Go.Proofs.YteldcbljedeeiaaGreatDoor
namespace Go.Proofs.YteldcbljedeeiaaGreatDoor
open Go.RowKit
open Go.Value renaming bool→U, string→Z, slice→V, int→I, pointer→Ja
open Go.Ending renaming returned→Y
open Go.IntKind renaming i64→O
open _root_.Go.Proofs.Tryz renaming prog→Jb
open _root_.Nat renaming zero_le→Jd, add_assoc→Jm
open _root_.List renaming take_succ_eq_append_getElem→Jf, length_cons→Jn, length_append→Jc, append_nil→Jp, length_drop→Jh, drop_drop→Jk, append_assoc→Je, flatMap_cons→Jg, getElem_mem→Ji, length_map→Jj, take→Jl, drop→Jo
end Go.Proofs.YteldcbljedeeiaaGreatDoor
namespace Go.Proofs.YteldcbljedeeiaaGreatDoor
open Go.Value renaming bool→U, string→Z, slice→V, int→I, pointer→Ja
open Go.Ending renaming returned→Y
open Go.IntKind renaming i64→O
open _root_.Go.Proofs.Tryz renaming prog→Jb
open _root_.Nat renaming zero_le→Jd, add_assoc→Jm
open _root_.List renaming take_succ_eq_append_getElem→Jf, length_cons→Jn, length_append→Jc, append_nil→Jp, length_drop→Jh, drop_drop→Jk, append_assoc→Je, flatMap_cons→Jg, getElem_mem→Ji, length_map→Jj, take→Jl, drop→Jo
open Go.Joins Go.RowKit
open Go.ChangeShapes Go.WideShapes Go.ChangeAt Go.Deep
theorem zLk:Tryz.prog.cellsOf 95=7:=by kernel_rfl
theorem zOY:Tryz.prog.cellsOf 93=1:=by kernel_rfl
section
variable {H:Type}{enc:TypeId×Value→H}{w:World}{spare:Nat→Bool}{held:Bool}
end
end Go.Proofs.YteldcbljedeeiaaGreatDoor
namespace Go.Proofs.YteldcbljedeeiaaGreatDoor
open Go.RowKit
open Go.Value renaming bool→U, string→Z, slice→V, int→I, pointer→Ja
open Go.Ending renaming returned→Y
open Go.IntKind renaming i64→O
open _root_.Go.Proofs.Tryz renaming prog→Jb
open _root_.Nat renaming zero_le→Jd, add_assoc→Jm
open _root_.List renaming take_succ_eq_append_getElem→Jf, length_cons→Jn, length_append→Jc, append_nil→Jp, length_drop→Jh, drop_drop→Jk, append_assoc→Je, flatMap_cons→Jg, getElem_mem→Ji, length_map→Jj, take→Jl, drop→Jo
def GoodR (l:List (RecS×Value)):Prop:=∀x∈l,smallR x.1=1∧zA5 x.1=0
theorem GoodR.nil:GoodR []:=fun _ h=>by cases h
def FitR (l:List (RecS×Value)):Prop:=∀x∈l,x.1.R∧x.1.hdrs.length≤9223372036854775807∧HFit x.1.hdrs∧x.1.key.data.length≤140737488351232∧x.1.val.data.length≤140737488351232
end Go.Proofs.YteldcbljedeeiaaGreatDoor
namespace Go.Proofs.YteldcbljedeeiaaGreatDoor
open Go.Value renaming bool→U, string→Z, slice→V, int→I, pointer→Ja
open Go.Ending renaming returned→Y
open Go.IntKind renaming i64→O
open _root_.Go.Proofs.Tryz renaming prog→Jb
open _root_.Nat renaming zero_le→Jd, add_assoc→Jm
open _root_.List renaming take_succ_eq_append_getElem→Jf, length_cons→Jn, length_append→Jc, append_nil→Jp, length_drop→Jh, drop_drop→Jk, append_assoc→Je, flatMap_cons→Jg, getElem_mem→Ji, length_map→Jj, take→Jl, drop→Jo
open Go.Joins Go.RowKit
set_option maxHeartbeats 8000000
set_option maxRecDepth 100000
open Go.ChangeShapes Go.WideShapes Go.ChangeAt Go.Deep
def QRec (W:World) (x:RecS×Value):Prop:=RowsOf (fun _ cs x=>RHdr cs x) (· <W.heap.size) W x.2 3 x.1.hdrs∧x.1.R∧x.1.hdrs.length≤9223372036854775807∧HFit x.1.hdrs∧x.1.key.data.length≤140737488351232∧x.1.val.data.length≤140737488351232
theorem QRec.fit{W:World}{l:List (RecS×Value)}(h:∀x∈l,QRec W x):FitR l:=fun x hx=>(h x hx).2
theorem QRec.start{W:World}{v:Value}{l:List (RecS×Value)}(hr:RowsOf (fun _ cs x=>RRec cs x) (· <W.heap.size) W v 7 l)(h:∀x∈l,QRec W x):St W W (Know.recs v l) []:=St.start ⟨hr,fun x hx=>(h x hx).1⟩
section
variable {H:Type}{enc:TypeId×Value→H}{w:World}{spare:Nat→Bool}{held:Bool}
theorem zN9:∀n cs y,DataW.trod enc Jb w 0 spare held n 95 cs=some y→zBB 95 y.1→(∀x∈y.2,x.block<w.heap.size)→∃x:RecS×Value,RRec cs x∧QRec w x:=by
 intro n cs y hf hl hN;have hNw:w.heap.size≤w.heap.size:=Nat.le_refl _;obtain⟨hc,m,hg⟩:=zAA Tryz.underlying95 hf hl hN;rw[zLk]at hc
 match cs,hc with
 |[c0,c1,c2,c3,c4,c5,c6],_=>
  obtain⟨z0,g0,l0,n0⟩:=hg 0 _ rfl;have g0:DataW.trod enc Jb w 0 spare held m 3 (Jl (Tryz.prog.cellsOf 3) (Jo 0 [c0,c1,c2,c3,c4,c5,c6]))=some z0:=g0;rw[zAs]at g0;obtain⟨z1,g1,l1,n1⟩:=hg 1 _ rfl;have g1:DataW.trod enc Jb w 0 spare held m 3 (Jl (Tryz.prog.cellsOf 3) (Jo 1 [c0,c1,c2,c3,c4,c5,c6]))=some z1:=g1;rw[zAs]at g1;obtain⟨z2,g2,l2,n2⟩:=hg 2 _ rfl;have g2:DataW.trod enc Jb w 0 spare held m 23 (Jl (Tryz.prog.cellsOf 23) (Jo 2 [c0,c1,c2,c3,c4,c5,c6]))=some z2:=g2;rw[zCF]at g2;obtain⟨z3,g3,l3,n3⟩:=hg 3 _ rfl;have g3:DataW.trod enc Jb w 0 spare held m 23 (Jl (Tryz.prog.cellsOf 23) (Jo 4 [c0,c1,c2,c3,c4,c5,c6]))=some z3:=g3;rw[zCF]at g3;obtain⟨z4,g4,l4,n4⟩:=hg 4 _ rfl;have g4:DataW.trod enc Jb w 0 spare held m 93 (Jl (Tryz.prog.cellsOf 93) (Jo 6 [c0,c1,c2,c3,c4,c5,c6]))=some z4:=g4;rw[zOY]at g4;obtain⟨x0,e0,r0⟩:=zAk Tryz.underlying3 g0;obtain⟨x1,e1,r1⟩:=zAk Tryz.underlying3 g1;obtain⟨x2,e2,s2⟩:=zBM _ _ _ g2 l2 n2;obtain⟨x3,e3,s3⟩:=zBM _ _ _ g3 l3 n3;obtain⟨v6,x4,e4,hr,_,hm⟩:=zA0 (R:=fun w cs x=>(fun _ cs x=>RHdr cs x) w cs x∧(fun x:HdrS=>x.key.length≤140737488351232∧x.val.data.length≤140737488351232) x) (N:=w.heap.size) Tryz.underlying93 zLn dD zOe g4 l4 n4 hNw;obtain⟨hr1,hq⟩:=hr.part;simp at e0 e1 e2 e3 e4;obtain⟨e2a,e2b⟩:=e2;obtain⟨e3a,e3b⟩:=e3;subst e0 e1 e2a e2b e3a e3b e4;have hm2:x4.length≤9223372036854775807:=hm;exact⟨(⟨x0,x1,x2,x3,x4⟩,_),rfl,hr1,⟨r0,r1⟩,hm2,hq,s2,s3⟩
end
end Go.Proofs.YteldcbljedeeiaaGreatDoor
namespace Go.Proofs.YteldcbljedeeiaaGreatDoor
open Go.Value renaming bool→U, string→Z, slice→V, int→I, pointer→Ja
open Go.Ending renaming returned→Y
open Go.IntKind renaming i64→O
open _root_.Go.Proofs.Tryz renaming prog→Jb
open _root_.Nat renaming zero_le→Jd, add_assoc→Jm
open _root_.List renaming take_succ_eq_append_getElem→Jf, length_cons→Jn, length_append→Jc, append_nil→Jp, length_drop→Jh, drop_drop→Jk, append_assoc→Je, flatMap_cons→Jg, getElem_mem→Ji, length_map→Jj, take→Jl, drop→Jo
open Go.Joins Go.RowKit
set_option maxHeartbeats 8000000
set_option maxRecDepth 100000
open Go.ChangeShapes Go.WideShapes Go.ChangeAt Go.Deep
theorem zQ2:Tryz.prog.cellsOf 101=12:=by kernel_rfl
theorem zOV:Tryz.prog.cellsOf 99=1:=by kernel_rfl
section
variable {H:Type}{enc:TypeId×Value→H}{w:World}{spare:Nat→Bool}{held:Bool}
theorem zRa:∀n cs y,DataW.trod enc Jb w 0 spare held n 101 cs=some y→zBB 101 y.1→(∀x∈y.2,x.block<w.heap.size)→
    ∃(base leader:Int) (app txn ctl:Bool) (last first maxt prod epoch sq:Int) (l:List (RecS×Value)) (rv:Value),cs=[I O base,I O leader,U app,U txn,U ctl,I O last,I O first,I O maxt,I O prod,I O epoch,I O sq,rv]∧
      BatS.R ⟨base,leader,app,txn,ctl,last,first,maxt,prod,epoch,sq,l.map (·.1)⟩∧RowsOf (fun _ cs x=>RRec cs x) (· <w.heap.size) w rv 7 l∧(∀x∈l,QRec w x):=by
  intro n cs y hf hl hN;obtain⟨hc,m,hg⟩:=zAA Tryz.underlying101 hf hl hN;rw[zQ2]at hc
  match cs,hc with
  |[c0,c1,c2,c3,c4,c5,c6,c7,c8,c9,c10,c11],_=>
    obtain⟨z0,g0,l0,n0⟩:=hg 0 _ rfl;have g0:DataW.trod enc Jb w 0 spare held m 3 (Jl (Tryz.prog.cellsOf 3) (Jo 0 [c0,c1,c2,c3,c4,c5,c6,c7,c8,c9,c10,c11]))=some z0:=g0;rw[zAs]at g0;obtain⟨z1,g1,l1,n1⟩:=hg 1 _ rfl;have g1:DataW.trod enc Jb w 0 spare held m 3 (Jl (Tryz.prog.cellsOf 3) (Jo 1 [c0,c1,c2,c3,c4,c5,c6,c7,c8,c9,c10,c11]))=some z1:=g1;rw[zAs]at g1;obtain⟨z2,g2,l2,n2⟩:=hg 2 _ rfl;have g2:DataW.trod enc Jb w 0 spare held m 4 (Jl (Tryz.prog.cellsOf 4) (Jo 2 [c0,c1,c2,c3,c4,c5,c6,c7,c8,c9,c10,c11]))=some z2:=g2;rw[zCE]at g2;obtain⟨z3,g3,l3,n3⟩:=hg 3 _ rfl;have g3:DataW.trod enc Jb w 0 spare held m 4 (Jl (Tryz.prog.cellsOf 4) (Jo 3 [c0,c1,c2,c3,c4,c5,c6,c7,c8,c9,c10,c11]))=some z3:=g3;rw[zCE]at g3;obtain⟨z4,g4,l4,n4⟩:=hg 4 _ rfl;have g4:DataW.trod enc Jb w 0 spare held m 4 (Jl (Tryz.prog.cellsOf 4) (Jo 4 [c0,c1,c2,c3,c4,c5,c6,c7,c8,c9,c10,c11]))=some z4:=g4;rw[zCE]at g4;obtain⟨z5,g5,l5,n5⟩:=hg 5 _ rfl;have g5:DataW.trod enc Jb w 0 spare held m 3 (Jl (Tryz.prog.cellsOf 3) (Jo 5 [c0,c1,c2,c3,c4,c5,c6,c7,c8,c9,c10,c11]))=some z5:=g5;rw[zAs]at g5;obtain⟨z6,g6,l6,n6⟩:=hg 6 _ rfl;have g6:DataW.trod enc Jb w 0 spare held m 3 (Jl (Tryz.prog.cellsOf 3) (Jo 6 [c0,c1,c2,c3,c4,c5,c6,c7,c8,c9,c10,c11]))=some z6:=g6;rw[zAs]at g6;obtain⟨z7,g7,l7,n7⟩:=hg 7 _ rfl;have g7:DataW.trod enc Jb w 0 spare held m 3 (Jl (Tryz.prog.cellsOf 3) (Jo 7 [c0,c1,c2,c3,c4,c5,c6,c7,c8,c9,c10,c11]))=some z7:=g7;rw[zAs]at g7;obtain⟨z8,g8,l8,n8⟩:=hg 8 _ rfl;have g8:DataW.trod enc Jb w 0 spare held m 3 (Jl (Tryz.prog.cellsOf 3) (Jo 8 [c0,c1,c2,c3,c4,c5,c6,c7,c8,c9,c10,c11]))=some z8:=g8;rw[zAs]at g8;obtain⟨z9,g9,l9,n9⟩:=hg 9 _ rfl;have g9:DataW.trod enc Jb w 0 spare held m 3 (Jl (Tryz.prog.cellsOf 3) (Jo 9 [c0,c1,c2,c3,c4,c5,c6,c7,c8,c9,c10,c11]))=some z9:=g9;rw[zAs]at g9;obtain⟨z10,g10,l10,n10⟩:=hg 10 _ rfl;have g10:DataW.trod enc Jb w 0 spare held m 3 (Jl (Tryz.prog.cellsOf 3) (Jo 10 [c0,c1,c2,c3,c4,c5,c6,c7,c8,c9,c10,c11]))=some z10:=g10;rw[zAs]at g10;obtain⟨z11,g11,l11,n11⟩:=hg 11 _ rfl;have g11:DataW.trod enc Jb w 0 spare held m 99 (Jl (Tryz.prog.cellsOf 99) (Jo 11 [c0,c1,c2,c3,c4,c5,c6,c7,c8,c9,c10,c11]))=some z11:=g11;rw[zOV]at g11;obtain⟨x0,e0,r0⟩:=zAk Tryz.underlying3 g0;obtain⟨x1,e1,r1⟩:=zAk Tryz.underlying3 g1;obtain⟨x2,e2⟩:=zB6 Tryz.underlying4 g2;obtain⟨x3,e3⟩:=zB6 Tryz.underlying4 g3;obtain⟨x4,e4⟩:=zB6 Tryz.underlying4 g4;obtain⟨x5,e5,r5⟩:=zAk Tryz.underlying3 g5;obtain⟨x6,e6,r6⟩:=zAk Tryz.underlying3 g6;obtain⟨x7,e7,r7⟩:=zAk Tryz.underlying3 g7;obtain⟨x8,e8,r8⟩:=zAk Tryz.underlying3 g8;obtain⟨x9,e9,r9⟩:=zAk Tryz.underlying3 g9;obtain⟨x10,e10,r10⟩:=zAk Tryz.underlying3 g10;obtain⟨v11,x11,e11,hrq,_,_⟩:=zA0 (R:=fun w' cs x=>(fun _ cs x=>RRec cs x) w' cs x∧QRec w x) (N:=w.heap.size) Tryz.underlying99 zLk dD zN9 g11 l11 n11 (Nat.le_refl _);obtain⟨hr,hq⟩:=hrq.part;simp at e0 e1 e2 e3 e4 e5 e6 e7 e8 e9 e10 e11;subst e0 e1 e2 e3 e4 e5 e6 e7 e8 e9 e10 e11;exact⟨x0,x1,x2,x3,x4,x5,x6,x7,x8,x9,x10,x11,_,rfl,⟨r0,r1,r5,r6,r7,r8,r9,r10⟩,hr,hq⟩
end
end Go.Proofs.YteldcbljedeeiaaGreatDoor
namespace Go.Proofs.YteldcbljedeeiaaGreatDoor
open Go.RowKit
open Go.Value renaming bool→U, string→Z, slice→V, int→I, pointer→Ja
open Go.Ending renaming returned→Y
open Go.IntKind renaming i64→O
open _root_.Go.Proofs.Tryz renaming prog→Jb
open _root_.Nat renaming zero_le→Jd, add_assoc→Jm
open _root_.List renaming take_succ_eq_append_getElem→Jf, length_cons→Jn, length_append→Jc, append_nil→Jp, length_drop→Jh, drop_drop→Jk, append_assoc→Je, flatMap_cons→Jg, getElem_mem→Ji, length_map→Jj, take→Jl, drop→Jo
def QBat (W:World) (x:BatR):Prop:=(RowsOf (fun _ cs x=>RRec cs x) (· <W.heap.size) W (V x.q x.l.length x.cap) 7 x.l∧∀y∈x.l,QRec W y)∧x.Fit
theorem QBat.fit{W:World}{l:List BatR}(h:∀x∈l,QBat W x):∀x∈l,x.Fit:=fun x hx=>(h x hx).2
theorem QBat.start{W:World}{v:Value}{l:List BatR}(hr:RowsOf (fun _ cs x=>RBat cs x) (· <W.heap.size) W v 12 l)(h:∀x∈l,QBat W x):St W W (Know.bats v l) []:=St.start ⟨hr,fun x hx=>⟨(h x hx).1.1,fun y hy=>((h x hx).1.2 y hy).1⟩⟩
section
variable {H:Type}{enc:TypeId×Value→H}{w:World}{spare:Nat→Bool}{held:Bool}
theorem zOs:∀n cs y,DataW.trod enc Jb w 0 spare held n 101 cs=some y→zBB 101 y.1→(∀x∈y.2,x.block<w.heap.size)→∃x:BatR,RBat cs x∧QBat w x:=by
 intro n cs y hf hl hN;obtain⟨base,leader,app,txn,ctl,last,first,maxt,prod,epoch,sq,l,rv,e,hR,hr,hq⟩:=zRa n cs y hf hl hN;obtain⟨q,cap,hrv⟩:∃q cap,rv=V q l.length cap:=by obtain⟨p,cap,hv,_⟩:=hr;exact⟨p,cap,hv⟩
 subst hrv;exact⟨⟨⟨base,leader,app,txn,ctl,last,first,maxt,prod,epoch,sq,l.map (·.1)⟩,l,q,cap⟩,e,⟨hr,hq⟩,hR,fun x hx=>(hq x hx).2,rfl⟩
end
end Go.Proofs.YteldcbljedeeiaaGreatDoor
namespace Go.Proofs.YteldcbljedeeiaaGreatDoor
open Go.RowKit
open Go.Value renaming bool→U, string→Z, slice→V, int→I, pointer→Ja
open Go.Ending renaming returned→Y
open Go.IntKind renaming i64→O
open _root_.Go.Proofs.Tryz renaming prog→Jb
open _root_.Nat renaming zero_le→Jd, add_assoc→Jm
open _root_.List renaming take_succ_eq_append_getElem→Jf, length_cons→Jn, length_append→Jc, append_nil→Jp, length_drop→Jh, drop_drop→Jk, append_assoc→Je, flatMap_cons→Jg, getElem_mem→Ji, length_map→Jj, take→Jl, drop→Jo
set_option maxRecDepth 100000
open Go.ChangeShapes Go.WideShapes Go.ChangeAt Go.Deep
section
variable {H:Type}{enc:TypeId×Value→H}{w:World}{spare:Nat→Bool}{held:Bool}
theorem zRz{N:Nat}:∀n cs y,DataW.trod enc Jb w 0 spare held n 3 cs=some y→zBB 3 y.1→(∀x∈y.2,x.block<N)→∃x:Int,RI cs x∧(-9223372036854775808≤x∧x<9223372036854775808):=fun _ _ _ h _ _=>zAk Tryz.underlying3 h
end
end Go.Proofs.YteldcbljedeeiaaGreatDoor
namespace Go.Proofs.YteldcbljedeeiaaGreatDoor
open Go.RowKit
open Go.Value renaming bool→U, string→Z, slice→V, int→I, pointer→Ja
open Go.Ending renaming returned→Y
open Go.IntKind renaming i64→O
open _root_.Go.Proofs.Tryz renaming prog→Jb
open _root_.Nat renaming zero_le→Jd, add_assoc→Jm
open _root_.List renaming take_succ_eq_append_getElem→Jf, length_cons→Jn, length_append→Jc, append_nil→Jp, length_drop→Jh, drop_drop→Jk, append_assoc→Je, flatMap_cons→Jg, getElem_mem→Ji, length_map→Jj, take→Jl, drop→Jo
set_option maxHeartbeats 8000000
set_option maxRecDepth 100000
open Go.ChangeShapes Go.WideShapes Go.ChangeAt Go.Deep
theorem zHc:Tryz.prog.cellsOf 181=2:=by kernel_rfl
theorem zIh:Tryz.prog.cellsOf 178=2:=by kernel_rfl
theorem zIi:Tryz.prog.cellsOf 36=5:=by kernel_rfl
theorem zLl:Tryz.prog.cellsOf 176=1:=by kernel_rfl
theorem zMW:Tryz.prog.cellsOf 34=1:=by kernel_rfl
theorem zMX:Tryz.prog.cellsOf 179=1:=by kernel_rfl
theorem zFn:Tryz.prog.cellsOf 3=1:=by kernel_rfl
theorem zFm:Tryz.prog.cellsOf 9=1:=by kernel_rfl
theorem zD7:Tryz.prog.cellsOf 23=2:=by kernel_rfl
theorem zOW:Tryz.prog.cellsOf 101=12:=by kernel_rfl
theorem zMY:Tryz.prog.bytesOf 181=32:=by kernel_rfl
theorem zOZ:Tryz.prog.bytesOf 178=40:=by kernel_rfl
theorem zO0:Tryz.prog.bytesOf 101=96:=by kernel_rfl
def zTC (W:World) (x:PartR):Prop:=(RowsOf (fun _ cs x=>RBat cs x) (· <W.heap.size) W (V x.q x.l.length x.cap) 12 x.l∧∀y∈x.l,QBat W y)∧x.l.length≤1466015503701∧(-9223372036854775808≤x.idx∧x.idx<9223372036854775808)
def QPTop (W:World) (x:PTop):Prop:=(RowsOf (fun _ cs x=>zM8 cs x) (· <W.heap.size) W (V x.q x.l.length x.cap) 2 x.l∧∀y∈x.l,zTC W y)∧x.l.length≤4398046510976∧x.name.length≤140737488351232
theorem QPTop.start{W:World}{v:Value}{l:List PTop}(hr:RowsOf (fun _ cs x=>zLG cs x) (· <W.heap.size) W v 2 l)(h:∀x∈l,QPTop W x):St W W (Know.ptops v l) []:=
 St.start ⟨hr,fun x hx=>⟨(h x hx).1.1,fun y hy=>⟨((h x hx).1.2 y hy).1.1,fun z hz=>⟨(((h x hx).1.2 y hy).1.2 z hz).1.1,fun r hr=>((((h x hx).1.2 y hy).1.2 z hz).1.2 r hr).1⟩⟩⟩⟩
section
variable {H:Type}{enc:TypeId×Value→H}{w:World}{spare:Nat→Bool}{held:Bool}
theorem zL1:∀n cs y,DataW.trod enc Jb w 0 spare held n 181 cs=some y→zBB 181 y.1→(∀x∈y.2,x.block<w.heap.size)→∃x:PartR,zM8 cs x∧zTC w x:=by
 intro n cs y hf hl hN;obtain⟨hc,m,hg⟩:=zAA Tryz.underlying181 hf hl hN;rw[zHc]at hc
 match cs,hc with
 |[c0,c1],_=>
  obtain⟨z0,g0,l0,n0⟩:=hg 0 _ rfl;have g0:DataW.trod enc Jb w 0 spare held m 3 (Jl (Tryz.prog.cellsOf 3) (Jo 0 [c0,c1]))=some z0:=g0;rw[zFn]at g0;obtain⟨z1,g1,l1,n1⟩:=hg 1 _ rfl;have g1:DataW.trod enc Jb w 0 spare held m 179 (Jl (Tryz.prog.cellsOf 179) (Jo 1 [c0,c1]))=some z1:=g1;rw[zMX]at g1;obtain⟨x0,e0,r0⟩:=zAk Tryz.underlying3 g0;obtain⟨v1,x1,e1,hrq,hm1,_⟩:=zA0 (R:=fun w' cs x=>(fun _ cs x=>RBat cs x) w' cs x∧QBat w x) (N:=w.heap.size) Tryz.underlying179 zOW dD zOs g1 l1 n1 (Nat.le_refl _);obtain⟨hr,hq⟩:=hrq.part;simp at e0 e1;subst e0 e1;rw[zO0]at hm1;obtain⟨q,cap,hrv⟩:∃q cap,_=Value.slice q x1.length cap:=by obtain⟨p,cap,hv,_⟩:=hr;exact⟨p,cap,hv⟩
  subst hrv;exact⟨⟨x0,x1,q,cap⟩,rfl,⟨hr,hq⟩,(by show x1.length≤1466015503701;omega),r0⟩
theorem zL0:∀n cs y,DataW.trod enc Jb w 0 spare held n 178 cs=some y→zBB 178 y.1→(∀x∈y.2,x.block<w.heap.size)→∃x:PTop,zLG cs x∧QPTop w x:=by
 intro n cs y hf hl hN;obtain⟨hc,m,hg⟩:=zAA Tryz.underlying178 hf hl hN;rw[zIh]at hc
 match cs,hc with
 |[c0,c1],_=>
  obtain⟨z0,g0,l0,n0⟩:=hg 0 _ rfl;have g0:DataW.trod enc Jb w 0 spare held m 9 (Jl (Tryz.prog.cellsOf 9) (Jo 0 [c0,c1]))=some z0:=g0;rw[zFm]at g0;obtain⟨z1,g1,l1,n1⟩:=hg 1 _ rfl;have g1:DataW.trod enc Jb w 0 spare held m 176 (Jl (Tryz.prog.cellsOf 176) (Jo 1 [c0,c1]))=some z1:=g1;rw[zLl]at g1;obtain⟨x0,e0,s0⟩:=zCA Tryz.underlying9 g0 l0;obtain⟨v1,x1,e1,hrq,hm1,_⟩:=zA0 (R:=fun w' cs x=>(fun _ cs x=>zM8 cs x) w' cs x∧zTC w x) (N:=w.heap.size) Tryz.underlying176 zHc dD zL1 g1 l1 n1 (Nat.le_refl _);obtain⟨hr,hq⟩:=hrq.part;simp at e0 e1;subst e0 e1;rw[zMY]at hm1;obtain⟨q,cap,hrv⟩:∃q cap,_=Value.slice q x1.length cap:=by obtain⟨p,cap,hv,_⟩:=hr;exact⟨p,cap,hv⟩
  subst hrv;exact⟨⟨x0,x1,q,cap⟩,rfl,⟨hr,hq⟩,(by show x1.length≤4398046510976;omega),s0⟩
theorem zOu:∀n cs y,DataW.trod enc Jb w 0 spare held n 36 cs=some y→zBB 36 y.1→(∀x∈y.2,x.block<w.heap.size)→
 ∃(nl:Bool) (dd:Bs) (ac tm:Int) (l:List PTop) (rv:Value),cs=[U nl,Z (bb dd),I O ac,I O tm,rv]∧dd.length≤140737488351232∧(-9223372036854775808≤ac∧ac<9223372036854775808)∧(-9223372036854775808≤tm∧tm<9223372036854775808)∧RowsOf (fun _ cs x=>zLG cs x) (· <w.heap.size) w rv 2 l∧l.length≤3518437208780∧(∀x∈l,QPTop w x):=by
 intro n cs y hf hl hN;obtain⟨hc,m,hg⟩:=zAA Tryz.underlying36 hf hl hN;rw[zIi]at hc
 match cs,hc with
 |[c0,c1,c2,c3,c4],_=>
  obtain⟨z0,g0,l0,n0⟩:=hg 0 _ rfl;have g0:DataW.trod enc Jb w 0 spare held m 23 (Jl (Tryz.prog.cellsOf 23) (Jo 0 [c0,c1,c2,c3,c4]))=some z0:=g0;rw[zD7]at g0;obtain⟨z1,g1,l1,n1⟩:=hg 1 _ rfl;have g1:DataW.trod enc Jb w 0 spare held m 3 (Jl (Tryz.prog.cellsOf 3) (Jo 2 [c0,c1,c2,c3,c4]))=some z1:=g1;rw[zFn]at g1;obtain⟨z2,g2,l2,n2⟩:=hg 2 _ rfl;have g2:DataW.trod enc Jb w 0 spare held m 3 (Jl (Tryz.prog.cellsOf 3) (Jo 3 [c0,c1,c2,c3,c4]))=some z2:=g2;rw[zFn]at g2;obtain⟨z3,g3,l3,n3⟩:=hg 3 _ rfl;have g3:DataW.trod enc Jb w 0 spare held m 34 (Jl (Tryz.prog.cellsOf 34) (Jo 4 [c0,c1,c2,c3,c4]))=some z3:=g3;rw[zMW]at g3;obtain⟨x0,e0,s0⟩:=zBM _ _ _ g0 l0 n0;obtain⟨x1,e1,r1⟩:=zAk Tryz.underlying3 g1;obtain⟨x2,e2,r2⟩:=zAk Tryz.underlying3 g2;obtain⟨v3,x3,e3,hrq,hm3,_⟩:=zA0 (R:=fun w' cs x=>(fun _ cs x=>zLG cs x) w' cs x∧QPTop w x) (N:=w.heap.size) Tryz.underlying34 zIh dD zL0 g3 l3 n3 (Nat.le_refl _);obtain⟨hr,hq⟩:=hrq.part;simp at e0 e1 e2 e3;obtain⟨e0a,e0b⟩:=e0;subst e0a e0b e1 e2 e3;rw[zOZ]at hm3;exact⟨x0.null,x0.data,x1,x2,x3,_,rfl,s0,r1,r2,hr,oM,hq⟩
end
end Go.Proofs.YteldcbljedeeiaaGreatDoor
namespace Go.Proofs.YteldcbljedeeiaaGreatDoor
open Go.RowKit
open Go.Value renaming bool→U, string→Z, slice→V, int→I, pointer→Ja
open Go.Ending renaming returned→Y
open Go.IntKind renaming i64→O
open _root_.Go.Proofs.Tryz renaming prog→Jb
open _root_.Nat renaming zero_le→Jd, add_assoc→Jm
open _root_.List renaming take_succ_eq_append_getElem→Jf, length_cons→Jn, length_append→Jc, append_nil→Jp, length_drop→Jh, drop_drop→Jk, append_assoc→Je, flatMap_cons→Jg, getElem_mem→Ji, length_map→Jj, take→Jl, drop→Jo
set_option maxHeartbeats 8000000
set_option maxRecDepth 100000
open Go.ChangeShapes Go.WideShapes Go.ChangeAt Go.Deep
theorem zIg:Tryz.prog.cellsOf 28=1:=by kernel_rfl
theorem zHa:Tryz.prog.cellsOf 173=2:=by kernel_rfl
theorem zOX:Tryz.prog.cellsOf 90=1:=by kernel_rfl
theorem zQ4:Tryz.prog.bytesOf 3=8:=by kernel_rfl
def QTop (W:World) (x:TopS×Value):Prop:=RowsOf (fun _ cs x=>RI cs x) (· <W.heap.size) W x.2 1 x.1.parts∧x.1.name.length≤140737488351232∧x.1.parts.length≤17592186043904∧∀n∈x.1.parts,-9223372036854775808≤n∧n<9223372036854775808
def FewI (l:List (TopS×Value)):Prop:=l.length≤140737488351232∧∀x∈l,x.1.name.length≤140737488351232∧x.1.parts.length≤17592186043904∧∀n∈x.1.parts,-9223372036854775808≤n∧n<9223372036854775808
theorem zQ3:Tryz.prog.bytesOf 173=40:=by kernel_rfl
theorem QTop.few{W:World}{l:List (TopS×Value)}(hn:l.length*Tryz.prog.bytesOf 173≤140737488351232)(h:∀x∈l,QTop W x):FewI l:=⟨by rw[zQ3]at hn;omega,fun x hx=>(h x hx).2⟩
theorem QTop.start{W:World}{v:Value}{l:List (TopS×Value)}(hr:RowsOf (fun _ cs x=>RTop cs x) (· <W.heap.size) W v 2 l)(h:∀x∈l,QTop W x):St W W (Know.tops v l) []:=St.start ⟨hr,fun x hx=>(h x hx).1⟩
section
variable {H:Type}{enc:TypeId×Value→H}{w:World}{spare:Nat→Bool}{held:Bool}
theorem zHS:∀n cs y,DataW.trod enc Jb w 0 spare held n 173 cs=some y→zBB 173 y.1→(∀x∈y.2,x.block<w.heap.size)→∃x:TopS×Value,RTop cs x∧QTop w x:=by
 intro n cs y hf hl hN;have hNw:w.heap.size≤w.heap.size:=Nat.le_refl _;obtain⟨hc,m,hg⟩:=zAA Tryz.underlying173 hf hl hN;rw[zHa]at hc
 match cs,hc with
 |[c0,c1],_=>
  obtain⟨z0,g0,l0,n0⟩:=hg 0 _ rfl;have g0:DataW.trod enc Jb w 0 spare held m 9 (Jl (Tryz.prog.cellsOf 9) (Jo 0 [c0,c1]))=some z0:=g0;rw[zHb]at g0;obtain⟨z1,g1,l1,n1⟩:=hg 1 _ rfl;have g1:DataW.trod enc Jb w 0 spare held m 90 (Jl (Tryz.prog.cellsOf 90) (Jo 1 [c0,c1]))=some z1:=g1;rw[zOX]at g1;obtain⟨x0,e0,s0⟩:=zCA Tryz.underlying9 g0 l0;obtain⟨v1,x1,e1,hr,hm,_⟩:=zA0 (R:=fun w cs x=>(fun _ cs x=>RI cs x) w cs x∧(fun x:Int=> -9223372036854775808≤x∧x<9223372036854775808) x) (N:=w.heap.size) Tryz.underlying90 zAs dD zRz g1 l1 n1 hNw;obtain⟨hr1,hq⟩:=hr.part;simp at e0 e1;subst e0 e1;rw[zQ4]at hm;have hm2:x1.length≤17592186043904:=by omega
  exact⟨(⟨x0,x1⟩,_),rfl,hr1,s0,hm2,hq⟩
end
end Go.Proofs.YteldcbljedeeiaaGreatDoor
namespace Go.Proofs.YteldcbljedeeiaaGreatDoor
open Go.RowKit
open Go.Value renaming bool→U, string→Z, slice→V, int→I, pointer→Ja
open Go.Ending renaming returned→Y
open Go.IntKind renaming i64→O
open _root_.Go.Proofs.Tryz renaming prog→Jb
open _root_.Nat renaming zero_le→Jd, add_assoc→Jm
open _root_.List renaming take_succ_eq_append_getElem→Jf, length_cons→Jn, length_append→Jc, append_nil→Jp, length_drop→Jh, drop_drop→Jk, append_assoc→Je, flatMap_cons→Jg, getElem_mem→Ji, length_map→Jj, take→Jl, drop→Jo
variable {W0 w:World}{K:Know}{L:List Res}
theorem zQC(l:List MarkS):zHC l=0∨zHC l=1:=by
 unfold zHC
 by_cases h:20<l.length
 ·exact .inl (if_pos h)
 ·rw[if_neg h]
  induction l with
  |nil=>exact .inr rfl
  |cons x t ih=>
   rw[zEx]
   by_cases hx:few x.tops=0
   ·exact .inl (if_pos hx)
   ·rw[if_neg hx];exact ih (by rw[Jn]at h;omega)
theorem zIe(l:List TopS):(zA3 l).length=4+zBC l:=by
 have:∀m:List TopS,(m.flatMap encT).length=zBC m:=by
  intro m
  induction m with
  |nil=>rfl
  |cons x t ih=>rw[Jg,Jc,ih,zJs];unfold zBC topW;rw[List.map_cons,List.sum_cons];omega
 unfold zA3;rw[Jc,zAb,this]
theorem zMR(v:Int)(m:MarkS)(h:zBC m.tops≤1000):(encM v m).length≤2000:=by
 have h8:=zAb m.prod (8:Int).toNat;have h2:=zAb m.epoch (2:Int).toNat;have h4:=zIe m.tops;have h1:=zJt m.commit
 have h9:(if v=1 then zAa m.coord (4:Int).toNat else[]).length≤4:=by
  by_cases hv:v=1
  ·rw[if_pos hv,zAb];decide
  ·rw[if_neg hv];exact Jd _
 unfold encM;rw[Jc,Jc,Jc,Jc,h8,h2,h4,h1]
 show 8+2+1+(4+_)+_≤2000
 omega
theorem zTl{l:List PTop}(hf:∀x∈l,FewT20 x)(hs:∀x∈l,SmT x):∀x∈l,EqT x:=fun x hx=>
 ⟨(hf x hx).len,fun y hy=>⟨Nat.le_trans ((hf x hx).parts y hy).len dD,fun z hz=>EqR.of (((hf x hx).parts y hy).fit z hz) (hs x hx y hy z hz) (fun v hv=>((((hf x hx).parts y hy).fit z hz).2.1 v hv).2.1)⟩⟩
theorem zTm{l m:List PTop}(h:m.map PTop.nl=l.map PTop.nl)(he:∀x∈l,EqT x):∀x∈m,EqT x:=by
 intro x hx;obtain⟨y,hy,_,hl⟩:=nl_mem h hx;have e:=he y hy;exact⟨by rw[←hl];exact e.len,fun v hv=>e.parts v (by rw[hl];exact hv)⟩
theorem zOM{W:World}{l:List PTop}(h:∀x∈l,QPTop W x):∀x∈l,FewT20 x:=fun x hx=>
 ⟨(h x hx).2.2,Nat.le_trans (h x hx).2.1 dD,fun y hy=>⟨((h x hx).1.2 y hy).2.1,fun z hz=>(((h x hx).1.2 y hy).1.2 z hz).2⟩⟩
theorem zBv(K:Know):K.has (Know.tops (V none 0 0) []):=Know.has_trans (zNd K) (Know.has_right (Know.has_refl _))
structure FrR where
 k:Int
 v:Int
 num:Int
 u:Bool
 cs:Bs
 bn:Bool
 bd:Bs
 bt:Int
 bp:Int
 be:Int
 ad:Bs
 ap:Int
 ae:Int
 aq:Option Addr
 al:List (TopS×Value)
 acap:Nat
 ed:Bs
 ep:Int
 ee:Int
 ec:Bool
 mq:Option Addr
 ml:List MarkR
 mcap:Nat
 pn:Bool
 pd:Bs
 pa:Int
 pt:Int
 pq:Option Addr
 pl:List PTop
 pcap:Nat
def FrR.vals (x:FrR):Array Value:= #[I O x.k,I O x.v,I O x.num,U x.u,Z (bb x.cs),U x.bn,Z (bb x.bd),I O x.bt,I O x.bp,I O x.be,Z (bb x.ad),I O x.ap,I O x.ae,V x.aq x.al.length x.acap,Z (bb x.ed),I O x.ep,I O x.ee,U x.ec,V x.mq x.ml.length x.mcap,U x.pn,Z (bb x.pd),I O x.pa,I O x.pt,V x.pq x.pl.length x.pcap]
def FrR.know (x:FrR):Know:=(Know.tops (V x.aq x.al.length x.acap) x.al).and ((Know.marks (V x.mq x.ml.length x.mcap) x.ml).and (Know.ptops (V x.pq x.pl.length x.pcap) x.pl))
theorem FrR.k1{x:FrR}{K:Know}(h:K.has x.know):K.has (Know.tops (V x.aq x.al.length x.acap) x.al):=Know.has_trans h (Know.has_left (Know.has_refl _))
theorem FrR.k2{x:FrR}{K:Know}(h:K.has x.know):K.has (Know.marks (V x.mq x.ml.length x.mcap) x.ml):=Know.has_trans h (Know.has_right (Know.has_left (Know.has_refl _)))
theorem FrR.k3{x:FrR}{K:Know}(h:K.has x.know):K.has (Know.ptops (V x.pq x.pl.length x.pcap) x.pl):=Know.has_trans h (Know.has_right (Know.has_right (Know.has_refl _)))
abbrev FrS:=(Int×Int×Int×Bool×Bs)×(Bool×Bs×Int×Int×Int×Bool×List TopS)×List MarkS×(Bool×Bs×Int×Int×List TopV)
def FrR.sem (x:FrR):FrS:=((x.k,x.v,x.num,x.u,x.cs),
 (if x.k=22 then(x.bn,x.bd,x.bt,x.bp,x.be,false,[])else if x.k=24 then(false,x.ad,0,x.ap,x.ae,false,x.al.map (·.1))else if x.k=26 then(false,x.ed,0,x.ep,x.ee,x.ec,[])else(false,[],0,0,0,false,[])),
 (if x.k=27 then x.ml.map MarkR.m else[]),
 (if x.k=0 then(x.pn,x.pd,x.pa,x.pt,x.pl.map PTop.pt)else(false,[],0,0,[])))
def FrR.bE (x:FrR):Int:=if x.k=0 then zA9 ⟨x.pn,x.pd⟩ x.pa x.pt x.v x.pl else if x.k=22 then begE x.v x.bn x.bd x.bt x.bp x.be else if x.k=24 then addE x.ad x.ap x.ae (x.al.map (·.1))else if x.k=26 then chkW x.ed x.ep x.ee else zAE x.v (x.ml.map MarkR.m)
def FrR.hd (x:FrR):HeadS:=⟨x.k,x.v,x.num,⟨x.u,x.cs⟩⟩
def FrR.err (x:FrR):Int:=if zAq x.hd≠0 then zAq x.hd else x.bE
def FrR.body (x:FrR):Bs:=if x.k=0 then zAR x.pn x.pd x.pa x.pt x.pl else if x.k=22 then(if x.v=1 then encF 2 ⟨x.bn,x.bd⟩++zAa x.bt 4++zAa x.bp 8++zAa x.be 2 else encF 2 ⟨x.bn,x.bd⟩++zAa x.bt 4)else if x.k=24 then encF 2 ⟨false,x.ad⟩++zAa x.ap 8++zAa x.ae 2++zA3 (x.al.map (·.1))else if x.k=26 then encF 2 ⟨false,x.ed⟩++zAa x.ep 8++zAa x.ee 2++encO x.ec else zEz x.v (x.ml.map MarkR.m)
def FrR.inner (x:FrR):Bs:=zAl x.hd++x.body
def FrR.enc (x:FrR):Bs:=zAa (x.inner.length:Int) 4++x.inner
structure FrR.Arg (x:FrR):Prop where
 head:x.hd.R
 bp: -9223372036854775808≤x.bp∧x.bp<9223372036854775808
 ap: -9223372036854775808≤x.ap∧x.ap<9223372036854775808
 ep: -9223372036854775808≤x.ep∧x.ep<9223372036854775808
 al:FewI x.al
 ml:x.ml.length≤140737488351232
 mf:∀y∈x.ml,y.l.map (·.1)=y.m.tops∧FewI y.l∧y.m.R
 pd:x.pd.length≤140737488351232
 pl:x.pl.length≤3518437208780
 pf:∀y∈x.pl,FewT20 y
structure FrR.Few (x:FrR):Prop where
 cs:x.cs.length≤1000
 bd:x.bd.length≤1000
 ad:x.ad.length≤1000
 ed:x.ed.length≤1000
 al:few (x.al.map (·.1))=1
 ml:zHC (x.ml.map MarkR.m)=1
 ps:∀y∈x.pl,SmT y
 pz:∀j,j≤x.pl.length→AllP (x.pl.take j)→j=0∨x.pd.length+zBU (x.pl.take j)≤2000
 pe:x.pl=[]→x.pd.length≤2000
structure FrR.Fit (x:FrR):Prop where
 al:LenT x.al
 mf:∀y∈x.ml,y.Fit
 ml:x.ml.length≤1000000
 pf:∀y∈x.pl,EqT y
 pl:x.pl.length≤3518437208780
theorem FrR.Few.n20{x:FrR}(h:x.Few):x.ml.length≤20:=by
 have hw:=h.ml
 by_cases h20:20<(x.ml.map MarkR.m).length
 ·unfold zHC at hw;rw[if_pos h20]at hw
  cases hw
 ·rw[Jj]at h20;omega
theorem FrR.Few.tw{x:FrR}(h:x.Few):∀y∈x.ml,zBC y.m.tops≤1000:=by
 have hw:=h.ml;have hn:=h.n20;unfold zHC at hw;rw[if_neg (by rw[Jj];omega)]at hw;exact fun y hy=>zSb hw y.m (List.mem_map_of_mem hy)
theorem FrR.mfit{x:FrR}(ha:x.Arg)(h:x.Few):∀y∈x.ml,y.Fit:=fun y hy=>by
 obtain⟨h1,_,h3⟩:=ha.mf y hy;exact⟨h1,zQA (by rw[h1];exact h.tw y hy),h3⟩
theorem FewI.len{l:List (TopS×Value)}(h:FewI l):LenT l:=⟨Nat.le_trans h.1 dD,fun x hx=>Nat.le_trans (h.2 x hx).2.1 dD⟩
theorem FrR.fit{x:FrR}(ha:x.Arg)(h:x.Few):x.Fit:=⟨ha.al.len,FrR.mfit ha h,by have:=h.n20;omega,zTl ha.pf h.ps,ha.pl⟩
theorem FrR.pck{x:FrR}(ha:x.Arg)(h:x.Few):∀y∈x.pl,CkT y:=fun y hy=>(zTe ha.pf h.ps y hy).1
theorem FrR.enc_len(x:FrR):x.enc.length=4+x.inner.length:=by
 unfold FrR.enc;rw[Jc,zAb]
structure OfR where
 k:Int
 v:Int
 num:Int
 u:Bool
 cs:Bs
 nl:Bool
 d:Bs
 tm:Int
 p:Int
 e:Int
 q:Option Addr
 l:List (TopS×Value)
 cap:Nat
 c:Bool
 mq:Option Addr
 ml:List MarkR
 mcap:Nat
 pn:Bool
 pd:Bs
 pa:Int
 pt:Int
 pq:Option Addr
 pl:List PTop
 pcap:Nat
def OfR.vals (x:OfR):Array Value:= #[I O x.k,I O x.v,I O x.num,U x.u,Z (bb x.cs),U x.nl,Z (bb x.d),I O x.tm,I O x.p,I O x.e,V x.q x.l.length x.cap,U x.c,V x.mq x.ml.length x.mcap,U x.pn,Z (bb x.pd),I O x.pa,I O x.pt,V x.pq x.pl.length x.pcap]
def OfR.sem (x:OfR):FrS:=((x.k,x.v,x.num,x.u,x.cs),(x.nl,x.d,x.tm,x.p,x.e,x.c,x.l.map (·.1)),x.ml.map MarkR.m,(x.pn,x.pd,x.pa,x.pt,x.pl.map PTop.pt))
structure OfR.Fit (x:OfR) (K:Know):Prop where
 al:LenT x.l
 mf:∀y∈x.ml,y.Fit
 ml:x.ml.length≤1000000
 pf:∀y∈x.pl,EqT y
 pl:x.pl.length≤4398046511104
 k1:K.has (Know.tops (V x.q x.l.length x.cap) x.l)
 k2:K.has (Know.marks (V x.mq x.ml.length x.mcap) x.ml)
 k3:K.has (Know.ptops (V x.pq x.pl.length x.pcap) x.pl)
theorem OfR.Fit.more{x:OfR}{K K2:Know}(h:x.Fit K)(hk:K2.has K):x.Fit K2:=⟨h.al,h.mf,h.ml,h.pf,h.pl,Know.has_trans hk h.k1,Know.has_trans hk h.k2,Know.has_trans hk h.k3⟩
theorem zDY(x y:OfR)(r:Bool)(hr:r=true↔x.sem=y.sem)(hx:x.Fit K)(hy:y.Fit K)(h:St W0 w K L):
 Calls Jb 17 #[.agg x.vals,.agg y.vals] w fun en w'=>en=Y (U r)∧St W0 w' K L:=
 zOh x.k y.k x.v y.v x.num y.num x.u y.u x.cs y.cs x.nl y.nl x.d y.d x.tm y.tm x.p y.p x.e y.e x.c y.c x.l y.l x.q y.q x.cap y.cap x.ml y.ml x.mq y.mq x.mcap y.mcap x.pn y.pn x.pd y.pd x.pa y.pa x.pt y.pt x.pl y.pl x.pq y.pq x.pcap y.pcap r (by
  rw[Bool.eq_iff_iff,hr,decide_eq_true_iff];unfold OfR.sem
  simp only[Prod.mk.injEq]) hx.al hy.al hx.mf hy.mf hx.ml hx.pf hy.pf hx.pl hx.k1 hy.k1 hx.k2 hy.k2 hx.k3 hy.k3 h
theorem zBs(K:Know):K.has (Know.ptops (V none 0 0) []):=fun _ _ _=>⟨⟨none,0,rfl,fun h=>absurd h sM⟩,fun x hx=>by cases hx⟩
theorem zB3:LenT []:=⟨Jd _,fun x hx=>by cases hx⟩
theorem zDD(x:FrR)(hk:x.k=0∨x.k=22∨x.k=24∨x.k=26∨x.k=27)(hf:x.Fit)(hkn:K.has x.know)(h:St W0 w K L):
 Calls Jb 14 #[.agg x.vals] w fun en w'=>∃(y:OfR) (K2:Know),en=Y (.agg y.vals)∧y.sem=x.sem∧K2.has K∧y.Fit K2∧St W0 w' K2 L:=by
 obtain⟨k,v,num,u,cs,bn,bd,bt,bp,be,ad,ap,ae,aq,al,acap,ed,ep,ee,ec,mq,ml,mcap,pn,pd,pa,pt,pq,pl,pcap⟩:=x;have k1:=FrR.k1 hkn;have k2:=FrR.k2 hkn;have k3:=FrR.k3 hkn;obtain⟨f1,f2,f3,f4,f5⟩:=hf;simp only at hk k1 k2 k3 f1 f2 f3 f4 f5
 rcases hk with rfl|rfl|rfl|rfl|rfl
 ·refine(zRU v num u cs bn bd bt bp be ad ap ae aq al acap ed ep ee ec mq ml mcap pn pd pa pt pq pl pcap f5 (fun y hy=>(f4 y hy).len) k3 h).mono ?_;rintro en w' ⟨q2,cap2,l2,K2,rfl,hm,hkk,hk2,h⟩;have hl:l2.length=pl.length:=nl_len hm
  exact⟨⟨0,v,num,u,cs,false,[],0,0,0,none,[],0,false,none,[],0,pn,pd,pa,pt,q2,l2,cap2⟩,K2,rfl,by
   unfold OfR.sem FrR.sem;simp only[nl_pt hm]
   rfl,hkk,⟨zB3,fun y hy=>(by cases hy),Jd _,zTm hm f4,by simp only;omega,zBv K2,zAZ K2,hk2⟩,h⟩
 ·refine(zRX v num u cs bn bd bt bp be ad ap ae aq al acap ed ep ee ec mq ml mcap pn pd pa pt pq pl pcap h).mono ?_;rintro en w' ⟨rfl,h⟩;exact⟨⟨22,v,num,u,cs,bn,bd,bt,bp,be,none,[],0,false,none,[],0,false,[],0,0,none,[],0⟩,K,rfl,rfl,Know.has_refl _,⟨zB3,fun y hy=>(by cases hy),Jd _,fun y hy=>(by cases hy),Jd _,zBv K,zAZ K,zBs K⟩,h⟩
 ·refine(zRY v num u cs bn bd bt bp be ad ap ae aq al acap ed ep ee ec mq ml mcap pn pd pa pt pq pl pcap h).mono ?_;rintro en w' ⟨rfl,h⟩;exact⟨⟨24,v,num,u,cs,false,ad,0,ap,ae,aq,al,acap,false,none,[],0,false,[],0,0,none,[],0⟩,K,rfl,rfl,Know.has_refl _,⟨f1,fun y hy=>(by cases hy),Jd _,fun y hy=>(by cases hy),Jd _,k1,zAZ K,zBs K⟩,h⟩
 ·refine(zRW v num u cs bn bd bt bp be ad ap ae aq al acap ed ep ee ec mq ml mcap pn pd pa pt pq pl pcap h).mono ?_;rintro en w' ⟨rfl,h⟩;exact⟨⟨26,v,num,u,cs,false,ed,0,ep,ee,none,[],0,ec,none,[],0,false,[],0,0,none,[],0⟩,K,rfl,rfl,Know.has_refl _,⟨zB3,fun y hy=>(by cases hy),Jd _,fun y hy=>(by cases hy),Jd _,zBv K,zAZ K,zBs K⟩,h⟩
 ·refine(zRV v num u cs bn bd bt bp be ad ap ae aq al acap ed ep ee ec mq ml mcap pn pd pa pt pq pl pcap f3 f2 k2 h).mono ?_;rintro en w' ⟨q2,cap2,rfl,h⟩;exact⟨⟨27,v,num,u,cs,false,[],0,0,0,none,[],0,false,q2,ml,cap2,false,[],0,0,none,[],0⟩,_,rfl,rfl,Know.has_left (Know.has_refl _),⟨zB3,f2,f3,fun y hy=>(by cases hy),Jd _,zBv _,Know.has_right (Know.has_refl _),zBs _⟩,h⟩
theorem zK0(x:FrR)(ha:x.Arg)(hk:K.has x.know)(h:St W0 w K L):
 Calls Jb 11 #[.agg x.vals] w fun en w'=>∃r:Int,en=Y (I O r)∧(r=0∨(r=1∧x.Few))∧St W0 w' K L:=by
 obtain⟨k,v,num,u,cs,bn,bd,bt,bp,be,ad,ap,ae,aq,al,acap,ed,ep,ee,ec,mq,ml,mcap,pn,pd,pa,pt,pq,pl,pcap⟩:=x;have k1:=FrR.k1 hk;have k2:=FrR.k2 hk;have k3:=FrR.k3 hk;obtain⟨_,_,_,_,f1,f2,f3,f4,f5,f6⟩:=ha;simp only at k1 k2 k3 f1 f2 f3 f4 f5 f6;have zero:∀{en:Ending}{w':World},en=Y (I O 0)∧St W0 w' K L→∃r:Int,en=Y (I O r)∧(r=0∨(r=1∧FrR.Few ⟨k,v,num,u,cs,bn,bd,bt,bp,be,ad,ap,ae,aq,al,acap,ed,ep,ee,ec,mq,ml,mcap,pn,pd,pa,pt,pq,pl,pcap⟩))∧St W0 w' K L:=fun⟨a,b⟩=>⟨0,a,.inl rfl,b⟩
 by_cases g1:1000<(cs.length:Int)
 ·exact(zSe k v num u cs bn bd bt bp be ad ap ae aq al acap ed ep ee ec mq ml mcap pn pd pa pt pq pl pcap g1 h).mono fun _ _ hh=>zero hh
 by_cases g2:1000<(bd.length:Int)
 ·exact(zSf k v num u cs bn bd bt bp be ad ap ae aq al acap ed ep ee ec mq ml mcap pn pd pa pt pq pl pcap g1 g2 h).mono fun _ _ hh=>zero hh
 by_cases g3:1000<(ad.length:Int)
 ·exact(zSg k v num u cs bn bd bt bp be ad ap ae aq al acap ed ep ee ec mq ml mcap pn pd pa pt pq pl pcap g1 g2 g3 h).mono fun _ _ hh=>zero hh
 by_cases g4:1000<(ed.length:Int)
 ·exact(zSd k v num u cs bn bd bt bp be ad ap ae aq al acap ed ep ee ec mq ml mcap pn pd pa pt pq pl pcap g1 g2 g3 g4 h).mono fun _ _ hh=>zero hh
 have hab:∀x∈al,x.1.name.length≤140737488351232∧x.1.parts.length≤17592186043904:=fun x hx=>⟨(f1.2 x hx).1,(f1.2 x hx).2.1⟩
 have hmb:∀x∈ml,x.l.map (·.1)=x.m.tops∧x.l.length≤140737488351232∧∀y∈x.l,y.1.name.length≤140737488351232∧y.1.parts.length≤17592186043904:=fun x hx=>⟨(f3 x hx).1,(f3 x hx).2.1.1,fun y hy=>⟨((f3 x hx).2.1.2 y hy).1,((f3 x hx).2.1.2 y hy).2.1⟩⟩
 rcases(show few (al.map (·.1))=0∨few (al.map (·.1))=1 by unfold few;split<;>simp)with g5|g5
 ·exact(zTf k v num u cs bn bd bt bp be ad ap ae aq al acap ed ep ee ec mq ml mcap pn pd pa pt pq pl pcap g1 g2 g3 g4 g5 oM oM oM oM f1.1 hab f2 hmb f4 f5 f6 k1 k2 k3 h).mono fun _ _ hh=>zero hh
 rcases zQC (ml.map MarkR.m)with g6|g6
 ·exact(zTh k v num u cs bn bd bt bp be ad ap ae aq al acap ed ep ee ec mq ml mcap pn pd pa pt pq pl pcap g1 g2 g3 g4 g5 g6 oM oM oM oM f1.1 hab f2 hmb f4 f5 f6 k1 k2 k3 h).mono fun _ _ hh=>zero hh
 refine(zTg k v num u cs bn bd bt bp be ad ap ae aq al acap ed ep ee ec mq ml mcap pn pd pa pt pq pl pcap g1 g2 g3 g4 g5 g6 oM oM oM oM f1.1 hab f2 hmb f4 f5 f6 k1 k2 k3 h).mono ?_;rintro en w' ⟨r,rfl,hr,h⟩;refine⟨r,rfl,?_,h⟩
 rcases hr with hr|⟨hr,h1,h2,h3⟩
 ·exact .inl hr
 ·exact .inr ⟨hr,by simp only;omega,by simp only;omega,by simp only;omega,by simp only;omega,g5,g6,h1,h2,h3⟩
theorem zD8{ops:Array Oper}{rest:List Oper}{o:Oper}{a:Act}{Q:Exit→Act→World→Prop}(hgd:o.guard=none)(sl x:Operand)
 (ho:o.op=.call {callee:=.builtin .append,args:= #[sl,x],argTypes:= #[72,9]})
 (v:Value)(n:Nat)(r s:Bs)(hn:n=r.length)(hs:a.eval sl=v)(hst:St W0 w K (.row v 5 1 n (zAD r)::L))(hx:a.eval x=Z (bb s))(hbytes:n+s.length≤140737488355328)
 (h:∀v' w',St W0 w' K (.row v' 5 1 (r++s).length (zAD (r++s))::L)→wpList Jb ops Q rest (a.put o.dst v') w'):wpList Jb ops Q (o::rest) a w:=by
 obtain⟨i0,hi,hz0,hz1,hz2⟩:=info_parts zJh;subst hn;refine zFY hgd sl x 72 9 ho 5 i0 Tryz.underlying72 Tryz.underlying9 hi hz0 hz1 hz2 v _ _ hs hst.rowGet (bb s) hx hbytes ?_;intro v' w1 h1 h2 h3;rw[zF8,←zFD]at h1;have e:r.length+(bb s).size=(r++s).length:=by rw[Jc];rfl
 rw[e]at h1;exact h v' w1 (hst.rowGrown h1 h2 h3)
theorem St.rowTextAt{g cap n:Nat}{s:Bs}(h:St W0 w K (.row (V (some ⟨g,0,none⟩) n cap) 5 1 n (zAD s)::L))(pos k c:Nat)(hn:n=s.length)(hk:pos+k≤s.length):
 (convert 72 9 (V (some ⟨g,pos,none⟩) k c)).run Jb w=.ok (Z (bb ((s.drop pos).take k))) w:=by
 have hl:((s.drop pos).take k).length=k:=by rw[List.length_take,Jh];omega
 have:=run_convert_bytes_back (P:=Jb) w 72 9 5 ⟨g,pos,none⟩ c ((s.drop pos).take k) Tryz.underlying72 Tryz.underlying5 Tryz.underlying9 (fun j hj=> ?_)
 ·rw[hl]at this;exact this
 ·rw[hl]at hj;have ha:(⟨g,pos,none⟩:Addr).add j=⟨g,pos+j,none⟩:=by unfold Addr.add;split<;>simp_all
  rw[ha,h.rowCell (pos+j) oM];have hb:pos+j<s.length:=by omega
  unfold zAD;rw[List.getElem?_map,List.getElem?_eq_getElem hb]
  simp
theorem zCP{P:Program}{fn:Func}{p t u:Tmp}{ty:TypeId}(h:fn.results= #[.cell p ty,.tmp t,.tmp u])(tmps:Array Value)(w:World)(b:Nat)(cs:List Value)(d:TypeDesc)
 (hp:tmps.getD p undef=Ja (some ⟨b,0,none⟩))(hc:w.rangeAt b 0 cs)(hu:P.underlying ty=some d)(hd:d.isRow=true)(hi:(P.info? ty).map (·.size)=some cs.length):
 (results fn tmps).run P w=.ok (.tuple #[.agg cs.toArray,tmps.getD t undef,tmps.getD u undef]) w:=by
 have hp':tmps[p]?.getD undef=Ja (some ⟨b,0,none⟩):=by simpa using hp
 simp[results,h,hp',asAddr,run_loadVar_mid w b 0 ty cs d hc hu hd hi]
def zAh (x:FrR):List Value:=x.vals.toList
def RFr (cs:List Value) (x:FrR):Prop:=cs=zAh x
theorem zAX(x:FrR):(zAh x).length=24:=rfl
theorem zGN(x:FrR):∀u∈zAh x,u.oneCell'=true:=by
 intro u hu;have h:x.vals.all (fun z=>z.oneCell')=true:=by simp[FrR.vals,Value.oneCell']
 exact(Array.all_eq_true_iff_forall_mem.1 h) u (by simpa [zAh]using hu)
theorem zFi(x:FrR):x.vals.all (fun z=>z.oneCell')=true:=by simp[FrR.vals,Value.oneCell']
def Know.frs (v:Value) (l:List FrR):Know:=(Know.flat RFr v 24 l).and (Know.all l FrR.know)
theorem zND{K:Know}{v:Value}{l:List FrR}(h:K.has (Know.frs v l)):K.has (Know.flat RFr v 24 l):=fun w F x=>(h w F x).1
theorem zR8{K:Know}{v:Value}{l:List FrR}(h:K.has (Know.frs v l)){x:FrR}(hx:x∈l):K.has x.know:=fun w F y=>(h w F y).2 x hx
theorem zFx(l:List FrR):(l.flatMap zAh).length=l.length*24:=by
 induction l with
 |nil=>rfl
 |cons x t ih=>rw[Jg,Jc,ih,zAX,Jn];omega
theorem zJo(l:List FrR):∀u∈l.flatMap zAh,u.oneCell'=true:=by
 intro u hu;obtain⟨x,_,h⟩:=List.mem_flatMap.1 hu;exact zGN x u h
theorem St.freezeFrs{W0 w:World}{K:Know}{L:List Res}{v:Value}{T:TypeId}{l:List FrR}(h:St W0 w K (.row v T 24 l.length (l.flatMap zAh)::L))(ht:∀x∈l,K.has x.know):St W0 w (K.and (Know.frs v l)) L:=by
 have hf:=h.freezeRow (R:=RFr) (fun x _=>⟨rfl,rfl⟩);exact hf.know (K':=K.and (Know.frs v l)) (fun w F hh=>⟨hh.1,hh.2,fun x hx=>ht x hx _ _ hh.1⟩)
theorem frs_at{K:Know}{l:List FrR}{q:Option Addr}{n cap:Nat}{W0 w:World}{L:List Res}(hk:K.has (Know.frs (V q n cap) l))(h:St W0 w K L)(h0:0<l.length):∃b off,q=some ⟨b,off,none⟩:=by
 obtain⟨F,hF,_⟩:=h.get;obtain⟨q2,cap2,hv,hrr⟩:=(zND hk _ _ hF).at;obtain⟨b2,off2,hq,_⟩:=hrr oM;rw[hq]at hv;simp at hv;exact⟨b2,off2,hv.1⟩
theorem zQt{K:Know}{l:List FrR}{n cap b off:Nat}{W0 w:World}{L:List Res}(hk:K.has (Know.frs (V (some ⟨b,off,none⟩) n cap) l))(h:St W0 w K L)(i:Nat)(hi:i<l.length)(x:FrR)(hx:l[i]=x):w.rangeAt b (off+i*24) (zAh x):=by
 obtain⟨F,hF,_⟩:=h.get;obtain⟨q2,cap2,hv,hrr⟩:=(zND hk _ _ hF).at;obtain⟨b2,off2,hq,hc⟩:=hrr oM;rw[hq]at hv;simp at hv;obtain⟨⟨rfl,rfl⟩,_,_⟩:=hv;obtain⟨cs,_,hR,hcs⟩:=hc i hi;unfold RFr at hR;intro j u hj;have:=hcs j u (by rw[hR,hx];exact hj);rw[show off+i*24+j=off+(i*24+j) by omega];exact this
theorem zMH{K:Know}{l:List FrR}{n cap b off:Nat}{W0 w:World}{L:List Res}(hk:K.has (Know.frs (V (some ⟨b,off,none⟩) n cap) l))(h:St W0 w K L):∀j u,(l.flatMap zAh)[j]? =some u→w.cell? ((⟨b,off,none⟩:Addr).add j)=some u:=by
 intro j u hj
 have hjl:j<l.length*24:=by
  rw[←zFx];exact(List.getElem?_eq_some_iff.1 hj).1
 have hi:j / 24<l.length:=by omega
 have h2:=zQt hk h (j / 24) hi _ rfl
 have e:∀(l:List FrR) (i k:Nat) (hi:i<l.length),k<24→(l.flatMap zAh)[i*24+k]? =(zAh l[i])[k]? :=by
  intro l
  induction l with
  |nil=>intro i k hi;simp at hi
  |cons x t ih=>
   intro i k hi hk;rw[Jg]
   cases i with
   |zero=>rw[Nat.zero_mul,Nat.zero_add,List.getElem?_append_left (by rw[zAX];exact hk)];rfl
   |succ i=>
    rw[List.getElem?_append_right (by rw[zAX];omega),zAX,show(i+1)*24+k - 24=i*24+k by omega];rw[ih i k (by simpa using hi) hk]
    rfl
 have ha:(⟨b,off,none⟩:Addr).add j=⟨b,off+(j / 24)*24+j % 24,none⟩:=by unfold Addr.add;split<;>simp_all<;>omega
 rw[ha];refine h2 (j % 24) u ?_;rw[←e l (j / 24) (j % 24) hi oM,show j / 24*24+j % 24=j by omega];exact hj
theorem zG3:zCJ Jb 38 (.agg #[I O 0,I O 0,I O 0,U false,Z ⟨#[]⟩,U false,Z ⟨#[]⟩,I O 0,I O 0,I O 0,Z ⟨#[]⟩,I O 0,I O 0,V none 0 0,Z ⟨#[]⟩,I O 0,I O 0,U false,V none 0 0,U false,Z ⟨#[]⟩,I O 0,I O 0,V none 0 0]) 24 280:=zAT kR rfl dD
theorem zO8{ops:Array Oper}{rest:List Oper}{o:Oper}{a:Act}{w:World}{Q:Exit→Act→World→Prop}(hg:o.guard=none)(x:Operand)(ho:o.op=.buildSlice 70 1 #[(0,x)])(y:FrR)(hx:a.eval x=.agg y.vals)
 (h:wpList Jb ops Q rest (a.put o.dst (V (some ⟨w.heap.size,0,none⟩) 1 1)) (w.alloc (.cells (zAh y).toArray 38))):wpList Jb ops Q (o::rest) a w:=by
 obtain⟨⟨i,g1,g2,g3,_⟩,g5,_⟩:=zG3;obtain⟨z,hz⟩:=eX (Value.agg #[I O 0,I O 0,I O 0,U false,Z ⟨#[]⟩,U false,Z ⟨#[]⟩,I O 0,I O 0,I O 0,Z ⟨#[]⟩,I O 0,I O 0,V none 0 0,Z ⟨#[]⟩,I O 0,I O 0,U false,V none 0 0,U false,Z ⟨#[]⟩,I O 0,I O 0,V none 0 0]);rw[hz]at g2 g5;obtain⟨r,hr,hsz,hrk⟩:=Great.fill_dense (s:=24) dD [.agg y.vals] 0 ((Array.range (1*24)).map (z.cells[· % z.cells.size]!)) (fun v hv=>by rw[List.mem_singleton.1 hv];rfl) sM
 have er:r=y.vals:=by
  apply Array.ext_getElem?
  intro k;rw[hrk k]
  by_cases hk:k<24
  ·rw[if_pos (by simpa using hk),show k / 24 - 0=0 by omega];simp[Value.cells,Nat.mod_eq_of_lt hk]
  ·rw[if_neg (by simpa using hk)];rw[Array.getElem?_eq_none (by simp;omega),Array.getElem?_eq_none (by show(24:Nat)≤k;omega)]
 subst er;refine wpList_plain hg fun K hK=>wp_buildSlice 70 38 1 #[(0,x)] ho y.vals i z Tryz.underlying70 g1 g2 (by rw[g3];decide) (by rw[g3];decide) ?_ (hK _ _ h)
 rw[g3];simp only[List.map_toArray,List.map_cons,List.map_nil,hx];exact hr
theorem zq42{p:Prop}(h:p:=by rw[hS];simp only[Je,Jp]):p:=h
theorem zTy(S A:Bs)(nl:Bool)(d:Bs)(tm:Int)(hi:idOk nl d=true)(ht:0≤tm∧tm≤2147483647)(hS:S=A++(encF 2 ⟨nl,d⟩++zAa tm 4)):∃i1,(⟨S,A.length,0⟩:InS).fixed 2=(⟨nl,d⟩,i1)∧i1.int 4=(tm,⟨S,S.length,0⟩):=by
 have a:=zGP S A (zAa tm 4) nl d hi (by rw[hS,Je]);have b:=zAG S (A++encF 2 ⟨nl,d⟩) [] tm 4 dD dD (zC1 tm oM) zq42;rw[show A++encF 2 ⟨nl,d⟩++zAa tm 4=S by rw[hS,Je]]at b;exact⟨_,a,b⟩
theorem zq34{p:Prop}(h:p:=by rw[hS];simp only[Je]):p:=h
theorem zRd(S A:Bs)(nl:Bool)(d:Bs)(tm p e:Int)(hi:idOk nl d=true)(ht:0≤tm∧tm≤2147483647)(hp: -1≤p∧p<9223372036854775808)(he: -1≤e∧e≤32767)(hS:S=A++(encF 2 ⟨nl,d⟩++zAa tm 4++zAa p 8++zAa e 2)):∃i1 i2 i3,(⟨S,A.length,0⟩:InS).fixed 2=(⟨nl,d⟩,i1)∧i1.int 4=(tm,i2)∧i2.int 8=(p,i3)∧i3.int 2=(e,⟨S,S.length,0⟩):=by
 have a:=zGP S A (zAa tm 4++(zAa p 8++zAa e 2)) nl d hi zq34;have b:=zAG S (A++encF 2 ⟨nl,d⟩) (zAa p 8++zAa e 2) tm 4 dD dD (zC1 tm oM) zq34;have c:=zAG S (A++encF 2 ⟨nl,d⟩++zAa tm 4) (zAa e 2) p 8 dD dD (zFs p oM) zq34;have f:=zAG S (A++encF 2 ⟨nl,d⟩++zAa tm 4++zAa p 8) [] e 2 dD dD (zC2 e oM) zq42;rw[show A++encF 2 ⟨nl,d⟩++zAa tm 4++zAa p 8++zAa e 2=S by rw[hS];simp only[Je]]at f;exact⟨_,_,_,a,b,c,f⟩
theorem zTx(S A:Bs)(d:Bs)(p e:Int)(l:List TopS)(hd:d.length≤32767)(hp:0≤p∧p<9223372036854775808)(he:0≤e∧e≤32767)(hf:zC7 l)(hS:S=A++(encF 2 ⟨false,d⟩++zAa p 8++zAa e 2++zA3 l)):∃i1 i2 i3,(⟨S,A.length,0⟩:InS).text=(d,i1)∧i1.int 8=(p,i2)∧i2.int 2=(e,i3)∧i3.tops=(l,⟨S,S.length,0⟩):=by
 have a:=zHN S A (zAa p 8++(zAa e 2++zA3 l)) d hd zq34;have b:=zAG S (A++encF 2 ⟨false,d⟩) (zAa e 2++zA3 l) p 8 dD dD (zFs p oM) zq34;have c:=zAG S (A++encF 2 ⟨false,d⟩++zAa p 8) (zA3 l) e 2 dD dD (zC2 e oM) zq34;have f:=zHL S (A++encF 2 ⟨false,d⟩++zAa p 8++zAa e 2) [] l hf zq42;rw[show A++encF 2 ⟨false,d⟩++zAa p 8++zAa e 2++zA3 l=S by rw[hS];simp only[Je]]at f;exact⟨_,_,_,a,b,c,f⟩
theorem zTw(S A:Bs)(d:Bs)(p e:Int)(c:Bool)(hd:d.length≤32767)(hp:0≤p∧p<9223372036854775808)(he:0≤e∧e≤32767)(hS:S=A++(encF 2 ⟨false,d⟩++zAa p 8++zAa e 2++encO c)):∃i1 i2 i3,(⟨S,A.length,0⟩:InS).text=(d,i1)∧i1.int 8=(p,i2)∧i2.int 2=(e,i3)∧i3.boolP=(c,⟨S,S.length,0⟩):=by
 have a:=zHN S A (zAa p 8++(zAa e 2++encO c)) d hd zq34;have b:=zAG S (A++encF 2 ⟨false,d⟩) (zAa e 2++encO c) p 8 dD dD (zFs p oM) zq34;have f:=zAG S (A++encF 2 ⟨false,d⟩++zAa p 8) (encO c) e 2 dD dD (zC2 e oM) zq34;have g:=zIm S (A++encF 2 ⟨false,d⟩++zAa p 8++zAa e 2) [] c zq42;rw[show A++encF 2 ⟨false,d⟩++zAa p 8++zAa e 2++encO c=S by rw[hS];simp only[Je]]at g;exact⟨_,_,_,a,b,f,g⟩
theorem zGH(S A:Bs)(v:Int)(l:List MarkS)(hv:v=0∨v=1)(hE:zAE v l=0)(h:∀m∈l,m.R∧zC7 m.tops)(hn:l.length≤1000000)(hS:S=A++zEz v l):
 (InS.marksN v ((⟨S,A.length,0⟩:InS).cnt 15).1 [] ((⟨S,A.length,0⟩:InS).cnt 15).2).1=l∧(⟨S,A.length,0⟩:InS).marks v=(l,⟨S,S.length,0⟩):=by
 have hal:=(zCS hE).2;have hS2:S=A++zAa (l.length:Int) 4++l.flatMap (encM v):=by rw[hS,Je];rfl
 have h4:=zAb (l.length:Int) 4
 have a:(⟨S,A.length,0⟩:InS).cnt 15=(l.length,⟨S,(A++zAa (l.length:Int) 4).length,0⟩):=
  zB9 (zBq 15 dD) S A (zAa (l.length:Int) 4) (l.flatMap (encM v)) hS2 l.length 4 h4 (zCD 15 l.length _ dD oM (zMQ v l))
 have b:InS.marksN v l.length [] ⟨S,(A++zAa (l.length:Int) 4).length,0⟩=(l,⟨S,S.length,0⟩):=by
  have:=zGG S v hv l (A++zAa (l.length:Int) 4) [] [] (fun m hm=>⟨hal m hm,h m hm⟩) (by rw[Jp];exact hS2);rw[←hS2,List.nil_append]at this;exact this
 constructor
 ·rw[a];simp only;rw[b]
 ·unfold InS.marks;rw[a];simp only;rw[b];simp only;rw[if_pos trivial,hE,if_pos rfl]
theorem zS2(S A:Bs)(nl:Bool)(dd:Bs)(ac tm:Int)(l:List PTop)(hr:(⟨nl,dd⟩:BlobS).right=true)(hd:dd.length≤32767)(ha: -32768≤ac∧ac<32768)(ht: -2147483648≤tm∧tm<2147483648)(hl:l.length≤1000000)(h:∀x∈l,BkT x)(hS:S=A++zAR nl dd ac tm l):
  ReqI ⟨S,A.length,0⟩ ⟨nl,dd⟩ ac tm (l.map PTop.pt) ⟨S,S.length,0⟩:=by
 have hfl:fits (⟨nl,dd⟩:BlobS).len 2:=by
  apply zFv
  unfold BlobS.len
  cases nl<;>simp<;>omega
 have e:S=A++encF 2 ⟨nl,dd⟩++zAa ac 2++zAa tm 4++zAa (l.length:Int) 4++l.flatMap zAg:=by rw[hS];unfold zAR;simp only[Je];rfl
 have a:(⟨S,A.length,0⟩:InS).fixed 2=(⟨nl,dd⟩,⟨S,(A++encF 2 ⟨nl,dd⟩).length,0⟩):=
  zB9 (zAN 2 dD dD) S A _ (zAa ac 2++(zAa tm 4++(zAa (l.length:Int) 4++l.flatMap zAg))) (by rw[e];simp only[Je]) ⟨nl,dd⟩ _ rfl (zA4 2 ⟨nl,dd⟩ hr hfl _)
 have b:=zAG S (A++encF 2 ⟨nl,dd⟩) (zAa tm 4++(zAa (l.length:Int) 4++l.flatMap zAg)) ac 2 dD dD (zFv ac ha) (by rw[e];simp only[Je]);have c:=zAG S (A++encF 2 ⟨nl,dd⟩++zAa ac 2) (zAa (l.length:Int) 4++l.flatMap zAg) tm 4 dD dD (zC3 tm ht) (by rw[e];simp only[Je])
 have d:(⟨S,(A++encF 2 ⟨nl,dd⟩++zAa ac 2++zAa tm 4).length,0⟩:InS).cnt 6=(l.length,⟨S,(A++encF 2 ⟨nl,dd⟩++zAa ac 2++zAa tm 4++zAa (l.length:Int) 4).length,0⟩):=
  zB9 (zBq 6 dD) S _ (zAa (l.length:Int) 4) (l.flatMap zAg) e l.length 4 (zAb _ _) (zCD 6 l.length _ dD oM (zDq l))
 have hn:=zE7 l h [];rw[Jp]at hn;have hle:(A++encF 2 ⟨nl,dd⟩++zAa ac 2++zAa tm 4++zAa (l.length:Int) 4).length≤S.length:=by rw[e];simp only[Jc];omega
 have f:=((zKG l.length [] S _ hle).1 (l.map PTop.pt) (l.flatMap zAg).length (by
  have:S.drop (A++encF 2 ⟨nl,dd⟩++zAa ac 2++zAa tm 4++zAa (l.length:Int) 4).length=l.flatMap zAg:=by
   conv=>lhs;arg 2;rw[e]
   exact List.drop_left
  rw[this]
  exact hn)).2
 rw[List.nil_append,←Jc,←e]at f;exact⟨_,_,_,_,l.length,a,b,c,d,f⟩
theorem zR2{l m:List (TopS×Value)}(h:m.map (·.1)=l.map (·.1))(hl:LenT l):LenT m:=by
 have e:m.length=l.length:=by have:=congrArg List.length h;simpa using this
 refine⟨by rw[e];exact hl.1,fun x hx=> ?_⟩;have:x.1∈l.map (·.1):=by rw[←h];exact List.mem_map_of_mem hx
 obtain⟨y,hy,hxy⟩:=List.mem_map.1 this;rw[←hxy];exact hl.2 y hy
theorem zSI{l:List (TopS×Value)}(h:FewT l):FewL (l.map (·.1)):=⟨by rw[Jj];exact h.1,fun t ht=>by
 obtain⟨y,hy,rfl⟩:=List.mem_map.1 ht
 exact h.2 y hy⟩
theorem zPd{v:Int}(h:zAy 27 v=0):v=0∨v=1:=by
 unfold zAy zC5 at h;simp at h
 omega
theorem zEH(b:BatS)(sl:Value)(w:World):(Instr.buildSlice 179 1 #[(0,.agg #[I O b.base,I O b.leader,U b.app,U b.txn,U b.ctl,I O b.last,I O b.first,I O b.maxt,I O b.prod,I O b.epoch,I O b.seq,sl])]).run Jb w=.ok (V (some ⟨w.heap.size,0,none⟩) 1 1) (w.alloc (.cells #[I O b.base,I O b.leader,U b.app,U b.txn,U b.ctl,I O b.last,I O b.first,I O b.maxt,I O b.prod,I O b.epoch,I O b.seq,sl] 101 (0,0))):=by go_simp
theorem zCX{o:Oper}{ρ:Operand→Value}(ps:Array (Nat×Value))(v:Value)(w w':World)(ho:execOp ρ o=(do pure (Next.value (←Instr.buildSlice 179 1 ps))))(hb:(Instr.buildSlice 179 1 ps).run Jb w=.ok v w'):(execOp ρ o).run Jb w=.ok (.value v) w':=by
 rw[ho];simp[hb]
theorem zEG(a:Int)(sl:Value)(w:World):(Instr.buildSlice 176 1 #[(0,.agg #[I O a,sl])]).run Jb w=.ok (V (some ⟨w.heap.size,0,none⟩) 1 1) (w.alloc (.cells #[I O a,sl] 181 (0,0))):=by go_simp
theorem zB4{o:Oper}{ρ:Operand→Value}(ps:Array (Nat×Value))(v:Value)(w w':World)(ho:execOp ρ o=(do pure (Next.value (←Instr.buildSlice 176 1 ps))))(hb:(Instr.buildSlice 176 1 ps).run Jb w=.ok v w'):(execOp ρ o).run Jb w=.ok (.value v) w':=by
 rw[ho];simp[hb]
set_option maxHeartbeats 8000000
set_option maxRecDepth 100000
variable {W0 w:World}{K:Know}{L:List Res}
theorem zDQ(p:Nat)(e e2:Bs)(u:Bool)(s:Bs)(he:e++encF 2 ⟨u,s⟩=e2)(hr:(⟨u,s⟩:BlobS).right=true)(hf:fits (⟨u,s⟩:BlobS).len 2)(hs:s.length≤32767)(hl:e.length≤100000000000000)(h:St W0 w K (.out p ⟨e,0⟩::L)):
 Calls Jb 96 #[zAc p,.agg #[U u,Z (bb s)],I O 2] w fun en w'=>en=Y (.tuple #[])∧St W0 w' K (.out p ⟨e2,0⟩::L):=by
 have h2:=zBb p ⟨e,0⟩ ⟨u,s⟩ 2 h zq36
 have e3:(⟨e,0⟩:OutS).putFixed ⟨u,s⟩ 2=⟨e2,0⟩:=by
  unfold OutS.putFixed OutS.int;rw[if_pos hf,←he]
  cases u with
  |true=>
   have h3:s=[]:=by cases s with|nil=>rfl|cons _ _=>cases hr
   subst h3
   show(⟨(e++zAa (⟨true,[]⟩:BlobS).len 2)++[],0⟩:OutS)=_
   rw[Je]
   rfl
  |false=>
   exact zq19
 rw[e3]at h2;exact h2
theorem zQ6(bB vB:Nat)(v:Int)(nl:Bool)(d:Bs)(tm p e:Int)(r:Int)(hr:begE v nl d tm p e=r)(hl:d.length≤140737488355328)(c0:w.cell? ⟨bB,0,none⟩=some (U nl))(c1:w.cell? ⟨bB,1,none⟩=some (Z (bb d)))(c2:w.cell? ⟨bB,2,none⟩=some (I O tm))(c3:w.cell? ⟨bB,3,none⟩=some (I O p))(c4:w.cell? ⟨bB,4,none⟩=some (I O e))(cv:w.cell? ⟨vB,0,none⟩=some (I O v))(h:St W0 w K L):
 Calls Jb 155 #[Ja (some ⟨bB,0,none⟩),Ja (some ⟨vB,0,none⟩)] w fun en w'=>en=Y (I O r)∧St W0 w' K L:=by
 have H:=hQd h;have HR:=hQd hr;have HL:=hQd hl;clear h hr hl;go_enter Tryz.func155,Tryz.ntmps155;go_wp2_with (go_at_call 156;(with_reducible refine(zLy v nl d tm p e _ HR.out HL.out H.out).zM ?_);clear H;intro wn H);go_ret;exact⟨rfl,H.out⟩
theorem zFd(b:Nat)(o o2:OutS)(bB vB:Nat)(v:Int)(nl:Bool)(d:Bs)(tm p e:Int)(r:Int)(t:Bool)(hr:begE v nl d tm p e=r)(hl:d.length≤140737488355328)(ht:(r==0)=t)(ho:(if r=0 then o else o.fail r)=o2)(h:St W0 w K (.out b o::.raw vB #[I O v] 3::.raw bB #[U nl,Z (bb d),I O tm,I O p,I O e] 27::L)):
 Calls Jb 154 #[zAc b,.func (.func 155) #[] #[Ja (some ⟨bB,0,none⟩),Ja (some ⟨vB,0,none⟩)]] w fun en w'=>en=Y (U t)∧St W0 w' K (.out b o2::.raw vB #[I O v] 3::.raw bB #[U nl,Z (bb d),I O tm,I O p,I O e] 27::L):=by
 have H:=hQd h;have C0:=hQd (show w.cell? ⟨bB,0,none⟩=some (U nl) by have:=h.p2.rawCell 0;simpa using this);have C1:=hQd (show w.cell? ⟨bB,1,none⟩=some (Z (bb d)) by have:=h.p2.rawCell 1;simpa using this);have C2:=hQd (show w.cell? ⟨bB,2,none⟩=some (I O tm) by have:=h.p2.rawCell 2;simpa using this);have C3:=hQd (show w.cell? ⟨bB,3,none⟩=some (I O p) by have:=h.p2.rawCell 3;simpa using this);have C4:=hQd (show w.cell? ⟨bB,4,none⟩=some (I O e) by have:=h.p2.rawCell 4;simpa using this);have CV:=hQd (show w.cell? ⟨vB,0,none⟩=some (I O v) by have:=h.p1.rawCell 0;simpa using this);have HR:=hQd hr;have HL:=hQd hl;clear h hr hl
 by_cases h0:r=0
 ·rw[if_pos h0]at ho;subst ho h0;obtain rfl:true=t:=ht;go_enter Tryz.func154,Tryz.ntmps154;go_wp2_with (go_at_call 155;(with_reducible refine(zQ6 bB vB v nl d tm p e _ HR.out HL.out C0.out C1.out C2.out C3.out C4.out CV.out H.out).zM ?_);clear H;intro wn H);go_ret;exact⟨rfl,H.out⟩
 ·rw[if_neg h0]at ho;have HO:=hQd ho;have g0:(r==0)=false:=by rw[beq_eq_false_iff_ne];exact h0
  have g00:(r !=0)=true:=by simp[bne,g0]
  rw[g0]at ht;subst ht;clear ho h0;go_enter Tryz.func154,Tryz.ntmps154
  go_wp2_with (first
  |(go_at_call 155;(with_reducible refine(zQ6 bB vB v nl d tm p e _ HR.out HL.out C0.out C1.out C2.out C3.out C4.out CV.out H.out).zM ?_);clear H;intro wn H)
  |(go_at_call 95;(with_reducible refine(zDz b _ _ _ HO.out H.out).zM ?_);clear H;intro wn H))
  go_ret;exact⟨rfl,H.out⟩
theorem zJa(b:Nat)(o o2:OutS)(d:Bs)(p e:Int)(l:List (TopS×Value))(q:Option Addr)(cap:Nat)(r:Int)(t:Bool)(hr:addE d p e (l.map (·.1))=r)(hl:d.length≤140737488355328)(hf:FewT l)(ht:(r==0)=t)(ho:(if r=0 then o else o.fail r)=o2)(hk:K.has (Know.tops (V q l.length cap) l))(h:St W0 w K (.out b o::L)):
 Calls Jb 154 #[zAc b,.func (.func 158) #[.agg #[Z (bb d),I O p,I O e,V q l.length cap]] #[]] w fun en w'=>en=Y (U t)∧St W0 w' K (.out b o2::L):=by
 have H:=hQd h;have HR:=hQd hr;have HL:=hQd hl;have HF:=hQd hf;have HK:=hQd hk;clear h hr hl hf hk
 by_cases h0:r=0
 ·rw[if_pos h0]at ho;subst ho h0;obtain rfl:true=t:=ht;go_enter Tryz.func154,Tryz.ntmps154;go_wp2_with (go_at_call 158;(with_reducible refine(zEP d p e l q cap _ HR.out HL.out HF.out HK.out H.out).zM ?_);clear H;intro wn H);go_ret;exact⟨rfl,H.out⟩
 ·rw[if_neg h0]at ho;have HO:=hQd ho;have g0:(r==0)=false:=by rw[beq_eq_false_iff_ne];exact h0
  have g00:(r !=0)=true:=by simp[bne,g0]
  rw[g0]at ht;subst ht;clear ho h0;go_enter Tryz.func154,Tryz.ntmps154
  go_wp2_with (first
  |(go_at_call 158;(with_reducible refine(zEP d p e l q cap _ HR.out HL.out HF.out HK.out H.out).zM ?_);clear H;intro wn H)
  |(go_at_call 95;(with_reducible refine(zDz b _ _ _ HO.out H.out).zM ?_);clear H;intro wn H))
  go_ret;exact⟨rfl,H.out⟩
variable {W0 w:World}{K:Know}{L:List Res}
theorem zHi(p:Nat)(i j:InS)(n:Bool)(d:Bs)(hx:i.fixed 2=(⟨n,d⟩,j))(h:St W0 w K (.inp p i::L)):
 Calls Jb 117 #[zAe p,I O 2] w fun en w'=>en=Y (.agg #[U n,Z (bb d)])∧St W0 w' K (.inp p j::L):=by
 have:=zDK p i 2 h;rw[hx]at this;exact this
theorem zJS(v:Int)(nl:Bool)(d:Bs)(tm p e:Int)(r:Int)(hr:begE v nl d tm p e=r)(hl:d.length≤140737488355328)(h:St W0 w K L):
 Calls Jb 274 #[.agg #[U nl,Z (bb d),I O tm,I O p,I O e,I O v]] w fun en w'=>en=Y (I O r)∧St W0 w' K L:=by
 have H:=hQd (h.allocRaw #[U nl,Z (bb d),I O tm,I O p,I O e,I O v] 269);have HR:=hQd hr;have HL:=hQd hl;clear h hr hl;go_enter Tryz.func274,Tryz.ntmps274;go_wp2_with (go_at_call 156;(with_reducible refine(zLy v nl d tm p e _ HR.out HL.out H.out).zM ?_);clear H;intro wn H);go_ret;exact⟨rfl,H.out.drop⟩
theorem zPx(p:Nat)(i j:InS)(e:Int)(hx:i.fail e=j)(h:St W0 w K (.inp p i::L)):
 Calls Jb 70 #[zAe p,I O e] w fun en w'=>en=Y (.tuple #[])∧St W0 w' K (.inp p j::L):=by
 subst hx;exact zBV p i e h
theorem zPa(b:Nat)(i j:InS)(v:Int)(nl:Bool)(d:Bs)(tm p e:Int)(r:Int)(t:Bool)(hr:begE v nl d tm p e=r)(hl:d.length≤140737488355328)(hi:i.err=0)(ht:(r==0)=t)(hj:(if r=0 then i else i.fail r)=j)(h:St W0 w K (.inp b i::L)):
 Calls Jb 177 #[zAe b,.iface 269 (.agg #[U nl,Z (bb d),I O tm,I O p,I O e,I O v])] w fun en w'=>en=Y (U t)∧St W0 w' K (.inp b j::L):=by
 have H:=hQd h;have HI:=hQd hi;have HR:=hQd hr;have HL:=hQd hl;clear h hr hl;clear hi
 by_cases h0:r=0
 ·rw[if_pos h0]at hj;subst hj h0;obtain rfl:true=t:=ht;go_enter Tryz.func177,Tryz.ntmps177
  go_wp2_with (first
  |(go_at_call 22;(with_reducible refine(zCx b _ _ HI.out H.out).zM ?_);clear H;intro wn H)
  |(go_at_call 274;(with_reducible refine(zJS v nl d tm p e _ HR.out HL.out H.out).zM ?_);clear H;intro wn H))
  go_ret;exact⟨rfl,H.out⟩
 ·rw[if_neg h0]at hj;have HJ:=hQd hj;have g0:(r==0)=false:=by rw[beq_eq_false_iff_ne];exact h0
  have g00:(r !=0)=true:=by simp[bne,g0]
  rw[g0]at ht;subst ht;clear hj h0;go_enter Tryz.func177,Tryz.ntmps177
  go_wp2_with (first
  |(go_at_call 22;(with_reducible refine(zCx b _ _ HI.out H.out).zM ?_);clear H;intro wn H)
  |(go_at_call 274;(with_reducible refine(zJS v nl d tm p e _ HR.out HL.out H.out).zM ?_);clear H;intro wn H)
  |(go_at_call 70;(with_reducible refine(zPx b _ _ _ HJ.out H.out).zM ?_);clear H;intro wn H))
  go_ret;exact⟨rfl,H.out⟩
theorem zPb(b:Nat)(i j:InS)(d:Bs)(p e:Int)(l:List (TopS×Value))(q:Option Addr)(cap:Nat)(r:Int)(t:Bool)(hr:addE d p e (l.map (·.1))=r)(hl:d.length≤140737488355328)(hf:FewT l)(hi:i.err=0)(ht:(r==0)=t)(hj:(if r=0 then i else i.fail r)=j)(hk:K.has (Know.tops (V q l.length cap) l))(h:St W0 w K (.inp b i::L)):
 Calls Jb 177 #[zAe b,.iface 30 (.agg #[Z (bb d),I O p,I O e,V q l.length cap])] w fun en w'=>en=Y (U t)∧St W0 w' K (.inp b j::L):=by
 have H:=hQd h;have HI:=hQd hi;have HR:=hQd hr;have HL:=hQd hl;have HF:=hQd hf;have HK:=hQd hk;clear h hr hl hf hk;clear hi
 by_cases h0:r=0
 ·rw[if_pos h0]at hj;subst hj h0;obtain rfl:true=t:=ht;go_enter Tryz.func177,Tryz.ntmps177
  go_wp2_with (first
  |(go_at_call 22;(with_reducible refine(zCx b _ _ HI.out H.out).zM ?_);clear H;intro wn H)
  |(go_at_call 158;(with_reducible refine(zEP d p e l q cap _ HR.out HL.out HF.out HK.out H.out).zM ?_);clear H;intro wn H))
  go_ret;exact⟨rfl,H.out⟩
 ·rw[if_neg h0]at hj;have HJ:=hQd hj;have g0:(r==0)=false:=by rw[beq_eq_false_iff_ne];exact h0
  have g00:(r !=0)=true:=by simp[bne,g0]
  rw[g0]at ht;subst ht;clear hj h0;go_enter Tryz.func177,Tryz.ntmps177
  go_wp2_with (first
  |(go_at_call 22;(with_reducible refine(zCx b _ _ HI.out H.out).zM ?_);clear H;intro wn H)
  |(go_at_call 158;(with_reducible refine(zEP d p e l q cap _ HR.out HL.out HF.out HK.out H.out).zM ?_);clear H;intro wn H)
  |(go_at_call 70;(with_reducible refine(zPx b _ _ _ HJ.out H.out).zM ?_);clear H;intro wn H))
  go_ret;exact⟨rfl,H.out⟩
theorem zHJ(b:Nat)(i:InS)(v:Int)(nl:Bool)(d:Bs)(tm p e:Int)(hr:begE v nl d tm p e=0)(hl:d.length≤140737488355328)(hi:i.err=0)(h:St W0 w K (.inp b i::L)):
 Calls Jb 177 #[zAe b,.iface 269 (.agg #[U nl,Z (bb d),I O tm,I O p,I O e,I O v])] w fun en w'=>en=Y (U true)∧St W0 w' K (.inp b i::L):=
 zPa b i i v nl d tm p e 0 true hr hl hi rfl (if_pos rfl) h
theorem zNW(b:Nat)(i:InS)(d:Bs)(p e:Int)(l:List (TopS×Value))(q:Option Addr)(cap:Nat)(hr:addE d p e (l.map (·.1))=0)(hl:d.length≤140737488355328)(hf:FewT l)(hi:i.err=0)(hk:K.has (Know.tops (V q l.length cap) l))(h:St W0 w K (.inp b i::L)):
 Calls Jb 177 #[zAe b,.iface 30 (.agg #[Z (bb d),I O p,I O e,V q l.length cap])] w fun en w'=>en=Y (U true)∧St W0 w' K (.inp b i::L):=
 zPb b i i d p e l q cap 0 true hr hl hf hi rfl (if_pos rfl) hk h
variable {W0 w:World}{K:Know}{L:List Res}
theorem zKA(b:Nat)(i i1 i2:InS)(nl:Bool)(d:Bs)(tm:Int)(h1:i.fixed 2=(⟨nl,d⟩,i1))(h2:i1.int 4=(tm,i2))(hi:i2.err=0)(hr:begE 0 nl d tm (-1) (-1)=0)(hl:d.length≤140737488355328)(h:St W0 w K (.inp b i::L)):
 Calls Jb 119 #[zAe b,I O 0] w fun en w'=>en=Y (.agg #[U nl,Z (bb d),I O tm,I O (-1),I O (-1)])∧St W0 w' K (.inp b i2::L):=by
 obtain⟨rb,hrb⟩:=eX w.heap.size;obtain⟨eb,heb⟩:=eX (rb+1);have g1:=(h.allocRaw #[U false,Z ⟨#[]⟩,I O 0,I O 0,I O 0] 27).allocRaw #[U false,Z ⟨#[]⟩,I O 0,I O (-1),I O (-1)] 27;simp only[World.size_alloc,hrb,heb]at g1;have H:=hQd g1.p2;have H1:=hQd h1;have H2:=hQd h2;have HI:=hQd hi;have HR:=hQd hr;have HL:=hQd hl;have HT:=hQd (show((0:Int)==0)=true by rfl);have HJ:=hQd (show(if (0:Int)=0 then i2 else i2.fail 0)=i2 by rfl);clear h g1 h1 h2 hi hr hl;go_enter Tryz.func119,Tryz.ntmps119
 go_wp2_with (first
  |(go_at_call 117;(with_reducible refine(zHi b i i1 nl d H1.out H.out).mono ?_);rintro e_ wn ⟨rfl,h⟩;have f0:=h.p1.rawFree 0;have g0:=h.p1.rawCell 0;simp at g0;have f1:=h.p1.rawFree 1;have g1:=h.p1.rawCell 1;simp at g1;have h:=(show St W0 ((wn.setCell ⟨eb,0,none⟩ (U nl)).setCell ⟨eb,1,none⟩ (Z (bb d))) K (.inp b i1::.raw eb #[U nl,Z (bb d),I O 0,I O (-1),I O (-1)] 27::.raw rb #[U false,Z ⟨#[]⟩,I O 0,I O 0,I O 0] 27::L)from((h.p1.rawSet 0 (U nl)).rawSet 1 (Z (bb d))).p1);replace H:=hQd h;clear h)
  |(go_at_call 66;(with_reducible refine(zCw b i1 i2 tm 4 H2.out H.out).mono ?_);rintro e_ wn ⟨rfl,h⟩;have f2:=h.p1.rawFree 2;have g2:=h.p1.rawCell 2;simp at g2;have h:=(show St W0 (wn.setCell ⟨eb,2,none⟩ (I O tm)) K (.inp b i2::.raw eb #[U nl,Z (bb d),I O tm,I O (-1),I O (-1)] 27::.raw rb #[U false,Z ⟨#[]⟩,I O 0,I O 0,I O 0] 27::L)from(h.p1.rawSet 2 (I O tm)).p1);obtain⟨c0,c1,c2,c3,c4⟩:=uR5 h.p1;simp at c0 c1 c2 c3 c4;replace H:=hQd h;clear h)
  |(go_at_call 177;clear c0 c1 c2 c3 c4;(with_reducible refine(zHJ b i2 0 nl d tm (-1) (-1) HR.out HL.out HI.out H.out).mono ?_);rintro e_ wn ⟨rfl,h⟩;have c0:=h.p1.rawCell 0;have d0:=h.p2.rawCell 0;have r0:=h.p2.rawFree 0;have c1:=h.p1.rawCell 1;have d1:=h.p2.rawCell 1;have r1:=h.p2.rawFree 1;have c2:=h.p1.rawCell 2;have d2:=h.p2.rawCell 2;have r2:=h.p2.rawFree 2;have c3:=h.p1.rawCell 3;have d3:=h.p2.rawCell 3;have r3:=h.p2.rawFree 3;have c4:=h.p1.rawCell 4;have d4:=h.p2.rawCell 4;have r4:=h.p2.rawFree 4;simp at c0 d0 c1 d1 c2 d2 c3 d3 c4 d4;replace H:=hQd h;clear h))
 have hz:St W0 _ _ (.raw rb #[U nl,Z (bb d),I O tm,I O (-1),I O (-1)] 27::.inp b i2::.raw eb #[U nl,Z (bb d),I O tm,I O (-1),I O (-1)] 27::L):=(((((H.out.p2.rawSet 0 _).rawSet 1 _).rawSet 2 _).rawSet 3 _).rawSet 4 _);refine bodyPost_ret (zAO rfl _ _ rb [U nl,Z (bb d),I O tm,I O (-1),I O (-1)] _ rfl (zBR hz) Tryz.underlying27 rfl kR) rfl ?_;exact⟨rfl,hz.drop.p1.drop⟩
theorem zKz(b:Nat)(i i1 i2 i3 i4:InS)(nl:Bool)(d:Bs)(tm p e:Int)(h1:i.fixed 2=(⟨nl,d⟩,i1))(h2:i1.int 4=(tm,i2))(h3:i2.int 8=(p,i3))(h4:i3.int 2=(e,i4))(hi:i4.err=0)(hr:begE 1 nl d tm p e=0)(hl:d.length≤140737488355328)(h:St W0 w K (.inp b i::L)):
 Calls Jb 119 #[zAe b,I O 1] w fun en w'=>en=Y (.agg #[U nl,Z (bb d),I O tm,I O p,I O e])∧St W0 w' K (.inp b i4::L):=by
 obtain⟨rb,hrb⟩:=eX w.heap.size;obtain⟨eb,heb⟩:=eX (rb+1);have g1:=(h.allocRaw #[U false,Z ⟨#[]⟩,I O 0,I O 0,I O 0] 27).allocRaw #[U false,Z ⟨#[]⟩,I O 0,I O (-1),I O (-1)] 27;simp only[World.size_alloc,hrb,heb]at g1;have H:=hQd g1.p2;have H1:=hQd h1;have H2:=hQd h2;have H3:=hQd h3;have H4:=hQd h4;have HI:=hQd hi;have HR:=hQd hr;have HL:=hQd hl;have HT:=hQd (show((0:Int)==0)=true by rfl);have HJ:=hQd (show(if (0:Int)=0 then i4 else i4.fail 0)=i4 by rfl);clear h g1 h1 h2 h3 h4 hi hr hl;go_enter Tryz.func119,Tryz.ntmps119
 go_wp2_with (first
  |(go_at_call 117;(with_reducible refine(zHi b i i1 nl d H1.out H.out).mono ?_);rintro e_ wn ⟨rfl,h⟩;have f0:=h.p1.rawFree 0;have g0:=h.p1.rawCell 0;simp at g0;have f1:=h.p1.rawFree 1;have g1:=h.p1.rawCell 1;simp at g1;have h:=(show St W0 ((wn.setCell ⟨eb,0,none⟩ (U nl)).setCell ⟨eb,1,none⟩ (Z (bb d))) K (.inp b i1::.raw eb #[U nl,Z (bb d),I O 0,I O (-1),I O (-1)] 27::.raw rb #[U false,Z ⟨#[]⟩,I O 0,I O 0,I O 0] 27::L)from((h.p1.rawSet 0 (U nl)).rawSet 1 (Z (bb d))).p1);replace H:=hQd h;clear h)
  |(go_at_call 66;(with_reducible refine(zCw b i1 i2 tm 4 H2.out H.out).mono ?_);rintro e_ wn ⟨rfl,h⟩;have f2:=h.p1.rawFree 2;have g2:=h.p1.rawCell 2;simp at g2;have h:=(show St W0 (wn.setCell ⟨eb,2,none⟩ (I O tm)) K (.inp b i2::.raw eb #[U nl,Z (bb d),I O tm,I O (-1),I O (-1)] 27::.raw rb #[U false,Z ⟨#[]⟩,I O 0,I O 0,I O 0] 27::L)from(h.p1.rawSet 2 (I O tm)).p1);replace H:=hQd h;clear h)
  |(go_at_call 176;(with_reducible refine(zCo b i2 i3 i4 p e H3.out H4.out H.out).mono ?_);rintro e_ wn ⟨rfl,h⟩;have f3:=h.p1.rawFree 3;have g3:=h.p1.rawCell 3;simp at g3;have f4:=h.p1.rawFree 4;have g4:=h.p1.rawCell 4;simp at g4;have h:=(show St W0 ((wn.setCell ⟨eb,3,none⟩ (I O p)).setCell ⟨eb,4,none⟩ (I O e)) K (.inp b i4::.raw eb #[U nl,Z (bb d),I O tm,I O p,I O e] 27::.raw rb #[U false,Z ⟨#[]⟩,I O 0,I O 0,I O 0] 27::L)from((h.p1.rawSet 3 (I O p)).rawSet 4 (I O e)).p1);obtain⟨c0,c1,c2,c3,c4⟩:=uR5 h.p1;simp at c0 c1 c2 c3 c4;replace H:=hQd h;clear h)
  |(go_at_call 177;clear c0 c1 c2 c3 c4;(with_reducible refine(zHJ b i4 1 nl d tm p e HR.out HL.out HI.out H.out).mono ?_);rintro e_ wn ⟨rfl,h⟩;have c0:=h.p1.rawCell 0;have d0:=h.p2.rawCell 0;have r0:=h.p2.rawFree 0;have c1:=h.p1.rawCell 1;have d1:=h.p2.rawCell 1;have r1:=h.p2.rawFree 1;have c2:=h.p1.rawCell 2;have d2:=h.p2.rawCell 2;have r2:=h.p2.rawFree 2;have c3:=h.p1.rawCell 3;have d3:=h.p2.rawCell 3;have r3:=h.p2.rawFree 3;have c4:=h.p1.rawCell 4;have d4:=h.p2.rawCell 4;have r4:=h.p2.rawFree 4;simp at c0 d0 c1 d1 c2 d2 c3 d3 c4 d4;replace H:=hQd h;clear h))
 have hz:St W0 _ _ (.raw rb #[U nl,Z (bb d),I O tm,I O p,I O e] 27::.inp b i4::.raw eb #[U nl,Z (bb d),I O tm,I O p,I O e] 27::L):=(((((H.out.p2.rawSet 0 _).rawSet 1 _).rawSet 2 _).rawSet 3 _).rawSet 4 _);refine bodyPost_ret (zAO rfl _ _ rb [U nl,Z (bb d),I O tm,I O p,I O e] _ rfl (zBR hz) Tryz.underlying27 rfl kR) rfl ?_;exact⟨rfl,hz.drop.p1.drop⟩
end Go.Proofs.YteldcbljedeeiaaGreatDoor
