/- A text. -/
import Derived.Test.YtnnnglklgofabaaGreatGProduceReads2
import Derived.Deep.RegionHeld3
import Derived.Deep.DeepCutAuto
/- A text. -/
namespace Go.Proofs.YtnnnglklgofabaaGreat
open Go.RowKit
set_option maxHeartbeats 2000000
set_option maxRecDepth 100000
variable {W0 w:World}{K:Know}{L:List Res}
theorem zJZ(b:BlobS)(h:St W0 w K L):
 Calls Tryz.prog 80 #[bv b] w fun en w'=>en=.returned (.int .i64 b.len)∧St W0 w' K L:=by
 have H:=hQd h;clear h;obtain⟨n,d⟩:=b
 cases n
 ·go_enter Tryz.func80,Tryz.ntmps80;unfold bv;go_wp2;go_ret;exact⟨rfl,H.out.alloc _⟩
 ·go_enter Tryz.func80,Tryz.ntmps80;unfold bv;go_wp2;go_ret;exact⟨rfl,H.out.alloc _⟩
theorem zq65{p:Prop}(h:p:=by first|assumption|(go_split_ands;assumption)):p:=h
theorem zGG(b:BlobS)(k:Nat)(hb:b.data.length≤70368744177664)(hk:k≤70368744177664)(h:St W0 w K L):
 Calls Tryz.prog 48 #[bv b,.int .i64 k] w fun en w'=>en=.returned (.string (bb (zAd b.len k++b.data)))∧St W0 w' K L:=by
 have H:=hQd (h.allocRaw #[.bool b.null,.string (bb b.data)] 23);have HB:=hQd (b.len_range oM);have HK:=hQd (show k≤140737488355328 by omega);have h1:=(H.out.drew);have hsz:¬(9223372036854775807<k+b.data.length):=by omega
 clear h hb hk;go_enter Tryz.func48,Tryz.ntmps48;unfold bv;go_wp2_with fail
 go_region_held3 (fun w'=>w'.cell? ⟨w.heap.size,0,none⟩=some (.bool b.null)∧w'.cell? ⟨w.heap.size,1,none⟩=some (.string (bb b.data))∧St W0 w' K (.raw w.heap.size #[.bool b.null,.string (bb b.data)] 23::L))
  (first|(refine⟨?_,?_,?_⟩<;>assumption)|(refine⟨(St.cellOf (c:= #[.bool b.null,.string (bb b.data)]) (T:=23) ‹St W0 _ K (.raw w.heap.size #[.bool b.null,.string (bb b.data)] 23::L)› (by simp) 0).trans (by simp),(St.cellOf (c:= #[.bool b.null,.string (bb b.data)]) (T:=23) ‹St W0 _ K (.raw w.heap.size #[.bool b.null,.string (bb b.data)] 23::L)› (by simp) 1).trans (by simp),by assumption⟩))
  (first
   |(go_at_call 80;refine(zJZ b zq65).mono ?_;rintro e wn ⟨rfl,h⟩)
   |(go_at_call 49;refine(zCI b.len k HK.out HB.out zq65).mono ?_;rintro e wn ⟨rfl,h⟩))
 go_wp2;go_ret;exact⟨rfl,St.drop ‹St W0 _ K (.raw w.heap.size #[.bool b.null,.string (bb b.data)] 23::L)›⟩
theorem zJY(b:BlobS)(hb:b.data.length≤70368744177664)(h:St W0 w K L):
 Calls Tryz.prog 111 #[bv b] w fun en w'=>en=.returned (.string (bb (putU (zBg b.len)++b.data)))∧St W0 w' K L:=by
 have H:=hQd (h.allocRaw #[.bool b.null,.string (bb b.data)] 23);have HB:=hQd (b.len_range oM);have HV:=hQd (zCp HB.out.1 HB.out.2);have h1:=(H.out.drew);have hsz:¬(9223372036854775807<(putU (zBg b.len)).length+b.data.length):=by have:=zCl _ HV.out;omega
 clear h hb;go_enter Tryz.func111,Tryz.ntmps111;unfold bv;go_wp2_with fail
 go_region_held3 (fun w'=>w'.cell? ⟨w.heap.size,0,none⟩=some (.bool b.null)∧w'.cell? ⟨w.heap.size,1,none⟩=some (.string (bb b.data))∧St W0 w' K (.raw w.heap.size #[.bool b.null,.string (bb b.data)] 23::L))
  (first|(refine⟨?_,?_,?_⟩<;>assumption)|(refine⟨(St.cellOf (c:= #[.bool b.null,.string (bb b.data)]) (T:=23) ‹St W0 _ K (.raw w.heap.size #[.bool b.null,.string (bb b.data)] 23::L)› (by simp) 0).trans (by simp),(St.cellOf (c:= #[.bool b.null,.string (bb b.data)]) (T:=23) ‹St W0 _ K (.raw w.heap.size #[.bool b.null,.string (bb b.data)] 23::L)› (by simp) 1).trans (by simp),by assumption⟩))
  (first
   |(go_at_call 80;refine(zJZ b zq65).mono ?_;rintro e wn ⟨rfl,h⟩)
   |(go_at_call 144;refine(zMD b.len HB.out zq65).mono ?_;rintro e wn ⟨rfl,h⟩)
   |(go_at_call 143;refine(zOs (zBg b.len) HV.out zq65).mono ?_;rintro e wn ⟨rfl,h⟩))
 go_wp2;go_ret;exact⟨rfl,St.drop ‹St W0 _ K (.raw w.heap.size #[.bool b.null,.string (bb b.data)] 23::L)›⟩
def gotS (s:Bs) (head:Nat) (n:Int):Except Int (BlobS×Nat):=
 if n= -1 then .ok (BlobS.none,head)
 else if n<0 then .error 4
 else if (s.length:Int) - head<n then .error 1
 else .ok (⟨false,(s.drop head).take n.toNat⟩,head+n.toNat)
def zAk (size:Nat) (s:Bs):Except Int (BlobS×Nat):=if s.length<size then .error 1 else gotS s size (sInt (s.take size))
def zAh (s:Bs):Except Int (BlobS×Nat):=match zBf s with| .ok x=>gotS s x.2 x.1| .error e=> .error e
def gotB (r:Except Int (BlobS×Nat)):BlobS:=match r with| .ok x=>x.1| .error _=>⟨false,[]⟩
def gotN (r:Except Int (BlobS×Nat)):Nat:=match r with| .ok x=>x.2| .error _=>0
def gotV (r:Except Int (BlobS×Nat)):Value:=.agg #[.bool (gotB r).null,.string (bb (gotB r).data),.int .i64 (gotN r),.int .i64 (vE r)]
theorem zJ0(s:Bs)(hd:Nat)(n:Int)(hs:s.length≤140737488355328)(hh:hd≤s.length)(hn: -9223372036854775808≤n∧n<9223372036854775808)(h:St W0 w K L):
 Calls Tryz.prog 86 #[.string (bb s),.int .i64 hd,.int .i64 n] w fun en w'=>en=.returned (gotV (gotS s hd n))∧St W0 w' K L:=by
 have H:=hQd h;have HN:=hQd hn;clear h hn
 by_cases h1:n= -1
 ·have e:gotS s hd n=.ok (BlobS.none,hd):=if_pos h1;rw[e];subst h1;clear e;go_enter Tryz.func86,Tryz.ntmps86;go_wp2;refine bodyPost_ret (v:=gotV (.ok (BlobS.none,hd))) (by simp[results,Tryz.results86,go_sem,gotV,gotB,gotN,vE,BlobS.none];try rfl) rfl ⟨rfl,H.out.alloc _⟩
 ·by_cases h2:n<0
  ·have e:gotS s hd n=.error 4:=(if_neg h1).trans (if_pos h2);rw[e];have hb:(n== -1)=false:=by simpa using h1
   clear e h1;go_enter Tryz.func86,Tryz.ntmps86;go_wp2;refine bodyPost_ret (v:=gotV (.error 4)) (by simp[results,Tryz.results86,go_sem,gotV,gotB,gotN,vE];try rfl) rfl ⟨rfl,H.out.alloc _⟩
  ·have hb:(n== -1)=false:=by simpa using h1
   by_cases h3:(s.length:Int) - hd<n
   ·have e:gotS s hd n=.error 1:=(if_neg h1).trans ((if_neg h2).trans (if_pos h3));rw[e];clear e h1;go_enter Tryz.func86,Tryz.ntmps86;go_wp2;refine bodyPost_ret (v:=gotV (.error 1)) (by simp[results,Tryz.results86,go_sem,gotV,gotB,gotN,vE];try rfl) rfl ⟨rfl,H.out.alloc _⟩
   ·have e:gotS s hd n=.ok (⟨false,(s.drop hd).take n.toNat⟩,hd+n.toNat):=(if_neg h1).trans ((if_neg h2).trans (if_neg h3));rw[e];clear e h1;obtain⟨m,rfl⟩:∃m:Nat,n=m:=⟨n.toNat,oM⟩;have hm:hd+m≤s.length:=by omega
    have hm2:(m:Int)≤(s.length:Int) - hd:=by omega
    clear h2 h3 hb;go_enter Tryz.func86,Tryz.ntmps86;go_wp2;refine bodyPost_ret (v:=gotV (.ok (⟨false,(s.drop hd).take m⟩,hd+m))) (by simp[results,Tryz.results86,go_sem,gotV,gotB,gotN,vE]) rfl ⟨rfl,H.out.alloc _⟩
set_option maxHeartbeats 8000000
variable {W0 w:World}{K:Know}{L:List Res}
theorem zQv(e:Int):gotV (.error e)=.agg #[.bool false,.string (bb []),.int .i64 0,.int .i64 e]:=rfl
theorem zBR(s:Bs)(k:Nat)(hs:s.length≤140737488355328)(hk:k≤8)(h:St W0 w K L):
 Calls Tryz.prog 53 #[.string (bb s),.int .i64 k] w fun en w'=>en=.returned (gotV (zAk k s))∧St W0 w' K L:=by
 have HS:=hQd hs
 by_cases h1:s.length<k
 ·have H:=hQd h;clear h;have e:zAk k s=.error 1:=if_pos h1;rw[e];clear e;go_enter Tryz.func53,Tryz.ntmps53;go_wp2;refine bodyPost_ret (v:=gotV (.error 1)) (by simp[results,Tryz.results53,go_sem,gotV,gotB,gotN,vE];try rfl) rfl ⟨rfl,H.out.alloc _⟩
 ·have H:=hQd (h.allocRaw #[.bool false,.string ⟨#[]⟩,.int .i64 0,.int .i64 0] 102);have e:zAk k s=gotS s k (sInt (s.take k)):=if_neg h1;have hk2:(k:Int)≤s.length:=by omega
  have HT:=hQd (show(s.take k).length≤8 by rw[List.length_take];omega);have HR:=hQd (zCq (s.take k) HT.out);have HK:=hQd (show k≤s.length by omega);rw[e];clear e h;go_enter Tryz.func53,Tryz.ntmps53
  go_wp2_with (first
   |(go_at_call 54;refine(zFs (s.take k) HT.out stQ).zM ?_;clear H;intro wn H;have f0:=H.out.freeOf (b:=w.heap.size) (c:= #[.bool false,.string ⟨#[]⟩,.int .i64 0,.int .i64 0]) (T:=102) (by simp) 0;have c0:=H.out.cellOf (b:=w.heap.size) (c:= #[.bool false,.string ⟨#[]⟩,.int .i64 0,.int .i64 0]) (T:=102) (by simp) 0;have f1:=H.out.freeOf (b:=w.heap.size) (c:= #[.bool false,.string ⟨#[]⟩,.int .i64 0,.int .i64 0]) (T:=102) (by simp) 1;have c1:=H.out.cellOf (b:=w.heap.size) (c:= #[.bool false,.string ⟨#[]⟩,.int .i64 0,.int .i64 0]) (T:=102) (by simp) 1;have f2:=H.out.freeOf (b:=w.heap.size) (c:= #[.bool false,.string ⟨#[]⟩,.int .i64 0,.int .i64 0]) (T:=102) (by simp) 2;have c2:=H.out.cellOf (b:=w.heap.size) (c:= #[.bool false,.string ⟨#[]⟩,.int .i64 0,.int .i64 0]) (T:=102) (by simp) 2;have f3:=H.out.freeOf (b:=w.heap.size) (c:= #[.bool false,.string ⟨#[]⟩,.int .i64 0,.int .i64 0]) (T:=102) (by simp) 3;have c3:=H.out.cellOf (b:=w.heap.size) (c:= #[.bool false,.string ⟨#[]⟩,.int .i64 0,.int .i64 0]) (T:=102) (by simp) 3;simp at c0 c1 c2 c3)
   |(go_at_call 86;refine(zJ0 s k _ HS.out HK.out HR.out stQ).zM ?_;clear H;intro wn H;have f0:=H.out.freeOf (b:=w.heap.size) (c:= #[.bool false,.string ⟨#[]⟩,.int .i64 0,.int .i64 0]) (T:=102) (by simp) 0;have c0:=H.out.cellOf (b:=w.heap.size) (c:= #[.bool false,.string ⟨#[]⟩,.int .i64 0,.int .i64 0]) (T:=102) (by simp) 0;have f1:=H.out.freeOf (b:=w.heap.size) (c:= #[.bool false,.string ⟨#[]⟩,.int .i64 0,.int .i64 0]) (T:=102) (by simp) 1;have c1:=H.out.cellOf (b:=w.heap.size) (c:= #[.bool false,.string ⟨#[]⟩,.int .i64 0,.int .i64 0]) (T:=102) (by simp) 1;have f2:=H.out.freeOf (b:=w.heap.size) (c:= #[.bool false,.string ⟨#[]⟩,.int .i64 0,.int .i64 0]) (T:=102) (by simp) 2;have c2:=H.out.cellOf (b:=w.heap.size) (c:= #[.bool false,.string ⟨#[]⟩,.int .i64 0,.int .i64 0]) (T:=102) (by simp) 2;have f3:=H.out.freeOf (b:=w.heap.size) (c:= #[.bool false,.string ⟨#[]⟩,.int .i64 0,.int .i64 0]) (T:=102) (by simp) 3;have c3:=H.out.cellOf (b:=w.heap.size) (c:= #[.bool false,.string ⟨#[]⟩,.int .i64 0,.int .i64 0]) (T:=102) (by simp) 3;simp at c0 c1 c2 c3;unfold gotV))
  refine bodyPost_ret (v:=gotV (gotS s k (sInt (s.take k)))) (by simp[results,Tryz.results53,go_sem,gotV,c0,c1,c2,c3];try rfl) rfl ⟨rfl,?_⟩;exact((((H.out.rawSet 0 _).rawSet 1 _).rawSet 2 _).rawSet 3 _).drop
theorem zFM(s:Bs)(hs:s.length≤140737488355328)(h:St W0 w K L):
 Calls Tryz.prog 147 #[.string (bb s)] w fun en w'=>en=.returned (gotV (zAh s))∧St W0 w' K L:=by
 have HS:=hQd hs;have H:=hQd (h.allocRaw #[.bool false,.string ⟨#[]⟩,.int .i64 0,.int .i64 0] 102);clear h;obtain⟨r,hr⟩:∃r,r=zAF 15 5 0 0 s:=⟨_,rfl⟩;have HR:=hQd hr
 have hd:zAh s=match (generalizing:=false) r with| .ok x=>gotS s x.2 (zAU x.1)| .error e=> .error e:=by
  rw[hr];simp only[zAh,zBf]
  cases zAF 15 5 0 0 s<;>rfl
 cases r with
 |error e=>
  obtain⟨he,_⟩:=zDS 15 5 0 0 s 0 e (Nat.zero_le _) (by rw[List.drop_zero];exact hr.symm);have he2:(e !=0)=true:=by simpa using he
  rw[hd];clear hd hr he;go_enter Tryz.func147,Tryz.ntmps147
  go_wp2_with (first
   |(go_at_call 169;refine(zE3 s 32 5 15 4 HS.out dD dD dD dD dD stQ).mono ?_;rw[←HR.out];simp only[getV,vN,vK,vE];rintro e wn ⟨rfl,h⟩;replace H:=hQd h;clear h;have f0:=H.out.freeOf (b:=w.heap.size) (c:= #[.bool false,.string ⟨#[]⟩,.int .i64 0,.int .i64 0]) (T:=102) (by simp) 0;have c0:=H.out.cellOf (b:=w.heap.size) (c:= #[.bool false,.string ⟨#[]⟩,.int .i64 0,.int .i64 0]) (T:=102) (by simp) 0;have f1:=H.out.freeOf (b:=w.heap.size) (c:= #[.bool false,.string ⟨#[]⟩,.int .i64 0,.int .i64 0]) (T:=102) (by simp) 1;have c1:=H.out.cellOf (b:=w.heap.size) (c:= #[.bool false,.string ⟨#[]⟩,.int .i64 0,.int .i64 0]) (T:=102) (by simp) 1;have f2:=H.out.freeOf (b:=w.heap.size) (c:= #[.bool false,.string ⟨#[]⟩,.int .i64 0,.int .i64 0]) (T:=102) (by simp) 2;have c2:=H.out.cellOf (b:=w.heap.size) (c:= #[.bool false,.string ⟨#[]⟩,.int .i64 0,.int .i64 0]) (T:=102) (by simp) 2;have f3:=H.out.freeOf (b:=w.heap.size) (c:= #[.bool false,.string ⟨#[]⟩,.int .i64 0,.int .i64 0]) (T:=102) (by simp) 3;have c3:=H.out.cellOf (b:=w.heap.size) (c:= #[.bool false,.string ⟨#[]⟩,.int .i64 0,.int .i64 0]) (T:=102) (by simp) 3;simp at c0 c1 c2 c3))
  refine bodyPost_ret (v:=gotV (.error e)) (by simp[results,Tryz.results147,go_sem,zQv,c0,c1,c2,c3];try rfl) rfl ⟨rfl,?_⟩;exact((((H.out.rawSet 0 _).rawSet 1 _).rawSet 2 _).rawSet 3 _).drop
 |ok x=>
  obtain⟨u,k⟩:=x;obtain⟨h1,h2,h3⟩:=zCc dD hr.symm;have h4:zBf s=.ok (zAU u,k):=by simp only[zBf,←hr]
  obtain⟨_,_,_,h5⟩:=zCu h4;have HK:=hQd h3;have HB:=hQd (show -9223372036854775808≤zAU u∧zAU u<9223372036854775808 by omega)
  have HU:=hQd (show u<18446744073709551616 from by
   have h5:=zFh 15 dD 4 0 0 ⟨s,0,0⟩ dD;obtain⟨_,_,h6⟩:=zFg 15 5 0 0 s 0 u k (Nat.zero_le _) hr.symm;rw[h6]at h5
   exact Nat.lt_trans h5 dD)
  rw[hd];clear hd hr h1 h2 h3 h4 h5;simp only;go_enter Tryz.func147,Tryz.ntmps147
  go_wp2_with (first
   |(go_at_call 169;refine(zE3 s 32 5 15 4 HS.out dD dD dD dD dD stQ).mono ?_;rw[←HR.out];simp only[getV,vN,vK,vE];rintro e wn ⟨rfl,h⟩;replace H:=hQd h;clear h;have f0:=H.out.freeOf (b:=w.heap.size) (c:= #[.bool false,.string ⟨#[]⟩,.int .i64 0,.int .i64 0]) (T:=102) (by simp) 0;have c0:=H.out.cellOf (b:=w.heap.size) (c:= #[.bool false,.string ⟨#[]⟩,.int .i64 0,.int .i64 0]) (T:=102) (by simp) 0;have f1:=H.out.freeOf (b:=w.heap.size) (c:= #[.bool false,.string ⟨#[]⟩,.int .i64 0,.int .i64 0]) (T:=102) (by simp) 1;have c1:=H.out.cellOf (b:=w.heap.size) (c:= #[.bool false,.string ⟨#[]⟩,.int .i64 0,.int .i64 0]) (T:=102) (by simp) 1;have f2:=H.out.freeOf (b:=w.heap.size) (c:= #[.bool false,.string ⟨#[]⟩,.int .i64 0,.int .i64 0]) (T:=102) (by simp) 2;have c2:=H.out.cellOf (b:=w.heap.size) (c:= #[.bool false,.string ⟨#[]⟩,.int .i64 0,.int .i64 0]) (T:=102) (by simp) 2;have f3:=H.out.freeOf (b:=w.heap.size) (c:= #[.bool false,.string ⟨#[]⟩,.int .i64 0,.int .i64 0]) (T:=102) (by simp) 3;have c3:=H.out.cellOf (b:=w.heap.size) (c:= #[.bool false,.string ⟨#[]⟩,.int .i64 0,.int .i64 0]) (T:=102) (by simp) 3;simp at c0 c1 c2 c3)
   |(go_at_call 170;refine(zME u HU.out stQ).zM ?_;clear H;intro wn H;have f0:=H.out.freeOf (b:=w.heap.size) (c:= #[.bool false,.string ⟨#[]⟩,.int .i64 0,.int .i64 0]) (T:=102) (by simp) 0;have c0:=H.out.cellOf (b:=w.heap.size) (c:= #[.bool false,.string ⟨#[]⟩,.int .i64 0,.int .i64 0]) (T:=102) (by simp) 0;have f1:=H.out.freeOf (b:=w.heap.size) (c:= #[.bool false,.string ⟨#[]⟩,.int .i64 0,.int .i64 0]) (T:=102) (by simp) 1;have c1:=H.out.cellOf (b:=w.heap.size) (c:= #[.bool false,.string ⟨#[]⟩,.int .i64 0,.int .i64 0]) (T:=102) (by simp) 1;have f2:=H.out.freeOf (b:=w.heap.size) (c:= #[.bool false,.string ⟨#[]⟩,.int .i64 0,.int .i64 0]) (T:=102) (by simp) 2;have c2:=H.out.cellOf (b:=w.heap.size) (c:= #[.bool false,.string ⟨#[]⟩,.int .i64 0,.int .i64 0]) (T:=102) (by simp) 2;have f3:=H.out.freeOf (b:=w.heap.size) (c:= #[.bool false,.string ⟨#[]⟩,.int .i64 0,.int .i64 0]) (T:=102) (by simp) 3;have c3:=H.out.cellOf (b:=w.heap.size) (c:= #[.bool false,.string ⟨#[]⟩,.int .i64 0,.int .i64 0]) (T:=102) (by simp) 3;simp at c0 c1 c2 c3)
   |(go_at_call 86;refine(zJ0 s k _ HS.out HK.out HB.out stQ).zM ?_;clear H;intro wn H;have f0:=H.out.freeOf (b:=w.heap.size) (c:= #[.bool false,.string ⟨#[]⟩,.int .i64 0,.int .i64 0]) (T:=102) (by simp) 0;have c0:=H.out.cellOf (b:=w.heap.size) (c:= #[.bool false,.string ⟨#[]⟩,.int .i64 0,.int .i64 0]) (T:=102) (by simp) 0;have f1:=H.out.freeOf (b:=w.heap.size) (c:= #[.bool false,.string ⟨#[]⟩,.int .i64 0,.int .i64 0]) (T:=102) (by simp) 1;have c1:=H.out.cellOf (b:=w.heap.size) (c:= #[.bool false,.string ⟨#[]⟩,.int .i64 0,.int .i64 0]) (T:=102) (by simp) 1;have f2:=H.out.freeOf (b:=w.heap.size) (c:= #[.bool false,.string ⟨#[]⟩,.int .i64 0,.int .i64 0]) (T:=102) (by simp) 2;have c2:=H.out.cellOf (b:=w.heap.size) (c:= #[.bool false,.string ⟨#[]⟩,.int .i64 0,.int .i64 0]) (T:=102) (by simp) 2;have f3:=H.out.freeOf (b:=w.heap.size) (c:= #[.bool false,.string ⟨#[]⟩,.int .i64 0,.int .i64 0]) (T:=102) (by simp) 3;have c3:=H.out.cellOf (b:=w.heap.size) (c:= #[.bool false,.string ⟨#[]⟩,.int .i64 0,.int .i64 0]) (T:=102) (by simp) 3;simp at c0 c1 c2 c3;unfold gotV))
  refine bodyPost_ret (v:=gotV (gotS s k (zAU u))) (by simp[results,Tryz.results147,go_sem,gotV,c0,c1,c2,c3];try rfl) rfl ⟨rfl,?_⟩;exact((((H.out.rawSet 0 _).rawSet 1 _).rawSet 2 _).rawSet 3 _).drop
def zAI (size:Nat) (l:Bs):Except Int (Int×Nat):=if l.length<size then .error 1 else .ok (sInt (l.take size),size)
theorem zBl(size:Nat)(h1:1≤size)(h8:size≤8):Rds (fun i=>i.int size) (zAI size) 0:=by
 have hc:∀i:InS,i.int size=(sInt (i.take size).1,(i.take size).2):=fun i=>if_neg oM
 refine⟨?_,?_,?_⟩
 ·intro s pos a k hp h;unfold zAI at h
  split at h
  ·cases h
  ·rename_i hl
   cases h
   rw[List.length_drop]at hl;refine⟨oM,?_⟩
   show(⟨s,pos,0⟩:InS).int size=_
   rw[hc,InS.take_ok rfl oM (by simp only[InS.left];omega)]
   rfl
 ·intro s pos e hp h;unfold zAI at h
  split at h
  ·rename_i hl
   cases h
   rw[List.length_drop]at hl;refine⟨dD,pos,hp,?_⟩
   show(⟨s,pos,0⟩:InS).int size=_
   rw[hc,InS.take_short oM (by simp only[InS.left];omega)]
   rfl
  ·cases h
 ·intro i hi
  show i.int size=_
  rw[hc,zDI hi]
  rfl
def zLU (p:Bs→Except Int (Int×Nat)) (l:Bs):Except Int (BlobS×Nat):=match p l with| .ok x=>gotS l x.2 x.1| .error e=> .error e
theorem zQV{f:InS→Int×InS}{p:Bs→Except Int (Int×Nat)}(h:Rds f p 0):Rds (fun i=>(f i).2.tk (f i).1) (zLU p) ⟨false,[]⟩:=by
 refine⟨?_,?_,?_⟩
 ·intro s pos a k hp hh;unfold zLU at hh
  cases hx:p (s.drop pos)with
  |error e=>rw[hx]at hh;cases hh
  |ok x=>
   obtain⟨n,m⟩:=x;rw[hx]at hh;obtain⟨g1,g2⟩:=h.ok s pos n m hp hx;simp only at hh ⊢;rw[g2];unfold gotS at hh;unfold InS.tk;simp only
   by_cases h1:n= -1
   ·rw[if_pos h1]at hh ⊢
    cases hh
    exact⟨g1,rfl⟩
   rw[if_neg h1]at hh ⊢
   by_cases h2:n<0
   ·rw[if_pos h2]at hh;cases hh
   rw[if_neg h2]at hh
   by_cases h3:((s.drop pos).length:Int) - m<n
   ·rw[if_pos h3]at hh;cases hh
   rw[if_neg h3]at hh
   cases hh
   rw[List.length_drop]at h3;refine⟨oM,?_⟩;rw[InS.take_ok rfl oM (by simp only[InS.left];omega)];simp only[List.drop_drop,Nat.add_assoc]
 ·intro s pos e hp hh;unfold zLU at hh
  cases hx:p (s.drop pos)with
  |error e'=>
   rw[hx]at hh
   cases hh
   obtain⟨g1,q,g2,g3⟩:=h.err s pos _ hp hx;refine⟨g1,q,g2,?_⟩
   (try simp only)
   rw[g3];unfold InS.tk;simp only;rw[if_neg dD,zDI (by exact g1)]
  |ok x=>
   obtain⟨n,m⟩:=x;rw[hx]at hh;obtain⟨g1,g2⟩:=h.ok s pos n m hp hx;simp only at hh ⊢;rw[g2];unfold gotS at hh;unfold InS.tk;simp only
   by_cases h1:n= -1
   ·rw[if_pos h1]at hh;cases hh
   rw[if_neg h1]at hh ⊢
   by_cases h2:n<0
   ·rw[if_pos h2]at hh
    cases hh
    refine⟨dD,pos+m,g1,?_⟩;rw[InS.take_neg h2]
    rfl
   rw[if_neg h2]at hh
   by_cases h3:((s.drop pos).length:Int) - m<n
   ·rw[if_pos h3]at hh
    cases hh
    rw[List.length_drop]at h3;refine⟨dD,pos+m,g1,?_⟩;rw[InS.take_short oM (by simp only[InS.left];omega)]
    rfl
   rw[if_neg h3]at hh
   cases hh
 ·intro i hi
  (try simp only)
  rw[h.stuck i hi];unfold InS.tk;simp only;rw[if_neg dD,zDI hi]
theorem zA3(size:Nat)(h1:1≤size)(h8:size≤8):Rds (fun i=>i.fixed size) (zAk size) ⟨false,[]⟩:=by
 have h:=zQV (zBl size h1 h8)
 have e:zLU (zAI size)=zAk size:=by
  funext l
  unfold zLU zAI zAk
  split<;>rename_i x hx<;>split at hx<;>rename_i hl<;>cases hx
  ·rw[if_neg hl]
  ·rw[if_pos hl]
 rw[←e];exact h
theorem zAt:Rds InS.varied zAh ⟨false,[]⟩:=by
 have h:=zQV zDv
 have e:zLU zBf=zAh:=by
  funext l
  unfold zLU zAh
  split<;>rename_i x hx<;>first|rw[hx]|rfl
 rw[←e];exact h
def encV (b:BlobS):Bs:=putU (zBg b.len)++b.data
def encF (size:Nat) (b:BlobS):Bs:=zAd b.len size++b.data
theorem zKy(b:BlobS)(hb:b.right=true)(hd rest:Bs):gotS (hd++(b.data++rest)) hd.length b.len=.ok (b,hd.length+b.data.length):=by
 obtain⟨n,d⟩:=b
 cases n
 ·unfold gotS BlobS.len;simp only[Bool.false_eq_true,if_false];rw[if_neg oM,if_neg oM,if_neg (by simp;omega)]
  simp
 ·have hd0:d=[]:=by simpa [BlobS.right]using hb
  subst hd0;unfold gotS BlobS.len;simp[BlobS.none]
theorem zBt(b:BlobS)(hb:b.right=true)(hl:b.data.length≤2147483647)(rest:Bs):zAh (encV b++rest)=.ok (b,(encV b).length):=by
 have hr: -2147483648≤b.len∧b.len<2147483648:=by unfold BlobS.len;split<;>omega
 have h:=zF8 b.len hr.1 hr.2 (b.data++rest);have h2:=zKy b hb (putU (zBg b.len)) rest;unfold zAh encV;rw[List.append_assoc,h];simp only[h2,List.length_append]
theorem zJM(size:Nat)(b:BlobS)(hb:b.right=true)(hf:fits b.len size)(rest:Bs):zAk size (encF size b++rest)=.ok (b,(encF size b).length):=by
 have hs:1≤size:=by have:=hf.1;omega
 have h2:=zKy b hb (zAd b.len size) rest
 have h3:(zAd b.len size++(b.data++rest)).take size=zAd b.len size:=by
  have h4:=zAg b.len size;rw[List.take_append_of_le_length oM,List.take_of_length_le oM]
 have hfit:=hf.2.2;rw[Int.toNat_natCast]at hfit;have h5:=(zBH b.len size hs).2 hfit;unfold zAk encF;rw[List.append_assoc,if_neg (by rw[List.length_append,zAg];omega),h3,h5];rw[zAg]at h2;rw[h2,List.length_append,zAg]
variable {W0 w:World}{K:Know}{L:List Res}
def FlatRows {α:Type}(R:List Value→α→Prop) (F:Nat→Prop) (w:World) (v:Value) (sz:Nat) (l:List α):Prop:=RowsOf (fun _ cs x=>R cs x) F w v sz l
theorem zPb{α:Type}{R:List Value→α→Prop}{F:Nat→Prop}{w w':World}{v:Value}{sz:Nat}{l:List α}(h:FlatRows R F w v sz l)(hs:w.heap.size≤w'.heap.size)(hk:∀k,k<w.heap.size→F k→w'.heap[k]? =w.heap[k]?):FlatRows R F w' v sz l:=by
 obtain⟨p,cap,rfl,h⟩:=h;refine⟨p,cap,rfl,fun h0=> ?_⟩;obtain⟨b,off,rfl,hb,hlt,hc⟩:=h h0;refine⟨b,off,rfl,hb,Nat.lt_of_lt_of_le hlt hs,fun i hi=> ?_⟩;obtain⟨cs,h1,h2,h3⟩:=hc i hi;exact⟨cs,h1,h2,fun f u hu=>(World.cell?_of_block (w:=w) (a:=⟨b,off+(i*sz+f),none⟩) (hk b hlt hb)).trans (h3 f u hu)⟩
def Know.flat {α:Type}(R:List Value→α→Prop) (v:Value) (sz:Nat) (l:List α):Know:=⟨fun w F=>FlatRows R F w v sz l,fun _ _ _ h hs hk=>zPb h hs hk,fun _ _ _ h hs=>RowsOf.mono h (fun _ _ h=>hs _ h) (fun _ _ h=>h)⟩
theorem FlatRows.at{α:Type}{R:List Value→α→Prop}{F:Nat→Prop}{w:World}{v:Value}{sz:Nat}{l:List α}(h:FlatRows R F w v sz l):
 ∃p cap,v=.slice p l.length cap∧(0<l.length→∃b off,p=some ⟨b,off,none⟩∧∀i (h:i<l.length),∃cs,cs.length=sz∧R cs l[i]∧∀f u,cs[f]? =some u→w.cell? ⟨b,off+(i*sz+f),none⟩=some u):=by
 obtain⟨p,cap,rfl,h⟩:=h;refine⟨p,cap,rfl,fun h0=> ?_⟩;obtain⟨b,off,rfl,_,_,hc⟩:=h h0;exact⟨b,off,rfl,hc⟩
theorem zCG{α:Type}:∀(l:List α) (f:α→List Value) (sz:Nat),(∀x∈l,(f x).length=sz)→∀(i:Nat) (hi:i<l.length) (q:Nat),q<sz→(l.flatMap f)[i*sz+q]? =(f l[i])[q]?
 |[],_,_,_,i,hi,_,_=>by simp at hi
 |x::t,f,sz,h,0,_,q,hq=>by
  rw[List.flatMap_cons,Nat.zero_mul,Nat.zero_add,List.getElem?_append_left (by rw[h x (by simp)];exact hq)]
  rfl
 |x::t,f,sz,h,i+1,hi,q,hq=>by
  have hx:=h x (by simp);rw[List.flatMap_cons,List.getElem?_append_right (by rw[hx,Nat.add_mul];omega),hx,show(i+1)*sz+q - sz=i*sz+q by rw[Nat.add_mul];omega];exact zCG t f sz (fun y hy=>h y (by simp[hy])) i (by simpa using hi) q hq
theorem zq31{p:Prop}(h:p:=by
  have e:(l.flatMap f)[i*sz+q]? =some u:=by
   rw[zCG l f sz (fun x hx=>(hf x hx).1) i hi q hq];exact hu
  rw[←htake,List.getElem?_take_of_lt (by have:=Nat.mul_le_mul_right sz (show i+1≤l.length by omega);rw[Nat.add_mul,Nat.one_mul]at this;omega)]at e
  simpa using e):p:=h
theorem St.freezeRow{α:Type}{R:List Value→α→Prop}{v:Value}{T:TypeId}{sz:Nat}{l:List α}{f:α→List Value}(h:St W0 w K (.row v T sz l.length (l.flatMap f)::L))(hf:∀x∈l,(f x).length=sz∧R (f x) x):
 St W0 w (K.and (Know.flat R v sz l)) L:=by
 refine h.freeze fun F S1 _ h1=> ?_
 obtain⟨⟨g1,g2⟩,g3⟩:=h1
 rcases g2 with ⟨rfl,h0⟩|⟨g,cap,cur,rfl,_,hg,hn,hcm,hcs,htake⟩
 ·exact⟨none,0,by rw[h0],fun hh=>absurd hh oM⟩
 ·have hS:S1 g:=(g3 g).2 rfl;have hlt:=zBy hg;refine⟨_,cap,rfl,fun _=>⟨g,0,rfl,.inr ⟨hS,hlt⟩,hlt,fun i hi=> ?_⟩⟩;obtain⟨h2,h3⟩:=hf l[i] (List.getElem_mem hi);refine⟨f l[i],h2,h3,fun q u hu=> ?_⟩;rw[zAS hg,Nat.zero_add];have hq:q<sz:=by rw[←h2];exact(List.getElem?_eq_some_iff.1 hu).1
  exact zq31
structure HdrS where
 key:Bs
 val:BlobS
deriving DecidableEq
def RHdr (cs:List Value) (h:HdrS):Prop:=cs=[.string (bb h.key),.bool h.val.null,.string (bb h.val.data)]
def hcells (h:HdrS):List Value:=[.string (bb h.key),.bool h.val.null,.string (bb h.val.data)]
def HdrS.size (h:HdrS):Nat:=h.key.length+h.val.data.length+32
def hsize (l:List HdrS):Nat:=(l.map HdrS.size).sum
def OutS.putHdr (o:OutS) (h:HdrS):OutS:=(o.putName h.key).putVaried h.val
def OutS.putHdrs (o:OutS) (l:List HdrS):OutS:=l.foldl OutS.putHdr (o.putInt l.length)
theorem OutS.len_putVaried(o:OutS)(b:BlobS)(h:b.data.length≤140737488355328):(o.putVaried b).bytes.length≤o.bytes.length+(b.data.length+16):=by
 unfold OutS.putVaried OutS.putData;have h1:=o.len_putInt b.len (b.len_range h)
 split
 ·have:=(o.putInt b.len).len_put b.data;omega
 ·have:=((o.putInt b.len).fail 4).len_put b.data;rw[OutS.len_fail]at this
  omega
theorem OutS.len_putHdr(o:OutS)(h:HdrS)(hl:h.size≤140737488355328):(o.putHdr h).bytes.length≤o.bytes.length+h.size:=by
 unfold HdrS.size at*;have h1:=o.len_putVaried ⟨false,h.key⟩ (by simp only;omega);have h2:=(o.putName h.key).len_putVaried h.val oM;unfold OutS.putHdr;unfold OutS.putName at*;simp only at h1
 omega
theorem zG8(l:List HdrS)(k:Nat)(h:k<l.length):hsize (l.take k)+l[k].size≤hsize l:=by
 have h1:hsize l=hsize (l.take k)+hsize (l.drop k):=by
  unfold hsize;rw[←List.sum_append,←List.map_append,List.take_append_drop]
 have h2:hsize (l.drop k)=l[k].size+hsize (l.drop (k+1)):=by
  unfold hsize;rw[List.drop_eq_getElem_cons h]
  rfl
 omega
theorem OutS.len_hdrs:∀(l:List HdrS) (o:OutS),hsize l≤140737488355328→(l.foldl OutS.putHdr o).bytes.length≤o.bytes.length+hsize l
 |[],o,_=>by simp[hsize]
 |h::t,o,hl=>by
  have e:hsize (h::t)=h.size+hsize t:=rfl;have h1:=o.len_putHdr h oM;have h2:=OutS.len_hdrs t (o.putHdr h) oM
  show(t.foldl OutS.putHdr (o.putHdr h)).bytes.length≤_
  omega
theorem zKx(p:Nat)(o:OutS)(v:Value)(l:List HdrS)(hl:l.length≤140737488355328)(hk:K.has (Know.flat RHdr v 3 l))(h:St W0 w K (.out p o::L))(hr:o.ok (hsize l+16)):
 Calls Tryz.prog 178 #[zAO p,v] w fun en w'=>en=.returned (.tuple #[])∧St W0 w' K (.out p (o.putHdrs l)::L):=by
 have H:=hQd h;have HR:=hQd hr;have HK:=hQd hk;have HL:=hQd (show -9223372036854775808≤(l.length:Int)∧(l.length:Int)<9223372036854775808 by omega);obtain⟨F,hF,_⟩:=h.get;obtain⟨q,cap,rfl,_⟩:=(hk _ _ hF).at;clear h hk hr hF;go_enter Tryz.func178,Tryz.ntmps178;go_wp2_with (go_at_call 176;refine(zGb _ _ _ HL.out stQ (OutS.ok_mono HR.out oM)).zM ?_;clear H;intro wn H);go_loopw [12] (fun iv wr=>∃(k:Nat) (oo:OutS),k≤l.length∧iv=.int .i64 k∧(l.take k).foldl OutS.putHdr (o.putInt l.length)=oo∧St W0 wr K (.out p oo::L)) (fun iv _=>l.length - (intOf iv).toNat)
 case atStart=>exact⟨0,o.putInt l.length,Nat.zero_le _,rfl,by rw[List.take_zero,List.foldl_nil],H.out⟩
 case round=>
  obtain⟨k,oo,hk,rfl,hoo,hst⟩:=hrel
  by_cases hlt:k<l.length
  ·obtain⟨F2,hF2,_⟩:=hst.get;obtain⟨q2,cap2,hv2,hrow⟩:=(HK.out _ _ hF2).at;obtain⟨b,off,hq,hcells⟩:=hrow oM;obtain rfl:q=some ⟨b,off,none⟩:=by simp at hv2;rw[hv2.1,hq]
   obtain⟨cs,_,hR,hc⟩:=hcells k hlt;unfold RHdr at hR;subst hR;have c0:=hc 0 _ rfl;have c1:=hc 1 _ rfl;have c2:=hc 2 _ rfl;rw[Nat.add_zero]at c0;rw[←Nat.add_assoc]at c1 c2;have hnn:(l.take (k+1)).foldl OutS.putHdr (o.putInt l.length)=((l.take k).foldl OutS.putHdr (o.putInt l.length)).putHdr l[k]:=by rw[List.take_succ_eq_append_getElem hlt,List.foldl_append];rfl
   have hsz:=zG8 l k hlt;have hro:=HR.out;have hpi:=o.len_putInt l.length HL.out;have hlen:=OutS.len_hdrs (l.take k) (o.putInt l.length) (by unfold OutS.ok at hro;omega);obtain⟨x,hx⟩:∃x,l[k]'hlt=x:=⟨_,rfl⟩;rw[hoo]at hnn hlen;rw[hx]at hnn hsz c0 c1 c2;have HN:=hQd hnn;have HRO:=hQd (show oo.ok x.size by unfold OutS.ok at*;omega);have H:=hQd (hst.allocRaw #[.string (bb x.key),.bool x.val.null,.string (bb x.val.data)] 121);clear hst hF2 hrow hcells hc hv2 hq hsz hro hpi hlen hoo hx hnn
   go_wp2_with (first
    |(go_at_call 156;refine(zFB _ _ x.key stQ (OutS.ok_mono HRO.out (by unfold HdrS.size;omega))).zM ?_;clear H;intro wn H;have zc0:=H.out.cellOf (b:=wr.heap.size) (c:= #[.string (bb x.key),.bool x.val.null,.string (bb x.val.data)]) (T:=121) (by simp) 0;have zc1:=H.out.cellOf (b:=wr.heap.size) (c:= #[.string (bb x.key),.bool x.val.null,.string (bb x.val.data)]) (T:=121) (by simp) 1;have zc2:=H.out.cellOf (b:=wr.heap.size) (c:= #[.string (bb x.key),.bool x.val.null,.string (bb x.val.data)]) (T:=121) (by simp) 2;simp at zc0 zc1 zc2)
    |(go_at_call 177;refine(zCb _ _ x.val stQ (by have h1:=HRO.out;have h2:=oo.len_putVaried ⟨false,x.key⟩ (by simp only;unfold OutS.ok HdrS.size at h1;omega);unfold OutS.ok HdrS.size at*;unfold OutS.putName;simp only at h2 ⊢;omega)).zM ?_;clear H;intro wn H))
   go_roundw
   case rel=>exact⟨k+1,_,hlt,by go_num,HN.out,H.out.p1.drop⟩
   case measure=>first|(simp[intOf];done)|(simp[intOf];omega)
  ·have hk:k=l.length:=by omega
   subst hk;rw[List.take_length]at hoo;have HOO:=hQd hoo;have HST:=hQd hst;clear hst hoo;go_wp2;go_end0;exact⟨rfl,HST.out.cast (by rw[←HOO.out];rfl)⟩
theorem zMV:zEd Tryz.prog 121 (.agg #[.string ⟨#[]⟩,.bool false,.string ⟨#[]⟩]) 3 40:=zBT (by kernel_rfl) rfl dD
def InS.hdrLoop:Nat→List HdrS→InS→List HdrS×InS
 |0,acc,i=>(acc,i)
 |n+1,acc,i=>
  if i.name.2.varied.2.err=0 then InS.hdrLoop n (acc++[⟨i.name.1,i.name.2.varied.1⟩]) i.name.2.varied.2
  else([],i.name.2.varied.2)
def InS.hdrHead (i:InS):InS:=if i.vint.1<0 then i.vint.2.fail 4 else if (i.vint.2.left:Int)<2*i.vint.1 then i.vint.2.fail 1 else i.vint.2
def InS.hdrs (i:InS):List HdrS×InS:=InS.hdrLoop i.vint.1.toNat [] i.hdrHead
theorem zIX{α:Type}(R:List Value→α→Prop)(sz:Nat)(K:Know):K.has (K.and (Know.flat R (.slice none 0 0) sz [])):=fun _ _ h=>⟨h,none,0,rfl,fun h=>absurd h (by simp)⟩
theorem zq43{p:Prop}(h:p:=by have HKE:=hQd hke;clear hke hk;go_wp2;go_ret;refine⟨_,rfl,?_⟩;have h1:=HLOOP.out;rw[HKE.out]at h1;rw[←h1];exact HST.out.freezeRow (fun x _=>⟨rfl,rfl⟩)):p:=h
theorem zDh(p:Nat)(i:InS){W0 w:World}{K:Know}{L:List Res}(h:St W0 w K (.inp p i::L)):
 Calls Tryz.prog 190 #[zAu p] w fun en w'=>∃v,en=.returned v∧St W0 w' (K.and (Know.flat RHdr v 3 i.hdrs.1)) (.inp p i.hdrs.2::L):=by
 have H:=hQd h;have hv:=i.vint_range;obtain⟨a,ha⟩:∃a,i.vint=a:=⟨_,rfl⟩;obtain⟨j,hj⟩:∃j,i.hdrHead=j:=⟨_,rfl⟩;have hjj:j=if a.1<0 then a.2.fail 4 else if (a.2.left:Int)<2*a.1 then a.2.fail 1 else a.2:=by rw[←hj,←ha];rfl
 have hH:i.hdrs=InS.hdrLoop a.1.toNat [] j:=by unfold InS.hdrs;rw[hj,ha]
 rw[ha]at hv;rw[hH];have EA:=hQd ha;clear h ha hj hH;obtain⟨n,c⟩:=a;simp only at hv hjj ⊢
 by_cases h1:n<0
 ·rw[if_pos h1]at hjj;subst hjj;go_enter Tryz.func190,Tryz.ntmps190
  go_wp2_with (first
   |(go_at_call 189;refine(zGc _ _ stQ).mono ?_;(repeat first|rw[EA.out]);rintro e wn ⟨rfl,h⟩;replace H:=hQd h;clear h)
   |(go_at_call 52;refine(zMx _ _ stQ).zM ?_;clear H;intro wn H)
   |(go_at_call 47;refine(zCz _ _ _ stQ).zM ?_;clear H;intro wn H))
  go_loopw [4,20] (fun lv kv wr=>∃(k:Nat) (i':InS) (acc:List HdrS),k≤n.toNat∧kv=.int .i64 k∧acc.length=k∧InS.hdrLoop (n.toNat - k) acc i'=InS.hdrLoop n.toNat [] _∧St W0 wr K (.row lv 121 3 acc.length (acc.flatMap hcells)::.inp p i'::L)) (fun _ kv _=>n.toNat - (intOf kv).toNat)
  case atStart=>exact⟨0,_,[],Nat.zero_le _,rfl,rfl,rfl,H.out.nilRow 121 3⟩
  case round=>
   obtain⟨k,i',acc,hk,rfl,hacc,hloop,hst⟩:=hrel;have HACC:=hQd hacc;have HLOOP:=hQd hloop;have HST:=hQd hst;have HK:=hQd (show k≤2147483648 by omega);clear hacc hloop hst;have hke:n.toNat - k=0:=by omega
   have hlt:¬(k:Int)<n:=by omega
   exact zq43
 by_cases h2:(c.left:Int)<2*n
 all_goals
  rw[if_neg h1]at hjj
  first|rw[if_pos h2]at hjj|rw[if_neg h2]at hjj
  subst hjj;go_enter Tryz.func190,Tryz.ntmps190
  go_wp2_with (first
   |(go_at_call 189;refine(zGc _ _ stQ).mono ?_;(repeat first|rw[EA.out]);rintro e wn ⟨rfl,h⟩;replace H:=hQd h;clear h)
   |(go_at_call 52;refine(zMx _ _ stQ).zM ?_;clear H;intro wn H)
   |(go_at_call 47;refine(zCz _ _ _ stQ).zM ?_;clear H;intro wn H))
  go_loopw [4,20] (fun lv kv wr=>∃(k:Nat) (i':InS) (acc:List HdrS),k≤n.toNat∧kv=.int .i64 k∧acc.length=k∧InS.hdrLoop (n.toNat - k) acc i'=InS.hdrLoop n.toNat [] _∧St W0 wr K (.row lv 121 3 acc.length (acc.flatMap hcells)::.inp p i'::L)) (fun _ kv _=>n.toNat - (intOf kv).toNat)
  case atStart=>exact⟨0,_,[],Nat.zero_le _,rfl,rfl,rfl,H.out.nilRow 121 3⟩
  case round=>
   obtain⟨k,i',acc,hk,rfl,hacc,hloop,hst⟩:=hrel;have HACC:=hQd hacc;have HLOOP:=hQd hloop;have HST:=hQd hst;have HK:=hQd (show k≤2147483648 by omega);clear hacc hloop hst
   by_cases hlt:(k:Int)<n
   ·have hstep:n.toNat - k=(n.toNat - (k+1))+1:=by omega
    have HSTEP:=hQd hstep;obtain⟨x,hx⟩:∃x,i'.name=x:=⟨_,rfl⟩;obtain⟨y,hy⟩:∃y,x.2.varied=y:=⟨_,rfl⟩;have EX:=hQd hx;have EY:=hQd hy;have HLN:InS.hdrLoop ((n.toNat - (k+1))+1) acc i'=if y.2.err=0 then InS.hdrLoop (n.toNat - (k+1)) (acc++[⟨x.1,y.1⟩]) y.2 else([],y.2):=by simp only[InS.hdrLoop,hx,hy]
    replace HLN:=hQd HLN;have H:=HST;clear hstep hx hy hk HST
    by_cases he:y.2.err=0
    all_goals
     have hb:(y.2.err !=0)=decide (y.2.err≠0):=by by_cases h:y.2.err=0<;>simp[h]
     first|rw[decide_eq_true he]at hb|rw[decide_eq_false (not_not_intro he)]at hb
     have HE:=hQd he;clear he
     go_wp2_with (first
      |(go_at_call 185;refine(zEK _ _ stQ).mono ?_;(repeat first|rw[EX.out]);rintro e wn ⟨rfl,h⟩;replace H:=hQd h;clear h)
      |(go_at_call 187;refine(zA6 _ _ stQ).mono ?_;(repeat first|rw[EY.out]);rintro e wn ⟨rfl,h⟩;replace H:=hQd h;clear h;unfold bv)
      |(go_at_call 20;refine(zIr _ _ stQ).zM ?_;clear H;intro wn H)
      |(at_builtin;refine zAw rfl _ _ 117 rfl 121 Tryz.underlying117 zMV _ _ _ rfl H.out.p1 [.string (bb x.1),.bool y.1.null,.string (bb y.1.data)] 121 rfl rfl (by simp[Value.oneCell']) (by have:=HACC.out;have:=HK.out;unfold maxLen;omega) (by have:=HACC.out;have:=HK.out;omega) ?_;intro v' w' h;replace H:=hQd h;clear h))
    ·go_roundw
     case rel=>
      refine⟨k+1,y.2,acc++[⟨x.1,y.1⟩],oM,by go_num,by simp[HACC.out],?_,?_⟩
      ·have h1:=HLOOP.out;rw[HSTEP.out,HLN.out,if_pos HE.out]at h1;exact h1
      ·refine H.out.p1.cast ?_;simp[hcells]
     case measure=>first|(simp[intOf];done)|(simp[intOf];omega)
    ·go_ret;refine⟨.slice none 0 0,rfl,?_⟩;have h1:=HLOOP.out;rw[HSTEP.out,HLN.out,if_neg HE.out]at h1;rw[←h1];exact(H.out.p1.drop).know (zIX _ _ _)
   ·have hke:n.toNat - k=0:=by omega
    exact zq43
theorem zC0{l:List HdrS}{q:Option Addr}{cap:Nat}(hk:K.has (Know.flat RHdr (.slice q l.length cap) 3 l))(h:St W0 w K L)(i:Nat)(hi:i<l.length):
 ∃b off,q=some ⟨b,off,none⟩∧w.cell? ⟨b,off+i*3,none⟩=some (.string (bb (l[i]'hi).key))∧w.cell? ⟨b,off+i*3+1,none⟩=some (.bool (l[i]'hi).val.null)∧w.cell? ⟨b,off+i*3+2,none⟩=some (.string (bb (l[i]'hi).val.data)):=by
 obtain⟨F,hF,_⟩:=h.get;obtain⟨q2,cap2,hv2,hrow⟩:=(hk _ _ hF).at;obtain⟨b,off,hq,hcells⟩:=hrow oM;obtain⟨cs,_,hR,hc⟩:=hcells i hi;unfold RHdr at hR;subst hR;refine⟨b,off,by simp at hv2;rw[hv2.1,hq],?_,?_,?_⟩
 ·have:=hc 0 _ rfl;rwa [Nat.add_zero]at this
 ·have:=hc 1 _ rfl;rwa [←Nat.add_assoc]at this
 ·have:=hc 2 _ rfl;rwa [←Nat.add_assoc]at this
theorem zAq{α:Type}{R:List Value→α→Prop}{sz:Nat}{v:Value}{l:List α}(hk:K.has (Know.flat R v sz l))(h:St W0 w K L):∃q cap,v=.slice q l.length cap:=by
 obtain⟨F,hF,_⟩:=h.get;obtain⟨q,cap,hv,_⟩:=(hk _ _ hF).at;exact⟨q,cap,hv⟩
theorem zFm(c:UInt8)(t:Bs):zAd (sInt (c::t)) (t.length+1)=c::t:=by
 induction h:t.length generalizing t with
 |zero=>
  have:t=[]:=List.eq_nil_of_length_eq_zero h;subst this;have hc:=c.toNat_lt;simp only[sInt,List.foldl_nil,zAd,List.nil_append]
  congr 1
  unfold zD2
  apply UInt8.toNat_inj.1
  split<;>simp<;>omega
 |succ k ih=>
  obtain⟨t',d,rfl⟩:∃t' d,t=t'++[d]:=⟨t.dropLast,t.getLast (by intro h0;rw[h0]at h;simp at h),(List.dropLast_concat_getLast _).symm⟩;have hk:t'.length=k:=by simpa using h
  have hd:=d.toNat_lt;have e:=zEj c t' d;have h1:sInt (c::(t'++[d])) / 256=sInt (c::t'):=by rw[e];omega
  have h2:(sInt (c::(t'++[d])) % 256).toNat=d.toNat:=by rw[e];omega
  show zAd (sInt (c::(t'++[d])) / 256) (k+1)++[UInt8.ofNat (sInt (c::(t'++[d])) % 256).toNat]=_
  rw[h1,h2,ih t' hk,UInt8.ofNat_toNat]
  rfl
theorem zDF(l:Bs):zAd (sInt l) l.length=l:=by
 cases l with
 |nil=>rfl
 |cons c t=>exact zFm c t
theorem fail_stuck{i:InS}(h:i.err≠0)(e:Int):i.fail e=i:=if_neg h
def zAv (s:Bs):Bool:= !s.isEmpty && decide (s.length≤32767)
def InS.ints:List Nat→InS→List Int×InS
 |[],i=>([],i)
 |k::t,i=>((i.int k).1::(InS.ints t (i.int k).2).1,(InS.ints t (i.int k).2).2)
def zBV:List Nat→Bs→List Int
 |[],_=>[]
 |k::t,s=>sInt (s.take k)::zBV t (s.drop k)
theorem zD6(k:Nat)(h1:1≤k)(h8:k≤8)(s:Bs)(pos:Nat)(hp:pos+k≤s.length):(⟨s,pos,0⟩:InS).int k=(sInt ((s.drop pos).take k),⟨s,pos+k,0⟩):=by
 have h:=(zBl k h1 h8).ok s pos (sInt ((s.drop pos).take k)) k oM (by unfold zAI;rw[if_neg (by rw[List.length_drop];omega)]);exact h.2
theorem zFb(k:Nat)(h1:1≤k)(h8:k≤8)(s:Bs)(pos:Nat)(hp:pos≤s.length)(hs:s.length<pos+k):∃q,q≤s.length∧(⟨s,pos,0⟩:InS).int k=(0,⟨s,q,1⟩):=by
 exact((zBl k h1 h8).err s pos 1 hp (by unfold zAI;rw[if_pos (by rw[List.length_drop];omega)])).2
theorem zNS(k:Nat)(h1:1≤k)(h8:k≤8)(i:InS)(h:i.err≠0):i.int k=(0,i):=(zBl k h1 h8).stuck i h
theorem zO6:∀(l:List Nat) (s:Bs) (pos:Nat),(∀k∈l,1≤k∧k≤8)→pos+l.sum≤s.length→InS.ints l ⟨s,pos,0⟩=(zBV l (s.drop pos),⟨s,pos+l.sum,0⟩)
 |[],s,pos,_,_=>by simp[InS.ints,zBV]
 |k::t,s,pos,hk,hp=>by
  have h1:=hk k (by simp);rw[List.sum_cons]at hp;have h2:=zD6 k h1.1 h1.2 s pos oM;have h3:=zO6 t s (pos+k) (fun x hx=>hk x (by simp[hx])) oM;unfold InS.ints zBV;rw[h2];simp only;rw[h3,List.drop_drop,List.sum_cons,Nat.add_assoc]
theorem ints_stuck:∀(l:List Nat) (i:InS),(∀k∈l,1≤k∧k≤8)→i.err≠0→InS.ints l i=(l.map fun _=>0,i)
 |[],_,_,_=>rfl
 |k::t,i,hk,hi=>by
  have h1:=hk k (by simp);unfold InS.ints;rw[zNS k h1.1 h1.2 i hi];simp only;rw[ints_stuck t i (fun x hx=>hk x (by simp[hx])) hi]
  rfl
theorem zH2:∀(l:List Nat) (s:Bs) (pos:Nat),(∀k∈l,1≤k∧k≤8)→pos≤s.length→s.length<pos+l.sum→∃q,q≤s.length∧(InS.ints l ⟨s,pos,0⟩).2=⟨s,q,1⟩
 |[],s,pos,_,h1,h2=>by simp at h2;omega
 |k::t,s,pos,hk,hp,hs=>by
  have h1:=hk k (by simp);rw[List.sum_cons]at hs;unfold InS.ints
  by_cases h:pos+k≤s.length
  ·rw[zD6 k h1.1 h1.2 s pos h];exact zH2 t s (pos+k) (fun x hx=>hk x (by simp[hx])) h oM
  ·obtain⟨q,hq,e⟩:=zFb k h1.1 h1.2 s pos hp oM;rw[e];refine⟨q,hq,?_⟩;simp only;rw[ints_stuck t _ (fun x hx=>hk x (by simp[hx])) (show(1:Int)≠0 by decide)]
def OutS.ints (o:OutS) (l:List (Int×Nat)):OutS:=l.foldl (fun o x=>o.int x.1 x.2) o
def zAo (l:List (Int×Nat)):Bs:=l.flatMap fun x=>zAd x.1 x.2
def FitsAll (l:List (Int×Nat)):Prop:=∀x∈l,fits x.1 x.2
instance (l:List (Int×Nat)):Decidable (FitsAll l):=by unfold FitsAll;infer_instance
theorem OutS.put_err{o:OutS}(h:o.err≠0)(s:Bs):o.put s=o:=if_neg h
theorem OutS.fail_stuck{o:OutS}(h:o.err≠0)(e:Int):o.fail e=o:=if_neg h
theorem OutS.int_stuck{o:OutS}(h:o.err≠0)(n k:Int):o.int n k=o:=by
 unfold OutS.int;split
 ·exact OutS.put_err h _
 ·exact OutS.fail_stuck h _
theorem OutS.ints_stuck:∀(l:List (Int×Nat)) (o:OutS),o.err≠0→o.ints l=o
 |[],_,_=>rfl
 |x::t,o,h=>by
  show OutS.ints (o.int x.1 x.2) t=o
  rw[OutS.int_stuck h];exact OutS.ints_stuck t o h
theorem OutS.ints_put:∀(l:List (Int×Nat)) (o:OutS),FitsAll l→o.ints l=o.put (zAo l)
 |[],o,_=>by show o=o.put [];rw[OutS.put_nil]
 |x::t,o,h=>by
  show OutS.ints (o.int x.1 x.2) t=_
  rw[OutS.ints_put t _ (fun y hy=>h y (by simp[hy]))];unfold OutS.int;rw[if_pos (h x (by simp)),OutS.put_put,Int.toNat_natCast]
  rfl
theorem zCa(l:List (Int×Nat)):(zAo l).length=(l.map (·.2)).sum:=by
 induction l with
 |nil=>rfl
 |cons x t ih=>unfold zAo at*;rw[List.flatMap_cons,List.length_append,zAg,ih];rfl
theorem zH4:∀(l:List (Int×Nat)) (rest:Bs),FitsAll l→zBV (l.map (·.2)) (zAo l++rest)=l.map (·.1)
 |[],_,_=>rfl
 |x::t,rest,h=>by
  have h1:=h x (by simp);have hs:1≤x.2:=by have:=h1.1;omega
  have h2:=zH4 t rest (fun y hy=>h y (by simp[hy]));have e:zAo (x::t)=zAd x.1 x.2++zAo t:=rfl
  have h3:(zAd x.1 x.2++(zAo t++rest)).take x.2=zAd x.1 x.2:=by
   have h4:=zAg x.1 x.2;rw[List.take_append_of_le_length oM,List.take_of_length_le oM]
  have h4:(zAd x.1 x.2++(zAo t++rest)).drop x.2=zAo t++rest:=by
   rw[List.drop_left' (zAg x.1 x.2)]
  have hfit:=h1.2.2;rw[Int.toNat_natCast]at hfit
  show zBV (x.2::t.map (·.2)) (zAo (x::t)++rest)=x.1::t.map (·.1)
  rw[e,List.append_assoc];unfold zBV;rw[h3,h4,(zBH x.1 x.2 hs).2 hfit,h2]
theorem zGg(s:Bs)(k:Nat)(h1:1≤k)(h8:k≤8)(hl:s.length=k):fits (sInt s) k:=by
 have h:=zDF s;have h2:sInt (zAd (sInt s) k)=sInt s:=by rw[←hl,h]
 have h3:=(zBH (sInt s) k h1).1 h2;refine⟨oM,oM,?_⟩;rw[Int.toNat_natCast];exact h3
theorem zH7:∀(l:List Nat) (s:Bs),l.sum≤s.length→zAo ((zBV l s).zip l)=s.take l.sum
 |[],_,_=>by simp[zAo,zBV]
 |k::t,s,hs=>by
  rw[List.sum_cons]at hs;have h2:=zH7 t (s.drop k) (by rw[List.length_drop];omega);unfold zBV;rw[List.zip_cons_cons]
  show zAd (sInt (s.take k)) k++zAo _=_
  rw[h2,List.sum_cons];have h3:=zDF (s.take k);rw[List.length_take,Nat.min_eq_left oM]at h3;rw[h3,List.take_add]
theorem zBo{o:OutS}{x:BlobS}(hx:x.right=true)(hl:x.data.length≤2147483647):o.putVaried x=o.put (encV x):=by
 unfold OutS.putVaried OutS.putData;rw[if_pos hx];have hr: -2147483648≤x.len∧x.len<2147483648:=by unfold BlobS.len;split<;>omega
 have h1:o.putInt x.len=o.put (putU (zBg x.len)):=by
   unfold OutS.putInt
   rw [if_pos (by have e4 : half 4 = 2147483648 := by decide
                  unfold fits;have:(4:Int).toNat=4:=rfl
                  rw[this,e4];omega)]
 rw[h1,OutS.put_put]
 rfl
def encH (h:HdrS):Bs:=encV ⟨false,h.key⟩++encV h.val
def encI (n:Int):Bs:=putU (zBg n)
def zDo (l:List HdrS):Bs:=encI l.length++l.flatMap encH
def zBP (l:List HdrS):Bool:=l.all fun h=>h.val.right
def hsum (l:List HdrS):Nat:=(l.map fun h=>h.key.length+h.val.data.length+1).sum
theorem zEv(h:HdrS)(t:List HdrS):hsum (h::t)=h.key.length+h.val.data.length+1+hsum t:=rfl
theorem zCQ:∀(l:List HdrS),l.length≤hsum l∧hsize l=hsum l+31*l.length∧∀h∈l,h.key.length+h.val.data.length+1≤hsum l
 |[]=>by simp[hsum,hsize]
 |h::t=>by
  obtain⟨a,b,c⟩:=zCQ t;have e:hsize (h::t)=h.size+hsize t:=rfl;rw[zEv,e,b,List.length_cons];unfold HdrS.size;refine⟨oM,oM,?_⟩;intro x hx
  rcases List.mem_cons.1 hx with rfl|hx
  ·omega
  ·have:=c x hx;omega
theorem zKc{o:OutS}{h:HdrS}(hx:h.val.right=true)(hl:h.key.length+h.val.data.length≤2147483647):o.putHdr h=o.put (encH h):=by
 unfold OutS.putHdr OutS.putName;rw[zBo (x:=⟨false,h.key⟩) rfl (by simp only;omega),zBo hx oM,OutS.put_put]
 rfl
theorem zDA:∀(l:List HdrS) (o:OutS),zBP l=true→hsum l≤2147483647→l.foldl OutS.putHdr o=o.put (l.flatMap encH)
 |[],o,_,_=>by rw[List.flatMap_nil,OutS.put_nil];rfl
 |h::t,o,hr,hs=>by
  unfold zBP at hr;rw[List.all_cons,Bool.and_eq_true]at hr;rw[zEv]at hs;rw[List.foldl_cons,zKc hr.1 oM,zDA t _ hr.2 oM,OutS.put_put]
  rfl
theorem zHV{o:OutS}{n:Int}(h0: -2147483648≤n)(h1:n<2147483648):o.putInt n=o.put (encI n):=by
 unfold OutS.putInt
 rw [if_pos (by have e4 : half 4 = 2147483648 := by decide
                unfold fits;have:(4:Int).toNat=4:=rfl
                rw[this,e4];omega)]
 rfl
theorem zIJ{o:OutS}{l:List HdrS}(hr:zBP l=true)(hs:hsum l≤2147483647):o.putHdrs l=o.put (zDo l):=by
 have:=(zCQ l).1;unfold OutS.putHdrs;rw[zHV oM oM,zDA l _ hr hs,OutS.put_put]
 rfl
def zCk (l:Bs):Except Int (HdrS×Nat):=match zAh l with
  | .error e=> .error e
  | .ok x=>if x.1.null then .error 4 else match zAh (l.drop x.2)with
    | .error e=> .error e
    | .ok y=> .ok (⟨x.1.data,y.1⟩,x.2+y.2)
def zBe:Nat→Bs→Except Int (List HdrS×Nat)
  |0,_=> .ok ([],0)
  |n+1,l=>match zCk l with
    | .error e=> .error e
    | .ok x=>match zBe n (l.drop x.2)with
      | .error e=> .error e
      | .ok y=> .ok (x.1::y.1,x.2+y.2)
def zAQ (l:Bs):Except Int (List HdrS×Nat):=match zBf l with
  | .error e=> .error e
  | .ok x=>if x.1<0 then .error 4 else if ((l.length:Int) - x.2) / 2<x.1 then .error 1 else match zBe x.1.toNat (l.drop x.2)with
    | .error e=> .error e
    | .ok y=> .ok (y.1,x.2+y.2)
theorem InS.fail_ok0'(s:Bs)(p:Nat)(e:Int):(⟨s,p,0⟩:InS).fail e=⟨s,p,e⟩:=rfl
theorem zFa{i:InS}(h:i.err≠0):i.name=([],i):=by
 unfold InS.name;rw[zAt.stuck i h]
 rfl
theorem zPZ{s:Bs}{pos:Nat}{h:HdrS}{m:Nat}(hp:pos≤s.length)(e:zCk (s.drop pos)=.ok (h,m)):pos+m≤s.length∧(⟨s,pos,0⟩:InS).name.1=h.key∧(⟨s,pos,0⟩:InS).name.2.varied=(h.val,⟨s,pos+m,0⟩):=by
 unfold zCk at e
 cases h1:zAh (s.drop pos)with
 |error e1=>rw[h1]at e;cases e
 |ok x=>
  rw[h1]at e;obtain⟨g1,g2⟩:=zAt.ok s pos x.1 x.2 hp h1
  cases hn:x.1.null
  ·simp only[hn]at e
   cases h2:zAh ((s.drop pos).drop x.2)with
   |error e2=>rw[h2]at e;cases e
   |ok y=>
    rw[h2]at e
    cases e
    rw[List.drop_drop]at h2;obtain⟨g3,g4⟩:=zAt.ok s (pos+x.2) y.1 y.2 g1 h2;unfold InS.name InS.bytes;rw[g2];rw[Nat.add_assoc]at g3 g4;refine⟨g3,rfl,?_⟩
    show(if x.1.null=true then(⟨s,pos+x.2,0⟩:InS).fail 4 else⟨s,pos+x.2,0⟩).varied=_
    rw[hn];exact g4
  ·simp[hn]at e
theorem zOL{s:Bs}{pos:Nat}{e:Int}(hp:pos≤s.length)(h:zCk (s.drop pos)=.error e):e≠0∧∃q,q≤s.length∧(⟨s,pos,0⟩:InS).name.2.varied.2=⟨s,q,e⟩:=by
 unfold zCk at h
 cases h1:zAh (s.drop pos)with
 |error e1=>
  rw[h1]at h
  cases h
  obtain⟨g1,q,g2,g3⟩:=zAt.err s pos e hp h1;refine⟨g1,q,g2,?_⟩;unfold InS.name InS.bytes;rw[g3]
  show(InS.varied ⟨s,q,e⟩).2=_
  rw[zAt.stuck ⟨s,q,e⟩ g1]
 |ok x=>
  rw[h1]at h;obtain⟨g1,g2⟩:=zAt.ok s pos x.1 x.2 hp h1;unfold InS.name InS.bytes;rw[g2];simp only
  cases hn:x.1.null
  ·simp only[hn]at h
   cases h2:zAh ((s.drop pos).drop x.2)with
   |error e2=>
    rw[h2]at h
    cases h
    rw[List.drop_drop]at h2;obtain⟨g3,q,g4,g5⟩:=zAt.err s (pos+x.2) e g1 h2;refine⟨g3,q,g4,?_⟩
    show(InS.varied ⟨s,pos+x.2,0⟩).2=_
    rw[g5]
   |ok y=>rw[h2]at h;cases h
  ·simp[hn]at h;subst h;refine⟨dD,pos+x.2,g1,?_⟩
   show(InS.varied ⟨s,pos+x.2,4⟩).2=_
   rw[zAt.stuck ⟨s,pos+x.2,4⟩ (show(4:Int)≠0 by decide)]
theorem zq35{p:Prop}(h:p:=by
 rw[h2]at h
 cases h
 obtain⟨a,b⟩:=ih.1 y.1 y.2 h2;refine⟨oM,?_⟩;rw[b,List.append_assoc,Nat.add_assoc]
 rfl):p:=h
theorem zFc:∀(n:Nat) (acc:List HdrS) (s:Bs) (pos:Nat),pos≤s.length→
 (∀t k,zBe n (s.drop pos)=.ok (t,k)→pos+k≤s.length∧InS.hdrLoop n acc ⟨s,pos,0⟩=(acc++t,⟨s,pos+k,0⟩))∧
 (∀e,zBe n (s.drop pos)=.error e→e≠0∧∃q,q≤s.length∧InS.hdrLoop n acc ⟨s,pos,0⟩=([],⟨s,q,e⟩))
 |0,acc,s,pos,hp=>⟨fun t k h=>(by cases h;simp[InS.hdrLoop];exact hp),fun e h=>(by cases h)⟩
 |n+1,acc,s,pos,hp=>by
  unfold zBe InS.hdrLoop
  cases h1:zCk (s.drop pos)with
  |error e1=>
   refine⟨fun t k h=>(by cases h),fun e h=> ?_⟩
   cases h
   obtain⟨g1,q,g2,g3⟩:=zOL hp h1;refine⟨g1,q,g2,?_⟩;rw[g3,if_neg g1]
  |ok x=>
   obtain⟨g1,g2,g3⟩:=zPZ hp h1;have ih:=zFc n (acc++[x.1]) s (pos+x.2) g1;rw[g2,g3];simp only[if_true];rw[List.drop_drop];refine⟨fun t k h=> ?_,fun e h=> ?_⟩
   ·cases h2:zBe n (s.drop (pos+x.2))with
    |error e2=>rw[h2]at h;cases h
    |ok y=>
     exact zq35
   ·cases h2:zBe n (s.drop (pos+x.2))with
    |error e2=>
     rw[h2]at h
     cases h
     exact ih.2 e h2
    |ok y=>rw[h2]at h;cases h
theorem zEw{i:InS}(h:i.err≠0)(n:Nat):InS.hdrLoop n [] i=([],i):=by
 cases n with
 |zero=>rfl
 |succ n=>
  unfold InS.hdrLoop;rw[zFa h];simp only;rw[zAt.stuck i h,if_neg h]
theorem zDN:Rds InS.hdrs zAQ []:=by
 refine⟨?_,?_,?_⟩
 ·intro s pos a k hp h;unfold zAQ at h
  cases h1:zBf (s.drop pos)with
  |error e1=>rw[h1]at h;cases h
  |ok x=>
   rw[h1]at h;obtain⟨g1,g2⟩:=zDv.ok s pos x.1 x.2 hp h1;simp only at h
   split at h
   ·cases h
   rename_i hn
   split at h
   ·cases h
   rename_i hm
   rw[List.length_drop]at hm;rw[List.drop_drop]at h
   cases h2:zBe x.1.toNat (s.drop (pos+x.2))with
   |error e2=>rw[h2]at h;cases h
   |ok y=>
    rw[h2]at h
    cases h
    obtain⟨a1,b1⟩:=(zFc x.1.toNat [] s (pos+x.2) g1).1 y.1 y.2 h2;refine⟨oM,?_⟩;unfold InS.hdrs InS.hdrHead;rw[g2];simp only;rw[if_neg hn,if_neg (by simp only[InS.left];omega),b1,List.nil_append,Nat.add_assoc]
 ·intro s pos e hp h;unfold zAQ at h
  cases h1:zBf (s.drop pos)with
  |error e1=>
   rw[h1]at h
   cases h
   obtain⟨g1,q,g2,g3⟩:=zDv.err s pos e hp h1;refine⟨g1,q,g2,?_⟩;unfold InS.hdrs InS.hdrHead;rw[g3];simp only;rw[if_neg dD,if_neg oM]
   rfl
  |ok x=>
   rw[h1]at h;obtain⟨g1,g2⟩:=zDv.ok s pos x.1 x.2 hp h1;simp only at h;unfold InS.hdrs InS.hdrHead;rw[g2];simp only
   split at h
   ·rename_i hn
    cases h
    rw[if_pos hn,InS.fail_ok0'];exact⟨dD,_,g1,zEw (show(4:Int)≠0 by decide) _⟩
   rename_i hn
   rw[if_neg hn]
   split at h
   ·rename_i hm
    cases h
    rw[List.length_drop]at hm;rw[if_pos (by simp only[InS.left];omega),InS.fail_ok0'];exact⟨dD,_,g1,zEw (show(1:Int)≠0 by decide) _⟩
   rename_i hm
   rw[List.length_drop]at hm;rw[if_neg (by simp only[InS.left];omega)];rw[List.drop_drop]at h
   cases h2:zBe x.1.toNat (s.drop (pos+x.2))with
   |error e2=>
    rw[h2]at h
    cases h
    exact(zFc x.1.toNat [] s (pos+x.2) g1).2 e h2
   |ok y=>rw[h2]at h;cases h
 ·intro i hi;unfold InS.hdrs InS.hdrHead;rw[zDv.stuck i hi];simp only;rw[if_neg dD,if_neg oM]
  rfl
theorem zAN{l:Bs}{b:BlobS}{m:Nat}(h:zAh l=.ok (b,m)):encV b=l.take m∧0<m∧m≤l.length∧b.right=true∧b.data.length<2147483648∧b.data.length<m+(if b.null then 1 else 0):=by
 unfold zAh at h
 cases h1:zBf l with
 |error e=>rw[h1]at h;cases h
 |ok x=>
  obtain⟨n,k⟩:=x;rw[h1]at h;obtain⟨g1,g2,g3,g4,g5⟩:=zCu h1;unfold gotS at h;simp only at h
  split at h
  ·rename_i hn
   cases h
   subst hn;refine⟨?_,g2,g3,rfl,by simp[BlobS.none],by simp[BlobS.none]⟩;unfold encV;rw[←g1]
   show putU (zBg (-1))++[]=_
   rw[List.append_nil]
  ·rename_i hn
   split at h
   ·cases h
   ·rename_i hn0
    split at h
    ·cases h
    ·rename_i hm
     cases h
     have hl:(l.drop k).length=l.length - k:=List.length_drop;have hd:((l.drop k).take n.toNat).length=n.toNat:=by rw[List.length_take,hl];omega
     refine⟨?_,oM,oM,rfl,by simp only;rw[hd];omega,by simp only;rw[hd];omega⟩;unfold encV
     have e:(⟨false,(l.drop k).take n.toNat⟩:BlobS).len=n:=by
      unfold BlobS.len;simp only[Bool.false_eq_true,if_false];rw[hd];omega
     rw[e,g1,List.take_add]
theorem zOK{l:Bs}{h:HdrS}{m:Nat}(e:zCk l=.ok (h,m)):encH h=l.take m∧2≤m∧m≤l.length∧h.val.right=true∧h.key.length+h.val.data.length+1≤m:=by
 unfold zCk at e
 cases h1:zAh l with
 |error e1=>rw[h1]at e;cases e
 |ok x=>
  rw[h1]at e
  cases hn:x.1.null
  ·simp only[hn]at e
   cases h2:zAh (l.drop x.2)with
   |error e2=>rw[h2]at e;cases e
   |ok y=>
    rw[h2]at e
    cases e
    obtain⟨a1,a2,a3,a4,a5,a6⟩:=zAN h1;obtain⟨b1,b2,b3,b4,b5,b6⟩:=zAN h2;rw[List.length_drop]at b3;rw[hn]at a6;simp only[Bool.false_eq_true,if_false]at a6;refine⟨?_,oM,oM,b4,?_⟩
    ·unfold encH;have ex:(⟨false,x.1.data⟩:BlobS)=x.1:=by cases hx:x.1;rw[hx]at hn;simp only at hn;rw[hn]
     simp only;rw[ex,a1,b1,List.take_add]
    ·simp only
     by_cases hy:y.1.null=true
     ·have:y.1.data=[]:=by unfold BlobS.right at b4;rw[hy]at b4;simpa using b4
      rw[this];simp only[List.length_nil];omega
     ·rw[if_neg hy]at b6;omega
  ·simp[hn]at e
theorem zHU:∀(n:Nat) (l:Bs) (t:List HdrS) (m:Nat),zBe n l=.ok (t,m)→t.flatMap encH=l.take m∧m≤l.length∧t.length=n∧zBP t=true∧hsum t≤m
 |0,l,t,m,h=>by cases h;simp[zBP,hsum]
 |n+1,l,t,m,h=>by
  unfold zBe at h
  cases h1:zCk l with
  |error e1=>rw[h1]at h;cases h
  |ok x=>
   rw[h1]at h;simp only at h
   cases h2:zBe n (l.drop x.2)with
   |error e2=>rw[h2]at h;cases h
   |ok y=>
    rw[h2]at h
    cases h
    obtain⟨a1,a2,a3,a4,a5⟩:=zOK h1;obtain⟨b1,b2,b3,b4,b5⟩:=zHU n (l.drop x.2) y.1 y.2 h2;rw[List.length_drop]at b2;refine⟨?_,oM,by simp[b3],?_,?_⟩
    ·rw[List.flatMap_cons,a1,b1,List.take_add]
    ·unfold zBP at*;rw[List.all_cons,a4,b4];rfl
    ·rw[zEv];omega
theorem zHT{l:Bs}{t:List HdrS}{m:Nat}(h:zAQ l=.ok (t,m)):zDo t=l.take m∧0<m∧m≤l.length∧zBP t=true∧hsum t≤m:=by
 unfold zAQ at h
 cases h1:zBf l with
 |error e=>rw[h1]at h;cases h
 |ok x=>
  rw[h1]at h;obtain⟨g1,g2,g3,g4,g5⟩:=zCu h1;simp only at h
  split at h
  ·cases h
  rename_i hn
  split at h
  ·cases h
  cases h2:zBe x.1.toNat (l.drop x.2)with
  |error e2=>rw[h2]at h;cases h
  |ok y=>
   rw[h2]at h
   cases h
   obtain⟨b1,b2,b3,b4,b5⟩:=zHU _ _ _ _ h2;rw[List.length_drop]at b2;refine⟨?_,oM,oM,b4,oM⟩;unfold zDo encI;have e:(y.1.length:Int)=x.1:=by rw[b3];omega
   rw[e,g1,b1,List.take_add]
theorem zP3(u:Nat):1≤(putU u).length:=by
 rw[putU]
 split<;>simp
theorem zI3(b:BlobS):1≤(encV b).length:=by
 have h:=zP3 (zBg b.len);unfold encV;rw[List.length_append];omega
theorem zNB(h:HdrS)(hr:h.val.right=true)(hl:h.key.length+h.val.data.length≤2147483647)(rest:Bs):zCk (encH h++rest)=.ok (h,(encH h).length):=by
 unfold zCk encH;rw[List.append_assoc,zBt ⟨false,h.key⟩ rfl (by simp only;omega)];simp only[Bool.false_eq_true,if_false];rw[List.drop_left' rfl,zBt h.val hr oM];simp only[List.length_append]
theorem zGM:∀(t:List HdrS) (rest:Bs),zBP t=true→hsum t≤2147483647→zBe t.length (t.flatMap encH++rest)=.ok (t,(t.flatMap encH).length)
 |[],_,_,_=>rfl
 |h::t,rest,hr,hs=>by
  unfold zBP at hr;rw[List.all_cons,Bool.and_eq_true]at hr;rw[zEv]at hs;rw[List.length_cons,List.flatMap_cons,List.append_assoc];unfold zBe;rw[zNB h hr.1 oM];simp only;rw[List.drop_left' rfl,zGM t rest hr.2 oM];simp only[List.length_append]
theorem zKH:∀(t:List HdrS),2*t.length≤(t.flatMap encH).length
 |[]=>by simp
 |h::t=>by
  have h1:=zKH t
  have h2:2≤(encH h).length:=by
   have a:=zI3 ⟨false,h.key⟩;have b:=zI3 h.val;unfold encH;rw[List.length_append];omega
  rw[List.flatMap_cons,List.length_append,List.length_cons];omega
theorem zLD(t:List HdrS)(rest:Bs)(hr:zBP t=true)(hs:hsum t≤2147483647):zAQ (zDo t++rest)=.ok (t,(zDo t).length):=by
 have h0:=(zCQ t).1;have h2:=zKH t;unfold zAQ zDo encI;rw[List.append_assoc,zF8 t.length oM oM];simp only;rw[if_neg oM,if_neg (by rw[List.length_append,List.length_append];omega),List.drop_left' rfl,Int.toNat_natCast,zGM t rest hr hs];simp only[List.length_append]
variable {W0 w:World}{K:Know}{L:List Res}
theorem zJX(n:Int)(hn: -9223372036854775808≤n∧n<9223372036854775808)(h:St W0 w K L):
 Calls Tryz.prog 110 #[.int .i64 n] w fun en w'=>en=.returned (.string (bb (encI n)))∧St W0 w' K L:=by
 have H:=hQd h;have HN:=hQd hn;have HF:=hQd (zCp hn.1 hn.2);clear h hn;go_enter Tryz.func110,Tryz.ntmps110
 go_wp2_with (first
  |(go_at_call 144;(with_reducible refine(zMD _ HN.out H.out).zM ?_);clear H;intro wn H)
  |(go_at_call 143;(with_reducible refine(zOs _ HF.out H.out).zM ?_);clear H;intro wn H))
 go_ret;exact⟨rfl,H.out⟩
theorem zLx(v:Value)(l:List HdrS)(hl:l.length≤9223372036854775807)(hk:K.has (Know.flat RHdr v 3 l))(h:St W0 w K L):
   Calls Tryz.prog 134 #[v] w fun en w'=>en=.returned (.bool (zBP l))∧St W0 w' K L:=by
 obtain⟨q,cap,rfl⟩:=zAq hk h;have H:=hQd h;have HK:=hQd hk;clear h hk;go_enter Tryz.func134,Tryz.ntmps134;go_wp2;go_loopw [3] (fun iv wr=>∃(k:Nat),k≤l.length∧iv=.int .i64 k∧zBP (l.take k)=true∧St W0 wr K L) (fun iv _=>l.length - (intOf iv).toNat)
 case atStart=>exact⟨0,Nat.zero_le _,rfl,rfl,H.out⟩
 case round=>
   obtain⟨k,hk,rfl,hr,hst⟩:=hrel;have HR:=hQd hr;have HST:=hQd hst;clear hr
   by_cases hlt:k<l.length
   · obtain⟨b,off,hq,c0,c1,c2⟩:=zC0 HK.out hst k hlt;subst hq
     have hnx:zBP (l.take (k+1))=(l[k]'hlt).val.right:=by
       have:=HR.out;unfold zBP at*;rw[List.take_succ_eq_append_getElem hlt,List.all_append,this]
       simp
     have hall:(l[k]'hlt).val.right=false→zBP l=false:=by
       intro h;unfold zBP;rw[List.all_eq_false];exact⟨_,List.getElem_mem hlt,by rw[h];decide⟩
     obtain⟨x,hx⟩:∃x,l[k]'hlt=x:=⟨_,rfl⟩;rw[hx]at c0 c1 c2 hnx hall;have HX:=hQd (And.intro hnx hall);clear hst hx hnx hall;obtain⟨kx,⟨n,d⟩⟩:=x;simp only at c0 c1 c2
     have key:∀(r:Bool),(n && !d.isEmpty)= !r→(⟨n,d⟩:BlobS).right=r:=by
       intro r hr;unfold BlobS.right
       cases n<;>cases r<;>cases d<;>simp_all
     have HKEY:=hQd key;clear key
     cases n<;>cases d
     all_goals
       go_wp2
       first
       | (go_roundw
          case rel=>exact⟨k+1,hlt,by go_num,by rw[HX.out.1];rfl,HST.out⟩
          case measure=>first|(simp[intOf];done)|(simp[intOf];omega))
       | (go_ret
          exact⟨zAB (HX.out.2 rfl).symm,HST.out⟩)
   · have hke:k=l.length:=by omega
     subst hke;rw[List.take_length]at HR;clear hst;go_wp2;go_ret;exact⟨zAB HR.out.symm,HST.out⟩
theorem zCZ{l:List HdrS}{b off cap:Nat}(hk:K.has (Know.flat RHdr (.slice (some ⟨b,off,none⟩) l.length cap) 3 l)){i:Nat}{x:HdrS}(hi:i<l.length)(hx:l[i]'hi=x)(h:St W0 w K L):
 w.cell? ⟨b,off+i*3,none⟩=some (.string (bb x.key))∧w.cell? ⟨b,off+i*3+1,none⟩=some (.bool x.val.null)∧w.cell? ⟨b,off+i*3+2,none⟩=some (.string (bb x.val.data))∧St W0 w K L:=by
 obtain⟨b',off',hq,c0,c1,c2⟩:=zC0 hk h i hi
 cases hq
 rw[hx]at c0 c1 c2;exact⟨c0,c1,c2,h⟩
theorem zAb(n:Bool)(d r:Bs)(hr:encV ⟨n,d⟩=r)(hb:d.length≤70368744177664)(h:St W0 w K L):
 Calls Tryz.prog 111 #[.agg #[.bool n,.string (bb d)]] w fun en w'=>en=.returned (.string (bb r))∧St W0 w' K L:=by
 subst hr;exact zJY ⟨n,d⟩ hb h
theorem zCS(b:BlobS)(h:b.data.length≤140737488355328):(encV b).length≤b.data.length+10:=by
 have hr:=b.len_range h;have:=zCl _ (zCp hr.1 hr.2);unfold encV;rw[List.length_append];omega
theorem zRM(x:HdrS)(h:x.size≤140737488355328):(encH x).length≤x.size:=by
 unfold HdrS.size at*;have h1:=zCS ⟨false,x.key⟩ (by simp only;omega);have h2:=zCS x.val oM;unfold encH;simp only at h1;rw[List.length_append];omega
theorem zF1:∀(l:List HdrS),hsize l≤140737488355328→(l.flatMap encH).length≤hsize l
 |[],_=>by simp
 |x::t,h=>by
  have e:hsize (x::t)=x.size+hsize t:=rfl;have h1:=zRM x oM;have h2:=zF1 t oM;rw[List.flatMap_cons,List.length_append];omega
theorem zLw(v:Value)(l:List HdrS)(hs:hsize l≤70368744177664)(hk:K.has (Know.flat RHdr v 3 l))(h:St W0 w K L):
 Calls Tryz.prog 112 #[v] w fun en w'=>en=.returned (.string (bb (zDo l)))∧St W0 w' K L:=by
 obtain⟨q,cap,rfl⟩:=zAq hk h
 have hl:l.length≤70368744177664:=by
  have:l.length≤hsize l:=by
   have h1:=zCQ l
   omega
  omega
 have H:=hQd h;have HK:=hQd hk;have HS:=hQd hs;have HN:=hQd (show -9223372036854775808≤(l.length:Int)∧(l.length:Int)<9223372036854775808 by omega);have HI:=hQd (show(encI l.length).length≤10 from zCl _ (zCp HN.out.1 HN.out.2));clear h hk hs;go_enter Tryz.func112,Tryz.ntmps112;go_wp2_with (go_at_call 110;(with_reducible refine(zJX _ HN.out H.out).zM ?_);clear H;intro wn H);go_loopw [3,4] (fun sv iv wr=>∃(k:Nat),k≤l.length∧iv=.int .i64 k∧sv=.string (bb (encI l.length++(l.take k).flatMap encH))∧St W0 wr K L) (fun _ iv _=>l.length - (intOf iv).toNat)
 case atStart=>exact⟨0,Nat.zero_le _,rfl,by rw[List.take_zero,List.flatMap_nil,List.append_nil],H.out⟩
 case round=>
  obtain⟨k,hk,rfl,rfl,hst⟩:=hrel
  by_cases hlt:k<l.length
  ·obtain⟨b,off,hq,_⟩:=zC0 HK.out hst k hlt;subst hq;have hsp:=zG8 l k hlt;have hle:=zF1 (l.take k) (by have:=HS.out;omega);have hn:(l.take (k+1)).flatMap encH=(l.take k).flatMap encH++encH (l[k]'hlt):=by rw[List.take_succ_eq_append_getElem hlt,List.flatMap_append];simp
   obtain⟨x,hx⟩:∃x,l[k]'hlt=x:=⟨_,rfl⟩;rw[hx]at hn hsp;have hst1:=hst.drew;obtain⟨c0,c1,c2,_⟩:=zCZ HK.out hlt hx hst1;have HKX:=hQd (fun(w':World) (h':St W0 w' K L)=>zCZ HK.out hlt hx h');obtain⟨e0,he0⟩:∃e,encI l.length++(l.take k).flatMap encH=e:=⟨_,rfl⟩;have hel:e0.length≤10+hsize (l.take k):=by rw[←he0,List.length_append];have:=HI.out;omega
   rw[he0];obtain⟨v1,hv1⟩:∃r,encV ⟨false,x.key⟩=r:=⟨_,rfl⟩;obtain⟨v2,hv2⟩:∃r,encV ⟨x.val.null,x.val.data⟩=r:=⟨_,rfl⟩;have hxs:x.size=x.key.length+x.val.data.length+32:=rfl;have hb1:=zCS ⟨false,x.key⟩ (by simp only;have:=HS.out;omega);have hb2:=zCS ⟨x.val.null,x.val.data⟩ (by simp only;have:=HS.out;omega);rw[hv1]at hb1;rw[hv2]at hb2;simp only at hb1 hb2;have hz1:¬(9223372036854775807<e0.length+v1.length):=by have:=HS.out;omega
   have hz2:¬(9223372036854775807<e0.length+v1.length+v2.length):=by have:=HS.out;omega
   have B1:=hQd (show x.key.length≤70368744177664 by have:=HS.out;omega);have B2:=hQd (show x.val.data.length≤70368744177664 by have:=HS.out;omega);have V1:=hQd hv1;have V2:=hQd hv2;have HE:=hQd (show e0++v1++v2=encI l.length++(l.take (k+1)).flatMap encH by rw[hn,←List.append_assoc,he0,←hv1,←hv2,List.append_assoc];rfl);clear hst hsp hle hn hx he0 hel hv1 hv2 hxs hb1 hb2;go_wp2_with fail
   go_region_held3 (fun w'=>w'.cell? ⟨b,off+k*3,none⟩=some (.string (bb x.key))∧w'.cell? ⟨b,off+k*3+1,none⟩=some (.bool x.val.null)∧w'.cell? ⟨b,off+k*3+2,none⟩=some (.string (bb x.val.data))∧St W0 w' K L)
    (exact HKX.out _ (by assumption))
    (first
     |(go_at_call 111;with_reducible refine(zAb false x.key v1 V1.out B1.out zq65).mono ?_;rintro e wn ⟨rfl,h⟩)
     |(go_at_call 111;with_reducible refine(zAb x.val.null x.val.data v2 V2.out B2.out zq65).mono ?_;rintro e wn ⟨rfl,h⟩))
   all_goals
    have hst:=(show St W0 _ K L by first|assumption|(go_split_ands;assumption));go_wp2;go_roundw
    case rel=>exact⟨k+1,hlt,by go_num,by rw[←HE.out];simp,hst⟩
    case measure=>first|(simp[intOf];done)|(simp[intOf];omega)
  ·have hke:k=l.length:=by omega
   subst hke;rw[List.take_length];go_wp2;go_ret;exact⟨rfl,hst⟩
theorem zQt(n:Bool)(d:Bs)(n':Bool)(d':Bs)(k k':Bs)(h:¬(⟨k,⟨n,d⟩⟩:HdrS)=⟨k',⟨n',d'⟩⟩):(k==k')=false∨(k=k'∧(n==n')=false)∨(k=k'∧n=n'∧(d==d')=false):=by
 by_cases h1:k=k'
 ·subst h1
  by_cases h2:n=n'
  ·subst h2
   by_cases h3:d=d'
   ·subst h3;exact absurd rfl h
   ·exact .inr (.inr ⟨rfl,rfl,by simpa using h3⟩)
  ·exact .inr (.inl ⟨rfl,by simpa using h2⟩)
 ·exact .inl (by simpa using h1)
theorem zNv(va vb:Value)(a b:List HdrS)(hl:a.length≤9223372036854775807)(hl2:b.length≤9223372036854775807)(hka:K.has (Know.flat RHdr va 3 a))(hkb:K.has (Know.flat RHdr vb 3 b))(h:St W0 w K L):
 Calls Tryz.prog 145 #[va,vb] w fun en w'=>en=.returned (.bool (decide (a=b)))∧St W0 w' K L:=by
 obtain⟨q,cap,rfl⟩:=zAq hka h;obtain⟨q2,cap2,rfl⟩:=zAq hkb h;have H:=hQd h;have HA:=hQd hka;have HB:=hQd hkb;clear h hka hkb
 by_cases hlen:a.length=b.length
 ·have HLEN:=hQd hlen;have hq:∀(P:Prop) [Decidable P],decide P=decide P:=fun _ _=>rfl
  obtain⟨r,hr⟩:∃r,decide (a=b)=r:=⟨_,rfl⟩;have HR:=hQd hr;rw[hr];rw[←hlen];clear hr hlen hq;go_enter Tryz.func145,Tryz.ntmps145;go_wp2;go_loopw [5] (fun iv wr=>∃k:Nat,k≤a.length∧iv=.int .i64 k∧a.take k=b.take k∧St W0 wr K L) (fun iv _=>a.length - (intOf iv).toNat)
  case atStart=>exact⟨0,Nat.zero_le _,rfl,by simp,H.out⟩
  case round=>
   obtain⟨k,hk,rfl,heq,hst⟩:=hrel;have HEQ:=hQd heq;clear heq
   by_cases hlt:k<a.length
   ·have hltb:k<b.length:=by have:=HLEN.out;omega
    obtain⟨ba,oa,hqa,ya⟩:=zC0 HA.out hst k hlt;obtain⟨bb',ob,hqb,yb⟩:=zC0 HB.out hst k hltb;subst hqa;subst hqb;clear ya yb;have ea:a.take (k+1)=a.take k++[a[k]'hlt]:=List.take_succ_eq_append_getElem hlt;have eb:b.take (k+1)=b.take k++[b[k]'hltb]:=List.take_succ_eq_append_getElem hltb;have hne:a[k]'hlt≠b[k]'hltb→a≠b:=by rintro h rfl;exact h rfl
    obtain⟨x,hx⟩:∃x,a[k]'hlt=x:=⟨_,rfl⟩;obtain⟨y,hy⟩:∃y,b[k]'hltb=y:=⟨_,rfl⟩;obtain⟨c0,c1,c2,hy1⟩:=zCZ HA.out hlt hx hst;obtain⟨d0,d1,d2,hy2⟩:=zCZ HB.out hltb hy hst;rw[hx]at ea hne;rw[hy]at eb hne;have EA:=hQd (And.intro ea (And.intro eb hne));have HST:=hQd hst;clear ea eb hne hx hy hltb hst hy1 hy2;obtain⟨kx,⟨nx,dx⟩⟩:=x;obtain⟨ky,⟨ny,dy⟩⟩:=y;simp only at c0 c1 c2 d0 d1 d2
    by_cases hxy:(⟨kx,⟨nx,dx⟩⟩:HdrS)=⟨ky,⟨ny,dy⟩⟩
    ·cases hxy
     go_wp2
     go_quiet (fail)
     go_wp2;go_roundw
     case rel=>exact⟨k+1,hlt,by go_num,by rw[EA.out.1,EA.out.2.1,HEQ.out],HST.out.drewN _⟩
     case measure=>first|(simp[intOf];done)|(simp[intOf];omega)
    ·have HNE:=hQd (EA.out.2.2 hxy);have hb:=zQt _ _ _ _ _ _ hxy;clear hxy EA
     rcases hb with hb|⟨rfl,hb⟩|⟨rfl,rfl,hb⟩
     all_goals
      go_wp2
      go_quiet (fail)
      go_wp2;go_ret;exact⟨zAB (by rw[←HR.out];exact(decide_eq_false HNE.out).symm),HST.out.drewN _⟩
   ·have hke:k=a.length:=by omega
    subst hke;go_wp2;go_ret;refine⟨zAB ?_,hst⟩;have h:=HEQ.out;rw[List.take_of_length_le oM,List.take_of_length_le (by have:=HLEN.out;omega)]at h;rw[←HR.out];exact(decide_eq_true h).symm
 ·obtain⟨r,hr⟩:∃r,decide (a=b)=r:=⟨_,rfl⟩;have HR:=hQd hr;have hne:¬((a.length:Int)=(b.length:Int)):=by omega
  have HLEN:=hQd hlen;rw[hr];clear hr hlen;go_enter Tryz.func145,Tryz.ntmps145;go_wp2;go_ret;exact⟨zAB (by rw[←HR.out];exact(decide_eq_false (by rintro rfl;exact HLEN.out rfl)).symm),H.out⟩
variable {W0 w:World}{K:Know}{L:List Res}
theorem zAj(t s:Bs)(v:Value)(ht:t=s)(hs:s.length≤140737488355328)(hv:gotV (zAh s)=v)(h:St W0 w K L):
 Calls Tryz.prog 147 #[.string (bb t)] w fun en w'=>en=.returned v∧St W0 w' K L:=by
 subst ht;subst hv;exact zFM t hs h
def hdrsL (r:Except Int (List HdrS×Nat)):List HdrS:=match r with| .ok x=>x.1| .error _=>[]
def hdrsM (r:Except Int (List HdrS×Nat)):Nat:=match r with| .ok x=>x.2| .error _=>0
def hdrsE (r:Except Int (List HdrS×Nat)):Int:=match r with| .ok _=>0| .error e=>e
def zDY (acc:List HdrS) (at':Nat) (r:Except Int (List HdrS×Nat)):Except Int (List HdrS×Nat):=match r with| .ok x=> .ok (acc++x.1,at'+x.2)| .error e=> .error e
theorem zLV{n:Nat}{acc:List HdrS}{a:Nat}{s:Bs}{x:HdrS}{m:Nat}(h:zCk (s.drop a)=.ok (x,m)):zDY acc a (zBe (n+1) (s.drop a))=zDY (acc++[x]) (a+m) (zBe n (s.drop (a+m))):=by
 rw[←List.drop_drop]
 show zDY acc a (match zCk (s.drop a)with| .error e=> .error e| .ok x=>match zBe n ((s.drop a).drop x.2)with| .error e=> .error e| .ok y=> .ok (x.1::y.1,x.2+y.2))=_
 rw[h];simp only
 cases zBe n ((s.drop a).drop m)with
 |error e=>rfl
 |ok y=>simp[zDY,Nat.add_assoc]
theorem zFe{n:Nat}{acc:List HdrS}{a:Nat}{s:Bs}{e:Int}(h:zCk (s.drop a)=.error e):zDY acc a (zBe (n+1) (s.drop a))=.error e:=by
 show zDY acc a (match zCk (s.drop a)with| .error e=> .error e| .ok x=>match zBe n ((s.drop a).drop x.2)with| .error e=> .error e| .ok y=> .ok (x.1::y.1,x.2+y.2))=_
 rw[h]
 rfl
theorem zRi{l:Bs}{b c:BlobS}{m k:Nat}(h:zAh l=.ok (b,m))(hn:b.null=false)(h2:zAh (l.drop m)=.ok (c,k)):zCk l=.ok (⟨b.data,c⟩,m+k):=by unfold zCk;rw[h];simp only[hn];rw[h2];rfl
theorem zP1{l:Bs}{e:Int}(h:zAh l=.error e):zCk l=.error e:=by unfold zCk;rw[h]
theorem zRj{l:Bs}{b:BlobS}{m:Nat}(h:zAh l=.ok (b,m))(hn:b.null=true):zCk l=.error 4:=by unfold zCk;rw[h];simp only[hn];rfl
theorem zP0{l:Bs}{b:BlobS}{m:Nat}{e:Int}(h:zAh l=.ok (b,m))(hn:b.null=false)(h2:zAh (l.drop m)=.error e):zCk l=.error e:=by unfold zCk;rw[h];simp only[hn];rw[h2];rfl
theorem zCA{l:Bs}{e:Int}(h:zAh l=.error e):e≠0:=(zAt.err l 0 e (Nat.zero_le _) (by rw[List.drop_zero];exact h)).1
theorem St.emptyRow(h:St W0 w K L)(T:TypeId)(sz:Nat):St W0 (w.alloc (.cells #[] T)) K (.row (.slice (some ⟨w.heap.size,0,none⟩) 0 0) T sz 0 []::L):=h.rowLit [] T sz 0 (by simp) (Nat.zero_le _)
theorem zMC(s:Bs)(e:Int)(hv:zAF 15 5 0 0 s=.error e)(hs:s.length≤140737488355328)(h:St W0 w K L):
 Calls Tryz.prog 169 #[.string (bb s),.int .i64 32] w fun en w'=>en=.returned (.tuple #[.int .u64 0,.int .i64 0,.int .i64 e])∧St W0 w' K L:=by
 have:=zE3 s 32 5 15 4 hs dD dD dD dD dD h;rw[hv]at this;exact this
theorem zCJ(s:Bs)(u k:Nat)(hv:zAF 15 5 0 0 s=.ok (u,k))(hs:s.length≤140737488355328)(h:St W0 w K L):
 Calls Tryz.prog 169 #[.string (bb s),.int .i64 32] w fun en w'=>en=.returned (.tuple #[.int .u64 u,.int .i64 k,.int .i64 0])∧St W0 w' K L:=by
 have:=zE3 s 32 5 15 4 hs dD dD dD dD dD h;rw[hv]at this;exact this
theorem zA1(u:Nat)(n:Int)(hn:zAU u=n)(hu:u<18446744073709551616)(h:St W0 w K L):
 Calls Tryz.prog 170 #[.int .u64 u] w fun en w'=>en=.returned (.int .i64 n)∧St W0 w' K L:=by
 subst hn;exact zME u hu h
def zMj (s:Bs) (K:Know) (W0:World) (L:List Res) (en:Ending) (w':World):Prop:=∃v,en=.returned (.tuple #[v,.int .i64 (hdrsM (zAQ s)),.int .i64 (hdrsE (zAQ s))])∧St W0 w' (K.and (Know.flat RHdr v 3 (hdrsL (zAQ s)))) L
theorem zDz{s:Bs}{e:Int}(he:zAQ s=.error e)(h:St W0 w K L):zMj s K W0 L (.returned (.tuple #[.slice none 0 0,.int .i64 0,.int .i64 e])) w:=by
 unfold zMj;rw[he];exact⟨_,rfl,h.know (zIX _ _ _)⟩
theorem zQs{s:Bs}{l:List HdrS}{m:Nat}{v:Value}(he:zAQ s=.ok (l,m))(h:St W0 w K (.row v 121 3 l.length (l.flatMap hcells)::L)):zMj s K W0 L (.returned (.tuple #[v,.int .i64 m,.int .i64 0])) w:=by
 unfold zMj;rw[he];exact⟨_,rfl,h.freezeRow (fun x _=>⟨rfl,rfl⟩)⟩
theorem zq30{p:Prop}(h:p:=by
  go_wp2_with (first
    |(go_at_call 169;refine(zCJ s u k HV.out HS.out H.out).zM ?_;clear H;intro wn H)
    |(go_at_call 170;refine(zA1 u n HN.out HU.out H.out).zM ?_;clear H;intro wn H))
  go_ret3;exact zDz HE.out H.out):p:=h
theorem zq62{p:Prop}(h:p:=by rw[List.length_drop];exact Nat.le_refl _):p:=h
theorem zq60{p:Prop}(h:p:=by rw[List.take_of_length_le zq62]):p:=h
theorem zGF(s:Bs)(hs:s.length≤140737488355328)(h:St W0 w K L):
 Calls Tryz.prog 171 #[.string (bb s)] w (zMj s K W0 L):=by
 have H:=hQd h;have HS:=hQd hs;clear h
 cases hv:zAF 15 5 0 0 s with
 |error e=>
  have he:zAQ s=.error e:=by unfold zAQ zBf;rw[hv]
  have hnz:e≠0:=(zDS 15 5 0 0 s 0 e (Nat.zero_le _) (by rw[List.drop_zero];exact hv)).1;have hb:(e !=0)=true:=by rw[bne_iff_ne];exact hnz
  have HV:=hQd hv;have HE:=hQd he;clear hv he hnz;go_enter Tryz.func171,Tryz.ntmps171;go_wp2_with (go_at_call 169;refine(zMC s e HV.out HS.out H.out).zM ?_;clear H;intro wn H);go_ret3;exact zDz HE.out H.out
 |ok x=>
  obtain⟨u,k⟩:=x;obtain⟨n,hn⟩:∃n,zAU u=n:=⟨_,rfl⟩;have hgi:zBf s=.ok (n,k):=by unfold zBf;rw[hv];simp only;rw[hn]
  obtain⟨g1,g2,g3,g4,g5⟩:=zCu hgi;have hu:u<18446744073709551616:=by have h1:=g4;have h2:=g5;rw[←hn]at h1 h2;unfold zAU at h1 h2;omega
  have HV:=hQd hv;have HN:=hQd hn;have HU:=hQd hu
  have hrd:zAQ s=if n<0 then .error 4 else if ((s.length:Int) - k) / 2<n then .error 1 else zDY [] k (zBe n.toNat (s.drop k)):=by
   unfold zAQ;rw[hgi];simp only
   split
   ·rfl
   ·split
    ·rfl
    ·cases zBe n.toNat (s.drop k)<;>rfl
  clear hv hn hgi g1 hu;have ARMS:=True.intro
  by_cases h1:n<0
  ·rw[if_pos h1]at hrd;have HE:=hQd hrd;clear hrd;go_enter Tryz.func171,Tryz.ntmps171
   exact zq30
  rw[if_neg h1]at hrd
  by_cases h2:((s.length:Int) - k) / 2<n
  ·rw[if_pos h2]at hrd;have HE:=hQd hrd;clear hrd;go_enter Tryz.func171,Tryz.ntmps171
   exact zq30
  rw[if_neg h2]at hrd;have HRD:=hQd hrd;clear hrd;go_enter Tryz.func171,Tryz.ntmps171
  go_wp2_with (first
   |(go_at_call 169;refine(zCJ s u k HV.out HS.out H.out).zM ?_;clear H;intro wn H)
   |(go_at_call 170;refine(zA1 u n HN.out HU.out H.out).zM ?_;clear H;intro wn H))
  have HRW:=hQd (H.out.emptyRow 121 3);go_loopw [6,9,10] (fun av lv iv wr=>∃(i a:Nat) (acc:List HdrS),i≤n.toNat∧iv=.int .i64 i∧av=.int .i64 a∧a≤s.length∧acc.length=i∧zAQ s=zDY acc a (zBe (n.toNat - i) (s.drop a))∧St W0 wr K (.row lv 121 3 acc.length (acc.flatMap hcells)::L)) (fun _ _ iv _=>n.toNat - (intOf iv).toNat)
  case atStart=>exact⟨0,k,[],Nat.zero_le _,rfl,rfl,g3,rfl,HRD.out,HRW.out⟩
  case round=>
   obtain⟨i,a,acc,hi,rfl,rfl,ha,hacc,hrel,hst⟩:=hrel;have HACC:=hQd hacc;have HREL:=hQd hrel;have HST:=hQd hst;clear hacc hrel hst
   by_cases hlt:(i:Int)<n
   ·obtain⟨q,hq⟩:∃q,n.toNat - i=q+1:=⟨n.toNat - (i+1),oM⟩;have hq2:n.toNat - (i+1)=q:=by omega
    rw[hq]at HREL;have HQ2:=hQd hq2;clear hq hq2;have tok1:True:=trivial;have H:=HST;clear HST
    cases hv1:zAh (s.drop a)with
    |error e1=>
     have hnz:=zCA hv1;have hb:(e1 !=0)=true:=by rw[bne_iff_ne];exact hnz
     have HE:=hQd (show zAQ s=.error e1 by rw[HREL.out,zFe (zP1 hv1)]);have HG:=hQd (show gotV (zAh (s.drop a))=.agg #[.bool false,.string (bb []),.int .i64 0,.int .i64 e1] by rw[hv1];rfl);have HSD:=hQd (show(s.drop a).length≤140737488355328 by rw[List.length_drop];omega);clear hv1 hnz;go_wp2_with (go_at_call 147;have _t:=tok1;clear _t;(with_reducible refine(zAj _ (s.drop a) _ zq60 HSD.out HG.out H.out).mono ?_);rintro e wn ⟨rfl,h⟩;replace H:=hQd h;clear h tok1)
     go_quiet (fail)
     go_wp2;go_ret3;exact zDz HE.out ((H.out.drop.alloc _).drewN _)
    |ok x1=>
     obtain⟨b,m1⟩:=x1;obtain⟨_,o2,o3,_⟩:=zAN hv1;rw[List.length_drop]at o3;have hm1:a+m1≤s.length:=by omega
     have HG1:=hQd (show gotV (zAh (s.drop a))=.agg #[.bool b.null,.string (bb b.data),.int .i64 m1,.int .i64 0] by rw[hv1];rfl);have HSD:=hQd (show(s.drop a).length≤140737488355328 by rw[List.length_drop];omega)
     cases hbn:b.null
     ·have HB:=hQd hbn
      cases hv2:zAh (s.drop (a+m1))with
      |error e2=>
       have hnz:=zCA hv2;have hb:(e2 !=0)=true:=by rw[bne_iff_ne];exact hnz
       have HE:=hQd (show zAQ s=.error e2 by rw[HREL.out,zFe (zP0 hv1 hbn (by rw[List.drop_drop];exact hv2))]);have HG2:=hQd (show gotV (zAh (s.drop (a+m1)))=.agg #[.bool false,.string (bb []),.int .i64 0,.int .i64 e2] by rw[hv2];rfl);have HSD2:=hQd (show(s.drop (a+m1)).length≤140737488355328 by rw[List.length_drop];omega);rw[hbn]at HG1;clear hv1 hv2 hnz hbn o2 o3
       go_wp2_with (first
        |(go_at_call 147;have _t:=tok1;clear _t;(with_reducible refine(zAj _ (s.drop a) _ zq60 HSD.out HG1.out H.out).mono ?_);rintro e wn ⟨rfl,h⟩;replace H:=hQd h;clear h tok1;have tok2:True:=trivial)
        |(go_at_call 147;have _t:=tok2;clear _t;(with_reducible refine(zAj _ (s.drop (a+m1)) _ zq60 HSD2.out HG2.out (H.out.allocRaw #[.bool false,.string (bb b.data),.int .i64 m1,.int .i64 0] 102)).mono ?_);rintro e wn ⟨rfl,h⟩;replace H:=hQd h;clear h tok2))
       go_quiet (fail)
       go_wp2;go_ret3;exact zDz HE.out ((H.out.drop.drop.alloc _).drewN _)
      |ok x2=>
       obtain⟨c,m2⟩:=x2;obtain⟨_,p2,p3,_⟩:=zAN hv2;rw[List.length_drop]at p3;have hm2:a+m1+m2≤s.length:=by omega
       have hh:zCk (s.drop a)=.ok (⟨b.data,c⟩,m1+m2):=zRi hv1 hbn (by rw[List.drop_drop];exact hv2);have HNX:=hQd (show zAQ s=zDY (acc++[⟨b.data,c⟩]) (a+m1+m2) (zBe (n.toNat - (i+1)) (s.drop (a+m1+m2))) by rw[HREL.out,zLV hh,HQ2.out,Nat.add_assoc]);have HG2:=hQd (show gotV (zAh (s.drop (a+m1)))=.agg #[.bool c.null,.string (bb c.data),.int .i64 m2,.int .i64 0] by rw[hv2];rfl);have HSD2:=hQd (show(s.drop (a+m1)).length≤140737488355328 by rw[List.length_drop];omega);have HI:=hQd (show i≤2147483648 by omega);rw[hbn]at HG1;clear hv1 hv2 hbn o2 o3 p2 p3 hh
       go_wp2_with (first
        |(go_at_call 147;have _t:=tok1;clear _t;(with_reducible refine(zAj _ (s.drop a) _ zq60 HSD.out HG1.out H.out).mono ?_);rintro e wn ⟨rfl,h⟩;replace H:=hQd h;clear h tok1;have tok2:True:=trivial)
        |(go_at_call 147;have _t:=tok2;clear _t;(with_reducible refine(zAj _ (s.drop (a+m1)) _ zq60 HSD2.out HG2.out (H.out.allocRaw #[.bool false,.string (bb b.data),.int .i64 m1,.int .i64 0] 102)).mono ?_);rintro e wn ⟨rfl,h⟩;replace H:=hQd h;clear h tok2;have H2:=hQd (H.out.allocRaw #[.bool c.null,.string (bb c.data),.int .i64 m2,.int .i64 0] 102);obtain⟨y0,y1,y2,y3⟩:=uR4 H2.out.p1;simp at y0 y1 y2 y3;obtain⟨x0,x1,x2,x3⟩:=uR4 H.out;simp at x0 x1 x2 x3)
        |(at_builtin;refine zAw rfl _ _ 117 rfl 121 Tryz.underlying117 zMV _ _ _ rfl H2.out.p2 [.string (bb b.data),.bool c.null,.string (bb c.data)] 121 (by rw[World.size_alloc];rfl) rfl (by simp[Value.oneCell']) (by have:=HACC.out;have:=HI.out;unfold maxLen;omega) (by have:=HACC.out;have:=HI.out;omega) ?_;intro v' w' h;replace H:=hQd h;clear h;obtain⟨u0,u1,u2,u3⟩:=uR4 H.out.p1;simp at u0 u1 u2 u3;obtain⟨v0,v1,v2,v3⟩:=uR4 H.out.p2;simp at v0 v1 v2 v3))
       go_roundw
       case rel=>
        refine⟨i+1,a+m1+m2,acc++[⟨b.data,c⟩],oM,by go_num,by go_num,hm2,by simp[HACC.out],HNX.out,?_⟩;refine H.out.p1.drop.p1.drop.cast ?_;simp[hcells]
       case measure=>first|(simp[intOf];done)|(simp[intOf];omega)
     ·have HE:=hQd (show zAQ s=.error 4 by rw[HREL.out,zFe (zRj hv1 hbn)]);rw[hbn]at HG1;clear hv1 hbn o2 o3;go_wp2_with (go_at_call 147;have _t:=tok1;clear _t;(with_reducible refine(zAj _ (s.drop a) _ zq60 HSD.out HG1.out H.out).mono ?_);rintro e wn ⟨rfl,h⟩;replace H:=hQd h;clear h tok1);go_ret3;exact zDz HE.out (H.out.drop.alloc _)
   ·have hin:i=n.toNat:=by omega
    have h0:n.toNat - i=0:=by omega
    have hfin:zAQ s=.ok (acc,a):=by rw[HREL.out,h0];simp[zBe,zDY]
    have HFIN:=hQd hfin;clear hfin h0 hin;go_wp2;go_ret3;exact zQs HFIN.out HST.out
structure RecS where
 time:Int
 off:Int
 key:BlobS
 val:BlobS
 hdrs:List HdrS
deriving DecidableEq
def RecS.zero:RecS:=⟨0,0,⟨false,[]⟩,⟨false,[]⟩,[]⟩
def RecS.R (x:RecS):Prop:=(-9223372036854775808≤x.time∧x.time<9223372036854775808)∧(-9223372036854775808≤x.off∧x.off<9223372036854775808)
def RecS.sum (x:RecS):Nat:=x.key.data.length+x.val.data.length+hsum x.hdrs
def RecS.allRight (x:RecS):Bool:=x.key.right && x.val.right && zBP x.hdrs
def zBc (x:RecS):Int:=if x.off<0∨2147483647<x.off then 11 else if x.allRight then 0 else 4
def recF (x:RecS):Bs:=[0]++(encI x.time++(encI x.off++(encV x.key++(encV x.val++zDo x.hdrs))))
def encR (x:RecS):Bs:=encV ⟨false,recF x⟩
def OutS.putRec (o:OutS) (x:RecS):OutS:=if zBc x=0 then o.put (encR x)else o.fail (zBc x)
theorem zD9(n:Int)(h: -9223372036854775808≤n∧n<9223372036854775808):(encI n).length≤10:=zCl _ (zCp h.1 h.2)
theorem zE7(x:RecS)(hx:x.R)(hs:x.sum≤1000000):(recF x).length≤32*x.sum+100:=by
 unfold RecS.sum at*;have h0:=zCQ x.hdrs;have h1:=zD9 x.time hx.1;have h2:=zD9 x.off hx.2;have h3:=zCS x.key oM;have h4:=zCS x.val oM;have h5:=zF1 x.hdrs oM;have h6:=zD9 x.hdrs.length oM;unfold recF zDo;simp only[List.length_append,List.length_cons,List.length_nil]
 omega
theorem zHR{x:RecS}(h:zBc x=0):(0≤x.off∧x.off≤2147483647)∧x.allRight=true:=by
 unfold zBc at h
 split at h
 ·cases h
 ·split at h
  ·exact⟨oM,by assumption⟩
  ·cases h
def zAK (s:Bs):Except Int RecS:=
  match zAI 1 s with
  | .error e=> .error e
  | .ok a=>if a.1=0 then match zCg (s.drop 1)with
      | .error e=> .error e
      | .ok t=>match zBf (s.drop (1+t.2))with
        | .error e=> .error e
        | .ok o=>if o.1<0 then .error 11 else match zAh (s.drop (1+t.2+o.2))with
          | .error e=> .error e
          | .ok k=>match zAh (s.drop (1+t.2+o.2+k.2))with
            | .error e=> .error e
            | .ok v=>match zAQ (s.drop (1+t.2+o.2+k.2+v.2))with
              | .error e=> .error e
              | .ok h=>if 1+t.2+o.2+k.2+v.2+h.2=s.length then .ok ⟨t.1,o.1,k.1,v.1,h.1⟩else .error 2
    else .error 8
def InS.recTail (i:InS) (t o:Int):RecS×InS:=(⟨t,o,i.varied.1,i.varied.2.varied.1,i.varied.2.varied.2.hdrs.1⟩,i.varied.2.varied.2.hdrs.2)
def InS.recOff (i:InS) (t:Int):RecS×InS:=(if i.vint.1<0 then i.vint.2.fail 11 else i.vint.2).recTail t i.vint.1
def InS.recTime (i:InS):RecS×InS:=i.vlong.2.recOff i.vlong.1
def InS.recFields (i:InS):RecS×InS:=(if (i.int 1).1=0 then(i.int 1).2 else(i.int 1).2.fail 8).recTime
theorem zEU{i:InS}(h:i.err≠0)(t o:Int):(i.recTail t o).2=i:=by
 unfold InS.recTail;rw[zAt.stuck i h];simp only;rw[zAt.stuck i h];simp only;rw[zDN.stuck i h]
theorem zKs{i:InS}(h:i.err≠0)(t:Int):(i.recOff t).2=i:=by
 unfold InS.recOff;rw[zDv.stuck i h];simp only;rw[if_neg dD,zEU h]
theorem zHL{i:InS}(h:i.err≠0):(i.recTime).2=i:=by
 unfold InS.recTime;rw[zFV.stuck i h,zKs h]
theorem InS.fail_stuck0{i:InS}(h:i.err≠0)(e:Int):i.fail e=i:=if_neg h
theorem zCd{s:Bs}{q:Nat}{e:Int}(h:e≠0):(⟨s,q,e⟩:InS).close.err=e:=by
 unfold InS.close
 split
 ·rw[InS.fail_stuck0 (show(⟨s,q,e⟩:InS).err≠0 from h)]
 ·rfl
theorem InS.fail_stuck{i:InS}(h:i.err≠0)(e:Int):i.fail e=i:=if_neg h
def recD (s:Bs):RecS×InS:=(⟨s,0,0⟩:InS).recFields
theorem zMM(s:Bs):(∀x,zAK s=.ok x→recD s=(x,⟨s,s.length,0⟩))∧(∀e,zAK s=.error e→e≠0∧(recD s).2.close.err=e):=by
 unfold zAK recD InS.recFields;have hi:=zBl 1 dD dD
 cases h0:zAI 1 s with
 |error e0=>
  obtain⟨g1,q,g2,g3⟩:=hi.err s 0 e0 (Nat.zero_le _) (by rw[List.drop_zero];exact h0);have g3:(⟨s,0,0⟩:InS).int 1=(0,⟨s,q,e0⟩):=g3;refine⟨fun x h=>(by cases h),fun e h=> ?_⟩
  cases h
  rw[g3];simp only[if_true];rw[zHL (show(⟨s,q,e0⟩:InS).err≠0 from g1)];exact⟨g1,zCd g1⟩
 |ok a=>
  obtain⟨g1,g3⟩:=hi.ok s 0 a.1 a.2 (Nat.zero_le _) (by rw[List.drop_zero];exact h0);have g3:(⟨s,0,0⟩:InS).int 1=(a.1,⟨s,0+a.2,0⟩):=g3
  have ha2:a.2=1:=by
   unfold zAI at h0
   split at h0
   ·cases h0
   ·cases h0;rfl
  rw[Nat.zero_add,ha2]at g3 g1;rw[g3];simp only
  by_cases ha:a.1=0
  ·rw[if_pos ha,if_pos ha];unfold InS.recTime
   cases h1:zCg (s.drop 1)with
   |error e1=>
    obtain⟨k1,q,k2,k3⟩:=zFV.err s 1 e1 g1 h1;refine⟨fun x h=>(by cases h),fun e h=> ?_⟩
    cases h
    rw[k3];simp only;rw[zKs (show(⟨s,q,e1⟩:InS).err≠0 from k1)];exact⟨k1,zCd k1⟩
   |ok t=>
    obtain⟨k1,k3⟩:=zFV.ok s 1 t.1 t.2 g1 h1;rw[k3];simp only;unfold InS.recOff
    cases h2:zBf (s.drop (1+t.2))with
    |error e2=>
     obtain⟨m1,q,m2,m3⟩:=zDv.err s (1+t.2) e2 k1 h2;refine⟨fun x h=>(by cases h),fun e h=> ?_⟩
     cases h
     rw[m3];simp only;rw[if_neg dD,zEU (show(⟨s,q,e2⟩:InS).err≠0 from m1)];exact⟨m1,zCd m1⟩
    |ok o=>
     obtain⟨m1,m3⟩:=zDv.ok s (1+t.2) o.1 o.2 k1 h2;rw[m3];simp only
     by_cases ho:o.1<0
     ·rw[if_pos ho,if_pos ho];refine⟨fun x h=>(by cases h),fun e h=> ?_⟩
      cases h
      rw[InS.fail_ok0',zEU (show(11:Int)≠0 by decide)];exact⟨dD,zCd dD⟩
     ·rw[if_neg ho,if_neg ho];unfold InS.recTail
      cases h3:zAh (s.drop (1+t.2+o.2))with
      |error e3=>
       obtain⟨n1,q,n2,n3⟩:=zAt.err s _ e3 m1 h3;refine⟨fun x h=>(by cases h),fun e h=> ?_⟩
       cases h
       rw[n3];simp only;have n1':(⟨s,q,e3⟩:InS).err≠0:=n1;rw[zAt.stuck _ n1'];simp only;rw[zDN.stuck _ n1'];exact⟨n1,zCd n1⟩
      |ok k=>
       obtain⟨n1,n3⟩:=zAt.ok s _ k.1 k.2 m1 h3;rw[n3];simp only
       cases h4:zAh (s.drop (1+t.2+o.2+k.2))with
       |error e4=>
        obtain⟨p1,q,p2,p3⟩:=zAt.err s _ e4 n1 h4;refine⟨fun x h=>(by cases h),fun e h=> ?_⟩
        cases h
        rw[p3];simp only;have p1':(⟨s,q,e4⟩:InS).err≠0:=p1;rw[zDN.stuck _ p1'];exact⟨p1,zCd p1⟩
       |ok v=>
        obtain⟨p1,p3⟩:=zAt.ok s _ v.1 v.2 n1 h4;rw[p3];simp only
        cases h5:zAQ (s.drop (1+t.2+o.2+k.2+v.2))with
        |error e5=>
         obtain⟨r1,q,r2,r3⟩:=zDN.err s _ e5 p1 h5;refine⟨fun x h=>(by cases h),fun e h=> ?_⟩
         cases h
         rw[r3];exact⟨r1,zCd r1⟩
        |ok h=>
         obtain⟨r1,r3⟩:=zDN.ok s _ h.1 h.2 p1 h5;rw[r3];simp only
         by_cases hE:1+t.2+o.2+k.2+v.2+h.2=s.length
         ·rw[if_pos hE,hE];refine⟨fun x hh=>(by cases hh;rfl),fun e hh=>(by cases hh)⟩
         ·rw[if_neg hE];refine⟨fun x hh=>(by cases hh),fun e hh=> ?_⟩
          cases hh
          refine⟨dD,?_⟩;unfold InS.close;rw[if_pos (by simp only[InS.left];omega)]
          rfl
  ·rw[if_neg ha,if_neg ha];refine⟨fun x h=>(by cases h),fun e h=> ?_⟩
   cases h
   rw[InS.fail_ok0',zHL (show(8:Int)≠0 by decide)];exact⟨dD,zCd dD⟩
def zCj (l:Bs):Except Int (RecS×Nat):=match zAh l with
  | .error e=> .error e
  | .ok b=>if b.1.null then .error 4 else match zAK b.1.data with
    | .error e=> .error e
    | .ok x=> .ok (x,b.2)
def InS.recJ (i:InS):InS:=if (recD i.name.1).2.close.err=0 then i.name.2 else i.name.2.fail (recD i.name.1).2.close.err
def InS.record (i:InS):RecS×InS:=if i.recJ.err=0 then((recD i.name.1).1,i.recJ)else(RecS.zero,i.recJ)
theorem zDu:Rds InS.record zCj RecS.zero:=by
 refine⟨?_,?_,?_⟩
 ·intro s pos a k hp h;unfold zCj at h
  cases h1:zAh (s.drop pos)with
  |error e=>rw[h1]at h;cases h
  |ok b=>
   rw[h1]at h;obtain⟨g1,g2⟩:=zAt.ok s pos b.1 b.2 hp h1
   cases hn:b.1.null
   ·simp only[hn]at h
    cases h2:zAK b.1.data with
    |error e=>rw[h2]at h;cases h
    |ok x=>
     rw[h2]at h
     cases h
     have hi:=(zMM b.1.data).1 _ h2;refine⟨g1,?_⟩
     have hnm:(⟨s,pos,0⟩:InS).name=(b.1.data,⟨s,pos+b.2,0⟩):=by
      unfold InS.name InS.bytes;rw[g2];simp only[hn]
      rfl
     have hc:(⟨b.1.data,b.1.data.length,0⟩:InS).close.err=0:=by unfold InS.close;rw[if_neg (by simp only[InS.left];omega)]
     unfold InS.record InS.recJ;rw[hnm];simp only[hi,hc,if_true]
   ·simp[hn]at h
 ·intro s pos e hp h;unfold zCj at h
  cases h1:zAh (s.drop pos)with
  |error e1=>
   rw[h1]at h
   cases h
   obtain⟨g1,q,g2,g3⟩:=zAt.err s pos e hp h1;refine⟨g1,q,g2,?_⟩
   have hnm:(⟨s,pos,0⟩:InS).name=([],⟨s,q,e⟩):=by
    unfold InS.name InS.bytes;rw[g3]
    rfl
   unfold InS.record InS.recJ;rw[hnm];simp only[InS.fail_stuck (show(⟨s,q,e⟩:InS).err≠0 from g1),ite_self];rw[if_neg g1]
  |ok b=>
   rw[h1]at h;obtain⟨g1,g2⟩:=zAt.ok s pos b.1 b.2 hp h1
   cases hn:b.1.null
   ·simp only[hn]at h
    cases h2:zAK b.1.data with
    |error e2=>
     rw[h2]at h
     cases h
     obtain⟨k1,k2⟩:=(zMM b.1.data).2 _ h2;refine⟨k1,pos+b.2,g1,?_⟩
     have hnm:(⟨s,pos,0⟩:InS).name=(b.1.data,⟨s,pos+b.2,0⟩):=by
      unfold InS.name InS.bytes;rw[g2];simp only[hn]
      rfl
     unfold InS.record InS.recJ;rw[hnm];simp only[k2];rw[if_neg k1,InS.fail_ok0',if_neg k1]
    |ok x=>rw[h2]at h;cases h
   ·simp[hn]at h;subst h;refine⟨dD,pos+b.2,g1,?_⟩
    have hnm:(⟨s,pos,0⟩:InS).name=(b.1.data,⟨s,pos+b.2,4⟩):=by
     unfold InS.name InS.bytes;rw[g2];simp only[hn]
     rfl
    unfold InS.record InS.recJ;rw[hnm];simp only[InS.fail_stuck (show(⟨s,pos+b.2,4⟩:InS).err≠0 from(show(4:Int)≠0 by decide)),ite_self];rw[if_neg (show ¬(4:Int)=0 by decide)]
 ·intro i hi;unfold InS.record InS.recJ;rw[zFa hi];simp only[InS.fail_stuck hi,ite_self];rw[if_neg hi]
end Go.Proofs.YtnnnglklgofabaaGreat
