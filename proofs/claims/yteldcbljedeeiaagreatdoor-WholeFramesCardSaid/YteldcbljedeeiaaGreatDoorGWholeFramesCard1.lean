/- A text. -/
import Derived.WalkKit
import Derived.WalkSpells
import Derived.WalkLawsBesides
import Derived.BigQuiet
import Derived.Deep.QuietTactic
import Derived.Lib.Hide
import Derived.Test.YteldcbljedeeiaaGreatDoorRows
import Derived.Lib.AppendStr
import Derived.ProofKit
import Derived.SizedLaws
import Derived.Carry
import Derived.Deep.Slices
/- A text. -/
namespace Go.Proofs.YteldcbljedeeiaaGreatDoor
open Go.RowKit
set_option maxRecDepth 100000
set_option maxHeartbeats 8000000
open Go.Value renaming bool→U, string→Z, slice→V, int→I, pointer→Ja
open Go.Ending renaming returned→Y
open Go.IntKind renaming i64→O
open _root_.Go.Proofs.Tryz renaming prog→Jb
open _root_.Nat renaming zero_le→Jd, add_assoc→Jm
open _root_.List renaming take_succ_eq_append_getElem→Jf, length_cons→Jn, length_append→Jc, append_nil→Jp, length_drop→Jh, drop_drop→Jk, append_assoc→Je, flatMap_cons→Jg, getElem_mem→Ji, length_map→Jj, take→Jl, drop→Jo
abbrev Bs:=List UInt8
def bb (l:Bs):ByteArray:=⟨l.toArray⟩
@[simp] theorem bb_size (l:Bs):(bb l).size=l.length:=rfl
@[simp] theorem bb_extract (l:Bs) (a b:Nat):(bb l).extract a b=bb ((l.drop a).take (b - a)):=by
 apply ByteArray.ext
 simp[bb,List.extract_eq_take_drop]
@[simp] theorem zLz (a b:Bs):bb a++bb b=bb (a++b):=by
 apply ByteArray.ext
 simp[bb]
@[simp] theorem bb_toList (l:Bs):(bb l).toList=l:=by rw[ByteArray.toList_eq];rfl
@[simp] theorem bb_data (l:Bs):(bb l).data=l.toArray:=rfl
@[simp] theorem bb_get (l:Bs) (i:Nat) (h:i<(bb l).size):(bb l)[i]=l[i]'h:=rfl
@[simp] theorem bb_inj (a b:Bs):bb a=bb b↔a=b:=by
 constructor
 ·intro h;have:=congrArg (·.data.toList) h;simpa [bb]using this
 ·rintro rfl;rfl
structure Keeps (M:Nat→Prop) (w w':World):Prop where
 os:w'.os=w.os
 tape:w'.tape=w.tape
 output:w'.output=w.output
 size:w.heap.size≤w'.heap.size
 block:∀k,k<w.heap.size→¬M k→w'.heap[k]? =w.heap[k]?
theorem Keeps.refl(M:Nat→Prop)(w:World):Keeps M w w:=⟨rfl,rfl,rfl,Nat.le_refl _,fun _ _ _=>rfl⟩
theorem Keeps.trans{M:Nat→Prop}{a b c:World}(h:Keeps M a b)(k:Keeps M b c):Keeps M a c:=
 ⟨k.os.trans h.os,k.tape.trans h.tape,k.output.trans h.output,Nat.le_trans h.size k.size,
  fun i hi hm=>(k.block i (Nat.lt_of_lt_of_le hi h.size) hm).trans (h.block i hi hm)⟩
theorem Keeps.seq{M M':Nat→Prop}{a b c:World}(h:Keeps M a b)(k:Keeps M' b c)(hm:∀i,i<a.heap.size→M' i→M i):Keeps M a c:=
 ⟨k.os.trans h.os,k.tape.trans h.tape,k.output.trans h.output,Nat.le_trans h.size k.size,
  fun i hi hn=>(k.block i (Nat.lt_of_lt_of_le hi h.size) (fun x=>hn (hm i hi x))).trans (h.block i hi hn)⟩
theorem Keeps.mono{M M':Nat→Prop}{a b:World}(h:Keeps M a b)(hm:∀k,k<a.heap.size→M k→M' k):Keeps M' a b:=
 ⟨h.os,h.tape,h.output,h.size,fun i hi hn=>h.block i hi (fun hh=>hn (hm i hi hh))⟩
theorem Keeps.drewN{M:Nat→Prop}{a w:World}(h:Keeps M a w)(n:Nat):Keeps M a (w.drewN n):=⟨h.os,h.tape,h.output,h.size,h.block⟩
theorem Keeps.drew{M:Nat→Prop}{a w:World}(h:Keeps M a w):Keeps M a w.drew:=⟨h.os,h.tape,h.output,h.size,h.block⟩
theorem Keeps.alloc{M:Nat→Prop}{a w:World}(h:Keeps M a w)(o:Obj):Keeps M a (w.alloc o):=
 ⟨h.os,h.tape,h.output,by have:=h.size;simp;omega,fun k hk hn=>(Below.heap_alloc w o k (Nat.lt_of_lt_of_le hk h.size)).trans (h.block k hk hn)⟩
theorem Keeps.setCell{M:Nat→Prop}{a w:World}(h:Keeps M a w)(p:Addr)(u:Value)(hp:M p.block∨a.heap.size≤p.block):Keeps M a (w.setCell p u):=
 ⟨h.os,h.tape,h.output,by have:=h.size;simp[World.setCell];omega,fun k hk hn=>by
  rw[Below.heap_setCell _ _ _ _ (by rintro rfl;rcases hp with hp|hp;exact hn hp;omega)]
  exact h.block k hk hn⟩
theorem Keeps.below{M:Nat→Prop}{a b:World}(h:Keeps M a b){B:Nat}(hB:B≤a.heap.size)(hM:∀k,M k→B≤k):Below B a b:=
 ⟨h.os,h.tape,h.output,h.size,fun k hk=>h.block k (by omega) (fun hm=>by have:=hM k hm;omega)⟩
theorem Keeps.cell{M:Nat→Prop}{w w':World}(h:Keeps M w w')(k:Nat)(o:Nat)(hk:k<w.heap.size)(hm:¬M k):w'.cell? ⟨k,o,none⟩=w.cell? ⟨k,o,none⟩:=
 World.cell?_of_block (w:=w) (a:=⟨k,o,none⟩) (h.block k hk hm)
theorem Keeps.frozen{M:Nat→Prop}{w w':World}(h:Keeps M w w')(k:Nat)(o:Nat)(hk:k<w.heap.size)(hm:¬M k):w'.frozen? ⟨k,o,none⟩=w.frozen? ⟨k,o,none⟩:=
 World.frozen?_of_block (w:=w) (a:=⟨k,o,none⟩) (h.block k hk hm)
theorem _root_.Go.RowKit.Below.k{a w w':World}{M:Nat→Prop}(h:Below a.heap.size a w)(k:Keeps M w w')(hM:∀i,M i→a.heap.size≤i):Below a.heap.size a w':=
 h.trans (k.below h.size hM)
theorem _root_.Go.RowKit.Below.a{a w:World}(h:Below a.heap.size a w)(o:Obj):Below a.heap.size a (w.alloc o):=h.alloc h.size o
theorem zAV{w:World}{b o:Nat}{c:Array Value}{T:TypeId}{fz:Nat×Nat}(h:w.heap[b]? =some (.cells c T fz))(v:Value):
 (w.setCell ⟨b,o,none⟩ v).heap[b]? =some (.cells (c.setIfInBounds o v) T fz):=by
 simp only[World.setCell,Array.getElem?_modify,h]
 simp
theorem zAK{w:World}{b:Nat}{c:Array Value}{T:TypeId}{fz:Nat×Nat}(h:w.heap[b]? =some (.cells c T fz))(o:Nat):
 w.cell? ⟨b,o,none⟩=c[o]? :=by simp[World.cell?,h]
theorem zCV{w:World}{b:Nat}{c:Array Value}{T:TypeId}(h:w.heap[b]? =some (.cells c T (0,0)))(o:Nat):
 w.frozen? ⟨b,o,none⟩=false:=by simp[World.frozen?,h]
theorem zBi{w:World}{b:Nat}{o:Obj}(h:w.heap[b]? =some o):b<w.heap.size:=(Array.getElem?_eq_some_iff.1 h).1
theorem zGf{k:IntKind}{a b:Int}(h:a=b):Ending.returned (.int k a)=Y (.int k b):=by rw[h]
theorem zRA{a b:ByteArray}(h:a=b):Ending.returned (Z a)=Y (Z b):=by rw[h]
theorem zAo{a b:Bool}(h:a=b):Ending.returned (U a)=Y (U b):=by rw[h]
theorem zOT{P:Program}(w:World)(src dst e:TypeId)(s:Bs)(hs:P.underlying src=some .string)(hd:P.underlying dst=some (.slice e))(he:P.underlying e=some (.int .u8)):
 ∃C cap,(∀j (h:j<s.length),C[j]? =some (.int .u8 (s[j].toNat:Int)))∧
  (convert src dst (Z (bb s))).run P w=.ok (V (some ⟨w.heap.size,0,none⟩) s.length cap) (w.drew.alloc (.cells C e (C.size,C.size+1))):=by
 refine⟨_,_,?_,run_bytes_of_string w src dst e (bb s) hs hd he⟩;intro j h;exact bytesRow_at (bb s) _ j (by simpa using h)
theorem zAp(n:Nat)(z:Int):(BitVec.ofInt n z).toNat=(z % (2 ^ n:Nat)).toNat:=by
 simp[BitVec.toNat_ofInt]
theorem zM2(x y:Int):bits .or .i64 x y=IntKind.i64.wrap (((x % 18446744073709551616).toNat|||(y % 18446744073709551616).toNat:Nat):Int):=by
 show IntKind.i64.wrap ((BitVec.ofInt 64 x|||BitVec.ofInt 64 y).toNat:Int)=_
 rw[BitVec.toNat_or,zAp,zAp];rfl
theorem zM1(x y:Int):bits .or .u64 x y=IntKind.u64.wrap (((x % 18446744073709551616).toNat|||(y % 18446744073709551616).toNat:Nat):Int):=by
 show IntKind.u64.wrap ((BitVec.ofInt 64 x|||BitVec.ofInt 64 y).toNat:Int)=_
 rw[BitVec.toNat_or,zAp,zAp];rfl
theorem zLw(x y:Int):bits .and .i64 x y=IntKind.i64.wrap (((x % 18446744073709551616).toNat &&& (y % 18446744073709551616).toNat:Nat):Int):=by
 show IntKind.i64.wrap ((BitVec.ofInt 64 x &&& BitVec.ofInt 64 y).toNat:Int)=_
 rw[BitVec.toNat_and,zAp,zAp];rfl
theorem zLu(x y:Int):bits .and .u64 x y=IntKind.u64.wrap (((x % 18446744073709551616).toNat &&& (y % 18446744073709551616).toNat:Nat):Int):=by
 show IntKind.u64.wrap ((BitVec.ofInt 64 x &&& BitVec.ofInt 64 y).toNat:Int)=_
 rw[BitVec.toNat_and,zAp,zAp];rfl
theorem zLv(x y:Int):bits .and .u32 x y=IntKind.u32.wrap (((x % 4294967296).toNat &&& (y % 4294967296).toNat:Nat):Int):=by
 show IntKind.u32.wrap ((BitVec.ofInt 32 x &&& BitVec.ofInt 32 y).toNat:Int)=_
 rw[BitVec.toNat_and,zAp,zAp];rfl
theorem zLt(x y:Int):bits .xor .i64 x y=IntKind.i64.wrap (((x % 18446744073709551616).toNat ^^^ (y % 18446744073709551616).toNat:Nat):Int):=by
 show IntKind.i64.wrap ((BitVec.ofInt 64 x ^^^ BitVec.ofInt 64 y).toNat:Int)=_
 rw[BitVec.toNat_xor,zAp,zAp];rfl
theorem zLr(x y:Int):bits .xor .u64 x y=IntKind.u64.wrap (((x % 18446744073709551616).toNat ^^^ (y % 18446744073709551616).toNat:Nat):Int):=by
 show IntKind.u64.wrap ((BitVec.ofInt 64 x ^^^ BitVec.ofInt 64 y).toNat:Int)=_
 rw[BitVec.toNat_xor,zAp,zAp];rfl
theorem zLs(x y:Int):bits .xor .u32 x y=IntKind.u32.wrap (((x % 4294967296).toNat ^^^ (y % 4294967296).toNat:Nat):Int):=by
 show IntKind.u32.wrap ((BitVec.ofInt 32 x ^^^ BitVec.ofInt 32 y).toNat:Int)=_
 rw[BitVec.toNat_xor,zAp,zAp];rfl
theorem zM0(x y:Int):bits .xor .u8 x y=IntKind.u8.wrap (((x % 256).toNat ^^^ (y % 256).toNat:Nat):Int):=by
 show IntKind.u8.wrap ((BitVec.ofInt 8 x ^^^ BitVec.ofInt 8 y).toNat:Int)=_
 rw[BitVec.toNat_xor,zAp,zAp];rfl
theorem or_low(x y:Int)(h0:0≤y)(h1:y<256):bits .or .i64 (wrap64 (x*256)) y=wrap64 (x*256+y):=by
 have hd:((x*256) % 18446744073709551616)=256*((x*256) % 18446744073709551616 / 256):=by omega
 obtain⟨q,hq⟩:∃q:Nat,(x*256) % 18446744073709551616=256*(q:Int):=⟨((x*256) % 18446744073709551616 / 256).toNat,by omega⟩;obtain⟨m,rfl⟩:∃m:Nat,y=m:=⟨y.toNat,by omega⟩;have e1:(wrap64 (x*256)) % 18446744073709551616=((256*q:Nat):Int):=by simp only[wrap64];omega
 have e2:(m:Int) % 18446744073709551616=(m:Int):=by omega
 have hor:256*q|||m=256*q+m:=(Nat.two_pow_add_eq_or_of_lt (i:=8) (by omega) q).symm;rw[zM2,e1,e2,Int.toNat_natCast,Int.toNat_natCast,hor,IntKind.wrap_i64];simp only[wrap64]
 omega
set_option maxHeartbeats 8000000
set_option maxRecDepth 100000
theorem hQd {p:Prop}(h:p):Hid p:=Lib.hid h
structure InS where
 s:Bs
 pos:Nat
 err:Int
deriving DecidableEq
def InS.ok (i:InS):Prop:=i.pos≤i.s.length∧i.s.length≤140737488355328
def InS.fail (i:InS) (e:Int):InS:=if i.err=0 then {i with err:=e} else i
def InS.left (i:InS):Nat:=i.s.length - i.pos
def IsIn (w:World) (b:Nat) (i:InS):Prop:=
 w.heap[b]? =some (.cells #[Z (bb i.s),I O i.pos,I O i.err] 138 (0,0))∧i.ok
theorem IsIn.keeps{w w':World}{b:Nat}{i:InS}{M:Nat→Prop}(h:IsIn w b i)(k:Keeps M w w')(hm:¬M b):IsIn w' b i:=
 ⟨(k.block b (zBi h.1) hm).trans h.1,h.2⟩
theorem IsIn.drewN{w:World}{b:Nat}{i:InS}(h:IsIn w b i)(n:Nat):IsIn (w.drewN n) b i:=h
theorem IsIn.lt{w:World}{b:Nat}{i:InS}(h:IsIn w b i):b<w.heap.size:=zBi h.1
abbrev zAe (b:Nat):Value:=Ja (some ⟨b,0,none⟩)
theorem zCf(b:Nat)(i:InS)(e:Int)(w:World)(h:IsIn w b i):
 Calls Jb 70 #[zAe b,I O e] w fun en w'=>en=Y (.tuple #[])∧IsIn w' b (i.fail e)∧Keeps (· =b) w w':=by
 obtain⟨s,p,err⟩:=i;have hc2:=zAK h.1 2;have hf2:=zCV h.1 2;simp at hc2;obtain⟨hb,ho⟩:=h;have HB:=hQd hb;clear hb;go_enter Tryz.func70,Tryz.ntmps70
 by_cases h:err=0
 ·subst h;go_wp2;go_end0;refine⟨rfl,⟨?_,ho⟩,(Keeps.refl _ _).setCell _ _ (.inl rfl)⟩;rw[zAV HB.out];simp[InS.fail]
 ·go_wp2;go_end0;exact⟨rfl,by unfold InS.fail;rw[if_neg h];exact⟨HB.out,ho⟩,Keeps.refl _ _⟩
theorem zDh(b:Nat)(i:InS)(w:World)(h:IsIn w b i):
 Calls Jb 75 #[zAe b] w fun en w'=>en=Y (I O i.left)∧∃n,w'=w.drewN n:=by
 obtain⟨s,p,err⟩:=i;have hc0:=zAK h.1 0;have hc1:=zAK h.1 1;simp at hc0 hc1;obtain⟨hb,ho1,ho2⟩:=h;simp only at ho1 ho2;clear hb;go_enter Tryz.func75,Tryz.ntmps75;go_wp2
 go_quiet (fail)
 go_wp2;go_ret;exact⟨zGf (by simp only[InS.left];omega),_,rfl⟩
def InS.take (i:InS) (n:Int):Bs×InS:=
 if i.err≠0 then([],i)
 else if n<0 then([],{i with err:=4})
 else if (i.left:Int)<n then([],{i with err:=1})
 else((i.s.drop i.pos).take n.toNat,{i with pos:=i.pos+n.toNat})
theorem IsIn.cells{w:World}{b:Nat}{i:InS}(h:IsIn w b i):
 w.cell? ⟨b,0,none⟩=some (Z (bb i.s))∧w.cell? ⟨b,1,none⟩=some (I O i.pos)∧w.cell? ⟨b,2,none⟩=some (I O i.err)∧
 w.frozen? ⟨b,0,none⟩=false∧w.frozen? ⟨b,1,none⟩=false∧w.frozen? ⟨b,2,none⟩=false:=by
 have h0:=zAK h.1 0;have h1:=zAK h.1 1;have h2:=zAK h.1 2;simp at h0 h1 h2;exact⟨h0,h1,h2,zCV h.1 0,zCV h.1 1,zCV h.1 2⟩
theorem in_err(b:Nat)(i:InS)(w:World)(h:IsIn w b i):
 Calls Jb 22 #[zAe b] w fun en w'=>en=Y (I O i.err)∧w=w':=by
 obtain⟨_,_,hc2,_⟩:=h.cells;clear h;go_enter Tryz.func22,Tryz.ntmps22;go_wp2;go_ret;exact⟨rfl,rfl⟩
theorem in_new(s:Bs)(w:World)(hs:s.length≤140737488355328):
 Calls Jb 19 #[Z (bb s)] w fun en w'=>en=Y (zAe w.heap.size)∧IsIn w' w.heap.size ⟨s,0,0⟩∧Keeps (fun _=>False) w w':=by
 have HS:=hQd hs;clear hs;go_enter Tryz.func19,Tryz.ntmps19;go_wp2;go_ret;exact⟨rfl,⟨heap_alloc_new w _,Jd _,HS.out⟩,(Keeps.refl _ _).alloc _⟩
theorem InS.fail_err(i:InS)(e:Int)(he:e≠0):(i.fail e).err≠0:=by
 unfold InS.fail;split<;>simp_all
theorem InS.take_err{i:InS}{n:Int}(h:i.err≠0):i.take n=([],i):=if_pos h
theorem InS.take_neg{i:InS}{n:Int}(hn:n<0):i.take n=([],i.fail 4):=by
 unfold InS.take InS.fail;split<;>simp_all
theorem InS.take_short{i:InS}{n:Int}(hn:¬n<0)(hl:(i.left:Int)<n):i.take n=([],i.fail 1):=by
 unfold InS.take InS.fail;split<;>simp_all
theorem InS.take_ok{i:InS}{n:Int}(he:i.err=0)(hn:¬n<0)(hl:¬(i.left:Int)<n):
 i.take n=((i.s.drop i.pos).take n.toNat,{i with pos:=i.pos+n.toNat}):=by
 unfold InS.take;simp[he,hn,hl]
theorem zD1(b:Nat)(i:InS)(n:Int)(w:World)(h:IsIn w b i):
 Calls Jb 67 #[zAe b,I O n] w fun en w'=>en=Y (Z (bb (i.take n).1))∧IsIn w' b (i.take n).2∧Keeps (· =b) w w':=by
 have H:=hQd h;clear h
 by_cases hn:n<0
 ·have HE:=i.fail_err 4 (by decide);go_enter Tryz.func67,Tryz.ntmps67;go_wp2_with (go_at_call 70;refine(zCf _ _ _ _ H.out).mono ?_;rintro e w1 ⟨rfl,h1,k1⟩;obtain⟨_,_,hc2,_⟩:=h1.cells;have H1:=hQd h1;have K1:=hQd k1;clear h1 k1);go_ret;rw[InS.take_neg hn];exact⟨rfl,H1.out,K1.out⟩
 ·by_cases hl:(i.left:Int)<n
  ·have HE:=i.fail_err 1 (by decide);go_enter Tryz.func67,Tryz.ntmps67
   go_wp2_with (first
    |(go_at_call 75;refine(zDh _ _ _ H.out).mono ?_;rintro e w1 ⟨rfl,n1,rfl⟩)
    |(go_at_call 70;refine(zCf _ _ _ _ (H.out.drewN _)).mono ?_;rintro e w1 ⟨rfl,h1,k1⟩;obtain⟨_,_,hc2,_⟩:=h1.cells;have H1:=hQd h1;have K1:=hQd k1;clear h1 k1))
   go_ret;rw[InS.take_short (by omega) hl];exact⟨rfl,H1.out,((Keeps.refl _ _).drewN _).trans K1.out⟩
  ·by_cases he:i.err=0
   ·obtain⟨m,rfl⟩:∃m:Nat,n=m:=⟨n.toNat,by omega⟩
    have hle:i.pos+m≤i.s.length:=by
     have:=H.out.2.1;simp only[InS.left]at hl
     omega
    have hmx:=H.out.2.2;have hadd:IntKind.i64.wrap ((i.pos:Int)+m)=i.pos+m:=IntWalk.i64_in _ (by omega);obtain⟨hc0,hc1,hc2,hf0,hf1,hf2⟩:=H.out.cells;go_enter Tryz.func67,Tryz.ntmps67
    go_wp2_with (first
     |(go_at_call 75;refine(zDh _ _ _ H.out).mono ?_;rintro e w1 ⟨rfl,n1,rfl⟩))
    go_quiet (fail)
    go_wp2;go_ret;rw[InS.take_ok (n:=(m:Int)) he (by omega) (by omega)];refine⟨zRA ?_,⟨?_,hle,hmx⟩,?_⟩
    ·simp
    ·refine(zAV (w:=w.drewN n1) H.out.1 _).trans ?_
     simp
    ·exact(((Keeps.refl (· =b) w).drewN _).setCell _ _ (.inl rfl)).drewN _
   ·go_enter Tryz.func67,Tryz.ntmps67;obtain⟨hc0,hc1,hc2,hf0,hf1,hf2⟩:=H.out.cells
    go_wp2_with (first
     |(go_at_call 75;refine(zDh _ _ _ H.out).mono ?_;rintro e w1 ⟨rfl,n1,rfl⟩))
    go_ret;rw[InS.take_err he];exact⟨rfl,H.out,(Keeps.refl _ _).drewN _⟩
def zFI (c:UInt8):Int:=if c.toNat<128 then c.toNat else(c.toNat:Int) - 256
def sInt:Bs→Int
 |[]=>0
 |c::t=>t.foldl (fun a c=>a*256+c.toNat) (zFI c)
def InS.int (i:InS) (size:Int):Int×InS:=
 if size<1∨8<size then(0,i.fail 4)else(sInt (i.take size).1,(i.take size).2)
theorem zNT(c:UInt8):wrap64 (IntKind.i8.wrap (c.toNat:Int))=zFI c:=by
 have:=c.toNat_lt;unfold zFI
 split<;>simp only[wrap64,IntKind.wrap,IntKind.bits,IntKind.signed]<;>simp<;>omega
theorem zGd(c:UInt8)(l:Bs)(d:UInt8):sInt (c::(l++[d]))=sInt (c::l)*256+d.toNat:=by
 simp[sInt]
theorem zGO:∀(l:Bs) (a B:Int),-B≤a→a<B→ -(B*256 ^ l.length)≤l.foldl (fun a c=>a*256+(c.toNat:Int)) a∧l.foldl (fun a c=>a*256+(c.toNat:Int)) a<B*256 ^ l.length
 |[],a,B,h0,h1=>by simp;omega
 |d::l,a,B,h0,h1=>by
  have:=d.toNat_lt;have h:=zGO l (a*256+d.toNat) (B*256) (by omega) (by omega);have e:B*256 ^ (d::l).length=B*256*256 ^ l.length:=by rw[Jn,Int.pow_succ,Int.mul_assoc,Int.mul_comm 256]
  rw[e];exact h
theorem zHt(c:UInt8)(l:Bs): -(128*256 ^ l.length:Int)≤sInt (c::l)∧sInt (c::l)<128*256 ^ l.length:=by
 have:=c.toNat_lt;exact zGO l (zFI c) 128 (by unfold zFI;split<;>omega) (by unfold zFI;split<;>omega)
theorem zE1(c:UInt8)(l:Bs)(h:l.length≤7): -9223372036854775808≤sInt (c::l)∧sInt (c::l)<9223372036854775808:=by
 have hb:=zHt c l;have:(256:Int) ^ l.length≤256 ^ 7:=by have:=Nat.pow_le_pow_right (n:=256) (by decide) h;have h2:((256 ^ l.length:Nat):Int)≤((256 ^ 7:Nat):Int):=Int.ofNat_le.2 this;rwa [Int.natCast_pow]at h2
 omega
theorem wrap64_in(x:Int)(h0: -9223372036854775808≤x)(h1:x<9223372036854775808):wrap64 x=x:=by
 simp only[wrap64];omega
theorem zKV(b:Nat)(i:InS)(n:Int)(w:World)(h:IsIn w b i):
 Calls Jb 66 #[zAe b,I O n] w fun en w'=>en=Y (I O (i.int n).1)∧IsIn w' b (i.int n).2∧Keeps (· =b) w w':=by
 have H:=hQd h;clear h
 by_cases hn:n<1
 ·go_enter Tryz.func66,Tryz.ntmps66;go_wp2_with (go_at_call 70;refine(zCf _ _ _ _ H.out).mono ?_;rintro e w1 ⟨rfl,h1,k1⟩;have H1:=hQd h1;have K1:=hQd k1;clear h1 k1);go_ret;have:i.int n=(0,i.fail 4):=if_pos (.inl hn);rw[this];exact⟨rfl,H1.out,K1.out⟩
 ·by_cases hn2:8<n
  ·go_enter Tryz.func66,Tryz.ntmps66;go_wp2_with (go_at_call 70;refine(zCf _ _ _ _ H.out).mono ?_;rintro e w1 ⟨rfl,h1,k1⟩;have H1:=hQd h1;have K1:=hQd k1;clear h1 k1);go_ret;have:i.int n=(0,i.fail 4):=if_pos (.inr hn2);rw[this];exact⟨rfl,H1.out,K1.out⟩
  ·have hi:i.int n=(sInt (i.take n).1,(i.take n).2):=if_neg (by omega);have hlen:(i.take n).1.length≤8:=by unfold InS.take;split;simp;split;simp;split;simp;simp;omega
   obtain⟨t,ht⟩:∃t,t=i.take n:=⟨_,rfl⟩;rw[hi];rw[←ht]at hlen ⊢;clear hi;have HT:=hQd ht;clear ht;obtain⟨s,i'⟩:=t
   cases s with
   |nil=>
    go_enter Tryz.func66,Tryz.ntmps66;go_wp2_with (go_at_call 67;refine(zD1 _ _ _ _ H.out).mono ?_;rw[←HT.out];rintro e w1 ⟨rfl,h1,k1⟩;have H1:=hQd h1;have K1:=hQd k1;clear h1 k1);go_ret;exact⟨rfl,H1.out,K1.out⟩
   |cons c t=>
    go_enter Tryz.func66,Tryz.ntmps66;go_wp2_with (go_at_call 67;refine(zD1 _ _ _ _ H.out).mono ?_;rw[←HT.out];rintro e w1 ⟨rfl,h1,k1⟩;have H1:=hQd h1;have K1:=hQd k1;clear h1 k1;obtain⟨C,cap,hC,hconv⟩:=zOT (P:=Jb) w1 9 72 5 t Tryz.underlying9 Tryz.underlying72 Tryz.underlying5;have HC:=hQd hC;clear hC)
    go_loop [6,30] (fun n i=>∃k:Nat,k≤t.length∧i=I O k∧n=I O (sInt (c::t.take k))) (fun _ i=>t.length - (intOf i).toNat)
    case atStart=>exact⟨0,Jd _,rfl,congrArg (Value.int .i64) (zNT c)⟩
    case round=>
     obtain⟨k,hk,rfl,rfl⟩:=hrel
     by_cases hlt:k<t.length
     ·have ht7:t.length≤7:=by simp at hlen;omega
      have hcell:=(zAK (heap_alloc_new w1 (.cells C 5 (C.size,C.size+1))) k).trans (HC.out k hlt);have hb:=zE1 c (t.take k) (by rw[List.length_take];omega);have hs:=zGd c (t.take k) t[k];have ht:t.take (k+1)=t.take k++[t[k]]:=by rw[Jf hlt]
      rw[←ht]at hs;have HS:=hQd hs;have hb2:=(zE1 c (t.take (k+1)) (by rw[List.length_take];omega));have HB:=hQd hb2;clear hs ht hb hb2;have hu:=t[k].toNat_lt;go_wp2
      go_round
      case rel=>
       refine⟨k+1,hlt,by go_num,?_⟩;rw[or_low _ _ (by omega) (by omega),HS.out];have:=HB.out;rw[HS.out]at this;exact congrArg _ (wrap64_in _ this.1 this.2)
      case measure=>simp[intOf];omega
     ·go_wp2;go_ret;rw[List.take_of_length_le (by omega)];exact⟨rfl,H1.out.keeps (M:=fun _=>False) (((Keeps.refl _ _).alloc _).drew) (by simp),K1.out.trans (((Keeps.refl _ _).alloc _).drew)⟩
def InS.count (i:InS) (size each:Int):Int×InS:=
 let x:=i.int size
 if x.1<0 then(0,x.2.fail 4)
 else if 0<each∧(x.2.left:Int) / each<x.1 then(0,x.2.fail 1)
 else x
theorem zDB(l:Bs)(h:l.length≤8): -9223372036854775808≤sInt l∧sInt l<9223372036854775808:=by
 cases l with
 |nil=>simp[sInt]
 |cons c t=>exact zE1 c t (by simp at h;omega)
theorem InS.take_len(i:InS)(n:Int):(i.take n).1.length≤n.toNat:=by
 unfold InS.take;split;simp;split;simp;split;simp;simp;omega
theorem InS.fail_ok{i:InS}{e:Int}(h:i.ok):(i.fail e).ok:=by unfold InS.fail;split<;>exact h
theorem InS.take_okk{i:InS}{n:Int}(h:i.ok):(i.take n).2.ok:=by
 unfold InS.take
 split
 ·exact h
 split
 ·exact h
 split
 ·exact h
 ·refine⟨?_,h.2⟩;have:=h.1;simp only[InS.left]at*
  omega
theorem InS.int_ok(i:InS)(n:Int)(h:i.ok):(i.int n).2.ok:=by
 unfold InS.int
 split
 ·exact fail_ok h
 ·exact take_okk h
theorem InS.int_range(i:InS)(n:Int): -9223372036854775808≤(i.int n).1∧(i.int n).1<9223372036854775808:=by
 unfold InS.int
 split
 ·simp
 ·exact zDB _ (by have:=i.take_len n;omega)
def InS.close (i:InS):InS:=if 0<i.left then i.fail 2 else i
theorem zR5(b:Nat)(i:InS)(w:World)(h:IsIn w b i):
 Calls Jb 25 #[zAe b] w fun en w'=>en=Y (I O i.close.err)∧IsIn w' b i.close∧Keeps (· =b) w w':=by
 have H:=hQd h;clear h
 by_cases hl:0<i.left
 ·have e:i.close=i.fail 2:=if_pos hl;rw[e];clear e;go_enter Tryz.func25,Tryz.ntmps25
  go_wp2_with (first
   |(go_at_call 75;refine(zDh _ _ _ H.out).mono ?_;rintro e w1 ⟨rfl,n1,rfl⟩)
   |(go_at_call 70;refine(zCf _ _ _ _ (H.out.drewN _)).mono ?_;rintro e w1 ⟨rfl,h1,k1⟩;obtain⟨_,_,hc2,_⟩:=h1.cells;have H1:=hQd h1;have K1:=hQd k1;clear h1 k1))
  go_ret;exact⟨rfl,H1.out,((Keeps.refl _ _).drewN _).trans K1.out⟩
 ·have e:i.close=i:=if_neg hl;rw[e];clear e;obtain⟨hc0,hc1,hc2,hf0,hf1,hf2⟩:=H.out.cells;go_enter Tryz.func25,Tryz.ntmps25
  go_wp2_with (first
   |(go_at_call 75;refine(zDh _ _ _ H.out).mono ?_;rintro e w1 ⟨rfl,n1,rfl⟩))
  go_ret;exact⟨rfl,H.out,(Keeps.refl _ _).drewN _⟩
theorem zR4(b:Nat)(i:InS)(n m:Int)(w:World)(h:IsIn w b i):
 Calls Jb 174 #[zAe b,I O n,I O m] w fun en w'=>en=Y (I O (i.count n m).1)∧IsIn w' b (i.count n m).2∧Keeps (· =b) w w':=by
 have H:=hQd h;clear h;obtain⟨x,hx⟩:∃x,x=i.int n:=⟨_,rfl⟩;have hr:=i.int_range n;have hC:i.count n m=if x.1<0 then(0,x.2.fail 4)else if 0<m∧(x.2.left:Int) / m<x.1 then(0,x.2.fail 1)else x:=by rw[hx];rfl
 rw[←hx]at hr;have HX:=hQd hx;clear hx;obtain⟨v,i'⟩:=x;simp only at hr hC
 by_cases hn:v<0
 ·rw[if_pos hn]at hC;rw[hC];clear hC;go_enter Tryz.func174,Tryz.ntmps174
  go_wp2_with (first
   |(go_at_call 66;refine(zKV _ _ _ _ H.out).mono ?_;rw[←HX.out];rintro e w1 ⟨rfl,h1,k1⟩;have H1:=hQd h1;have K1:=hQd k1;clear h1 k1)
   |(go_at_call 70;refine(zCf _ _ _ _ H1.out).mono ?_;rintro e w2 ⟨rfl,h2,k2⟩;have H2:=hQd h2;have K2:=hQd k2;clear h2 k2))
  go_ret;exact⟨rfl,H2.out,K1.out.trans K2.out⟩
 ·rw[if_neg hn]at hC
  by_cases hm:0<m
  ·have hi':i'.left≤140737488355328:=by
    have:i'.ok:=by
     have h2:=i.int_ok n H.out.2;rw[←HX.out]at h2;exact h2
    unfold InS.left;have:=this.2
    omega
   have h0:(0:Int)≤(i'.left:Int) / m:=Int.ediv_nonneg (by omega) (by omega);have h1:(i'.left:Int) / m≤i'.left:=Int.ediv_le_self _ (by omega);have hq:wrap64 ((i'.left:Int) / m)=i'.left / m:=wrap64_in _ (by omega) (by omega)
   by_cases hd:(i'.left:Int) / m<v
   ·rw[if_pos ⟨hm,hd⟩]at hC;rw[hC];clear hC;go_enter Tryz.func174,Tryz.ntmps174
    go_wp2_with (first
     |(go_at_call 66;refine(zKV _ _ _ _ H.out).mono ?_;rw[←HX.out];rintro e w1 ⟨rfl,h1,k1⟩;have H1:=hQd h1;have K1:=hQd k1;clear h1 k1)
     |(go_at_call 75;refine(zDh _ _ _ H1.out).mono ?_;rintro e w2 ⟨rfl,n2,rfl⟩)
     |(go_at_call 70;refine(zCf _ _ _ _ (H1.out.drewN _)).mono ?_;rintro e w2 ⟨rfl,h2,k2⟩;have H2:=hQd h2;have K2:=hQd k2;clear h2 k2))
    go_ret;exact⟨rfl,H2.out,(K1.out.drewN _).trans K2.out⟩
   ·rw[if_neg (fun h=>hd h.2)]at hC;rw[hC];clear hC;go_enter Tryz.func174,Tryz.ntmps174
    go_wp2_with (first
     |(go_at_call 66;refine(zKV _ _ _ _ H.out).mono ?_;rw[←HX.out];rintro e w1 ⟨rfl,h1,k1⟩;have H1:=hQd h1;have K1:=hQd k1;clear h1 k1)
     |(go_at_call 75;refine(zDh _ _ _ H1.out).mono ?_;rintro e w2 ⟨rfl,n2,rfl⟩))
    go_ret;exact⟨rfl,H1.out,K1.out.drewN _⟩
  ·rw[if_neg (fun h=>hm h.1)]at hC;rw[hC];clear hC;go_enter Tryz.func174,Tryz.ntmps174;go_wp2_with (go_at_call 66;refine(zKV _ _ _ _ H.out).mono ?_;rw[←HX.out];rintro e w1 ⟨rfl,h1,k1⟩;have H1:=hQd h1;have K1:=hQd k1;clear h1 k1);go_ret;exact⟨rfl,H1.out,K1.out⟩
theorem oM{p:Prop}(h:p:=by omega):p:=h
theorem dD{p:Prop}(h:p:=by decide):p:=h
def zAa (n:Int):Nat→Bs
 |0=>[]
 |k+1=>zAa (n / 256) k++[UInt8.ofNat (n % 256).toNat]
@[simp] theorem zAb (n:Int) (k:Nat):(zAa n k).length=k:=by
 induction k generalizing n with
 |zero=>rfl
 |succ k ih=>simp[zAa,ih]
def half (k:Nat):Int:=128*256 ^ (k - 1)
theorem zE2(n:Int)(k:Nat):sInt (zAa n (k+2))=sInt (zAa (n / 256) (k+1))*256+n % 256:=by
 have e:zAa n (k+2)=zAa (n / 256) (k+1)++[UInt8.ofNat (n % 256).toNat]:=rfl;rw[e]
 cases h:zAa (n / 256) (k+1)with
 |nil=>have:=congrArg List.length h;rw[zAb]at this;simp at this
 |cons c t=>
  rw[List.cons_append,zGd];have h256:(n % 256).toNat<256:=by omega
  simp[Nat.mod_eq_of_lt h256]
  omega
theorem zMB(a b r:Int)(hb:0<b)(h0:0≤r)(h1:r<256):(256*a+r) % (256*b)=256*(a % b)+r:=by
 have ha:=Int.emod_add_mul_ediv a b;have h2:=Int.emod_nonneg a (Int.ne_of_gt hb);have h3:=Int.emod_lt_of_pos a hb
 have e:256*a+r=(256*(a % b)+r)+(256*b)*(a / b):=by
  rw[Int.mul_assoc];omega
 rw[e,Int.add_mul_emod_self_left,Int.emod_eq_of_lt oM oM]
theorem zNB(k:Nat):0<half k:=by unfold half;have:(0:Int)<256 ^ (k - 1):=Int.pow_pos dD;omega
theorem zKf(n:Int)(k:Nat):sInt (zAa n (k+1))=(n+half (k+1)) % (2*half (k+1)) - half (k+1):=by
 induction k generalizing n with
 |zero=>
  have h256:(n % 256).toNat<256:=by omega
  have:sInt (zAa n 1)=zFI (UInt8.ofNat (n % 256).toNat):=rfl;rw[this];simp[zFI,half,Nat.mod_eq_of_lt h256]
  split<;>omega
 |succ k ih=>
  rw[zE2,ih];have hp:=zNB (k+1);have e:half (k+2)=256*half (k+1):=by unfold half;simp only[Nat.add_sub_cancel,show k+2 - 1=k+1 by omega,Int.pow_succ];omega
  rw[e];have:=zMB (n / 256+half (k+1)) (2*half (k+1)) (n % 256) oM oM oM;have e2:n+256*half (k+1)=256*(n / 256+half (k+1))+n % 256:=by omega
  have e3:2*(256*half (k+1))=256*(2*half (k+1)):=by omega
  rw[e2,e3,this]
  omega
theorem zAB(n:Int)(k:Nat)(hk:1≤k):sInt (zAa n k)=n↔(-half k≤n∧n<half k):=by
 obtain⟨k,rfl⟩:∃j,k=j+1:=⟨k - 1,oM⟩;rw[zKf];have hp:=zNB (k+1)
 constructor
 ·intro h;have h2:=Int.emod_nonneg (n+half (k+1)) (b:=2*half (k+1)) oM;have h3:=Int.emod_lt_of_pos (n+half (k+1)) (b:=2*half (k+1)) oM
  omega
 ·intro h;rw[Int.emod_eq_of_lt oM oM]
  omega
def fits (n size:Int):Prop:=1≤size∧size≤8∧ -half size.toNat≤n∧n<half size.toNat
instance (n size:Int):Decidable (fits n size):=by unfold fits;infer_instance
def Newer (w:World) (g g':Option Nat):Prop:=g'=g∨∃k,g'=some k∧w.heap.size≤k
theorem Newer.refl(w:World)(g:Option Nat):Newer w g g:=.inl rfl
theorem Newer.trans{w w1:World}{a b c:Option Nat}(h:Newer w a b)(k:Newer w1 b c)(hs:w.heap.size≤w1.heap.size):Newer w a c:=by
 rcases k with rfl|⟨k,rfl,hk⟩
 ·exact h
 ·exact .inr ⟨k,rfl,by omega⟩
theorem Newer.of{w w1:World}{a b:Option Nat}(h:Newer w1 a b)(hs:w.heap.size≤w1.heap.size):Newer w a b:=(Newer.refl w a).trans h hs
section
variable {P:Program}
theorem zTA(w:World)(t u ty e:TypeId)(i:TypeInfo)(ht:P.underlying t=some (.slice e))(hu:P.underlying u=some .string)(hi:P.info? e=some i)(hz:i.zero=some (.int .u8 0))
 (hsize:i.size=1)(hby:i.bytes=1)
 (v:Value)(n:Nat)(xs:List Value)(hown:w.ownsRow 0 e 1 v n xs)(s:ByteArray)(hbytes:n+s.size≤140737488355328):
 ∃v' w',(Builtin.append_ #[t,u] ty #[v,Z s]).run P w=.ok v' w'∧w'.ownsRow 0 e 1 v' (n+s.size) (xs++Lib.strCells s)∧w.grownBy w' v.ownBlock∧Newer w v.ownBlock v'.ownBlock:=by
 obtain⟨v',w',hr,ho,hg,_⟩:=Lib.run_append_own_string (P:=P) w 0 t u ty e i ht hu hi hz hsize hby v n xs hown s (by unfold maxLen;omega) hbytes (Jd _);refine⟨v',w',hr,ho,hg,?_⟩;have hxl:xs.length=n:=by simpa using hown.1
 rcases hown.2 with ⟨rfl,rfl⟩|⟨g,cap,cur,rfl,_,hgg,hnc,hcm,hcs,htake⟩
 ·by_cases hm:s.size=0
  ·rcases ho.2 with ⟨rfl,_⟩|⟨g',cap',cur',rfl,_⟩
   ·exact .inl rfl
   ·rename_i hiff
    have hf:=Lib.run_firstCells_string (P:=P) w 1 s;have hn:Lib.strCells s=[]:=List.eq_nil_of_length_eq_zero (by rw[Lib.strCells_length];exact hm);rw[hm]at hf
    have hx:(Builtin.append_ #[t,u] ty #[V none 0 0,Z s]).run P w=.ok (V none 0 0) w:=by
     simp[Builtin.append_,run_underlying ht,run_underlying hu,sizeOf,typeInfo,hi,hsize,Builtin.lenOf,hm,hf]
    rw[hx]at hr
    cases hr
  ·have hr2:=run_append_nil_string (P:=P) w t u ty e i (.int .u8 0) ht hu hi hz s (by omega) (by omega) (by rw[hby];omega);rw[hr2]at hr
   cases hr
   exact .inr ⟨_,rfl,Nat.le_refl _⟩
 ·by_cases hroom:n+s.size≤cap
  ·have hr2:=Lib.run_append_room_string (P:=P) w t u ty e i ht hu hi hsize g n cap cur hgg s hroom (by omega);rw[hr2]at hr
   cases hr
   exact .inl rfl
  ·have hr2:=Lib.run_append_grow_string (P:=P) w t u ty e i (.int .u8 0) ht hu hi hz ⟨g,0,none⟩ n cap xs (by rw[hsize];simpa using hxl) (hown.cells (g:=g) rfl) s (by omega) (by omega) (by rw[hby];exact growslice_fits (by omega) (by omega));rw[hr2]at hr
   cases hr
   exact .inr ⟨_,rfl,Nat.le_refl _⟩
theorem zRf(w:World)(t ty e:TypeId)(i:TypeInfo)(z:Value)(size bytes:Nat)(ht:P.underlying t=some (.slice e))(hi:P.info? e=some i)(hz:i.zero=some z)
 (hsize:i.size=size)(hby:i.bytes=bytes)(hzs:z.cells.size=size)(hsz:0<size)
 (v:Value)(n:Nat)(xs:List Value)(hown:w.ownsRow 0 e size v n xs)
 (a:Addr)(m c:Nat)(news:List Value)(hl:news.length=m*size)(hnews:∀j u,news[j]? =some u→w.cell? (a.add j)=some u)(h1:∀u∈news,u.oneCell'=true)
 (h63:n+m≤maxLen)(hbytes:(n+m)*bytes≤140737488355328):
 ∃v' w',(Builtin.append_ #[t,t] ty #[v,V (some a) m c]).run P w=.ok v' w'∧w'.ownsRow 0 e size v' (n+m) (xs++news)∧w.grownBy w' v.ownBlock∧Newer w v.ownBlock v'.ownBlock:=by
 obtain⟨v',w',hr,ho,hg,hiff⟩:=run_append_own (P:=P) w 0 t ty e i z size bytes ht hi hz hsize hby hzs hsz v n xs hown a m c news hl hnews h1 h63 hbytes (Jd _);refine⟨v',w',hr,ho,hg,?_⟩;subst hsize
 subst hby
 have h63':n+m≤9223372036854775807:=by simpa [maxLen]using h63
 rcases hown.2 with ⟨rfl,rfl⟩|⟨g,cap,cur,rfl,_,hgg,hnc,hcm,hcs,htake⟩
 ·by_cases hm:m=0
  ·have:=hiff.2 ⟨rfl,hm⟩;subst this;exact .inl rfl
  ·have hr2:=run_append_nil (P:=P) w t ty e i z ht hi hz a m c news hl hnews (by omega) (by omega) (by have hb:=hbytes;simp only[Nat.zero_add]at hb;omega);rw[hr2]at hr
   cases hr
   exact .inr ⟨_,rfl,Nat.le_refl _⟩
 ·by_cases hroom:n+m≤cap
  ·have hfit:n*i.size+news.length≤cur.size:=by rw[hl,hcs,←Nat.add_mul];exact Nat.mul_le_mul_right _ hroom
   have hr2:=run_append_room (P:=P) w t ty e i ht hi g n cap cur hgg a m c news hl hnews h1 hroom hfit;rw[hr2]at hr
   cases hr
   exact .inl rfl
  ·have hr2:=run_append_grow (P:=P) w t ty e i z ht hi hz ⟨g,0,none⟩ n cap xs hown.1 (hown.cells (g:=g) rfl) a m c news hl hnews (by omega) (by omega) (growslice_fits (by omega) hbytes);rw[hr2]at hr
   cases hr
   exact .inr ⟨_,rfl,Nat.le_refl _⟩
theorem zFY{w:World}{ops:Array Oper}{rest:List Oper}{o:Oper}{a:Act}{Q:Exit→Act→World→Prop}(hgd:o.guard=none)(sl x:Operand)(t u:TypeId)
 (ho:o.op=.call {callee:=.builtin .append,args:= #[sl,x],argTypes:= #[t,u]})
 (e:TypeId)(i:TypeInfo)(ht:P.underlying t=some (.slice e))(hu:P.underlying u=some .string)(hi:P.info? e=some i)(hz:i.zero=some (.int .u8 0))
 (hsize:i.size=1)(hby:i.bytes=1)
 (v:Value)(n:Nat)(xs:List Value)(hs:a.eval sl=v)(hown:w.ownsRow 0 e 1 v n xs)(s:ByteArray)(hx:a.eval x=Z s)(hbytes:n+s.size≤140737488355328)
 (h:∀v' w',w'.ownsRow 0 e 1 v' (n+s.size) (xs++Lib.strCells s)→w.grownBy w' v.ownBlock→Newer w v.ownBlock v'.ownBlock→wpList P ops Q rest (a.put o.dst v') w'):wpList P ops Q (o::rest) a w:=by
 refine wpList_plain hgd fun K hK=> ?_
 obtain⟨v',w',hr,h2,h3,h4⟩:=zTA (P:=P) w t u o.type e i ht hu hi hz hsize hby v n xs hown s hbytes;unfold Oper.wp execOp;simp only[ho,resolve,invoke,builtin,Sem.run_bind,Sem.run_pure,Result.andThen_ok,List.map_toArray,List.map_cons,List.map_nil,hs,hx,hr];exact hK _ _ (h v' w' h2 h3 h4)
theorem zFX{w:World}{ops:Array Oper}{rest:List Oper}{o:Oper}{a:Act}{Q:Exit→Act→World→Prop}(hgd:o.guard=none)(sl x:Operand)(t:TypeId)
 (ho:o.op=.call {callee:=.builtin .append,args:= #[sl,x],argTypes:= #[t,t]})
 (e:TypeId)(i:TypeInfo)(z:Value)(size bytes:Nat)(ht:P.underlying t=some (.slice e))(hi:P.info? e=some i)(hz:i.zero=some z)
 (hsize:i.size=size)(hby:i.bytes=bytes)(hzs:z.cells.size=size)(hsz:0<size)
 (v:Value)(n:Nat)(xs:List Value)(hs:a.eval sl=v)(hown:w.ownsRow 0 e size v n xs)
 (ad:Addr)(m c:Nat)(news:List Value)(hx:a.eval x=V (some ad) m c)(hl:news.length=m*size)(hnews:∀j u,news[j]? =some u→w.cell? (ad.add j)=some u)(h1:∀u∈news,u.oneCell'=true)
 (h63:n+m≤maxLen)(hbytes:(n+m)*bytes≤140737488355328)
 (h:∀v' w',w'.ownsRow 0 e size v' (n+m) (xs++news)→w.grownBy w' v.ownBlock→Newer w v.ownBlock v'.ownBlock→wpList P ops Q rest (a.put o.dst v') w'):wpList P ops Q (o::rest) a w:=by
 refine wpList_plain hgd fun K hK=> ?_
 obtain⟨v',w',hr,h2,h3,h4⟩:=zRf (P:=P) w t o.type e i z size bytes ht hi hz hsize hby hzs hsz v n xs hown ad m c news hl hnews h1 h63 hbytes;unfold Oper.wp execOp;simp only[ho,resolve,invoke,builtin,Sem.run_bind,Sem.run_pure,Result.andThen_ok,List.map_toArray,List.map_cons,List.map_nil,hs,hx,hr];exact hK _ _ (h v' w' h2 h3 h4)
end
end Go.Proofs.YteldcbljedeeiaaGreatDoor
namespace Go.Proofs.YteldcbljedeeiaaGreatDoor
open Go.RowKit
open Go.Value renaming bool→U, string→Z, slice→V, int→I, pointer→Ja
open Go.Ending renaming returned→Y
open Go.IntKind renaming i64→O
open _root_.Go.Proofs.Tryz renaming prog→Jb
open _root_.Nat renaming zero_le→Jd, add_assoc→Jm
open _root_.List renaming take_succ_eq_append_getElem→Jf, length_cons→Jn, length_append→Jc, append_nil→Jp, length_drop→Jh, drop_drop→Jk, append_assoc→Je, flatMap_cons→Jg, getElem_mem→Ji, length_map→Jj, take→Jl, drop→Jo
set_option maxHeartbeats 8000000
set_option maxRecDepth 100000
structure OutS where
 bytes:Bs
 err:Int
deriving DecidableEq
def OutS.fail (o:OutS) (e:Int):OutS:=if o.err=0 then {o with err:=e} else o
def OutS.put (o:OutS) (s:Bs):OutS:=if o.err=0 then {o with bytes:=o.bytes++s} else o
def OutS.int (o:OutS) (n size:Int):OutS:=if fits n size then o.put (zAa n size.toNat)else o.fail 11
def OutS.text (o:OutS):Bs×Int:=if o.err=0 then(o.bytes,0)else([],o.err)
def zAD (s:Bs):List Value:=s.map fun c=>Value.int .u8 c.toNat
theorem zFC(s:Bs):(zAD s).length=s.length:=by simp[zAD]
theorem zO2(s:Bs)(c:UInt8):zAD s++[Value.int .u8 (c.toNat:Int)]=zAD (s++[c]):=by simp[zAD]
theorem zFD(s t:Bs):zAD (s++t)=zAD s++zAD t:=by simp[zAD]
def OutM (b:Nat) (g:Option Nat) (k:Nat):Prop:=k=b∨some k=g
def IsOut (w:World) (b:Nat) (g:Option Nat) (o:OutS):Prop:=
 ∃v,w.heap[b]? =some (.cells #[v,I O o.err] 116 (0,0))∧w.ownsRow 0 5 1 v o.bytes.length (zAD o.bytes)∧v.ownBlock=g∧g≠some b
theorem IsOut.lt{w:World}{b:Nat}{g:Option Nat}{o:OutS}(h:IsOut w b g o):b<w.heap.size:=by
 obtain⟨v,h,_⟩:=h;exact zBi h
theorem IsOut.glt{w:World}{b:Nat}{g:Option Nat}{o:OutS}(h:IsOut w b g o):∀k,g=some k→k<w.heap.size:=by
 obtain⟨v,_,h,rfl,_⟩:=h;exact fun k hk=>(h.lt k hk).2
theorem zB2{w w':World}{T:TypeId}{sz:Nat}{v:Value}{n:Nat}{xs:List Value}{M:Nat→Prop}(h:w.ownsRow 0 T sz v n xs)(k:Keeps M w w')(hm:∀g,v.ownBlock=some g→¬M g):w'.ownsRow 0 T sz v n xs:=by
 obtain⟨h1,h2⟩:=h;refine⟨h1,?_⟩
 rcases h2 with h2|⟨g,cap,cur,rfl,hb,hg,rest⟩
 ·exact .inl h2
 ·exact .inr ⟨g,cap,cur,rfl,hb,by rw[k.block g (zBi hg) (hm g rfl)];exact hg,rest⟩
theorem IsOut.keeps{w w':World}{b:Nat}{g:Option Nat}{o:OutS}{M:Nat→Prop}(h:IsOut w b g o)(k:Keeps M w w')(hb:¬M b)(hg:∀x,g=some x→¬M x):IsOut w' b g o:=by
 have hl:=h.lt;obtain⟨v,h1,h2,h3,h4⟩:=h;exact⟨v,(k.block b hl hb).trans h1,zB2 h2 k (fun x hx=>hg x (h3 ▸ hx)),h3,h4⟩
theorem IsOut.drewN{w:World}{b:Nat}{g:Option Nat}{o:OutS}(h:IsOut w b g o)(n:Nat):IsOut (w.drewN n) b g o:=by
 obtain⟨v,h1,h2,h3,h4⟩:=h;exact⟨v,h1,zB2 h2 ((Keeps.refl (fun _=>False) w).drewN n) (by simp),h3,h4⟩
theorem Keeps.of_grown{w w':World}{row:Option Nat}(h:w.grownBy w' row):Keeps (fun k=>some k=row) w w':=
 ⟨h.os,h.tape,h.output,h.size,fun k hk hn=>h.block k hk hn⟩
theorem OutM.newer{w:World}{b:Nat}{g g':Option Nat}(h:Newer w g g'):∀i,i<w.heap.size→OutM b g' i→OutM b g i:=by
 intro i hi hm
 rcases hm with hm|hm
 ·exact .inl hm
 ·rcases h with rfl|⟨k,rfl,hk⟩
  ·exact .inr hm
  ·simp at hm;omega
theorem IsOut.alloc{w:World}{b:Nat}{g:Option Nat}{o:OutS}(h:IsOut w b g o)(x:Obj):IsOut (w.alloc x) b g o:=
 h.keeps (M:=fun _=>False) ((Keeps.refl _ _).alloc _) (by simp) (by simp)
theorem IsOut.apart{w:World}{b:Nat}{g:Option Nat}{o:OutS}{B:Nat}{T:TypeId}{sz n:Nat}{v:Value}{xs:List Value}(h:IsOut w b g o)(k:w.ownsRow B T sz v n xs)
 (h1:T≠116)(h2:T≠5):∀x,v.ownBlock=some x→¬OutM b g x:=by
 intro x hx hm;obtain⟨u,hb,ho,hg,hne⟩:=h
 rcases k.2 with ⟨rfl,_⟩|⟨g1,cap,cur,rfl,_,hg1,_⟩
 ·simp[Value.ownBlock]at hx
 ·simp[Value.ownBlock]at hx;subst hx
  rcases hm with rfl|hm
  ·rw[hb]at hg1;simp at hg1;exact h1 hg1.2.symm
  ·rcases ho.2 with ⟨rfl,_⟩|⟨g2,cap2,cur2,rfl,_,hg2,_⟩
   ·rw[←hg]at hm;simp[Value.ownBlock]at hm
   ·rw[←hg]at hm;simp[Value.ownBlock]at hm;subst hm;rw[hg2]at hg1;simp at hg1;exact h2 hg1.2.symm
abbrev zAc (b:Nat):Value:=Ja (some ⟨b,0,none⟩)
theorem zJh:(Tryz.prog.info? 5).map (fun i=>(i.zero,i.size,i.bytes))=some (some (.int .u8 0),1,1):=by kernel_rfl
theorem zI7(b:Nat)(g:Option Nat)(o:OutS)(e:Int)(w:World)(h:IsOut w b g o):
 Calls Jb 95 #[zAc b,I O e] w fun en w'=>en=Y (.tuple #[])∧IsOut w' b g (o.fail e)∧Keeps (OutM b g) w w':=by
 have H:=hQd h;obtain⟨v,hb,hown,hg,hne⟩:=h;have hc1:=zAK hb 1;have hf1:=zCV hb 1;simp at hc1;have HB:=hQd hb;have HO:=hQd hown;clear hb hown;go_enter Tryz.func95,Tryz.ntmps95
 by_cases h:o.err=0
 ·go_wp2;go_end0;have k:Keeps (OutM b g) w (w.setCell ⟨b,1,none⟩ (I O e)):=(Keeps.refl _ _).setCell _ _ (.inl (.inl rfl));refine⟨rfl,⟨v,?_,?_,hg,hne⟩,k⟩
  ·rw[zAV HB.out];simp[OutS.fail,h]
  ·have e1:(o.fail e).bytes=o.bytes:=by unfold OutS.fail;split<;>rfl
   rw[e1];exact zB2 HO.out ((Keeps.refl (· =b) w).setCell _ _ (.inl rfl)) (fun x hx=>by rintro rfl;exact hne (hg ▸ hx))
 ·go_wp2;go_end0;exact⟨rfl,by unfold OutS.fail;rw[if_neg h];exact H.out,Keeps.refl _ _⟩
theorem zF8(s:Bs):Lib.strCells (bb s)=zAD s:=by simp[Lib.strCells,zAD]
theorem zKM{w w1:World}{b:Nat}{g:Option Nat}{o:OutS}{v v':Value}{s:Bs}
 (hb:w.heap[b]? =some (.cells #[v,I O o.err] 116 (0,0)))(hg:v.ownBlock=g)(hne:g≠some b)(he:o.err=0)
 (hown':w1.ownsRow 0 5 1 v' (o.bytes.length+s.length) (zAD (o.bytes++s)))(hgrow:w.grownBy w1 v.ownBlock)(hn:Newer w v.ownBlock v'.ownBlock):
 ∃g',IsOut (w1.setCell ⟨b,0,none⟩ v') b g' (o.put s)∧Keeps (OutM b g) w (w1.setCell ⟨b,0,none⟩ v')∧Newer w g g':=by
 subst hg;have hk:=Keeps.of_grown hgrow;have hlt:=zBi hb;have hb1:w1.heap[b]? =some (.cells #[v,I O o.err] 116 (0,0)):=(hk.block b hlt (fun h=>hne h.symm)).trans hb
 have hne':v'.ownBlock≠some b:=by
  rcases hn with h|⟨k,h,hk2⟩
  ·rw[h];exact hne
  ·rw[h];intro h2;simp at h2;omega
 refine⟨v'.ownBlock,⟨v',?_,?_,rfl,hne'⟩,?_,hn⟩
 ·rw[zAV hb1];simp[OutS.put,he]
 ·have e1:(o.put s).bytes=o.bytes++s:=by simp[OutS.put,he]
  rw[e1,Jc];exact zB2 hown' ((Keeps.refl (· =b) w1).setCell _ _ (.inl rfl)) (fun x hx=>by rintro rfl;exact hne' hx)
 ·exact(hk.mono (fun k _ h=> .inr h)).trans ((Keeps.refl (OutM b v.ownBlock) w1).setCell _ _ (.inl (.inl rfl)))
theorem zH5{w:World}{B:Nat}{T:TypeId}{sz:Nat}{v:Value}{n:Nat}{xs:List Value}(h:w.ownsRow B T sz v n xs):∃p n' c,v=V p n' c:=by
 rcases h.2 with ⟨rfl,_⟩|⟨_,_,_,rfl,_⟩<;>exact⟨_,_,_,rfl⟩
theorem zS6(b:Nat)(g:Option Nat)(o:OutS)(s:Bs)(w:World)(h:IsOut w b g o)(hroom:o.bytes.length+s.length≤140737488355328):
 Calls Jb 51 #[zAc b,Z (bb s)] w fun en w'=>en=Y (.tuple #[])∧∃g',IsOut w' b g' (o.put s)∧Keeps (OutM b g) w w'∧Newer w g g':=by
 have H:=hQd h;obtain⟨v,hb,hown,hg,hne⟩:=h;have hc1:=zAK hb 1;have hc0:=zAK hb 0;simp at hc1 hc0
 by_cases he:o.err=0
 ·obtain⟨i0,hi,hz0,hz1,hz2⟩:=info_parts zJh;have HI:=hQd (And.intro hi (And.intro hz0 (And.intro hz1 hz2)));have HOWN:=hQd hown;have HR:=hQd hroom;have FIN:=hQd (fun v' w1 (h1:w1.ownsRow 0 5 1 v' (o.bytes.length+s.length) (zAD (o.bytes++s))) (h2:w.grownBy w1 v.ownBlock) (h3:Newer w v.ownBlock v'.ownBlock)=>zKM (s:=s) hb hg hne he h1 h2 h3);have HC:=hQd (fun w1 (h2:w.grownBy w1 v.ownBlock)=>And.intro (((Keeps.of_grown h2).cell b 0 (zBi hb) (fun h=>hne (hg ▸ h.symm))).trans hc0) (((Keeps.of_grown h2).frozen b 0 (zBi hb) (fun h=>hne (hg ▸ h.symm))).trans (zCV hb 0)));clear hown hb hi hz0 hz1 hz2 hroom;go_enter Tryz.func51,Tryz.ntmps51;go_wp2_with (at_builtin;refine zFY rfl _ _ 72 9 rfl 5 i0 Tryz.underlying72 Tryz.underlying9 HI.out.1 HI.out.2.1 HI.out.2.2.1 HI.out.2.2.2 v _ _ rfl HOWN.out (bb s) rfl HR.out ?_;intro v' w1 h1 h2 h3;rw[zF8,←zFD]at h1;have F:=hQd (FIN.out v' w1 h1 h2 h3);obtain⟨hx0,hf0⟩:=HC.out w1 h2;obtain⟨q,n',c',rfl⟩:=zH5 h1;clear h1 h2 h3);go_end0;obtain⟨g',f1,f2,f3⟩:=F.out;exact⟨rfl,g',f1,f2,f3⟩
 ·clear hown hb;go_enter Tryz.func51,Tryz.ntmps51;go_wp2;go_end0;exact⟨rfl,g,by unfold OutS.put;rw[if_neg he];exact H.out,Keeps.refl _ _,Newer.refl _ _⟩
theorem zFS(b:Nat)(g:Option Nat)(o:OutS)(c:UInt8)(w:World)(h:IsOut w b g o)(hroom:o.bytes.length+1≤140737488355328):
 Calls Jb 103 #[zAc b,.int .u8 c.toNat] w fun en w'=>en=Y (.tuple #[])∧∃g',IsOut w' b g' (o.put [c])∧Keeps (OutM b g) w w'∧Newer w g g':=by
 have H:=hQd h;have H2:=h.keeps (M:=fun _=>False) ((Keeps.refl _ w).alloc (.cells #[.int .u8 c.toNat] 5)) (by simp) (by simp);have hlt:=h.lt;obtain⟨v,hb,hown,hg,hne⟩:=h;have hc1:=zAK hb 1;have hc0:=zAK hb 0;simp at hc1 hc0
 by_cases he:o.err=0
 ·obtain⟨i0,hi,hz0,hz1,hz2⟩:=info_parts zJh;have hb':(w.alloc (.cells #[.int .u8 c.toNat] 5)).heap[b]? =some (.cells #[v,I O o.err] 116 (0,0)):=(((Keeps.refl (fun _=>False) w).alloc _).block b hlt (by simp)).trans hb;have hown2:(w.alloc (.cells #[.int .u8 c.toNat] 5)).ownsRow 0 5 1 v o.bytes.length (zAD o.bytes):=hown.alloc _
  have hnc:∀j u,[Value.int .u8 c.toNat][j]? =some u→(w.alloc (.cells #[.int .u8 c.toNat] 5)).cell? ((⟨w.heap.size,0,none⟩:Addr).add j)=some u:=by
   intro j u hj
   cases j with
   |zero=>simp[Addr.add]at hj ⊢;exact hj
   |succ j=>simp at hj
  have HI:=hQd (And.intro hi (And.intro hz0 (And.intro hz1 hz2)));have HOWN:=hQd hown2;have HR:=hQd hroom;have HN:=hQd hnc;have FIN:=hQd (fun v' w1 (h1:w1.ownsRow 0 5 1 v' (o.bytes.length+1) (zAD (o.bytes++[c]))) (h2:(w.alloc (.cells #[.int .u8 c.toNat] 5)).grownBy w1 v.ownBlock) (h3:Newer (w.alloc (.cells #[.int .u8 c.toNat] 5)) v.ownBlock v'.ownBlock)=>zKM (s:=[c]) hb' hg hne he h1 h2 h3);have HC:=hQd (fun w1 (h2:(w.alloc (.cells #[.int .u8 c.toNat] 5)).grownBy w1 v.ownBlock)=>And.intro (((Keeps.of_grown h2).cell b 0 (zBi hb') (fun h=>hne (hg ▸ h.symm))).trans ((zAK hb' 0).trans (show(#[v,I O o.err]:Array Value)[0]? =some v from rfl))) (((Keeps.of_grown h2).frozen b 0 (zBi hb') (fun h=>hne (hg ▸ h.symm))).trans (zCV hb' 0)));clear hown hown2 hb hb' hi hz0 hz1 hz2 hroom hnc H2;go_enter Tryz.func103,Tryz.ntmps103;go_wp2_with (at_builtin;refine zFX rfl _ _ 72 rfl 5 i0 (.int .u8 0) 1 1 Tryz.underlying72 HI.out.1 HI.out.2.1 HI.out.2.2.1 HI.out.2.2.2 rfl dD v _ _ rfl HOWN.out ⟨w.heap.size,0,none⟩ 1 1 [.int .u8 c.toNat] rfl rfl HN.out (by simp[Value.oneCell']) (by have:=HR.out;unfold maxLen;omega) (by have:=HR.out;omega) ?_;intro v' w1 h1 h2 h3;rw[zO2]at h1;have F:=hQd (FIN.out v' w1 h1 h2 h3);obtain⟨hx0,hf0⟩:=HC.out w1 h2;obtain⟨q,n',c',rfl⟩:=zH5 h1;clear h1 h2 h3);go_end0;obtain⟨g',f1,f2,f3⟩:=F.out;exact⟨rfl,g',f1,((Keeps.refl _ _).alloc _).trans f2,f3.of (by simp)⟩
 ·clear hown hb H2;go_enter Tryz.func103,Tryz.ntmps103;go_wp2;go_end0;exact⟨rfl,g,by unfold OutS.put;rw[if_neg he];exact H.out,Keeps.refl _ _,Newer.refl _ _⟩
theorem zQg{w:World}{v:Value}{s:Bs}(h:w.ownsRow 0 5 1 v s.length (zAD s)):
 (convert 72 9 v).run Jb w=.ok (Z (bb s)) w:=by
 have h':=h
 rcases h.2 with ⟨rfl,h0⟩|⟨g,cap,cur,rfl,_⟩
 ·have:s=[]:=List.length_eq_zero_iff.1 h0;subst this;exact run_convert_bytes_nil (P:=Jb) w 72 5 Tryz.underlying72 Tryz.underlying5 0 0 9 Tryz.underlying9
 ·exact run_convert_bytes_back (P:=Jb) w 72 9 5 ⟨g,0,none⟩ cap s Tryz.underlying72 Tryz.underlying5 Tryz.underlying9 (fun j hj=>h'.cells (g:=g) rfl j _ (by simp[zAD,hj]))
theorem zRS(b:Nat)(g:Option Nat)(o:OutS)(w:World)(h:IsOut w b g o):
 Calls Jb 49 #[zAc b] w fun en w'=>en=Y (.tuple #[Z (bb o.text.1),I O o.text.2])∧∃n,w'=w.drewN n:=by
 obtain⟨v,hb,hown,hg,hne⟩:=h;have hc0:=zAK hb 0;have hc1:=zAK hb 1;simp at hc1 hc0;have hconv:=zQg hown;clear hown hb
 by_cases he:o.err=0
 ·have e:o.text=(o.bytes,0):=if_pos he;rw[e];clear e;go_enter Tryz.func49,Tryz.ntmps49;go_wp2;go_ret2;exact⟨rfl,0,rfl⟩
 ·have e:o.text=([],o.err):=if_neg he;rw[e];clear e;go_enter Tryz.func49,Tryz.ntmps49;go_wp2
  go_quiet (fail)
  go_wp2;go_ret2;exact⟨rfl,_,rfl⟩
theorem zOJ(n size:Int)(h0: -9223372036854775808≤n)(h1:n<9223372036854775808)(h2:1≤size)(h3:size≤8):
 fits n size↔wrap64 (n*2 ^ (64 - 8*size).toNat) / 2 ^ (64 - 8*size).toNat=n:=by
 have hc:size=1∨size=2∨size=3∨size=4∨size=5∨size=6∨size=7∨size=8:=by omega
 unfold fits half wrap64
 rcases hc with rfl|rfl|rfl|rfl|rfl|rfl|rfl|rfl<;>simp<;>omega
theorem zEq(n size:Int)(w:World)(h0: -9223372036854775808≤n)(h1:n<9223372036854775808):
 Calls Jb 102 #[I O n,I O size] w fun en w'=>en=Y (U (decide (fits n size)))∧w=w':=by
 by_cases h2:size<1
 ·go_enter Tryz.func102,Tryz.ntmps102;go_wp2;go_ret;exact⟨zAo (decide_eq_false (by unfold fits;omega)).symm,rfl⟩
 ·by_cases h3:8<size
  ·go_enter Tryz.func102,Tryz.ntmps102;go_wp2;go_ret;exact⟨zAo (decide_eq_false (by unfold fits;omega)).symm,rfl⟩
  ·go_enter Tryz.func102,Tryz.ntmps102;go_wp2;go_ret;refine⟨zAo ?_,rfl⟩;rw[Bool.eq_iff_iff,decide_eq_true_iff,beq_iff_eq];exact(zOJ n size h0 h1 oM oM).symm
theorem zM3(n:Int)(k j:Nat)(h:j<k):n / 2 ^ (8*(k - 1 - j)) % 256=(((zAa n k)[j]'(by rw[zAb];exact h)).toNat:Int):=by
 induction k generalizing n with
 |zero=>omega
 |succ k ih=>
  have e:zAa n (k+1)=zAa (n / 256) k++[UInt8.ofNat (n % 256).toNat]:=rfl
  by_cases hj:j=k
  ·subst hj;have h256:(n % 256).toNat<256:=by omega
   simp only[e,zAb,List.getElem_append_right,Nat.le_refl,Nat.sub_self,List.getElem_cons_zero];simp[Nat.mod_eq_of_lt h256]
   omega
  ·have hjk:j<k:=by omega
   have h2:=ih (n / 256) hjk
   have h3:(zAa n (k+1))[j]'(by rw[zAb];exact h)=(zAa (n / 256) k)[j]'(by rw[zAb];exact hjk):=by
    simp only[e];exact List.getElem_append_left _
   rw[h3,←h2];have h4:8*(k+1 - 1 - j)=8+8*(k - 1 - j):=by omega
   rw[h4,Int.pow_add,show(2:Int) ^ 8=256 from rfl,Int.ediv_ediv,if_neg oM];simp
theorem OutS.put_nil(o:OutS):o.put []=o:=by unfold OutS.put;simp
theorem OutS.put_put(o:OutS)(s t:Bs):(o.put s).put t=o.put (s++t):=by unfold OutS.put;split<;>simp_all
def OutS.ok (o:OutS) (n:Nat):Prop:=o.bytes.length+n≤140737488355328
theorem zS7(b:Nat)(g:Option Nat)(o:OutS)(n size:Int)(w:World)(h:IsOut w b g o)(hroom:o.ok 8)(h0: -9223372036854775808≤n)(h1:n<9223372036854775808):
 Calls Jb 50 #[zAc b,I O n,I O size] w fun en w'=>en=Y (.tuple #[])∧∃g',IsOut w' b g' (o.int n size)∧Keeps (OutM b g) w w'∧Newer w g g':=by
 have H:=hQd h;clear h
 by_cases hf:fits n size
 ·have e:o.int n size=o.put (zAa n size.toNat):=if_pos hf;rw[e];clear e;have hd:decide (fits n size)=true:=decide_eq_true hf;obtain⟨k,rfl⟩:∃k:Nat,size=k:=⟨size.toNat,by have:=hf.1;omega⟩;have hk1:1≤k:=by have:=hf.1;omega
  have hk8:k≤8:=by have:=hf.2.1;omega
  clear hf;have HR:=hQd hroom;have H01:=hQd (And.intro h0 h1);clear hroom;go_enter Tryz.func50,Tryz.ntmps50;go_wp2_with (go_at_call 102;refine(zEq _ _ _ H01.out.1 H01.out.2).mono ?_;rintro e w1 ⟨rfl,rfl⟩);go_loopw [14] (fun iv wr=>∃(j:Nat) (g':Option Nat),j≤k∧iv=I O j∧IsOut wr b g' (o.put ((zAa n k).take j))∧Keeps (OutM b g) w wr∧Newer w g g') (fun iv _=>k - (intOf iv).toNat)
  case atStart=>exact⟨0,g,Jd _,rfl,by rw[List.take_zero,OutS.put_nil];exact H.out,Keeps.refl _ _,Newer.refl _ _⟩
  case round=>
   obtain⟨j,g',hj,rfl,hin,hkk,hnw⟩:=hrel;have HIN:=hQd hin;have HKK:=hQd hkk;have HNW:=hQd hnw;clear hin hkk hnw
   by_cases hlt:j<k
   ·have hg:=zM3 n k j hlt;have ht:(zAa n k).take (j+1)=(zAa n k).take j++[(zAa n k)[j]'(by rw[zAb];exact hlt)]:=Jf _;generalize (zAa n k)[j]'(by rw[zAb];exact hlt)=c at hg ht;have HT:=hQd ht;clear ht
    have hr2:(o.put ((zAa n k).take j)).bytes.length+1≤140737488355328:=by
     have h8:=HR.out;unfold OutS.ok at h8;have:((zAa n k).take j).length≤7:=by rw[List.length_take,zAb];omega
     unfold OutS.put
     split
     ·simp only[Jc];omega
     ·omega
    have HR2:=hQd hr2;clear hr2;go_wp2_with (go_at_call 103;refine(zFS _ _ _ c _ HIN.out HR2.out).mono ?_;rintro e w2 ⟨rfl,g2,h2,k2,n2⟩;have H2:=hQd h2;have K2:=hQd k2;have N2:=hQd n2;clear h2 k2 n2);go_roundw
    case rel=>
     refine⟨j+1,g2,oM,by go_num,?_,HKK.out.seq K2.out (OutM.newer HNW.out),HNW.out.trans N2.out HKK.out.size⟩;rw[HT.out,←OutS.put_put];exact H2.out
    case measure=>first|(simp[intOf];done)|(simp[intOf];omega)
   ·go_wp2;go_end0;rw[List.take_of_length_le (by rw[zAb];omega)]at HIN;exact⟨rfl,g',HIN.out,HKK.out,HNW.out⟩
 ·have e:o.int n size=o.fail 11:=if_neg hf;rw[e];clear e;have hd:decide (fits n size)=false:=decide_eq_false hf;have H01:=hQd (And.intro h0 h1);clear hf hroom;go_enter Tryz.func50,Tryz.ntmps50
  go_wp2_with (first
   |(go_at_call 102;refine(zEq _ _ _ H01.out.1 H01.out.2).mono ?_;rintro e w1 ⟨rfl,rfl⟩)
   |(go_at_call 95;refine(zI7 _ _ _ _ _ H.out).mono ?_;rintro e w1 ⟨rfl,h2,k2⟩;have H2:=hQd h2;have K2:=hQd k2;clear h2 k2))
  refine bodyPost_ret (results_none rfl _ _ _) rfl ?_;exact⟨rfl,g,H2.out,K2.out,Newer.refl _ _⟩
def putU (u:Nat):Bs:=if u<128 then[UInt8.ofNat u]else UInt8.ofNat (u % 128+128)::putU (u / 128)
termination_by u
decreasing_by omega
theorem zCy{u:Nat}(h:u<128):putU u=[UInt8.ofNat u]:=by rw[putU,if_pos h]
theorem zFR{u:Nat}(h:¬u<128):putU u=UInt8.ofNat (u % 128+128)::putU (u / 128):=by rw[putU,if_neg h]
theorem zHx(k:Nat):∀u,u<128 ^ (k+1)→(putU u).length≤k+1:=by
 induction k with
 |zero=>intro u h;rw[zCy oM];simp
 |succ k ih=>
  intro u h
  by_cases h1:u<128
  ·rw[zCy h1];simp
  ·rw[zFR h1,Jn]
   have:u / 128<128 ^ (k+1):=by
    rw[Nat.pow_succ]at h;exact Nat.div_lt_of_lt_mul oM
   have:=ih _ this
   omega
theorem zEn(u:Nat)(h:u<18446744073709551616):(putU u).length≤10:=
 zHx 9 u (Nat.lt_trans h dD)
def zBc (n:Int):Nat:=if n<0 then(-(n+1)*2+1).toNat else(n*2).toNat
def zDv (u:Nat):Int:=if u % 2=1 then -((u / 2:Nat):Int) - 1 else((u / 2:Nat):Int)
theorem zLC(n:Int):zDv (zBc n)=n:=by
 unfold zDv zBc
 split<;>split<;>omega
theorem zKY(u:Nat):zBc (zDv u)=u:=by
 unfold zDv zBc
 split<;>split<;>omega
theorem zDE{n:Int}(h0: -9223372036854775808≤n)(h1:n<9223372036854775808):zBc n<18446744073709551616:=by
 unfold zBc
 split<;>omega
theorem zM9(a:Nat)(h:a<18446744073709551616):a ^^^ 18446744073709551615=18446744073709551615 - a:=by
 have h1:(BitVec.ofNat 64 a ^^^ BitVec.allOnes 64).toNat=a ^^^ 18446744073709551615:=by
  rw[BitVec.toNat_xor,BitVec.toNat_ofNat,BitVec.toNat_allOnes,Nat.mod_eq_of_lt (by simpa using h)]
 have h2:BitVec.ofNat 64 a ^^^ BitVec.allOnes 64= ~~~ BitVec.ofNat 64 a:=BitVec.xor_allOnes;rw[←h1,h2,BitVec.toNat_not,BitVec.toNat_ofNat,Nat.mod_eq_of_lt (by simpa using h)]
theorem zNa(n:Int)(w:World)(h0: -9223372036854775808≤n)(h1:n<9223372036854775808):
 Calls Jb 234 #[I O n] w fun en w'=>en=Y (.int .u64 (zBc n))∧w=w':=by
 have H:=hQd (And.intro h0 h1);clear h0 h1;go_enter Tryz.func234,Tryz.ntmps234;go_wp2;go_ret;refine⟨zGf ?_,rfl⟩;obtain⟨h0,h1⟩:=H.out;rw[zLr];simp only[IntKind.wrap_u64]
 by_cases hn:n<0
 ·obtain⟨a,ha⟩:∃a:Nat,n % 18446744073709551616*2 % 18446744073709551616=a:=⟨(n % 18446744073709551616*2 % 18446744073709551616).toNat,oM⟩;have hb:n / 9223372036854775808 % 18446744073709551616=18446744073709551615:=by omega
  have ha2:(a:Int) % 18446744073709551616=a:=by omega
  rw[ha,hb,ha2];have:((18446744073709551615:Int) % 18446744073709551616).toNat=18446744073709551615:=by decide
  rw[this,Int.toNat_natCast,zM9 a oM];unfold zBc;rw[if_pos hn]
  omega
 ·obtain⟨a,ha⟩:∃a:Nat,n % 18446744073709551616*2 % 18446744073709551616=a:=⟨(n % 18446744073709551616*2 % 18446744073709551616).toNat,oM⟩;have hb:n / 9223372036854775808 % 18446744073709551616=0:=by omega
  have ha2:(a:Int) % 18446744073709551616=a:=by omega
  rw[ha,hb,ha2];have:((0:Int) % 18446744073709551616).toNat=0:=by decide
  rw[this,Int.toNat_natCast,Nat.xor_zero];unfold zBc;rw[if_neg hn]
  omega
theorem zNX(u:Nat)(w:World)(h:u<18446744073709551616):
 Calls Jb 230 #[.int .u64 u] w fun en w'=>en=Y (I O (zDv u))∧w=w':=by
 have H:=hQd h;clear h;go_enter Tryz.func230,Tryz.ntmps230;go_wp2;go_ret;refine⟨zGf ?_,rfl⟩;have h:=H.out
 have ha:bits .and .u64 (u:Int) 1=((u % 2:Nat):Int):=by
  rw[zLu];have e1:((u:Int) % 18446744073709551616).toNat=u:=by omega
  have e2:((1:Int) % 18446744073709551616).toNat=1:=by decide
  rw[e1,e2,Nat.and_one_is_mod,IntKind.wrap_u64]
  omega
 rw[ha,zLt];unfold zDv
 by_cases hu:u % 2=1
 ·rw[if_pos hu,hu];have e1:(wrap64 ((u:Int) / 2) % 18446744073709551616).toNat=u / 2:=by simp only[wrap64];omega
  have e2:(wrap64 (-wrap64 ((1:Nat):Int)) % 18446744073709551616).toNat=18446744073709551615:=by simp only[wrap64];omega
  rw[e1,e2,zM9 _ oM,IntKind.wrap_i64]
  omega
 ·rw[if_neg hu];have hz:u % 2=0:=by omega
  rw[hz];have e1:(wrap64 ((u:Int) / 2) % 18446744073709551616).toNat=u / 2:=by simp only[wrap64];omega
  have e2:(wrap64 (-wrap64 ((0:Nat):Int)) % 18446744073709551616).toNat=0:=by simp only[wrap64];omega
  rw[e1,e2,Nat.xor_zero,IntKind.wrap_i64]
  omega
theorem zPf(b:Nat)(g:Option Nat)(o:OutS)(u:Nat)(w:World)(h:IsOut w b g o)(hroom:o.ok 16)(hu:u<18446744073709551616):
 Calls Jb 233 #[zAc b,.int .u64 u] w fun en w'=>en=Y (.tuple #[])∧∃g',IsOut w' b g' (o.put (putU u))∧Keeps (OutM b g) w w'∧Newer w g g':=by
 have H:=hQd h;have HU:=hQd hu;have HR:=hQd hroom;have hlen:=zEn u hu;have HL:=hQd hlen;clear h hu hroom hlen;go_enter Tryz.func233,Tryz.ntmps233;go_wp2;go_loopw [1] (fun uv wr=>∃(v:Nat) (s:Bs) (g':Option Nat),uv=.int .u64 v∧v≤u∧s++putU v=putU u∧IsOut wr b g' (o.put s)∧Keeps (OutM b g) w wr∧Newer w g g') (fun uv _=>(intOf uv).toNat)
 case atStart=>exact⟨u,[],g,rfl,Nat.le_refl _,rfl,by rw[OutS.put_nil];exact H.out,Keeps.refl _ _,Newer.refl _ _⟩
 case round=>
  obtain⟨v,s,g',rfl,hv,hs,hin,hk,hn⟩:=hrel;have HS:=hQd hs;have HIN:=hQd hin;have HK:=hQd hk;have HN:=hQd hn;have HV:=hQd hv
  have hr2:(o.put s).bytes.length+1≤140737488355328:=by
   have h8:=HR.out;unfold OutS.ok at h8;have h9:=HL.out;rw[←hs,Jc]at h9;unfold OutS.put
   split
   ·simp only[Jc];omega
   ·omega
  have HR2:=hQd hr2;clear hs hin hk hn hr2 hv
  by_cases hlt:v<128
  ·obtain⟨c,rfl⟩:∃c:UInt8,v=c.toNat:=⟨UInt8.ofNat v,by simp;omega⟩;have hp:=zCy hlt;rw[UInt8.ofNat_toNat]at hp;have HP:=hQd hp;clear hp;go_wp2_with (go_at_call 103;refine(zFS _ _ _ c _ HIN.out HR2.out).mono ?_;rintro e w2 ⟨rfl,g2,h2,k2,n2⟩;have H2:=hQd h2;have K2:=hQd k2;have N2:=hQd n2;clear h2 k2 n2);go_end0;refine⟨rfl,g2,?_,HK.out.seq K2.out (OutM.newer HN.out),HN.out.trans N2.out HK.out.size⟩;rw[←HS.out,HP.out,←OutS.put_put];exact H2.out
  ·have hp:=zFR hlt;obtain⟨c,hc,hcc⟩:∃c:UInt8,UInt8.ofNat (v % 128+128)=c∧((v:Int) % 128+128=(c.toNat:Int)):=⟨_,rfl,by simp;omega⟩;rw[hc]at hp;have HP:=hQd hp
   have hq:IntKind.u64.wrap ((v:Int) / 128)=((v / 128:Nat):Int):=by
    have:=HV.out;have:=HU.out;rw[IntKind.wrap_u64];omega
   clear hp hc;go_wp2_with (go_at_call 103;refine(zFS _ _ _ c _ HIN.out HR2.out).mono ?_;rintro e w2 ⟨rfl,g2,h2,k2,n2⟩;have H2:=hQd h2;have K2:=hQd k2;have N2:=hQd n2;clear h2 k2 n2);go_roundw
   case rel=>
    refine⟨v / 128,s++[c],g2,?_,by have:=HV.out;omega,?_,?_,HK.out.seq K2.out (OutM.newer HN.out),HN.out.trans N2.out HK.out.size⟩
    ·rfl
    ·have:=HS.out;rw[HP.out]at this
     simpa using this
    ·rw[←OutS.put_put];exact H2.out
   case measure=>first|(simp[intOf];done)|(simp[intOf];omega)
def OutS.putInt (o:OutS) (n:Int):OutS:=if fits n 4 then o.put (putU (zBc n))else o.fail 11
def OutS.putLong (o:OutS) (n:Int):OutS:=o.put (putU (zBc n))
theorem zLM(b:Nat)(g:Option Nat)(o:OutS)(n:Int)(w:World)(h:IsOut w b g o)(hroom:o.ok 16)(h0: -9223372036854775808≤n)(h1:n<9223372036854775808):
 Calls Jb 189 #[zAc b,I O n] w fun en w'=>en=Y (.tuple #[])∧∃g',IsOut w' b g' (o.putLong n)∧Keeps (OutM b g) w w'∧Newer w g g':=by
 have H:=hQd h;have HR:=hQd hroom;have HN:=hQd (And.intro h0 h1);clear h hroom h0 h1;go_enter Tryz.func189,Tryz.ntmps189
 go_wp2_with (first
  |(go_at_call 234;refine(zNa _ _ HN.out.1 HN.out.2).mono ?_;rintro e w1 ⟨rfl,rfl⟩)
  |(go_at_call 233;refine(zPf _ _ _ _ _ H.out HR.out (zDE HN.out.1 HN.out.2)).mono ?_;rintro e w1 ⟨rfl,g2,h2,k2,n2⟩;have H2:=hQd h2;have K2:=hQd k2;have N2:=hQd n2;clear h2 k2 n2))
 go_end0;exact⟨rfl,g2,H2.out,K2.out,N2.out⟩
theorem zNY(b:Nat)(g:Option Nat)(o:OutS)(n:Int)(w:World)(h:IsOut w b g o)(hroom:o.ok 16)(h0: -9223372036854775808≤n)(h1:n<9223372036854775808):
 Calls Jb 190 #[zAc b,I O n] w fun en w'=>en=Y (.tuple #[])∧∃g',IsOut w' b g' (o.putInt n)∧Keeps (OutM b g) w w'∧Newer w g g':=by
 have H:=hQd h;have HR:=hQd hroom;have HN:=hQd (And.intro h0 h1);clear h hroom h0 h1
 by_cases hf:fits n 4
 ·have e:o.putInt n=o.put (putU (zBc n)):=if_pos hf;rw[e];have hd:decide (fits n 4)=true:=decide_eq_true hf;clear e hf;go_enter Tryz.func190,Tryz.ntmps190
  go_wp2_with (first
   |(go_at_call 102;refine(zEq _ _ _ HN.out.1 HN.out.2).mono ?_;rintro e w1 ⟨rfl,rfl⟩)
   |(go_at_call 234;refine(zNa _ _ HN.out.1 HN.out.2).mono ?_;rintro e w1 ⟨rfl,rfl⟩)
   |(go_at_call 233;refine(zPf _ _ _ _ _ H.out HR.out (zDE HN.out.1 HN.out.2)).mono ?_;rintro e w1 ⟨rfl,g2,h2,k2,n2⟩;have H2:=hQd h2;have K2:=hQd k2;have N2:=hQd n2;clear h2 k2 n2))
  go_end0;exact⟨rfl,g2,H2.out,K2.out,N2.out⟩
 ·have e:o.putInt n=o.fail 11:=if_neg hf;rw[e];have hd:decide (fits n 4)=false:=decide_eq_false hf;clear e hf;go_enter Tryz.func190,Tryz.ntmps190
  go_wp2_with (first
   |(go_at_call 102;refine(zEq _ _ _ HN.out.1 HN.out.2).mono ?_;rintro e w1 ⟨rfl,rfl⟩)
   |(go_at_call 95;refine(zI7 _ _ _ _ _ H.out).mono ?_;rintro e w1 ⟨rfl,h2,k2⟩;have H2:=hQd h2;have K2:=hQd k2;clear h2 k2))
  refine bodyPost_ret (results_none rfl _ _ _) rfl ?_;exact⟨rfl,g,H2.out,K2.out,Newer.refl _ _⟩
set_option maxHeartbeats 8000000
def digs (top:Nat):Nat→Nat→Nat→InS→Nat×InS
 |0,_,_,i=>match (i.take 1).1 with
  |[]=>(0,(i.take 1).2)
  | _::_=>(0,(i.take 1).2.fail 3)
 |f+1,read,n,i=>match (i.take 1).1 with
  |[]=>(0,(i.take 1).2)
  |c::_=>
   if (f=0∧top<c.toNat % 128)∨(0<read∧c.toNat % 128=0∧c.toNat<128)then(0,(i.take 1).2.fail 3)
   else if 128≤c.toNat then digs top f (read+1) (n+c.toNat % 128*128 ^ read) (i.take 1).2
   else(n+c.toNat % 128*128 ^ read,(i.take 1).2)
theorem zEB{top f read n:Nat}{i i1:InS}(h:i.take 1=([],i1)):digs top f read n i=(0,i1):=by
 cases f<;>simp[digs,h]
theorem zLb{top read n:Nat}{i i1:InS}{c:UInt8}(h:i.take 1=([c],i1)):digs top 0 read n i=(0,i1.fail 3):=by
 simp[digs,h]
theorem zJw{top f read n:Nat}{i i1:InS}{c:UInt8}(h:i.take 1=([c],i1))(hb:(f=0∧top<c.toNat % 128)∨(0<read∧c.toNat % 128=0∧c.toNat<128)):digs top (f+1) read n i=(0,i1.fail 3):=by
 simp only[digs,h];rw[if_pos hb]
theorem zEC{top f read n:Nat}{i i1:InS}{c:UInt8}(h:i.take 1=([c],i1))(hb:¬((f=0∧top<c.toNat % 128)∨(0<read∧c.toNat % 128=0∧c.toNat<128)))(hm:128≤c.toNat):
 digs top (f+1) read n i=digs top f (read+1) (n+c.toNat % 128*128 ^ read) i1:=by
 simp only[digs,h];rw[if_neg hb,if_pos hm]
theorem zG6{top f read n:Nat}{i i1:InS}{c:UInt8}(h:i.take 1=([c],i1))(hb:¬((f=0∧top<c.toNat % 128)∨(0<read∧c.toNat % 128=0∧c.toNat<128)))(hm:¬128≤c.toNat):
 digs top (f+1) read n i=(n+c.toNat % 128*128 ^ read,i1):=by
 simp only[digs,h];rw[if_neg hb,if_neg hm]
theorem take1(i:InS):(∃i1,i.take 1=([],i1))∨∃c i1,i.take 1=([c],i1):=by
 have h:=i.take_len 1;generalize i.take 1=y at h ⊢;obtain⟨x,i1⟩:=y;simp only at h
 match x,h with
 |[],_=>exact .inl ⟨i1,rfl⟩
 |[c],_=>exact .inr ⟨c,i1,rfl⟩
 | _::_::_,h=>simp at h
theorem zRT(n d r:Nat)(hn:n<128 ^ r)(hr:r<10)(hd:d<128)(h9:r=9→d≤1):
 bits .or .u64 (n:Int) (IntKind.u64.wrap ((d:Int)*2 ^ (7*r)))=((n+d*128 ^ r:Nat):Int):=by
 have hp:(2:Nat) ^ (7*r)=128 ^ r:=by rw[Nat.pow_mul]
 have hpos:0<(128:Nat) ^ r:=Nat.pow_pos dD;have hle:(128:Nat) ^ r≤128 ^ 9:=Nat.pow_le_pow_right dD oM;have p9:(128:Nat) ^ 9=9223372036854775808:=by decide
 have p8:(128:Nat) ^ 8=72057594037927936:=by decide
 rw[p9]at hle
 have hb:d*128 ^ r+128 ^ r≤18446744073709551616:=by
  by_cases h:r=9
  ·subst h;have:=h9 rfl;have:d*128 ^ 9≤1*128 ^ 9:=Nat.mul_le_mul_right _ this;exact Nat.le_trans (Nat.add_le_add_right this _) dD
  ·have h8:(128:Nat) ^ r≤128 ^ 8:=Nat.pow_le_pow_right dD oM;have:(d+1)*128 ^ r≤128*128 ^ 8:=Nat.mul_le_mul oM h8;rw[Nat.add_mul,Nat.one_mul,p8]at this;rw[p8]at h8
   omega
 have e1:((d:Int)*2 ^ (7*r))=((d*128 ^ r:Nat):Int):=by rw[←hp];push_cast;rfl
 have e3:IntKind.u64.wrap ((d*128 ^ r:Nat):Int)=((d*128 ^ r:Nat):Int):=by
  rw[IntKind.wrap_u64];omega
 have e4:((n:Int) % 18446744073709551616).toNat=n:=by omega
 have e5:(((d*128 ^ r:Nat):Int) % 18446744073709551616).toNat=d*128 ^ r:=by omega
 rw[e1,e3,zM1,e4,e5,Nat.or_comm,Nat.mul_comm d,←hp,←Nat.two_pow_add_eq_or_of_lt (by rw[hp];exact hn),IntKind.wrap_u64,hp,Nat.mul_comm _ d]
 omega
theorem zFU{n d r:Nat}(h:n<128 ^ r)(hd:d<128):n+d*128 ^ r<128 ^ (r+1):=by
 rw[Nat.pow_succ];generalize 128 ^ r=p at*;have:d*p≤127*p:=Nat.mul_le_mul_right _ oM
 omega
@[simp high] theorem bb_one (c:UInt8) (h:0<(bb [c]).size):(bb [c])[0]=c:=rfl
theorem zGc{P:Program}{c rest:Code}{Q:Exit→Act→World→Prop}{a:Act}{w:World}(a1:Act)(w1:World)(l:Nat)(J:Act→World→Prop)(μ:Act→World→Nat)(hf:findLabel c l=some (Code.skip.seq rest))(hJ:J a1 w1)
 (first:∀Q,rest.wp P Q a1 w1→c.wp P Q a w)
 (pass:∀a w,J a w→rest.wp P (Exit.jump l (fun a' w'=>J a' w'∧μ a' w'<μ a w) Q) a w):(Code.scope c).wp P Q a w:=by
 have skip:∀(Q:Exit→Act→World→Prop) a w,rest.wp P Q a w→(Code.skip.seq rest).wp P Q a w:=fun Q a w h=>wp_seq_k fun K hK=>wp_skip (hK _ _ h)
 refine wp_scope_jumps l J μ hf (first _ (Code.wp_mono ?_ (pass a1 w1 hJ))) (fun a w h=>skip _ _ _ (pass a w h));intro e a' w' h
 cases e with
 |goto l'=>exact⟨h.1,h.2.1⟩
 | _=>exact h
def DigInv (b most top:Nat) (i:InS) (w:World) (a':Act) (w':World):Prop:=
 ∃(f read n:Nat) (i':InS) (u9 u10 u11 u12 u13 u14 u15 u16 u17 u18 u19 u20 u21 u22 u23 u24 u25 u26 u27 u28 u29 u30 u31 u32 u33 u34 u35 u36 u37 u38 u39 u40 u41 u42 u43 u44 u45 u46 u47 u48 u49 u50 u51 u52 u53 u54 u55 u56 u57 u58 u59 u60 u61 u62 u63 u64:Value),a'={tmps:= #[zAe b,I O most,.int .u64 top,undef,undef,undef,.int .u64 0,.int .u64 n,I O read,u9,u10,u11,u12,u13,u14,u15,u16,u17,u18,u19,u20,u21,u22,u23,u24,u25,u26,u27,u28,u29,u30,u31,u32,u33,u34,u35,u36,u37,u38,u39,u40,u41,u42,u43,u44,u45,u46,u47,u48,u49,u50,u51,u52,u53,u54,u55,u56,u57,u58,u59,u60,u61,u62,u63,u64],defers:=[]}∧read+f=most∧n<128 ^ read∧digs top f read n i'=digs top most 0 0 i∧IsIn w' b i'∧Keeps (· =b) w w'
theorem zNZ(b:Nat)(i:InS)(most top:Nat)(w:World)(h:IsIn w b i)(hm:most≤10)(ht:most=10→top≤1)(htop:top<128):
    Calls Jb 231 #[zAe b,I O most,.int .u64 top] w fun en w'=>en=Y (.int .u64 (digs top most 0 0 i).1)∧IsIn w' b (digs top most 0 0 i).2∧Keeps (· =b) w w':=by
  have HM:=hQd (And.intro hm ht);have HIN:=hQd h;clear h ht;go_enter Tryz.func231,Tryz.ntmps231;go_wp2;refine zGc {tmps:= #[zAe b,I O most,.int .u64 top,undef,undef,undef,.int .u64 0,.int .u64 0,I O 0,undef,undef,undef,undef,undef,undef,undef,undef,undef,undef,undef,undef,undef,undef,undef,undef,undef,undef,undef,undef,undef,undef,undef,undef,undef,undef,undef,undef,undef,undef,undef,undef,undef,undef,undef,undef,undef,undef,undef,undef,undef,undef,undef,undef,undef,undef,undef,undef,undef,undef,undef,undef,undef,undef,undef,undef],defers:=[]} w 0 (DigInv b most top i w) (fun a' _=>(most:Nat)+1 - (intOf (a'.tmps.getD 8 undef)).toNat) rfl ?_ ?_ ?_
  · exact⟨most,0,0,i,_,_,_,_,_,_,_,_,_,_,_,_,_,_,_,_,_,_,_,_,_,_,_,_,_,_,_,_,_,_,_,_,_,_,_,_,_,_,_,_,_,_,_,_,_,_,_,_,_,_,_,_,_,_,_,_,rfl,Nat.zero_add _,dD,rfl,HIN.out,Keeps.refl _ _⟩
  · intro Q h;go_wp2
    go_step3
    first|exact h|(go_step;first|exact h|(go_step;first|exact h|(go_step;first|exact h|(go_step;exact h))))
  · rintro a' w' ⟨f,read,n,i',u9,u10,u11,u12,u13,u14,u15,u16,u17,u18,u19,u20,u21,u22,u23,u24,u25,u26,u27,u28,u29,u30,u31,u32,u33,u34,u35,u36,u37,u38,u39,u40,u41,u42,u43,u44,u45,u46,u47,u48,u49,u50,u51,u52,u53,u54,u55,u56,u57,u58,u59,u60,u61,u62,u63,u64,rfl,hf,hn,hd,hin,hk⟩;have HF:=hQd (And.intro hf hn);have HD:=hQd hd;have HIN2:=hQd hin;have HK:=hQd hk;have hr10:read≤10:=by omega
    clear hd hin hk hn
    rcases take1 i' with ⟨i1,hi1⟩|⟨c,i1,hi1⟩
    · have HI:=hQd hi1;clear hi1 hf;go_wp2_with (go_at_call 67;refine(zD1 _ _ _ _ HIN2.out).mono ?_;rw[HI.out];rintro e w1 ⟨rfl,h1,k1⟩;have H1:=hQd h1;have K1:=hQd k1;clear h1 k1);simp only[Exit.jump];go_ret;rw[←HD.out,zEB HI.out];exact⟨rfl,H1.out,HK.out.trans K1.out⟩
    · have HI:=hQd hi1;clear hi1;have hc:c.toNat<256:=c.toNat_lt;have H9:=hQd (zRT n (c.toNat % 128) read)
      match f,hf with
      |0,hf=>
        have hd1:decide ((most:Int)<(read:Int)+1)=true:=decide_eq_true oM;clear hf;go_wp2_with (go_at_call 67;refine(zD1 _ _ _ _ HIN2.out).mono ?_;rw[HI.out];rintro e w1 ⟨rfl,h1,k1⟩;have H1:=hQd h1;have K1:=hQd k1;clear h1 k1)
        go_quiet (fail)
        try simp only[List.getElem_cons_zero]
        go_wp2_with (go_at_call 70;refine(zCf _ _ _ _ (H1.out.drewN _)).mono ?_;rintro e w2 ⟨rfl,h2,k2⟩;have H2:=hQd h2;have K2:=hQd k2;clear h2 k2)
        all_goals (simp only[Exit.jump];go_ret;rw[←HD.out,zLb HI.out];exact⟨rfl,H2.out,(HK.out.trans K1.out).drewN _ |>.trans K2.out⟩)
      |1,hf=>
        have hd1:decide ((most:Int)<(read:Int)+1)=false:=decide_eq_false oM;have hr9:read≤9:=by omega
        have hd2:((read:Int)+1==(most:Int))=true:=by simp;omega
        clear hf;have ec:([c]:Bs)[0]=c:=rfl
        by_cases hr:read=0<;>by_cases hz:c.toNat % 128=0<;>by_cases hm1:128≤c.toNat<;>by_cases ht1:top<c.toNat % 128
        all_goals
          have hd3:decide ((1:Int)<(read:Int)+1)=decide (read≠0):=decide_eq_decide.mpr oM;have hd4:(((c.toNat:Nat):Int) % 128==0)=decide (c.toNat % 128=0):=by apply Bool.eq_iff_iff.mpr;simp;omega
          have hd5:decide ((128:Int)≤((c.toNat:Nat):Int))=decide (128≤c.toNat):=by exact decide_eq_decide.mpr oM
          have hd6:decide ((top:Int)<((c.toNat:Nat):Int) % 128)=decide (top<c.toNat % 128):=by exact decide_eq_decide.mpr oM
          have HT:=hQd ht1
          first|rw[decide_eq_true ht1]at hd6|rw[decide_eq_false ht1]at hd6
          clear ht1;have HC:=hQd (And.intro (hQd hr) (And.intro (hQd hz) (hQd hm1)))
          first|rw[decide_eq_true hr]at hd3|rw[decide_eq_false (not_not_intro hr)]at hd3
          first|rw[decide_eq_true hz]at hd4|rw[decide_eq_false hz]at hd4
          first|rw[decide_eq_true hm1]at hd5|rw[decide_eq_false hm1]at hd5
          clear hr hz hm1 hc;go_wp2_with (go_at_call 67;refine(zD1 _ _ _ _ HIN2.out).mono ?_;rw[HI.out];rintro e w1 ⟨rfl,h1,k1⟩;have H1:=hQd h1;have K1:=hQd k1;clear h1 k1)
          go_quiet (fail)
          try simp only[List.getElem_cons_zero]
          go_wp2_with (go_at_call 70;refine(zCf _ _ _ _ (H1.out.drewN _)).mono ?_;rintro e w2 ⟨rfl,h2,k2⟩;have H2:=hQd h2;have K2:=hQd k2;clear h2 k2)
          all_goals try go_step3
          all_goals (have hc:c.toNat<256:=c.toNat_lt;obtain⟨hr,hz,hm1⟩:=HC.out;have hr:=hr.out;have hz:=hz.out;have hm1:=hm1.out;obtain⟨h1,h2⟩:=HF.out;have h3:=HM.out;have ht1:=HT.out;first
            |(simp only[Exit.jump];go_ret;rw[←HD.out,zJw HI.out oM];exact⟨rfl,H2.out,(HK.out.trans K1.out).drewN _ |>.trans K2.out⟩)
            |(simp only[Exit.jump];go_ret;rw[←HD.out,zG6 HI.out oM oM];refine⟨zGf ?_,H1.out,(HK.out.trans K1.out).drewN _⟩;exact H9.out h2 oM oM oM)
            | (have e : bits .or .u64 (n : Int) (IntKind.u64.wrap ((c.toNat : Int) % 128 * 2 ^ (7 * read))) = ((n + c.toNat % 128 * 128 ^ read : Nat) : Int) := H9.out h2 oM oM oM
               rw[e]
               exact⟨rfl,⟨0,read+1,n+c.toNat % 128*128 ^ read,i1,_,_,_,_,_,_,_,_,_,_,_,_,_,_,_,_,_,_,_,_,_,_,_,_,_,_,_,_,_,_,_,_,_,_,_,_,_,_,_,_,_,_,_,_,_,_,_,_,_,_,_,_,_,_,_,_,rfl,oM,zFU h2 oM,by rw[←HD.out,zEC HI.out oM oM],H1.out,(HK.out.trans K1.out).drewN _⟩,by simp[intOf];omega⟩)
            |skip)
      |f+2,hf=>
        have hd1:decide ((most:Int)<(read:Int)+1)=false:=decide_eq_false oM;have hr9:read≤8:=by omega
        have hd2:((read:Int)+1==(most:Int))=false:=by simp;omega
        clear hf;have ec:([c]:Bs)[0]=c:=rfl
        by_cases hr:read=0<;>by_cases hz:c.toNat % 128=0<;>by_cases hm1:128≤c.toNat
        all_goals
          have hd3:decide ((1:Int)<(read:Int)+1)=decide (read≠0):=decide_eq_decide.mpr oM;have hd4:(((c.toNat:Nat):Int) % 128==0)=decide (c.toNat % 128=0):=by apply Bool.eq_iff_iff.mpr;simp;omega
          have hd5:decide ((128:Int)≤((c.toNat:Nat):Int))=decide (128≤c.toNat):=by exact decide_eq_decide.mpr oM
          skip
          have HC:=hQd (And.intro (hQd hr) (And.intro (hQd hz) (hQd hm1)))
          first|rw[decide_eq_true hr]at hd3|rw[decide_eq_false (not_not_intro hr)]at hd3
          first|rw[decide_eq_true hz]at hd4|rw[decide_eq_false hz]at hd4
          first|rw[decide_eq_true hm1]at hd5|rw[decide_eq_false hm1]at hd5
          clear hr hz hm1 hc;go_wp2_with (go_at_call 67;refine(zD1 _ _ _ _ HIN2.out).mono ?_;rw[HI.out];rintro e w1 ⟨rfl,h1,k1⟩;have H1:=hQd h1;have K1:=hQd k1;clear h1 k1)
          go_quiet (fail)
          try simp only[List.getElem_cons_zero]
          go_wp2_with (go_at_call 70;refine(zCf _ _ _ _ (H1.out.drewN _)).mono ?_;rintro e w2 ⟨rfl,h2,k2⟩;have H2:=hQd h2;have K2:=hQd k2;clear h2 k2)
          all_goals try go_step3
          all_goals (have hc:c.toNat<256:=c.toNat_lt;obtain⟨hr,hz,hm1⟩:=HC.out;have hr:=hr.out;have hz:=hz.out;have hm1:=hm1.out;obtain⟨h1,h2⟩:=HF.out;have h3:=HM.out;first
            |(simp only[Exit.jump];go_ret;rw[←HD.out,zJw HI.out oM];exact⟨rfl,H2.out,(HK.out.trans K1.out).drewN _ |>.trans K2.out⟩)
            |(simp only[Exit.jump];go_ret;rw[←HD.out,zG6 HI.out oM oM];refine⟨zGf ?_,H1.out,(HK.out.trans K1.out).drewN _⟩;exact H9.out h2 oM oM oM)
            | (have e : bits .or .u64 (n : Int) (IntKind.u64.wrap ((c.toNat : Int) % 128 * 2 ^ (7 * read))) = ((n + c.toNat % 128 * 128 ^ read : Nat) : Int) := H9.out h2 oM oM oM
               rw[e]
               exact⟨rfl,⟨f+1,read+1,n+c.toNat % 128*128 ^ read,i1,_,_,_,_,_,_,_,_,_,_,_,_,_,_,_,_,_,_,_,_,_,_,_,_,_,_,_,_,_,_,_,_,_,_,_,_,_,_,_,_,_,_,_,_,_,_,_,_,_,_,_,_,_,_,_,_,rfl,oM,zFU h2 oM,by rw[←HD.out,zEC HI.out oM oM],H1.out,(HK.out.trans K1.out).drewN _⟩,by simp[intOf];omega⟩)
            |skip)
def mk (l:Bs) (i:Nat):Bs:=(l.take i).map (fun c=>UInt8.ofNat (c.toNat+128))++l.drop i
def zBF (top:Nat):Nat→Nat→Nat→Bs→Except Int (Nat×Nat)
 | _,_,_,[]=> .error 1
 |0,_,_,_::_=> .error 3
 |f+1,r,n,c::t=>
  if (f=0∧top<c.toNat % 128)∨(0<r∧c.toNat % 128=0∧c.toNat<128)then .error 3
  else if 128≤c.toNat then zBF top f (r+1) (n+c.toNat % 128*128 ^ r) t
  else .ok (n+c.toNat % 128*128 ^ r,r+1)
theorem zLL{top r n:Nat}{c:UInt8}{t:Bs}:zBF top 0 r n (c::t)=.error 3:=rfl
theorem zC9{top f r n:Nat}:zBF top f r n []=.error 1:=by cases f<;>rfl
theorem zPc{top f r n:Nat}{c:UInt8}{t:Bs}(hb:(f=0∧top<c.toNat % 128)∨(0<r∧c.toNat % 128=0∧c.toNat<128)):zBF top (f+1) r n (c::t)=.error 3:=by simp only[zBF];rw[if_pos hb]
theorem zIu{top f r n:Nat}{c:UInt8}{t:Bs}(hb:¬((f=0∧top<c.toNat % 128)∨(0<r∧c.toNat % 128=0∧c.toNat<128)))(hm:128≤c.toNat):
 zBF top (f+1) r n (c::t)=zBF top f (r+1) (n+c.toNat % 128*128 ^ r) t:=by simp only[zBF];rw[if_neg hb,if_pos hm]
theorem zIv{top f r n:Nat}{c:UInt8}{t:Bs}(hb:¬((f=0∧top<c.toNat % 128)∨(0<r∧c.toNat % 128=0∧c.toNat<128)))(hm:¬128≤c.toNat):
 zBF top (f+1) r n (c::t)=.ok (n+c.toNat % 128*128 ^ r,r+1):=by simp only[zBF];rw[if_neg hb,if_neg hm]
end Go.Proofs.YteldcbljedeeiaaGreatDoor
namespace Go.Proofs.YteldcbljedeeiaaGreatDoor
open Go.Value renaming bool→U, string→Z, slice→V, int→I, pointer→Ja
open Go.Ending renaming returned→Y
open Go.IntKind renaming i64→O
open _root_.Go.Proofs.Tryz renaming prog→Jb
open _root_.Nat renaming zero_le→Jd, add_assoc→Jm
open _root_.List renaming take_succ_eq_append_getElem→Jf, length_cons→Jn, length_append→Jc, append_nil→Jp, length_drop→Jh, drop_drop→Jk, append_assoc→Je, flatMap_cons→Jg, getElem_mem→Ji, length_map→Jj, take→Jl, drop→Jo
open Go.ChangeShapes Go.WideShapes Go.ChangeAt Go.RowKit
set_option maxRecDepth 100000
theorem Tryz.own:ownKnob Tryz.prog.godebug=none:=by kernel_rfl
theorem Tryz.laidOut:laidOutB Jb=true:=by kernel_rfl
section
variable {H:Type}{enc:TypeId×Value→H}{P:Program}
theorem zI3{f:Func}{s:ChangeSpec}{apart fresh handsOn again:Bool}{W W':World}{args:Array Value}{v:Value}{ds gs:List (DataW H)}{before pa pv:List MemPlace}
 (hW:DataW.Whole enc P f.params.toList s.vars apart W args.toList ds gs before)
 (hres:∀(b:Nat) (sp:Nat→Bool) (hd:Bool),DataW.TrodAll enc P W' b sp hd f.resultTypes.toList (v.resultList f.resultTypes.size) (s.fn H (ds++gs)).results [])
 (hargs:∀sp:Nat→Bool,(∀p∈before,sp p.block=true)→DataW.TrodAll enc P W' 0 sp true f.params.toList args.toList (s.fn H (ds++gs)).args pa)
 (hvars:∀sp:Nat→Bool,(∀p∈before,sp p.block=true)→DataW.TrodVars enc P W' sp s.vars (s.fn H (ds++gs)).vars pv)
 (hps:before=pa++pv)(hb:Below W.heap.size W W')
 (hok:∀(j:Nat) (t:TypeId) (r:Value),f.resultTypes[j]? =some t→(v.resultList f.resultTypes.size)[j]? =some r→Value.okWide P W' .any 0 t r):
 s.post enc P f apart fresh handsOn again W args v W':=by
 have hlt:∀p∈before,p.block<W.heap.size:=fun p hp=>hW.lt p hp
 have hold:∀p∈before,(fun b=>decide (b<W.heap.size)) p.block=true:=fun p hp=>by simpa using hlt p hp
 refine⟨ds,gs,before,[],pa,pv,hW,hres _ _ _,hargs _ hold,hvars _ hold,World.keptBut_mono (fun p hp=>⟨hp,?_⟩) (hb.frame (· ∈before)),fun _=> ?_⟩
 ·rw[hps,List.mem_append]at hp;exact Or.inr hp
 ·obtain⟨_,_,_,_,_,hz,hn⟩:=hW;refine⟨hok,_,_,([]++pa)++pv,⟨[]++pa,pv,trodAll_append (hargs _ (fun _ _=>rfl)) (hres _ _ _),hvars _ (fun _ _=>rfl),rfl,?_,?_⟩,?_⟩
  ·intro b off hp;have hin:MemPlace.cell b off∈before:=by rw[hps];simpa using hp
   rw[hb.frozen (hlt _ hin)];exact hz b off hin
  ·intro ha;have:=hn ha;rw[hps]at this
   simpa using this
  ·intro p hp _;rw[hps]
   simpa using hp
theorem zEd(hl:laidOutB P=true){W W':World}{sp:Nat→Bool}(hb:Below W.heap.size W W'):
 ∀{ts:List TypeId}{vs:List Value}{ds:List (DataW H)}{ps:List MemPlace},ts.all (fun t=>P.readableRec t && decide (t<P.types.size))=true→
  DataW.TrodAll enc P W 0 (fun _=>true) true ts vs ds ps→(∀x∈ps,x.block<W.heap.size)→(∀x∈ps,sp x.block=true)→DataW.TrodAll enc P W' 0 sp true ts vs ds ps
 |[],vs,ds,ps,_,h,_,_=>by
  cases vs<;>cases ds<;>simp_all [DataW.TrodAll]
 |t::ts,vs,ds,ps,hr,h,hlt,hsp=>by
  obtain⟨v,vs',d,ds',p,q,rfl,rfl,rfl,h0,h1⟩:=trodAll_cons h;simp only[List.all_cons,Bool.and_eq_true,decide_eq_true_eq]at hr;refine⟨p,q,WideElems.Trod_stays hl hr.1.1 hr.1.2 h0 (fun x hx=>hb.same (hlt x (by simp[hx]))) (fun x hx=>hsp x (by simp[hx])),?_,rfl⟩;exact zEd hl hb (by simpa using hr.2) h1 (fun x hx=>hlt x (by simp[hx])) (fun x hx=>hsp x (by simp[hx]))
end
theorem zKP{H:Type}{enc:TypeId×Value→H}{k:FuncId}{f:Func}{s:ChangeSpec}{n:Nat}{tb:TypeId}
 (hs:s.vars=[])(hn:f.params.size=n)(hres:f.resultTypes= #[tb])(hb:Tryz.prog.underlying tb=some .bool)
 (hfn:∀ds:List (DataW H),ds.length=n→s.fn H ds={results:=[.lit (.bool true)],args:=ds})
 (hr:f.params.toList.all (fun t=>Tryz.prog.readableRec t && decide (t<Tryz.prog.types.size))=true)
 {W:World}{args:Array Value}{ds gs:List (DataW H)}{before:List MemPlace}
 (hW:DataW.Whole enc Jb f.params.toList s.vars false W args.toList ds gs before)
 (h:∀p,DataW.TrodAll enc Jb W 0 (fun _=>true) true f.params.toList args.toList ds p→(∀x∈p,x.block<W.heap.size)→
  Calls Jb k args W fun e W'=>e=Y (U true)∧Below W.heap.size W W'):
 Calls Jb k args W fun e W'=>∃v,e=Y v∧s.post enc Jb f false true false false W args v W':=by
 have hW':=hW;obtain⟨p,q,hA,hV,rfl,hfz,hnd⟩:=hW;rw[hs]at hV;obtain⟨rfl,rfl⟩:=trodVars_none hV;have hlt:∀x∈p,x.block<W.heap.size:=fun x hx=>hW'.lt x (by simpa using hx)
 have hlen:ds.length=n:=by
  have:∀(ts:List TypeId) (vs:List Value) (ds:List (DataW H)) (ps:List MemPlace),DataW.TrodAll enc Jb W 0 (fun _=>true) true ts vs ds ps→ds.length=ts.length:=by
   intro ts
   induction ts with
   |nil=>intro vs ds ps h;cases vs<;>cases ds<;>simp_all [DataW.TrodAll]
   |cons t ts ih=>
    intro vs ds ps h;obtain⟨v,vs',d,ds',p,q,rfl,rfl,rfl,h0,h1⟩:=trodAll_cons h;simp[ih _ _ _ h1]
  rw[this _ _ _ _ hA]
  simpa using hn
 refine(h p hA hlt).mono ?_;rintro e W' ⟨rfl,hbl⟩;refine⟨_,rfl,?_⟩;have hf:s.fn H (ds++[])={results:=[.lit (.bool true)],args:=ds}:=by rw[Jp];exact hfn ds hlen
 refine zI3 (pa:=p) (pv:=[]) hW' ?_ ?_ ?_ rfl hbl ?_
 ·intro b sp hd;rw[hf,hres];exact trodAll_mk1 (shut_bool hb true)
 ·intro sp hsp;rw[hf];exact zEd Tryz.laidOut hbl hr hA hlt (fun x hx=>hsp x (by simpa using hx))
 ·intro sp _;rw[hf,hs]
  rfl
 ·exact ok_one (P:=Jb) hres rfl (okWide_bool_mk (P:=Jb) hb true)
end Go.Proofs.YteldcbljedeeiaaGreatDoor
namespace Go.Proofs.YteldcbljedeeiaaGreatDoor
open Go.Value renaming bool→U, string→Z, slice→V, int→I, pointer→Ja
open Go.Ending renaming returned→Y
open Go.IntKind renaming i64→O
open _root_.Go.Proofs.Tryz renaming prog→Jb
open _root_.Nat renaming zero_le→Jd, add_assoc→Jm
open _root_.List renaming take_succ_eq_append_getElem→Jf, length_cons→Jn, length_append→Jc, append_nil→Jp, length_drop→Jh, drop_drop→Jk, append_assoc→Je, flatMap_cons→Jg, getElem_mem→Ji, length_map→Jj, take→Jl, drop→Jo
open Go.ChangeShapes Go.WideShapes Go.ChangeAt Go.RowKit Go.Deep
theorem wf_i64{n:Int}(h:(Lit.int .i64 n).wf=true): -9223372036854775808≤n∧n<9223372036854775808:=by
 simp[Lit.wf,IntKind.min,IntKind.max,IntKind.signed,IntKind.bits]at h
 omega
theorem wf_u8{n:Int}(h:(Lit.int .u8 n).wf=true):0≤n∧n<256:=by
 simp[Lit.wf,IntKind.min,IntKind.max,IntKind.signed,IntKind.bits]at h
 omega
def RowsOf {α:Type}(R:World→List Value→α→Prop) (D:Nat→Prop) (w:World) (v:Value) (sz:Nat) (l:List α):Prop:=
 ∃p cap,v=.slice p l.length cap∧(0<l.length→∃b off,p=some ⟨b,off,none⟩∧D b∧b<w.heap.size∧
  ∀i (h:i<l.length),∃cs,cs.length=sz∧R w cs l[i]∧∀f u,cs[f]? =some u→w.cell? ⟨b,off+(i*sz+f),none⟩=some u)
theorem RowsOf.keeps{α:Type}{R:World→List Value→α→Prop}{D:Nat→Prop}{w w':World}{v:Value}{sz:Nat}{l:List α}{M:Nat→Prop}
 (h:RowsOf R D w v sz l)(k:Keeps M w w')(hd:∀b,D b→b<w.heap.size→¬M b)(hR:∀cs x,R w cs x→R w' cs x):RowsOf R D w' v sz l:=by
 obtain⟨p,cap,rfl,h⟩:=h;refine⟨p,cap,rfl,fun h0=> ?_⟩;obtain⟨b,off,rfl,hb,hs,hc⟩:=h h0;refine⟨b,off,rfl,hb,Nat.lt_of_lt_of_le hs k.size,fun i hi=> ?_⟩;obtain⟨cs,h1,h2,h3⟩:=hc i hi;exact⟨cs,h1,hR _ _ h2,fun f u hu=>(k.cell b _ hs (hd b hb hs)).trans (h3 f u hu)⟩
theorem RowsOf.mono{α:Type}{R R':World→List Value→α→Prop}{D D':Nat→Prop}{w:World}{v:Value}{sz:Nat}{l:List α}
 (h:RowsOf R D w v sz l)(hd:∀b,b<w.heap.size→D b→D' b)(hR:∀cs x,R w cs x→R' w cs x):RowsOf R' D' w v sz l:=by
 obtain⟨p,cap,rfl,h⟩:=h;refine⟨p,cap,rfl,fun h0=> ?_⟩;obtain⟨b,off,rfl,hb,hs,hc⟩:=h h0;refine⟨b,off,rfl,hd b hs hb,hs,fun i hi=> ?_⟩;obtain⟨cs,h1,h2,h3⟩:=hc i hi;exact⟨cs,h1,hR _ _ h2,h3⟩
section
variable {H:Type}{enc:TypeId×Value→H}{P:Program}{w:World}{spare:Nat→Bool}{held:Bool}
theorem zTb{α:Type}(n:Nat)(Q:Nat→α→Prop)(h:∀i,i<n→∃x,Q i x):∃l:List α,l.length=n∧∀i (hi:i<l.length),Q i l[i]:=by
 induction n with
 |zero=>exact⟨[],rfl,fun i hi=>absurd hi (by simp)⟩
 |succ n ih=>
  obtain⟨l,hl,hq⟩:=ih (fun i hi=>h i (by omega));obtain⟨x,hx⟩:=h n (by omega);refine⟨l++[x],by simp[hl],fun i hi=> ?_⟩
  by_cases hin:i<l.length
  ·rw[List.getElem_append_left hin];exact hq i hin
  ·have:i=n:=by simp at hi;omega
   subst this;rw[List.getElem_append_right (by omega)]
   simpa [hl]using hx
end
end Go.Proofs.YteldcbljedeeiaaGreatDoor
