/- A text. -/
import Derived.Test.YteldcbljedeeiaaGreatDoorGWholeStrictCard2
import Derived.Deep.RegionHeld3
import Derived.Deep.DeepCutAuto
/- A text. -/
namespace Go.Proofs.YteldcbljedeeiaaGreatDoor
open Go.RowKit

theorem beBytes_sInt_cons (c:UInt8) (t:Bs):beBytes (sInt (c::t)) (t.length+1)=c::t:=by
 induction h:t.length generalizing t with
 |zero=>
  have:t=[]:=List.eq_nil_of_length_eq_zero h;subst this;have hc:=c.toNat_lt;simp only[sInt,List.foldl_nil,beBytes,List.nil_append]
  congr 1
  unfold sByte
  apply UInt8.toNat_inj.1
  split<;>simp<;>omega
 |succ k ih=>
  obtain⟨t',d,rfl⟩:∃t' d,t=t'++[d]:=⟨t.dropLast,t.getLast (by intro h0;rw[h0]at h;simp at h),(List.dropLast_concat_getLast _).symm⟩;have hk:t'.length=k:=by simpa using h
  have hd:=d.toNat_lt;have e:=sInt_snoc c t' d;have h1:sInt (c::(t'++[d])) / 256=sInt (c::t'):=by rw[e];omega
  have h2:(sInt (c::(t'++[d])) % 256).toNat=d.toNat:=by rw[e];omega
  show beBytes (sInt (c::(t'++[d])) / 256) (k+1)++[UInt8.ofNat (sInt (c::(t'++[d])) % 256).toNat]=_
  rw[h1,h2,ih t' hk,UInt8.ofNat_toNat]
  rfl
theorem beBytes_sInt (l:Bs):beBytes (sInt l) l.length=l:=by
 cases l with
 |nil=>rfl
 |cons c t=>exact beBytes_sInt_cons c t

theorem text_stuck {i:InS}(h:i.err≠0):i.text=([],i):=by
 have h1:=(rds_fixed 2 (by decide) (by decide)).stuck i h;unfold InS.text;have h2:i.fixed 2=(⟨false,[]⟩,i):=h1;rw[h2]
 rfl
theorem fail_stuck {i:InS}(h:i.err≠0) (e:Int):i.fail e=i:=if_neg h
theorem close_stuck {i:InS}(h:i.err≠0):i.close=i:=by
 unfold InS.close;split
 · exact fail_stuck h 2
 · rfl

theorem fits_len2 (s:Bs) (h:s.length≤32767):fits (⟨false,s⟩:BlobS).len 2:=by
 have h128:half 2=32768:=by decide
 refine⟨by decide,by decide,?_,?_⟩<;>simp[BlobS.len,h128]<;>omega
def keyRight (s:Bs):Bool:= !s.isEmpty && decide (s.length≤32767)
def keyBytes (s:Bs):Bs:=beBytes 0 2++beBytes s.length 2++s
def keyEnc (s:Bs):Bs×Int:=if keyRight s then(keyBytes s,0)else([],4)
def keyA (s:Bs):Int×InS:=(⟨s,0,0⟩:InS).int 2
def keyI (s:Bs):InS:=if (keyA s).1=0 then(keyA s).2 else(keyA s).2.fail 7
def keyJ (s:Bs):InS:=if (keyI s).text.1=[]then(keyI s).text.2.fail 4 else(keyI s).text.2
def keyDec (s:Bs):Bs×Int:=if (keyJ s).close.err=0 then((keyI s).text.1,0)else([],(keyJ s).close.err)
def keyRd (s:Bs):Bs×Int:=
  if s.length<2 then([],1)
  else if s.take 2≠[0,0]then([],7)
  else if s.length<4 then([],1)
  else if sInt ((s.drop 2).take 2)≤0 then([],4)
  else if (s.length:Int) - 4<sInt ((s.drop 2).take 2)then([],1)
  else if sInt ((s.drop 2).take 2)<(s.length:Int) - 4 then([],2)
  else(s.drop 4,0)

theorem keyDec_bad {s:Bs}{e:Int}(he:e≠0) (h:(keyJ s).err=e):keyDec s=([],e):=by
 subst h;unfold keyDec;rw[close_stuck he,if_neg he]
theorem keyJ_stuck {s:Bs}{e:Int}(he:e≠0) (h:(keyI s).err=e):(keyJ s).err=e:=by
 subst h;unfold keyJ;rw[text_stuck he];simp only[if_pos];rw[fail_stuck he]
theorem sInt2_zero (l:Bs) (h:l.length=2):sInt l=0↔l=[0,0]:=by
 match l,h with
 |[a,b],_=>
  have ha:=a.toNat_lt;have hb:=b.toNat_lt
  constructor
  · intro h;simp only[sInt,List.foldl_cons,List.foldl_nil,sByte]at h;have h2:a.toNat=0∧b.toNat=0:=by split at h<;>omega
    have e1:a=0:=UInt8.toNat_inj.1 h2.1;have e2:b=0:=UInt8.toNat_inj.1 h2.2;rw[e1,e2]
  · intro h;rw[h];decide
theorem keyDec_eq (s:Bs):keyDec s=keyRd s:=by
 have hi:=rds_intN 2 (by decide) (by decide);have hf:=rds_fixed 2 (by decide) (by decide);unfold keyRd
 by_cases h1:s.length<2
 · rw[if_pos h1];obtain⟨_,q,_,h3⟩:=hi.err s 0 1 (Nat.zero_le _) (by simp[getIntN,h1]);have h4:keyA s=(0,⟨s,q,1⟩):=h3;refine keyDec_bad (by decide) (keyJ_stuck (by decide) ?_);unfold keyI;rw[h4]
   rfl
 rw[if_neg h1];have ht:(s.take 2).length=2:=by rw[List.length_take];omega
 obtain⟨_,h3⟩:=hi.ok s 0 (sInt (s.take 2)) 2 (Nat.zero_le _) (by simp[getIntN,h1]);have h4:keyA s=(sInt (s.take 2),⟨s,2,0⟩):=h3
 by_cases h2:s.take 2≠[0,0]
 · rw[if_pos h2];have h5:sInt (s.take 2)≠0:=fun h=>h2 ((sInt2_zero _ ht).1 h)
   refine keyDec_bad (by decide) (keyJ_stuck (by decide) ?_);unfold keyI;rw[h4,if_neg h5]
   rfl
 rw[if_neg h2];have h5:sInt (s.take 2)=0:=(sInt2_zero _ ht).2 (by simpa using h2);have hI:keyI s=⟨s,2,0⟩:=by unfold keyI;rw[h4];exact if_pos h5
 by_cases h6:s.length<4
 · rw[if_pos h6];obtain⟨_,q,_,h7⟩:=hf.err s 2 1 (by omega) (if_pos (by rw[List.length_drop];omega))
   have h8:(keyI s).text=([],⟨s,q,1⟩):=by
    rw[hI];unfold InS.text;have h7':(⟨s,2,0⟩:InS).fixed 2=(⟨false,[]⟩,⟨s,q,1⟩):=h7;rw[h7'];rfl
   refine keyDec_bad (by decide) ?_;unfold keyJ;rw[h8]
   rfl
 rw[if_neg h6];have hl:¬(s.drop 2).length<2:=by rw[List.length_drop];omega
 obtain⟨n,hn⟩:∃n,sInt ((s.drop 2).take 2)=n:=⟨_,rfl⟩;have hr:refixed 2 (s.drop 2)=gotS (s.drop 2) 2 n:=by rw[←hn];exact if_neg hl
 rw[hn];have hlen:((s.drop 2).length:Int) - (2:Nat)=(s.length:Int) - 4:=by rw[List.length_drop];omega
 unfold gotS at hr
 by_cases g1:n= -1
 · rw[if_pos (by omega)];rw[if_pos g1]at hr;obtain⟨_,h7⟩:=hf.ok s 2 _ _ (by omega) hr;have h7':(⟨s,2,0⟩:InS).fixed 2=(BlobS.none,⟨s,4,0⟩):=h7;refine keyDec_bad (by decide) ?_;unfold keyJ;rw[hI];unfold InS.text;rw[h7']
   rfl
 rw[if_neg g1]at hr
 by_cases g2:n<0
 · rw[if_pos (by omega)];rw[if_pos g2]at hr;obtain⟨_,q,_,h7⟩:=hf.err s 2 4 (by omega) hr;have h7':(⟨s,2,0⟩:InS).fixed 2=(⟨false,[]⟩,⟨s,q,4⟩):=h7;refine keyDec_bad (by decide) ?_;unfold keyJ;rw[hI];unfold InS.text;rw[h7']
   rfl
 rw[if_neg g2,hlen]at hr
 by_cases g3:(s.length:Int) - 4<n
 · rw[if_pos g3]at hr;rw[if_neg (by omega),if_pos g3];obtain⟨_,q,_,h7⟩:=hf.err s 2 1 (by omega) hr;have h7':(⟨s,2,0⟩:InS).fixed 2=(⟨false,[]⟩,⟨s,q,1⟩):=h7;refine keyDec_bad (by decide) ?_;unfold keyJ;rw[hI];unfold InS.text;rw[h7']
   rfl
 rw[if_neg g3]at hr;obtain⟨h9,h7⟩:=hf.ok s 2 _ _ (by omega) hr;have h7':(⟨s,2,0⟩:InS).fixed 2=(⟨false,((s.drop 2).drop 2).take n.toNat⟩,⟨s,4+n.toNat,0⟩):=by rw[show 4+n.toNat=2+(2+n.toNat) by omega];exact h7
 have h8:(keyI s).text=(((s.drop 2).drop 2).take n.toNat,⟨s,4+n.toNat,0⟩):=by rw[hI];unfold InS.text;rw[h7'];rfl
 rw[List.drop_drop]at h8
 by_cases g4:n≤0
 · rw[if_pos g4];have h0:n.toNat=0:=by omega
   rw[h0]at h8;refine keyDec_bad (by decide) ?_;unfold keyJ;rw[h8]
   rfl
 rw[if_neg g4,if_neg g3]
 have hne:(s.drop 4).take n.toNat≠[]:=by
   intro h;have:=congrArg List.length h;rw[List.length_take,List.length_drop]at this;simp at this
   omega
 have hJ:keyJ s=⟨s,4+n.toNat,0⟩:=by
   unfold keyJ;rw[h8];exact if_neg hne
 unfold keyDec;rw[hJ,h8]
 by_cases g5:n<(s.length:Int) - 4
 · rw[if_pos g5];have hc:(⟨s,4+n.toNat,0⟩:InS).close=⟨s,4+n.toNat,2⟩:=if_pos (by simp only[InS.left];omega);rw[hc]
   rfl
 · rw[if_neg g5];have hc:(⟨s,4+n.toNat,0⟩:InS).close=⟨s,4+n.toNat,0⟩:=if_neg (by simp only[InS.left];omega);rw[hc,List.take_of_length_le (by rw[List.length_drop];omega)]
   rfl
theorem keyRd_enc (s:Bs) (id:Bs) (h:keyRd s=(id,0)):keyEnc id=(s,0):=by
 unfold keyRd at h
 split at h
 · cases h
 split at h
 · cases h
 split at h
 · cases h
 split at h
 · cases h
 split at h
 · cases h
 split at h
 · cases h
 rename_i h1 h2 h3 h4 h5 h6
 cases h
 have hl2:((s.drop 2).take 2).length=2:=by rw[List.length_take,List.length_drop];omega
 have hb:=beBytes_sInt ((s.drop 2).take 2);rw[hl2]at hb;have hn:sInt ((s.drop 2).take 2)=((s.drop 4).length:Int):=by rw[List.length_drop];omega
 have hr:=(sInt_beBytes_iff (sInt ((s.drop 2).take 2)) 2 (by decide)).1 (by rw[hb]);have h128:half 2=32768:=by decide
 have hright:keyRight (s.drop 4)=true:=by
  unfold keyRight;have h8:(s.drop 4).length≤32767:=by omega
  have h9:0<(s.drop 4).length:=by rw[List.length_drop];omega
  cases hd:s.drop 4 with
  |nil=>rw[hd]at h9;simp at h9
  |cons c t=>rw[hd]at h8;simp at h8 ⊢;omega
 unfold keyEnc;rw[if_pos hright];unfold keyBytes;rw[←hn,hb];have e0:beBytes 0 2=[0,0]:=by decide
 have e1:s.take 2=[0,0]:=by simpa using h2
 rw[e0,←e1]
 have e2:s.take 2++(s.drop 2).take 2++s.drop 4=s:=by
  have h7:(s.drop 2).take 2++s.drop 4=s.drop 2:=by
   have:=List.take_append_drop 2 (s.drop 2);rw[List.drop_drop]at this;exact this
  rw[List.append_assoc,h7,List.take_append_drop]
 rw[e2]
def InS.ints:List Nat→InS→List Int×InS
  |[],i=>([],i)
  |k::t,i=>((i.int k).1::(InS.ints t (i.int k).2).1,(InS.ints t (i.int k).2).2)
def intsOf:List Nat→Bs→List Int
  |[],_=>[]
  |k::t,s=>sInt (s.take k)::intsOf t (s.drop k)
theorem int_okA (k:Nat) (h1:1≤k) (h8:k≤8) (s:Bs) (pos:Nat) (hp:pos+k≤s.length):(⟨s,pos,0⟩:InS).int k=(sInt ((s.drop pos).take k),⟨s,pos+k,0⟩):=by
 have h:=(rds_intN k h1 h8).ok s pos (sInt ((s.drop pos).take k)) k (by omega) (by unfold getIntN;rw[if_neg (by rw[List.length_drop];omega)]);exact h.2
theorem int_shortA (k:Nat) (h1:1≤k) (h8:k≤8) (s:Bs) (pos:Nat) (hp:pos≤s.length) (hs:s.length<pos+k):∃q,q≤s.length∧(⟨s,pos,0⟩:InS).int k=(0,⟨s,q,1⟩):=by
 exact((rds_intN k h1 h8).err s pos 1 hp (by unfold getIntN;rw[if_pos (by rw[List.length_drop];omega)])).2
theorem int_stuckA (k:Nat) (h1:1≤k) (h8:k≤8) (i:InS) (h:i.err≠0):i.int k=(0,i):=(rds_intN k h1 h8).stuck i h
theorem ints_ok:∀(l:List Nat) (s:Bs) (pos:Nat),(∀k∈l,1≤k∧k≤8)→pos+l.sum≤s.length→InS.ints l ⟨s,pos,0⟩=(intsOf l (s.drop pos),⟨s,pos+l.sum,0⟩)
  |[],s,pos,_,_=>by simp[InS.ints,intsOf]
  |k::t,s,pos,hk,hp=>by
    have h1:=hk k (by simp);rw[List.sum_cons]at hp;have h2:=int_okA k h1.1 h1.2 s pos (by omega);have h3:=ints_ok t s (pos+k) (fun x hx=>hk x (by simp[hx])) (by omega);unfold InS.ints intsOf;rw[h2];simp only;rw[h3,List.drop_drop,List.sum_cons,Nat.add_assoc]
theorem ints_stuck:∀(l:List Nat) (i:InS),(∀k∈l,1≤k∧k≤8)→i.err≠0→InS.ints l i=(l.map fun _=>0,i)
  |[],_,_,_=>rfl
  |k::t,i,hk,hi=>by
    have h1:=hk k (by simp);unfold InS.ints;rw[int_stuckA k h1.1 h1.2 i hi];simp only;rw[ints_stuck t i (fun x hx=>hk x (by simp[hx])) hi]
    rfl
theorem ints_short:∀(l:List Nat) (s:Bs) (pos:Nat),(∀k∈l,1≤k∧k≤8)→pos≤s.length→s.length<pos+l.sum→∃q,q≤s.length∧(InS.ints l ⟨s,pos,0⟩).2=⟨s,q,1⟩
  |[],s,pos,_,h1,h2=>by simp at h2;omega
  |k::t,s,pos,hk,hp,hs=>by
    have h1:=hk k (by simp);rw[List.sum_cons]at hs;unfold InS.ints
    by_cases h:pos+k≤s.length
    · rw[int_okA k h1.1 h1.2 s pos h];exact ints_short t s (pos+k) (fun x hx=>hk x (by simp[hx])) h (by omega)
    · obtain⟨q,hq,e⟩:=int_shortA k h1.1 h1.2 s pos hp (by omega);rw[e];refine⟨q,hq,?_⟩;simp only;rw[ints_stuck t _ (fun x hx=>hk x (by simp[hx])) (show(1:Int)≠0 by decide)]
def OutS.ints (o:OutS) (l:List (Int×Nat)):OutS:=l.foldl (fun o x=>o.int x.1 x.2) o
def encInts (l:List (Int×Nat)):Bs:=l.flatMap fun x=>beBytes x.1 x.2
def FitsAll (l:List (Int×Nat)):Prop:=∀x∈l,fits x.1 x.2
instance (l:List (Int×Nat)):Decidable (FitsAll l):=by unfold FitsAll;infer_instance
theorem OutS.put_err {o:OutS}(h:o.err≠0) (s:Bs):o.put s=o:=if_neg h
theorem OutS.fail_stuck {o:OutS}(h:o.err≠0) (e:Int):o.fail e=o:=if_neg h
theorem OutS.int_stuck {o:OutS}(h:o.err≠0) (n k:Int):o.int n k=o:=by
 unfold OutS.int;split
 · exact OutS.put_err h _
 · exact OutS.fail_stuck h _
theorem OutS.ints_stuck:∀(l:List (Int×Nat)) (o:OutS),o.err≠0→o.ints l=o
  |[],_,_=>rfl
  |x::t,o,h=>by
    show OutS.ints (o.int x.1 x.2) t=o
    rw[OutS.int_stuck h];exact OutS.ints_stuck t o h
theorem OutS.ints_put:∀(l:List (Int×Nat)) (o:OutS),FitsAll l→o.ints l=o.put (encInts l)
  |[],o,_=>by show o=o.put [];rw[OutS.put_nil]
  |x::t,o,h=>by
    show OutS.ints (o.int x.1 x.2) t=_
    rw[OutS.ints_put t _ (fun y hy=>h y (by simp[hy]))];unfold OutS.int;rw[if_pos (h x (by simp)),OutS.put_put,Int.toNat_natCast]
    rfl
theorem encInts_length (l:List (Int×Nat)):(encInts l).length=(l.map (·.2)).sum:=by
 induction l with
 |nil=>rfl
 |cons x t ih=>unfold encInts at*;rw[List.flatMap_cons,List.length_append,beBytes_length,ih];rfl
theorem intsOf_enc:∀(l:List (Int×Nat)) (rest:Bs),FitsAll l→intsOf (l.map (·.2)) (encInts l++rest)=l.map (·.1)
  |[],_,_=>rfl
  |x::t,rest,h=>by
    have h1:=h x (by simp);have hs:1≤x.2:=by have:=h1.1;omega
    have h2:=intsOf_enc t rest (fun y hy=>h y (by simp[hy]));have e:encInts (x::t)=beBytes x.1 x.2++encInts t:=rfl
    have h3:(beBytes x.1 x.2++(encInts t++rest)).take x.2=beBytes x.1 x.2:=by
      have h4:=beBytes_length x.1 x.2;rw[List.take_append_of_le_length (by omega),List.take_of_length_le (by omega)]
    have h4:(beBytes x.1 x.2++(encInts t++rest)).drop x.2=encInts t++rest:=by
      rw[List.drop_left' (beBytes_length x.1 x.2)]
    have hfit:=h1.2.2;rw[Int.toNat_natCast]at hfit
    show intsOf (x.2::t.map (·.2)) (encInts (x::t)++rest)=x.1::t.map (·.1)
    rw[e,List.append_assoc];unfold intsOf;rw[h3,h4,(sInt_beBytes_iff x.1 x.2 hs).2 hfit,h2]
theorem sInt_fits (s:Bs) (k:Nat) (h1:1≤k) (h8:k≤8) (hl:s.length=k):fits (sInt s) k:=by
 have h:=beBytes_sInt s;have h2:sInt (beBytes (sInt s) k)=sInt s:=by rw[←hl,h]
 have h3:=(sInt_beBytes_iff (sInt s) k h1).1 h2;refine⟨by omega,by omega,?_⟩;rw[Int.toNat_natCast];exact h3
theorem enc_intsOf:∀(l:List Nat) (s:Bs),l.sum≤s.length→encInts ((intsOf l s).zip l)=s.take l.sum
  |[],_,_=>by simp[encInts,intsOf]
  |k::t,s,hs=>by
    rw[List.sum_cons]at hs;have h2:=enc_intsOf t (s.drop k) (by rw[List.length_drop];omega);unfold intsOf;rw[List.zip_cons_cons]
    show beBytes (sInt (s.take k)) k++encInts _=_
    rw[h2,List.sum_cons];have h3:=beBytes_sInt (s.take k);rw[List.length_take,Nat.min_eq_left (by omega)]at h3;rw[h3,List.take_add]
theorem putVaried_right {o:OutS}{x:BlobS}(hx:x.right=true) (hl:x.data.length≤2147483647):o.putVaried x=o.put (encV x):=by
 unfold OutS.putVaried OutS.putData;rw[if_pos hx];have hr: -2147483648≤x.len∧x.len<2147483648:=by unfold BlobS.len;split<;>omega
 have h1:o.putInt x.len=o.put (putU (foldN x.len)):=by
   unfold OutS.putInt
   rw [if_pos (by have e4 : half 4 = 2147483648 := by decide
                  unfold fits;have:(4:Int).toNat=4:=rfl
                  rw[this,e4];omega)]
 rw[h1,OutS.put_put]
 rfl
def encH (h:HdrS):Bs:=encV ⟨false,h.key⟩++encV h.val
def encI (n:Int):Bs:=putU (foldN n)
def encHs (l:List HdrS):Bs:=encI l.length++l.flatMap encH
def hright (l:List HdrS):Bool:=l.all fun h=>h.val.right
def hsum (l:List HdrS):Nat:=(l.map fun h=>h.key.length+h.val.data.length+1).sum
theorem hsum_cons (h:HdrS) (t:List HdrS):hsum (h::t)=h.key.length+h.val.data.length+1+hsum t:=rfl
theorem hsum_le:∀(l:List HdrS),l.length≤hsum l∧hsize l=hsum l+31*l.length∧∀h∈l,h.key.length+h.val.data.length+1≤hsum l
  |[]=>by simp[hsum,hsize]
  |h::t=>by
    obtain⟨a,b,c⟩:=hsum_le t;have e:hsize (h::t)=h.size+hsize t:=rfl;rw[hsum_cons,e,b,List.length_cons];unfold HdrS.size;refine⟨by omega,by omega,?_⟩;intro x hx
    rcases List.mem_cons.1 hx with rfl|hx
    · omega
    · have:=c x hx;omega
theorem putHdr_right {o:OutS}{h:HdrS}(hx:h.val.right=true) (hl:h.key.length+h.val.data.length≤2147483647):o.putHdr h=o.put (encH h):=by
 unfold OutS.putHdr OutS.putName;rw[putVaried_right (x:=⟨false,h.key⟩) rfl (by simp only;omega),putVaried_right hx (by omega),OutS.put_put]
 rfl
theorem foldl_hdr_right:∀(l:List HdrS) (o:OutS),hright l=true→hsum l≤2147483647→l.foldl OutS.putHdr o=o.put (l.flatMap encH)
  |[],o,_,_=>by rw[List.flatMap_nil,OutS.put_nil];rfl
  |h::t,o,hr,hs=>by
    unfold hright at hr;rw[List.all_cons,Bool.and_eq_true]at hr;rw[hsum_cons]at hs;rw[List.foldl_cons,putHdr_right hr.1 (by omega),foldl_hdr_right t _ hr.2 (by omega),OutS.put_put]
    rfl
theorem putInt_len {o:OutS}{n:Int}(h0: -2147483648≤n) (h1:n<2147483648):o.putInt n=o.put (encI n):=by
 unfold OutS.putInt
 rw [if_pos (by have e4 : half 4 = 2147483648 := by decide
                unfold fits;have:(4:Int).toNat=4:=rfl
                rw[this,e4];omega)]
 rfl
theorem putHdrs_right {o:OutS}{l:List HdrS}(hr:hright l=true) (hs:hsum l≤2147483647):o.putHdrs l=o.put (encHs l):=by
 have:=(hsum_le l).1;unfold OutS.putHdrs;rw[putInt_len (by omega) (by omega),foldl_hdr_right l _ hr hs,OutS.put_put]
 rfl
def reHdr (l:Bs):Except Int (HdrS×Nat):=match revaried l with
  | .error e=> .error e
  | .ok x=>if x.1.null then .error 4 else match revaried (l.drop x.2)with
    | .error e=> .error e
    | .ok y=> .ok (⟨x.1.data,y.1⟩,x.2+y.2)
def reHdrN:Nat→Bs→Except Int (List HdrS×Nat)
  |0,_=> .ok ([],0)
  |n+1,l=>match reHdr l with
    | .error e=> .error e
    | .ok x=>match reHdrN n (l.drop x.2)with
      | .error e=> .error e
      | .ok y=> .ok (x.1::y.1,x.2+y.2)
def reHdrs (l:Bs):Except Int (List HdrS×Nat):=match vgetI l with
  | .error e=> .error e
  | .ok x=>if x.1<0 then .error 4 else if ((l.length:Int) - x.2) / 2<x.1 then .error 1 else match reHdrN x.1.toNat (l.drop x.2)with
    | .error e=> .error e
    | .ok y=> .ok (y.1,x.2+y.2)
theorem InS.fail_ok0' (s:Bs) (p:Nat) (e:Int):(⟨s,p,0⟩:InS).fail e=⟨s,p,e⟩:=rfl
theorem name_stuck {i:InS}(h:i.err≠0):i.name=([],i):=by
 unfold InS.name;rw[rds_varied.stuck i h]
 rfl
theorem reHdr_ok {s:Bs}{pos:Nat}{h:HdrS}{m:Nat}(hp:pos≤s.length) (e:reHdr (s.drop pos)=.ok (h,m)):pos+m≤s.length∧(⟨s,pos,0⟩:InS).name.1=h.key∧(⟨s,pos,0⟩:InS).name.2.varied=(h.val,⟨s,pos+m,0⟩):=by
 unfold reHdr at e
 cases h1:revaried (s.drop pos)with
 |error e1=>rw[h1]at e;cases e
 |ok x=>
  rw[h1]at e;obtain⟨g1,g2⟩:=rds_varied.ok s pos x.1 x.2 hp h1
  cases hn:x.1.null
  · simp only[hn]at e
    cases h2:revaried ((s.drop pos).drop x.2)with
    |error e2=>rw[h2]at e;cases e
    |ok y=>
     rw[h2]at e
     cases e
     rw[List.drop_drop]at h2;obtain⟨g3,g4⟩:=rds_varied.ok s (pos+x.2) y.1 y.2 g1 h2;unfold InS.name InS.bytes;rw[g2];rw[Nat.add_assoc]at g3 g4;refine⟨g3,rfl,?_⟩
     show(if x.1.null=true then(⟨s,pos+x.2,0⟩:InS).fail 4 else⟨s,pos+x.2,0⟩).varied=_
     rw[hn];exact g4
  · simp[hn]at e
theorem reHdr_err {s:Bs}{pos:Nat}{e:Int}(hp:pos≤s.length) (h:reHdr (s.drop pos)=.error e):e≠0∧∃q,q≤s.length∧(⟨s,pos,0⟩:InS).name.2.varied.2=⟨s,q,e⟩:=by
 unfold reHdr at h
 cases h1:revaried (s.drop pos)with
 |error e1=>
  rw[h1]at h
  cases h
  obtain⟨g1,q,g2,g3⟩:=rds_varied.err s pos e hp h1;refine⟨g1,q,g2,?_⟩;unfold InS.name InS.bytes;rw[g3]
  show(InS.varied ⟨s,q,e⟩).2=_
  rw[rds_varied.stuck ⟨s,q,e⟩ g1]
 |ok x=>
  rw[h1]at h;obtain⟨g1,g2⟩:=rds_varied.ok s pos x.1 x.2 hp h1;unfold InS.name InS.bytes;rw[g2];simp only
  cases hn:x.1.null
  · simp only[hn]at h
    cases h2:revaried ((s.drop pos).drop x.2)with
    |error e2=>
     rw[h2]at h
     cases h
     rw[List.drop_drop]at h2;obtain⟨g3,q,g4,g5⟩:=rds_varied.err s (pos+x.2) e g1 h2;refine⟨g3,q,g4,?_⟩
     show(InS.varied ⟨s,pos+x.2,0⟩).2=_
     rw[g5]
    |ok y=>rw[h2]at h;cases h
  · simp[hn]at h;subst h;refine⟨by decide,pos+x.2,g1,?_⟩
    show(InS.varied ⟨s,pos+x.2,4⟩).2=_
    rw[rds_varied.stuck ⟨s,pos+x.2,4⟩ (show(4:Int)≠0 by decide)]
theorem zq16 {p:Prop}(h:p:=by
  rw[h2]at h
  cases h
  obtain⟨a,b⟩:=ih.1 y.1 y.2 h2;refine⟨by omega,?_⟩;rw[b,List.append_assoc,Nat.add_assoc]
  rfl):p:=h
theorem hdrLoop_at:∀(n:Nat) (acc:List HdrS) (s:Bs) (pos:Nat),pos≤s.length→
    (∀t k,reHdrN n (s.drop pos)=.ok (t,k)→pos+k≤s.length∧InS.hdrLoop n acc ⟨s,pos,0⟩=(acc++t,⟨s,pos+k,0⟩))∧
    (∀e,reHdrN n (s.drop pos)=.error e→e≠0∧∃q,q≤s.length∧InS.hdrLoop n acc ⟨s,pos,0⟩=([],⟨s,q,e⟩))
  |0,acc,s,pos,hp=>⟨fun t k h=>(by cases h;simp[InS.hdrLoop];exact hp),fun e h=>(by cases h)⟩
  |n+1,acc,s,pos,hp=>by
    unfold reHdrN InS.hdrLoop
    cases h1:reHdr (s.drop pos)with
    |error e1=>
      refine⟨fun t k h=>(by cases h),fun e h=> ?_⟩
      cases h
      obtain⟨g1,q,g2,g3⟩:=reHdr_err hp h1;refine⟨g1,q,g2,?_⟩;rw[g3,if_neg g1]
    |ok x=>
      obtain⟨g1,g2,g3⟩:=reHdr_ok hp h1;have ih:=hdrLoop_at n (acc++[x.1]) s (pos+x.2) g1;rw[g2,g3];simp only[if_true];rw[List.drop_drop];refine⟨fun t k h=> ?_,fun e h=> ?_⟩
      · cases h2:reHdrN n (s.drop (pos+x.2))with
        |error e2=>rw[h2]at h;cases h
        |ok y=>
          exact zq16
      · cases h2:reHdrN n (s.drop (pos+x.2))with
        |error e2=>
          rw[h2]at h
          cases h
          exact ih.2 e h2
        |ok y=>rw[h2]at h;cases h
theorem hdrLoop_stuck {i:InS}(h:i.err≠0) (n:Nat):InS.hdrLoop n [] i=([],i):=by
 cases n with
 |zero=>rfl
 |succ n=>
  unfold InS.hdrLoop;rw[name_stuck h];simp only;rw[rds_varied.stuck i h,if_neg h]
theorem rds_hdrs:Rds InS.hdrs reHdrs []:=by
 refine⟨?_,?_,?_⟩
 · intro s pos a k hp h;unfold reHdrs at h
   cases h1:vgetI (s.drop pos)with
   |error e1=>rw[h1]at h;cases h
   |ok x=>
    rw[h1]at h;obtain⟨g1,g2⟩:=rds_int.ok s pos x.1 x.2 hp h1;simp only at h
    split at h
    · cases h
    rename_i hn
    split at h
    · cases h
    rename_i hm
    rw[List.length_drop]at hm;rw[List.drop_drop]at h
    cases h2:reHdrN x.1.toNat (s.drop (pos+x.2))with
    |error e2=>rw[h2]at h;cases h
    |ok y=>
      rw[h2]at h
      cases h
      obtain⟨a1,b1⟩:=(hdrLoop_at x.1.toNat [] s (pos+x.2) g1).1 y.1 y.2 h2;refine⟨by omega,?_⟩;unfold InS.hdrs InS.hdrHead;rw[g2];simp only;rw[if_neg hn,if_neg (by simp only[InS.left];omega),b1,List.nil_append,Nat.add_assoc]
 · intro s pos e hp h;unfold reHdrs at h
   cases h1:vgetI (s.drop pos)with
   |error e1=>
    rw[h1]at h
    cases h
    obtain⟨g1,q,g2,g3⟩:=rds_int.err s pos e hp h1;refine⟨g1,q,g2,?_⟩;unfold InS.hdrs InS.hdrHead;rw[g3];simp only;rw[if_neg (by decide),if_neg (by omega)]
    rfl
   |ok x=>
    rw[h1]at h;obtain⟨g1,g2⟩:=rds_int.ok s pos x.1 x.2 hp h1;simp only at h;unfold InS.hdrs InS.hdrHead;rw[g2];simp only
    split at h
    · rename_i hn
      cases h
      rw[if_pos hn,InS.fail_ok0'];exact⟨by decide,_,g1,hdrLoop_stuck (show(4:Int)≠0 by decide) _⟩
    rename_i hn
    rw[if_neg hn]
    split at h
    · rename_i hm
      cases h
      rw[List.length_drop]at hm;rw[if_pos (by simp only[InS.left];omega),InS.fail_ok0'];exact⟨by decide,_,g1,hdrLoop_stuck (show(1:Int)≠0 by decide) _⟩
    rename_i hm
    rw[List.length_drop]at hm;rw[if_neg (by simp only[InS.left];omega)];rw[List.drop_drop]at h
    cases h2:reHdrN x.1.toNat (s.drop (pos+x.2))with
    |error e2=>
      rw[h2]at h
      cases h
      exact(hdrLoop_at x.1.toNat [] s (pos+x.2) g1).2 e h2
    |ok y=>rw[h2]at h;cases h
 · intro i hi;unfold InS.hdrs InS.hdrHead;rw[rds_int.stuck i hi];simp only;rw[if_neg (by decide),if_neg (by omega)]
   rfl

theorem revaried_one {l:Bs}{b:BlobS}{m:Nat}(h:revaried l=.ok (b,m)):encV b=l.take m∧0<m∧m≤l.length∧b.right=true∧b.data.length<2147483648∧b.data.length<m+(if b.null then 1 else 0):=by
 unfold revaried at h
 cases h1:vgetI l with
 |error e=>rw[h1]at h;cases h
 |ok x=>
  obtain⟨n,k⟩:=x;rw[h1]at h;obtain⟨g1,g2,g3,g4,g5⟩:=vgetI_one h1;unfold gotS at h;simp only at h
  split at h
  · rename_i hn
    cases h
    subst hn;refine⟨?_,g2,g3,rfl,by simp[BlobS.none],by simp[BlobS.none]⟩;unfold encV;rw[←g1]
    show putU (foldN (-1))++[]=_
    rw[List.append_nil]
  · rename_i hn
    split at h
    · cases h
    · rename_i hn0
      split at h
      · cases h
      · rename_i hm
        cases h
        have hl:(l.drop k).length=l.length - k:=List.length_drop;have hd:((l.drop k).take n.toNat).length=n.toNat:=by rw[List.length_take,hl];omega
        refine⟨?_,by omega,by omega,rfl,by simp only;rw[hd];omega,by simp only;rw[hd];omega⟩;unfold encV
        have e:(⟨false,(l.drop k).take n.toNat⟩:BlobS).len=n:=by
         unfold BlobS.len;simp only[Bool.false_eq_true,if_false];rw[hd];omega
        rw[e,g1,List.take_add]
theorem reHdr_one {l:Bs}{h:HdrS}{m:Nat}(e:reHdr l=.ok (h,m)):encH h=l.take m∧2≤m∧m≤l.length∧h.val.right=true∧h.key.length+h.val.data.length+1≤m:=by
 unfold reHdr at e
 cases h1:revaried l with
 |error e1=>rw[h1]at e;cases e
 |ok x=>
  rw[h1]at e
  cases hn:x.1.null
  · simp only[hn]at e
    cases h2:revaried (l.drop x.2)with
    |error e2=>rw[h2]at e;cases e
    |ok y=>
     rw[h2]at e
     cases e
     obtain⟨a1,a2,a3,a4,a5,a6⟩:=revaried_one h1;obtain⟨b1,b2,b3,b4,b5,b6⟩:=revaried_one h2;rw[List.length_drop]at b3;rw[hn]at a6;simp only[Bool.false_eq_true,if_false]at a6;refine⟨?_,by omega,by omega,b4,?_⟩
     · unfold encH;have ex:(⟨false,x.1.data⟩:BlobS)=x.1:=by cases hx:x.1;rw[hx]at hn;simp only at hn;rw[hn]
       simp only;rw[ex,a1,b1,List.take_add]
     · simp only
       by_cases hy:y.1.null=true
       · have:y.1.data=[]:=by unfold BlobS.right at b4;rw[hy]at b4;simpa using b4
         rw[this];simp only[List.length_nil];omega
       · rw[if_neg hy]at b6;omega
  · simp[hn]at e
theorem reHdrN_one:∀(n:Nat) (l:Bs) (t:List HdrS) (m:Nat),reHdrN n l=.ok (t,m)→t.flatMap encH=l.take m∧m≤l.length∧t.length=n∧hright t=true∧hsum t≤m
  |0,l,t,m,h=>by cases h;simp[hright,hsum]
  |n+1,l,t,m,h=>by
    unfold reHdrN at h
    cases h1:reHdr l with
    |error e1=>rw[h1]at h;cases h
    |ok x=>
      rw[h1]at h;simp only at h
      cases h2:reHdrN n (l.drop x.2)with
      |error e2=>rw[h2]at h;cases h
      |ok y=>
        rw[h2]at h
        cases h
        obtain⟨a1,a2,a3,a4,a5⟩:=reHdr_one h1;obtain⟨b1,b2,b3,b4,b5⟩:=reHdrN_one n (l.drop x.2) y.1 y.2 h2;rw[List.length_drop]at b2;refine⟨?_,by omega,by simp[b3],?_,?_⟩
        · rw[List.flatMap_cons,a1,b1,List.take_add]
        · unfold hright at*;rw[List.all_cons,a4,b4];rfl
        · rw[hsum_cons];omega
theorem reHdrs_one {l:Bs}{t:List HdrS}{m:Nat}(h:reHdrs l=.ok (t,m)):encHs t=l.take m∧0<m∧m≤l.length∧hright t=true∧hsum t≤m:=by
 unfold reHdrs at h
 cases h1:vgetI l with
 |error e=>rw[h1]at h;cases h
 |ok x=>
  rw[h1]at h;obtain⟨g1,g2,g3,g4,g5⟩:=vgetI_one h1;simp only at h
  split at h
  · cases h
  rename_i hn
  split at h
  · cases h
  cases h2:reHdrN x.1.toNat (l.drop x.2)with
  |error e2=>rw[h2]at h;cases h
  |ok y=>
   rw[h2]at h
   cases h
   obtain⟨b1,b2,b3,b4,b5⟩:=reHdrN_one _ _ _ _ h2;rw[List.length_drop]at b2;refine⟨?_,by omega,by omega,b4,by omega⟩;unfold encHs encI;have e:(y.1.length:Int)=x.1:=by rw[b3];omega
   rw[e,g1,b1,List.take_add]

theorem putU_pos (u:Nat):1≤(putU u).length:=by
 rw[putU]
 split<;>simp
theorem encV_pos (b:BlobS):1≤(encV b).length:=by
 have h:=putU_pos (foldN b.len);unfold encV;rw[List.length_append];omega
theorem reHdr_back (h:HdrS) (hr:h.val.right=true) (hl:h.key.length+h.val.data.length≤2147483647) (rest:Bs):reHdr (encH h++rest)=.ok (h,(encH h).length):=by
 unfold reHdr encH;rw[List.append_assoc,revaried_back ⟨false,h.key⟩ rfl (by simp only;omega)];simp only[Bool.false_eq_true,if_false];rw[List.drop_left' rfl,revaried_back h.val hr (by omega)];simp only[List.length_append]
theorem reHdrN_back:∀(t:List HdrS) (rest:Bs),hright t=true→hsum t≤2147483647→reHdrN t.length (t.flatMap encH++rest)=.ok (t,(t.flatMap encH).length)
  |[],_,_,_=>rfl
  |h::t,rest,hr,hs=>by
    unfold hright at hr;rw[List.all_cons,Bool.and_eq_true]at hr;rw[hsum_cons]at hs;rw[List.length_cons,List.flatMap_cons,List.append_assoc];unfold reHdrN;rw[reHdr_back h hr.1 (by omega)];simp only;rw[List.drop_left' rfl,reHdrN_back t rest hr.2 (by omega)];simp only[List.length_append]
theorem encHs_two:∀(t:List HdrS),2*t.length≤(t.flatMap encH).length
  |[]=>by simp
  |h::t=>by
    have h1:=encHs_two t
    have h2:2≤(encH h).length:=by
      have a:=encV_pos ⟨false,h.key⟩;have b:=encV_pos h.val;unfold encH;rw[List.length_append];omega
    rw[List.flatMap_cons,List.length_append,List.length_cons];omega
theorem reHdrs_back (t:List HdrS) (rest:Bs) (hr:hright t=true) (hs:hsum t≤2147483647):reHdrs (encHs t++rest)=.ok (t,(encHs t).length):=by
 have h0:=(hsum_le t).1;have h2:=encHs_two t;unfold reHdrs encHs encI;rw[List.append_assoc,vgetI_put t.length (by omega) (by omega)];simp only;rw[if_neg (by omega),if_neg (by rw[List.length_append,List.length_append];omega),List.drop_left' rfl,Int.toNat_natCast,reHdrN_back t rest hr hs];simp only[List.length_append]
theorem hdr_cells4 {W0 w:World}{K:Know}{L:List Res}{l:List HdrS}{b off cap:Nat}(hk:K.has (Know.flat RHdr (.slice (some ⟨b,off,none⟩) l.length cap) 3 l)){i:Nat}{x:HdrS}(hi:i<l.length) (hx:l[i]'hi=x) (h:St W0 w K L):
  w.cell? ⟨b,off+i*3,none⟩=some (.string (bb x.key))∧w.cell? ⟨b,off+i*3+1,none⟩=some (.bool x.val.null)∧w.cell? ⟨b,off+i*3+2,none⟩=some (.string (bb x.val.data))∧St W0 w K L:=by
 obtain⟨b',off',hq,c0,c1,c2⟩:=hdr_cells hk h i hi
 cases hq
 rw[hx]at c0 c1 c2;exact⟨c0,c1,c2,h⟩
theorem encV_le (b:BlobS) (h:b.data.length≤140737488355328):(encV b).length≤b.data.length+10:=by
 have hr:=b.len_range h;have:=putU_len _ (foldN_lt hr.1 hr.2);unfold encV;rw[List.length_append];omega
theorem encH_le (x:HdrS) (h:x.size≤140737488355328):(encH x).length≤x.size:=by
 unfold HdrS.size at*;have h1:=encV_le ⟨false,x.key⟩ (by simp only;omega);have h2:=encV_le x.val (by omega);unfold encH;simp only at h1;rw[List.length_append];omega
theorem encHs_le:∀(l:List HdrS),hsize l≤140737488355328→(l.flatMap encH).length≤hsize l
  |[],_=>by simp
  |x::t,h=>by
    have e:hsize (x::t)=x.size+hsize t:=rfl;have h1:=encH_le x (by omega);have h2:=encHs_le t (by omega);rw[List.flatMap_cons,List.length_append];omega
structure RecS where
  time:Int
  off:Int
  key:BlobS
  val:BlobS
  hdrs:List HdrS
deriving DecidableEq
def RecS.zero:RecS:=⟨0,0,⟨false,[]⟩,⟨false,[]⟩,[]⟩
def RecS.R (x:RecS):Prop:=(-9223372036854775808≤x.time∧x.time<9223372036854775808)∧(-9223372036854775808≤x.off∧x.off<9223372036854775808)
def RecS.sum (x:RecS):Nat:=x.key.data.length+x.val.data.length+hsum x.hdrs
def RecS.allRight (x:RecS):Bool:=x.key.right && x.val.right && hright x.hdrs
def recOk (x:RecS):Int:=if x.off<0∨2147483647<x.off then 11 else if x.allRight then 0 else 4
def recF (x:RecS):Bs:=[0]++(encI x.time++(encI x.off++(encV x.key++(encV x.val++encHs x.hdrs))))
def encR (x:RecS):Bs:=encV ⟨false,recF x⟩
def OutS.putRec (o:OutS) (x:RecS):OutS:=if recOk x=0 then o.put (encR x)else o.fail (recOk x)
theorem encI_le (n:Int) (h: -9223372036854775808≤n∧n<9223372036854775808):(encI n).length≤10:=putU_len _ (foldN_lt h.1 h.2)
theorem recF_le (x:RecS) (hx:x.R) (hs:x.sum≤1000000):(recF x).length≤32*x.sum+100:=by
 unfold RecS.sum at*;have h0:=hsum_le x.hdrs;have h1:=encI_le x.time hx.1;have h2:=encI_le x.off hx.2;have h3:=encV_le x.key (by omega);have h4:=encV_le x.val (by omega);have h5:=encHs_le x.hdrs (by omega);have h6:=encI_le x.hdrs.length (by omega);unfold recF encHs;simp only[List.length_append,List.length_cons,List.length_nil]
 omega
theorem recOk_zero {x:RecS}(h:recOk x=0):(0≤x.off∧x.off≤2147483647)∧x.allRight=true:=by
 unfold recOk at h
 split at h
 · cases h
 · split at h
   · exact⟨by omega,by assumption⟩
   · cases h

def reInner (s:Bs):Except Int RecS:=
  match getIntN 1 s with
  | .error e=> .error e
  | .ok a=>if a.1=0 then match vgetL (s.drop 1)with
      | .error e=> .error e
      | .ok t=>match vgetI (s.drop (1+t.2))with
        | .error e=> .error e
        | .ok o=>if o.1<0 then .error 11 else match revaried (s.drop (1+t.2+o.2))with
          | .error e=> .error e
          | .ok k=>match revaried (s.drop (1+t.2+o.2+k.2))with
            | .error e=> .error e
            | .ok v=>match reHdrs (s.drop (1+t.2+o.2+k.2+v.2))with
              | .error e=> .error e
              | .ok h=>if 1+t.2+o.2+k.2+v.2+h.2=s.length then .ok ⟨t.1,o.1,k.1,v.1,h.1⟩else .error 2
    else .error 8
def InS.recTail (i:InS) (t o:Int):RecS×InS:=(⟨t,o,i.varied.1,i.varied.2.varied.1,i.varied.2.varied.2.hdrs.1⟩,i.varied.2.varied.2.hdrs.2)
def InS.recOff (i:InS) (t:Int):RecS×InS:=(if i.vint.1<0 then i.vint.2.fail 11 else i.vint.2).recTail t i.vint.1
def InS.recTime (i:InS):RecS×InS:=i.vlong.2.recOff i.vlong.1
def InS.recFields (i:InS):RecS×InS:=(if (i.int 1).1=0 then(i.int 1).2 else(i.int 1).2.fail 8).recTime
theorem tail_stuck {i:InS}(h:i.err≠0) (t o:Int):(i.recTail t o).2=i:=by
 unfold InS.recTail;rw[rds_varied.stuck i h];simp only;rw[rds_varied.stuck i h];simp only;rw[rds_hdrs.stuck i h]
theorem off_stuck {i:InS}(h:i.err≠0) (t:Int):(i.recOff t).2=i:=by
 unfold InS.recOff;rw[rds_int.stuck i h];simp only;rw[if_neg (by decide),tail_stuck h]
theorem time_stuck {i:InS}(h:i.err≠0):(i.recTime).2=i:=by
 unfold InS.recTime;rw[rds_long.stuck i h,off_stuck h]
theorem InS.fail_stuck0 {i:InS}(h:i.err≠0) (e:Int):i.fail e=i:=if_neg h
theorem close_err {s:Bs}{q:Nat}{e:Int}(h:e≠0):(⟨s,q,e⟩:InS).close.err=e:=by
 unfold InS.close
 split
 · rw[InS.fail_stuck0 (show(⟨s,q,e⟩:InS).err≠0 from h)]
 · rfl
theorem InS.fail_stuck {i:InS}(h:i.err≠0) (e:Int):i.fail e=i:=if_neg h
def recD (s:Bs):RecS×InS:=(⟨s,0,0⟩:InS).recFields
theorem inner_at (s:Bs):(∀x,reInner s=.ok x→recD s=(x,⟨s,s.length,0⟩))∧(∀e,reInner s=.error e→e≠0∧(recD s).2.close.err=e):=by
 unfold reInner recD InS.recFields;have hi:=rds_intN 1 (by decide) (by decide)
 cases h0:getIntN 1 s with
 |error e0=>
  obtain⟨g1,q,g2,g3⟩:=hi.err s 0 e0 (Nat.zero_le _) (by rw[List.drop_zero];exact h0);have g3:(⟨s,0,0⟩:InS).int 1=(0,⟨s,q,e0⟩):=g3;refine⟨fun x h=>(by cases h),fun e h=> ?_⟩
  cases h
  rw[g3];simp only[if_true];rw[time_stuck (show(⟨s,q,e0⟩:InS).err≠0 from g1)];exact⟨g1,close_err g1⟩
 |ok a=>
  obtain⟨g1,g3⟩:=hi.ok s 0 a.1 a.2 (Nat.zero_le _) (by rw[List.drop_zero];exact h0);have g3:(⟨s,0,0⟩:InS).int 1=(a.1,⟨s,0+a.2,0⟩):=g3
  have ha2:a.2=1:=by
    unfold getIntN at h0
    split at h0
    · cases h0
    · cases h0;rfl
  rw[Nat.zero_add,ha2]at g3 g1;rw[g3];simp only
  by_cases ha:a.1=0
  · rw[if_pos ha,if_pos ha];unfold InS.recTime
    cases h1:vgetL (s.drop 1)with
    |error e1=>
     obtain⟨k1,q,k2,k3⟩:=rds_long.err s 1 e1 g1 h1;refine⟨fun x h=>(by cases h),fun e h=> ?_⟩
     cases h
     rw[k3];simp only;rw[off_stuck (show(⟨s,q,e1⟩:InS).err≠0 from k1)];exact⟨k1,close_err k1⟩
    |ok t=>
     obtain⟨k1,k3⟩:=rds_long.ok s 1 t.1 t.2 g1 h1;rw[k3];simp only;unfold InS.recOff
     cases h2:vgetI (s.drop (1+t.2))with
     |error e2=>
      obtain⟨m1,q,m2,m3⟩:=rds_int.err s (1+t.2) e2 k1 h2;refine⟨fun x h=>(by cases h),fun e h=> ?_⟩
      cases h
      rw[m3];simp only;rw[if_neg (by decide),tail_stuck (show(⟨s,q,e2⟩:InS).err≠0 from m1)];exact⟨m1,close_err m1⟩
     |ok o=>
      obtain⟨m1,m3⟩:=rds_int.ok s (1+t.2) o.1 o.2 k1 h2;rw[m3];simp only
      by_cases ho:o.1<0
      · rw[if_pos ho,if_pos ho];refine⟨fun x h=>(by cases h),fun e h=> ?_⟩
        cases h
        rw[InS.fail_ok0',tail_stuck (show(11:Int)≠0 by decide)];exact⟨by decide,close_err (by decide)⟩
      · rw[if_neg ho,if_neg ho];unfold InS.recTail
        cases h3:revaried (s.drop (1+t.2+o.2))with
        |error e3=>
         obtain⟨n1,q,n2,n3⟩:=rds_varied.err s _ e3 m1 h3;refine⟨fun x h=>(by cases h),fun e h=> ?_⟩
         cases h
         rw[n3];simp only;have n1':(⟨s,q,e3⟩:InS).err≠0:=n1;rw[rds_varied.stuck _ n1'];simp only;rw[rds_hdrs.stuck _ n1'];exact⟨n1,close_err n1⟩
        |ok k=>
         obtain⟨n1,n3⟩:=rds_varied.ok s _ k.1 k.2 m1 h3;rw[n3];simp only
         cases h4:revaried (s.drop (1+t.2+o.2+k.2))with
         |error e4=>
          obtain⟨p1,q,p2,p3⟩:=rds_varied.err s _ e4 n1 h4;refine⟨fun x h=>(by cases h),fun e h=> ?_⟩
          cases h
          rw[p3];simp only;have p1':(⟨s,q,e4⟩:InS).err≠0:=p1;rw[rds_hdrs.stuck _ p1'];exact⟨p1,close_err p1⟩
         |ok v=>
          obtain⟨p1,p3⟩:=rds_varied.ok s _ v.1 v.2 n1 h4;rw[p3];simp only
          cases h5:reHdrs (s.drop (1+t.2+o.2+k.2+v.2))with
          |error e5=>
           obtain⟨r1,q,r2,r3⟩:=rds_hdrs.err s _ e5 p1 h5;refine⟨fun x h=>(by cases h),fun e h=> ?_⟩
           cases h
           rw[r3];exact⟨r1,close_err r1⟩
          |ok h=>
           obtain⟨r1,r3⟩:=rds_hdrs.ok s _ h.1 h.2 p1 h5;rw[r3];simp only
           by_cases hE:1+t.2+o.2+k.2+v.2+h.2=s.length
           · rw[if_pos hE,hE];refine⟨fun x hh=>(by cases hh;rfl),fun e hh=>(by cases hh)⟩
           · rw[if_neg hE];refine⟨fun x hh=>(by cases hh),fun e hh=> ?_⟩
             cases hh
             refine⟨by decide,?_⟩;unfold InS.close;rw[if_pos (by simp only[InS.left];omega)]
             rfl
  · rw[if_neg ha,if_neg ha];refine⟨fun x h=>(by cases h),fun e h=> ?_⟩
    cases h
    rw[InS.fail_ok0',time_stuck (show(8:Int)≠0 by decide)];exact⟨by decide,close_err (by decide)⟩

def reRec (l:Bs):Except Int (RecS×Nat):=match revaried l with
  | .error e=> .error e
  | .ok b=>if b.1.null then .error 4 else match reInner b.1.data with
    | .error e=> .error e
    | .ok x=> .ok (x,b.2)
def InS.recJ (i:InS):InS:=if (recD i.name.1).2.close.err=0 then i.name.2 else i.name.2.fail (recD i.name.1).2.close.err
def InS.record (i:InS):RecS×InS:=if i.recJ.err=0 then((recD i.name.1).1,i.recJ)else(RecS.zero,i.recJ)
theorem rds_rec:Rds InS.record reRec RecS.zero:=by
 refine⟨?_,?_,?_⟩
 · intro s pos a k hp h;unfold reRec at h
   cases h1:revaried (s.drop pos)with
   |error e=>rw[h1]at h;cases h
   |ok b=>
    rw[h1]at h;obtain⟨g1,g2⟩:=rds_varied.ok s pos b.1 b.2 hp h1
    cases hn:b.1.null
    · simp only[hn]at h
      cases h2:reInner b.1.data with
      |error e=>rw[h2]at h;cases h
      |ok x=>
       rw[h2]at h
       cases h
       have hi:=(inner_at b.1.data).1 _ h2;refine⟨g1,?_⟩
       have hnm:(⟨s,pos,0⟩:InS).name=(b.1.data,⟨s,pos+b.2,0⟩):=by
        unfold InS.name InS.bytes;rw[g2];simp only[hn]
        rfl
       have hc:(⟨b.1.data,b.1.data.length,0⟩:InS).close.err=0:=by unfold InS.close;rw[if_neg (by simp only[InS.left];omega)]
       unfold InS.record InS.recJ;rw[hnm];simp only[hi,hc,if_true]
    · simp[hn]at h
 · intro s pos e hp h;unfold reRec at h
   cases h1:revaried (s.drop pos)with
   |error e1=>
    rw[h1]at h
    cases h
    obtain⟨g1,q,g2,g3⟩:=rds_varied.err s pos e hp h1;refine⟨g1,q,g2,?_⟩
    have hnm:(⟨s,pos,0⟩:InS).name=([],⟨s,q,e⟩):=by
      unfold InS.name InS.bytes;rw[g3]
      rfl
    unfold InS.record InS.recJ;rw[hnm];simp only[InS.fail_stuck (show(⟨s,q,e⟩:InS).err≠0 from g1),ite_self];rw[if_neg g1]
   |ok b=>
    rw[h1]at h;obtain⟨g1,g2⟩:=rds_varied.ok s pos b.1 b.2 hp h1
    cases hn:b.1.null
    · simp only[hn]at h
      cases h2:reInner b.1.data with
      |error e2=>
       rw[h2]at h
       cases h
       obtain⟨k1,k2⟩:=(inner_at b.1.data).2 _ h2;refine⟨k1,pos+b.2,g1,?_⟩
       have hnm:(⟨s,pos,0⟩:InS).name=(b.1.data,⟨s,pos+b.2,0⟩):=by
        unfold InS.name InS.bytes;rw[g2];simp only[hn]
        rfl
       unfold InS.record InS.recJ;rw[hnm];simp only[k2];rw[if_neg k1,InS.fail_ok0',if_neg k1]
      |ok x=>rw[h2]at h;cases h
    · simp[hn]at h;subst h;refine⟨by decide,pos+b.2,g1,?_⟩
      have hnm:(⟨s,pos,0⟩:InS).name=(b.1.data,⟨s,pos+b.2,4⟩):=by
       unfold InS.name InS.bytes;rw[g2];simp only[hn]
       rfl
      unfold InS.record InS.recJ;rw[hnm];simp only[InS.fail_stuck (show(⟨s,pos+b.2,4⟩:InS).err≠0 from(show(4:Int)≠0 by decide)),ite_self];rw[if_neg (show ¬(4:Int)=0 by decide)]
 · intro i hi;unfold InS.record InS.recJ;rw[name_stuck hi];simp only[InS.fail_stuck hi,ite_self];rw[if_neg hi]
theorem raw7 {W0 w:World}{K:Know}{L:List Res}{b:Nat}{T:TypeId}{v0 v1 v2 v3 v4 v5 v6:Value}(h:St W0 w K (.raw b #[v0,v1,v2,v3,v4,v5,v6] T::L)):
  w.cell? ⟨b,0,none⟩=some v0∧w.cell? ⟨b,1,none⟩=some v1∧w.cell? ⟨b,2,none⟩=some v2∧w.cell? ⟨b,3,none⟩=some v3∧w.cell? ⟨b,4,none⟩=some v4∧w.cell? ⟨b,5,none⟩=some v5∧w.cell? ⟨b,6,none⟩=some v6∧
  w.frozen? ⟨b,0,none⟩=false∧w.frozen? ⟨b,1,none⟩=false∧w.frozen? ⟨b,2,none⟩=false∧w.frozen? ⟨b,3,none⟩=false∧w.frozen? ⟨b,4,none⟩=false∧w.frozen? ⟨b,5,none⟩=false∧w.frozen? ⟨b,6,none⟩=false:=
 ⟨h.rawCell 0,h.rawCell 1,h.rawCell 2,h.rawCell 3,h.rawCell 4,h.rawCell 5,h.rawCell 6,h.rawFree 0,h.rawFree 1,h.rawFree 2,h.rawFree 3,h.rawFree 4,h.rawFree 5,h.rawFree 6⟩
def bcells (x:BlobS):List Value:=[.bool x.null,.string (bb x.data)]
theorem elem_blob:ElemT Tryz.prog 23 (.agg #[.bool false,.string ⟨#[]⟩]) 2 24:=elemT_of (by kernel_rfl) rfl (by decide)
def blobsOf (x:RecS):List BlobS:=x.key::x.val::x.hdrs.map HdrS.val
theorem blobsOf_right (x:RecS):(blobsOf x).all BlobS.right=x.allRight:=by
 unfold blobsOf RecS.allRight hright;rw[List.all_cons,List.all_cons,List.all_map,Bool.and_assoc]
 rfl
theorem bcells_get (l:List BlobS) (k:Nat) (h:k<l.length):(l.flatMap bcells)[k*2]? =some (.bool l[k].null)∧(l.flatMap bcells)[k*2+1]? =some (.string (bb l[k].data)):=by
 have h0:=flatMap_get l bcells 2 (fun _ _=>rfl) k h 0 (by decide);have h1:=flatMap_get l bcells 2 (fun _ _=>rfl) k h 1 (by decide);rw[Nat.add_zero]at h0;exact⟨h0,h1⟩

set_option maxHeartbeats 1000000 in
set_option maxRecDepth 100000 in
theorem rec_allRight (g cap n:Nat) (l:List BlobS) (hn:n=l.length) (hl:l.length≤9223372036854775807){W0 w:World}{K:Know}{L:List Res}(h:St W0 w K (.row (.slice (some ⟨g,0,none⟩) n cap) 23 2 n (l.flatMap bcells)::L)):
  Calls Tryz.prog 187 #[.slice (some ⟨g,0,none⟩) n cap] w fun en w'=>en=.returned (.bool (l.all BlobS.right))∧St W0 w' K (.row (.slice (some ⟨g,0,none⟩) n cap) 23 2 n (l.flatMap bcells)::L):=by
 subst hn;have H:=Lib.hid h;obtain⟨r,hr⟩:∃r,l.all BlobS.right=r:=⟨_,rfl⟩;have HR:=Lib.hid hr;rw[hr];clear h hr;go_enter Tryz.func187,Tryz.ntmps187;go_wp2;go_loopw [7] (fun iv wr=>∃k:Nat,k≤l.length∧iv=.int .i64 k∧(l.take k).all BlobS.right=true∧St W0 wr K (.row (.slice (some ⟨g,0,none⟩) l.length cap) 23 2 l.length (l.flatMap bcells)::L)) (fun iv _=>l.length - (intOf iv).toNat)
 case atStart=>exact⟨0,Nat.zero_le _,rfl,rfl,H.out⟩
 case round=>
  obtain⟨k,hk,rfl,hall,hst⟩:=hrel;have HALL:=Lib.hid hall;clear hall
  by_cases hlt:k<l.length
  · obtain⟨e0,e1⟩:=bcells_get l k hlt;have c0:=(hst.rowCell (k*2) (by omega)).trans e0;have c1:=(hst.rowCell (k*2+1) (by omega)).trans e1;have hnx:(l.take (k+1)).all BlobS.right=(l[k]'hlt).right:=by rw[List.take_succ_eq_append_getElem hlt,List.all_append,HALL.out];simp
    have hno:(l[k]'hlt).right=false→l.all BlobS.right=false:=by
      intro h;rw[List.all_eq_false];exact⟨_,List.getElem_mem hlt,by rw[h];decide⟩
    obtain⟨x,hx⟩:∃x,l[k]'hlt=x:=⟨_,rfl⟩;rw[hx]at c0 c1 hnx hno;have HX:=Lib.hid (And.intro hnx hno);have H:=Lib.hid hst;clear hst e0 e1 hx hnx hno
    cases hxr:x.right
    all_goals
      have ER:=Lib.hid hxr;clear hxr;go_wp2_with (go_at_call 149;refine(blob_right x (H.out.alloc _)).mono ?_;rw[ER.out];rintro e wn ⟨rfl,h⟩;replace H:=Lib.hid h;clear h)
    · go_ret;exact⟨ret_bool (by rw[←HR.out];exact(HX.out.2 ER.out).symm),H.out⟩
    · go_roundw
      case rel=>exact⟨k+1,hlt,by go_num,by rw[HX.out.1,ER.out],H.out⟩
      case measure=>first|(simp[intOf];done)|(simp[intOf];omega)
  · have hke:k=l.length:=by omega
    subst hke;rw[List.take_length]at HALL;go_wp2;go_ret;exact⟨ret_bool (by rw[←HR.out];exact HALL.out.symm),hst⟩

set_option maxHeartbeats 1000000 in
set_option maxRecDepth 100000 in
theorem rec_blobs (x:RecS) (v:Value) (hl:x.hdrs.length≤1000000){W0 w:World}{K:Know}{L:List Res}(hk:K.has (Know.flat RHdr v 3 x.hdrs)) (h:St W0 w K L):
  Calls Tryz.prog 188 #[.agg #[.int .i64 x.time,.int .i64 x.off,.bool x.key.null,.string (bb x.key.data),.bool x.val.null,.string (bb x.val.data),v]] w fun en w'=>∃g cap,en=.returned (.slice (some ⟨g,0,none⟩) (blobsOf x).length cap)∧St W0 w' K (.row (.slice (some ⟨g,0,none⟩) (blobsOf x).length cap) 23 2 (blobsOf x).length ((blobsOf x).flatMap bcells)::L):=by
 obtain⟨q,cap,rfl⟩:=flat_form hk h;have h0:=(h.allocRaw #[.int .i64 x.time,.int .i64 x.off,.bool x.key.null,.string (bb x.key.data),.bool x.val.null,.string (bb x.val.data),.slice q x.hdrs.length cap] 95).rowLit (bcells x.key++bcells x.val) 23 2 2 rfl (by decide);have H:=Lib.hid h0;have HK:=Lib.hid hk;clear h hk h0;go_enter Tryz.func188,Tryz.ntmps188;go_wp2;have H2:=Lib.hid ((H.out.p1.drop).cast (L':=.row (.slice (some ⟨w.heap.size+1,0,none⟩) 2 2) 23 2 [x.key,x.val].length ([x.key,x.val].flatMap bcells)::L) (by rw[World.size_alloc];rfl));clear H;go_loopw [3,14] (fun lv iv wr=>∃(k:Nat) (acc:List BlobS),k≤x.hdrs.length∧iv=.int .i64 k∧acc=x.key::x.val::(x.hdrs.take k).map HdrS.val∧St W0 wr K (.row lv 23 2 acc.length (acc.flatMap bcells)::L)) (fun _ iv _=>x.hdrs.length - (intOf iv).toNat)
 case atStart=>exact⟨0,_,Nat.zero_le _,rfl,by rw[List.take_zero];rfl,H2.out⟩
 case round=>
  obtain⟨k,acc,hk,rfl,hacc,hst⟩:=hrel;have HACC:=Lib.hid hacc;have H:=Lib.hid hst;have hlen:acc.length=k+2:=by rw[hacc];simp;omega
  have HLEN:=Lib.hid hlen;clear hacc hlen H2
  by_cases hlt:k<x.hdrs.length
  · obtain⟨b,off,hq,yq⟩:=hdr_cells HK.out hst k hlt;subst hq;clear yq;obtain⟨y,hy⟩:∃y,x.hdrs[k]'hlt=y:=⟨_,rfl⟩;obtain⟨c0,c1,c2,_⟩:=hdr_cells4 HK.out hlt hy hst;have HY:=Lib.hid (show acc++[y.val]=x.key::x.val::(x.hdrs.take (k+1)).map HdrS.val by rw[HACC.out,List.take_succ_eq_append_getElem hlt,hy];simp);clear hst hy;go_wp2_with (at_builtin;refine wpl_app1_st rfl _ _ 280 rfl 23 Tryz.underlying280 elem_blob _ _ _ rfl (H.out.alloc _) [.bool y.val.null,.string (bb y.val.data)] 23 (by rw[World.size_alloc];rfl) rfl (by simp[Value.oneCell']) (by have:=HLEN.out;unfold maxLen;omega) (by have:=HLEN.out;omega) ?_;intro v' w' h;replace H:=Lib.hid h;clear h);go_roundw
    case rel=>exact⟨k+1,acc++[y.val],hlt,by go_num,HY.out,H.out.cast (by simp[bcells])⟩
    case measure=>first|(simp[intOf];done)|(simp[intOf];omega)
  · have hke:k=x.hdrs.length:=by omega
    subst hke;rw[List.take_length]at HACC;have hb:acc=blobsOf x:=HACC.out;subst hb;obtain⟨g,cp,hv⟩:=hst.rowSlice (by unfold blobsOf;simp);subst hv;clear hst;go_wp2;go_ret;exact⟨g,cp,rfl,H.out⟩

set_option maxHeartbeats 1000000 in
set_option maxRecDepth 100000 in
theorem rec_right (x:RecS) (v:Value) (e:Int) (he:recOk x=e) (hl:x.hdrs.length≤1000000){W0 w:World}{K:Know}{L:List Res}(hk:K.has (Know.flat RHdr v 3 x.hdrs)) (h:St W0 w K L):
   Calls Tryz.prog 130 #[.agg #[.int .i64 x.time,.int .i64 x.off,.bool x.key.null,.string (bb x.key.data),.bool x.val.null,.string (bb x.val.data),v]] w fun en w'=>en=.returned (.int .i64 e)∧St W0 w' K L:=by
 have H:=Lib.hid (h.allocRaw #[.int .i64 x.time,.int .i64 x.off,.bool x.key.null,.string (bb x.key.data),.bool x.val.null,.string (bb x.val.data),v] 95);have HK:=Lib.hid hk;have HL:=Lib.hid hl;have hlb:(blobsOf x).length≤9223372036854775807:=by unfold blobsOf;simp;omega
 have HLB:=Lib.hid hlb;clear h hk hl hlb;unfold recOk at he
 by_cases h1:x.off<0
 · rw[if_pos (.inl h1)]at he;subst he;go_enter Tryz.func130,Tryz.ntmps130;go_wp2;go_ret;exact⟨rfl,H.out.drop⟩
 by_cases h2:2147483647<x.off
 · rw[if_pos (.inr h2)]at he;subst he;go_enter Tryz.func130,Tryz.ntmps130;go_wp2;go_ret;exact⟨rfl,H.out.drop⟩
 rw[if_neg (by omega)]at he
 cases hr:x.allRight
 all_goals
   rw[hr]at he;have ER:=Lib.hid ((blobsOf_right x).trans hr);clear hr
   first|(simp only[if_true]at he)|(simp only[Bool.false_eq_true,if_false]at he)
   subst he;go_enter Tryz.func130,Tryz.ntmps130
   go_wp2_with (first
    |(go_at_call 188;refine(rec_blobs x v HL.out HK.out H.out).mono ?_;rintro e wn ⟨g,cap,rfl,h⟩;replace H:=Lib.hid h;clear h)
    |(go_at_call 187;refine(rec_allRight g cap _ _ rfl HLB.out H.out).mono ?_;rw[ER.out];rintro e wn ⟨rfl,h⟩;replace H:=Lib.hid h;clear h))
   go_ret;exact⟨rfl,H.out.drop.drop⟩
theorem put_ok (a b:Bs):(⟨a,0⟩:OutS).put b=⟨a++b,0⟩:=rfl
set_option maxHeartbeats 1000000 in
set_option maxRecDepth 100000 in
theorem rec_putFields (p:Nat) (x:RecS) (v:Value) (hx:x.R) (ho:recOk x=0) (hs:x.sum≤1000000){W0 w:World}{K:Know}{L:List Res}(hk:K.has (Know.flat RHdr v 3 x.hdrs)) (h:St W0 w K (.out p ⟨[],0⟩::L)):
  Calls Tryz.prog 131 #[outPtr p,.agg #[.int .i64 x.time,.int .i64 x.off,.bool x.key.null,.string (bb x.key.data),.bool x.val.null,.string (bb x.val.data),v]] w fun en w'=>en=.returned (.tuple #[])∧St W0 w' K (.out p ⟨recF x,0⟩::L):=by
 have H:=Lib.hid (h.allocRaw #[.int .i64 x.time,.int .i64 x.off,.bool x.key.null,.string (bb x.key.data),.bool x.val.null,.string (bb x.val.data),v] 95).p1;have HK:=Lib.hid hk;obtain⟨ho,hr⟩:=recOk_zero ho;have hle:=recF_le x hx hs;unfold RecS.allRight at hr;rw[Bool.and_eq_true,Bool.and_eq_true]at hr;have hsm:=hs;unfold RecS.sum at hsm;have hsl:=hsum_le x.hdrs;have HT:=Lib.hid hx.1;have HO:=Lib.hid hx.2;obtain⟨s2,h2⟩:∃s,[0]++encI x.time=s:=⟨_,rfl⟩;obtain⟨s3,h3⟩:∃s,s2++encI x.off=s:=⟨_,rfl⟩;obtain⟨s4,h4⟩:∃s,s3++encV x.key=s:=⟨_,rfl⟩;obtain⟨s5,h5⟩:∃s,s4++encV x.val=s:=⟨_,rfl⟩;have h6:s5++encHs x.hdrs=recF x:=by rw[←h5,←h4,←h3,←h2];unfold recF;simp only[List.append_assoc]
 obtain⟨s6,hs6⟩:∃s,recF x=s:=⟨_,rfl⟩;rw[hs6]at h6 hle ⊢;have l6:=congrArg List.length h6;have l5:=congrArg List.length h5;have l4:=congrArg List.length h4;have l3:=congrArg List.length h3;have l2:=congrArg List.length h2;simp only[List.length_append,List.length_cons,List.length_nil]at l2 l3 l4 l5 l6;have E1:=Lib.hid (show(⟨[],0⟩:OutS).put [0]=⟨[0],0⟩from rfl);have E2:=Lib.hid (show(⟨[0],0⟩:OutS).putLong x.time=⟨s2,0⟩from by rw[←h2];rfl);have E3:=Lib.hid (show(⟨s2,0⟩:OutS).putInt x.off=⟨s3,0⟩from by rw[putInt_len (by omega) (by omega),put_ok,h3]);have E4:=Lib.hid (show(⟨s3,0⟩:OutS).putVaried x.key=⟨s4,0⟩from by rw[putVaried_right hr.1.1 (by omega),put_ok,h4]);have E5:=Lib.hid (show(⟨s4,0⟩:OutS).putVaried x.val=⟨s5,0⟩from by rw[putVaried_right hr.1.2 (by omega),put_ok,h5]);have E6:=Lib.hid (show(⟨s5,0⟩:OutS).putHdrs x.hdrs=⟨s6,0⟩from by rw[putHdrs_right hr.2 (by omega),put_ok,h6]);have K1:=Lib.hid (show(⟨[0],0⟩:OutS).ok 16 by unfold OutS.ok;simp);have K2:=Lib.hid (show(⟨s2,0⟩:OutS).ok 16 by unfold OutS.ok;simp only;omega);have K3:=Lib.hid (show(⟨s3,0⟩:OutS).ok (x.key.data.length+16) by unfold OutS.ok;simp only;omega);have K4:=Lib.hid (show(⟨s4,0⟩:OutS).ok (x.val.data.length+16) by unfold OutS.ok;simp only;omega);have K5:=Lib.hid (show(⟨s5,0⟩:OutS).ok (hsize x.hdrs+16) by unfold OutS.ok;simp only;omega);have HLL:=Lib.hid (show x.hdrs.length≤140737488355328 by omega);have t1:True:=trivial;have t2:True:=trivial;have t3:True:=trivial;have t4:True:=trivial;have t5:True:=trivial;have t6:True:=trivial;clear h hk hx ho hr hs hle hsm hsl h2 h3 h4 h5 h6 hs6 l2 l3 l4 l5 l6;go_enter Tryz.func131,Tryz.ntmps131
 go_wp2_with (first
  |(go_at_call 103;have _t:=t1;clear _t;refine(so_byte _ _ 0 H.out (by unfold OutS.ok;decide)).mono ?_;rw[E1.out];rintro e wn ⟨rfl,h⟩;replace H:=Lib.hid h;clear h t1;obtain⟨c0,c1,c2,c3,c4,c5,c6,f0,f1,f2,f3,f4,f5,f6⟩:=raw7 (b:=w.heap.size) H.out.p1)
  |(go_at_call 189;have _t:=t2;clear _t;refine(sv_putLong _ _ _ HT.out H.out K1.out).mono ?_;rw[E2.out];rintro e wn ⟨rfl,h⟩;replace H:=Lib.hid h;clear h t2;obtain⟨c0,c1,c2,c3,c4,c5,c6,f0,f1,f2,f3,f4,f5,f6⟩:=raw7 (b:=w.heap.size) H.out.p1)
  |(go_at_call 190;have _t:=t3;clear _t;refine(sv_putInt _ _ _ HO.out H.out K2.out).mono ?_;rw[E3.out];rintro e wn ⟨rfl,h⟩;replace H:=Lib.hid h;clear h t3;obtain⟨c0,c1,c2,c3,c4,c5,c6,f0,f1,f2,f3,f4,f5,f6⟩:=raw7 (b:=w.heap.size) H.out.p1)
  |(go_at_call 191;have _t:=t4;clear _t;refine(blob_putVaried _ _ x.key H.out K3.out).mono ?_;rw[E4.out];rintro e wn ⟨rfl,h⟩;replace H:=Lib.hid h;clear h t4;obtain⟨c0,c1,c2,c3,c4,c5,c6,f0,f1,f2,f3,f4,f5,f6⟩:=raw7 (b:=w.heap.size) H.out.p1)
  |(go_at_call 191;have _t:=t5;clear _t;refine(blob_putVaried _ _ x.val H.out K4.out).mono ?_;rw[E5.out];rintro e wn ⟨rfl,h⟩;replace H:=Lib.hid h;clear h t5;obtain⟨c0,c1,c2,c3,c4,c5,c6,f0,f1,f2,f3,f4,f5,f6⟩:=raw7 (b:=w.heap.size) H.out.p1)
  |(go_at_call 192;have _t:=t6;clear _t;refine(header_write _ _ _ x.hdrs HLL.out HK.out H.out K5.out).mono ?_;rw[E6.out];rintro e wn ⟨rfl,h⟩;replace H:=Lib.hid h;clear h t6;obtain⟨c0,c1,c2,c3,c4,c5,c6,f0,f1,f2,f3,f4,f5,f6⟩:=raw7 (b:=w.heap.size) H.out.p1))
 go_end0;exact⟨rfl,H.out.p1.drop⟩

theorem rec_rightZ (x:RecS) (v:Value) (he:recOk x=0) (hl:x.hdrs.length≤1000000){W0 w:World}{K:Know}{L:List Res}(hk:K.has (Know.flat RHdr v 3 x.hdrs)) (h:St W0 w K L):
 Calls Tryz.prog 130 #[.agg #[.int .i64 x.time,.int .i64 x.off,.bool x.key.null,.string (bb x.key.data),.bool x.val.null,.string (bb x.val.data),v]] w fun en w'=>en=.returned (.int .i64 0)∧St W0 w' K L:=rec_right x v 0 he hl hk h

set_option maxHeartbeats 1000000 in
set_option maxRecDepth 100000 in
theorem rec_write (p:Nat) (o o':OutS) (x:RecS) (v:Value) (hx:x.R) (hs:x.sum≤1000000) (hoo:o.putRec x=o') (hro:o.ok 40000000){W0 w:World}{K:Know}{L:List Res}(hk:K.has (Know.flat RHdr v 3 x.hdrs)) (h:St W0 w K (.out p o::L)):
   Calls Tryz.prog 80 #[outPtr p,.agg #[.int .i64 x.time,.int .i64 x.off,.bool x.key.null,.string (bb x.key.data),.bool x.val.null,.string (bb x.val.data),v]] w fun en w'=>en=.returned (.tuple #[])∧St W0 w' K (.out p o'::L):=by
 have H:=Lib.hid (h.allocRaw #[.int .i64 x.time,.int .i64 x.off,.bool x.key.null,.string (bb x.key.data),.bool x.val.null,.string (bb x.val.data),v] 95).p1;have HK:=Lib.hid hk;have HL:=Lib.hid (show x.hdrs.length≤1000000 by have:=hsum_le x.hdrs;unfold RecS.sum at hs;omega);unfold OutS.putRec at hoo
 by_cases he:recOk x=0
 · rw[if_pos he]at hoo;have hle:=recF_le x hx hs;have HX:=Lib.hid hx;have HE:=Lib.hid he;have HS:=Lib.hid hs;have ET:=Lib.hid (show(⟨recF x,0⟩:OutS).text=(recF x,0)from rfl);have EP:=Lib.hid (show o.putName (recF x)=o' by unfold OutS.putName;rw[putVaried_right rfl (by simp only;omega)];exact hoo);have KO:=Lib.hid (show o.ok ((recF x).length+16)from OutS.ok_mono hro (by omega));obtain⟨s,hsd⟩:∃s,recF x=s:=⟨_,rfl⟩;rw[hsd]at ET EP KO;have HSD:=Lib.hid hsd;clear h hk he hoo hle hx hs hro hsd;go_enter Tryz.func80,Tryz.ntmps80
   go_wp2_with (first
    |(go_at_call 130;refine(rec_rightZ x v HE.out HL.out HK.out H.out).mono ?_;rintro e wn ⟨rfl,h⟩;replace H:=Lib.hid h;have HA:=Lib.hid (h.p1.allocOut);clear h;obtain⟨c0,c1,c2,c3,c4,c5,c6,f0,f1,f2,f3,f4,f5,f6⟩:=raw7 (b:=w.heap.size) HA.out.p1)
    |(go_at_call 131;refine(rec_putFields _ x v HX.out HE.out HS.out HK.out HA.out).mono ?_;rw[HSD.out];rintro e wn ⟨rfl,h⟩;replace H:=Lib.hid h;clear h)
    |(go_at_call 49;refine(so_text _ _ H.out).mono ?_;rw[ET.out];rintro e wn ⟨rfl,h⟩;replace H:=Lib.hid h.p2;clear h)
    |(go_at_call 132;refine(blob_putName _ _ s H.out KO.out).mono ?_;rw[EP.out];rintro e wn ⟨rfl,h⟩;replace H:=Lib.hid h;clear h))
   go_end0;exact⟨rfl,H.out.p2.drop.p1.drop⟩
 · rw[if_neg he]at hoo;obtain⟨e,hee⟩:∃e,recOk x=e:=⟨_,rfl⟩;rw[hee]at he hoo;have hb:(e !=0)=true:=by rw[bne_iff_ne];exact he
   have HE:=Lib.hid hee;have EF:=Lib.hid hoo;clear h hk he hoo hx hs hro hee;go_enter Tryz.func80,Tryz.ntmps80
   go_wp2_with (first
    |(go_at_call 130;refine(rec_right x v e HE.out HL.out HK.out H.out).mono ?_;rintro e wn ⟨rfl,h⟩;replace H:=Lib.hid h;clear h)
    |(go_at_call 95;refine(so_fail _ _ _ H.out).mono ?_;rw[EF.out];rintro e wn ⟨rfl,h⟩;replace H:=Lib.hid h;clear h))
   refine bodyPost_ret (results_none rfl _ _ _) rfl ⟨rfl,H.out.p1.drop⟩
def encOk (x:RecS):Bs:=if recOk x=0 then encR x else[]
set_option maxHeartbeats 1000000 in
set_option maxRecDepth 100000 in
theorem rec_encode (x:RecS) (v:Value) (e:Int) (s:Bs) (hx:x.R) (hs:x.sum≤1000000) (he:recOk x=e) (hss:encOk x=s){W0 w:World}{K:Know}{L:List Res}(hk:K.has (Know.flat RHdr v 3 x.hdrs)) (h:St W0 w K L):
  Calls Tryz.prog 37 #[.agg #[.int .i64 x.time,.int .i64 x.off,.bool x.key.null,.string (bb x.key.data),.bool x.val.null,.string (bb x.val.data),v]] w fun en w'=>en=.returned (.tuple #[.string (bb s),.int .i64 e])∧St W0 w' K L:=by
 obtain⟨o,ho⟩:∃o,(⟨[],0⟩:OutS).putRec x=o:=⟨_,rfl⟩
 have ht:o.text=(s,e):=by
  rw[←ho,←he,←hss];unfold OutS.putRec encOk OutS.text
  by_cases h0:recOk x=0
  · rw[if_pos h0,if_pos h0,h0];rfl
  · rw[if_neg h0,if_neg h0];have:((⟨[],0⟩:OutS).fail (recOk x))=⟨[],recOk x⟩:=rfl;rw[this];simp only;rw[if_neg h0]
 have h0:=(h.allocRaw #[.int .i64 x.time,.int .i64 x.off,.bool x.key.null,.string (bb x.key.data),.bool x.val.null,.string (bb x.val.data),v] 95).allocOut;rw[World.size_alloc]at h0;have H:=Lib.hid h0;have HK:=Lib.hid hk;have HX:=Lib.hid hx;have HS:=Lib.hid hs;have HO:=Lib.hid ho;have HT:=Lib.hid ht;have HR0:=Lib.hid (show(⟨[],0⟩:OutS).ok 40000000 by unfold OutS.ok;decide);clear h hk hx hs he hss ho ht h0;go_enter Tryz.func37,Tryz.ntmps37
 go_wp2_with (first
  |(go_at_call 80;refine(rec_write _ _ o x v HX.out HS.out HO.out HR0.out HK.out H.out).mono ?_;rintro e wn ⟨rfl,h⟩;replace H:=Lib.hid h;clear h)
  |(go_at_call 49;refine(so_text _ _ H.out).mono ?_;rw[HT.out];rintro e wn ⟨rfl,h⟩;replace H:=Lib.hid h;clear h))
 go_ret2;exact⟨rfl,H.out.drop.drop⟩
theorem St.raw_ne {W0 w:World}{K:Know}{L:List Res}{a b:Nat}{c c':Array Value}{T T':TypeId}(h:St W0 w K (.raw a c T::.raw b c' T'::L)):¬(a=b):=by
 rintro rfl;obtain⟨_,S,F,⟨S1,S2,h1,⟨S3,S4,h3,_,_,e3⟩,d1,_⟩,_⟩:=h;exact d1 a ((h1.2 a).2 rfl) ((e3 a).2 (.inl ((h3.2 a).2 rfl)))
theorem St.set1 {W0 w:World}{K:Know}{L:List Res}{r:Res}{b j:Nat}{c:Array Value}{T:TypeId}{v:Value}(h:St W0 w K (r::.raw b c T::L)):St W0 (w.setCell ⟨b,j,none⟩ v) K (r::.raw b (c.setIfInBounds j v) T::L):=(h.p1.rawSet j v).p1

theorem zq31 {p:Prop}(h:p:=by simp[results,Tryz.results129,go_sem,qc0,qc1,qc2,qc3,qc4,qc5,qc6]):p:=h
set_option maxHeartbeats 1000000 in
set_option maxRecDepth 100000 in
theorem rec_fields_10 (p:Nat) (i i1 i2 i3 i4 i5 i6:InS) (a t o:Int) (kb vb:BlobS) (hs:List HdrS) (e0:i.int 1=(a,i1)) (ha:(a !=0)=false) (e1:i1.vlong=(t,i2)) (e2:i2.vint=(o,i3)) (ho:¬o<0) (e4:i3.varied=(kb,i4)) (e5:i4.varied=(vb,i5)) (e6:i5.hdrs=(hs,i6)){W0 w:World}{K:Know}{L:List Res}(h:St W0 w K (.inp p i::L)):
  Calls Tryz.prog 129 #[inPtr p] w fun en w'=>∃v,en=.returned (.agg #[.int .i64 t,.int .i64 o,.bool kb.null,.string (bb kb.data),.bool vb.null,.string (bb vb.data),v])∧St W0 w' (K.and (Know.flat RHdr v 3 hs)) (.inp p i6::L):=by
 have h0:=(h.allocRaw #[.int .i64 0,.int .i64 0,.bool false,.string ⟨#[]⟩,.bool false,.string ⟨#[]⟩,.slice none 0 0] 95).p1;obtain⟨wA,hwA⟩:∃b,w.heap.size=b:=⟨_,rfl⟩;rw[hwA]at h0;have H:=Lib.hid h0;have E0:=Lib.hid e0;have E1:=Lib.hid e1;have E2:=Lib.hid e2;have E4:=Lib.hid e4;have E5:=Lib.hid e5;have E6:=Lib.hid e6;have t0:True:=trivial;have t1:True:=trivial;have t2:True:=trivial;have t3:True:=trivial;have t4:True:=trivial;have t5:True:=trivial;have t6:True:=trivial;clear h h0 e0 e1 e2 e4 e5 e6;go_enter Tryz.func129,Tryz.ntmps129
 go_wp2_with (first
  |(go_at_call 66;have _t:=t0;clear _t;refine(s_int _ i 1 H.out).mono ?_;rw[E0.out];rintro e wn ⟨rfl,h⟩;replace H:=Lib.hid (show St W0 wn K (.inp p i1::.raw wA #[.int .i64 0,.int .i64 0,.bool false,.string ⟨#[]⟩,.bool false,.string ⟨#[]⟩,.slice none 0 0] 95::L)from h);clear h t0;obtain⟨wB,hwB⟩:∃b,wn.heap.size=b:=⟨_,rfl⟩;have HB:=H.out.allocRaw #[.int .i64 0,.int .i64 0,.bool false,.string ⟨#[]⟩,.bool false,.string ⟨#[]⟩,.slice none 0 0] 95;rw[hwB]at HB;have HB:=Lib.hid HB.p1)
  |(go_at_call 184;have _t:=t2;clear _t;refine(sv_long _ i1 HB.out).mono ?_;rw[E1.out];rintro e wn ⟨rfl,h⟩;replace H:=Lib.hid (show St W0 wn (K) (.inp p i2::.raw wB #[.int .i64 0,.int .i64 0,.bool false,.string ⟨#[]⟩,.bool false,.string ⟨#[]⟩,.slice none 0 0] 95::.raw wA #[.int .i64 0,.int .i64 0,.bool false,.string ⟨#[]⟩,.bool false,.string ⟨#[]⟩,.slice none 0 0] 95::L)from h);clear h t2;obtain⟨yc0,yc1,yc2,yc3,yc4,yc5,yc6,yf0,yf1,yf2,yf3,yf4,yf5,yf6⟩:=raw7 (H.out.p1))
  |(go_at_call 185;have _t:=t3;clear _t;refine(sv_int _ i2 (St.set1 H.out)).mono ?_;rw[E2.out];rintro e wn ⟨rfl,h⟩;replace H:=Lib.hid (show St W0 wn (K) (.inp p i3::.raw wB #[.int .i64 t,.int .i64 0,.bool false,.string ⟨#[]⟩,.bool false,.string ⟨#[]⟩,.slice none 0 0] 95::.raw wA #[.int .i64 0,.int .i64 0,.bool false,.string ⟨#[]⟩,.bool false,.string ⟨#[]⟩,.slice none 0 0] 95::L)from h);clear h t3;obtain⟨yc0,yc1,yc2,yc3,yc4,yc5,yc6,yf0,yf1,yf2,yf3,yf4,yf5,yf6⟩:=raw7 (H.out.p1))
  |(go_at_call 183;have _t:=t5;clear _t;refine(blob_varied _ i3 (St.set1 H.out)).mono ?_;rw[E4.out];rintro e wn ⟨rfl,h⟩;replace H:=Lib.hid (show St W0 wn (K) (.inp p i4::.raw wB #[.int .i64 t,.int .i64 o,.bool false,.string ⟨#[]⟩,.bool false,.string ⟨#[]⟩,.slice none 0 0] 95::.raw wA #[.int .i64 0,.int .i64 0,.bool false,.string ⟨#[]⟩,.bool false,.string ⟨#[]⟩,.slice none 0 0] 95::L)from h);clear h t5;obtain⟨yc0,yc1,yc2,yc3,yc4,yc5,yc6,yf0,yf1,yf2,yf3,yf4,yf5,yf6⟩:=raw7 (H.out.p1);unfold bv)
  |(go_at_call 183;have _t:=t6;clear _t;refine(blob_varied _ i4 (St.set1 (St.set1 H.out))).mono ?_;rw[E5.out];rintro e wn ⟨rfl,h⟩;replace H:=Lib.hid (show St W0 wn (K) (.inp p i5::.raw wB #[.int .i64 t,.int .i64 o,.bool kb.null,.string (bb kb.data),.bool false,.string ⟨#[]⟩,.slice none 0 0] 95::.raw wA #[.int .i64 0,.int .i64 0,.bool false,.string ⟨#[]⟩,.bool false,.string ⟨#[]⟩,.slice none 0 0] 95::L)from h);clear h t6;obtain⟨yc0,yc1,yc2,yc3,yc4,yc5,yc6,yf0,yf1,yf2,yf3,yf4,yf5,yf6⟩:=raw7 (H.out.p1);unfold bv)
  |(go_at_call 186;refine(header_read _ i5 (St.set1 (St.set1 H.out))).mono ?_;rw[E6.out];rintro e wn ⟨v,rfl,h⟩;obtain⟨q6,cap6,hv6⟩:=flat_form (Know.has_right (Know.has_refl _)) h;subst hv6;replace H:=Lib.hid (show St W0 wn (K.and (Know.flat RHdr (.slice q6 hs.length cap6) 3 hs)) (.inp p i6::.raw wB #[.int .i64 t,.int .i64 o,.bool kb.null,.string (bb kb.data),.bool vb.null,.string (bb vb.data),.slice none 0 0] 95::.raw wA #[.int .i64 0,.int .i64 0,.bool false,.string ⟨#[]⟩,.bool false,.string ⟨#[]⟩,.slice none 0 0] 95::L)from h);clear h;obtain⟨yc0,yc1,yc2,yc3,yc4,yc5,yc6,yf0,yf1,yf2,yf3,yf4,yf5,yf6⟩:=raw7 (H.out.p1);obtain⟨qc0,qc1,qc2,qc3,qc4,qc5,qc6,qf0,qf1,qf2,qf3,qf4,qf5,qf6⟩:=raw7 (H.out.p2);have hne1:¬(wB=wA):=H.out.drop.raw_ne;have hne2:¬(wA=wB):=(fun e=>hne1 e.symm)))
 refine bodyPost_ret (v:=.agg #[.int .i64 t,.int .i64 o,.bool kb.null,.string (bb kb.data),.bool vb.null,.string (bb vb.data),.slice q6 hs.length cap6]) zq31 rfl ⟨.slice q6 hs.length cap6,rfl,?_⟩;exact(((((((((H.out.p1.rawSet 6 (.slice q6 hs.length cap6)).p2).rawSet 0 _).rawSet 1 _).rawSet 2 _).rawSet 3 _).rawSet 4 _).rawSet 5 _).rawSet 6 _).drop.drop

set_option maxHeartbeats 1000000 in
set_option maxRecDepth 100000 in
theorem rec_fields_11 (p:Nat) (i i1 i2 i3 j3 i4 i5 i6:InS) (a t o:Int) (kb vb:BlobS) (hs:List HdrS) (e0:i.int 1=(a,i1)) (ha:(a !=0)=false) (e1:i1.vlong=(t,i2)) (e2:i2.vint=(o,i3)) (ho:o<0) (ej3:i3.fail 11=j3) (e4:j3.varied=(kb,i4)) (e5:i4.varied=(vb,i5)) (e6:i5.hdrs=(hs,i6)){W0 w:World}{K:Know}{L:List Res}(h:St W0 w K (.inp p i::L)):
  Calls Tryz.prog 129 #[inPtr p] w fun en w'=>∃v,en=.returned (.agg #[.int .i64 t,.int .i64 o,.bool kb.null,.string (bb kb.data),.bool vb.null,.string (bb vb.data),v])∧St W0 w' (K.and (Know.flat RHdr v 3 hs)) (.inp p i6::L):=by
 have h0:=(h.allocRaw #[.int .i64 0,.int .i64 0,.bool false,.string ⟨#[]⟩,.bool false,.string ⟨#[]⟩,.slice none 0 0] 95).p1;obtain⟨wA,hwA⟩:∃b,w.heap.size=b:=⟨_,rfl⟩;rw[hwA]at h0;have H:=Lib.hid h0;have E0:=Lib.hid e0;have E1:=Lib.hid e1;have E2:=Lib.hid e2;have E4:=Lib.hid e4;have E5:=Lib.hid e5;have E6:=Lib.hid e6;have EJ3:=Lib.hid ej3;have t0:True:=trivial;have t1:True:=trivial;have t2:True:=trivial;have t3:True:=trivial;have t4:True:=trivial;have t5:True:=trivial;have t6:True:=trivial;clear h h0 e0 e1 e2 e4 e5 e6 ej3;go_enter Tryz.func129,Tryz.ntmps129
 go_wp2_with (first
  |(go_at_call 66;have _t:=t0;clear _t;refine(s_int _ i 1 H.out).mono ?_;rw[E0.out];rintro e wn ⟨rfl,h⟩;replace H:=Lib.hid (show St W0 wn K (.inp p i1::.raw wA #[.int .i64 0,.int .i64 0,.bool false,.string ⟨#[]⟩,.bool false,.string ⟨#[]⟩,.slice none 0 0] 95::L)from h);clear h t0;obtain⟨wB,hwB⟩:∃b,wn.heap.size=b:=⟨_,rfl⟩;have HB:=H.out.allocRaw #[.int .i64 0,.int .i64 0,.bool false,.string ⟨#[]⟩,.bool false,.string ⟨#[]⟩,.slice none 0 0] 95;rw[hwB]at HB;have HB:=Lib.hid HB.p1)
  |(go_at_call 184;have _t:=t2;clear _t;refine(sv_long _ i1 HB.out).mono ?_;rw[E1.out];rintro e wn ⟨rfl,h⟩;replace H:=Lib.hid (show St W0 wn (K) (.inp p i2::.raw wB #[.int .i64 0,.int .i64 0,.bool false,.string ⟨#[]⟩,.bool false,.string ⟨#[]⟩,.slice none 0 0] 95::.raw wA #[.int .i64 0,.int .i64 0,.bool false,.string ⟨#[]⟩,.bool false,.string ⟨#[]⟩,.slice none 0 0] 95::L)from h);clear h t2;obtain⟨yc0,yc1,yc2,yc3,yc4,yc5,yc6,yf0,yf1,yf2,yf3,yf4,yf5,yf6⟩:=raw7 (H.out.p1))
  |(go_at_call 185;have _t:=t3;clear _t;refine(sv_int _ i2 (St.set1 H.out)).mono ?_;rw[E2.out];rintro e wn ⟨rfl,h⟩;replace H:=Lib.hid (show St W0 wn (K) (.inp p i3::.raw wB #[.int .i64 t,.int .i64 0,.bool false,.string ⟨#[]⟩,.bool false,.string ⟨#[]⟩,.slice none 0 0] 95::.raw wA #[.int .i64 0,.int .i64 0,.bool false,.string ⟨#[]⟩,.bool false,.string ⟨#[]⟩,.slice none 0 0] 95::L)from h);clear h t3;obtain⟨yc0,yc1,yc2,yc3,yc4,yc5,yc6,yf0,yf1,yf2,yf3,yf4,yf5,yf6⟩:=raw7 (H.out.p1))
  |(go_at_call 70;have _t:=t4;clear _t;refine(s_fail _ i3 11 (St.set1 H.out)).mono ?_;rw[EJ3.out];rintro e wn ⟨rfl,h⟩;replace H:=Lib.hid (show St W0 wn (K) (.inp p j3::.raw wB #[.int .i64 t,.int .i64 o,.bool false,.string ⟨#[]⟩,.bool false,.string ⟨#[]⟩,.slice none 0 0] 95::.raw wA #[.int .i64 0,.int .i64 0,.bool false,.string ⟨#[]⟩,.bool false,.string ⟨#[]⟩,.slice none 0 0] 95::L)from h);clear h t4;obtain⟨yc0,yc1,yc2,yc3,yc4,yc5,yc6,yf0,yf1,yf2,yf3,yf4,yf5,yf6⟩:=raw7 (H.out.p1);have HX:=H)
  |(go_at_call 183;have _t:=t5;clear _t;refine(blob_varied _ j3 H.out).mono ?_;rw[E4.out];rintro e wn ⟨rfl,h⟩;replace H:=Lib.hid (show St W0 wn (K) (.inp p i4::.raw wB #[.int .i64 t,.int .i64 o,.bool false,.string ⟨#[]⟩,.bool false,.string ⟨#[]⟩,.slice none 0 0] 95::.raw wA #[.int .i64 0,.int .i64 0,.bool false,.string ⟨#[]⟩,.bool false,.string ⟨#[]⟩,.slice none 0 0] 95::L)from h);clear h t5;obtain⟨yc0,yc1,yc2,yc3,yc4,yc5,yc6,yf0,yf1,yf2,yf3,yf4,yf5,yf6⟩:=raw7 (H.out.p1);unfold bv)
  |(go_at_call 183;have _t:=t6;clear _t;refine(blob_varied _ i4 (St.set1 (St.set1 H.out))).mono ?_;rw[E5.out];rintro e wn ⟨rfl,h⟩;replace H:=Lib.hid (show St W0 wn (K) (.inp p i5::.raw wB #[.int .i64 t,.int .i64 o,.bool kb.null,.string (bb kb.data),.bool false,.string ⟨#[]⟩,.slice none 0 0] 95::.raw wA #[.int .i64 0,.int .i64 0,.bool false,.string ⟨#[]⟩,.bool false,.string ⟨#[]⟩,.slice none 0 0] 95::L)from h);clear h t6;obtain⟨yc0,yc1,yc2,yc3,yc4,yc5,yc6,yf0,yf1,yf2,yf3,yf4,yf5,yf6⟩:=raw7 (H.out.p1);unfold bv)
  |(go_at_call 186;refine(header_read _ i5 (St.set1 (St.set1 H.out))).mono ?_;rw[E6.out];rintro e wn ⟨v,rfl,h⟩;obtain⟨q6,cap6,hv6⟩:=flat_form (Know.has_right (Know.has_refl _)) h;subst hv6;replace H:=Lib.hid (show St W0 wn (K.and (Know.flat RHdr (.slice q6 hs.length cap6) 3 hs)) (.inp p i6::.raw wB #[.int .i64 t,.int .i64 o,.bool kb.null,.string (bb kb.data),.bool vb.null,.string (bb vb.data),.slice none 0 0] 95::.raw wA #[.int .i64 0,.int .i64 0,.bool false,.string ⟨#[]⟩,.bool false,.string ⟨#[]⟩,.slice none 0 0] 95::L)from h);clear h;obtain⟨yc0,yc1,yc2,yc3,yc4,yc5,yc6,yf0,yf1,yf2,yf3,yf4,yf5,yf6⟩:=raw7 (H.out.p1);obtain⟨qc0,qc1,qc2,qc3,qc4,qc5,qc6,qf0,qf1,qf2,qf3,qf4,qf5,qf6⟩:=raw7 (H.out.p2);have hne1:¬(wB=wA):=H.out.drop.raw_ne;have hne2:¬(wA=wB):=(fun e=>hne1 e.symm)))
 refine bodyPost_ret (v:=.agg #[.int .i64 t,.int .i64 o,.bool kb.null,.string (bb kb.data),.bool vb.null,.string (bb vb.data),.slice q6 hs.length cap6]) zq31 rfl ⟨.slice q6 hs.length cap6,rfl,?_⟩;exact(((((((((H.out.p1.rawSet 6 (.slice q6 hs.length cap6)).p2).rawSet 0 _).rawSet 1 _).rawSet 2 _).rawSet 3 _).rawSet 4 _).rawSet 5 _).rawSet 6 _).drop.drop

set_option maxHeartbeats 1000000 in
set_option maxRecDepth 100000 in
theorem rec_fields_00 (p:Nat) (i i1 j1 i2 i3 i4 i5 i6:InS) (a t o:Int) (kb vb:BlobS) (hs:List HdrS) (e0:i.int 1=(a,i1)) (ha:(a !=0)=true) (ej1:i1.fail 8=j1) (e1:j1.vlong=(t,i2)) (e2:i2.vint=(o,i3)) (ho:¬o<0) (e4:i3.varied=(kb,i4)) (e5:i4.varied=(vb,i5)) (e6:i5.hdrs=(hs,i6)){W0 w:World}{K:Know}{L:List Res}(h:St W0 w K (.inp p i::L)):
  Calls Tryz.prog 129 #[inPtr p] w fun en w'=>∃v,en=.returned (.agg #[.int .i64 t,.int .i64 o,.bool kb.null,.string (bb kb.data),.bool vb.null,.string (bb vb.data),v])∧St W0 w' (K.and (Know.flat RHdr v 3 hs)) (.inp p i6::L):=by
 have h0:=(h.allocRaw #[.int .i64 0,.int .i64 0,.bool false,.string ⟨#[]⟩,.bool false,.string ⟨#[]⟩,.slice none 0 0] 95).p1;obtain⟨wA,hwA⟩:∃b,w.heap.size=b:=⟨_,rfl⟩;rw[hwA]at h0;have H:=Lib.hid h0;have E0:=Lib.hid e0;have E1:=Lib.hid e1;have E2:=Lib.hid e2;have E4:=Lib.hid e4;have E5:=Lib.hid e5;have E6:=Lib.hid e6;have EJ1:=Lib.hid ej1;have t0:True:=trivial;have t1:True:=trivial;have t2:True:=trivial;have t3:True:=trivial;have t4:True:=trivial;have t5:True:=trivial;have t6:True:=trivial;clear h h0 e0 e1 e2 e4 e5 e6 ej1;go_enter Tryz.func129,Tryz.ntmps129
 go_wp2_with (first
  |(go_at_call 66;have _t:=t0;clear _t;refine(s_int _ i 1 H.out).mono ?_;rw[E0.out];rintro e wn ⟨rfl,h⟩;replace H:=Lib.hid (show St W0 wn K (.inp p i1::.raw wA #[.int .i64 0,.int .i64 0,.bool false,.string ⟨#[]⟩,.bool false,.string ⟨#[]⟩,.slice none 0 0] 95::L)from h);clear h t0;skip)
  |(go_at_call 70;have _t:=t1;clear _t;refine(s_fail _ i1 8 H.out).mono ?_;rw[EJ1.out];rintro e wn ⟨rfl,h⟩;replace H:=Lib.hid (show St W0 wn K (.inp p j1::.raw wA #[.int .i64 0,.int .i64 0,.bool false,.string ⟨#[]⟩,.bool false,.string ⟨#[]⟩,.slice none 0 0] 95::L)from h);clear h t1;obtain⟨wB,hwB⟩:∃b,wn.heap.size=b:=⟨_,rfl⟩;have HB:=H.out.allocRaw #[.int .i64 0,.int .i64 0,.bool false,.string ⟨#[]⟩,.bool false,.string ⟨#[]⟩,.slice none 0 0] 95;rw[hwB]at HB;have HB:=Lib.hid HB.p1)
  |(go_at_call 184;have _t:=t2;clear _t;refine(sv_long _ j1 HB.out).mono ?_;rw[E1.out];rintro e wn ⟨rfl,h⟩;replace H:=Lib.hid (show St W0 wn (K) (.inp p i2::.raw wB #[.int .i64 0,.int .i64 0,.bool false,.string ⟨#[]⟩,.bool false,.string ⟨#[]⟩,.slice none 0 0] 95::.raw wA #[.int .i64 0,.int .i64 0,.bool false,.string ⟨#[]⟩,.bool false,.string ⟨#[]⟩,.slice none 0 0] 95::L)from h);clear h t2;obtain⟨yc0,yc1,yc2,yc3,yc4,yc5,yc6,yf0,yf1,yf2,yf3,yf4,yf5,yf6⟩:=raw7 (H.out.p1))
  |(go_at_call 185;have _t:=t3;clear _t;refine(sv_int _ i2 (St.set1 H.out)).mono ?_;rw[E2.out];rintro e wn ⟨rfl,h⟩;replace H:=Lib.hid (show St W0 wn (K) (.inp p i3::.raw wB #[.int .i64 t,.int .i64 0,.bool false,.string ⟨#[]⟩,.bool false,.string ⟨#[]⟩,.slice none 0 0] 95::.raw wA #[.int .i64 0,.int .i64 0,.bool false,.string ⟨#[]⟩,.bool false,.string ⟨#[]⟩,.slice none 0 0] 95::L)from h);clear h t3;obtain⟨yc0,yc1,yc2,yc3,yc4,yc5,yc6,yf0,yf1,yf2,yf3,yf4,yf5,yf6⟩:=raw7 (H.out.p1))
  |(go_at_call 183;have _t:=t5;clear _t;refine(blob_varied _ i3 (St.set1 H.out)).mono ?_;rw[E4.out];rintro e wn ⟨rfl,h⟩;replace H:=Lib.hid (show St W0 wn (K) (.inp p i4::.raw wB #[.int .i64 t,.int .i64 o,.bool false,.string ⟨#[]⟩,.bool false,.string ⟨#[]⟩,.slice none 0 0] 95::.raw wA #[.int .i64 0,.int .i64 0,.bool false,.string ⟨#[]⟩,.bool false,.string ⟨#[]⟩,.slice none 0 0] 95::L)from h);clear h t5;obtain⟨yc0,yc1,yc2,yc3,yc4,yc5,yc6,yf0,yf1,yf2,yf3,yf4,yf5,yf6⟩:=raw7 (H.out.p1);unfold bv)
  |(go_at_call 183;have _t:=t6;clear _t;refine(blob_varied _ i4 (St.set1 (St.set1 H.out))).mono ?_;rw[E5.out];rintro e wn ⟨rfl,h⟩;replace H:=Lib.hid (show St W0 wn (K) (.inp p i5::.raw wB #[.int .i64 t,.int .i64 o,.bool kb.null,.string (bb kb.data),.bool false,.string ⟨#[]⟩,.slice none 0 0] 95::.raw wA #[.int .i64 0,.int .i64 0,.bool false,.string ⟨#[]⟩,.bool false,.string ⟨#[]⟩,.slice none 0 0] 95::L)from h);clear h t6;obtain⟨yc0,yc1,yc2,yc3,yc4,yc5,yc6,yf0,yf1,yf2,yf3,yf4,yf5,yf6⟩:=raw7 (H.out.p1);unfold bv)
  |(go_at_call 186;refine(header_read _ i5 (St.set1 (St.set1 H.out))).mono ?_;rw[E6.out];rintro e wn ⟨v,rfl,h⟩;obtain⟨q6,cap6,hv6⟩:=flat_form (Know.has_right (Know.has_refl _)) h;subst hv6;replace H:=Lib.hid (show St W0 wn (K.and (Know.flat RHdr (.slice q6 hs.length cap6) 3 hs)) (.inp p i6::.raw wB #[.int .i64 t,.int .i64 o,.bool kb.null,.string (bb kb.data),.bool vb.null,.string (bb vb.data),.slice none 0 0] 95::.raw wA #[.int .i64 0,.int .i64 0,.bool false,.string ⟨#[]⟩,.bool false,.string ⟨#[]⟩,.slice none 0 0] 95::L)from h);clear h;obtain⟨yc0,yc1,yc2,yc3,yc4,yc5,yc6,yf0,yf1,yf2,yf3,yf4,yf5,yf6⟩:=raw7 (H.out.p1);obtain⟨qc0,qc1,qc2,qc3,qc4,qc5,qc6,qf0,qf1,qf2,qf3,qf4,qf5,qf6⟩:=raw7 (H.out.p2);have hne1:¬(wB=wA):=H.out.drop.raw_ne;have hne2:¬(wA=wB):=(fun e=>hne1 e.symm)))
 refine bodyPost_ret (v:=.agg #[.int .i64 t,.int .i64 o,.bool kb.null,.string (bb kb.data),.bool vb.null,.string (bb vb.data),.slice q6 hs.length cap6]) zq31 rfl ⟨.slice q6 hs.length cap6,rfl,?_⟩;exact(((((((((H.out.p1.rawSet 6 (.slice q6 hs.length cap6)).p2).rawSet 0 _).rawSet 1 _).rawSet 2 _).rawSet 3 _).rawSet 4 _).rawSet 5 _).rawSet 6 _).drop.drop

set_option maxHeartbeats 1000000 in
set_option maxRecDepth 100000 in
theorem rec_fields_01 (p:Nat) (i i1 j1 i2 i3 j3 i4 i5 i6:InS) (a t o:Int) (kb vb:BlobS) (hs:List HdrS) (e0:i.int 1=(a,i1)) (ha:(a !=0)=true) (ej1:i1.fail 8=j1) (e1:j1.vlong=(t,i2)) (e2:i2.vint=(o,i3)) (ho:o<0) (ej3:i3.fail 11=j3) (e4:j3.varied=(kb,i4)) (e5:i4.varied=(vb,i5)) (e6:i5.hdrs=(hs,i6)){W0 w:World}{K:Know}{L:List Res}(h:St W0 w K (.inp p i::L)):
  Calls Tryz.prog 129 #[inPtr p] w fun en w'=>∃v,en=.returned (.agg #[.int .i64 t,.int .i64 o,.bool kb.null,.string (bb kb.data),.bool vb.null,.string (bb vb.data),v])∧St W0 w' (K.and (Know.flat RHdr v 3 hs)) (.inp p i6::L):=by
 have h0:=(h.allocRaw #[.int .i64 0,.int .i64 0,.bool false,.string ⟨#[]⟩,.bool false,.string ⟨#[]⟩,.slice none 0 0] 95).p1;obtain⟨wA,hwA⟩:∃b,w.heap.size=b:=⟨_,rfl⟩;rw[hwA]at h0;have H:=Lib.hid h0;have E0:=Lib.hid e0;have E1:=Lib.hid e1;have E2:=Lib.hid e2;have E4:=Lib.hid e4;have E5:=Lib.hid e5;have E6:=Lib.hid e6;have EJ1:=Lib.hid ej1;have EJ3:=Lib.hid ej3;have t0:True:=trivial;have t1:True:=trivial;have t2:True:=trivial;have t3:True:=trivial;have t4:True:=trivial;have t5:True:=trivial;have t6:True:=trivial;clear h h0 e0 e1 e2 e4 e5 e6 ej1 ej3;go_enter Tryz.func129,Tryz.ntmps129
 go_wp2_with (first
  |(go_at_call 66;have _t:=t0;clear _t;refine(s_int _ i 1 H.out).mono ?_;rw[E0.out];rintro e wn ⟨rfl,h⟩;replace H:=Lib.hid (show St W0 wn K (.inp p i1::.raw wA #[.int .i64 0,.int .i64 0,.bool false,.string ⟨#[]⟩,.bool false,.string ⟨#[]⟩,.slice none 0 0] 95::L)from h);clear h t0;skip)
  |(go_at_call 70;have _t:=t1;clear _t;refine(s_fail _ i1 8 H.out).mono ?_;rw[EJ1.out];rintro e wn ⟨rfl,h⟩;replace H:=Lib.hid (show St W0 wn K (.inp p j1::.raw wA #[.int .i64 0,.int .i64 0,.bool false,.string ⟨#[]⟩,.bool false,.string ⟨#[]⟩,.slice none 0 0] 95::L)from h);clear h t1;obtain⟨wB,hwB⟩:∃b,wn.heap.size=b:=⟨_,rfl⟩;have HB:=H.out.allocRaw #[.int .i64 0,.int .i64 0,.bool false,.string ⟨#[]⟩,.bool false,.string ⟨#[]⟩,.slice none 0 0] 95;rw[hwB]at HB;have HB:=Lib.hid HB.p1)
  |(go_at_call 184;have _t:=t2;clear _t;refine(sv_long _ j1 HB.out).mono ?_;rw[E1.out];rintro e wn ⟨rfl,h⟩;replace H:=Lib.hid (show St W0 wn (K) (.inp p i2::.raw wB #[.int .i64 0,.int .i64 0,.bool false,.string ⟨#[]⟩,.bool false,.string ⟨#[]⟩,.slice none 0 0] 95::.raw wA #[.int .i64 0,.int .i64 0,.bool false,.string ⟨#[]⟩,.bool false,.string ⟨#[]⟩,.slice none 0 0] 95::L)from h);clear h t2;obtain⟨yc0,yc1,yc2,yc3,yc4,yc5,yc6,yf0,yf1,yf2,yf3,yf4,yf5,yf6⟩:=raw7 (H.out.p1))
  |(go_at_call 185;have _t:=t3;clear _t;refine(sv_int _ i2 (St.set1 H.out)).mono ?_;rw[E2.out];rintro e wn ⟨rfl,h⟩;replace H:=Lib.hid (show St W0 wn (K) (.inp p i3::.raw wB #[.int .i64 t,.int .i64 0,.bool false,.string ⟨#[]⟩,.bool false,.string ⟨#[]⟩,.slice none 0 0] 95::.raw wA #[.int .i64 0,.int .i64 0,.bool false,.string ⟨#[]⟩,.bool false,.string ⟨#[]⟩,.slice none 0 0] 95::L)from h);clear h t3;obtain⟨yc0,yc1,yc2,yc3,yc4,yc5,yc6,yf0,yf1,yf2,yf3,yf4,yf5,yf6⟩:=raw7 (H.out.p1))
  |(go_at_call 70;have _t:=t4;clear _t;refine(s_fail _ i3 11 (St.set1 H.out)).mono ?_;rw[EJ3.out];rintro e wn ⟨rfl,h⟩;replace H:=Lib.hid (show St W0 wn (K) (.inp p j3::.raw wB #[.int .i64 t,.int .i64 o,.bool false,.string ⟨#[]⟩,.bool false,.string ⟨#[]⟩,.slice none 0 0] 95::.raw wA #[.int .i64 0,.int .i64 0,.bool false,.string ⟨#[]⟩,.bool false,.string ⟨#[]⟩,.slice none 0 0] 95::L)from h);clear h t4;obtain⟨yc0,yc1,yc2,yc3,yc4,yc5,yc6,yf0,yf1,yf2,yf3,yf4,yf5,yf6⟩:=raw7 (H.out.p1);have HX:=H)
  |(go_at_call 183;have _t:=t5;clear _t;refine(blob_varied _ j3 H.out).mono ?_;rw[E4.out];rintro e wn ⟨rfl,h⟩;replace H:=Lib.hid (show St W0 wn (K) (.inp p i4::.raw wB #[.int .i64 t,.int .i64 o,.bool false,.string ⟨#[]⟩,.bool false,.string ⟨#[]⟩,.slice none 0 0] 95::.raw wA #[.int .i64 0,.int .i64 0,.bool false,.string ⟨#[]⟩,.bool false,.string ⟨#[]⟩,.slice none 0 0] 95::L)from h);clear h t5;obtain⟨yc0,yc1,yc2,yc3,yc4,yc5,yc6,yf0,yf1,yf2,yf3,yf4,yf5,yf6⟩:=raw7 (H.out.p1);unfold bv)
  |(go_at_call 183;have _t:=t6;clear _t;refine(blob_varied _ i4 (St.set1 (St.set1 H.out))).mono ?_;rw[E5.out];rintro e wn ⟨rfl,h⟩;replace H:=Lib.hid (show St W0 wn (K) (.inp p i5::.raw wB #[.int .i64 t,.int .i64 o,.bool kb.null,.string (bb kb.data),.bool false,.string ⟨#[]⟩,.slice none 0 0] 95::.raw wA #[.int .i64 0,.int .i64 0,.bool false,.string ⟨#[]⟩,.bool false,.string ⟨#[]⟩,.slice none 0 0] 95::L)from h);clear h t6;obtain⟨yc0,yc1,yc2,yc3,yc4,yc5,yc6,yf0,yf1,yf2,yf3,yf4,yf5,yf6⟩:=raw7 (H.out.p1);unfold bv)
  |(go_at_call 186;refine(header_read _ i5 (St.set1 (St.set1 H.out))).mono ?_;rw[E6.out];rintro e wn ⟨v,rfl,h⟩;obtain⟨q6,cap6,hv6⟩:=flat_form (Know.has_right (Know.has_refl _)) h;subst hv6;replace H:=Lib.hid (show St W0 wn (K.and (Know.flat RHdr (.slice q6 hs.length cap6) 3 hs)) (.inp p i6::.raw wB #[.int .i64 t,.int .i64 o,.bool kb.null,.string (bb kb.data),.bool vb.null,.string (bb vb.data),.slice none 0 0] 95::.raw wA #[.int .i64 0,.int .i64 0,.bool false,.string ⟨#[]⟩,.bool false,.string ⟨#[]⟩,.slice none 0 0] 95::L)from h);clear h;obtain⟨yc0,yc1,yc2,yc3,yc4,yc5,yc6,yf0,yf1,yf2,yf3,yf4,yf5,yf6⟩:=raw7 (H.out.p1);obtain⟨qc0,qc1,qc2,qc3,qc4,qc5,qc6,qf0,qf1,qf2,qf3,qf4,qf5,qf6⟩:=raw7 (H.out.p2);have hne1:¬(wB=wA):=H.out.drop.raw_ne;have hne2:¬(wA=wB):=(fun e=>hne1 e.symm)))
 refine bodyPost_ret (v:=.agg #[.int .i64 t,.int .i64 o,.bool kb.null,.string (bb kb.data),.bool vb.null,.string (bb vb.data),.slice q6 hs.length cap6]) zq31 rfl ⟨.slice q6 hs.length cap6,rfl,?_⟩;exact(((((((((H.out.p1.rawSet 6 (.slice q6 hs.length cap6)).p2).rawSet 0 _).rawSet 1 _).rawSet 2 _).rawSet 3 _).rawSet 4 _).rawSet 5 _).rawSet 6 _).drop.drop

theorem rec_fields (p:Nat) (i:InS){W0 w:World}{K:Know}{L:List Res}(h:St W0 w K (.inp p i::L)):
   Calls Tryz.prog 129 #[inPtr p] w fun en w'=>∃v,en=.returned (.agg #[.int .i64 i.recFields.1.time,.int .i64 i.recFields.1.off,.bool i.recFields.1.key.null,.string (bb i.recFields.1.key.data),.bool i.recFields.1.val.null,.string (bb i.recFields.1.val.data),v])∧St W0 w' (K.and (Know.flat RHdr v 3 i.recFields.1.hdrs)) (.inp p i.recFields.2::L):=by
 obtain⟨⟨a,i1⟩,e0⟩:∃z,i.int 1=z:=⟨_,rfl⟩;unfold InS.recFields;rw[e0];simp only
 by_cases ha:a=0
 · rw[if_pos ha];unfold InS.recTime InS.recOff
   by_cases ho:i1.vlong.2.vint.1<0
   · rw[if_pos ho];exact rec_fields_11 p i _ _ _ _ _ _ _ a _ _ _ _ _ e0 (by rw[ha];rfl) rfl rfl ho rfl rfl rfl rfl h
   · rw[if_neg ho];exact rec_fields_10 p i _ _ _ _ _ _ a _ _ _ _ _ e0 (by rw[ha];rfl) rfl rfl ho rfl rfl rfl h
 · rw[if_neg ha];unfold InS.recTime InS.recOff
   by_cases ho:(i1.fail 8).vlong.2.vint.1<0
   · rw[if_pos ho];exact rec_fields_01 p i _ _ _ _ _ _ _ _ a _ _ _ _ _ e0 (bne_iff_ne.2 ha) rfl rfl rfl ho rfl rfl rfl rfl h
   · rw[if_neg ho];exact rec_fields_00 p i _ _ _ _ _ _ _ a _ _ _ _ _ e0 (bne_iff_ne.2 ha) rfl rfl rfl ho rfl rfl rfl h

end Go.Proofs.YteldcbljedeeiaaGreatDoor
