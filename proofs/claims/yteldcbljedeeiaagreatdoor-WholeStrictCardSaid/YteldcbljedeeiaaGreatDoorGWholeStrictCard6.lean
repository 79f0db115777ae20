/- A text. -/
import Derived.Test.YteldcbljedeeiaaGreatDoorGWholeStrictCard5
import Derived.Test.YteldcbljedeeiaaGreatDoorGWholeStrictCard2
import Derived.Deep.MidRow
import Derived.RegionTactic
import Derived.Deep.DeepCutAuto
import Derived.Test.YteldcbljedeeiaaGreatDoorGWholeStrictCard3
import Derived.Test.YteldcbljedeeiaaGreatDoorGWholeStrictCard4
/- A text. -/
namespace Go.Proofs.YteldcbljedeeiaaGreatDoor
open Go.RowKit

theorem int_shortM (k:Nat) (h1:1≤k) (h8:k≤8) (s:Bs) (pos:Nat) (hp:pos≤s.length) (h:s.length<pos+k):∃q,(⟨s,pos,0⟩:InS).int k=(0,⟨s,q,1⟩):=by
 obtain⟨_,q,_,h3⟩:=(rds_intN k h1 h8).err s pos 1 hp (by unfold getIntN;rw[if_pos (by rw[List.length_drop];omega)]);exact⟨q,h3⟩
theorem int_stuckM (k:Nat) (h1:1≤k) (h8:k≤8) (i:InS) (h:i.err≠0):i.int k=(0,i):=(rds_intN k h1 h8).stuck i h
theorem close_stuckV (i:InS) (h:i.err≠0):i.close.err=i.err:=by
 unfold InS.close InS.fail
 split
 · simp only[if_neg h]
 · rfl
theorem valDec_err {s:Bs}{i:InS}(hi:(decI s).valF.2=i) (h:i.err≠0):valDec s=(ValS.z,i.err):=by
 have e:decE s=i.err:=by unfold decE;rw[hi];exact close_stuckV i h
 unfold valDec;rw[e,if_pos h]
theorem valF_st {i:InS}(h:i.err≠0):i.valF.2=i:=by
 have a1:i.int 8=(0,i):=int_stuckM 8 (by decide) (by decide) i h;have a2:i.int 2=(0,i):=int_stuckM 2 (by decide) (by decide) i h;have a3:i.int 4=(0,i):=int_stuckM 4 (by decide) (by decide) i h;have a4:i.int 1=(0,i):=int_stuckM 1 (by decide) (by decide) i h;have a5:i.tops=([],i):=rds_tops.stuck i h;unfold InS.valF;simp only[a1,a2,a3,a4,a5]
theorem decI_ok {s:Bs}(h:2≤s.length) (h0:sInt (s.take 2)=0):decI s=⟨s,2,0⟩:=by
 have a:(⟨s,0,0⟩:InS).int 2=(sInt (s.take 2),⟨s,2,0⟩):=int_okA 2 (by decide) (by decide) s 0 (by omega);unfold decI;rw[a,if_pos h0]
theorem rdec_1 {s:Bs}(h:s.length<2):valDec s=(ValS.z,1):=by
 obtain⟨q,hq⟩:=int_shortM 2 (by decide) (by decide) s 0 (Nat.zero_le _) (by omega);have hq2:(⟨s,0,0⟩:InS).int 2=(0,⟨s,q,1⟩):=hq;have e:decI s=⟨s,q,1⟩:=by unfold decI;rw[hq2,if_pos rfl]
 exact valDec_err (i:=⟨s,q,1⟩) (by rw[e];exact valF_st (i:=⟨s,q,1⟩) (show(1:Int)≠0 by decide)) (show(1:Int)≠0 by decide)
theorem rdec_2 {s:Bs}(h:2≤s.length) (h0:sInt (s.take 2)≠0):valDec s=(ValS.z,7):=by
 have a:(⟨s,0,0⟩:InS).int 2=(sInt (s.take 2),⟨s,2,0⟩):=int_okA 2 (by decide) (by decide) s 0 (by omega);have e:decI s=⟨s,2,7⟩:=by unfold decI;rw[a,if_neg h0];rfl
 exact valDec_err (i:=⟨s,2,7⟩) (by rw[e];exact valF_st (i:=⟨s,2,7⟩) (show(7:Int)≠0 by decide)) (show(7:Int)≠0 by decide)
theorem valF_1 {i i1:InS}{p:Int}(h1:i.int 8=(p,i1)) (h:i1.err≠0):i.valF.2=i1:=by
 have a1:i1.int 8=(0,i1):=int_stuckM 8 (by decide) (by decide) i1 h;have a2:i1.int 2=(0,i1):=int_stuckM 2 (by decide) (by decide) i1 h;have a3:i1.int 4=(0,i1):=int_stuckM 4 (by decide) (by decide) i1 h;have a4:i1.int 1=(0,i1):=int_stuckM 1 (by decide) (by decide) i1 h;have a5:i1.tops=([],i1):=rds_tops.stuck i1 h;unfold InS.valF;simp only[h1,a1,a2,a3,a4,a5]
theorem valF_2 {i i1 i2:InS}{p e:Int}(h1:i.int 8=(p,i1)) (h2:i1.int 2=(e,i2)) (h:i2.err≠0):i.valF.2=i2:=by
 have a1:i2.int 8=(0,i2):=int_stuckM 8 (by decide) (by decide) i2 h;have a3:i2.int 4=(0,i2):=int_stuckM 4 (by decide) (by decide) i2 h;have a4:i2.int 1=(0,i2):=int_stuckM 1 (by decide) (by decide) i2 h;have a5:i2.tops=([],i2):=rds_tops.stuck i2 h;unfold InS.valF;simp only[h1,h2,a1,a3,a4,a5]
theorem valF_3 {i i1 i2 i3:InS}{p e t:Int}(h1:i.int 8=(p,i1)) (h2:i1.int 2=(e,i2)) (h3:i2.int 4=(t,i3)) (h:i3.err≠0):i.valF.2=i3:=by
 have a1:i3.int 8=(0,i3):=int_stuckM 8 (by decide) (by decide) i3 h;have a4:i3.int 1=(0,i3):=int_stuckM 1 (by decide) (by decide) i3 h;have a5:i3.tops=([],i3):=rds_tops.stuck i3 h;unfold InS.valF;simp only[h1,h2,h3,a1,a4,a5]
theorem valF_4 {i i1 i2 i3 i4:InS}{p e t u:Int}(h1:i.int 8=(p,i1)) (h2:i1.int 2=(e,i2)) (h3:i2.int 4=(t,i3)) (h4:i3.int 1=(u,i4)) (h:i4.err≠0):i.valF.2=i4:=by
 have a1:i4.int 8=(0,i4):=int_stuckM 8 (by decide) (by decide) i4 h;have a5:i4.tops=([],i4):=rds_tops.stuck i4 h;unfold InS.valF;simp only[h1,h2,h3,h4,a1,a5]
theorem valF_5 {i i1 i2 i3 i4 i5:InS}{p e t u:Int}{l:List TopS}(h1:i.int 8=(p,i1)) (h2:i1.int 2=(e,i2)) (h3:i2.int 4=(t,i3)) (h4:i3.int 1=(u,i4)) (h5:i4.tops=(l,i5)) (h:i5.err≠0):i.valF.2=i5:=by
 have a1:i5.int 8=(0,i5):=int_stuckM 8 (by decide) (by decide) i5 h;unfold InS.valF;simp only[h1,h2,h3,h4,h5,a1]
theorem valF_6 {i i1 i2 i3 i4 i5 i6:InS}{p e t u v:Int}{l:List TopS}(h1:i.int 8=(p,i1)) (h2:i1.int 2=(e,i2)) (h3:i2.int 4=(t,i3)) (h4:i3.int 1=(u,i4)) (h5:i4.tops=(l,i5)) (h6:i5.int 8=(v,i6)) (h:i6.err≠0):i.valF.2=i6:=by
 have a1:i6.int 8=(0,i6):=int_stuckM 8 (by decide) (by decide) i6 h;unfold InS.valF;simp only[h1,h2,h3,h4,h5,h6,a1]
theorem one_neV:(1:Int)≠0:=by decide
theorem rdec_3 {s:Bs}(h:2≤s.length) (h0:sInt (s.take 2)=0) (hs:s.length<17):valDec s=(ValS.z,1):=by
 have e:=decI_ok h h0
 by_cases c1:s.length<10
 · obtain⟨q,hq⟩:=int_shortM 8 (by decide) (by decide) s 2 h (by omega);exact valDec_err (i:=⟨s,q,1⟩) (by rw[e];exact valF_1 hq one_neV) one_neV
 have b1:=int_okA 8 (by decide) (by decide) s 2 (by omega)
 by_cases c2:s.length<12
 · obtain⟨q,hq⟩:=int_shortM 2 (by decide) (by decide) s 10 (by omega) (by omega);exact valDec_err (i:=⟨s,q,1⟩) (by rw[e];exact valF_2 b1 hq one_neV) one_neV
 have b2:=int_okA 2 (by decide) (by decide) s 10 (by omega)
 by_cases c3:s.length<16
 · obtain⟨q,hq⟩:=int_shortM 4 (by decide) (by decide) s 12 (by omega) (by omega);exact valDec_err (i:=⟨s,q,1⟩) (by rw[e];exact valF_3 b1 b2 hq one_neV) one_neV
 have b3:=int_okA 4 (by decide) (by decide) s 12 (by omega);obtain⟨q,hq⟩:=int_shortM 1 (by decide) (by decide) s 16 (by omega) (by omega);exact valDec_err (i:=⟨s,q,1⟩) (by rw[e];exact valF_4 b1 b2 b3 hq one_neV) one_neV
theorem topsR_err {s:Bs}{l:List TopS}{m:Nat}{e:Int}(h:topsR s=(l,m,e)) (h0:e≠0):topsP s=.error e:=by
 unfold topsR at h
 cases h1:topsP s with
 |error e2=>rw[h1]at h;cases h;rfl
 |ok x=>rw[h1]at h;cases h;exact absurd rfl h0
theorem topsP_errz {s:Bs}{e:Int}(h:topsP s=.error e):e≠0:=(rds_tops.err s 0 e (Nat.zero_le _) (by rw[List.drop_zero];exact h)).1
theorem topsR_ok {s:Bs}{l:List TopS}{m:Nat}(h:topsR s=(l,m,0)):topsP s=.ok (l,m):=by
 unfold topsR at h
 cases h1:topsP s with
 |error e2=>rw[h1]at h;cases h;exact absurd rfl (topsP_errz h1)
 |ok x=>rw[h1]at h;cases h;rfl
theorem rdec_4 {s:Bs}{l:List TopS}{m:Nat}{e:Int}(h0:sInt (s.take 2)=0) (hs:17≤s.length) (hr:topsR (s.drop 17)=(l,m,e)) (he:e≠0):valDec s=(ValS.z,e):=by
 have e0:=decI_ok (by omega) h0;have b1:=int_okA 8 (by decide) (by decide) s 2 (by omega);have b2:=int_okA 2 (by decide) (by decide) s 10 (by omega);have b3:=int_okA 4 (by decide) (by decide) s 12 (by omega);have b4:=int_okA 1 (by decide) (by decide) s 16 (by omega);obtain⟨_,q,_,h5⟩:=rds_tops.err s 17 e hs (topsR_err hr he);exact valDec_err (i:=⟨s,q,e⟩) (by rw[e0];exact valF_5 b1 b2 b3 b4 h5 he) he
theorem rdec_5 {s:Bs}{l:List TopS}{m:Nat}(h0:sInt (s.take 2)=0) (hs:17≤s.length) (hr:topsR (s.drop 17)=(l,m,0)) (hm:s.length<17+m+16):valDec s=(ValS.z,1):=by
 have e0:=decI_ok (by omega) h0;have b1:=int_okA 8 (by decide) (by decide) s 2 (by omega);have b2:=int_okA 2 (by decide) (by decide) s 10 (by omega);have b3:=int_okA 4 (by decide) (by decide) s 12 (by omega);have b4:=int_okA 1 (by decide) (by decide) s 16 (by omega);obtain⟨h6,h5⟩:=rds_tops.ok s 17 l m hs (topsR_ok hr)
 by_cases c1:s.length<17+m+8
 · obtain⟨q,hq⟩:=int_shortM 8 (by decide) (by decide) s (17+m) h6 c1;exact valDec_err (i:=⟨s,q,1⟩) (by rw[e0];exact valF_6 b1 b2 b3 b4 h5 hq one_neV) one_neV
 have b6:=int_okA 8 (by decide) (by decide) s (17+m) (by omega);obtain⟨q,hq⟩:=int_shortM 8 (by decide) (by decide) s (17+m+8) (by omega) (by omega);exact valDec_err (i:=⟨s,q,1⟩) (by rw[e0,valF_eq b1 b2 b3 b4 h5 b6 hq]) one_neV
theorem rdec_v {s:Bs}{l:List TopS}{m:Nat}(h0:sInt (s.take 2)=0) (hs:17≤s.length) (hr:topsR (s.drop 17)=(l,m,0)) (hm:17+m+16≤s.length):(decI s).valF=(⟨sInt ((s.drop 2).take 8),sInt ((s.drop 10).take 2),sInt ((s.drop 12).take 4),sInt ((s.drop 16).take 1),l,sInt ((s.drop (17+m)).take 8),sInt ((s.drop (17+m)).drop 8)⟩,⟨s,17+m+16,0⟩)∨17+m+16<s.length∧(decI s).valF.2=⟨s,17+m+16,0⟩:=by
 have e0:=decI_ok (by omega) h0;have b1:=int_okA 8 (by decide) (by decide) s 2 (by omega);have b2:=int_okA 2 (by decide) (by decide) s 10 (by omega);have b3:=int_okA 4 (by decide) (by decide) s 12 (by omega);have b4:=int_okA 1 (by decide) (by decide) s 16 (by omega);obtain⟨h6,h5⟩:=rds_tops.ok s 17 l m hs (topsR_ok hr);have b6:=int_okA 8 (by decide) (by decide) s (17+m) (by omega);have b7:=int_okA 8 (by decide) (by decide) s (17+m+8) (by omega);have hv:=valF_eq b1 b2 b3 b4 h5 b6 b7
 by_cases hx:17+m+16<s.length
 · exact .inr ⟨hx,by rw[e0,hv]⟩
 · left
   rw[e0,hv]
   have e7:(s.drop (17+m+8)).take 8=(s.drop (17+m)).drop 8:=by
    rw[List.drop_drop,List.take_of_length_le (by rw[List.length_drop];omega)]
   rw[e7]
theorem rdec_6 {s:Bs}{l:List TopS}{m:Nat}(h0:sInt (s.take 2)=0) (hs:17≤s.length) (hr:topsR (s.drop 17)=(l,m,0)) (hm:17+m+16<s.length):valDec s=(ValS.z,2):=by
 have e:decE s=2:=by
  unfold decE
  rcases rdec_v h0 hs hr (by omega)with h|⟨_,h⟩
  · rw[h];unfold InS.close;rw[if_pos (show 0<InS.left ⟨s,17+m+16,0⟩ by unfold InS.left;simp only;omega)];rfl
  · rw[h];unfold InS.close;rw[if_pos (show 0<InS.left ⟨s,17+m+16,0⟩ by unfold InS.left;simp only;omega)];rfl
 unfold valDec;rw[e,if_pos (by decide)]
theorem rdec_7 {s:Bs}{l:List TopS}{m:Nat}(h0:sInt (s.take 2)=0) (hs:17≤s.length) (hr:topsR (s.drop 17)=(l,m,0)) (hm:17+m+16=s.length) (v:ValS) (hv:v=⟨sInt ((s.drop 2).take 8),sInt ((s.drop 10).take 2),sInt ((s.drop 12).take 4),sInt ((s.drop 16).take 1),l,sInt ((s.drop (17+m)).take 8),sInt ((s.drop (17+m)).drop 8)⟩):valDec s=if v.err≠0 then(ValS.z,v.err)else(v,0):=by
 subst hv
 rcases rdec_v h0 hs hr (by omega)with h|⟨h,_⟩
 · have e:decE s=0:=by
    unfold decE;rw[h];unfold InS.close;rw[if_neg (show ¬0<InS.left ⟨s,17+m+16,0⟩ by unfold InS.left;simp only;omega)]
   unfold valDec;rw[e,h,if_neg (by decide)]
 · omega
def reqCells:List Value:=[.int .i64 0,.string ⟨#[112,114,111,100,117,99,101]⟩,.int .i64 3,.int .i64 4,.int .i64 22,.string ⟨#[98,101,103,105,110]⟩,.int .i64 0,.int .i64 1,.int .i64 24,.string ⟨#[97,100,100]⟩,.int .i64 0,.int .i64 0,.int .i64 26,.string ⟨#[101,110,100]⟩,.int .i64 0,.int .i64 0,.int .i64 27,.string ⟨#[109,97,114,107]⟩,.int .i64 0,.int .i64 1]
def Know.reqs:Know:=⟨fun w F=>F 0∧0<w.heap.size∧∀j u,reqCells[j]? =some u→w.cell? ⟨0,j,Option.none⟩=some u,
  fun _ _ _ h hs hk=>⟨h.1,Nat.lt_of_lt_of_le h.2.1 hs,fun j u hu=>(World.cell?_of_block (a:=⟨0,j,Option.none⟩) (hk 0 h.2.1 h.1)).trans (h.2.2 j u hu)⟩,
  fun _ _ _ h hs=>⟨hs _ h.1,h.2.1,h.2.2⟩⟩
theorem req_range {W0 w:World}{K:Know}{L:List Res}(hk:K.has Know.reqs) (h:St W0 w K L):w.rangeAt 0 0 reqCells:=by
 obtain⟨F,hF,_⟩:=h.get;have hc:=(hk _ _ hF).2.2;intro j v hv;rw[Nat.zero_add];exact hc j v hv
theorem results_cell_tmp {P:Program}{fn:Func}{p t:Tmp}{ty:TypeId}(h:fn.results= #[.cell p ty,.tmp t]) (tmps:Array Value) (w:World) (b:Nat) (cs:List Value) (d:TypeDesc)
    (hp:tmps.getD p undef=.pointer (some ⟨b,0,Option.none⟩)) (hc:w.rangeAt b 0 cs) (hu:P.underlying ty=some d) (hd:d.isRow=true) (hi:(P.info? ty).map (·.size)=some cs.length):
    (results fn tmps).run P w=.ok (.tuple #[.agg cs.toArray,tmps.getD t undef]) w:=by
  have hp':tmps[p]?.getD undef=.pointer (some ⟨b,0,Option.none⟩):=by simpa using hp
  simp[results,h,hp',asAddr,run_loadVar_mid w b 0 ty cs d hc hu hd hi]
theorem St.range {W0 w:World}{K:Know}{L:List Res}{b:Nat}{c:List Value}{T:TypeId}(h:St W0 w K (.raw b c.toArray T::L)):w.rangeAt b 0 c:=by
 intro j v hv;rw[Nat.zero_add,h.rawCell j]
 simpa using hv
def reqOf (kind:Int):Int×Bs×Int×Int×Bool:=if kind=0 then(0,[112,114,111,100,117,99,101],3,4,true)else if kind=22 then(22,[98,101,103,105,110],0,1,true)else if kind=24 then(24,[97,100,100],0,0,true)else if kind=26 then(26,[101,110,100],0,0,true)else if kind=27 then(27,[109,97,114,107],0,1,true)else(0,[],0,0,false)
def kindAt:List Int:=[0,22,24,26,27]
theorem reqOf_none (kind:Int) (h:∀k∈kindAt,kind≠k):reqOf kind=(0,[],0,0,false):=by
 unfold reqOf;have h:=fun k hk=>h k hk
 simp only[kindAt,List.mem_cons,List.not_mem_nil,or_false,forall_eq_or_imp,forall_eq]at h;obtain⟨h0,h1,h2,h3,h4⟩:=h;rw[if_neg h0,if_neg h1,if_neg h2,if_neg h3,if_neg h4]
theorem idx0 (w:World):(Instr.index 312 (.agg reqCells.toArray) (.int .i64 0)).run Tryz.prog w=.ok (.agg #[.int .i64 0,.string ⟨#[112,114,111,100,117,99,101]⟩,.int .i64 3,.int .i64 4]) w:=by kernel_rfl
theorem idx1 (w:World):(Instr.index 312 (.agg reqCells.toArray) (.int .i64 1)).run Tryz.prog w=.ok (.agg #[.int .i64 22,.string ⟨#[98,101,103,105,110]⟩,.int .i64 0,.int .i64 1]) w:=by kernel_rfl
theorem idx2 (w:World):(Instr.index 312 (.agg reqCells.toArray) (.int .i64 2)).run Tryz.prog w=.ok (.agg #[.int .i64 24,.string ⟨#[97,100,100]⟩,.int .i64 0,.int .i64 0]) w:=by kernel_rfl
theorem idx3 (w:World):(Instr.index 312 (.agg reqCells.toArray) (.int .i64 3)).run Tryz.prog w=.ok (.agg #[.int .i64 26,.string ⟨#[101,110,100]⟩,.int .i64 0,.int .i64 0]) w:=by kernel_rfl
theorem idx4 (w:World):(Instr.index 312 (.agg reqCells.toArray) (.int .i64 4)).run Tryz.prog w=.ok (.agg #[.int .i64 27,.string ⟨#[109,97,114,107]⟩,.int .i64 0,.int .i64 1]) w:=by kernel_rfl

set_option maxHeartbeats 1000000 in
set_option maxRecDepth 100000 in
theorem ver_find (kind:Int) (a:Int) (nm:Bs) (lo hi:Int) (ok:Bool) (hx:reqOf kind=(a,nm,lo,hi,ok)){W0 w:World}{K:Know}{L:List Res}(hk:K.has Know.reqs) (h:St W0 w K L):
  Calls Tryz.prog 172 #[.int .i64 kind] w fun en w'=>en=.returned (.tuple #[.agg #[.int .i64 a,.string (bb nm),.int .i64 lo,.int .i64 hi],.bool ok])∧St W0 w' K L:=by
 have HX:=Lib.hid hx;have HK:=Lib.hid hk;have h1:=h.allocRaw #[.int .i64 0,.string ⟨#[]⟩,.int .i64 0,.int .i64 0] 262;obtain⟨rb,hrb⟩:∃b,w.heap.size=b:=⟨_,rfl⟩;rw[hrb]at h1;have HR:=Lib.hid (req_range hk h1);have H:=Lib.hid h1;clear h h1 hx hk;go_enter Tryz.func172,Tryz.ntmps172;go_wp2_with (refine wpList_load_mid rfl 312 (.global 0) rfl 0 0 rfl reqCells _ HR.out Tryz.underlying312 rfl (by kernel_rfl) ?_);clear HR;go_loopw [5,7] (fun _ iv wr=>∃k:Nat,k≤5∧iv=.int .i64 k∧Hid (∀x∈kindAt.take k,kind≠x)∧St W0 wr K (.raw rb #[.int .i64 0,.string ⟨#[]⟩,.int .i64 0,.int .i64 0] 262::L)) (fun _ iv _=>5 - (intOf iv).toNat)
 case atStart=>exact⟨0,by decide,rfl,Lib.hid (by simp),H.out⟩
 case round=>
  obtain⟨k,hk,rfl,HNO,hst⟩:=hrel;clear H;have H:=Lib.hid hst;clear hst
  rcases(by omega:k=0∨k=1∨k=2∨k=3∨k=4∨k=5)with rfl|rfl|rfl|rfl|rfl|rfl
  · have i0:=idx0;have h2:=H.out.allocRaw #[.int .i64 0,.string ⟨#[112,114,111,100,117,99,101]⟩,.int .i64 3,.int .i64 4] 262;obtain⟨xb,hxb⟩:∃b,wr.heap.size=b:=⟨_,rfl⟩;rw[hxb]at h2;have x0:=h2.rawCell 0;have x1:=h2.rawCell 1;have x2:=h2.rawCell 2;have x3:=h2.rawCell 3;simp at x0 x1 x2 x3;have p0:=h2.p1.rawCell 0;have p1:=h2.p1.rawCell 1;have p2:=h2.p1.rawCell 2;have p3:=h2.p1.rawCell 3;have q0:=h2.p1.rawFree 0;have q1:=h2.p1.rawFree 1;have q2:=h2.p1.rawFree 2;have q3:=h2.p1.rawFree 3;simp at p0 p1 p2 p3;clear H;have H:=Lib.hid h2;clear h2
    by_cases hkd:kind=0
    · have HE:=HX.out;subst hkd;have e:reqOf 0=(0,[112,114,111,100,117,99,101],3,4,true):=by decide
      rw[e]at HE;simp only[Prod.mk.injEq]at HE;obtain⟨rfl,rfl,rfl,rfl,rfl⟩:=HE;go_wp2;have hz:St W0 _ K (.raw rb #[.int .i64 0,.string ⟨#[112,114,111,100,117,99,101]⟩,.int .i64 3,.int .i64 4] 262::_):=((((H.out.p1.rawSet 0 _).rawSet 1 _).rawSet 2 _).rawSet 3 _);refine bodyPost_ret (results_cell_tmp rfl _ _ rb [.int .i64 0,.string ⟨#[112,114,111,100,117,99,101]⟩,.int .i64 3,.int .i64 4] _ rfl (St.range hz) Tryz.underlying262 rfl (by kernel_rfl)) rfl ?_;exact⟨rfl,hz.drop.drop⟩
    · have hkf:((0:Int)==kind)=false:=by rw[beq_eq_false_iff_ne];exact fun h=>hkd h.symm
      have HNO2:=Lib.hid (show ∀x∈kindAt.take (0+1),kind≠x by
       intro x hx;rw[List.take_succ_eq_append_getElem (by decide)]at hx
       rcases List.mem_append.1 hx with hx|hx
       · exact HNO.out x hx
       · simp[kindAt]at hx;subst hx;exact hkd)
      clear hkd;go_wp2;go_roundw
      case rel=>exact⟨1,by decide,rfl,HNO2,H.out.drop⟩
      case measure=>first|(simp[intOf];done)|(simp[intOf];omega)
  · have i1:=idx1;have h2:=H.out.allocRaw #[.int .i64 22,.string ⟨#[98,101,103,105,110]⟩,.int .i64 0,.int .i64 1] 262;obtain⟨xb,hxb⟩:∃b,wr.heap.size=b:=⟨_,rfl⟩;rw[hxb]at h2;have x0:=h2.rawCell 0;have x1:=h2.rawCell 1;have x2:=h2.rawCell 2;have x3:=h2.rawCell 3;simp at x0 x1 x2 x3;have p0:=h2.p1.rawCell 0;have p1:=h2.p1.rawCell 1;have p2:=h2.p1.rawCell 2;have p3:=h2.p1.rawCell 3;have q0:=h2.p1.rawFree 0;have q1:=h2.p1.rawFree 1;have q2:=h2.p1.rawFree 2;have q3:=h2.p1.rawFree 3;simp at p0 p1 p2 p3;clear H;have H:=Lib.hid h2;clear h2
    by_cases hkd:kind=22
    · have HE:=HX.out;subst hkd;have e:reqOf 22=(22,[98,101,103,105,110],0,1,true):=by decide
      rw[e]at HE;simp only[Prod.mk.injEq]at HE;obtain⟨rfl,rfl,rfl,rfl,rfl⟩:=HE;go_wp2;have hz:St W0 _ K (.raw rb #[.int .i64 22,.string ⟨#[98,101,103,105,110]⟩,.int .i64 0,.int .i64 1] 262::_):=((((H.out.p1.rawSet 0 _).rawSet 1 _).rawSet 2 _).rawSet 3 _);refine bodyPost_ret (results_cell_tmp rfl _ _ rb [.int .i64 22,.string ⟨#[98,101,103,105,110]⟩,.int .i64 0,.int .i64 1] _ rfl (St.range hz) Tryz.underlying262 rfl (by kernel_rfl)) rfl ?_;exact⟨rfl,hz.drop.drop⟩
    · have hkf:((22:Int)==kind)=false:=by rw[beq_eq_false_iff_ne];exact fun h=>hkd h.symm
      have HNO2:=Lib.hid (show ∀x∈kindAt.take (1+1),kind≠x by
       intro x hx;rw[List.take_succ_eq_append_getElem (by decide)]at hx
       rcases List.mem_append.1 hx with hx|hx
       · exact HNO.out x hx
       · simp[kindAt]at hx;subst hx;exact hkd)
      clear hkd;go_wp2;go_roundw
      case rel=>exact⟨2,by decide,rfl,HNO2,H.out.drop⟩
      case measure=>first|(simp[intOf];done)|(simp[intOf];omega)
  · have i2:=idx2;have h2:=H.out.allocRaw #[.int .i64 24,.string ⟨#[97,100,100]⟩,.int .i64 0,.int .i64 0] 262;obtain⟨xb,hxb⟩:∃b,wr.heap.size=b:=⟨_,rfl⟩;rw[hxb]at h2;have x0:=h2.rawCell 0;have x1:=h2.rawCell 1;have x2:=h2.rawCell 2;have x3:=h2.rawCell 3;simp at x0 x1 x2 x3;have p0:=h2.p1.rawCell 0;have p1:=h2.p1.rawCell 1;have p2:=h2.p1.rawCell 2;have p3:=h2.p1.rawCell 3;have q0:=h2.p1.rawFree 0;have q1:=h2.p1.rawFree 1;have q2:=h2.p1.rawFree 2;have q3:=h2.p1.rawFree 3;simp at p0 p1 p2 p3;clear H;have H:=Lib.hid h2;clear h2
    by_cases hkd:kind=24
    · have HE:=HX.out;subst hkd;have e:reqOf 24=(24,[97,100,100],0,0,true):=by decide
      rw[e]at HE;simp only[Prod.mk.injEq]at HE;obtain⟨rfl,rfl,rfl,rfl,rfl⟩:=HE;go_wp2;have hz:St W0 _ K (.raw rb #[.int .i64 24,.string ⟨#[97,100,100]⟩,.int .i64 0,.int .i64 0] 262::_):=((((H.out.p1.rawSet 0 _).rawSet 1 _).rawSet 2 _).rawSet 3 _);refine bodyPost_ret (results_cell_tmp rfl _ _ rb [.int .i64 24,.string ⟨#[97,100,100]⟩,.int .i64 0,.int .i64 0] _ rfl (St.range hz) Tryz.underlying262 rfl (by kernel_rfl)) rfl ?_;exact⟨rfl,hz.drop.drop⟩
    · have hkf:((24:Int)==kind)=false:=by rw[beq_eq_false_iff_ne];exact fun h=>hkd h.symm
      have HNO2:=Lib.hid (show ∀x∈kindAt.take (2+1),kind≠x by
       intro x hx;rw[List.take_succ_eq_append_getElem (by decide)]at hx
       rcases List.mem_append.1 hx with hx|hx
       · exact HNO.out x hx
       · simp[kindAt]at hx;subst hx;exact hkd)
      clear hkd;go_wp2;go_roundw
      case rel=>exact⟨3,by decide,rfl,HNO2,H.out.drop⟩
      case measure=>first|(simp[intOf];done)|(simp[intOf];omega)
  · have i3:=idx3;have h2:=H.out.allocRaw #[.int .i64 26,.string ⟨#[101,110,100]⟩,.int .i64 0,.int .i64 0] 262;obtain⟨xb,hxb⟩:∃b,wr.heap.size=b:=⟨_,rfl⟩;rw[hxb]at h2;have x0:=h2.rawCell 0;have x1:=h2.rawCell 1;have x2:=h2.rawCell 2;have x3:=h2.rawCell 3;simp at x0 x1 x2 x3;have p0:=h2.p1.rawCell 0;have p1:=h2.p1.rawCell 1;have p2:=h2.p1.rawCell 2;have p3:=h2.p1.rawCell 3;have q0:=h2.p1.rawFree 0;have q1:=h2.p1.rawFree 1;have q2:=h2.p1.rawFree 2;have q3:=h2.p1.rawFree 3;simp at p0 p1 p2 p3;clear H;have H:=Lib.hid h2;clear h2
    by_cases hkd:kind=26
    · have HE:=HX.out;subst hkd;have e:reqOf 26=(26,[101,110,100],0,0,true):=by decide
      rw[e]at HE;simp only[Prod.mk.injEq]at HE;obtain⟨rfl,rfl,rfl,rfl,rfl⟩:=HE;go_wp2;have hz:St W0 _ K (.raw rb #[.int .i64 26,.string ⟨#[101,110,100]⟩,.int .i64 0,.int .i64 0] 262::_):=((((H.out.p1.rawSet 0 _).rawSet 1 _).rawSet 2 _).rawSet 3 _);refine bodyPost_ret (results_cell_tmp rfl _ _ rb [.int .i64 26,.string ⟨#[101,110,100]⟩,.int .i64 0,.int .i64 0] _ rfl (St.range hz) Tryz.underlying262 rfl (by kernel_rfl)) rfl ?_;exact⟨rfl,hz.drop.drop⟩
    · have hkf:((26:Int)==kind)=false:=by rw[beq_eq_false_iff_ne];exact fun h=>hkd h.symm
      have HNO2:=Lib.hid (show ∀x∈kindAt.take (3+1),kind≠x by
       intro x hx;rw[List.take_succ_eq_append_getElem (by decide)]at hx
       rcases List.mem_append.1 hx with hx|hx
       · exact HNO.out x hx
       · simp[kindAt]at hx;subst hx;exact hkd)
      clear hkd;go_wp2;go_roundw
      case rel=>exact⟨4,by decide,rfl,HNO2,H.out.drop⟩
      case measure=>first|(simp[intOf];done)|(simp[intOf];omega)
  · have i4:=idx4;have h2:=H.out.allocRaw #[.int .i64 27,.string ⟨#[109,97,114,107]⟩,.int .i64 0,.int .i64 1] 262;obtain⟨xb,hxb⟩:∃b,wr.heap.size=b:=⟨_,rfl⟩;rw[hxb]at h2;have x0:=h2.rawCell 0;have x1:=h2.rawCell 1;have x2:=h2.rawCell 2;have x3:=h2.rawCell 3;simp at x0 x1 x2 x3;have p0:=h2.p1.rawCell 0;have p1:=h2.p1.rawCell 1;have p2:=h2.p1.rawCell 2;have p3:=h2.p1.rawCell 3;have q0:=h2.p1.rawFree 0;have q1:=h2.p1.rawFree 1;have q2:=h2.p1.rawFree 2;have q3:=h2.p1.rawFree 3;simp at p0 p1 p2 p3;clear H;have H:=Lib.hid h2;clear h2
    by_cases hkd:kind=27
    · have HE:=HX.out;subst hkd;have e:reqOf 27=(27,[109,97,114,107],0,1,true):=by decide
      rw[e]at HE;simp only[Prod.mk.injEq]at HE;obtain⟨rfl,rfl,rfl,rfl,rfl⟩:=HE;go_wp2;have hz:St W0 _ K (.raw rb #[.int .i64 27,.string ⟨#[109,97,114,107]⟩,.int .i64 0,.int .i64 1] 262::_):=((((H.out.p1.rawSet 0 _).rawSet 1 _).rawSet 2 _).rawSet 3 _);refine bodyPost_ret (results_cell_tmp rfl _ _ rb [.int .i64 27,.string ⟨#[109,97,114,107]⟩,.int .i64 0,.int .i64 1] _ rfl (St.range hz) Tryz.underlying262 rfl (by kernel_rfl)) rfl ?_;exact⟨rfl,hz.drop.drop⟩
    · have hkf:((27:Int)==kind)=false:=by rw[beq_eq_false_iff_ne];exact fun h=>hkd h.symm
      have HNO2:=Lib.hid (show ∀x∈kindAt.take (4+1),kind≠x by
       intro x hx;rw[List.take_succ_eq_append_getElem (by decide)]at hx
       rcases List.mem_append.1 hx with hx|hx
       · exact HNO.out x hx
       · simp[kindAt]at hx;subst hx;exact hkd)
      clear hkd;go_wp2;go_roundw
      case rel=>exact⟨5,by decide,rfl,HNO2,H.out.drop⟩
      case measure=>first|(simp[intOf];done)|(simp[intOf];omega)
  · obtain⟨e1,e2,e3,e4,e5⟩:a=0∧nm=[]∧lo=0∧hi=0∧ok=false:=by
      have:=HX.out;rw[reqOf_none kind HNO.out]at this;simp at this;obtain⟨rfl,rfl,rfl,rfl,rfl⟩:=this;exact⟨rfl,rfl,rfl,rfl,rfl⟩
    subst e1 e2 e3 e4 e5;have cz:True:=trivial;have p0:=H.out.rawCell 0;have p1:=H.out.rawCell 1;have p2:=H.out.rawCell 2;have p3:=H.out.rawCell 3;have q0:=H.out.rawFree 0;have q1:=H.out.rawFree 1;have q2:=H.out.rawFree 2;have q3:=H.out.rawFree 3;simp at p0 p1 p2 p3;go_wp2
    try simp only[Exit.inBlock,Exit.then]
    have hz:St W0 _ K (.raw rb #[.int .i64 0,.string ⟨#[]⟩,.int .i64 0,.int .i64 0] 262::_):=((((H.out.rawSet 0 _).rawSet 1 _).rawSet 2 _).rawSet 3 _);refine bodyPost_ret (results_cell_tmp rfl _ _ rb [.int .i64 0,.string ⟨#[]⟩,.int .i64 0,.int .i64 0] _ rfl (St.range hz) Tryz.underlying262 rfl (by kernel_rfl)) rfl ?_;exact⟨rfl,hz.drop⟩
def verErr (kind v:Int):Int:=if (reqOf kind).2.2.2.2 then(if v<(reqOf kind).2.2.1∨(reqOf kind).2.2.2.1<v then 7 else 0)else 12
set_option maxHeartbeats 1000000 in
set_option maxRecDepth 100000 in
theorem ver_check (kind v:Int) (q:Int) (hq:verErr kind v=q){W0 w:World}{K:Know}{L:List Res}(hk:K.has Know.reqs) (h:St W0 w K L):
  Calls Tryz.prog 116 #[.int .i64 kind,.int .i64 v] w fun en w'=>en=.returned (.int .i64 q)∧St W0 w' K L:=by
 obtain⟨⟨a,nm,lo,hi,ok⟩,hx⟩:∃p,reqOf kind=p:=⟨_,rfl⟩;have HX:=Lib.hid hx;have HK:=Lib.hid hk;have H:=Lib.hid h;clear h hk;unfold verErr at hq;rw[hx]at hq;simp only at hq;clear hx
 cases ok with
 |false=>
  obtain rfl:(12:Int)=q:=hq;go_enter Tryz.func116,Tryz.ntmps116;go_wp2_with (go_at_call 172;(with_reducible refine(ver_find kind a nm lo hi _ HX.out HK.out H.out).mono ?_);rintro e wn ⟨rfl,h⟩;have h:=h.allocRaw #[.int .i64 a,.string (bb nm),.int .i64 lo,.int .i64 hi] 262;obtain⟨rb,hrb⟩:∃b,wn.heap.size=b:=⟨_,rfl⟩;rw[hrb]at h;have x0:=h.rawCell 0;have x1:=h.rawCell 1;have x2:=h.rawCell 2;have x3:=h.rawCell 3;simp at x0 x1 x2 x3;replace H:=Lib.hid h;clear h);go_ret;exact⟨rfl,H.out.drop⟩
 |true=>
  by_cases h1:v<lo
  · obtain rfl:(7:Int)=q:=by rw[if_pos rfl,if_pos (.inl h1)]at hq;exact hq
    clear hq;have d1:decide (v<lo)=true:=decide_eq_true h1;go_enter Tryz.func116,Tryz.ntmps116;go_wp2_with (go_at_call 172;(with_reducible refine(ver_find kind a nm lo hi _ HX.out HK.out H.out).mono ?_);rintro e wn ⟨rfl,h⟩;have h:=h.allocRaw #[.int .i64 a,.string (bb nm),.int .i64 lo,.int .i64 hi] 262;obtain⟨rb,hrb⟩:∃b,wn.heap.size=b:=⟨_,rfl⟩;rw[hrb]at h;have x0:=h.rawCell 0;have x1:=h.rawCell 1;have x2:=h.rawCell 2;have x3:=h.rawCell 3;simp at x0 x1 x2 x3;replace H:=Lib.hid h;clear h);go_ret;exact⟨rfl,H.out.drop⟩
  · by_cases h2:hi<v
    · obtain rfl:(7:Int)=q:=by rw[if_pos rfl,if_pos (.inr h2)]at hq;exact hq
      clear hq;have d1:decide (v<lo)=false:=decide_eq_false h1;have d2:decide (hi<v)=true:=decide_eq_true h2;go_enter Tryz.func116,Tryz.ntmps116;go_wp2_with (go_at_call 172;(with_reducible refine(ver_find kind a nm lo hi _ HX.out HK.out H.out).mono ?_);rintro e wn ⟨rfl,h⟩;have h:=h.allocRaw #[.int .i64 a,.string (bb nm),.int .i64 lo,.int .i64 hi] 262;obtain⟨rb,hrb⟩:∃b,wn.heap.size=b:=⟨_,rfl⟩;rw[hrb]at h;have x0:=h.rawCell 0;have x1:=h.rawCell 1;have x2:=h.rawCell 2;have x3:=h.rawCell 3;simp at x0 x1 x2 x3;replace H:=Lib.hid h;clear h);go_ret;exact⟨rfl,H.out.drop⟩
    · obtain rfl:(0:Int)=q:=by rw[if_pos rfl,if_neg (by omega)]at hq;exact hq
      clear hq;have d1:decide (v<lo)=false:=decide_eq_false h1;have d2:decide (hi<v)=false:=decide_eq_false h2;go_enter Tryz.func116,Tryz.ntmps116;go_wp2_with (go_at_call 172;(with_reducible refine(ver_find kind a nm lo hi _ HX.out HK.out H.out).mono ?_);rintro e wn ⟨rfl,h⟩;have h:=h.allocRaw #[.int .i64 a,.string (bb nm),.int .i64 lo,.int .i64 hi] 262;obtain⟨rb,hrb⟩:∃b,wn.heap.size=b:=⟨_,rfl⟩;rw[hrb]at h;have x0:=h.rawCell 0;have x1:=h.rawCell 1;have x2:=h.rawCell 2;have x3:=h.rawCell 3;simp at x0 x1 x2 x3;replace H:=Lib.hid h;clear h);go_ret;exact⟨rfl,H.out.drop⟩
structure HeadS where
  kind:Int
  ver:Int
  num:Int
  cli:BlobS
deriving DecidableEq
def HeadS.z:HeadS:=⟨0,0,0,⟨false,[]⟩⟩
def HeadS.R (h:HeadS):Prop:=(-9223372036854775808≤h.kind∧h.kind<9223372036854775808)∧(-9223372036854775808≤h.ver∧h.ver<9223372036854775808)∧(-9223372036854775808≤h.num∧h.num<9223372036854775808)
def headErr (h:HeadS):Int:=if verErr h.kind h.ver≠0 then verErr h.kind h.ver else if ¬fits h.num 4 then 11 else if h.cli.right=false∨32767<h.cli.data.length then 4 else 0
def encHead (h:HeadS):Bs:=beBytes h.kind 2++(beBytes h.ver 2++(beBytes h.num 4++encF 2 h.cli))
def OutS.head (o:OutS) (h:HeadS):OutS:=if headErr h≠0 then o.fail (headErr h)else(((o.int h.kind 2).int h.ver 2).int h.num 4).putFixed h.cli 2
theorem verErr_small (k v:Int) (h:verErr k v=0):(0≤k∧k≤27)∧(0≤v∧v≤4):=by
 unfold verErr reqOf at h
 repeat' split at h
 all_goals first
  |(simp at h;done)
  |(simp at*;done)
  |(simp at*;omega)
theorem fits2_small (n:Int) (h:0≤n∧n≤27):fits n 2:=by
 have h2:half 2=32768:=by decide
 refine⟨by decide,by decide,?_,?_⟩<;>simp[h2]<;>omega
theorem head_put (h:HeadS) (hh:headErr h=0):(⟨[],0⟩:OutS).head h=⟨encHead h,0⟩∧verErr h.kind h.ver=0∧fits h.num 4∧h.cli.right=true∧h.cli.data.length≤32767:=by
 have e:=hh;unfold headErr at e
 by_cases h1:verErr h.kind h.ver=0
 · rw[if_neg (fun x=>x h1)]at e
   by_cases h2:fits h.num 4
   · rw[if_neg (fun x=>x h2)]at e
     by_cases h3:h.cli.right=false∨32767<h.cli.data.length
     · rw[if_pos h3]at e;cases e
     · have hr:h.cli.right=true:=by cases hx:h.cli.right with
        |false=>exact absurd (.inl hx) h3
        |true=>rfl
       have hl:h.cli.data.length≤32767:=by omega
       refine⟨?_,h1,h2,hr,hl⟩;obtain⟨s1,s2⟩:=verErr_small _ _ h1
       have hb:fits h.cli.len 2:=by
        have h2:half 2=32768:=by decide
        unfold BlobS.len;refine⟨by decide,by decide,?_,?_⟩<;>simp[h2]<;>split<;>omega
       unfold OutS.head OutS.putFixed OutS.int OutS.putData;rw[if_neg (fun x=>x hh),if_pos (fits2_small _ s1),if_pos (fits2_small _ ⟨s2.1,by omega⟩),if_pos h2,if_pos hb,hr];simp[OutS.put,encHead,encF,List.append_assoc]
   · rw[if_pos h2]at e;cases e
 · rw[if_pos h1]at e;exact absurd e h1
theorem head_bad (h:HeadS) (hh:headErr h≠0):(⟨[],0⟩:OutS).head h=⟨[],headErr h⟩:=by
 unfold OutS.head;rw[if_pos hh]
 rfl
def headA (i:InS):Int×InS:=i.int 2
def headB (i:InS):Int×InS:=(headA i).2.int 2
def headE (i:InS):Int:=verErr (headA i).1 (headB i).1
def headC (i:InS):InS:=if headE i=0 then(headB i).2 else(headB i).2.fail (headE i)
def headD (i:InS):Int×InS:=(headC i).int 4
def headF (i:InS):BlobS×InS:=(headD i).2.fixed 2
def InS.head (i:InS):HeadS×InS:=(if (headF i).2.err=0 then⟨(headA i).1,(headB i).1,(headD i).1,(headF i).1⟩else HeadS.z,(headF i).2)
def reHead (s:Bs):Except Int (HeadS×Nat):=
  if s.length<4 then .error 1
  else if verErr (sInt (s.take 2)) (sInt ((s.drop 2).take 2))≠0 then .error (verErr (sInt (s.take 2)) (sInt ((s.drop 2).take 2)))
  else if s.length<8 then .error 1
  else match refixed 2 (s.drop 8)with
    | .error e=> .error e
    | .ok x=> .ok (⟨sInt (s.take 2),sInt ((s.drop 2).take 2),sInt ((s.drop 4).take 4),x.1⟩,8+x.2)
theorem fail_st {i:InS}(h:i.err≠0) (e:Int):i.fail e=i:=if_neg h
theorem head_of (i:InS) (a b:Int) (iA iB iC:InS) (hA:i.int 2=(a,iA)) (hB:iA.int 2=(b,iB)) (hC:(if verErr a b=0 then iB else iB.fail (verErr a b))=iC):
  InS.head i=(if ((iC.int 4).2.fixed 2).2.err=0 then⟨a,b,(iC.int 4).1,((iC.int 4).2.fixed 2).1⟩else HeadS.z,((iC.int 4).2.fixed 2).2):=by
 have e1:headA i=(a,iA):=hA;have e2:headB i=(b,iB):=by unfold headB;rw[e1];exact hB
 have e3:headE i=verErr a b:=by unfold headE;rw[e1,e2]
 have e4:headC i=iC:=by unfold headC;rw[e2,e3];exact hC
 unfold InS.head headF headD;rw[e1,e2,e4]
theorem head_stuckC (i:InS) (a b:Int) (iA iB iC:InS) (hA:i.int 2=(a,iA)) (hB:iA.int 2=(b,iB)) (hC:(if verErr a b=0 then iB else iB.fail (verErr a b))=iC) (he:iC.err≠0):InS.head i=(HeadS.z,iC):=by
 have h4:iC.int 4=(0,iC):=(rds_intN 4 (by decide) (by decide)).stuck iC he;have h5:iC.fixed 2=(⟨false,[]⟩,iC):=(rds_fixed 2 (by decide) (by decide)).stuck iC he;rw[head_of i a b iA iB iC hA hB hC,h4];simp only;rw[h5,if_neg he]
theorem rds_head:Rds InS.head reHead HeadS.z:=by
 have r2:=rds_intN 2 (by decide) (by decide);have r4:=rds_intN 4 (by decide) (by decide);have rf:=rds_fixed 2 (by decide) (by decide)
 have g2:∀(s:Bs) (pos:Nat),pos+2≤s.length→(⟨s,pos,0⟩:InS).int 2=(sInt ((s.drop pos).take 2),⟨s,pos+2,0⟩):=by
   intro s pos hp;exact(r2.ok s pos _ 2 (by omega) (if_neg (by rw[List.length_drop];omega))).2
 have g4:∀(s:Bs) (pos:Nat),pos+4≤s.length→(⟨s,pos,0⟩:InS).int 4=(sInt ((s.drop pos).take 4),⟨s,pos+4,0⟩):=by
   intro s pos hp;exact(r4.ok s pos _ 4 (by omega) (if_neg (by rw[List.length_drop];omega))).2
 have g2e:∀(s:Bs) (pos:Nat),pos≤s.length→s.length<pos+2→∃q,q≤s.length∧(⟨s,pos,0⟩:InS).int 2=(0,⟨s,q,1⟩):=by
   intro s pos hp hl;exact(r2.err s pos 1 hp (if_pos (by rw[List.length_drop];omega))).2
 have g4e:∀(s:Bs) (pos:Nat),pos≤s.length→s.length<pos+4→∃q,q≤s.length∧(⟨s,pos,0⟩:InS).int 4=(0,⟨s,q,1⟩):=by
   intro s pos hp hl;exact(r4.err s pos 1 hp (if_pos (by rw[List.length_drop];omega))).2
 refine⟨?_,?_,?_⟩
 · intro s pos a k hp h;unfold reHead at h;rw[List.length_drop,List.drop_drop,List.drop_drop,List.drop_drop]at h
   by_cases h1:s.length - pos<4
   · rw[if_pos h1]at h;cases h
   rw[if_neg h1]at h
   by_cases h2:verErr (sInt ((s.drop pos).take 2)) (sInt ((s.drop (pos+2)).take 2))=0
   · rw[if_neg (fun x=>x h2)]at h
     by_cases h3:s.length - pos<8
     · rw[if_pos h3]at h;cases h
     rw[if_neg h3]at h
     cases hx:refixed 2 (s.drop (pos+8))with
     |error e=>rw[hx]at h;cases h
     |ok x=>
       obtain⟨b,m⟩:=x;rw[hx]at h;simp only[Except.ok.injEq,Prod.mk.injEq]at h;obtain⟨rfl,rfl⟩:=h;obtain⟨q1,q2⟩:=rf.ok s (pos+8) b m (by omega) hx;refine⟨by omega,?_⟩;rw[head_of _ _ _ _ _ _ (g2 s pos (by omega)) (g2 s (pos+2) (by omega)) (if_pos h2),g4 s (pos+2+2) (by omega)];have q3:(⟨s,pos+2+2+4,0⟩:InS).fixed 2=(b,⟨s,pos+8+m,0⟩):=q2;simp only;rw[q3];simp only[if_true,Nat.add_assoc]
   · rw[if_pos h2]at h;cases h
 · intro s pos e hp h;unfold reHead at h;rw[List.length_drop,List.drop_drop,List.drop_drop,List.drop_drop]at h
   by_cases h1:s.length - pos<4
   · rw[if_pos h1]at h;obtain rfl:(1:Int)=e:=by simpa using h
     refine⟨by decide,?_⟩
     by_cases h0:s.length - pos<2
     · obtain⟨q,hq,e1⟩:=g2e s pos hp (by omega);have e2:(⟨s,q,1⟩:InS).int 2=(0,⟨s,q,1⟩):=r2.stuck _ (by show(1:Int)≠0;decide)
       have e3:(if verErr 0 0=0 then(⟨s,q,1⟩:InS)else(⟨s,q,1⟩:InS).fail (verErr 0 0))=⟨s,q,1⟩:=by
        split
        · rfl
        · exact fail_st (by show(1:Int)≠0;decide) _
       exact⟨q,hq,head_stuckC _ _ _ _ _ _ e1 e2 e3 (by show(1:Int)≠0;decide)⟩
     · obtain⟨q,hq,e2⟩:=g2e s (pos+2) (by omega) (by omega)
       have e3:∀x:Int,(if verErr x 0=0 then(⟨s,q,1⟩:InS)else(⟨s,q,1⟩:InS).fail (verErr x 0))=⟨s,q,1⟩:=by
        intro x
        split
        · rfl
        · exact fail_st (by show(1:Int)≠0;decide) _
       exact⟨q,hq,head_stuckC _ _ _ _ _ _ (g2 s pos (by omega)) e2 (e3 _) (by show(1:Int)≠0;decide)⟩
   rw[if_neg h1]at h
   by_cases h2:verErr (sInt ((s.drop pos).take 2)) (sInt ((s.drop (pos+2)).take 2))=0
   · rw[if_neg (fun x=>x h2)]at h
     by_cases h3:s.length - pos<8
     · rw[if_pos h3]at h;obtain rfl:(1:Int)=e:=by simpa using h
       refine⟨by decide,?_⟩;obtain⟨q,hq,e4⟩:=g4e s (pos+2+2) (by omega) (by omega);refine⟨q,hq,?_⟩;rw[head_of _ _ _ _ _ _ (g2 s pos (by omega)) (g2 s (pos+2) (by omega)) (if_pos h2),e4];have e5:(⟨s,q,1⟩:InS).fixed 2=(⟨false,[]⟩,⟨s,q,1⟩):=rf.stuck _ (by show(1:Int)≠0;decide);simp only;rw[e5]
       rfl
     rw[if_neg h3]at h
     cases hx:refixed 2 (s.drop (pos+8))with
     |ok x=>rw[hx]at h;cases h
     |error e'=>
       rw[hx]at h;obtain rfl:e'=e:=by simpa using h
       obtain⟨he,q,hq,q2⟩:=rf.err s (pos+8) e' (by omega) hx;refine⟨he,q,hq,?_⟩;rw[head_of _ _ _ _ _ _ (g2 s pos (by omega)) (g2 s (pos+2) (by omega)) (if_pos h2),g4 s (pos+2+2) (by omega)];have q3:(⟨s,pos+2+2+4,0⟩:InS).fixed 2=(⟨false,[]⟩,⟨s,q,e'⟩):=q2;simp only;rw[q3];simp only;rw[if_neg he]
   · rw[if_pos h2]at h;obtain rfl:verErr (sInt ((s.drop pos).take 2)) (sInt ((s.drop (pos+2)).take 2))=e:=by simpa using h
     refine⟨h2,pos+2+2,by omega,?_⟩;exact head_stuckC _ _ _ _ _ _ (g2 s pos (by omega)) (g2 s (pos+2) (by omega)) ((if_neg h2).trans rfl) h2
 · intro i hi;have e1:i.int 2=(0,i):=r2.stuck i hi
   have e3:(if verErr 0 0=0 then i else i.fail (verErr 0 0))=i:=by
     split
     · rfl
     · exact fail_st hi _
   exact head_stuckC _ _ _ _ _ _ e1 e1 e3 hi
theorem refixed_one (t:Bs) (b:BlobS) (m:Nat) (h:refixed 2 t=.ok (b,m)):encF 2 b=t.take m∧m≤t.length∧b.right=true∧b.data.length+2≤t.length:=by
 unfold refixed at h
 by_cases h1:t.length<2
 · rw[if_pos h1]at h;cases h
 rw[if_neg h1]at h
 have hb:beBytes (sInt (t.take 2)) 2=t.take 2:=by
   have:=beBytes_sInt (t.take 2)
   rwa [List.length_take,Nat.min_eq_left (by omega)]at this
 unfold gotS at h
 by_cases h2:sInt (t.take 2)= -1
 · rw[if_pos h2]at h;simp only[Except.ok.injEq,Prod.mk.injEq]at h;obtain⟨rfl,rfl⟩:=h;rw[h2]at hb;refine⟨?_,by omega,rfl,by simp[BlobS.none];omega⟩
   show beBytes (-1) 2++[]=_
   rw[List.append_nil,hb]
 rw[if_neg h2]at h
 by_cases h3:sInt (t.take 2)<0
 · rw[if_pos h3]at h;cases h
 rw[if_neg h3]at h
 by_cases h4:(t.length:Int) - (2:Nat)<sInt (t.take 2)
 · rw[if_pos h4]at h;cases h
 rw[if_neg h4]at h;simp only[Except.ok.injEq,Prod.mk.injEq]at h;obtain⟨rfl,rfl⟩:=h;obtain⟨n,hn⟩:∃n:Nat,sInt (t.take 2)=n:=⟨(sInt (t.take 2)).toNat,by omega⟩;rw[hn]at hb h4 ⊢;have hl:((t.drop 2).take n).length=n:=by rw[List.length_take,List.length_drop];omega
 refine⟨?_,?_,rfl,?_⟩
 · show beBytes ((((t.drop 2).take n).length:Nat):Int) 2++(t.drop 2).take n=_
   rw[hl,hb];rw[show((n:Nat):Int).toNat=n from rfl,List.take_add]
 · simp;omega
 · show((t.drop 2).take n).length+2≤_
   rw[hl];omega
theorem reHead_one (s:Bs) (h:HeadS) (m:Nat) (hx:reHead s=.ok (h,m)):encHead h=s.take m∧m≤s.length∧h.cli.data.length≤s.length:=by
 unfold reHead at hx
 by_cases h1:s.length<4
 · rw[if_pos h1]at hx;cases hx
 rw[if_neg h1]at hx
 by_cases h2:verErr (sInt (s.take 2)) (sInt ((s.drop 2).take 2))=0
 · rw[if_neg (fun x=>x h2)]at hx
   by_cases h3:s.length<8
   · rw[if_pos h3]at hx;cases hx
   rw[if_neg h3]at hx
   cases hf:refixed 2 (s.drop 8)with
   |error e=>rw[hf]at hx;cases hx
   |ok x=>
    obtain⟨b,k⟩:=x;rw[hf]at hx;simp only[Except.ok.injEq,Prod.mk.injEq]at hx;obtain⟨rfl,rfl⟩:=hx;obtain⟨e1,e2,_,e4⟩:=refixed_one _ _ _ hf;rw[List.length_drop]at e2 e4;refine⟨?_,by omega,by simp only;omega⟩
    have b1:beBytes (sInt (s.take 2)) 2=s.take 2:=by
     have:=beBytes_sInt (s.take 2)
     rwa [List.length_take,Nat.min_eq_left (by omega)]at this
    have b2:beBytes (sInt ((s.drop 2).take 2)) 2=(s.drop 2).take 2:=by
     have:=beBytes_sInt ((s.drop 2).take 2)
     rwa [List.length_take,List.length_drop,Nat.min_eq_left (by omega)]at this
    have b3:beBytes (sInt ((s.drop 4).take 4)) 4=(s.drop 4).take 4:=by
     have:=beBytes_sInt ((s.drop 4).take 4)
     rwa [List.length_take,List.length_drop,Nat.min_eq_left (by omega)]at this
    show beBytes _ 2++(beBytes _ 2++(beBytes _ 4++encF 2 b))=_
    rw[b1,b2,b3,e1];rw[show 8+k=2+(2+(4+k)) by omega,List.take_add,List.take_add,List.drop_drop,List.take_add,List.drop_drop]
 · rw[if_pos h2]at hx;cases hx
theorem take_addQ (s:Bs) (a b:Nat):s.take (a+b)=s.take a++(s.drop a).take b:=List.take_add
theorem two_short (s:Bs) (pos:Nat) (hp:pos≤s.length) (h:s.length<pos+10):∃p e i3 i4,(⟨s,pos,0⟩:InS).int 8=(p,i3)∧i3.int 2=(e,i4)∧i4.err=1:=by
 by_cases c:s.length<pos+8
 · obtain⟨q,hq⟩:=int_shortM 8 (by decide) (by decide) s pos hp c;have h2:(⟨s,q,1⟩:InS).int 2=(0,⟨s,q,1⟩):=int_stuckM 2 (by decide) (by decide) ⟨s,q,1⟩ (show(1:Int)≠0 by decide);exact⟨_,_,_,_,hq,h2,rfl⟩
 · have h1:=int_okA 8 (by decide) (by decide) s pos (by omega);obtain⟨q,hq⟩:=int_shortM 2 (by decide) (by decide) s (pos+8) (by omega) (by omega);exact⟨_,_,_,_,h1,hq,rfl⟩
theorem two_okQ (s:Bs) (pos:Nat) (h:pos+10≤s.length):(⟨s,pos,0⟩:InS).int 8=(sInt ((s.drop pos).take 8),⟨s,pos+8,0⟩)∧(⟨s,pos+8,0⟩:InS).int 2=(sInt ((s.drop (pos+8)).take 2),⟨s,pos+10,0⟩):=
 ⟨int_okA 8 (by decide) (by decide) s pos (by omega),int_okA 2 (by decide) (by decide) s (pos+8) (by omega)⟩
theorem bool_stuckQ (i:InS) (h:i.err≠0):i.boolP.2.err=i.err:=by
 have h1:i.int 1=(0,i):=int_stuckM 1 (by decide) (by decide) i h;unfold InS.boolP;rw[h1]
 simp
theorem bool_shortQ (s:Bs) (pos:Nat) (hp:pos≤s.length) (h:s.length<pos+1):(⟨s,pos,0⟩:InS).boolP.2.err=1:=by
 obtain⟨q,hq⟩:=int_shortM 1 (by decide) (by decide) s pos hp h;have hq2:(⟨s,pos,0⟩:InS).int 1=(0,⟨s,q,1⟩):=hq;unfold InS.boolP;rw[hq2]
 simp
theorem take_oneQ {s:Bs}{pos:Nat}{y:UInt8}(h:s[pos]? =some y):(s.drop pos).take 1=[y]:=by
 obtain⟨h1,h2⟩:=List.getElem?_eq_some_iff.1 h;rw[List.drop_eq_getElem_cons h1,h2]
 rfl
theorem sInt_01 (y:UInt8):(sInt [y]=0↔y=0)∧(sInt [y]=1↔y=1):=by
 have hb:=beBytes_sInt [y]
 constructor
 · constructor
   · intro h;rw[h]at hb;have hb:beBytes 0 1=[y]:=hb;exact(List.cons.inj (hb.symm.trans (show beBytes 0 1=[0] by rfl))).1
   · rintro rfl;rfl
 · constructor
   · intro h;rw[h]at hb;have hb:beBytes 1 1=[y]:=hb;exact(List.cons.inj (hb.symm.trans (show beBytes 1 1=[1] by rfl))).1
   · rintro rfl;rfl
theorem byte_01 (y:UInt8):((y.toNat:Int)=0↔y=0)∧((y.toNat:Int)=1↔y=1):=by
 constructor
 · constructor
   · intro h;exact UInt8.toNat_inj.1 (show y.toNat=(0:UInt8).toNat by have:(0:UInt8).toNat=0:=rfl;omega)
   · rintro rfl;rfl
 · constructor
   · intro h;exact UInt8.toNat_inj.1 (show y.toNat=(1:UInt8).toNat by have:(1:UInt8).toNat=1:=rfl;omega)
   · rintro rfl;rfl
theorem bool_badQ (s:Bs) (pos:Nat) (y:UInt8) (hy:s[pos]? =some y) (hb:1<(y.toNat:Int)):(⟨s,pos,0⟩:InS).boolP.2.err=11:=by
 obtain⟨h1,h2⟩:=List.getElem?_eq_some_iff.1 hy;have h3:=int_okA 1 (by decide) (by decide) s pos (by omega);rw[take_oneQ hy]at h3;have h4:(⟨s,pos,0⟩:InS).int 1=(sInt [y],⟨s,pos+1,0⟩):=h3;unfold InS.boolP;rw[h4];simp only;rw[if_pos ⟨fun h=>by have:=(byte_01 y).1.2 ((sInt_01 y).1.1 h);omega,fun h=>by have:=(byte_01 y).2.2 ((sInt_01 y).2.1 h);omega⟩]
 rfl
theorem bool_okQ (s:Bs) (pos:Nat) (y:UInt8) (hy:s[pos]? =some y) (hb:¬1<(y.toNat:Int)):(⟨s,pos,0⟩:InS).boolP=(((y.toNat:Int)==1),⟨s,pos+1,0⟩)∧encO ((y.toNat:Int)==1)=[y]:=by
 obtain⟨h1,h2⟩:=List.getElem?_eq_some_iff.1 hy;have h3:=int_okA 1 (by decide) (by decide) s pos (by omega);rw[take_oneQ hy]at h3;have h4:(⟨s,pos,0⟩:InS).int 1=(sInt [y],⟨s,pos+1,0⟩):=h3
 have h5:y=0∨y=1:=by
  rcases(by omega:(y.toNat:Int)=0∨(y.toNat:Int)=1)with h|h
  · exact .inl ((byte_01 y).1.1 h)
  · exact .inr ((byte_01 y).2.1 h)
 unfold InS.boolP;rw[h4]
 rcases h5 with rfl|rfl
 · exact⟨rfl,rfl⟩
 · exact⟨rfl,rfl⟩
theorem close_st {i:InS}(h:i.err≠0):i.close.err=i.err:=by
 unfold InS.close
 split
 · unfold InS.fail;rw[if_neg h]
 · rfl
theorem valF_stuck {i:InS}(h:i.err≠0):i.valF=(ValS.z,i):=by
 have r8:i.int 8=(0,i):=(rds_intN 8 (by decide) (by decide)).stuck i h;have r2:i.int 2=(0,i):=(rds_intN 2 (by decide) (by decide)).stuck i h;have r4:i.int 4=(0,i):=(rds_intN 4 (by decide) (by decide)).stuck i h;have r1:i.int 1=(0,i):=(rds_intN 1 (by decide) (by decide)).stuck i h;have rt:i.tops=([],i):=rds_tops.stuck i h;exact valF_eq r8 r2 r4 r1 rt r8 r8
theorem decE_zero {s:Bs}(h:decE s=0):((⟨s,0,0⟩:InS).int 2).1=0:=by
 by_cases ha:((⟨s,0,0⟩:InS).int 2).1=0
 · exact ha
 · exfalso
   have hj:(decI s).err≠0:=by
    unfold decI;rw[if_neg ha];unfold InS.fail
    split
    · show(7:Int)≠0;decide
    · assumption
   unfold decE at h;rw[valF_stuck hj,close_st hj]at h;exact hj h
theorem valDec_ok {s:Bs}{v:ValS}(h:valDec s=(v,0)) (hz:v≠ValS.z∨True):decE s=0∧(decI s).valF.1=v∧v.err=0:=by
 unfold valDec at h
 by_cases h1:decE s≠0
 · rw[if_pos h1]at h;simp only[Prod.mk.injEq]at h;exact absurd h.2 h1
 · rw[if_neg h1]at h
   by_cases h2:(decI s).valF.1.err≠0
   · rw[if_pos h2]at h;simp only[Prod.mk.injEq]at h;exact absurd h.2 h2
   · rw[if_neg h2]at h;simp only[Prod.mk.injEq]at h;refine⟨Classical.not_not.1 h1,h.1,?_⟩;rw[←h.1];exact Classical.not_not.1 h2
theorem valDec_bad {s:Bs}{v:ValS}{E:Int}(h:valDec s=(v,E)) (h0:E≠0):(decE s=E)∨(decE s=0∧(decI s).valF.1.err=E):=by
 unfold valDec at h
 by_cases h1:decE s≠0
 · rw[if_pos h1]at h;simp only[Prod.mk.injEq]at h;exact .inl h.2
 · rw[if_neg h1]at h;have h1:=Classical.not_not.1 h1
   by_cases h2:(decI s).valF.1.err≠0
   · rw[if_pos h2]at h;simp only[Prod.mk.injEq]at h;exact .inr ⟨h1,h.2⟩
   · rw[if_neg h2]at h;simp only[Prod.mk.injEq]at h;exact absurd h.2.symm h0
theorem Rds.back {α:Type}{f:InS→α×InS}{p:Bs→Except Int (α×Nat)}{d:α}(h:Rds f p d){i j:InS}{a:α}(hf:f i=(a,j)) (he:j.err=0):i.err=0:=by
 by_cases h0:i.err=0
 · exact h0
 · exfalso
   rw[h.stuck i h0]at hf
   cases hf
   exact h0 he
theorem int_invF {i j:InS}{n:Int}(k:Nat) (h1:1≤k) (h8:k≤8) (hf:i.int k=(n,j)) (he:j.err=0) (hp:i.pos≤i.s.length):fits n k:=by
 obtain⟨a,m,b,c,d⟩:=(rds_intN k h1 h8).inv hf he hp;unfold getIntN at b
 by_cases h2:(i.s.drop i.pos).length<k
 · rw[if_pos h2]at b;cases b
 · rw[if_neg h2]at b
   cases b
   exact sInt_fits _ k (by omega) (by omega) (by rw[List.length_take];omega)
theorem close_zero {i:InS}(h:i.close.err=0):i.err=0∧i.left=0:=by
 unfold InS.close at h
 by_cases h1:0<i.left
 · rw[if_pos h1]at h;unfold InS.fail at h
   by_cases h2:i.err=0
   · rw[if_pos h2]at h;cases h
   · rw[if_neg h2]at h;exact absurd h h2
 · rw[if_neg h1]at h;exact⟨h,by omega⟩
theorem valDec_one {S:Bs}{v:ValS}(h:valDec S=(v,0)):v.enc=S∧v.err=0∧v.R:=by
 obtain⟨hE,hV,he⟩:=valDec_ok h (.inr trivial);have ha:=decE_zero hE;obtain⟨j,hj⟩:∃j,decI S=j:=⟨_,rfl⟩;obtain⟨⟨a,j0⟩,h0⟩:∃r,(⟨S,0,0⟩:InS).int 2=r:=⟨_,rfl⟩;rw[h0]at ha;have ha:a=0:=ha;subst ha;have hjj:j=j0:=by rw[←hj];unfold decI;rw[h0];rfl
 subst hjj;obtain⟨⟨p,i1⟩,h1⟩:∃r,j.int 8=r:=⟨_,rfl⟩;obtain⟨⟨e,i2⟩,h2⟩:∃r,i1.int 2=r:=⟨_,rfl⟩;obtain⟨⟨t,i3⟩,h3⟩:∃r,i2.int 4=r:=⟨_,rfl⟩;obtain⟨⟨s,i4⟩,h4⟩:∃r,i3.int 1=r:=⟨_,rfl⟩;obtain⟨⟨l,i5⟩,h5⟩:∃r,i4.tops=r:=⟨_,rfl⟩;obtain⟨⟨u,i6⟩,h6⟩:∃r,i5.int 8=r:=⟨_,rfl⟩;obtain⟨⟨st,i7⟩,h7⟩:∃r,i6.int 8=r:=⟨_,rfl⟩;have hF:=valF_eq h1 h2 h3 h4 h5 h6 h7;rw[hj,hF]at hV;have hV:(⟨p,e,t,s,l,u,st⟩:ValS)=v:=hV;unfold decE at hE;rw[hj,hF]at hE;obtain⟨z7,hleft⟩:=close_zero (i:=i7) hE;have z6:=(rds_intN 8 (by decide) (by decide)).back h7 z7;have z5:=(rds_intN 8 (by decide) (by decide)).back h6 z6;have z4:=rds_tops.back h5 z5;have z3:=(rds_intN 1 (by decide) (by decide)).back h4 z4;have z2:=(rds_intN 4 (by decide) (by decide)).back h3 z3;have z1:=(rds_intN 2 (by decide) (by decide)).back h2 z2;have z0:=(rds_intN 8 (by decide) (by decide)).back h1 z1;obtain⟨_,b0,c0,d0⟩:=int_inv 2 (by decide) (by decide) h0 z0 (by show 0≤S.length;omega);simp only at b0 c0 d0;subst b0;obtain⟨_,b1,c1,d1⟩:=int_inv 8 (by decide) (by decide) h1 z1 c0;have f1:=int_invF 8 (by decide) (by decide) h1 z1 c0;simp only at b1 c1 d1;subst b1;obtain⟨_,b2,c2,d2⟩:=int_inv 2 (by decide) (by decide) h2 z2 c1;simp only at b2 c2 d2;subst b2;obtain⟨_,b3,c3,d3⟩:=int_inv 4 (by decide) (by decide) h3 z3 c2;simp only at b3 c3 d3;subst b3;obtain⟨_,b4,c4,d4⟩:=int_inv 1 (by decide) (by decide) h4 z4 c3;simp only at b4 c4 d4;subst b4;obtain⟨_,k5,b5,c5,d5⟩:=tops_inv h5 z5 c4;simp only at b5 c5 d5;subst b5;obtain⟨_,b6,c6,d6⟩:=int_inv 8 (by decide) (by decide) h6 z6 c5;have f6:=int_invF 8 (by decide) (by decide) h6 z6 c5;simp only at b6 c6 d6;subst b6;obtain⟨_,b7,c7,d7⟩:=int_inv 8 (by decide) (by decide) h7 z7 c6;have f7:=int_invF 8 (by decide) (by decide) h7 z7 c6;simp only at b7 c7 d7;subst b7
 have hall:S.take (0+2+8+2+4+1+k5+8+8)=S:=by
   refine List.take_of_length_le ?_;unfold InS.left at hleft;simp only at hleft
   omega
 have r1:=fits_rng p 8 f1;have r6:=fits_rng u 8 f6;have r7:=fits_rng st 8 f7;refine⟨?_,he,?_⟩
 · rw[←hV,←hall,d7,d6,d5,d4,d3,d2,d1,d0,List.take_zero,List.nil_append]
   rfl
 · obtain⟨hp,⟨hs1,hs2⟩,_⟩:=v.ok_parts he;obtain⟨q1,⟨q2,q3⟩,⟨q4,q5⟩,q6,q7⟩:=ranged_parts v hp;subst hV;simp only at q1 q2 q3 q4 q5 q6 q7 hs1 hs2;unfold ValS.R;simp only;refine⟨r1,⟨by omega,by omega⟩,⟨by omega,by omega⟩,⟨by omega,by omega⟩,r6,r7⟩
structure MarkS where
  prod:Int
  epoch:Int
  commit:Bool
  tops:List TopS
  coord:Int
deriving DecidableEq
structure MarkR where
  m:MarkS
  l:List (TopS×Value)
  q:Option Addr
  cap:Nat
def RMark (cs:List Value) (x:MarkR):Prop:=cs=[.int .i64 x.m.prod,.int .i64 x.m.epoch,.bool x.m.commit,.slice x.q x.l.length x.cap,.int .i64 x.m.coord]
def MarkS.R (m:MarkS):Prop:=(-9223372036854775808≤m.prod∧m.prod<9223372036854775808)∧(-9223372036854775808≤m.epoch∧m.epoch<9223372036854775808)∧(-9223372036854775808≤m.coord∧m.coord<9223372036854775808)
def Know.marks (v:Value) (l:List MarkR):Know:=(Know.flat RMark v 5 l).and (Know.all l fun x=>Know.tops (.slice x.q x.l.length x.cap) x.l)
theorem marks_flat {K:Know}{v:Value}{l:List MarkR}(h:K.has (Know.marks v l)):K.has (Know.flat RMark v 5 l):=fun w F x=>(h w F x).1
theorem marks_tops {K:Know}{v:Value}{l:List MarkR}(h:K.has (Know.marks v l)){x:MarkR}(hx:x∈l):K.has (Know.tops (.slice x.q x.l.length x.cap) x.l):=fun w F y=>(h w F y).2 x hx
theorem marks_form {W0 w:World}{K:Know}{L:List Res}{v:Value}{l:List MarkR}(hk:K.has (Know.marks v l)) (h:St W0 w K L):∃q cap,v=.slice q l.length cap:=by
 obtain⟨F,hF,_⟩:=h.get;obtain⟨q,cap,hv,_⟩:=(marks_flat hk _ _ hF).at;exact⟨q,cap,hv⟩
theorem marks_at {W0 w:World}{K:Know}{L:List Res}{q:Option Addr}{n cap:Nat}{l:List MarkR}(hk:K.has (Know.marks (.slice q n cap) l)) (h:St W0 w K L) (h0:0<l.length):∃b off,q=some ⟨b,off,none⟩:=by
 obtain⟨F,hF,_⟩:=h.get;obtain⟨q2,cap2,hv,hr⟩:=(marks_flat hk _ _ hF).at;obtain⟨b,off,hq,_⟩:=hr h0;simp at hv;exact⟨b,off,hv.1.trans hq⟩
theorem marks_cell {W0 w:World}{K:Know}{L:List Res}{b off n cap:Nat}{l:List MarkR}(hk:K.has (Know.marks (.slice (some ⟨b,off,none⟩) n cap) l)) (h:St W0 w K L) (i:Nat) (hi:i<l.length) (x:MarkR) (hx:l[i]=x):
  w.cell? ⟨b,off+i*5,none⟩=some (.int .i64 x.m.prod)∧w.cell? ⟨b,off+i*5+1,none⟩=some (.int .i64 x.m.epoch)∧w.cell? ⟨b,off+i*5+2,none⟩=some (.bool x.m.commit)∧w.cell? ⟨b,off+i*5+3,none⟩=some (.slice x.q x.l.length x.cap)∧w.cell? ⟨b,off+i*5+4,none⟩=some (.int .i64 x.m.coord):=by
 subst hx;obtain⟨F,hF,_⟩:=h.get;obtain⟨q2,cap2,hv,hr⟩:=(marks_flat hk _ _ hF).at;obtain⟨b2,off2,hq,hc⟩:=hr (by omega);rw[hq]at hv;simp at hv;obtain⟨⟨rfl,rfl⟩,_,_⟩:=hv;obtain⟨cs,_,hR,hcs⟩:=hc i hi;unfold RMark at hR;subst hR;refine⟨?_,?_,?_,?_,?_⟩
 · exact hcs 0 _ rfl
 · rw[Nat.add_assoc];exact hcs 1 _ rfl
 · rw[Nat.add_assoc];exact hcs 2 _ rfl
 · rw[Nat.add_assoc];exact hcs 3 _ rfl
 · rw[Nat.add_assoc];exact hcs 4 _ rfl
def mErr (v:Int) (p e:Int) (l:List TopS) (co:Int):Int:=
  if who p e=false then 11 else if co<0∨2147483647<co then 11 else if v=0∧co≠0 then 11 else riseE l
def MarkS.err (v:Int) (m:MarkS):Int:=mErr v m.prod m.epoch m.tops m.coord
def msE (v:Int):List MarkS→Int
  |[]=>0
  |m::t=>if m.err v≠0 then m.err v else msE v t
def marksErr (v:Int) (l:List MarkS):Int:=if l=[]then 10 else msE v l
def MarkR.Fit (x:MarkR):Prop:=x.l.map (·.1)=x.m.tops∧FewT x.l∧x.m.R
theorem msE_cons (v:Int) (m:MarkS) (t:List MarkS):msE v (m::t)=if m.err v≠0 then m.err v else msE v t:=rfl
theorem msE_step (v:Int) (l:List MarkS) (k:Nat) (hk:k<l.length) (h:l[k].err v=0):msE v (l.drop k)=msE v (l.drop (k+1)):=by
 rw[List.drop_eq_getElem_cons hk,msE_cons,if_neg (by rw[h];decide)]
theorem msE_bad (v:Int) (l:List MarkS) (k:Nat) (hk:k<l.length) (h:l[k].err v≠0):msE v (l.drop k)=l[k].err v:=by
 rw[List.drop_eq_getElem_cons hk,msE_cons,if_pos h]
def InS.mark1 (v:Int) (i:InS):MarkS×InS:=
  let a:=i.int 8
  let b:=a.2.int 2
  let c:=b.2.boolP
  let t:=c.2.tops
  if v=1 then(⟨a.1,b.1,c.1,t.1,(t.2.int 4).1⟩,(t.2.int 4).2)else(⟨a.1,b.1,c.1,t.1,0⟩,t.2)
def InS.marksN (v:Int):Nat→List MarkS→InS→List MarkS×InS
  |0,acc,i=>(acc,i)
  |n+1,acc,i=>if (i.mark1 v).2.err=0 then InS.marksN v n (acc++[(i.mark1 v).1]) (i.mark1 v).2 else([],(i.mark1 v).2)
def InS.marks (v:Int) (i:InS):List MarkS×InS:=
  let r:=InS.marksN v (i.cnt 15).1 [] (i.cnt 15).2
  if r.2.err=0 then(if marksErr v r.1=0 then r else([],r.2.fail (marksErr v r.1)))else([],r.2)
def encM (v:Int) (m:MarkS):Bs:=(((beBytes m.prod (8:Int).toNat++beBytes m.epoch (2:Int).toNat)++encO m.commit)++encTs m.tops)++(if v=1 then beBytes m.coord (4:Int).toNat else[])
def preM (v:Int) (l:List MarkS) (k:Nat):Bs:=beBytes (l.length:Int) (4:Int).toNat++(l.take k).flatMap (encM v)
def encMs (v:Int) (l:List MarkS):Bs:=beBytes (l.length:Int) (4:Int).toNat++l.flatMap (encM v)
theorem preM_zero (v:Int) (l:List MarkS):preM v l 0=beBytes (l.length:Int) (4:Int).toNat:=by unfold preM;rw[List.take_zero,List.flatMap_nil,List.append_nil]
theorem preM_all (v:Int) (l:List MarkS):preM v l l.length=encMs v l:=by unfold preM encMs;rw[List.take_length]
theorem preM_step (v:Int) (l:List MarkS) (k:Nat) (hk:k<l.length) (m:MarkS) (hm:l[k]=m):preM v l (k+1)=preM v l k++encM v m:=by
 unfold preM;rw[List.take_succ_eq_append_getElem hk,List.flatMap_append,hm,List.flatMap_cons,List.flatMap_nil,List.append_nil,List.append_assoc]
theorem mErr_ok {v p e:Int}{l:List TopS}{co:Int}(h:mErr v p e l co=0):who p e=true∧(0≤co∧co≤2147483647)∧¬(v=0∧co≠0)∧riseE l=0:=by
 unfold mErr at h
 by_cases h1:who p e=false
 · rw[if_pos h1]at h;cases h
 · rw[if_neg h1]at h
   by_cases h2:co<0∨2147483647<co
   · rw[if_pos h2]at h;cases h
   · rw[if_neg h2]at h
     by_cases h3:v=0∧co≠0
     · rw[if_pos h3]at h;cases h
     · rw[if_neg h3]at h;exact⟨by simpa using h1,by omega,h3,h⟩
theorem msE_ok {v:Int}{l:List MarkS}(h:msE v l=0):∀m∈l,m.err v=0:=by
 induction l with
 |nil=>intro m hm;cases hm
 |cons x t ih=>
  rw[msE_cons]at h
  by_cases hx:x.err v≠0
  · rw[if_pos hx]at h;exact absurd h hx
  · rw[if_neg hx]at h;intro m hm
    rcases List.mem_cons.1 hm with rfl|hm
    · simpa using hx
    · exact ih h m hm
theorem marksErr_ok {v:Int}{l:List MarkS}(h:marksErr v l=0):¬l=[]∧∀m∈l,m.err v=0:=by
 unfold marksErr at h
 by_cases h1:l=[]
 · rw[if_pos h1]at h;cases h
 · rw[if_neg h1]at h;exact⟨h1,msE_ok h⟩
def mark1R (v:Int) (s:Bs) (p:Nat):Except Int (MarkS×Nat):=
  if s.length<p+11 then .error 1 else
  if 1<((s.getD (p+10) 0).toNat:Int)then .error 11 else
  if (topsR (s.drop (p+11))).2.2≠0 then .error (topsR (s.drop (p+11))).2.2 else
  if v=1 then
    if s.length<p+11+(topsR (s.drop (p+11))).2.1+4 then .error 1
    else .ok (⟨sInt ((s.drop p).take 8),sInt ((s.drop (p+8)).take 2),(((s.getD (p+10) 0).toNat:Int)==1),(topsR (s.drop (p+11))).1,sInt ((s.drop (p+11+(topsR (s.drop (p+11))).2.1)).take 4)⟩,p+11+(topsR (s.drop (p+11))).2.1+4)
  else .ok (⟨sInt ((s.drop p).take 8),sInt ((s.drop (p+8)).take 2),(((s.getD (p+10) 0).toNat:Int)==1),(topsR (s.drop (p+11))).1,0⟩,p+11+(topsR (s.drop (p+11))).2.1)
def marksRN (v:Int) (s:Bs):Nat→List MarkS→Nat→List MarkS×Nat×Int
  |0,acc,p=>(acc,p,0)
  |n+1,acc,p=>match mark1R v s p with
    | .error e=>([],0,e)
    | .ok (m,q)=>marksRN v s n (acc++[m]) q
theorem bool_stuckR (i:InS) (h:i.err≠0):i.boolP.2=i:=by
 have h1:i.int 1=(0,i):=int_stuckM 1 (by decide) (by decide) i h;unfold InS.boolP;rw[h1]
 simp
theorem mark1_stuckB {v:Int}{i i1 i2:InS}{a b:Int}(h1:i.int 8=(a,i1)) (h2:i1.int 2=(b,i2)) (h:i2.boolP.2.err≠0):(i.mark1 v).2.err=i2.boolP.2.err:=by
 have h3:i2.boolP.2.tops=([],i2.boolP.2):=rds_tops.stuck _ h;have h4:i2.boolP.2.int 4=(0,i2.boolP.2):=int_stuckM 4 (by decide) (by decide) _ h;unfold InS.mark1;rw[h1];simp only;rw[h2];simp only;rw[h3];simp only;rw[h4]
 by_cases hv:v=1
 · rw[if_pos hv]
 · rw[if_neg hv]
theorem getD_q {s:Bs}{k:Nat}(h:k<s.length):s[k]? =some (s.getD k 0):=by
 rw[List.getElem?_eq_getElem h];simp[List.getD,h]
theorem mark1_err {v:Int}{s:Bs}{p:Nat}{e:Int}(hp:p≤s.length) (h:mark1R v s p=.error e):e≠0∧((⟨s,p,0⟩:InS).mark1 v).2.err=e:=by
 unfold mark1R at h
 by_cases c1:s.length<p+11
 · rw[if_pos c1]at h
   cases h
   refine⟨by decide,?_⟩
   by_cases c2:s.length<p+10
   · obtain⟨a,b,i3,i4,h1,h2,h3⟩:=two_short s p hp c2;have h5:i4.err≠0:=by rw[h3];decide
     have h4:=bool_stuckR i4 h5;rw[mark1_stuckB h1 h2 (by rw[h4];exact h5),h4,h3]
   · obtain⟨h1,h2⟩:=two_okQ s p (by omega);have h3:=bool_shortQ s (p+10) (by omega) (by omega);rw[mark1_stuckB h1 h2 (by rw[h3];decide),h3]
 rw[if_neg c1]at h;obtain⟨h1,h2⟩:=two_okQ s p (by omega);have hy:=getD_q (s:=s) (k:=p+10) (by omega)
 by_cases c2:1<((s.getD (p+10) 0).toNat:Int)
 · rw[if_pos c2]at h
   cases h
   have h3:=bool_badQ s (p+10) _ hy c2;refine⟨by decide,?_⟩;rw[mark1_stuckB h1 h2 (by rw[h3];decide),h3]
 rw[if_neg c2]at h;have h3:=(bool_okQ s (p+10) _ hy c2).1;obtain⟨⟨l,mm,ef⟩,hr⟩:∃r,topsR (s.drop (p+11))=r:=⟨_,rfl⟩;rw[hr]at h;simp only at h
 by_cases c3:ef≠0
 · rw[if_pos c3]at h
   cases h
   refine⟨c3,?_⟩;obtain⟨_,q,_,h5⟩:=rds_tops.err s (p+11) e (by omega) (topsR_err hr c3);have h6:(⟨s,q,e⟩:InS).int 4=(0,⟨s,q,e⟩):=int_stuckM 4 (by decide) (by decide) _ c3;have h3':(⟨s,p+10,0⟩:InS).boolP=((((s.getD (p+10) 0).toNat:Int)==1),⟨s,p+11,0⟩):=h3;unfold InS.mark1;rw[h1];simp only;rw[h2];simp only;rw[h3'];simp only;rw[h5];simp only;rw[h6]
   by_cases hv:v=1
   · rw[if_pos hv]
   · rw[if_neg hv]
 rw[if_neg c3]at h
 by_cases hv:v=1
 rotate_left
 · rw[if_neg hv]at h;cases h
 rw[if_pos hv]at h
 by_cases c4:s.length<p+11+mm+4
 rotate_left
 · rw[if_neg c4]at h;cases h
 rw[if_pos c4]at h
 cases h
 refine⟨by decide,?_⟩;have hef:ef=0:=by by_cases hh:ef=0;exact hh;exact absurd hh c3
 subst hef;obtain⟨h4,h5⟩:=rds_tops.ok s (p+11) l mm (by omega) (topsR_ok hr);obtain⟨q,hq⟩:=int_shortM 4 (by decide) (by decide) s (p+11+mm) h4 c4;have hq2:(⟨s,p+11+mm,0⟩:InS).int 4=(0,⟨s,q,1⟩):=hq;have h3':(⟨s,p+10,0⟩:InS).boolP=((((s.getD (p+10) 0).toNat:Int)==1),⟨s,p+11,0⟩):=h3;unfold InS.mark1;rw[h1];simp only;rw[h2];simp only;rw[h3'];simp only;rw[h5];simp only;rw[hq2,if_pos hv]
theorem mark1_ok {v:Int}{s:Bs}{p q:Nat}{m:MarkS}(hs:s.length≤2000) (h:mark1R v s p=.ok (m,q)):(p+11≤q∧q≤s.length)∧(⟨s,p,0⟩:InS).mark1 v=(m,⟨s,q,0⟩)∧s.take p++encM v m=s.take q∧m.R∧FewL m.tops:=by
 unfold mark1R at h
 by_cases c1:s.length<p+11
 · rw[if_pos c1]at h;cases h
 rw[if_neg c1]at h
 by_cases c2:1<((s.getD (p+10) 0).toNat:Int)
 · rw[if_pos c2]at h;cases h
 rw[if_neg c2]at h;obtain⟨h1,h2⟩:=two_okQ s p (by omega);have hy:=getD_q (s:=s) (k:=p+10) (by omega);obtain⟨h3,ho⟩:=bool_okQ s (p+10) _ hy c2;have h3':(⟨s,p+10,0⟩:InS).boolP=((((s.getD (p+10) 0).toNat:Int)==1),⟨s,p+11,0⟩):=h3;obtain⟨⟨l,mm,ef⟩,hr⟩:∃r,topsR (s.drop (p+11))=r:=⟨_,rfl⟩;rw[hr]at h;simp only at h
 by_cases c3:ef≠0
 · rw[if_pos c3]at h;cases h
 rw[if_neg c3]at h;have hef:ef=0:=by by_cases hh:ef=0;exact hh;exact absurd hh c3
 subst hef;obtain⟨h4,h5⟩:=rds_tops.ok s (p+11) l mm (by omega) (topsR_ok hr);have hfl:FewL l:=topsP_few (topsR_ok hr) (by rw[List.length_drop];omega);obtain⟨_,ht⟩:=topsP_one (topsR_ok hr);have r1: -9223372036854775808≤sInt ((s.drop p).take 8)∧sInt ((s.drop p).take 8)<9223372036854775808:=sInt_range _ (by rw[List.length_take];omega);have r2: -9223372036854775808≤sInt ((s.drop (p+8)).take 2)∧sInt ((s.drop (p+8)).take 2)<9223372036854775808:=sInt_range _ (by rw[List.length_take];omega)
 have e1:s.take p++(beBytes (sInt ((s.drop p).take 8)) 8++(beBytes (sInt ((s.drop (p+8)).take 2)) 2++encO (((s.getD (p+10) 0).toNat:Int)==1)))=s.take (p+11):=by
   rw[ho,sInt_of_take (s.drop p) 8 (by rw[List.length_drop];omega),sInt_of_take (s.drop (p+8)) 2 (by rw[List.length_drop];omega),←List.append_assoc,←take_addQ,←List.append_assoc,←take_addQ]
   show s.take (p+10)++_=s.take (p+10+1)
   rw[take_addQ s (p+10) 1,take_oneQ hy]
 by_cases hv:v=1
 · rw[if_pos hv]at h
   by_cases c4:s.length<p+11+mm+4
   · rw[if_pos c4]at h;cases h
   rw[if_neg c4]at h;have h7:(⟨s,p+11+mm,0⟩:InS).int 4=(sInt ((s.drop (p+11+mm)).take 4),⟨s,p+11+mm+4,0⟩):=int_okA 4 (by decide) (by decide) s (p+11+mm) (by omega);have r3: -9223372036854775808≤sInt ((s.drop (p+11+mm)).take 4)∧sInt ((s.drop (p+11+mm)).take 4)<9223372036854775808:=sInt_range _ (by rw[List.length_take];omega);simp only[Except.ok.injEq,Prod.mk.injEq]at h;obtain⟨rfl,rfl⟩:=h;refine⟨⟨by omega,by omega⟩,?_,?_,⟨r1,r2,r3⟩,hfl⟩
   · unfold InS.mark1;rw[h1];simp only;rw[h2];simp only;rw[h3'];simp only;rw[h5];simp only;rw[h7,if_pos hv]
   · unfold encM;simp only;rw[if_pos hv]
     show s.take p++((((beBytes (sInt ((s.drop p).take 8)) 8++beBytes (sInt ((s.drop (p+8)).take 2)) 2)++_)++_)++beBytes (sInt ((s.drop (p+11+mm)).take 4)) 4)=_
     rw[sInt_of_take (s.drop (p+11+mm)) 4 (by rw[List.length_drop];omega),take_addQ s (p+11+mm) 4,take_addQ s (p+11) mm,←e1,←ht];simp only[List.append_assoc]
 · rw[if_neg hv]at h;simp only[Except.ok.injEq,Prod.mk.injEq]at h;obtain⟨rfl,rfl⟩:=h;refine⟨⟨by omega,by omega⟩,?_,?_,⟨r1,r2,by show(-9223372036854775808:Int)≤0∧(0:Int)<9223372036854775808;decide⟩,hfl⟩
   · unfold InS.mark1;rw[h1];simp only;rw[h2];simp only;rw[h3'];simp only;rw[h5,if_neg hv]
   · unfold encM;simp only;rw[if_neg hv]
     show s.take p++((((beBytes (sInt ((s.drop p).take 8)) 8++beBytes (sInt ((s.drop (p+8)).take 2)) 2)++_)++_)++[])=_
     rw[take_addQ s (p+11) mm,←e1,←ht];simp only[List.append_assoc,List.append_nil]
theorem marksN_both (v:Int) (s:Bs) (hs:s.length≤2000):∀(n:Nat) (acc:List MarkS) (p:Nat),p≤s.length→(∀m∈acc,m.R∧FewL m.tops)→
    ∃(l:List MarkS) (j:InS) (q:Nat) (e:Int),InS.marksN v n acc ⟨s,p,0⟩=(l,j)∧marksRN v s n acc p=(l,q,e)∧j.err=e∧(∀m∈l,m.R∧FewL m.tops)∧(e≠0→l=[]∧q=0)∧(e=0→j=⟨s,q,0⟩∧q≤s.length∧s.take p++(l.drop acc.length).flatMap (encM v)=s.take q∧l.length=acc.length+n∧l.take acc.length=acc)
  |0,acc,p,hp,ha=>⟨acc,⟨s,p,0⟩,p,0,rfl,rfl,rfl,ha,fun h=>absurd rfl h,fun _=>⟨rfl,hp,by rw[List.drop_length];simp,by omega,List.take_length⟩⟩
  |n+1,acc,p,hp,ha=>by
    have hstep:InS.marksN v (n+1) acc ⟨s,p,0⟩=if ((⟨s,p,0⟩:InS).mark1 v).2.err=0 then InS.marksN v n (acc++[((⟨s,p,0⟩:InS).mark1 v).1]) ((⟨s,p,0⟩:InS).mark1 v).2 else([],((⟨s,p,0⟩:InS).mark1 v).2):=rfl
    cases hm:mark1R v s p with
    |error e=>
      obtain⟨h0,h1⟩:=mark1_err hp hm;refine⟨[],((⟨s,p,0⟩:InS).mark1 v).2,0,e,?_,?_,h1,(fun m hm=>by cases hm),fun _=>⟨rfl,rfl⟩,fun h=>absurd h h0⟩
      · rw[hstep,if_neg (by rw[h1];exact h0)]
      · unfold marksRN;rw[hm]
    |ok x=>
      obtain⟨m,q⟩:=x;obtain⟨⟨h1,h2⟩,h3,h4,h5,h6⟩:=mark1_ok hs hm
      obtain⟨l,j,q2,e,g1,g2,g3,g4,g5,g6⟩:=marksN_both v s hs n (acc++[m]) q h2 (fun x hx=>by
        rcases List.mem_append.1 hx with hx|hx
        · exact ha x hx
        · rw[List.mem_singleton.1 hx];exact⟨h5,h6⟩)
      refine⟨l,j,q2,e,?_,?_,g3,g4,g5,fun h=> ?_⟩
      · rw[hstep,h3,if_pos rfl];exact g1
      · unfold marksRN;rw[hm];exact g2
      · obtain⟨a1,a2,a3,a4,a5⟩:=g6 h;rw[List.length_append,List.length_singleton]at a3 a4 a5;have hl:acc.length<l.length:=by omega
        have hlm:l[acc.length]=m:=by
          have:=congrArg (fun z=>z[acc.length]?) a5;simp only[List.getElem?_take]at this;simp at this;rw[List.getElem?_eq_getElem hl]at this
          simpa using this
        refine⟨a1,a2,?_,by omega,?_⟩
        · rw[List.drop_eq_getElem_cons hl,List.flatMap_cons,hlm,←List.append_assoc,h4,a3]
        · have:=congrArg (List.take acc.length) a5;rw[List.take_take]at this
          simpa using this
theorem preM_leL (v:Int) (l:List MarkS) (k:Nat) (hk:k≤l.length) (hl:l.length≤200) (h:∀m∈l,(encM v m).length≤2000):(preM v l k).length≤400004:=by
 unfold preM;rw[List.length_append,beBytes_length]
 have:∀(m:List MarkS),(∀t∈m,(encM v t).length≤2000)→(m.flatMap (encM v)).length≤2000*m.length:=by
  intro m
  induction m with
  |nil=>intro _;simp
  |cons x t ih=>
   intro hm;have h1:=ih (fun y hy=>hm y (by simp[hy]));have h2:=hm x (by simp);rw[List.flatMap_cons,List.length_append,List.length_cons]
   omega
 have h1:=this (l.take k) (fun t ht=>h t (List.mem_of_mem_take ht));rw[List.length_take]at h1;have e:min k l.length=k:=by omega
 rw[e]at h1
 show 4+_≤_
 omega
theorem encM_in (v:Int) (l:List MarkS) (m:MarkS) (hm:m∈l):(encM v m).length≤(encMs v l).length:=by
 have:∀l:List MarkS,m∈l→(encM v m).length≤(l.flatMap (encM v)).length:=by
  intro l
  induction l with
  |nil=>intro h;cases h
  |cons x t ih=>
   intro h;rw[List.flatMap_cons,List.length_append]
   rcases List.mem_cons.1 h with rfl|h
   · omega
   · have:=ih h;omega
 have h2:=this l hm;unfold encMs;rw[List.length_append]
 omega
theorem elem_rec:ElemT Tryz.prog 95 (.agg #[.int .i64 0,.int .i64 0,.bool false,.string ⟨#[]⟩,.bool false,.string ⟨#[]⟩,.slice none 0 0]) 7 88:=elemT_of (by kernel_rfl) rfl (by decide)
def consE (x:RecS) (r:Except Int (List RecS)):Except Int (List RecS):=match r with| .ok t=> .ok (x::t)| .error e=> .error e
def unp:Nat→InS→Except Int (List RecS)
  |0,i=>if i.left=0 then .ok []else .error 10
  |n+1,i=>if i.left=0 then .error 10 else if i.record.2.err=0 then consE i.record.1 (unp n i.record.2)else .error i.record.2.err
def preU (acc:List RecS) (r:Except Int (List RecS)):Except Int (List RecS):=match r with| .ok t=> .ok (acc++t)| .error e=> .error e
theorem preU_nil (r:Except Int (List RecS)):preU [] r=r:=by cases r<;>rfl
theorem preU_snoc (acc:List RecS) (x:RecS) (r:Except Int (List RecS)):preU (acc++[x]) r=preU acc (consE x r):=by
 cases r with
 |error e=>rfl
 |ok t=>simp[preU,consE]
theorem s_leftQ (p:Nat) (i:InS) (n:Nat) (hx:i.left=n){W0 w:World}{K:Know}{L:List Res}(h:St W0 w K (.inp p i::L)):
  Calls Tryz.prog 75 #[inPtr p] w fun en w'=>en=.returned (.int .i64 n)∧St W0 w' K (.inp p i::L):=by
 subst hx;exact s_left p i h
theorem s_errE (p:Nat) (i:InS) (e:Int) (hx:i.err=e){W0 w:World}{K:Know}{L:List Res}(h:St W0 w K (.inp p i::L)):
  Calls Tryz.prog 22 #[inPtr p] w fun en w'=>en=.returned (.int .i64 e)∧St W0 w' K (.inp p i::L):=by
 subst hx;exact s_err p i h
def verRd (k:Nat) (ok:Int→Bool) (e:Int) (s:Bs):Int×Int:=
  if s.length<2 then(0,1)else if sInt (s.take 2)≠0 then(0,7)else if s.length<2+k then(0,1)
  else if ok (sInt ((s.drop 2).take k))=false then(0,e)else if 2+k<s.length then(0,2)else(sInt ((s.drop 2).take k),0)
def verA (s:Bs):Int×InS:=(⟨s,0,0⟩:InS).int 2
def verI (s:Bs):InS:=if (verA s).1=0 then(verA s).2 else(verA s).2.fail 7
def verJ (k:Nat) (ok:Int→Bool) (e:Int) (s:Bs):InS:=if ok ((verI s).int k).1=true then((verI s).int k).2 else((verI s).int k).2.fail e
def verD (k:Nat) (ok:Int→Bool) (e:Int) (s:Bs):Int×Int:=if (verJ k ok e s).close.err=0 then(((verI s).int k).1,0)else(0,(verJ k ok e s).close.err)
theorem close_stuckC {i:InS}(h:i.err≠0):i.close=i:=by
 unfold InS.close
 split
 · exact if_neg h
 · rfl
theorem verD_bad {k:Nat}{ok:Int→Bool}{e x:Int}{s:Bs}(hx:x≠0) (h:(verJ k ok e s).err=x):verD k ok e s=(0,x):=by
 subst h;unfold verD;rw[close_stuckC hx,if_neg hx]
theorem verJ_stuck {k:Nat}{ok:Int→Bool}{e x:Int}{s:Bs}(h1:1≤k) (h8:k≤8) (hx:x≠0) (h:(verI s).err=x):(verJ k ok e s).err=x:=by
 subst h;have h2:(verI s).int k=(0,verI s):=(rds_intN k h1 h8).stuck (verI s) hx;unfold verJ;rw[h2]
 split
 · rfl
 · rw[show(verI s).fail e=verI s from if_neg hx]
theorem verD_eq (k:Nat) (ok:Int→Bool) (e:Int) (h1:1≤k) (h8:k≤8) (he:e≠0) (s:Bs):verD k ok e s=verRd k ok e s:=by
 have hi:=rds_intN 2 (by decide) (by decide);have hk:=rds_intN k h1 h8;unfold verRd
 by_cases c1:s.length<2
 · rw[if_pos c1];obtain⟨_,q,_,h3⟩:=hi.err s 0 1 (Nat.zero_le _) (by simp[getIntN,c1]);have h4:verA s=(0,⟨s,q,1⟩):=h3;refine verD_bad (by decide) (verJ_stuck h1 h8 (by decide) ?_);unfold verI;rw[h4]
   rfl
 rw[if_neg c1];obtain⟨_,h3⟩:=hi.ok s 0 (sInt (s.take 2)) 2 (Nat.zero_le _) (by simp[getIntN,c1]);have h4:verA s=(sInt (s.take 2),⟨s,2,0⟩):=h3
 by_cases c2:sInt (s.take 2)≠0
 · rw[if_pos c2];refine verD_bad (by decide) (verJ_stuck h1 h8 (by decide) ?_);unfold verI;rw[h4,if_neg c2]
   rfl
 rw[if_neg c2];have hI:verI s=⟨s,2,0⟩:=by unfold verI;rw[h4,if_pos (by simpa using c2)]
 by_cases c3:s.length<2+k
 · rw[if_pos c3];obtain⟨_,q,_,h7⟩:=hk.err s 2 1 (by omega) (by unfold getIntN;rw[if_pos (by rw[List.length_drop];omega)]);have h7:(verI s).int k=(0,⟨s,q,1⟩):=by rw[hI];exact h7
   refine verD_bad (by decide) ?_;unfold verJ;rw[h7]
   split
   · rfl
   · rfl
 rw[if_neg c3];obtain⟨_,h7⟩:=hk.ok s 2 (sInt ((s.drop 2).take k)) k (by omega) (by unfold getIntN;rw[if_neg (by rw[List.length_drop];omega)]);have h7:(verI s).int k=(sInt ((s.drop 2).take k),⟨s,2+k,0⟩):=by rw[hI];exact h7
 by_cases c4:ok (sInt ((s.drop 2).take k))=false
 · rw[if_pos c4];refine verD_bad he ?_;unfold verJ;rw[h7];rw[if_neg (by rw[c4];decide)]
   rfl
 rw[if_neg c4];have hJ:verJ k ok e s=⟨s,2+k,0⟩:=by unfold verJ;rw[h7,if_pos (by simpa using c4)]
 by_cases c5:2+k<s.length
 · have hc:(⟨s,2+k,0⟩:InS).close=⟨s,2+k,2⟩:=by
    unfold InS.close;rw[if_pos (show 0<(⟨s,2+k,0⟩:InS).left by simp only[InS.left];omega)]
    rfl
   unfold verD;rw[if_pos c5,hJ,hc,if_neg (by simp only;decide)]
 · have hc:(⟨s,2+k,0⟩:InS).close=⟨s,2+k,0⟩:=by
    unfold InS.close;rw[if_neg (show ¬0<(⟨s,2+k,0⟩:InS).left by simp only[InS.left];omega)]
   unfold verD;rw[if_neg c5,hJ,hc,if_pos rfl,h7]
def way (n:Int):Bool:=n==0||n==1
def time0 (n:Int):Bool:=decide (0≤n)
set_option maxHeartbeats 1000000 in
set_option maxRecDepth 100000 in
theorem ctl_known (n:Int){W0 w:World}{K:Know}{L:List Res}(h:St W0 w K L):
   Calls Tryz.prog 236 #[.int .i64 n] w fun en w'=>en=.returned (.bool (way n))∧St W0 w' K L:=by
 have H:=Lib.hid h;clear h
 by_cases h0:n=0
 · subst h0;go_enter Tryz.func236,Tryz.ntmps236;go_wp2;go_ret;exact⟨rfl,H.out⟩
 have e0:(n==0)=false:=by simpa using h0
 go_enter Tryz.func236,Tryz.ntmps236;go_wp2;go_ret;exact⟨ret_bool (by unfold way;rw[e0];rfl),H.out⟩

set_option maxHeartbeats 1000000 in
set_option maxRecDepth 100000 in
theorem ctl_time0 (n:Int){W0 w:World}{K:Know}{L:List Res}(h:St W0 w K L):
  Calls Tryz.prog 237 #[.int .i64 n] w fun en w'=>en=.returned (.bool (time0 n))∧St W0 w' K L:=by
 have H:=Lib.hid h;clear h;go_enter Tryz.func237,Tryz.ntmps237;go_wp2;go_ret;exact⟨ret_bool (by unfold time0;rfl),H.out⟩

set_option maxHeartbeats 1000000 in
set_option maxRecDepth 100000 in
theorem ctl_readKind (s:Bs) (r:Int×Int) (hr:verRd 2 way 12 s=r) (hs:s.length≤140737488355328){W0 w:World}{K:Know}{L:List Res}(h:St W0 w K L):
  Calls Tryz.prog 235 #[.string (bb s),.int .i64 2,.func (.func 236) #[] #[],.int .i64 12] w fun en w'=>en=.returned (.tuple #[.int .i64 r.1,.int .i64 r.2])∧St W0 w' K L:=by
 have hrd:verD 2 way 12 s=r:=(verD_eq 2 way 12 (by decide) (by decide) (by decide) s).trans hr;have H:=Lib.hid h;have HS:=Lib.hid hs;clear h hs hr;obtain⟨a,ha⟩:∃a,verA s=a:=⟨_,rfl⟩;have hI:verI s=if a.1=0 then a.2 else a.2.fail 7:=by unfold verI;rw[ha]
 obtain⟨i,hi⟩:∃i,verI s=i:=⟨_,rfl⟩;rw[hi]at hI;obtain⟨t,ht⟩:∃t,i.int 2=t:=⟨_,rfl⟩;have hJ:verJ 2 way 12 s=if way t.1=true then t.2 else t.2.fail 12:=by unfold verJ;rw[hi];show(if way (i.int 2).1=true then(i.int 2).2 else(i.int 2).2.fail 12)=_;rw[ht]
 obtain⟨j,hj⟩:∃j,verJ 2 way 12 s=j:=⟨_,rfl⟩
 have hD:(if j.close.err=0 then(t.1,0)else(0,j.close.err))=r:=by
  rw[←hrd,←hj,←ht,←hi];rfl
 rw[hj]at hJ;obtain⟨c,hc⟩:∃c,j.close=c:=⟨_,rfl⟩;rw[hc]at hD;have EA:=Lib.hid (show(⟨s,0,0⟩:InS).int 2=a from ha);have ET:=Lib.hid ht;have EC:=Lib.hid hc;obtain⟨o,ho⟩:∃o,way t.1=o:=⟨_,rfl⟩;rw[ho]at hJ;have EO:=Lib.hid ho;clear ha hi ht hj hc ho hrd
 by_cases h1:a.1=0<;>cases o<;>by_cases h3:c.err=0
 all_goals
  first|rw[if_pos h1]at hI|rw[if_neg h1]at hI
  first|rw[if_pos rfl]at hJ|rw[if_neg (by decide)]at hJ
  first|rw[if_pos h3]at hD|rw[if_neg h3]at hD
  subst hD;have b1:(a.1 !=0)=decide (a.1≠0):=by by_cases h:a.1=0<;>simp[h]
  have b3:(c.err !=0)=decide (c.err≠0):=by by_cases h:c.err=0<;>simp[h]
  first|rw[decide_eq_true h1]at b1|rw[decide_eq_false (not_not_intro h1)]at b1
  first|rw[decide_eq_true h3]at b3|rw[decide_eq_false (not_not_intro h3)]at b3
  have EI:=Lib.hid hI.symm;have EJ:=Lib.hid hJ.symm;clear h1 h3 hI hJ;go_enter Tryz.func235,Tryz.ntmps235
  go_wp2_with (first
   |(go_at_call 19;refine(s_new s HS.out stQ).mono ?_;rintro e wn ⟨bi,rfl,h⟩;replace H:=Lib.hid h;clear h)
   |(go_at_call 66;refine(s_int _ _ _ stQ).mono ?_;(repeat first|rw[EA.out]|rw[ET.out]);rintro e wn ⟨rfl,h⟩;replace H:=Lib.hid h;clear h;(try rw[EI.out]at H);(try rw[EJ.out]at H))
   |(go_at_call 70;refine(s_fail _ _ _ stQ).mono ?_;(repeat first|rw[EI.out]|rw[EJ.out]);rintro e wn ⟨rfl,h⟩;replace H:=Lib.hid h;clear h)
   |(go_at_call 236;refine(ctl_known _ H.out).mono ?_;rw[EO.out];rintro e wn ⟨rfl,h⟩;replace H:=Lib.hid h;clear h)
   |(go_at_call 25;refine(s_close _ _ stQ).mono ?_;(repeat first|rw[EC.out]);rintro e wn ⟨rfl,h⟩;replace H:=Lib.hid h;clear h))
  go_ret2;exact⟨rfl,H.out.drop⟩

set_option maxHeartbeats 1000000 in
set_option maxRecDepth 100000 in
theorem ctl_readTime (s:Bs) (r:Int×Int) (hr:verRd 4 time0 11 s=r) (hs:s.length≤140737488355328){W0 w:World}{K:Know}{L:List Res}(h:St W0 w K L):
  Calls Tryz.prog 235 #[.string (bb s),.int .i64 4,.func (.func 237) #[] #[],.int .i64 11] w fun en w'=>en=.returned (.tuple #[.int .i64 r.1,.int .i64 r.2])∧St W0 w' K L:=by
 have hrd:verD 4 time0 11 s=r:=(verD_eq 4 time0 11 (by decide) (by decide) (by decide) s).trans hr;have H:=Lib.hid h;have HS:=Lib.hid hs;clear h hs hr;obtain⟨a,ha⟩:∃a,verA s=a:=⟨_,rfl⟩;have hI:verI s=if a.1=0 then a.2 else a.2.fail 7:=by unfold verI;rw[ha]
 obtain⟨i,hi⟩:∃i,verI s=i:=⟨_,rfl⟩;rw[hi]at hI;obtain⟨t,ht⟩:∃t,i.int 4=t:=⟨_,rfl⟩;have hJ:verJ 4 time0 11 s=if time0 t.1=true then t.2 else t.2.fail 11:=by unfold verJ;rw[hi];show(if time0 (i.int 4).1=true then(i.int 4).2 else(i.int 4).2.fail 11)=_;rw[ht]
 obtain⟨j,hj⟩:∃j,verJ 4 time0 11 s=j:=⟨_,rfl⟩
 have hD:(if j.close.err=0 then(t.1,0)else(0,j.close.err))=r:=by
  rw[←hrd,←hj,←ht,←hi];rfl
 rw[hj]at hJ;obtain⟨c,hc⟩:∃c,j.close=c:=⟨_,rfl⟩;rw[hc]at hD;have EA:=Lib.hid (show(⟨s,0,0⟩:InS).int 2=a from ha);have ET:=Lib.hid ht;have EC:=Lib.hid hc;obtain⟨o,ho⟩:∃o,time0 t.1=o:=⟨_,rfl⟩;rw[ho]at hJ;have EO:=Lib.hid ho;clear ha hi ht hj hc ho hrd
 by_cases h1:a.1=0<;>cases o<;>by_cases h3:c.err=0
 all_goals
  first|rw[if_pos h1]at hI|rw[if_neg h1]at hI
  first|rw[if_pos rfl]at hJ|rw[if_neg (by decide)]at hJ
  first|rw[if_pos h3]at hD|rw[if_neg h3]at hD
  subst hD;have b1:(a.1 !=0)=decide (a.1≠0):=by by_cases h:a.1=0<;>simp[h]
  have b3:(c.err !=0)=decide (c.err≠0):=by by_cases h:c.err=0<;>simp[h]
  first|rw[decide_eq_true h1]at b1|rw[decide_eq_false (not_not_intro h1)]at b1
  first|rw[decide_eq_true h3]at b3|rw[decide_eq_false (not_not_intro h3)]at b3
  have EI:=Lib.hid hI.symm;have EJ:=Lib.hid hJ.symm;clear h1 h3 hI hJ;go_enter Tryz.func235,Tryz.ntmps235
  go_wp2_with (first
   |(go_at_call 19;refine(s_new s HS.out stQ).mono ?_;rintro e wn ⟨bi,rfl,h⟩;replace H:=Lib.hid h;clear h)
   |(go_at_call 66;refine(s_int _ _ _ stQ).mono ?_;(repeat first|rw[EA.out]|rw[ET.out]);rintro e wn ⟨rfl,h⟩;replace H:=Lib.hid h;clear h;(try rw[EI.out]at H);(try rw[EJ.out]at H))
   |(go_at_call 70;refine(s_fail _ _ _ stQ).mono ?_;(repeat first|rw[EI.out]|rw[EJ.out]);rintro e wn ⟨rfl,h⟩;replace H:=Lib.hid h;clear h)
   |(go_at_call 237;refine(ctl_time0 _ H.out).mono ?_;rw[EO.out];rintro e wn ⟨rfl,h⟩;replace H:=Lib.hid h;clear h)
   |(go_at_call 25;refine(s_close _ _ stQ).mono ?_;(repeat first|rw[EC.out]);rintro e wn ⟨rfl,h⟩;replace H:=Lib.hid h;clear h))
  go_ret2;exact⟨rfl,H.out.drop⟩

set_option maxHeartbeats 1000000 in
set_option maxRecDepth 100000 in
theorem ctl_readKey (s:Bs) (r:Int×Int) (hr:verRd 2 way 12 s=r) (hs:s.length≤140737488355328){W0 w:World}{K:Know}{L:List Res}(h:St W0 w K L):
  Calls Tryz.prog 198 #[.string (bb s)] w fun en w'=>en=.returned (.tuple #[.int .i64 r.1,.int .i64 r.2])∧St W0 w' K L:=by
 have H:=Lib.hid h;have HS:=Lib.hid hs;have HR:=Lib.hid hr;clear h hs hr;go_enter Tryz.func198,Tryz.ntmps198;go_wp2_with ((go_at_call 235;refine(ctl_readKind s r HR.out HS.out stQ).mono ?_;rintro e wn ⟨rfl,h⟩;replace H:=Lib.hid h;clear h));go_ret2;exact⟨rfl,H.out⟩

set_option maxHeartbeats 1000000 in
set_option maxRecDepth 100000 in
theorem ctl_readValue (s:Bs) (r:Int×Int) (hr:verRd 4 time0 11 s=r) (hs:s.length≤140737488355328){W0 w:World}{K:Know}{L:List Res}(h:St W0 w K L):
  Calls Tryz.prog 199 #[.string (bb s)] w fun en w'=>en=.returned (.tuple #[.int .i64 r.1,.int .i64 r.2])∧St W0 w' K L:=by
 have H:=Lib.hid h;have HS:=Lib.hid hs;have HR:=Lib.hid hr;clear h hs hr;go_enter Tryz.func199,Tryz.ntmps199;go_wp2_with ((go_at_call 235;refine(ctl_readTime s r HR.out HS.out stQ).mono ?_;rintro e wn ⟨rfl,h⟩;replace H:=Lib.hid h;clear h));go_ret2;exact⟨rfl,H.out⟩
theorem know_nil0 {α:Type}(R:List Value→α→Prop) (sz:Nat) (K:Know):K.has (Know.flat R (.slice none 0 0) sz []):=fun _ _ _=>⟨none,0,rfl,fun h=>absurd h (by simp)⟩

def ctlRead (n1 n2:Bool) (d1 d2:Bs) (many o:Int):Int×Int×Int:=
  if n1=true∨n2=true∨many≠0∨o≠0 then(0,0,12)
  else if (verRd 2 way 12 d1).2≠0 then(0,0,(verRd 2 way 12 d1).2)
  else if (verRd 4 time0 11 d2).2≠0 then(0,0,(verRd 4 time0 11 d2).2)
  else((verRd 2 way 12 d1).1,(verRd 4 time0 11 d2).1,0)

set_option maxHeartbeats 1000000 in
set_option maxRecDepth 100000 in
theorem ctl_read (t o:Int) (n1 n2:Bool) (d1 d2:Bs) (q:Option Addr) (ln cap:Nat) (r:Int×Int×Int) (hr:ctlRead n1 n2 d1 d2 ln o=r) (hd1:d1.length≤140737488355328) (hd2:d2.length≤140737488355328){W0 w:World}{K:Know}{L:List Res}(h:St W0 w K L):
   Calls Tryz.prog 137 #[.agg #[.int .i64 t,.int .i64 o,.bool n1,.string (bb d1),.bool n2,.string (bb d2),(.slice q ln cap)]] w fun en w'=>en=.returned (.tuple #[.int .i64 r.1,.int .i64 r.2.1,.int .i64 r.2.2])∧St W0 w' K L:=by
 have h0:=h.allocRaw #[.int .i64 t,.int .i64 o,.bool n1,.string (bb d1),.bool n2,.string (bb d2),(.slice q ln cap)] 95;obtain⟨wA,hwA⟩:∃b,w.heap.size=b:=⟨_,rfl⟩;rw[hwA]at h0;have H:=Lib.hid h0;have HD1:=Lib.hid hd1;have HD2:=Lib.hid hd2;obtain⟨ac0,ac1,ac2,ac3,ac4,ac5,ac6,af0,af1,af2,af3,af4,af5,af6⟩:=raw7 (b:=wA) (H.out);clear h h0 hd1 hd2;unfold ctlRead at hr
 by_cases g1:n1=true
 · rw[if_pos (.inl g1)]at hr;subst hr g1;go_enter Tryz.func137,Tryz.ntmps137;go_wp2;go_ret3;exact⟨rfl,H.out.drop⟩
 by_cases g2:n2=true
 · rw[if_pos (.inr (.inl g2))]at hr;subst hr g2;obtain rfl:n1=false:=by simpa using g1
   clear g1;go_enter Tryz.func137,Tryz.ntmps137;go_wp2;go_ret3;exact⟨rfl,H.out.drop⟩
 obtain rfl:n1=false:=by simpa using g1
 obtain rfl:n2=false:=by simpa using g2
 clear g1 g2
 by_cases g3:(ln:Int)≠0
 · rw[if_pos (.inr (.inr (.inl g3)))]at hr;subst hr;have b1:((ln:Int) !=0)=true:=by simpa using g3
   have b2:decide (0<ln)=true:=decide_eq_true (by omega);have b3:decide ((0:Int)<ln)=true:=decide_eq_true (by omega);have b4:0<ln:=by omega
   clear g3;go_enter Tryz.func137,Tryz.ntmps137;go_wp2;go_ret3;exact⟨rfl,H.out.drop⟩
 obtain rfl:ln=0:=by omega
 clear g3
 by_cases g4:o≠0
 · rw[if_pos (.inr (.inr (.inr g4)))]at hr;subst hr;have b1:(o !=0)=true:=by simpa using g4
   clear g4;go_enter Tryz.func137,Tryz.ntmps137;go_wp2;go_ret3;exact⟨rfl,H.out.drop⟩
 obtain rfl:o=0:=by simpa using g4
 clear g4;rw[if_neg (by simp)]at hr;obtain⟨a,ha⟩:∃a,verRd 2 way 12 d1=a:=⟨_,rfl⟩;obtain⟨b,hb⟩:∃b,verRd 4 time0 11 d2=b:=⟨_,rfl⟩;rw[ha,hb]at hr;have EA:=Lib.hid ha;have EB:=Lib.hid hb;clear ha hb
 by_cases g5:a.2≠0
 · rw[if_pos g5]at hr;subst hr;have b1:(a.2 !=0)=true:=by simpa using g5
   clear g5;go_enter Tryz.func137,Tryz.ntmps137
   go_wp2_with (first
    |(go_at_call 198;refine(ctl_readKey d1 a EA.out HD1.out H.out).mono ?_;rintro e wn ⟨rfl,h⟩;replace H:=Lib.hid h;clear h;obtain⟨ac0,ac1,ac2,ac3,ac4,ac5,ac6,af0,af1,af2,af3,af4,af5,af6⟩:=raw7 (b:=wA) (H.out)))
   go_ret3;exact⟨rfl,H.out.drop⟩
 rw[if_neg g5]at hr;have b1:(a.2 !=0)=false:=by simpa using g5
 clear g5
 by_cases g6:b.2≠0
 · rw[if_pos g6]at hr;subst hr;have b2:(b.2 !=0)=true:=by simpa using g6
   clear g6;go_enter Tryz.func137,Tryz.ntmps137
   go_wp2_with (first
    |(go_at_call 198;refine(ctl_readKey d1 a EA.out HD1.out H.out).mono ?_;rintro e wn ⟨rfl,h⟩;replace H:=Lib.hid h;clear h;obtain⟨ac0,ac1,ac2,ac3,ac4,ac5,ac6,af0,af1,af2,af3,af4,af5,af6⟩:=raw7 (b:=wA) (H.out))
    |(go_at_call 199;refine(ctl_readValue d2 b EB.out HD2.out H.out).mono ?_;rintro e wn ⟨rfl,h⟩;replace H:=Lib.hid h;clear h;obtain⟨ac0,ac1,ac2,ac3,ac4,ac5,ac6,af0,af1,af2,af3,af4,af5,af6⟩:=raw7 (b:=wA) (H.out)))
   go_ret3;exact⟨rfl,H.out.drop⟩
 rw[if_neg g6]at hr;subst hr;have b2:(b.2 !=0)=false:=by simpa using g6
 clear g6;go_enter Tryz.func137,Tryz.ntmps137
 go_wp2_with (first
   |(go_at_call 198;refine(ctl_readKey d1 a EA.out HD1.out H.out).mono ?_;rintro e wn ⟨rfl,h⟩;replace H:=Lib.hid h;clear h;obtain⟨ac0,ac1,ac2,ac3,ac4,ac5,ac6,af0,af1,af2,af3,af4,af5,af6⟩:=raw7 (b:=wA) (H.out))
   |(go_at_call 199;refine(ctl_readValue d2 b EB.out HD2.out H.out).mono ?_;rintro e wn ⟨rfl,h⟩;replace H:=Lib.hid h;clear h;obtain⟨ac0,ac1,ac2,ac3,ac4,ac5,ac6,af0,af1,af2,af3,af4,af5,af6⟩:=raw7 (b:=wA) (H.out)))
 go_ret3;exact⟨rfl,H.out.drop⟩
structure BatS where
  base:Int
  leader:Int
  app:Bool
  txn:Bool
  ctl:Bool
  last:Int
  first:Int
  maxt:Int
  prod:Int
  epoch:Int
  seq:Int
  recs:List RecS
deriving DecidableEq
def BatS.zero:BatS:=⟨0,0,false,false,false,0,0,0,0,0,0,[]⟩
def Rn (n:Int):Prop:= -9223372036854775808≤n∧n<9223372036854775808
def BatS.R (b:BatS):Prop:=Rn b.base∧Rn b.leader∧Rn b.last∧Rn b.first∧Rn b.maxt∧Rn b.prod∧Rn b.epoch∧Rn b.seq
def BatS.placed (b:BatS):Bool:=decide (0≤b.base∧(-1≤b.leader∧b.leader≤2147483647)∧(0≤b.last∧b.last≤2147483647)∧b.base≤9223372036854775807 - b.last∧0≤b.first∧0≤b.maxt)
def BatS.signed (b:BatS):Bool:=
  if b.prod= -1 then decide (b.epoch= -1∧b.seq= -1∧b.txn=false)
  else if b.prod<0∨¬(0≤b.epoch∧b.epoch≤32767)then false
  else if b.ctl then decide (b.seq= -1)
  else decide (0≤b.seq∧b.seq≤2147483647)
def rowsC (first last:Int):List RecS→Int→Int→Except Int Int
  |[],_,g=> .ok g
  |r::t,ah,g=>if r.off≤ah∨last<r.off then .error 13 else if r.time< -first∨9223372036854775807 - first<r.time then .error 11 else rowsC first last t r.off (max g (first+r.time))
def rowsE (app:Bool) (maxt:Int) (r:Except Int Int):Int:=match r with
  | .error e=>e
  | .ok g=>if app=false∧maxt≠g then 11 else 0
def BatS.rows (b:BatS):Int:=rowsE b.app b.maxt (rowsC b.first b.last b.recs (-1) b.first)
def recsC:List RecS→Int
  |[]=>0
  |r::t=>if recOk r=0 then recsC t else recOk r
def ctlOf (r:RecS):Int×Int×Int:=ctlRead r.key.null r.val.null r.key.data r.val.data r.hdrs.length r.off
def BatS.ends (b:BatS):Int:=match b.recs with|[]=>0|r::_=>(ctlOf r).2.2
def batErr (b:BatS):Int:=
  if b.placed=false then 11
  else if b.ctl=true∧b.txn=false then 8
  else if b.signed=false then 11
  else if b.ctl=true∧b.recs.length≠1 then 10
  else if recsC b.recs≠0 then recsC b.recs
  else if b.ctl=true∧b.ends≠0 then b.ends
  else b.rows
def FitB (l:List (RecS×Value)):Prop:=∀x∈l,x.1.R∧HFit x.1.hdrs∧x.1.sum≤1000000
theorem sum_hdrs {x:RecS}(h:x.sum≤1000000):x.hdrs.length≤1000000:=by have:=hsum_le x.hdrs;unfold RecS.sum at h;omega
theorem sum_data {x:RecS}(h:x.sum≤1000000):x.key.data.length≤140737488355328∧x.val.data.length≤140737488355328:=by unfold RecS.sum at h;omega
theorem drop_recs (l:List (RecS×Value)) (k:Nat) (h:k<l.length) (x:RecS) (hx:l[k].1=x):(l.map (·.1)).drop k=x::(l.map (·.1)).drop (k+1):=by
 subst hx;rw[List.drop_eq_getElem_cons (by simpa using h),List.getElem_map]
theorem rowsC_cons (first last:Int) (r:RecS) (t:List RecS) (ah g:Int):rowsC first last (r::t) ah g=if r.off≤ah∨last<r.off then .error 13 else if r.time< -first∨9223372036854775807 - first<r.time then .error 11 else rowsC first last t r.off (max g (first+r.time)):=rfl

end Go.Proofs.YteldcbljedeeiaaGreatDoor
