/- A text. -/
import Derived.Test.YteldcbljedeeiaaGreatDoorGWholeStrictCard6
import Derived.Test.YteldcbljedeeiaaGreatDoorGWholeStrictCard4
import Derived.Test.YteldcbljedeeiaaGreatDoorGWholeStrictCard7
import Derived.Test.YteldcbljedeeiaaGreatDoorGWholeStrictCard1
import Derived.Test.YteldcbljedeeiaaGreatDoorGWholeStrictCard2
import Derived.Deep.RegionWith
import Derived.Deep.MidRow
import Derived.Deep.RegionHeld3
import Derived.Deep.DeepCutAuto
import Derived.Test.YteldcbljedeeiaaGreatDoorGWholeStrictCard3
/- A text. -/
namespace Go.Proofs.YteldcbljedeeiaaGreatDoor
open Go.RowKit

set_option maxHeartbeats 2000000 in
set_option maxRecDepth 100000 in
theorem bat_unpack_err (rows:Bs) (n:Nat) (hn:n≤2147483647) (hsl:rows.length≤140737488355328) (e:Int) (he0:e≠0) (hu:unp n ⟨rows,0,0⟩=.error e){W0 w:World}{K:Know}{L:List Res}(h:St W0 w K L):
  Calls Tryz.prog 195 #[.string (bb rows),.int .i64 n] w fun en w'=>en=.returned (.tuple #[.slice none 0 0,.int .i64 e])∧St W0 w' K L:=by
 obtain⟨tot,htot⟩:∃t,unp n ⟨rows,0,0⟩=t:=⟨_,rfl⟩;have HTT:=Lib.hid (htot.symm.trans hu);have HT:=Lib.hid (show preU [] (unp (n - 0) ⟨rows,0,0⟩)=tot by rw[preU_nil];exact htot);have HSL:=Lib.hid hsl;have HNB:=Lib.hid hn;have H:=Lib.hid h;clear h hu htot hsl hn he0;go_enter Tryz.func195,Tryz.ntmps195;go_wp2_with (go_at_call 19;(with_reducible refine(s_new rows HSL.out H.out).mono ?_);rintro e_ wn ⟨bi,rfl,h⟩;replace H:=Lib.hid h;clear h);go_loopw [7,11] (fun lv iv wr=>∃(k:Nat) (acc:List (RecS×Value)) (i2:InS) (K2:Know),k≤n∧iv=.int .i64 k∧acc.length=k∧Hid (preU (acc.map (·.1)) (unp (n - k) i2)=tot)∧Hid (K2.has K)∧Hid (∀x∈acc,K2.has (Know.flat RHdr x.2 3 x.1.hdrs))∧St W0 wr K2 (.row lv 95 7 acc.length (acc.flatMap rcells)::.inp bi i2::L)) (fun _ iv _=>n - (intOf iv).toNat)
 case atStart=>exact⟨0,[],_,K,Nat.zero_le _,rfl,rfl,HT,Lib.hid (Know.has_refl _),Lib.hid (fun x h=>by cases h),H.out.nilRow 95 7⟩
 case round=>
  obtain⟨k,acc,i2,K2,hk,rfl,hacc,HC,HK2,HALL,hst⟩:=hrel;have HACC:=Lib.hid hacc;have HKB:=Lib.hid (show k≤2147483647 by have:=HNB.out;omega);clear H hacc;have H:=Lib.hid hst;clear hst;obtain⟨lf,hlf⟩:∃m,i2.left=m:=⟨_,rfl⟩;have HLF:=Lib.hid hlf
  by_cases hlt:k<n
  · have hc:=HC.out;rw[show n - k=(n - (k+1))+1 by omega]at hc;have hc:preU (acc.map (·.1)) (if i2.left=0 then .error 10 else if i2.record.2.err=0 then consE i2.record.1 (unp (n - (k+1)) i2.record.2)else .error i2.record.2.err)=tot:=hc;have hki:(k:Int)<(n:Int):=by omega
    have hnb:(n:Int)≤2147483647:=by have:=HNB.out;omega
    rw[hlf]at hc
    by_cases c1:lf=0
    · rw[if_pos c1]at hc;have hc2:Except.error 10=tot:=hc;have hc3:=hc2.trans HTT.out;obtain rfl:10=e:=by injection hc3
      subst c1;clear hc hc2 hc3 hlf;go_wp2_with (go_at_call 75;(with_reducible refine(s_leftQ bi i2 _ HLF.out H.out.p1).mono ?_);rintro e_ wn ⟨rfl,h⟩;replace H:=Lib.hid h;clear h;replace H:=Lib.hid H.out.p1);go_ret2;exact⟨rfl,H.out.drop.drop.know HK2.out⟩
    · rw[if_neg c1]at hc;obtain⟨⟨x,i3⟩,hx⟩:∃r,i2.record=r:=⟨_,rfl⟩;have HRD:=Lib.hid hx;rw[hx]at hc;simp only at hc;have bl:((lf:Int)==0)=false:=by rw[beq_eq_false_iff_ne];omega
      have bl2:¬(lf=0):=c1
      by_cases c2:i3.err=0
      · rw[if_pos c2,←preU_snoc]at hc;have HER:=Lib.hid c2;have HC2:=Lib.hid hc;clear hc hx c1 c2 hlf
        go_wp2_with (first
  |(go_at_call 75;(with_reducible refine(s_leftQ bi i2 _ HLF.out H.out.p1).mono ?_);rintro e_ wn ⟨rfl,h⟩;replace H:=Lib.hid h;clear h;replace H:=Lib.hid H.out.p1)
  |(go_at_call 79;(with_reducible refine(rec_readQ bi i2 x i3 HRD.out H.out.p1).mono ?_);rintro e_ wn ⟨v1,rfl,h⟩;obtain⟨q1,c1,hv1⟩:=flat_form (Know.has_right (Know.has_refl _)) h;subst hv1;replace H:=Lib.hid h;clear h;replace H:=Lib.hid H.out.p1)
  |(at_builtin;refine wpl_app1_st rfl _ _ 99 rfl 95 Tryz.underlying99 elem_rec _ _ _ rfl H.out [.int .i64 x.time,.int .i64 x.off,.bool x.key.null,.string (bb x.key.data),.bool x.val.null,.string (bb x.val.data),.slice q1 x.hdrs.length c1] 95 rfl rfl (by simp[Value.oneCell']) (by have:=HACC.out;have:=HKB.out;unfold maxLen;omega) (by have:=HACC.out;have:=HKB.out;omega) ?_;intro v' w' h;replace H:=Lib.hid h;clear h)
  |(go_at_call 22;(with_reducible refine(s_errE bi i3 _ HER.out H.out.p1).mono ?_);rintro e_ wn ⟨rfl,h⟩;replace H:=Lib.hid h;clear h;replace H:=Lib.hid H.out.p1))
        go_roundw
        case rel=>exact⟨k+1,acc++[(x,.slice q1 x.hdrs.length c1)],i3,K2.and (Know.flat RHdr (.slice q1 x.hdrs.length c1) 3 x.hdrs),hlt,by go_num,by rw[List.length_append,HACC.out];rfl,Lib.hid (by rw[List.map_append];exact HC2.out),Lib.hid (Know.has_trans (Know.has_left (Know.has_refl _)) HK2.out),Lib.hid (fun y hy=>by
         rcases List.mem_append.1 hy with hy|hy
         · exact Know.has_trans (Know.has_left (Know.has_refl _)) (HALL.out y hy)
         · rw[List.mem_singleton.1 hy];exact Know.has_right (Know.has_refl _)),by rw[List.length_append,List.flatMap_append];simpa [rcells]using H.out⟩
        case measure=>first|(simp[intOf];done)|(simp[intOf];omega)
      · rw[if_neg c2]at hc;have hc2:Except.error i3.err=tot:=hc;have hc3:=hc2.trans HTT.out;have HER:=Lib.hid (show i3.err=e by injection hc3);have gz:(e==0)=false:=by rw[beq_eq_false_iff_ne,←HER.out];exact c2
        clear hc hx c1 c2 hlf hc2 hc3
        go_wp2_with (first
  |(go_at_call 75;(with_reducible refine(s_leftQ bi i2 _ HLF.out H.out.p1).mono ?_);rintro e_ wn ⟨rfl,h⟩;replace H:=Lib.hid h;clear h;replace H:=Lib.hid H.out.p1)
  |(go_at_call 79;(with_reducible refine(rec_readQ bi i2 x i3 HRD.out H.out.p1).mono ?_);rintro e_ wn ⟨v1,rfl,h⟩;obtain⟨q1,c1,hv1⟩:=flat_form (Know.has_right (Know.has_refl _)) h;subst hv1;replace H:=Lib.hid h;clear h;replace H:=Lib.hid H.out.p1)
  |(at_builtin;refine wpl_app1_st rfl _ _ 99 rfl 95 Tryz.underlying99 elem_rec _ _ _ rfl H.out [.int .i64 x.time,.int .i64 x.off,.bool x.key.null,.string (bb x.key.data),.bool x.val.null,.string (bb x.val.data),.slice q1 x.hdrs.length c1] 95 rfl rfl (by simp[Value.oneCell']) (by have:=HACC.out;have:=HKB.out;unfold maxLen;omega) (by have:=HACC.out;have:=HKB.out;omega) ?_;intro v' w' h;replace H:=Lib.hid h;clear h)
  |(go_at_call 22;(with_reducible refine(s_errE bi i3 _ HER.out H.out.p1).mono ?_);rintro e_ wn ⟨rfl,h⟩;replace H:=Lib.hid h;clear h;replace H:=Lib.hid H.out.p1))
        go_ret2;exact⟨rfl,H.out.drop.drop.know (Know.has_trans (Know.has_left (Know.has_refl _)) HK2.out)⟩
  · obtain rfl:n=k:=by omega
    have hc:=HC.out;rw[Nat.sub_self]at hc;have hc:preU (acc.map (·.1)) (if i2.left=0 then .ok []else .error 10)=tot:=hc;rw[hlf]at hc
    by_cases c1:lf=0
    · rw[if_pos c1]at hc;have hc2:Except.ok (acc.map (·.1)++[])=tot:=hc;have hc3:=hc2.trans HTT.out
      cases hc3
    · rw[if_neg c1]at hc;have hc2:Except.error 10=tot:=hc;have hc3:=hc2.trans HTT.out;obtain rfl:10=e:=by injection hc3
      have bl:decide ((0:Int)<(lf:Int))=true:=decide_eq_true (by omega);have bl2:decide (0<lf)=true:=decide_eq_true (by omega);clear hc hc2 hc3 hlf c1;go_wp2_with (go_at_call 75;(with_reducible refine(s_leftQ bi i2 _ HLF.out H.out.p1).mono ?_);rintro e_ wn ⟨rfl,h⟩;replace H:=Lib.hid h;clear h;replace H:=Lib.hid H.out.p1);go_ret2;exact⟨rfl,H.out.drop.drop.know HK2.out⟩

set_option maxHeartbeats 2000000 in
set_option maxRecDepth 100000 in
theorem bat_unpack_ok (rows:Bs) (n:Nat) (hn:n≤2147483647) (hsl:rows.length≤140737488355328) (rs:List RecS) (hu:unp n ⟨rows,0,0⟩=.ok rs){W0 w:World}{K:Know}{L:List Res}(h:St W0 w K L):
  Calls Tryz.prog 195 #[.string (bb rows),.int .i64 n] w fun en w'=>∃(v:Value) (l:List (RecS×Value)),en=.returned (.tuple #[v,.int .i64 0])∧l.map (·.1)=rs∧St W0 w' (K.and (Know.recs v l)) L:=by
 obtain⟨tot,htot⟩:∃t,unp n ⟨rows,0,0⟩=t:=⟨_,rfl⟩;have HTT:=Lib.hid (htot.symm.trans hu);have HT:=Lib.hid (show preU [] (unp (n - 0) ⟨rows,0,0⟩)=tot by rw[preU_nil];exact htot);have HSL:=Lib.hid hsl;have HNB:=Lib.hid hn;have H:=Lib.hid h;clear h hu htot hsl hn;go_enter Tryz.func195,Tryz.ntmps195;go_wp2_with (go_at_call 19;(with_reducible refine(s_new rows HSL.out H.out).mono ?_);rintro e_ wn ⟨bi,rfl,h⟩;replace H:=Lib.hid h;clear h);go_loopw [7,11] (fun lv iv wr=>∃(k:Nat) (acc:List (RecS×Value)) (i2:InS) (K2:Know),k≤n∧iv=.int .i64 k∧acc.length=k∧Hid (preU (acc.map (·.1)) (unp (n - k) i2)=tot)∧Hid (K2.has K)∧Hid (∀x∈acc,K2.has (Know.flat RHdr x.2 3 x.1.hdrs))∧St W0 wr K2 (.row lv 95 7 acc.length (acc.flatMap rcells)::.inp bi i2::L)) (fun _ iv _=>n - (intOf iv).toNat)
 case atStart=>exact⟨0,[],_,K,Nat.zero_le _,rfl,rfl,HT,Lib.hid (Know.has_refl _),Lib.hid (fun x h=>by cases h),H.out.nilRow 95 7⟩
 case round=>
  obtain⟨k,acc,i2,K2,hk,rfl,hacc,HC,HK2,HALL,hst⟩:=hrel;have HACC:=Lib.hid hacc;have HKB:=Lib.hid (show k≤2147483647 by have:=HNB.out;omega);clear H hacc;have H:=Lib.hid hst;clear hst;obtain⟨lf,hlf⟩:∃m,i2.left=m:=⟨_,rfl⟩;have HLF:=Lib.hid hlf
  by_cases hlt:k<n
  · have hc:=HC.out;rw[show n - k=(n - (k+1))+1 by omega]at hc;have hc:preU (acc.map (·.1)) (if i2.left=0 then .error 10 else if i2.record.2.err=0 then consE i2.record.1 (unp (n - (k+1)) i2.record.2)else .error i2.record.2.err)=tot:=hc;have hki:(k:Int)<(n:Int):=by omega
    have hnb:(n:Int)≤2147483647:=by have:=HNB.out;omega
    rw[hlf]at hc
    by_cases c1:lf=0
    · rw[if_pos c1]at hc;have hc2:Except.error 10=tot:=hc;have hc3:=hc2.trans HTT.out
      cases hc3
    · rw[if_neg c1]at hc;obtain⟨⟨x,i3⟩,hx⟩:∃r,i2.record=r:=⟨_,rfl⟩;have HRD:=Lib.hid hx;rw[hx]at hc;simp only at hc;have bl:((lf:Int)==0)=false:=by rw[beq_eq_false_iff_ne];omega
      have bl2:¬(lf=0):=c1
      by_cases c2:i3.err=0
      · rw[if_pos c2,←preU_snoc]at hc;have HER:=Lib.hid c2;have HC2:=Lib.hid hc;clear hc hx c1 c2 hlf
        go_wp2_with (first
  |(go_at_call 75;(with_reducible refine(s_leftQ bi i2 _ HLF.out H.out.p1).mono ?_);rintro e_ wn ⟨rfl,h⟩;replace H:=Lib.hid h;clear h;replace H:=Lib.hid H.out.p1)
  |(go_at_call 79;(with_reducible refine(rec_readQ bi i2 x i3 HRD.out H.out.p1).mono ?_);rintro e_ wn ⟨v1,rfl,h⟩;obtain⟨q1,c1,hv1⟩:=flat_form (Know.has_right (Know.has_refl _)) h;subst hv1;replace H:=Lib.hid h;clear h;replace H:=Lib.hid H.out.p1)
  |(at_builtin;refine wpl_app1_st rfl _ _ 99 rfl 95 Tryz.underlying99 elem_rec _ _ _ rfl H.out [.int .i64 x.time,.int .i64 x.off,.bool x.key.null,.string (bb x.key.data),.bool x.val.null,.string (bb x.val.data),.slice q1 x.hdrs.length c1] 95 rfl rfl (by simp[Value.oneCell']) (by have:=HACC.out;have:=HKB.out;unfold maxLen;omega) (by have:=HACC.out;have:=HKB.out;omega) ?_;intro v' w' h;replace H:=Lib.hid h;clear h)
  |(go_at_call 22;(with_reducible refine(s_errE bi i3 _ HER.out H.out.p1).mono ?_);rintro e_ wn ⟨rfl,h⟩;replace H:=Lib.hid h;clear h;replace H:=Lib.hid H.out.p1))
        go_roundw
        case rel=>exact⟨k+1,acc++[(x,.slice q1 x.hdrs.length c1)],i3,K2.and (Know.flat RHdr (.slice q1 x.hdrs.length c1) 3 x.hdrs),hlt,by go_num,by rw[List.length_append,HACC.out];rfl,Lib.hid (by rw[List.map_append];exact HC2.out),Lib.hid (Know.has_trans (Know.has_left (Know.has_refl _)) HK2.out),Lib.hid (fun y hy=>by
         rcases List.mem_append.1 hy with hy|hy
         · exact Know.has_trans (Know.has_left (Know.has_refl _)) (HALL.out y hy)
         · rw[List.mem_singleton.1 hy];exact Know.has_right (Know.has_refl _)),by rw[List.length_append,List.flatMap_append];simpa [rcells]using H.out⟩
        case measure=>first|(simp[intOf];done)|(simp[intOf];omega)
      · rw[if_neg c2]at hc;have hc2:Except.error i3.err=tot:=hc;have hc3:=hc2.trans HTT.out
        cases hc3
  · obtain rfl:n=k:=by omega
    have hc:=HC.out;rw[Nat.sub_self]at hc;have hc:preU (acc.map (·.1)) (if i2.left=0 then .ok []else .error 10)=tot:=hc;rw[hlf]at hc
    by_cases c1:lf=0
    · rw[if_pos c1]at hc;have hc2:Except.ok (acc.map (·.1)++[])=tot:=hc;have hc3:=hc2.trans HTT.out;subst c1;have HRS:=Lib.hid (show acc.map (·.1)=rs by injection hc3 with h;rw[List.append_nil]at h;exact h);clear hc hc2 hc3 hlf;go_wp2_with (go_at_call 75;(with_reducible refine(s_leftQ bi i2 _ HLF.out H.out.p1).mono ?_);rintro e_ wn ⟨rfl,h⟩;replace H:=Lib.hid h;clear h;replace H:=Lib.hid H.out.p1);go_ret2;have hf:=(H.out.freezeRow (R:=RRec) (fun y _=>⟨rfl,rfl⟩)).drop;exact⟨_,acc,rfl,HRS.out,hf.know (fun w F hh=>⟨HK2.out _ _ hh.1,hh.2,fun y hy=>HALL.out y hy _ _ hh.1⟩)⟩
    · rw[if_neg c1]at hc;have hc2:Except.error 10=tot:=hc;have hc3:=hc2.trans HTT.out
      cases hc3
abbrev W32:=BitVec 32
def cP:W32:=0x82F63B78#32
def step (r:W32):W32:=(r>>>1) ^^^ (if r.getLsbD 0 then cP else 0#32)
def stepN:Nat→W32→W32
  |0,r=>r
  |n+1,r=>stepN n (step r)

def byteBits (c:UInt8):List Bool:=(List.range 8).map (fun i=>c.toNat.testBit i)
def bitsOf (s:Bs):List Bool:=s.flatMap byteBits
def tab (n:Nat):W32:=stepN 8 (BitVec.ofNat 32 n)
def byteStep (r:W32) (c:UInt8):W32:=tab (r.toNat % 256 ^^^ c.toNat) ^^^ (r>>>8)
def crcRaw (r:W32) (s:Bs):W32:=s.foldl byteStep r
theorem crcRaw_append (r:W32) (a b:Bs):crcRaw r (a++b)=crcRaw (crcRaw r a) b:=List.foldl_append
def crcMore (sum:W32) (s:Bs):W32:= ~~~ (crcRaw (~~~ sum) s)
theorem crcMore_append (sum:W32) (a b:Bs):crcMore sum (a++b)=crcMore (crcMore sum a) b:=by
 unfold crcMore;rw[crcRaw_append,BitVec.not_not]
theorem crcMore_nil (sum:W32):crcMore sum []=sum:=by unfold crcMore crcRaw;simp
theorem xor_u32 (a b:W32):bits .xor .u32 (a.toNat:Int) (b.toNat:Int)=((a ^^^ b).toNat:Int):=by
 have ha:=a.isLt;have hb:=b.isLt;have hab:=(a ^^^ b).isLt;rw[bits_xor_u32,BitVec.toNat_xor]at*;have e1:((a.toNat:Int) % 4294967296).toNat=a.toNat:=by omega
 have e2:((b.toNat:Int) % 4294967296).toNat=b.toNat:=by omega
 rw[e1,e2,IntKind.wrap_u32]
 omega
theorem and1_u32 (a:W32):bits .and .u32 (a.toNat:Int) 1=if a.getLsbD 0 then 1 else 0:=by
 have ha:=a.isLt;rw[bits_and_u32];have e1:((a.toNat:Int) % 4294967296).toNat=a.toNat:=by omega
 have e2:((1:Int) % 4294967296).toNat=1:=by decide
 rw[e1,e2,Nat.and_one_is_mod,IntKind.wrap_u32];have:a.getLsbD 0=decide (a.toNat % 2=1):=by rw[BitVec.getLsbD,Nat.testBit_zero]
 rw[this]
 by_cases h:a.toNat % 2=1<;>simp[h]
 omega
theorem xor_u32_lit (a:W32):bits .xor .u32 (a.toNat:Int) 2197175160=((a ^^^ cP).toNat:Int):=xor_u32 a cP
theorem shr1_u32 (a:W32):(a.toNat:Int) / 2=((a>>>1).toNat:Int):=by
 rw[BitVec.toNat_ushiftRight,Nat.shiftRight_eq_div_pow];omega
theorem shr8_u32 (a:W32):(a.toNat:Int) / 256=((a>>>8).toNat:Int):=by
 rw[BitVec.toNat_ushiftRight,Nat.shiftRight_eq_div_pow];omega
theorem not_u32 (a:W32):bits .xor .u32 IntKind.u32.max (a.toNat:Int)=((~~~ a).toNat:Int):=by
 have e:IntKind.u32.max=((BitVec.allOnes 32).toNat:Int):=by decide
 rw[e,xor_u32,BitVec.xor_comm,BitVec.xor_allOnes]

set_option maxHeartbeats 1000000 in
set_option maxRecDepth 100000 in
theorem crc_remainder (r:W32) (w:World):
  Calls Tryz.prog 201 #[.int .u32 r.toNat] w fun en w'=>en=.returned (.int .u32 (stepN 8 r).toNat)∧w=w':=by
 go_enter Tryz.func201,Tryz.ntmps201;go_wp2
 go_loop [0,4] (fun rv kv=>∃(k:Nat) (x:W32),k≤8∧kv=.int .i64 k∧rv=.int .u32 x.toNat∧stepN (8 - k) x=stepN 8 r) (fun _ kv=>8 - (intOf kv).toNat)
 case atStart=>exact⟨0,r,by decide,rfl,rfl,rfl⟩
 case round=>
  obtain⟨k,x,hk,rfl,rfl,hx⟩:=hrel;have HX:=Lib.hid hx;clear hx
  by_cases h8:k<8
  · have ha:=and1_u32 x;have hs:=shr1_u32 x;have hx:=x.isLt
    cases hb:x.getLsbD 0
    all_goals
     rw[hb]at ha;go_wp2
     go_round
     case rel=>
      refine⟨k+1,step x,by omega,by go_num,?_,?_⟩
      · refine congrArg _ ?_;unfold step;rw[hb]
        first
         |(rw[if_pos rfl,←xor_u32_lit];exact congrArg (bits .xor .u32 · 2197175160) hs)
         |exact hs.trans (by simp)
      · rw[←HX.out,show 8 - k=(8 - (k+1))+1 by omega]
        rfl
     case measure=>first|(simp[intOf];done)|(simp[intOf];omega)
  · have hk8:k=8:=by omega
    subst hk8;go_wp2;go_ret;rw[←HX.out];exact⟨rfl,rfl⟩

theorem crc_rem (k:Nat) (hk:k<256) (w:World):
  Calls Tryz.prog 201 #[.int .u32 (k:Int)] w fun en w'=>en=.returned (.int .u32 (tab k).toNat)∧w=w':=by
 have h:=crc_remainder (BitVec.ofNat 32 k) w;have hn:(BitVec.ofNat 32 k).toNat=k:=by simp;omega
 rw[hn]at h;exact h

def tabC (n:Nat):Array Value:=((List.range 256).map fun j=>if j<n then Value.int .u32 (tab j).toNat else Value.int .u32 0).toArray
theorem tabC_size (n:Nat):(tabC n).size=256:=by simp[tabC]
theorem tabC_get (n j:Nat) (h:j<256):(tabC n)[j]? =some (if j<n then Value.int .u32 (tab j).toNat else Value.int .u32 0):=by
 simp[tabC,h]
theorem tabC_set (n:Nat) (h:n<256):(tabC n).setIfInBounds n (.int .u32 (tab n).toNat)=tabC (n+1):=by
 apply Array.ext_getElem?
 intro j
 by_cases hj:j<256
 · rw[tabC_get (n+1) j hj,Array.getElem?_setIfInBounds]
   by_cases e:n=j
   · subst e;simp[tabC_size,hj]
   · rw[if_neg e,tabC_get n j hj]
     by_cases h1:j<n
     · rw[if_pos h1,if_pos (by omega)]
     · rw[if_neg h1,if_neg (by omega)]
 · rw[Array.getElem?_eq_none (by simp[tabC_size];omega),Array.getElem?_eq_none (by rw[tabC_size];omega)]
theorem zero_tab:Tryz.zeroCells295=tabC 0:=by kernel_rfl
def bIx (m:Nat) (c:UInt8):Nat:=m ^^^ c.toNat
def xor32 (a b:W32):Nat:=(a ^^^ b).toNat
theorem bIx_lt {m:Nat}(hm:m<256) (c:UInt8):bIx m c<256:=Nat.xor_lt_two_pow (n:=8) hm c.toNat_lt
theorem bIx_xor {m:Nat}(hm:m<256) (c:UInt8):bits .xor .u8 (m:Int) (c.toNat:Int)=(bIx m c:Int):=by
 have hc:=c.toNat_lt;have hq:=bIx_lt hm c;unfold bIx at*;rw[bits_xor_u8];have e1:((m:Int) % 256).toNat=m:=by omega
 have e2:((c.toNat:Int) % 256).toNat=c.toNat:=by omega
 rw[e1,e2,IntKind.wrap_u8]
 omega
abbrev tabPtr (b:Nat):Value:=.pointer (some ⟨b,0,none⟩)

set_option maxHeartbeats 1000000 in
set_option maxRecDepth 100000 in
theorem crc_new {W0 w:World}{K:Know}{L:List Res}(h:St W0 w K L):
  Calls Tryz.prog 141 #[] w fun en w'=>∃b,en=.returned (tabPtr b)∧St W0 w' K (.raw b (tabC 256) 295::L):=by
 have H:=Lib.hid h;clear h;go_enter Tryz.func141,Tryz.ntmps141;go_wp2;rw[zero_tab];go_loopw [4] (fun iv wr=>∃k:Nat,k≤256∧iv=.int .i64 k∧St W0 wr K (.raw w.heap.size (tabC k) 295::L)) (fun iv _=>256 - (intOf iv).toNat)
 case atStart=>exact⟨0,by decide,rfl,H.out.allocRaw _ _⟩
 case round=>
  obtain⟨k,hk,rfl,hs⟩:=hrel;have HS:=Lib.hid hs;clear hs
  by_cases hlt:k<256
  · have hc:=HS.out.rawCell k;rw[tabC_get k k hlt,if_neg (by omega)]at hc;have hf:=HS.out.rawFree k;have hw:IntKind.u32.wrap (k:Int)=(k:Int):=by rw[IntKind.wrap_u32];omega
    have hlt2:(k:Int)<256:=by omega
    have hk0:(0:Int)≤(k:Int):=by omega
    go_wp2_with fail
    go_region_with (go_at_call 201;refine(crc_rem k hlt _).mono ?_;rintro e wn ⟨rfl,rfl⟩)
    go_wp2;go_roundw
    case rel=>
     refine⟨k+1,by omega,by go_num,?_⟩;have h2:=(HS.out.drew).rawSet k (.int .u32 (tab k).toNat);rw[tabC_set k hlt]at h2;exact h2
    case measure=>first|(simp[intOf];done)|(simp[intOf];omega)
  · have hk:k=256:=by omega
    subst hk;go_wp2;go_ret;exact⟨_,rfl,HS.out⟩

set_option maxHeartbeats 1000000 in
set_option maxRecDepth 100000 in
theorem crc_more (b:Nat) (sum:W32) (s:Bs) (hs:s.length≤140737488355328){W0 w:World}{K:Know}{L:List Res}(h:St W0 w K (.raw b (tabC 256) 295::L)):
  Calls Tryz.prog 202 #[tabPtr b,.int .u32 sum.toNat,.string (bb s)] w fun en w'=>en=.returned (.int .u32 (crcMore sum s).toNat)∧St W0 w' K (.raw b (tabC 256) 295::L):=by
 have H:=Lib.hid h;have hsum:=sum.isLt;obtain⟨nb,hnb⟩:∃nb,~~~ sum=nb:=⟨_,rfl⟩;have hn:=not_u32 sum;rw[hnb]at hn;have HNB:=Lib.hid hnb;clear h hnb;go_enter Tryz.func202,Tryz.ntmps202;go_wp2;go_loopw [7,13] (fun rv kv wr=>∃k:Nat,k≤s.length∧kv=.int .i64 k∧rv=.int .u32 (crcRaw nb (s.take k)).toNat∧St W0 wr K (.raw b (tabC 256) 295::L)) (fun _ kv _=>s.length - (intOf kv).toNat)
 case atStart=>exact⟨0,Nat.zero_le _,rfl,rfl,H.out⟩
 case round=>
  obtain⟨k,hk,rfl,rfl,hst⟩:=hrel;have HS:=Lib.hid hst;clear hst;obtain⟨r,hr⟩:∃r,crcRaw nb (s.take k)=r:=⟨_,rfl⟩;rw[hr];have HR:=Lib.hid hr;clear hr
  by_cases hlt:k<s.length
  · have hrl:=r.isLt
    have hstep:crcRaw nb (s.take (k+1))=byteStep r s[k]:=by
     rw[List.take_succ_eq_append_getElem hlt,crcRaw_append,HR.out];rfl
    have HST:=Lib.hid hstep;clear hstep;obtain⟨m,hm⟩:∃m,r.toNat % 256=m:=⟨_,rfl⟩;obtain⟨y,hy⟩:∃y,r>>>8=y:=⟨_,rfl⟩;have hm0:m<256:=by omega
    have hcell:∀c:UInt8,wr.cell? ⟨b,bIx m c,none⟩=some (.int .u32 (tab (bIx m c)).toNat):=fun c=>by
     have h:=HS.out.rawCell (bIx m c);rw[tabC_get 256 _ (bIx_lt hm0 c),if_pos (bIx_lt hm0 c)]at h;exact h
    have hx:=bIx_xor hm0;have hm2:IntKind.u8.wrap (r.toNat:Int)=(m:Int):=by rw[IntKind.wrap_u8];omega
    have hs8:=shr8_u32 r;rw[hy]at hs8;have hxz:∀t:W32,bits .xor .u32 (t.toNat:Int) (y.toNat:Int)=(xor32 t y:Int):=fun t=>xor_u32 t y
    have hq0:∀c:UInt8,(0:Int)≤(bIx m c:Int):=fun c=>by omega
    have hq1:∀c:UInt8,(bIx m c:Int)<256:=fun c=>by have:=bIx_lt hm0 c;omega
    have HZ:=Lib.hid (show(byteStep r s[k]).toNat=xor32 (tab (bIx m s[k])) y by unfold byteStep xor32 bIx;rw[hm,hy]);clear hm hy hrl hm0;have hk0:(0:Int)≤(k:Int):=by omega
    have hk1:(k:Int)<s.length:=by omega
    go_wp2_with fail
    go_quiet (fail)
    go_wp2;go_roundw
    case rel=>
     refine⟨k+1,hlt,by go_num,?_,HS.out.drewN _⟩;rw[HST.out,HZ.out];exact congrArg (Value.int .u32) ((congrArg (bits .xor .u32 _) hs8).trans (hxz _))
    case measure=>first|(simp[intOf];done)|(simp[intOf];omega)
  · have hk:k=s.length:=by omega
    subst hk;obtain⟨nr,hnr⟩:∃nr,~~~ r=nr:=⟨_,rfl⟩;have hn2:=not_u32 r;rw[hnr]at hn2;have HNR:=Lib.hid hnr;clear hnr;rw[List.take_length]at HR;go_wp2;go_ret;refine⟨?_,HS.out⟩;unfold crcMore;rw[HNB.out,HR.out,HNR.out]
    rfl

def RStr (_:World) (cs:List Value) (x:Bs):Prop:=cs=[.string (bb x)]
def strRows (D:Nat→Prop) (w:World) (v:Value) (l:List Bs):Prop:=RowsOf RStr D w v 1 l
theorem rstr_keep {D:Nat→Prop}{w w':World}{v:Value}{l:List Bs}(h:strRows D w v l) (hs:w.heap.size≤w'.heap.size) (hk:∀k,k<w.heap.size→D k→w'.heap[k]? =w.heap[k]?):strRows D w' v l:=by
 obtain⟨p,cap,rfl,h⟩:=h;refine⟨p,cap,rfl,fun h0=> ?_⟩;obtain⟨b,off,rfl,hb,hlt,hc⟩:=h h0;refine⟨b,off,rfl,hb,Nat.lt_of_lt_of_le hlt hs,fun i hi=> ?_⟩;obtain⟨cs,h1,h2,h3⟩:=hc i hi;exact⟨cs,h1,h2,fun f u hu=>(World.cell?_of_block (w:=w) (a:=⟨b,off+(i*1+f),none⟩) (hk b hlt hb)).trans (h3 f u hu)⟩
def Know.strs (v:Value) (l:List Bs):Know:=⟨fun w F=>strRows F w v l,fun _ _ _ h hs hk=>rstr_keep h hs hk,fun _ _ _ h hs=>h.mono (fun _ _ h=>hs _ h) (fun _ _ h=>h)⟩
theorem strRows.at {D:Nat→Prop}{w:World}{v:Value}{l:List Bs}(h:strRows D w v l):
  ∃p cap,v=.slice p l.length cap∧(0<l.length→∃b off,p=some ⟨b,off,none⟩∧∀i (h:i<l.length),w.cell? ⟨b,off+i,none⟩=some (.string (bb l[i]))):=by
 obtain⟨p,cap,rfl,h⟩:=h;refine⟨p,cap,rfl,fun h0=> ?_⟩;obtain⟨b,off,rfl,_,_,hc⟩:=h h0;refine⟨b,off,rfl,fun i hi=> ?_⟩;obtain⟨cs,h1,h2,h3⟩:=hc i hi;unfold RStr at h2;subst h2;have:=h3 0 _ rfl
 simpa using this
def crcParts (sum:W32) (l:List Bs):W32:=l.foldl crcMore sum
theorem crcParts_snoc (sum:W32) (l:List Bs) (s:Bs):crcParts sum (l++[s])=crcMore (crcParts sum l) s:=List.foldl_append
theorem crcParts_flat (sum:W32) (l:List Bs):crcParts sum l=crcMore sum l.flatten:=by
 induction l generalizing sum with
 |nil=>exact(crcMore_nil sum).symm
 |cons a t ih=>
  show crcParts (crcMore sum a) t=_
  rw[ih,List.flatten_cons,crcMore_append]

set_option maxHeartbeats 1000000 in
set_option maxRecDepth 100000 in
theorem crc_sum (b:Nat) (v:Value) (l:List Bs) (hl:l.length≤9223372036854775807) (hs:∀s∈l,s.length≤140737488355328){W0 w:World}{K:Know}{L:List Res}(hk:K.has (Know.strs v l)) (h:St W0 w K (.raw b (tabC 256) 295::L)):
  Calls Tryz.prog 142 #[tabPtr b,v] w fun en w'=>en=.returned (.int .u32 (crcParts 0#32 l).toNat)∧St W0 w' K (.raw b (tabC 256) 295::L):=by
 have H:=Lib.hid h;have HS:=Lib.hid hs;have HK:=Lib.hid hk;obtain⟨F,hF,_⟩:=h.get;obtain⟨p,cap,rfl,_⟩:=(hk _ _ hF).at;clear h hs hk hF;go_enter Tryz.func142,Tryz.ntmps142;go_wp2;go_loopw [5,10] (fun rv kv wr=>∃k:Nat,k≤l.length∧kv=.int .i64 k∧rv=.int .u32 (crcParts 0#32 (l.take k)).toNat∧St W0 wr K (.raw b (tabC 256) 295::L)) (fun _ kv _=>l.length - (intOf kv).toNat)
 case atStart=>exact⟨0,Nat.zero_le _,rfl,rfl,H.out⟩
 case round=>
  obtain⟨k,hk,rfl,rfl,hst⟩:=hrel;have HST:=Lib.hid hst;obtain⟨F2,hF2,_⟩:=hst.get;obtain⟨p2,cap2,hv2,hrow⟩:=(HK.out _ _ hF2).at;clear hst hF2;obtain⟨r,hr⟩:∃r,crcParts 0#32 (l.take k)=r:=⟨_,rfl⟩;rw[hr];have HR:=Lib.hid hr;clear hr
  by_cases hlt:k<l.length
  · obtain⟨bb',off,hp,hcells⟩:=hrow (by omega);have hpp:p=some ⟨bb',off,none⟩:=by simp at hv2;rw[hv2.1,hp]
    subst hpp;have hc:=hcells k hlt;have HL:=Lib.hid (HS.out l[k] (List.getElem_mem hlt));have HN:=Lib.hid (show crcParts 0#32 (l.take (k+1))=crcMore r l[k] by rw[List.take_succ_eq_append_getElem hlt,crcParts_snoc,HR.out]);clear hcells hv2 hp hrow;generalize l[k]=s at*;go_wp2_with (go_at_call 202;refine(crc_more b r s HL.out HST.out).mono ?_;rintro e wn ⟨rfl,h⟩;have H2:=Lib.hid h;clear h);go_roundw
    case rel=>exact⟨k+1,hlt,by go_num,by rw[HN.out],H2.out⟩
    case measure=>first|(simp[intOf];done)|(simp[intOf];omega)
  · have hk:k=l.length:=by omega
    subst hk;rw[List.take_length]at HR;go_wp2;go_ret;exact⟨by rw[HR.out];rfl,HST.out⟩
theorem St.freezeStrs {W0 w:World}{K:Know}{L:List Res}{r:Nat}(l:List Bs) (h:St W0 w K (.raw r (l.map fun s=>Value.string (bb s)).toArray 9::L)):St W0 w (K.and (Know.strs (.slice (some ⟨r,0,none⟩) l.length l.length) l)) L:=by
 refine h.freeze fun F S1 _ h1=> ?_
 have hlt:=heap_lt h1.1;refine⟨some ⟨r,0,none⟩,l.length,rfl,fun _=>⟨r,0,rfl,.inr ⟨(h1.2 r).2 rfl,hlt⟩,hlt,fun i hi=> ?_⟩⟩;refine⟨[.string (bb l[i])],rfl,rfl,fun f u hu=> ?_⟩;rw[cell_at h1.1]
 cases f with
 |zero=>
  simp at hu;subst hu;simp[hi]
 |succ f=>simp at hu
theorem crc_sumR (b r n:Nat) (l:List Bs) (x:Nat) (hn:l.length=n) (hx:(crcParts 0#32 l).toNat=x) (hs:∀s∈l,s.length≤140737488355328) (hl:l.length≤9223372036854775807){W0 w:World}{K:Know}{L:List Res}(h:St W0 w K (.raw r (l.map fun s=>Value.string (bb s)).toArray 9::.raw b (tabC 256) 295::L)):
  Calls Tryz.prog 142 #[tabPtr b,.slice (some ⟨r,0,none⟩) n n] w fun en w'=>en=.returned (.int .u32 x)∧St W0 w' K (.raw b (tabC 256) 295::L):=by
 subst hn;subst hx;exact(crc_sum b _ l hl hs (Know.has_right (Know.has_refl _)) (h.freezeStrs l)).mono fun en w' hh=>⟨hh.1,hh.2.know (Know.has_left (Know.has_refl _))⟩
def setAll:Array Value→Nat→List Value→Array Value
  |c,_,[]=>c
  |c,o,v::r=>setAll (c.setIfInBounds o v) (o+1) r
theorem St.there {W0 w:World}{K:Know}{L:List Res}{b:Nat}{c:Array Value}{T:TypeId}(h:St W0 w K (.raw b c T::L)):w.there b 0 c.size:=fun j hj=>by
  rw[Nat.zero_add];exact⟨by rw[h.rawCell j,Array.getElem?_eq_getElem hj];rfl,h.rawFree j⟩
theorem St.rawSets {W0:World}{K:Know}{L:List Res}{b:Nat}{T:TypeId}:∀(vs:List Value) (o:Nat) (c:Array Value) (w:World),St W0 w K (.raw b c T::L)→St W0 (w.setCells b o vs) K (.raw b (setAll c o vs) T::L)
  |[],_,_,_,h=>h
  |v::r,o,_,_,h=>St.rawSets r (o+1) _ _ (h.rawSet o v)
theorem St.storeEx {W0 w:World}{K:Know}{L:List Res}{b:Nat}{c:Array Value}{T:TypeId}(h:St W0 w K (.raw b c T::L)) (cs:Array Value):∃wz,w.setCells b 0 cs.toList=wz∧St W0 wz K (.raw b (setAll c 0 cs.toList) T::L):=⟨_,rfl,h.rawSets _ _ _ _⟩
theorem St.allocEx {W0 w:World}{K:Know}{L:List Res}(h:St W0 w K L) (c:Array Value) (T:TypeId):∃wy b,w.alloc (.cells c T (0,0))=wy∧w.heap.size=b∧St W0 wy K (.raw b c T::L):=⟨_,_,rfl,rfl,h.allocRaw c T⟩
theorem crc_two (a c:Bs):(crcParts 0#32 [a,c]).toNat=(crcMore 0#32 (a++c)).toNat:=by
 rw[crcParts_flat]
 simp
theorem crc_sum2 (b r:Nat) (a c:Bs) (x:Nat) (hx:(crcParts 0#32 [a,c]).toNat=x) (hs:∀s∈[a,c],s.length≤140737488355328) (hl:[a,c].length≤9223372036854775807){W0 w:World}{K:Know}{L:List Res}(h:St W0 w K (.raw r #[.string (bb a),.string (bb c)] 9::.raw b (tabC 256) 295::L)):
 Calls Tryz.prog 142 #[tabPtr b,.slice (some ⟨r,0,none⟩) 2 2] w fun en w'=>en=.returned (.int .u32 x)∧St W0 w' K (.raw b (tabC 256) 295::L):=crc_sumR b r 2 [a,c] x rfl hx hs hl h
set_option maxHeartbeats 1000000 in
set_option maxRecDepth 100000 in
theorem bat_sum (said rows:Bs) (x:Nat) (hx:(crcMore 0#32 (said.drop 21++rows)).toNat=x) (hl:21≤said.length) (hl2:said.length≤140737488355328) (hr:rows.length≤140737488355328){W0 w:World}{K:Know}{L:List Res}(h:St W0 w K L):
  Calls Tryz.prog 86 #[.string (bb said),.string (bb rows)] w fun en w'=>en=.returned (.int .i64 x)∧St W0 w' K L:=by
 have H:=Lib.hid h;have HX:=Lib.hid (show(crcParts 0#32 [said.drop 21,rows]).toNat=x by rw[crc_two];exact hx)
 have HSS:=Lib.hid (show ∀s∈[said.drop 21,rows],s.length≤140737488355328 by
  intro s hs;simp only[List.mem_cons,List.not_mem_nil,or_false]at hs
  rcases hs with rfl|rfl
  · rw[List.length_drop];omega
  · exact hr)
 have HLS:=Lib.hid (show[said.drop 21,rows].length≤9223372036854775807 by simp);have HT:=Lib.hid (show List.take (said.length - 21) (List.drop 21 said)=said.drop 21 from List.take_of_length_le (by rw[List.length_drop];omega));have hx32:x<4294967296:=by rw[←hx];exact(crcMore 0#32 (said.drop 21++rows)).isLt
 have l21:(21:Int)≤(said.length:Int):=by omega
 have w1:IntKind.i64.wrap (x:Int)=(x:Int):=IntWalk.i64_in _ (by omega);have w2:wrap64 (x:Int)=(x:Int):=by unfold wrap64;omega
 clear h hx hl hl2 hr hx32;go_enter Tryz.func86,Tryz.ntmps86;go_upto_region 1 with (fail);have hs:=H.out.drew;refine wp_region_held_drew (S:=fun _=>True) (by kernel_rfl) trivial (fun hHeld=> ?_);clear H;generalize w.drew=wd at hs ⊢;refine tQ 1 ⟨some 6,.move (.tmp 0),9,_,_,none⟩ ?_;simp only[Act.put,sA,sB,sC];refine tQ 2 ⟨some 7,.slice 9 (.tmp 6) (some (.const (Value.int IntKind.i64 21))) none none,9,_,_,none⟩ ?_;simp only[Act.put,sA,sB,sC];refine tQ 3 ⟨some 8,.move (.tmp 1),9,_,_,none⟩ ?_;simp only[Act.put,sA,sB,sC];refine wpAnyH_ready (rs:=[0,4]) (by kernel_rfl) (by simp) (AllReadyH.cons (o:=⟨some 5,.call {callee:=.value (.func 141),args:= #[],argTypes:= #[]},235,_,_,none⟩) rfl (fun KK hK=> ?_) (AllReadyH.cons (o:=⟨some 9,.buildSlice 75 2 #[(0,.tmp 7),(1,.tmp 8)],75,_,_,none⟩) rfl (fun KK hK=> ?_) AllReadyH.nil))
 focus
  go_simp;go_at_call 141;with_reducible refine(crc_new hs).mono ?_;rintro e wq ⟨bt,rfl,hs⟩;refine hK.out _ _ (trivial) (fun hHeld=> ?_);clear hK KK
  try simp only[Act.put,sA,sB,sC]
  refine wpAnyH_ready (rs:=[4]) (by kernel_rfl) (by simp) (AllReadyH.cons (o:=⟨some 9,.buildSlice 75 2 #[(0,.tmp 7),(1,.tmp 8)],75,_,_,none⟩) rfl (fun KK hK=> ?_) AllReadyH.nil);obtain⟨wy,bS,ey,eb,hs⟩:=hs.allocEx #[.string (bb (said.drop 21)),.string (bb rows)] 9;go_simp
  try rw[HT.out]
  try rw[ey]
  try rw[eb]
  clear ey eb;refine hK.out _ _ (trivial) (fun hHeld=> ?_);clear hK KK
  try simp only[Act.put,sA,sB,sC]
  refine wpAnyH_ready (rs:=[5]) (by kernel_rfl) (by simp) (AllReadyH.cons (o:=⟨some 10,.call {callee:=.value (.func 142),args:= #[.tmp 5,.tmp 9],argTypes:= #[235,75]},234,_,_,none⟩) rfl (fun KK hK=> ?_) AllReadyH.nil);go_simp;go_at_call 142;with_reducible refine(crc_sum2 bt bS (said.drop 21) rows x HX.out HSS.out HLS.out (hs)).mono ?_
 rotate_left
 focus
  obtain⟨wy,bS,ey,eb,hs⟩:=hs.allocEx #[.string (bb (said.drop 21)),.string (bb rows)] 9;go_simp
  try rw[HT.out]
  try rw[ey]
  try rw[eb]
  clear ey eb;refine hK.out _ _ (trivial) (fun hHeld=> ?_);clear hK KK
  try simp only[Act.put,sA,sB,sC]
  refine wpAnyH_ready (rs:=[0]) (by kernel_rfl) (by simp) (AllReadyH.cons (o:=⟨some 5,.call {callee:=.value (.func 141),args:= #[],argTypes:= #[]},235,_,_,none⟩) rfl (fun KK hK=> ?_) AllReadyH.nil);go_simp;go_at_call 141;with_reducible refine(crc_new hs).mono ?_;rintro e wq ⟨bt,rfl,hs⟩;refine hK.out _ _ (trivial) (fun hHeld=> ?_);clear hK KK
  try simp only[Act.put,sA,sB,sC]
  refine wpAnyH_ready (rs:=[5]) (by kernel_rfl) (by simp) (AllReadyH.cons (o:=⟨some 10,.call {callee:=.value (.func 142),args:= #[.tmp 5,.tmp 9],argTypes:= #[235,75]},234,_,_,none⟩) rfl (fun KK hK=> ?_) AllReadyH.nil);go_simp;go_at_call 142;with_reducible refine(crc_sum2 bt bS (said.drop 21) rows x HX.out HSS.out HLS.out (hs.p1)).mono ?_
 all_goals
  rintro e wq ⟨rfl,hs⟩;refine hK.out _ _ (trivial) (fun hHeld=> ?_);clear hK KK
  try simp only[Act.put,sA,sB,sC]
  refine tQ 6 ⟨some 11,.convert 234 3 (.tmp 10),3,_,_,none⟩ ?_;simp only[Act.put,sA,sB,sC];refine tQ 7 ⟨some 4,.assign (.tmp 11),3,_,_,none⟩ ?_;simp only[Act.put,sA,sB,sC];refine wpAnyH_done (by kernel_rfl) ?_ _;clear hHeld;go_wp2_with fail;go_ret;exact⟨rfl,hs.drop⟩
def bitAt (n:Int) (i:Nat):Bool:=decide (n / 2 ^ i % 2=1)
def R64 (n:Int):Prop:= -9223372036854775808≤n∧n<9223372036854775808
theorem wrap_nat0 (k:Nat) (h:k<18446744073709551616):IntKind.i64.wrap (k:Int)=0↔k=0:=by
 rw[IntKind.wrap_i64];omega
theorem ofInt64_toNat (n:Int):((BitVec.ofInt 64 n).toNat:Int)=n % 18446744073709551616:=by
 rw[BitVec.toNat_ofInt];have:(0:Int)≤n % ((2 ^ 64:Nat):Int):=Int.emod_nonneg _ (by decide);rw[Int.toNat_of_nonneg this]
 rfl
theorem ofInt64_bit (n:Int) (i:Nat) (hi:i<64):(BitVec.ofInt 64 n).toNat.testBit i=bitAt n i:=by
 obtain⟨m,hm⟩:∃m,(BitVec.ofInt 64 n).toNat=m:=⟨_,rfl⟩;have h:=ofInt64_toNat n;rw[hm]at h;rw[hm,Nat.testBit_eq_decide_div_mod_eq];unfold bitAt
 apply decide_eq_decide.mpr
 have hd:((2:Int) ^ i)*(2*2 ^ (63 - i))=18446744073709551616:=by
  rw[←Int.mul_assoc,Int.mul_comm _ 2,Int.mul_assoc,←Int.pow_add,show i+(63 - i)=63 by omega];decide
 have hp:(0:Int)<2 ^ i:=Int.pow_pos (by decide)
 have e:n=(m:Int)+2 ^ i*(2*(2 ^ (63 - i)*(n / 18446744073709551616))):=by
  have h1:=Int.mul_ediv_add_emod n 18446744073709551616;rw[←Int.mul_assoc 2,←Int.mul_assoc (2 ^ i),hd]
  omega
 have e2:n / 2 ^ i=(m:Int) / 2 ^ i+2*(2 ^ (63 - i)*(n / 18446744073709551616)):=by
  have:=Int.add_mul_ediv_left (m:Int) (2*(2 ^ (63 - i)*(n / 18446744073709551616))) (Int.ne_of_gt hp);rw[←e]at this;exact this
 have e3:((m:Int) / 2 ^ i)=((m / 2 ^ i:Nat):Int):=by
  rw[Int.natCast_ediv,Int.natCast_pow];rfl
 rw[e2,e3,Int.add_mul_emod_self_left]
 omega
theorem and_pow (n:Int) (i:Nat) (hi:i<63) (m:Int) (hm:BitVec.ofInt 64 m=BitVec.twoPow 64 i):(bits .and .i64 n m !=0)=bitAt n i:=by
 have e:bits .and .i64 n m=IntKind.i64.wrap ((BitVec.ofInt 64 n &&& BitVec.ofInt 64 m).toNat:Int):=rfl;have hb:(BitVec.ofInt 64 n).getLsbD i=bitAt n i:=ofInt64_bit n i (by omega);have hp:2 ^ i<2 ^ 64:=Nat.pow_lt_pow_right (by decide) (by omega);rw[e,hm,BitVec.and_twoPow,hb]
 cases bitAt n i
 · rw[if_neg (by decide)]
   decide
 · rw[if_pos rfl,bne_iff_ne,Ne,wrap_nat0 _ (BitVec.isLt _),BitVec.toNat_twoPow,Nat.mod_eq_of_lt hp];exact Nat.ne_of_gt (Nat.two_pow_pos i)
theorem and7 (n:Int):(bits .and .i64 n 7 !=0)=(bitAt n 0||bitAt n 1||bitAt n 2):=by
 have e:bits .and .i64 n 7=IntKind.i64.wrap ((BitVec.ofInt 64 n &&& BitVec.ofInt 64 7).toNat:Int):=rfl;have hlt:=(BitVec.ofInt 64 n &&& BitVec.ofInt 64 7).isLt;have hz:=wrap_nat0 _ hlt
 have h2:(BitVec.ofInt 64 n &&& BitVec.ofInt 64 7).toNat=(BitVec.ofInt 64 n).toNat % 8:=by
  rw[BitVec.toNat_and,show(BitVec.ofInt 64 7).toNat=2 ^ 3 - 1 by decide,Nat.and_two_pow_sub_one_eq_mod]
 have h3:=ofInt64_toNat n;rw[h2]at e hz;rw[Bool.eq_iff_iff,bne_iff_ne,e,Ne,hz];unfold bitAt
 simp
 omega
theorem andNot56 (n:Int) (hn:R64 n) (h:(bitAt n 0||bitAt n 1||bitAt n 2)=false):(bits .andNot .i64 n 56 !=0)=(decide (n<0)||decide (63<n)):=by
 have h8:n % 8=0:=by unfold bitAt at h;simp at h;omega
 by_cases h1:0≤n∧n≤63
 · rw[decide_eq_false (by omega),decide_eq_false (by omega)];obtain⟨q,hq⟩:∃q,n=8*q:=⟨n / 8,by omega⟩
   rcases(by omega:q=0∨q=1∨q=2∨q=3∨q=4∨q=5∨q=6∨q=7)with h|h|h|h|h|h|h|h<;>(subst h;subst hq;decide)
 · have hr:(decide (n<0)||decide (63<n))=true:=by simp;omega
   rw[hr,bne_iff_ne];intro h0;have e:bits .andNot .i64 n 56=IntKind.i64.wrap ((BitVec.ofInt 64 n &&& ~~~ BitVec.ofInt 64 56).toNat:Int):=rfl;rw[e,wrap_nat0 _ (BitVec.isLt _)]at h0
   have h2:∀i,6≤i→(BitVec.ofInt 64 n).toNat.testBit i=false:=by
    intro i hi
    by_cases h64:i<64
    · have h4:=congrArg (fun k=>Nat.testBit k i) h0
      have h5:(BitVec.ofInt 64 n &&& ~~~ BitVec.ofInt 64 56).getLsbD i=false:=by
       have:(BitVec.ofInt 64 n &&& ~~~ BitVec.ofInt 64 56).toNat.testBit i=false:=by rw[h0];exact Nat.zero_testBit i
       exact this
      rw[BitVec.getLsbD_and,BitVec.getLsbD_not]at h5
      have h6:(BitVec.ofInt 64 56).getLsbD i=false:=by
       have:(BitVec.ofInt 64 56).toNat=56:=by decide
       unfold BitVec.getLsbD;rw[this];exact Nat.testBit_lt_two_pow (Nat.lt_of_lt_of_le (by decide:56<2 ^ 6) (Nat.pow_le_pow_right (by decide) hi))
      rw[h6]at h5;have h11:(BitVec.ofInt 64 n).getLsbD i=false:=by cases hc:(BitVec.ofInt 64 n).getLsbD i<;>simp_all
      exact h11
    · exact BitVec.getLsbD_of_ge _ _ (by omega)
   have h7:(BitVec.ofInt 64 n).toNat<2 ^ 6:=Nat.lt_pow_two_of_testBit _ h2;have h8:=ofInt64_toNat n;have h9:=hn.1;have h10:=hn.2
   omega
def chk (n:Int):Int:=if (bitAt n 0||bitAt n 1||bitAt n 2)=true then 9 else if (decide (n<0)||decide (63<n)||(bitAt n 5 && !bitAt n 4))=true then 8 else 0
def attrN (a t c:Bool) (k:Nat):Int:=(if a && decide (0<k)then 8 else 0)+(if t && decide (1<k)then 16 else 0)+(if c && decide (2<k)then 32 else 0)
theorem and8 (n:Int):(bits .and .i64 n 8 !=0)=bitAt n 3:=and_pow n 3 (by decide) 8 (by decide)
theorem and16 (n:Int):(bits .and .i64 n 16 !=0)=bitAt n 4:=and_pow n 4 (by decide) 16 (by decide)
theorem and32 (n:Int):(bits .and .i64 n 32 !=0)=bitAt n 5:=and_pow n 5 (by decide) 32 (by decide)
theorem and16z (n:Int):(bits .and .i64 n 16==0)= !bitAt n 4:=by rw[←and16];simp[bne]
set_option maxHeartbeats 1000000 in
set_option maxRecDepth 100000 in
theorem attr_read (n:Int) (w:World):
  Calls Tryz.prog 196 #[.int .i64 n] w fun en w'=>en=.returned (.tuple #[.bool (bitAt n 3),.bool (bitAt n 4),.bool (bitAt n 5)])∧w=w':=by
 have h1:=and8 n;have h2:=and16 n;have h3:=and32 n;go_enter Tryz.func196,Tryz.ntmps196;go_wp2;go_ret3;rw[←h1,←h2,←h3];exact⟨rfl,rfl⟩
set_option maxHeartbeats 1000000 in
set_option maxRecDepth 100000 in
theorem attr_check (n:Int) (hn:R64 n) (w:World):
   Calls Tryz.prog 194 #[.int .i64 n] w fun en w'=>en=.returned (.int .i64 (chk n))∧w=w':=by
 have a7:=and7 n;have a56:=andNot56 n hn;have a16:=and16z n;have a32:=and32 n;clear hn;have hc:chk n=chk n:=rfl
 conv at hc=>rhs;unfold chk
 cases hb:(bitAt n 0||bitAt n 1||bitAt n 2)
 · rw[hb]at a7 hc;rw[hb]at a56;replace a56:=a56 rfl
   cases hd:(decide (n<0)||decide (63<n))
   · rw[hd]at a56 hc
     cases h5:bitAt n 5
     · rw[h5]at a32 hc;have HC:=Lib.hid (show chk n=0 from hc);clear hc hd hb h5;go_enter Tryz.func194,Tryz.ntmps194;go_wp2;go_ret;rw[HC.out];exact⟨rfl,rfl⟩
     · rw[h5]at a32 hc
       cases h4:bitAt n 4
       · rw[h4]at a16 hc;have HC:=Lib.hid (show chk n=8 from hc);clear hc hd hb h5 h4;go_enter Tryz.func194,Tryz.ntmps194;go_wp2;go_ret;rw[HC.out];exact⟨rfl,rfl⟩
       · rw[h4]at a16 hc;have HC:=Lib.hid (show chk n=0 from hc);clear hc hd hb h5 h4;go_enter Tryz.func194,Tryz.ntmps194;go_wp2;go_ret;rw[HC.out];exact⟨rfl,rfl⟩
   · rw[hd]at a56 hc;have HC:=Lib.hid (show chk n=8 from hc);clear hc hd hb;go_enter Tryz.func194,Tryz.ntmps194;go_wp2;go_ret;rw[HC.out];exact⟨rfl,rfl⟩
 · rw[hb]at a7 hc;have HC:=Lib.hid (show chk n=9 from hc);clear hc hb a56;go_enter Tryz.func194,Tryz.ntmps194;go_wp2;go_ret;rw[HC.out];exact⟨rfl,rfl⟩

abbrev aBatch (base leader:Int) (a t c:Bool) (last first max prod epoch sq:Int) (ro:Option Addr) (e k:Nat):Value:=
  .agg #[.int .i64 base,.int .i64 leader,.bool a,.bool t,.bool c,.int .i64 last,.int .i64 first,.int .i64 max,.int .i64 prod,.int .i64 epoch,.int .i64 sq,.slice ro e k]
set_option maxHeartbeats 1000000 in
set_option maxRecDepth 100000 in
theorem attr_of (base leader:Int) (a t c:Bool) (last first max prod epoch sq:Int) (ro:Option Addr) (e k:Nat){W0 w:World}{K:Know}{L:List Res}(h:St W0 w K L):
  Calls Tryz.prog 139 #[aBatch base leader a t c last first max prod epoch sq ro e k] w fun en w'=>en=.returned (.int .i64 (attrN a t c 3))∧St W0 w' K L:=by
 have H:=Lib.hid h;clear h;go_enter Tryz.func139,Tryz.ntmps139;go_wp2
 go_loop [4,15] (fun nv kv=>∃(k:Nat),k≤3∧kv=.int .i64 k∧nv=.int .i64 (attrN a t c k)) (fun _ kv=>3 - (intOf kv).toNat)
 case atStart=>exact⟨0,by decide,rfl,by simp[attrN]⟩
 case round=>
  obtain⟨k,hk,rfl,rfl⟩:=hrel;have e1:attrN true t c 1=bits .or .i64 (attrN true t c 0) 8:=by cases t<;>cases c<;>decide
  have e2:attrN a true c 2=bits .or .i64 (attrN a true c 1) 16:=by cases a<;>cases c<;>decide
  have e3:attrN a t true 3=bits .or .i64 (attrN a t true 2) 32:=by cases a<;>cases t<;>decide
  have f1:attrN false t c 1=attrN false t c 0:=by cases t<;>cases c<;>decide
  have f2:attrN a false c 2=attrN a false c 1:=by cases a<;>cases c<;>decide
  have f3:attrN a t false 3=attrN a t false 2:=by cases a<;>cases t<;>decide
  have E:=Lib.hid (And.intro e1 (And.intro e2 (And.intro e3 (And.intro f1 (And.intro f2 f3)))));clear e1 e2 e3 f1 f2 f3;have i0:∀w:World,(Instr.index 293 (.agg #[.bool a,.bool t,.bool c]) (.int .i64 0)).run Tryz.prog w=.ok (.bool a) w:=fun _=>by kernel_rfl
  have i1:∀w:World,(Instr.index 293 (.agg #[.bool a,.bool t,.bool c]) (.int .i64 1)).run Tryz.prog w=.ok (.bool t) w:=fun _=>by kernel_rfl
  have i2:∀w:World,(Instr.index 293 (.agg #[.bool a,.bool t,.bool c]) (.int .i64 2)).run Tryz.prog w=.ok (.bool c) w:=fun _=>by kernel_rfl
  rcases(by omega:k=0∨k=1∨k=2∨k=3)with h|h|h|h
  · subst h
    cases a
    all_goals
     go_wp2
     go_round
     case rel=>exact⟨1,by decide,rfl,congrArg (Value.int .i64) (by first|exact E.out.2.2.2.1.symm|exact E.out.1.symm)⟩
     case measure=>decide
  · subst h
    cases t
    all_goals
     go_wp2
     go_round
     case rel=>exact⟨2,by decide,rfl,congrArg (Value.int .i64) (by first|exact E.out.2.2.2.2.1.symm|exact E.out.2.1.symm)⟩
     case measure=>decide
  · subst h
    cases c
    all_goals
     go_wp2
     go_round
     case rel=>exact⟨3,by decide,rfl,congrArg (Value.int .i64) (by first|exact E.out.2.2.2.2.2.symm|exact E.out.2.2.1.symm)⟩
     case measure=>decide
  · subst h;go_wp2;go_ret;exact⟨rfl,(H.out.alloc _).alloc _⟩
theorem rc_cell_tmp {P:Program}{fn:Func}{p t:Tmp}{ty:TypeId}(h:fn.results= #[.cell p ty,.tmp t]) (tmps:Array Value) (w:World) (b:Nat) (cs:List Value) (d:TypeDesc)
    (hp:tmps.getD p undef=.pointer (some ⟨b,0,none⟩)) (hc:w.rangeAt b 0 cs) (hu:P.underlying ty=some d) (hd:d.isRow=true) (hi:(P.info? ty).map (·.size)=some cs.length):
    (results fn tmps).run P w=.ok (.tuple #[.agg cs.toArray,tmps.getD t undef]) w:=by
  have hp':tmps[p]?.getD undef=.pointer (some ⟨b,0,none⟩):=by simpa using hp
  simp[results,h,hp',asAddr,run_loadVar_mid w b 0 ty cs d hc hu hd hi]
theorem rc_cell_only {P:Program}{fn:Func}{p:Tmp}{ty:TypeId}(h:fn.results= #[.cell p ty]) (tmps:Array Value) (w:World) (b:Nat) (cs:List Value) (d:TypeDesc)
    (hp:tmps.getD p undef=.pointer (some ⟨b,0,none⟩)) (hc:w.rangeAt b 0 cs) (hu:P.underlying ty=some d) (hd:d.isRow=true) (hi:(P.info? ty).map (·.size)=some cs.length):
    (results fn tmps).run P w=.ok (.agg cs.toArray) w:=by
  have hp':tmps[p]?.getD undef=.pointer (some ⟨b,0,none⟩):=by simpa using hp
  simp[results,h,hp',asAddr,run_loadVar_mid w b 0 ty cs d hc hu hd hi]
theorem rc_range {W0 w:World}{K:Know}{L:List Res}{b:Nat}{c:List Value}{T:TypeId}(h:St W0 w K (.raw b c.toArray T::L)):w.rangeAt b 0 c:=by
 intro j v hv;rw[Nat.zero_add,h.rawCell j]
 simpa using hv
theorem St.sets12 {W0 w:World}{K:Know}{L:List Res}{b:Nat}{T:TypeId}{a0 a1 a2 a3 a4 a5 a6 a7 a8 a9 a10 a11:Value}(v0 v1 v2 v3 v4 v5 v6 v7 v8 v9 v10 v11:Value) (h:St W0 w K (.raw b #[a0,a1,a2,a3,a4,a5,a6,a7,a8,a9,a10,a11] T::L)):St W0 ((((((((((((w.setCell ⟨b,0,none⟩ v0).setCell ⟨b,1,none⟩ v1).setCell ⟨b,2,none⟩ v2).setCell ⟨b,3,none⟩ v3).setCell ⟨b,4,none⟩ v4).setCell ⟨b,5,none⟩ v5).setCell ⟨b,6,none⟩ v6).setCell ⟨b,7,none⟩ v7).setCell ⟨b,8,none⟩ v8).setCell ⟨b,9,none⟩ v9).setCell ⟨b,10,none⟩ v10).setCell ⟨b,11,none⟩ v11) K (.raw b #[v0,v1,v2,v3,v4,v5,v6,v7,v8,v9,v10,v11] T::L):=by
 have h:St W0 _ K (.raw b #[v0,a1,a2,a3,a4,a5,a6,a7,a8,a9,a10,a11] T::L):=h.rawSet 0 v0;have h:St W0 _ K (.raw b #[v0,v1,a2,a3,a4,a5,a6,a7,a8,a9,a10,a11] T::L):=h.rawSet 1 v1;have h:St W0 _ K (.raw b #[v0,v1,v2,a3,a4,a5,a6,a7,a8,a9,a10,a11] T::L):=h.rawSet 2 v2;have h:St W0 _ K (.raw b #[v0,v1,v2,v3,a4,a5,a6,a7,a8,a9,a10,a11] T::L):=h.rawSet 3 v3;have h:St W0 _ K (.raw b #[v0,v1,v2,v3,v4,a5,a6,a7,a8,a9,a10,a11] T::L):=h.rawSet 4 v4;have h:St W0 _ K (.raw b #[v0,v1,v2,v3,v4,v5,a6,a7,a8,a9,a10,a11] T::L):=h.rawSet 5 v5;have h:St W0 _ K (.raw b #[v0,v1,v2,v3,v4,v5,v6,a7,a8,a9,a10,a11] T::L):=h.rawSet 6 v6;have h:St W0 _ K (.raw b #[v0,v1,v2,v3,v4,v5,v6,v7,a8,a9,a10,a11] T::L):=h.rawSet 7 v7;have h:St W0 _ K (.raw b #[v0,v1,v2,v3,v4,v5,v6,v7,v8,a9,a10,a11] T::L):=h.rawSet 8 v8;have h:St W0 _ K (.raw b #[v0,v1,v2,v3,v4,v5,v6,v7,v8,v9,a10,a11] T::L):=h.rawSet 9 v9;have h:St W0 _ K (.raw b #[v0,v1,v2,v3,v4,v5,v6,v7,v8,v9,v10,a11] T::L):=h.rawSet 10 v10;have h:St W0 _ K (.raw b #[v0,v1,v2,v3,v4,v5,v6,v7,v8,v9,v10,v11] T::L):=h.rawSet 11 v11;exact h
theorem setAll_get:∀(vs:List Value) (o:Nat) (c:Array Value) (i:Nat),(setAll c o vs)[i]? =if o≤i∧i<o+vs.length∧i<c.size then vs[i - o]? else c[i]?
  |[],o,c,i=>by
    show c[i]? =_
    rw[if_neg (by simp;omega)]
  |v::r,o,c,i=>by
    show(setAll (c.setIfInBounds o v) (o+1) r)[i]? =_
    rw[setAll_get r (o+1) _ i];simp only[Array.size_setIfInBounds,List.length_cons]
    by_cases h1:o+1≤i∧i<o+1+r.length∧i<c.size
    · rw[if_pos h1,if_pos (by omega)];obtain⟨k,rfl⟩:∃k,i=o+1+k:=⟨i - (o+1),by omega⟩;rw[show o+1+k - (o+1)=k by omega,show o+1+k - o=k+1 by omega]
      rfl
    · rw[if_neg h1,Array.getElem?_setIfInBounds]
      by_cases h2:o=i
      · subst h2;rw[if_pos rfl]
        by_cases h3:o<c.size
        · rw[if_pos h3,if_pos (by omega),Nat.sub_self];rfl
        · rw[if_neg h3,if_neg (by omega),Array.getElem?_eq_none (by omega)]
      · rw[if_neg h2,if_neg (by omega)]
theorem setAll_all (c cs:Array Value) (h:c.size=cs.size):setAll c 0 cs.toList=cs:=by
 refine Array.ext_getElem? fun i=> ?_
 rw[setAll_get]
 by_cases h1:i<cs.size
 · rw[if_pos (by simp;omega),Nat.sub_zero,Array.getElem?_toList]
 · rw[if_neg (by simp;omega),Array.getElem?_eq_none (by omega),Array.getElem?_eq_none (by omega)]
theorem attr_ofE (base leader:Int) (app txn ctl:Bool) (last first maxt prod epoch sq:Int) (q:Option Addr) (n cap:Nat){W0 w:World}{K:Know}{L:List Res}(h:St W0 w K L):
 Calls Tryz.prog 139 #[.agg #[.int .i64 base,.int .i64 leader,.bool app,.bool txn,.bool ctl,.int .i64 last,.int .i64 first,.int .i64 maxt,.int .i64 prod,.int .i64 epoch,.int .i64 sq,.slice q n cap]] w fun en w'=>en=.returned (.int .i64 (attrN app txn ctl 3))∧St W0 w' K L:=attr_of base leader app txn ctl last first maxt prod epoch sq q n cap h
set_option maxHeartbeats 2000000 in
set_option maxRecDepth 100000 in
theorem bat_head (base leader:Int) (app txn ctl:Bool) (last first maxt prod epoch sq:Int) (l:List (RecS×Value)) (q:Option Addr) (cap:Nat) (size:Nat) (hsz:size≤140737488355328){W0 w:World}{K:Know}{L:List Res}(h:St W0 w K L):
  Calls Tryz.prog 84 #[.agg #[.int .i64 base,.int .i64 leader,.bool app,.bool txn,.bool ctl,.int .i64 last,.int .i64 first,.int .i64 maxt,.int .i64 prod,.int .i64 epoch,.int .i64 sq,.slice q l.length cap],.int .i64 size] w fun en w'=>en=.returned (.agg #[.int .i64 base,.int .i64 (49+size),.int .i64 leader,.int .i64 0,.int .i64 (attrN app txn ctl 3),.int .i64 last,.int .i64 first,.int .i64 maxt,.int .i64 prod,.int .i64 epoch,.int .i64 sq,.int .i64 l.length])∧St W0 w' K L:=by
 have g1:=h.allocRaw #[.int .i64 base,.int .i64 leader,.bool app,.bool txn,.bool ctl,.int .i64 last,.int .i64 first,.int .i64 maxt,.int .i64 prod,.int .i64 epoch,.int .i64 sq,.slice q l.length cap] 101;have g2:=(g1.allocRaw #[.int .i64 0,.int .i64 0,.int .i64 0,.int .i64 0,.int .i64 0,.int .i64 0,.int .i64 0,.int .i64 0,.int .i64 0,.int .i64 0,.int .i64 0,.int .i64 0] 163).p1;obtain⟨hb,hhb⟩:∃b,w.heap.size=b:=⟨_,rfl⟩;obtain⟨rb,hrb⟩:∃b,hb+1=b:=⟨_,rfl⟩;simp only[World.size_alloc,hhb,hrb]at g2;have H:=Lib.hid g2;have w1:IntKind.i64.wrap (49+(size:Int))=49+(size:Int):=IntWalk.i64_in _ (by omega);clear g1 g2 h hsz;go_enter Tryz.func84,Tryz.ntmps84;go_upto_region 1 with (fail);have hs:=H.out.drew;refine wp_region_held_drew (S:=fun w'=>w'.cell? ⟨hb,0,none⟩=some (.int .i64 base)∧w'.cell? ⟨hb,1,none⟩=some (.int .i64 leader)∧w'.cell? ⟨hb,2,none⟩=some (.bool app)∧w'.cell? ⟨hb,3,none⟩=some (.bool txn)∧w'.cell? ⟨hb,4,none⟩=some (.bool ctl)∧w'.cell? ⟨hb,5,none⟩=some (.int .i64 last)∧w'.cell? ⟨hb,6,none⟩=some (.int .i64 first)∧w'.cell? ⟨hb,7,none⟩=some (.int .i64 maxt)∧w'.cell? ⟨hb,8,none⟩=some (.int .i64 prod)∧w'.cell? ⟨hb,9,none⟩=some (.int .i64 epoch)∧w'.cell? ⟨hb,10,none⟩=some (.int .i64 sq)∧w'.cell? ⟨hb,11,none⟩=some (.slice q l.length cap)) (by kernel_rfl) (let ⟨x0,x1,x2,x3,x4,x5,x6,x7,x8,x9,x10,x11,_⟩:=raw12 (b:=hb) (hs);⟨x0,x1,x2,x3,x4,x5,x6,x7,x8,x9,x10,x11⟩) (fun hHeld=> ?_);refine tQ 0 ⟨some 5,.fieldAddr 101 (.tmp 2) 0,0,_,_,none⟩ ?_;simp only[Act.put,sA,sB,sC];refine tQ 1 ⟨some 6,.load 3 (.tmp 5),3,_,_,none⟩ ?_;simp only[Act.put,sA,sB,sC];refine tQ 2 ⟨some 7,.move (.tmp 1),3,_,_,none⟩ ?_;simp only[Act.put,sA,sB,sC];refine tQ 3 ⟨some 8,.binOp .add 3 (.const (Value.int IntKind.i64 49)) (.tmp 7) 3,3,_,_,none⟩ ?_;simp only[Act.put,sA,sB,sC];refine tQ 4 ⟨some 9,.fieldAddr 101 (.tmp 2) 1,0,_,_,none⟩ ?_;simp only[Act.put,sA,sB,sC];refine tQ 5 ⟨some 10,.load 3 (.tmp 9),3,_,_,none⟩ ?_;simp only[Act.put,sA,sB,sC];refine tQ 6 ⟨some 11,.load 101 (.tmp 2),101,_,_,none⟩ ?_;simp only[Act.put,sA,sB,sC];refine tQ 8 ⟨some 13,.fieldAddr 101 (.tmp 2) 5,0,_,_,none⟩ ?_;simp only[Act.put,sA,sB,sC];refine tQ 9 ⟨some 14,.load 3 (.tmp 13),3,_,_,none⟩ ?_;simp only[Act.put,sA,sB,sC];refine tQ 10 ⟨some 15,.fieldAddr 101 (.tmp 2) 6,0,_,_,none⟩ ?_;simp only[Act.put,sA,sB,sC];refine tQ 11 ⟨some 16,.load 3 (.tmp 15),3,_,_,none⟩ ?_;simp only[Act.put,sA,sB,sC];refine tQ 12 ⟨some 17,.fieldAddr 101 (.tmp 2) 7,0,_,_,none⟩ ?_;simp only[Act.put,sA,sB,sC];refine tQ 13 ⟨some 18,.load 3 (.tmp 17),3,_,_,none⟩ ?_;simp only[Act.put,sA,sB,sC];refine tQ 14 ⟨some 19,.fieldAddr 101 (.tmp 2) 8,0,_,_,none⟩ ?_;simp only[Act.put,sA,sB,sC];refine tQ 15 ⟨some 20,.load 3 (.tmp 19),3,_,_,none⟩ ?_;simp only[Act.put,sA,sB,sC];refine tQ 16 ⟨some 21,.fieldAddr 101 (.tmp 2) 9,0,_,_,none⟩ ?_;simp only[Act.put,sA,sB,sC];refine tQ 17 ⟨some 22,.load 3 (.tmp 21),3,_,_,none⟩ ?_;simp only[Act.put,sA,sB,sC];refine tQ 18 ⟨some 23,.fieldAddr 101 (.tmp 2) 10,0,_,_,none⟩ ?_;simp only[Act.put,sA,sB,sC];refine tQ 19 ⟨some 24,.load 3 (.tmp 23),3,_,_,none⟩ ?_;simp only[Act.put,sA,sB,sC];refine tQ 20 ⟨some 25,.fieldAddr 101 (.tmp 2) 11,0,_,_,none⟩ ?_;simp only[Act.put,sA,sB,sC];refine tQ 21 ⟨some 26,.load 99 (.tmp 25),99,_,_,none⟩ ?_;simp only[Act.put,sA,sB,sC];refine tQ 22 ⟨some 27,.call {callee:=.builtin .len,args:= #[.tmp 26],argTypes:= #[99]},3,_,_,none⟩ ?_;simp only[Act.put,sA,sB,sC];refine wpAnyH_ready (rs:=[7]) (by kernel_rfl) (by simp) (AllReadyH.cons (o:=⟨some 12,.call {callee:=.value (.func 139),args:= #[.tmp 11],argTypes:= #[101]},3,_,_,none⟩) rfl (fun KK hK=> ?_) AllReadyH.nil);go_simp;go_at_call 139;with_reducible refine(attr_ofE base leader app txn ctl last first maxt prod epoch sq q l.length cap hs).mono ?_;rintro e wq ⟨rfl,hs⟩;refine hK.out _ _ (let ⟨x0,x1,x2,x3,x4,x5,x6,x7,x8,x9,x10,x11,_⟩:=raw12 (b:=hb) (hs);⟨x0,x1,x2,x3,x4,x5,x6,x7,x8,x9,x10,x11⟩) (fun hHeld=> ?_);clear hK KK
 try simp only[Act.put,sA,sB,sC]
 refine tQ 23 ⟨some 28,.build 163 #[(0,.tmp 6),(1,.tmp 8),(2,.tmp 10),(4,.tmp 12),(5,.tmp 14),(6,.tmp 16),(7,.tmp 18),(8,.tmp 20),(9,.tmp 22),(10,.tmp 24),(11,.tmp 27)],163,_,_,none⟩ ?_;simp only[Act.put,sA,sB,sC];refine wpAnyH_ready (rs:=[24]) (by kernel_rfl) (by simp) (AllReadyH.cons (o:=⟨none,.store 163 (.tmp 4) (.tmp 28),0,_,_,none⟩) rfl (fun KK hK=> ?_) AllReadyH.nil);have hs:=hs.p1;rw[if_pos (by rfl)];refine wp_store_mid 163 (.tmp 4) (.tmp 28) rfl rb 0 #[.int .i64 base,.int .i64 (49+size),.int .i64 leader,.int .i64 0,.int .i64 (attrN app txn ctl 3),.int .i64 last,.int .i64 first,.int .i64 maxt,.int .i64 prod,.int .i64 epoch,.int .i64 sq,.int .i64 l.length] (by rfl) (by rfl) hs.there (by kernel_rfl) (by simp[Value.oneCell']) ?_;obtain⟨wz,ez,hs⟩:=hs.storeEx #[.int .i64 base,.int .i64 (49+size),.int .i64 leader,.int .i64 0,.int .i64 (attrN app txn ctl 3),.int .i64 last,.int .i64 first,.int .i64 maxt,.int .i64 prod,.int .i64 epoch,.int .i64 sq,.int .i64 l.length];rw[ez];clear ez;refine hK.out _ _ (let ⟨x0,x1,x2,x3,x4,x5,x6,x7,x8,x9,x10,x11,_⟩:=raw12 (b:=hb) (hs.p1);⟨x0,x1,x2,x3,x4,x5,x6,x7,x8,x9,x10,x11⟩) (fun hHeld=> ?_);clear hK KK
 try simp only[Act.put,sA,sB,sC]
 refine wpAnyH_done (by kernel_rfl) ?_ _;clear hHeld;rw[setAll_all]at hs;rotate_left
 · rfl
 have hz:St W0 _ K (.raw rb #[.int .i64 base,.int .i64 (49+size),.int .i64 leader,.int .i64 0,.int .i64 (attrN app txn ctl 3),.int .i64 last,.int .i64 first,.int .i64 maxt,.int .i64 prod,.int .i64 epoch,.int .i64 sq,.int .i64 l.length] 163::_):=hs;go_wp2_with fail;refine bodyPost_ret (rc_cell_only rfl _ _ rb [.int .i64 base,.int .i64 (49+size),.int .i64 leader,.int .i64 0,.int .i64 (attrN app txn ctl 3),.int .i64 last,.int .i64 first,.int .i64 maxt,.int .i64 prod,.int .i64 epoch,.int .i64 sq,.int .i64 l.length] _ rfl (rc_range hz) Tryz.underlying163 rfl (by kernel_rfl)) rfl ?_;exact⟨rfl,hz.drop.drop⟩
theorem glue {l a:Bs}{n m:Nat}(h:a=(l.drop n).take m):a++l.drop (n+m)=l.drop n:=by
 rw[h,←List.drop_drop,List.take_append_drop]
theorem reInner_one {s:Bs}{x:RecS}(h:reInner s=.ok x):recF x=s∧recOk x=0∧x.R∧x.sum≤s.length:=by
 unfold reInner at h
 cases h0:getIntN 1 s with
 |error e=>rw[h0]at h;cases h
 |ok a=>
  rw[h0]at h;simp only at h
  by_cases ha:a.1=0
  · rw[if_pos ha]at h
    obtain⟨c,t,rfl⟩:∃c t,s=c::t:=by
     cases s with
     |nil=>cases h0
     |cons c t=>exact⟨c,t,rfl⟩
    have hc:c=0:=by
     have:(.ok (sByte c,1):Except Int (Int×Nat))=.ok a:=by rw[←h0];unfold getIntN;rw[if_neg (by simp)];rfl
     cases this
     have hn:=c.toNat_lt;have h2:sByte c=0:=ha;unfold sByte at h2;exact UInt8.toNat_inj.1 (show c.toNat=0 by split at h2<;>omega)
    subst hc
    cases h1:vgetL ((0::t:Bs).drop 1)with
    |error e=>rw[h1]at h;cases h
    |ok x1=>
     obtain⟨tm,k⟩:=x1;rw[h1]at h;simp only at h
     cases h2:vgetI ((0::t:Bs).drop (1+k))with
     |error e=>rw[h2]at h;cases h
     |ok x2=>
      obtain⟨o,m⟩:=x2;rw[h2]at h;simp only at h
      by_cases ho:o<0
      · rw[if_pos ho]at h;cases h
      rw[if_neg ho]at h
      cases h3:revaried ((0::t:Bs).drop (1+k+m))with
      |error e=>rw[h3]at h;cases h
      |ok x3=>
       obtain⟨kb,ka⟩:=x3;rw[h3]at h;simp only at h
       cases h4:revaried ((0::t:Bs).drop (1+k+m+ka))with
       |error e=>rw[h4]at h;cases h
       |ok x4=>
        obtain⟨vb,va⟩:=x4;rw[h4]at h;simp only at h
        cases h5:reHdrs ((0::t:Bs).drop (1+k+m+ka+va))with
        |error e=>rw[h5]at h;cases h
        |ok x5=>
         obtain⟨l,ha5⟩:=x5;rw[h5]at h;simp only at h
         by_cases hf:1+k+m+ka+va+ha5=(0::t:Bs).length
         · rw[if_pos hf]at h
           cases h
           obtain⟨g1,_,_,r1,r2⟩:=vgetL_one h1;obtain⟨g2,_,_,r3,r4⟩:=vgetI_one h2;obtain⟨g3,_,b3,c3,_,d3⟩:=revaried_one h3;obtain⟨g4,_,b4,c4,_,d4⟩:=revaried_one h4;obtain⟨g5,_,b5,c5,d5⟩:=reHdrs_one h5;refine⟨?_,?_,⟨⟨r1,r2⟩,by constructor<;>simp only<;>omega⟩,?_⟩
           · unfold recF;simp only;have q5:=glue g5;rw[List.drop_eq_nil_of_le (by omega),List.append_nil]at q5;rw[q5,glue g4,glue g3];have q2:encI o++(0::t:Bs).drop (1+k+m)=(0::t:Bs).drop (1+k):=glue g2;have q1:encI tm++(0::t:Bs).drop (1+k)=(0::t:Bs).drop 1:=glue g1;rw[q2,q1]
             rfl
           · unfold recOk RecS.allRight;simp only;rw[if_neg (by omega),c3,c4,c5]
             rfl
           · unfold RecS.sum;simp only;have e3:kb.data.length≤ka:=by split at d3<;>omega
             have e4:vb.data.length≤va:=by split at d4<;>omega
             omega
         · rw[if_neg hf]at h;cases h
  · rw[if_neg ha]at h;cases h
theorem reRec_one {s:Bs}{x:RecS}{m:Nat}(h:reRec s=.ok (x,m)):encR x=s.take m∧recOk x=0∧x.R∧x.sum≤s.length∧0<m∧m≤s.length:=by
 unfold reRec at h
 cases h1:revaried s with
 |error e=>rw[h1]at h;cases h
 |ok b=>
  obtain⟨⟨n,d⟩,k⟩:=b;rw[h1]at h;simp only at h;obtain⟨g1,g2,g3,_,_,g5⟩:=revaried_one h1
  cases n with
  |true=>cases h
  |false=>
   simp only[Bool.false_eq_true,if_false]at h
   cases h2:reInner d with
   |error e=>rw[h2]at h;cases h
   |ok y=>
    rw[h2]at h
    cases h
    obtain⟨k1,k2,k3,k4⟩:=reInner_one h2;simp at g5;exact⟨by unfold encR;rw[k1];exact g1,k2,k3,by omega,g2,g3⟩
theorem reRec_nz {s:Bs}{e:Int}(h:reRec s=.error e):e≠0:=(rds_rec.err s 0 e (Nat.zero_le _) (by rw[List.drop_zero];exact h)).1
theorem record_of {s:Bs}{x:RecS}{m:Nat}(h:reRec s=.ok (x,m)):(⟨s,0,0⟩:InS).record=(x,⟨s,m,0⟩):=by
 have:=(rds_rec.ok s 0 x m (Nat.zero_le _) (by rw[List.drop_zero];exact h)).2
 rwa [Nat.zero_add]at this
theorem record_ofE {s:Bs}{e:Int}(h:reRec s=.error e):∃q,(⟨s,0,0⟩:InS).record=(RecS.zero,⟨s,q,e⟩):=by
 obtain⟨_,q,_,hq⟩:=rds_rec.err s 0 e (Nat.zero_le _) (by rw[List.drop_zero];exact h);exact⟨q,hq⟩
theorem dec_ofE {s:Bs}{e:Int}(h:reRec s=.error e):decR s=RecS.zero∧(decJ s).err=e:=by
 obtain⟨q,hq⟩:=record_ofE h;have he:=reRec_nz h;have h4:(decJ s).err=e:=by unfold decJ;rw[hq];exact close_err he
 exact⟨by unfold decR;rw[h4,if_neg he],h4⟩
theorem dec_long2 {s:Bs}{x:RecS}{m:Nat}(h:reRec s=.ok (x,m)) (hm:m<s.length):decR s=RecS.zero∧(decJ s).err=2:=by
 have h4:(decJ s).err=2:=by
  unfold decJ;rw[record_of h];unfold InS.close;rw[if_pos (by simp only[InS.left];omega)]
  rfl
 exact⟨by unfold decR;rw[h4,if_neg (by decide)],h4⟩
theorem dec_all {s:Bs}{x:RecS}{m:Nat}(h:reRec s=.ok (x,m)) (hm:m=s.length):decR s=x∧(decJ s).err=0:=by
 have h4:(decJ s).err=0:=by
  unfold decJ;rw[record_of h];unfold InS.close;rw[if_neg (by simp only[InS.left];omega)]
 exact⟨by unfold decR;rw[h4,if_pos rfl,record_of h],h4⟩
theorem hsum_fit:∀(l:List HdrS) (N:Nat),hsum l≤N→∀x∈l,x.key.length≤N∧x.val.data.length≤N
  |[],_,_,_,h=>by cases h
  |y::t,N,hh,x,hx=>by
    simp only[hsum,List.map_cons,List.sum_cons]at hh
    rcases List.mem_cons.1 hx with rfl|hx
    · omega
    · exact hsum_fit t N (by simp only[hsum];omega) x hx
theorem unp_fit:∀(n:Nat) (rows:Bs) (pos:Nat) (rs:List RecS),pos≤rows.length→unp n ⟨rows,pos,0⟩=.ok rs→rs.length=n∧rs.length+pos≤rows.length∧∀x∈rs,x.R∧recOk x=0∧x.sum≤rows.length
  |0,rows,pos,rs,hp,h=>by
    unfold unp at h
    split at h
    · cases h;exact⟨rfl,by simpa using hp,fun x hx=>by cases hx⟩
    · cases h
  |n+1,rows,pos,rs,hp,h=>by
    have h:(if (⟨rows,pos,0⟩:InS).left=0 then .error 10 else if (⟨rows,pos,0⟩:InS).record.2.err=0 then consE (⟨rows,pos,0⟩:InS).record.1 (unp n (⟨rows,pos,0⟩:InS).record.2)else .error (⟨rows,pos,0⟩:InS).record.2.err)=.ok rs:=h
    by_cases c1:(⟨rows,pos,0⟩:InS).left=0
    · rw[if_pos c1]at h;cases h
    rw[if_neg c1]at h
    cases hr:reRec (rows.drop pos)with
    |error e=>
      obtain⟨he,q,_,hf⟩:=rds_rec.err rows pos e hp hr;rw[hf]at h;simp only at h;rw[if_neg he]at h
      cases h
    |ok y=>
      obtain⟨x,m⟩:=y;obtain⟨hpm,hf⟩:=rds_rec.ok rows pos x m hp hr;rw[hf]at h;simp only[if_true]at h
      cases hu:unp n ⟨rows,pos+m,0⟩with
      |error e=>rw[hu]at h;cases h
      |ok t=>
        rw[hu]at h;have h:Except.ok (x::t)=Except.ok rs:=h;injection h with h;subst h;obtain⟨i1,i2,i3⟩:=unp_fit n rows (pos+m) t hpm hu;obtain⟨_,j1,j2,j3,j4,j5⟩:=reRec_one hr;rw[List.length_drop]at j3 j5;refine⟨by simp[i1],by simp only[List.length_cons];omega,fun y hy=> ?_⟩
        rcases List.mem_cons.1 hy with rfl|hy
        · exact⟨j2,j1,by omega⟩
        · exact i3 y hy
theorem unp_fitB {n:Nat}{rows:Bs}{rs:List RecS}{l:List (RecS×Value)}(hu:unp n ⟨rows,0,0⟩=.ok rs) (hl:l.map (·.1)=rs) (hr:rows.length≤1000000):FitB l∧l.length≤1000000:=by
 obtain⟨i1,i2,i3⟩:=unp_fit n rows 0 rs (Nat.zero_le _) hu
 constructor
 · intro x hx;have hm:x.1∈rs:=by rw[←hl];exact List.mem_map.2 ⟨x,hx,rfl⟩
   obtain⟨a,_,c⟩:=i3 x.1 hm;refine⟨a,fun y hy=> ?_,by omega⟩;have h1:hsum x.1.hdrs≤1000000:=by unfold RecS.sum at c;omega
   have:=hsum_fit x.1.hdrs 1000000 h1 y hy
   omega
 · have:l.length=rs.length:=by rw[←hl,List.length_map]
   omega
def asmB (x:PreS) (said rows:Bs):Except Int BatS:=
  if ((crcMore 0#32 (said.drop 21++rows)).toNat:Int)≠x.sum then .error 5
  else if chk x.attr≠0 then .error (chk x.attr)
  else match unp x.count.toNat ⟨rows,0,0⟩with
    | .error e=> .error e
    | .ok rs=>if batErr ⟨x.base,x.leader,bitAt x.attr 3,bitAt x.attr 4,bitAt x.attr 5,x.last,x.first,x.maxt,x.prod,x.epoch,x.seq,rs⟩=0 then .ok ⟨x.base,x.leader,bitAt x.attr 3,bitAt x.attr 4,bitAt x.attr 5,x.last,x.first,x.maxt,x.prod,x.epoch,x.seq,rs⟩else .error (batErr ⟨x.base,x.leader,bitAt x.attr 3,bitAt x.attr 4,bitAt x.attr 5,x.last,x.first,x.maxt,x.prod,x.epoch,x.seq,rs⟩)
theorem attr_readE (n:Int){W0 w:World}{K:Know}{L:List Res}(h:St W0 w K L):
 Calls Tryz.prog 196 #[.int .i64 n] w fun en w'=>en=.returned (.tuple #[.bool (bitAt n 3),.bool (bitAt n 4),.bool (bitAt n 5)])∧St W0 w' K L:=(attr_read n w).mono fun _ _ hh=>⟨hh.1,hh.2 ▸ h⟩
theorem attr_checkE (n e:Int) (he:chk n=e) (hn:R64 n){W0 w:World}{K:Know}{L:List Res}(h:St W0 w K L):
 Calls Tryz.prog 194 #[.int .i64 n] w fun en w'=>en=.returned (.int .i64 e)∧St W0 w' K L:=(attr_check n hn w).mono fun _ _ hh=>⟨he ▸ hh.1,hh.2 ▸ h⟩
theorem s_takeE (b:Nat) (i j:InS) (n:Int) (s:Bs) (hx:i.take n=(s,j)){W0 w:World}{K:Know}{L:List Res}(h:St W0 w K (.inp b i::L)):
  Calls Tryz.prog 67 #[inPtr b,.int .i64 n] w fun en w'=>en=.returned (.string (bb s))∧St W0 w' K (.inp b j::L):=by
 have:=s_take b i n h;rw[hx]at this;exact this
theorem s_failE (b:Nat) (i j:InS) (e:Int) (hx:i.fail e=j){W0 w:World}{K:Know}{L:List Res}(h:St W0 w K (.inp b i::L)):
  Calls Tryz.prog 70 #[inPtr b,.int .i64 e] w fun en w'=>en=.returned (.tuple #[])∧St W0 w' K (.inp b j::L):=by
 subst hx;exact s_fail b i e h
theorem s_closeE (b:Nat) (i j:InS) (e:Int) (hx:i.close=j) (he:j.err=e){W0 w:World}{K:Know}{L:List Res}(h:St W0 w K (.inp b i::L)):
  Calls Tryz.prog 25 #[inPtr b] w fun en w'=>en=.returned (.int .i64 e)∧St W0 w' K (.inp b j::L):=by
 subst hx he;exact s_close b i h
theorem unp_ne:∀(n:Nat) (i:InS) (e:Int),unp n i=.error e→e≠0
  |0,i,e,h=>by
    unfold unp at h
    split at h
    · cases h
    · cases h;decide
  |n+1,i,e,h=>by
    have h:(if i.left=0 then .error 10 else if i.record.2.err=0 then consE i.record.1 (unp n i.record.2)else .error i.record.2.err)=.error e:=h
    by_cases c1:i.left=0
    · rw[if_pos c1]at h;cases h;decide
    rw[if_neg c1]at h
    by_cases c2:i.record.2.err=0
    · rw[if_pos c2]at h
      cases hu:unp n i.record.2 with
      |ok t=>rw[hu]at h;cases h
      |error f=>
        rw[hu]at h;have h:Except.error f=Except.error e:=h;injection h with h;subst h;exact unp_ne n _ _ hu
    · rw[if_neg c2]at h;injection h with h;exact h ▸ c2
theorem asmB_ne {x:PreS}{said rows:Bs}{e:Int}(h:asmB x said rows=.error e):e≠0:=by
 unfold asmB at h
 split at h
 · cases h;decide
 split at h
 · cases h;assumption
 split at h
 · rename_i f hu
   cases h
   exact unp_ne _ _ _ hu
 · split at h
   · cases h
   · cases h;assumption
theorem asmB_ok {x:PreS}{said rows:Bs}{b:BatS}(h:asmB x said rows=.ok b):((crcMore 0#32 (said.drop 21++rows)).toNat:Int)=x.sum∧chk x.attr=0∧∃rs,unp x.count.toNat ⟨rows,0,0⟩=.ok rs∧batErr (⟨x.base,x.leader,bitAt x.attr 3,bitAt x.attr 4,bitAt x.attr 5,x.last,x.first,x.maxt,x.prod,x.epoch,x.seq,rs⟩:BatS)=0∧b=(⟨x.base,x.leader,bitAt x.attr 3,bitAt x.attr 4,bitAt x.attr 5,x.last,x.first,x.maxt,x.prod,x.epoch,x.seq,rs⟩:BatS):=by
 unfold asmB at h
 split at h
 · cases h
 rename_i h1
 split at h
 · cases h
 rename_i h2
 have h1:((crcMore 0#32 (said.drop 21++rows)).toNat:Int)=x.sum:=by
   by_cases hh:((crcMore 0#32 (said.drop 21++rows)).toNat:Int)=x.sum
   · exact hh
   · exact absurd hh h1
 have h2:chk x.attr=0:=by
   by_cases hh:chk x.attr=0
   · exact hh
   · exact absurd hh h2
 split at h
 · cases h
 · rename_i rs hu
   split at h
   · rename_i hb
     cases h
     exact⟨h1,h2,rs,hu,hb,rfl⟩
   · cases h
theorem encInts_append (a b:List (Int×Nat)):encInts (a++b)=encInts a++encInts b:=List.flatMap_append
theorem FitsAll.nil:FitsAll []:=fun _ hx=>by cases hx
theorem FitsAll.append {a b:List (Int×Nat)}(h:FitsAll a) (k:FitsAll b):FitsAll (a++b):=fun x hx=>(List.mem_append.1 hx).elim (h x) (k x)
theorem FitsAll.one {n:Int}{z:Nat}(h:fits n z):FitsAll [(n,z)]:=fun x hx=>by simp at hx;subst hx;exact h
theorem sumItem_fits (n:Int) (h0:¬n<0) (h1:¬4294967295<n):fits (sumItem n) 4:=by
 have e4:half 4=2147483648:=by decide
 unfold fits sumItem;rw[if_neg (by omega)];refine⟨by decide,by decide,?_⟩;have:(4:Int).toNat=4:=rfl;rw[this,e4]
 split<;>omega
theorem sumItem_bad (n:Int) (h:n<0∨4294967295<n):¬fits (sumItem n) 4:=by
 have e:sumItem n=4294967296:=if_pos h;rw[e]
 decide
def preX (s:Bs):PreS×Int:=preOfL (intsOf preSizes s)
def rePre (s:Bs):Except Int PreS:=if s.length<61 then .error 1 else if (preX s).2=2 then(if (preX s).1.len<49 then .error 4 else if (preX s).1.count<0 then .error 10 else .ok (preX s).1)else .error 6
theorem InS.fail_stuck_Pre6 {i:InS}(h:i.err≠0) (e:Int):i.fail e=i:=if_neg h
theorem InS.fail_ok0 (s:Bs) (p:Nat) (e:Int):(⟨s,p,0⟩:InS).fail e=⟨s,p,e⟩:=rfl
theorem preChk_stuck (x:PreS) (m:Int){i:InS}(h:i.err≠0):preChk x m i=i:=by
 unfold preChk;simp only[InS.fail_stuck_Pre6 h,ite_self]
theorem pre_okA (s:Bs) (pos:Nat) (hp:pos+61≤s.length):(⟨s,pos,0⟩:InS).pre=match rePre (s.drop pos)with| .ok x=>(x,⟨s,pos+61,0⟩)| .error e=>(PreS.zero,⟨s,pos+61,e⟩):=by
 have h1:=ints_ok preSizes s pos (by decide) hp;have h2:preSizes.sum=61:=rfl;rw[h2]at h1;unfold InS.pre;rw[h1];unfold rePre preX;rw[if_neg (by rw[List.length_drop];omega)];obtain⟨x,m⟩:=preOfL (intsOf preSizes (s.drop pos));simp only[preChk]
 by_cases hm:m=2
 · rw[if_pos hm,if_pos hm]
   by_cases hl:x.len<49
   · rw[if_pos hl,if_pos hl,InS.fail_ok0,InS.fail_stuck_Pre6 (show(4:Int)≠0 by decide),ite_self,if_neg (show ¬(4:Int)=0 by decide)]
   · rw[if_neg hl,if_neg hl]
     by_cases hc:x.count<0
     · rw[if_pos hc,if_pos hc,InS.fail_ok0,if_neg (show ¬(10:Int)=0 by decide)]
     · rw[if_neg hc,if_neg hc,if_pos rfl]
 · have hs:∀e:Int,(⟨s,pos+61,6⟩:InS).fail e=⟨s,pos+61,6⟩:=fun e=>InS.fail_stuck_Pre6 (show(6:Int)≠0 by decide) e
   rw[if_neg hm,if_neg hm,InS.fail_ok0];simp only[hs,ite_self];rw[if_neg (show ¬(6:Int)=0 by decide)]
theorem pre_shortA (s:Bs) (pos:Nat) (hp:pos≤s.length) (hs:s.length<pos+61):∃q,q≤s.length∧(⟨s,pos,0⟩:InS).pre=(PreS.zero,⟨s,q,1⟩):=by
 obtain⟨q,h1,h2⟩:=ints_short preSizes s pos (by decide) hp hs;refine⟨q,h1,?_⟩;unfold InS.pre;rw[h2,preChk_stuck _ _ (show(1:Int)≠0 by decide)];simp only;rw[if_neg (by decide)]
theorem rePre_short {s:Bs}(h:s.length<61):rePre s=.error 1:=if_pos h
theorem intsOf_take:∀(l:List Nat) (s:Bs) (n:Nat),l.sum≤n→intsOf l (s.take n)=intsOf l s
  |[],_,_,_=>rfl
  |k::t,s,n,h=>by
    rw[List.sum_cons]at h;unfold intsOf;rw[List.take_take,Nat.min_eq_left (by omega),List.drop_take,intsOf_take t (s.drop k) (n - k) (by omega)]
theorem rePre_take (s:Bs) (h:61≤s.length):rePre (s.take 61)=rePre s:=by
 unfold rePre preX;rw[intsOf_take preSizes s 61 (by decide),List.length_take,Nat.min_eq_left h,if_neg (show ¬61<61 by decide),if_neg (show ¬s.length<61 by omega)]
theorem sInt_range4 (s:Bs) (h:s.length≤4): -2147483648≤sInt s∧sInt s<2147483648:=by
 rcases(by omega:s.length=0∨(1≤s.length∧s.length≤4))with h0|h0
 · have:s=[]:=List.length_eq_zero_iff.1 h0;subst this
   decide
 · have h1:=(sInt_fits s s.length h0.1 (by omega) rfl).2.2;rw[Int.toNat_natCast]at h1
   have h2:half s.length≤2147483648:=by
    rcases(by omega:s.length=1∨s.length=2∨s.length=3∨s.length=4)with h|h|h|h<;>rw[h]<;>decide
   omega
theorem preX_eq (s:Bs):preX s=(⟨sInt (s.take 8),sInt ((s.drop 8).take 4),sInt ((s.drop 12).take 4),sInt ((s.drop 17).take 4) % 4294967296,sInt ((s.drop 21).take 2),sInt ((s.drop 23).take 4),sInt ((s.drop 27).take 8),sInt ((s.drop 35).take 8),sInt ((s.drop 43).take 8),sInt ((s.drop 51).take 2),sInt ((s.drop 53).take 4),sInt ((s.drop 57).take 4)⟩,sInt ((s.drop 16).take 1)):=by
 unfold preX preSizes;simp only[intsOf,List.drop_drop,Nat.reduceAdd]
 rfl
theorem preX_len (s:Bs): -2147483648≤(preX s).1.len∧(preX s).1.len<2147483648:=by
 rw[preX_eq];exact sInt_range4 _ (by rw[List.length_take];omega)
theorem rePre_ok {s:Bs}{x:PreS}(h:rePre s=.ok x):61≤s.length∧(preX s).1=x∧(preX s).2=2∧49≤x.len∧0≤x.count:=by
 unfold rePre at h
 split at h
 · cases h
 split at h
 · split at h
   · cases h
   · split at h
     · cases h
     · cases h
       exact⟨by omega,rfl,by assumption,by omega,by omega⟩
 · cases h
theorem rePre_err {s:Bs}{e:Int}(h:rePre s=.error e):e≠0:=by
 unfold rePre at h
 split at h
 · cases h;decide
 split at h
 · split at h
   · cases h;decide
   · split at h
     · cases h;decide
     · cases h
 · cases h;decide

theorem prefix_readQ (p:Nat) (i j:InS) (x:PreS) (hx:i.pre=(x,j)){W0 w:World}{K:Know}{L:List Res}(h:St W0 w K (.inp p i::L)):
  Calls Tryz.prog 133 #[inPtr p] w fun en w'=>en=.returned (.agg #[.int .i64 x.base,.int .i64 x.len,.int .i64 x.leader,.int .i64 x.sum,.int .i64 x.attr,.int .i64 x.last,.int .i64 x.first,.int .i64 x.maxt,.int .i64 x.prod,.int .i64 x.epoch,.int .i64 x.seq,.int .i64 x.count])∧St W0 w' K (.inp p j::L):=by
 have:=prefix_read p i h;rw[hx]at this;exact this
def reBat (s:Bs):Except Int (BatS×Nat):=match rePre s with
  | .error e=> .error e
  | .ok x=>if s.length<61+(x.len - 49).toNat then .error 1 else match asmB x (s.take 61) ((s.drop 61).take (x.len - 49).toNat)with
    | .error e=> .error e
    | .ok b=> .ok (b,61+(x.len - 49).toNat)
def batD (s:Bs):Except Int BatS:=match reBat s with
  | .error e=> .error e
  | .ok y=>if y.2<s.length then .error 2 else .ok y.1
theorem pre_ranges {s:Bs}{x:PreS}(h:rePre s=.ok x):(-2147483648≤x.len∧x.len<2147483648)∧49≤x.len∧R64 x.attr∧0≤x.count∧x.count≤2147483647∧x.first≤9223372036854775807:=by
 obtain⟨h1,h2,_,h3,h4⟩:=rePre_ok h;have hl:=preX_len s;rw[h2]at hl;rw[preX_eq]at h2;have h2:=h2.symm;subst h2;simp only at*;have a:=sInt_range ((s.drop 21).take 2) (by rw[List.length_take];omega);have b:=sInt_range ((s.drop 27).take 8) (by rw[List.length_take];omega);have c:=sInt_range4 ((s.drop 57).take 4) (by rw[List.length_take];omega);exact⟨hl,h3,a,h4,by omega,by omega⟩
theorem reBat_ne {s:Bs}{e:Int}(h:reBat s=.error e):e≠0:=by
 unfold reBat at h
 split at h
 · rename_i f hp
   cases h
   exact rePre_err hp
 · split at h
   · cases h;decide
   · split at h
     · rename_i f ha
       cases h
       exact asmB_ne ha
     · cases h
theorem reBat_ok {s:Bs}{b:BatS}{n:Nat}(h:reBat s=.ok (b,n)):∃x,rePre s=.ok x∧n=61+(x.len - 49).toNat∧n≤s.length∧asmB x (s.take 61) ((s.drop 61).take (x.len - 49).toNat)=.ok b:=by
 unfold reBat at h
 split at h
 · cases h
 · rename_i x hp
   split at h
   · cases h
   · split at h
     · cases h
     · rename_i c ha
       cases h
       exact⟨x,hp,rfl,by omega,ha⟩
theorem putRec_good (o:Bs) (x:RecS) (h:recOk x=0):(⟨o,0⟩:OutS).putRec x=⟨o++encR x,0⟩:=by
 unfold OutS.putRec;rw[if_pos h]
 rfl
theorem recsC_ok:∀(l:List RecS),recsC l=0→∀x∈l,recOk x=0
  |[],_,_,h=>by cases h
  |r::t,hh,x,hx=>by
    have hh:(if recOk r=0 then recsC t else recOk r)=0:=hh
    by_cases h1:recOk r=0
    · rw[if_pos h1]at hh
      rcases List.mem_cons.1 hx with rfl|hx
      · exact h1
      · exact recsC_ok t hh x hx
    · rw[if_neg h1]at hh;exact absurd hh h1
theorem encAll_small {l:List (RecS×Value)}(h:FitB l):(encAll l).length≤40000000*l.length:=by
 have:∀(l:List (RecS×Value)),(∀x∈l,(encR x.1).length≤40000000)→(encAll l).length≤40000000*l.length:=by
  intro l
  induction l with
  |nil=>intro _;simp[encAll]
  |cons x t ih=>
   intro hh;have h1:=ih (fun y hy=>hh y (by simp[hy]));have h2:=hh x (by simp);have e:encAll (x::t)=encR x.1++encAll t:=rfl;rw[e,List.length_append,List.length_cons]
   omega
 refine this l fun x hx=> ?_
 obtain⟨a,_,c⟩:=h x hx;have h1:=recF_le x.1 a c;unfold encR encV;rw[List.length_append];have h2:(putU (foldN (BlobS.len ⟨false,recF x.1⟩))).length≤10:=putU_len _ (foldN_lt (by simp[BlobS.len]<;>omega) (by simp[BlobS.len]<;>omega));simp only at*
 omega
theorem sumItem_mod6 (n:Int) (h:fits (sumItem n) 4):sumItem n % 4294967296=n:=by
 by_cases h0:n<0∨4294967295<n
 · exact absurd h (sumItem_bad n h0)
 · unfold sumItem;rw[if_neg h0]
   split<;>omega
theorem preX_enc6 (x:PreS) (hf:FitsAll x.items):preX (encInts x.items)=(x,2):=by
 have h1:=intsOf_enc x.items [] hf;rw[List.append_nil]at h1;have h2:x.items.map (·.2)=preSizes:=rfl;rw[h2]at h1;have h3:=sumItem_mod6 x.sum (hf (sumItem x.sum,4) (by simp[PreS.items]));unfold preX;rw[h1];simp only[PreS.items,List.map_cons,List.map_nil,preOfL,h3]
theorem items_len (x:PreS):(encInts x.items).length=61:=by rw[encInts_length];rfl
theorem rePre_enc (x:PreS) (hf:FitsAll x.items) (hl:49≤x.len) (hc:0≤x.count) (t:Bs):rePre (encInts x.items++t)=.ok x:=by
 have h:=rePre_take (encInts x.items++t) (by rw[List.length_append,items_len];omega);rw[List.take_left' (items_len x)]at h;rw[←h];unfold rePre;rw[preX_enc6 x hf,if_neg (by rw[items_len];omega),if_pos rfl,if_neg (by simp only;omega),if_neg (by simp only;omega)]
def BatS.rowsB (b:BatS):Bs:=b.recs.flatMap encR
def BatS.pre (b:BatS) (sum:Int):PreS:=⟨b.base,49+b.rowsB.length,b.leader,sum,attrN b.app b.txn b.ctl 3,b.last,b.first,b.maxt,b.prod,b.epoch,b.seq,b.recs.length⟩
def BatS.front (b:BatS) (sum:Int):Bs:=encInts [(b.base,8),(49+b.rowsB.length,4),(b.leader,4),(2,1),(sumItem sum,4)]
def BatS.back (b:BatS):Bs:=encInts [(attrN b.app b.txn b.ctl 3,2),(b.last,4),(b.first,8),(b.maxt,8),(b.prod,8),(b.epoch,2),(b.seq,4),(b.recs.length,4)]
def BatS.crc (b:BatS):Nat:=(crcMore 0#32 (b.back++b.rowsB)).toNat
def BatS.enc (b:BatS):Bs:=encInts (b.pre b.crc).items++b.rowsB
theorem BatS.pre_split (b:BatS) (s:Int):encInts (b.pre s).items=b.front s++b.back:=by
 have h:(b.pre s).items=[(b.base,8),(49+(b.rowsB.length:Int),4),(b.leader,4),(2,1),(sumItem s,4)]++[(attrN b.app b.txn b.ctl 3,2),(b.last,4),(b.first,8),(b.maxt,8),(b.prod,8),(b.epoch,2),(b.seq,4),((b.recs.length:Int),4)]:=rfl;rw[h,encInts_append]
 rfl
theorem BatS.front_len (b:BatS) (s:Int):(b.front s).length=21:=by unfold BatS.front;rw[encInts_length];rfl
theorem BatS.pre_drop (b:BatS) (s:Int):(encInts (b.pre s).items).drop 21=b.back:=by rw[b.pre_split,List.drop_left' (b.front_len s)]
theorem BatS.crc_lt (b:BatS):b.crc<4294967296:=(crcMore 0#32 (b.back++b.rowsB)).isLt
theorem fits_of {n:Int}{k:Nat}(h1:1≤k) (h8:k≤8) (lo: -half k≤n) (hi:n<half k):fits n k:=by
 refine⟨by omega,by omega,?_,?_⟩<;>rw[Int.toNat_natCast]<;>assumption
theorem batErr_zero {b:BatS}(h:batErr b=0):b.placed=true∧(b.ctl=true→b.txn=true)∧b.signed=true∧recsC b.recs=0:=by
 unfold batErr at h
 by_cases p1:b.placed=false
 · rw[if_pos p1]at h;cases h
 rw[if_neg p1]at h
 by_cases p2:b.ctl=true∧b.txn=false
 · rw[if_pos p2]at h;cases h
 rw[if_neg p2]at h
 by_cases p3:b.signed=false
 · rw[if_pos p3]at h;cases h
 rw[if_neg p3]at h
 by_cases p4:b.ctl=true∧b.recs.length≠1
 · rw[if_pos p4]at h;cases h
 rw[if_neg p4]at h
 by_cases p5:recsC b.recs≠0
 · rw[if_pos p5]at h;exact absurd h p5
 refine⟨by simpa using p1,fun hc=> ?_,by simpa using p3,Classical.not_not.1 p5⟩
 cases ht:b.txn with
 |true=>rfl
 |false=>exact absurd ⟨hc,ht⟩ p2
theorem signed_rng {b:BatS}(h:b.signed=true): -1≤b.prod∧(-1≤b.epoch∧b.epoch≤32767)∧(-1≤b.seq∧b.seq≤2147483647):=by
 unfold BatS.signed at h
 by_cases p:b.prod= -1
 · rw[if_pos p]at h;have:=of_decide_eq_true h
   omega
 rw[if_neg p]at h
 by_cases q:b.prod<0∨¬(0≤b.epoch∧b.epoch≤32767)
 · rw[if_pos q]at h;cases h
 rw[if_neg q]at h
 cases hc:b.ctl with
 |true=>
   rw[hc]at h;have h:decide (b.seq= -1)=true:=h;have:=of_decide_eq_true h
   omega
 |false=>
   rw[hc]at h;have h:decide (0≤b.seq∧b.seq≤2147483647)=true:=h;have:=of_decide_eq_true h
   omega
theorem attr_facts (a t c:Bool):(0≤attrN a t c 3∧attrN a t c 3≤63)∧bitAt (attrN a t c 3) 3=a∧bitAt (attrN a t c 3) 4=t∧bitAt (attrN a t c 3) 5=c∧((c=true→t=true)→chk (attrN a t c 3)=0):=by
 cases a<;>cases t<;>cases c<;>decide
theorem zq12 {p:Prop}(h:p:=by exact fits_of (by simp only;decide) (by simp only;decide) (by rw[h4];simp only;omega) (by rw[h4];simp only;omega)):p:=h
theorem zq17 {p:Prop}(h:p:=by exact fits_of (by simp only;decide) (by simp only;decide) (by rw[h8];simp only;omega) (by rw[h8];simp only;omega)):p:=h
theorem BatS.fitsAll {b:BatS}(h:batErr b=0) (hR:b.R) (s:Int) (hs:0≤s∧s≤4294967295) (hz:b.rowsB.length≤1000000) (hn:b.recs.length≤1000000):FitsAll (b.pre s).items:=by
 obtain⟨p1,p2,p3,p4⟩:=batErr_zero h;have q1:=of_decide_eq_true p1;obtain⟨q2,q3,q4⟩:=signed_rng p3;obtain⟨r1,r2,r3,r4,r5,r6,r7,r8⟩:=hR;unfold Rn at r1 r2 r3 r4 r5 r6 r7 r8;have qa:=(attr_facts b.app b.txn b.ctl).1;have h8:half 8=9223372036854775808:=by decide
 have h4:half 4=2147483648:=by decide
 have h2:half 2=32768:=by decide
 have h1:half 1=128:=by decide
 intro x hx;simp only[PreS.items,BatS.pre,List.mem_cons,List.not_mem_nil,or_false]at hx
 rcases hx with rfl|rfl|rfl|rfl|rfl|rfl|rfl|rfl|rfl|rfl|rfl|rfl|rfl
 · exact zq17
 · exact zq12
 · exact zq12
 · exact fits_of (by simp only;decide) (by simp only;decide) (by rw[h1];simp only;omega) (by rw[h1];simp only;omega)
 · exact sumItem_fits s (by omega) (by omega)
 · exact fits_of (by simp only;decide) (by simp only;decide) (by rw[h2];simp only;omega) (by rw[h2];simp only;omega)
 · exact zq12
 · exact zq17
 · exact zq17
 · exact zq17
 · exact fits_of (by simp only;decide) (by simp only;decide) (by rw[h2];simp only;omega) (by rw[h2];simp only;omega)
 · exact zq12
 · exact zq12
theorem BatS.pre_R {b:BatS}(h:batErr b=0) (hR:b.R) (s:Int) (hs:0≤s∧s≤4294967295) (hz:b.rowsB.length≤1000000) (hn:b.recs.length≤1000000):(b.pre s).R:=by
 have qa:=(attr_facts b.app b.txn b.ctl).1;obtain⟨r1,r2,r3,r4,r5,r6,r7,r8⟩:=hR;unfold Rn at r1 r2 r3 r4 r5 r6 r7 r8;intro n hn;simp only[PreS.list,BatS.pre,List.mem_cons,List.not_mem_nil,or_false]at hn
 rcases hn with rfl|rfl|rfl|rfl|rfl|rfl|rfl|rfl|rfl|rfl|rfl|rfl<;>omega
theorem unp_back:∀(rs:List RecS) (rows:Bs) (pos:Nat),pos≤rows.length→rows.drop pos=rs.flatMap encR→(∀x∈rs,x.R∧recOk x=0∧x.sum≤1000000)→unp rs.length ⟨rows,pos,0⟩=.ok rs
  |[],rows,pos,hp,hd,_=>by
    have hz:rows.length - pos=0:=by rw[←List.length_drop,hd];rfl
    show(if (⟨rows,pos,0⟩:InS).left=0 then Except.ok []else Except.error (10:Int))=Except.ok []
    rw[if_pos (by simp only[InS.left];exact hz)]
  |x::t,rows,pos,hp,hd,hx=>by
    obtain⟨hR,ho,hs⟩:=hx x (by simp);rw[List.flatMap_cons]at hd;have hr:=reRec_back x hR ho hs (t.flatMap encR);rw[←hd]at hr;obtain⟨hpm,hf⟩:=rds_rec.ok rows pos x _ hp hr;have hpos:=(reRec_one hr).2.2.2.2.1
    show(if (⟨rows,pos,0⟩:InS).left=0 then Except.error (10:Int)else if (⟨rows,pos,0⟩:InS).record.2.err=0 then consE (⟨rows,pos,0⟩:InS).record.1 (unp t.length (⟨rows,pos,0⟩:InS).record.2)else Except.error (⟨rows,pos,0⟩:InS).record.2.err)=Except.ok (x::t)
    rw[if_neg (by simp only[InS.left];omega),hf];simp only[if_true];rw[unp_back t rows _ hpm (by rw[←List.drop_drop,hd,List.drop_left]) (fun y hy=>hx y (by simp[hy]))]
    rfl
theorem asmB_back {b:BatS}(h:batErr b=0) (hf:∀x∈b.recs,x.R∧recOk x=0∧x.sum≤1000000):asmB (b.pre b.crc) (encInts (b.pre b.crc).items) b.rowsB=.ok b:=by
 obtain⟨_,p2,_,_⟩:=batErr_zero h;obtain⟨_,a3,a4,a5,a6⟩:=attr_facts b.app b.txn b.ctl;have hu:=unp_back b.recs b.rowsB 0 (Nat.zero_le _) rfl hf;unfold asmB;rw[b.pre_drop];have e1:((crcMore 0#32 (b.back++b.rowsB)).toNat:Int)=(b.pre b.crc).sum:=rfl;have e2:(b.pre b.crc).attr=attrN b.app b.txn b.ctl 3:=rfl;have e3:(b.pre b.crc).count.toNat=b.recs.length:=rfl;rw[if_neg (fun hh=>hh e1),e2,if_neg (fun hh=>hh (a6 p2)),e3,hu];simp only[a3,a4,a5];obtain⟨base,leader,app,txn,ctl,last,first,maxt,prod,epoch,sq,rs⟩:=b;exact if_pos h
theorem reBat_back {b:BatS}(h:batErr b=0) (hR:b.R) (hf:∀x∈b.recs,x.R∧recOk x=0∧x.sum≤1000000) (hz:b.rowsB.length≤1000000) (hn:b.recs.length≤1000000) (t:Bs):reBat (b.enc++t)=.ok (b,b.enc.length):=by
 have hc:=b.crc_lt;have hfa:=BatS.fitsAll h hR b.crc (by omega) hz hn;have hp:=rePre_enc (b.pre b.crc) hfa (show(49:Int)≤49+(b.rowsB.length:Int) by omega) (show(0:Int)≤(b.recs.length:Int) by omega) (b.rowsB++t);rw[←List.append_assoc]at hp;have hle:b.enc.length=61+b.rowsB.length:=by unfold BatS.enc;rw[List.length_append,items_len]
 have hl:((b.pre b.crc).len - 49).toNat=b.rowsB.length:=by show((49+(b.rowsB.length:Int)) - 49).toNat=_;omega
 unfold reBat;have hp2:rePre (b.enc++t)=.ok (b.pre b.crc):=hp;rw[hp2];simp only;rw[hl,if_neg (by rw[List.length_append,hle];omega)]
 have t1:(b.enc++t).take 61=encInts (b.pre b.crc).items:=by
  unfold BatS.enc;rw[List.append_assoc,List.take_left' (items_len _)]
 have t2:((b.enc++t).drop 61).take b.rowsB.length=b.rowsB:=by
  unfold BatS.enc;rw[List.append_assoc,List.drop_left' (items_len _),List.take_left]
 rw[t1,t2,asmB_back h hf];simp only;rw[hle]
def FitW (l:List (RecS×Value)):Prop:=∀x∈l,x.1.R∧x.1.hdrs.length≤9223372036854775807∧HFit x.1.hdrs∧x.1.key.data.length≤140737488351232∧x.1.val.data.length≤140737488351232
def hAll:List HdrS→Bool
  |[]=>true
  |h::t=>decide (h.key.length+h.val.data.length≤100) && hAll t
def smallRec (x:RecS):Bool:=decide (x.key.data.length+x.val.data.length≤100) && (decide (x.hdrs.length≤6) && hAll x.hdrs)
def rAll:List RecS→Bool
  |[]=>true
  |r::t=>smallRec r && rAll t
def smallB (l:List RecS):Bool:=decide (l.length≤12) && rAll l
theorem hAll_sum:∀(l:List HdrS),hAll l=true→hsum l≤101*l.length
  |[],_=>by simp[hsum]
  |h::t,hh=>by
    simp only[hAll,Bool.and_eq_true,decide_eq_true_eq]at hh;have:=hAll_sum t hh.2;simp only[hsum,List.length_cons,List.map_cons,List.sum_cons]at*
    omega
theorem rAll_mem:∀(l:List RecS),rAll l=true→∀x∈l,smallRec x=true
  |[],_,_,h=>by cases h
  |r::t,hh,x,hx=>by
    simp only[rAll,Bool.and_eq_true]at hh
    rcases List.mem_cons.1 hx with rfl|hx
    · exact hh.1
    · exact rAll_mem t hh.2 x hx
theorem smallRec_sum {x:RecS}(h:smallRec x=true):x.sum≤1000:=by
 unfold smallRec at h;simp only[Bool.and_eq_true,decide_eq_true_eq]at h;have:=hAll_sum _ h.2.2;unfold RecS.sum
 omega
theorem FitW.fit {l:List (RecS×Value)}(h:FitW l) (hs:smallB (l.map (·.1))=true):FitB l:=by
 intro x hx;unfold smallB at hs;simp only[Bool.and_eq_true]at hs;have h1:=smallRec_sum (rAll_mem _ hs.2 x.1 (List.mem_map.2 ⟨x,hx,rfl⟩));obtain⟨a,b,c,_⟩:=h x hx;exact⟨a,c,by omega⟩
theorem smallB_len {l:List (RecS×Value)}(hs:smallB (l.map (·.1))=true):l.length≤12:=by
 unfold smallB at hs;simp only[Bool.and_eq_true,decide_eq_true_eq,List.length_map]at hs;exact hs.1
end Go.Proofs.YteldcbljedeeiaaGreatDoor
