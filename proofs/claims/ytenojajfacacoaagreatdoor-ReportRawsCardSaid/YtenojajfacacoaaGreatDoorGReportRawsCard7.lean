/- A text. -/
import Derived.Test.YtenojajfacacoaaGreatDoorGReportRawsCard6
import Derived.Deep.DeepCutAuto
import Derived.Test.YtenojajfacacoaaGreatDoorGReportRawsCard5
import Derived.Test.YtenojajfacacoaaGreatDoorGReportRawsCard4
import Derived.Test.YtenojajfacacoaaGreatDoorGReportRawsCard2
import Derived.Lib.Bytealg
import Derived.Lib.Builder
import Derived.Lib.UnsafeStr
import Derived.Laws.Externs
import Derived.Shelf.RegionOpenPlain
/- A text. -/
namespace Go.Proofs.YtenojajfacacoaaGreatDoor
open Go.RowKit
set_option maxHeartbeats 1000000
set_option maxRecDepth 100000
theorem zGo(s t1:Bs)(u k:Nat)(hl1:0<s.length)(hz:s[0]=0)(q1:s.drop 1=t1)(hv1:zAH 1 10 0 0 t1=.ok (u,k))(hu:u<18446744073709551616)(hs:s.length≤1000000)(s2:Bs)(hk:1+k≤s.length)(q2:s.drop (1+k)=s2)(v m:Nat)(bt bo:Int)(hv2:zAH 15 5 0 0 s2=.ok (v,m))(hbt:zAN u=bt)(hbo:zAN v=bo)(hvv:v<18446744073709551616)(s3:Bs)(hm:m≤s2.length)(q3:s2.drop m=s3)(ho:0≤bo)(s4:Bs)(kb:BlobS)(ka:Nat)(hka:ka≤s3.length)(q4:s3.drop ka=s4)(hg1:zAd s3=.ok (kb,ka))(s5:Bs)(vb:BlobS)(va:Nat)(hva:va≤s4.length)(q5:s4.drop va=s5)(hg2:zAd s4=.ok (vb,va))(l:List HdrS)(ha:Nat)(hh:zAE s5=.ok (l,ha))(hne:ha=s5.length){W0 w:World}{K:Know}{L:List Res}(h:St W0 w K L):
  Calls Tryz.prog 127 #[.string (bb s)] w fun en w'=>∃v,en=.returned (.agg #[.int .i64 bt,.int .i64 bo,.bool kb.null,.string (bb kb.data),.bool vb.null,.string (bb vb.data),v,.int .i64 0,.int .i64 0])∧St W0 w' (K.and (Know.flat RHdr v 3 l)) L:=by
 have h0:=h.allocRaw #[.int .i64 0,.int .i64 0,.bool false,.string ⟨#[]⟩,.bool false,.string ⟨#[]⟩,.slice none 0 0,.int .i64 0,.int .i64 0] 146;obtain⟨wA,hwA⟩:∃b,w.heap.size=b:=⟨_,rfl⟩;rw[hwA]at h0;have H:=hQd h0;have h1:decide ((s.length:Int)<1)=false:=decide_eq_false (by omega);have hcn:((s[0].toNat:Int) !=0)=false:=by rw[hz];rfl
 have hb1:(1:Int)≤(s.length:Int):=by omega
 have HV1:=hQd hv1;have HU:=hQd hu;have hlt1:t1.length+1=s.length:=by rw[←q1,List.length_drop];omega
 have HS1:=hQd (show t1.length≤140737488355328 by omega);have Q1:=hQd (show List.take (s.length - 1) (List.tail s)=t1 by rw[←q1,List.drop_one];exact List.take_of_length_le (by simp));have k1:True:=trivial;have hb2:(1:Int)+k≤(s.length:Int):=by omega
 have hl2:s2.length+k+1=s.length:=by rw[←q2,List.length_drop];omega
 have HS2:=hQd (show s2.length≤140737488355328 by omega);have Q2:=hQd (show List.take (s.length - (1+k)) (List.drop (1+k) s)=s2 by rw[←q2];exact List.take_of_length_le (by simp));have HV2:=hQd hv2;have HBT:=hQd hbt;have HBO:=hQd hbo;have HW:=hQd hvv;have hdo:decide (bo<0)=false:=decide_eq_false (by omega);have hb3:(m:Int)≤(s2.length:Int):=by omega
 have hl3:s3.length+m=s2.length:=by rw[←q3,List.length_drop];omega
 have HS3:=hQd (show s3.length≤140737488355328 by omega);have Q3:=hQd (show List.take (s2.length - m) (List.drop m s2)=s3 by rw[←q3];exact List.take_of_length_le (by simp));have hb4:(ka:Int)≤(s3.length:Int):=by omega
 have hl4:s4.length+ka=s3.length:=by rw[←q4,List.length_drop];omega
 have HS4:=hQd (show s4.length≤140737488355328 by omega);have Q4:=hQd (show List.take (s3.length - ka) (List.drop ka s3)=s4 by rw[←q4];exact List.take_of_length_le (by simp));have HG1:=hQd (show gotV (zAd s3)=.agg #[.bool kb.null,.string (bb kb.data),.int .i64 ka,.int .i64 0] by rw[hg1];rfl);have hb5:(va:Int)≤(s4.length:Int):=by omega
 have hl5:s5.length+va=s4.length:=by rw[←q5,List.length_drop];omega
 have HS5:=hQd (show s5.length≤140737488355328 by omega);have Q5:=hQd (show List.take (s4.length - va) (List.drop va s4)=s5 by rw[←q5];exact List.take_of_length_le (by simp));have HG2:=hQd (show gotV (zAd s4)=.agg #[.bool vb.null,.string (bb vb.data),.int .i64 va,.int .i64 0] by rw[hg2];rfl);have HH:=hQd hh;have hnb:((ha:Int) !=(s5.length:Int))=false:=by rw[hne];simp
 clear hz hv1 hu q1 q2 hv2 hbt hbo hvv q3 q4 hg1 q5 hg2 hh hne h h0;go_enter Tryz.func127,Tryz.ntmps127
 go_upto_region 29 with (first
  |(go_at_call 152;have _t:=k1;clear _t;rw[Q1.out];(with_reducible refine(zBA t1 u k HV1.out HS1.out H.out).mono ?_);rintro e wn ⟨rfl,h⟩;replace H:=hQd h;clear h;clear k1;have k2:True:=trivial)
  |(go_at_call 152;have _t:=k2;clear _t;rw[Q2.out];(with_reducible refine(zCa s2 v m HV2.out HS2.out H.out).mono ?_);rintro e wn ⟨rfl,h⟩;replace H:=hQd h;clear h;clear k2;have k3:True:=trivial)
  |(go_at_call 154;have _t:=k3;clear _t;(with_reducible refine(zAT u bt HBT.out HU.out H.out).mono ?_);rintro e wn ⟨rfl,h⟩;replace H:=hQd h;clear h;clear k3;have k4:True:=trivial)
  |(go_at_call 154;have _t:=k4;clear _t;(with_reducible refine(zAT v bo HBO.out HW.out H.out).mono ?_);rintro e wn ⟨rfl,h⟩;obtain⟨wR,hwR⟩:∃b,wn.heap.size=b:=⟨_,rfl⟩;have h:=h.allocRaw #[.int .i64 bt,.int .i64 bo,.bool false,.string ⟨#[]⟩,.bool false,.string ⟨#[]⟩,.slice none 0 0] 54;rw[hwR]at h;replace H:=hQd h;clear h;clear k4;have k5:True:=trivial;obtain⟨rc0,rc1,rc2,rc3,rc4,rc5,rc6,rf0,rf1,rf2,rf3,rf4,rf5,rf6⟩:=raw7 (b:=wR) (H.out))
  |(go_at_call 125;have _t:=k5;clear _t;rw[Q3.out];(with_reducible refine(zAh s3 s3 _ rfl HS3.out HG1.out H.out).mono ?_);rintro e wn ⟨rfl,h⟩;obtain⟨wK,hwK⟩:∃b,wn.heap.size=b:=⟨_,rfl⟩;have h:=h.allocRaw #[.bool kb.null,.string (bb kb.data),.int .i64 ka,.int .i64 0] 176;rw[hwK]at h;replace H:=hQd h;clear h;clear k5;have k6:True:=trivial;obtain⟨q0,q1,q2,q3⟩:=zAs (b:=wK) (H.out))
  |(go_at_call 125;have _t:=k6;clear _t;rw[Q4.out];(with_reducible refine(zAh s4 s4 _ rfl HS4.out HG2.out H.out).mono ?_);rintro e wn ⟨rfl,h⟩;obtain⟨wV,hwV⟩:∃b,wn.heap.size=b:=⟨_,rfl⟩;have h:=h.allocRaw #[.bool vb.null,.string (bb vb.data),.int .i64 va,.int .i64 0] 176;rw[hwV]at h;replace H:=hQd h;clear h;clear k6;have k7:True:=trivial;obtain⟨p0,p1,p2,p3⟩:=zAs (b:=wV) (H.out);obtain⟨q0,q1,q2,q3⟩:=zAs (b:=wK) (H.out.p1))
  |(go_at_call 155;have _t:=k7;clear _t;rw[Q5.out];refine(zFz s5 l ha HH.out HS5.out H.out).mono ?_;rintro e wn ⟨vh,rfl,h⟩;obtain⟨qh,caph,hvh⟩:=zAu (Know.has_right (Know.has_refl _)) h;subst hvh;replace H:=hQd h;clear h;clear k7;have k8:True:=trivial;(first|(obtain⟨ac0,ac1,ac2,ac3,ac4,ac5,ac6,ac7,ac8,af0,af1,af2,af3,af4,af5,af6,af7,af8⟩:=raw9 (b:=wA) (H.out))|(obtain⟨ac0,ac1,ac2,ac3,ac4,ac5,ac6,ac7,ac8,af0,af1,af2,af3,af4,af5,af6,af7,af8⟩:=raw9 (b:=wA) (H.out.p1))|(obtain⟨ac0,ac1,ac2,ac3,ac4,ac5,ac6,ac7,ac8,af0,af1,af2,af3,af4,af5,af6,af7,af8⟩:=raw9 (b:=wA) (H.out.p2))|(obtain⟨ac0,ac1,ac2,ac3,ac4,ac5,ac6,ac7,ac8,af0,af1,af2,af3,af4,af5,af6,af7,af8⟩:=raw9 (b:=wA) (H.out.p3))|(obtain⟨ac0,ac1,ac2,ac3,ac4,ac5,ac6,ac7,ac8,af0,af1,af2,af3,af4,af5,af6,af7,af8⟩:=raw9 (b:=wA) (H.out.p4)));obtain⟨rc0,rc1,rc2,rc3,rc4,rc5,rc6,rf0,rf1,rf2,rf3,rf4,rf5,rf6⟩:=raw7 (b:=wR) (H.out.p2);obtain⟨p0,p1,p2,p3⟩:=zAs (b:=wV) (H.out);obtain⟨q0,q1,q2,q3⟩:=zAs (b:=wK) (H.out.p1))
  |(go_at_call 126;refine(zAL _ H.out).mono ?_;rintro e wn ⟨rfl,h⟩;replace H:=hQd h;clear h;(first|(obtain⟨ac0,ac1,ac2,ac3,ac4,ac5,ac6,ac7,ac8,af0,af1,af2,af3,af4,af5,af6,af7,af8⟩:=raw9 (b:=wA) (H.out))|(obtain⟨ac0,ac1,ac2,ac3,ac4,ac5,ac6,ac7,ac8,af0,af1,af2,af3,af4,af5,af6,af7,af8⟩:=raw9 (b:=wA) (H.out.p1))|(obtain⟨ac0,ac1,ac2,ac3,ac4,ac5,ac6,ac7,ac8,af0,af1,af2,af3,af4,af5,af6,af7,af8⟩:=raw9 (b:=wA) (H.out.p2))|(obtain⟨ac0,ac1,ac2,ac3,ac4,ac5,ac6,ac7,ac8,af0,af1,af2,af3,af4,af5,af6,af7,af8⟩:=raw9 (b:=wA) (H.out.p3))|(obtain⟨ac0,ac1,ac2,ac3,ac4,ac5,ac6,ac7,ac8,af0,af1,af2,af3,af4,af5,af6,af7,af8⟩:=raw9 (b:=wA) (H.out.p4)))))
 go_cut [2,9,10,11,12] (fun s2 s9 s10 s11 s12 wx=>s2=.pointer (some ⟨wA,0,none⟩)∧s9=.pointer (some ⟨wR,0,none⟩)∧s10=.pointer (some ⟨wK,0,none⟩)∧s11=.pointer (some ⟨wV,0,none⟩)∧s12=.slice qh l.length caph∧St W0 wx (K.and (Know.flat RHdr (.slice qh l.length caph) 3 l)) (.raw wV #[.bool vb.null,.string (bb vb.data),.int .i64 va,.int .i64 0] 176::.raw wK #[.bool kb.null,.string (bb kb.data),.int .i64 ka,.int .i64 0] 176::.raw wR #[.int .i64 bt,.int .i64 bo,.bool kb.null,.string (bb kb.data),.bool false,.string ⟨#[]⟩,.slice none 0 0] 54::.raw wA #[.int .i64 0,.int .i64 0,.bool false,.string ⟨#[]⟩,.bool false,.string ⟨#[]⟩,.slice none 0 0,.int .i64 0,.int .i64 0] 146::L))
 case first=>
  obtain⟨ac0,ac1,ac2,ac3,ac4,ac5,ac6,ac7,ac8,af0,af1,af2,af3,af4,af5,af6,af7,af8⟩:=raw9 (b:=wA) (H.out.p3);obtain⟨rc0,rc1,rc2,rc3,rc4,rc5,rc6,rf0,rf1,rf2,rf3,rf4,rf5,rf6⟩:=raw7 (b:=wR) (H.out.p2);obtain⟨p0,p1,p2,p3⟩:=zAs (b:=wV) (H.out);obtain⟨q0,q1,q2,q3⟩:=zAs (b:=wK) (H.out.p1);have n1:¬(wV=wR):=H.out.p1.drop.raw_ne;have n2:¬(wK=wR):=H.out.drop.raw_ne;have n3:¬(wR=wA):=H.out.drop.drop.raw_ne;have m1:¬(wR=wV):=fun e=>n1 e.symm;have m2:¬(wR=wK):=fun e=>n2 e.symm;have m3:¬(wA=wR):=fun e=>n3 e.symm
  go_wp2_with fail;go_meet;exact⟨rfl,rfl,rfl,rfl,rfl,((H.out.p2.rawSet 2 _).rawSet 3 _).p2.p2⟩
 case rest=>
 obtain⟨rfl,rfl,rfl,rfl,rfl,hst⟩:=hcut;clear H;have H:=hQd hst;clear hst;go_upto_region 30 with (fail);go_cut [2,9,10,11,12] (fun s2 s9 s10 s11 s12 wx=>s2=.pointer (some ⟨wA,0,none⟩)∧s9=.pointer (some ⟨wR,0,none⟩)∧s10=.pointer (some ⟨wK,0,none⟩)∧s11=.pointer (some ⟨wV,0,none⟩)∧s12=.slice qh l.length caph∧St W0 wx (K.and (Know.flat RHdr (.slice qh l.length caph) 3 l)) (.raw wV #[.bool vb.null,.string (bb vb.data),.int .i64 va,.int .i64 0] 176::.raw wK #[.bool kb.null,.string (bb kb.data),.int .i64 ka,.int .i64 0] 176::.raw wR #[.int .i64 bt,.int .i64 bo,.bool kb.null,.string (bb kb.data),.bool vb.null,.string (bb vb.data),.slice none 0 0] 54::.raw wA #[.int .i64 0,.int .i64 0,.bool false,.string ⟨#[]⟩,.bool false,.string ⟨#[]⟩,.slice none 0 0,.int .i64 0,.int .i64 0] 146::L))
 case first=>
  obtain⟨ac0,ac1,ac2,ac3,ac4,ac5,ac6,ac7,ac8,af0,af1,af2,af3,af4,af5,af6,af7,af8⟩:=raw9 (b:=wA) (H.out.p3);obtain⟨rc0,rc1,rc2,rc3,rc4,rc5,rc6,rf0,rf1,rf2,rf3,rf4,rf5,rf6⟩:=raw7 (b:=wR) (H.out.p2);obtain⟨p0,p1,p2,p3⟩:=zAs (b:=wV) (H.out);obtain⟨q0,q1,q2,q3⟩:=zAs (b:=wK) (H.out.p1);have n1:¬(wV=wR):=H.out.p1.drop.raw_ne;have n2:¬(wK=wR):=H.out.drop.raw_ne;have n3:¬(wR=wA):=H.out.drop.drop.raw_ne;have m1:¬(wR=wV):=fun e=>n1 e.symm;have m2:¬(wR=wK):=fun e=>n2 e.symm;have m3:¬(wA=wR):=fun e=>n3 e.symm
  go_wp2_with fail;go_meet;exact⟨rfl,rfl,rfl,rfl,rfl,((H.out.p2.rawSet 4 _).rawSet 5 _).p2.p2⟩
 case rest=>
 obtain⟨rfl,rfl,rfl,rfl,rfl,hst⟩:=hcut;clear H;have H:=hQd hst;clear hst;go_upto_region 31 with (fail);go_cut [2,9,10,11,12] (fun s2 s9 s10 s11 s12 wx=>s2=.pointer (some ⟨wA,0,none⟩)∧s9=.pointer (some ⟨wR,0,none⟩)∧s10=.pointer (some ⟨wK,0,none⟩)∧s11=.pointer (some ⟨wV,0,none⟩)∧s12=.slice qh l.length caph∧St W0 wx (K.and (Know.flat RHdr (.slice qh l.length caph) 3 l)) (.raw wV #[.bool vb.null,.string (bb vb.data),.int .i64 va,.int .i64 0] 176::.raw wK #[.bool kb.null,.string (bb kb.data),.int .i64 ka,.int .i64 0] 176::.raw wR #[.int .i64 bt,.int .i64 bo,.bool kb.null,.string (bb kb.data),.bool vb.null,.string (bb vb.data),.slice qh l.length caph] 54::.raw wA #[.int .i64 0,.int .i64 0,.bool false,.string ⟨#[]⟩,.bool false,.string ⟨#[]⟩,.slice none 0 0,.int .i64 0,.int .i64 0] 146::L))
 case first=>
  obtain⟨ac0,ac1,ac2,ac3,ac4,ac5,ac6,ac7,ac8,af0,af1,af2,af3,af4,af5,af6,af7,af8⟩:=raw9 (b:=wA) (H.out.p3);obtain⟨rc0,rc1,rc2,rc3,rc4,rc5,rc6,rf0,rf1,rf2,rf3,rf4,rf5,rf6⟩:=raw7 (b:=wR) (H.out.p2);obtain⟨p0,p1,p2,p3⟩:=zAs (b:=wV) (H.out);obtain⟨q0,q1,q2,q3⟩:=zAs (b:=wK) (H.out.p1);have n1:¬(wV=wR):=H.out.p1.drop.raw_ne;have n2:¬(wK=wR):=H.out.drop.raw_ne;have n3:¬(wR=wA):=H.out.drop.drop.raw_ne;have m1:¬(wR=wV):=fun e=>n1 e.symm;have m2:¬(wR=wK):=fun e=>n2 e.symm;have m3:¬(wA=wR):=fun e=>n3 e.symm
  go_wp2_with fail;go_meet;exact⟨rfl,rfl,rfl,rfl,rfl,(H.out.p2.rawSet 6 _).p2.p2⟩
 case rest=>
 obtain⟨rfl,rfl,rfl,rfl,rfl,hst⟩:=hcut;clear H;have H:=hQd hst;clear hst;obtain⟨ac0,ac1,ac2,ac3,ac4,ac5,ac6,ac7,ac8,af0,af1,af2,af3,af4,af5,af6,af7,af8⟩:=raw9 (b:=wA) (H.out.p3);obtain⟨rc0,rc1,rc2,rc3,rc4,rc5,rc6,rf0,rf1,rf2,rf3,rf4,rf5,rf6⟩:=raw7 (b:=wR) (H.out.p2);obtain⟨p0,p1,p2,p3⟩:=zAs (b:=wV) (H.out);obtain⟨q0,q1,q2,q3⟩:=zAs (b:=wK) (H.out.p1);have n1:¬(wV=wR):=H.out.p1.drop.raw_ne;have n2:¬(wK=wR):=H.out.drop.raw_ne;have n3:¬(wR=wA):=H.out.drop.drop.raw_ne;have m1:¬(wR=wV):=fun e=>n1 e.symm;have m2:¬(wR=wK):=fun e=>n2 e.symm;have m3:¬(wA=wR):=fun e=>n3 e.symm
 go_wp2_with fail;refine bodyPost_ret (v:=.agg #[.int .i64 bt,.int .i64 bo,.bool kb.null,.string (bb kb.data),.bool vb.null,.string (bb vb.data),.slice qh l.length caph,.int .i64 0,.int .i64 0]) zq32 rfl ⟨.slice qh l.length caph,rfl,(((((((((H.out.p3.rawSet 0 _).rawSet 1 _).rawSet 2 _).rawSet 3 _).rawSet 4 _).rawSet 5 _).rawSet 6 _).rawSet 7 _).rawSet 8 _).drop.drop.drop.drop⟩
theorem zPw{s:Bs}{a:Int}(h0:zAG 1 s=.ok (a,1))(ha:a≠0):zAz s=.error 8:=by unfold zAz;rw[h0];simp only;rw[if_neg ha]
theorem zPu{s:Bs}{e:Int}(h0:zAG 1 s=.ok (0,1))(h1:zBR (s.drop 1)=.error e):zAz s=.error e:=by unfold zAz;rw[h0];simp only[if_true];rw[h1]
theorem ri_off{s:Bs}{e t:Int}{k:Nat}(h0:zAG 1 s=.ok (0,1))(h1:zBR (s.drop 1)=.ok (t,k))(h2:zA4 (s.drop (1+k))=.error e):zAz s=.error e:=by
 unfold zAz;rw[h0];simp only[if_true];rw[h1];simp only;rw[h2]
theorem ri_neg{s:Bs}{t o:Int}{k m:Nat}(h0:zAG 1 s=.ok (0,1))(h1:zBR (s.drop 1)=.ok (t,k))(h2:zA4 (s.drop (1+k))=.ok (o,m))(ho:o<0):zAz s=.error 11:=by
 unfold zAz;rw[h0];simp only[if_true];rw[h1];simp only;rw[h2];simp only;rw[if_pos ho]
theorem zPv{s:Bs}{t o:Int}{k m:Nat}(h0:zAG 1 s=.ok (0,1))(h1:zBR (s.drop 1)=.ok (t,k))(h2:zA4 (s.drop (1+k))=.ok (o,m))(ho:¬o<0):zAz s=
    match zAd (s.drop (1+k+m))with
          | .error e=> .error e
          | .ok kk=>match zAd (s.drop (1+k+m+kk.2))with
            | .error e=> .error e
            | .ok v=>match zAE (s.drop (1+k+m+kk.2+v.2))with
              | .error e=> .error e
              | .ok h=>if 1+k+m+kk.2+v.2+h.2=s.length then .ok ⟨t,o,kk.1,v.1,h.1⟩else .error 2:=by
  unfold zAz;rw[h0];simp only[if_true];rw[h1];simp only;rw[h2];simp only;rw[if_neg ho]
  rfl
def zQh (r:Except Int RecS) (K:Know) (W0:World) (L:List Res) (en:Ending) (w':World):Prop:=match r with
  | .ok x=>∃v,en=.returned (.agg #[.int .i64 x.time,.int .i64 x.off,.bool x.key.null,.string (bb x.key.data),.bool x.val.null,.string (bb x.val.data),v,.int .i64 0,.int .i64 0])∧St W0 w' (K.and (Know.flat RHdr v 3 x.hdrs)) L
  | .error e=>en=.returned (.agg #[.int .i64 0,.int .i64 0,.bool false,.string ⟨#[]⟩,.bool false,.string ⟨#[]⟩,.slice none 0 0,.int .i64 0,.int .i64 e])∧St W0 w' K L
theorem zKt{top most:Nat}{l:Bs}{u k:Nat}(ht:top<128)(hm:top=1∧most=10∨top=15∧most=5)(h:zAH top most 0 0 l=.ok (u,k)):u<18446744073709551616:=by
 rcases hm with ⟨rfl,rfl⟩|⟨rfl,rfl⟩
 · have h1:zBR l=.ok (zAN u,k):=by unfold zBR;rw[h]
   obtain⟨_,_,_,g4,g5⟩:=zH3 h1;unfold zAN at g4 g5
   omega
 · have h1:zA4 l=.ok (zAN u,k):=by unfold zA4;rw[h]
   obtain⟨_,_,_,g4,g5⟩:=zCg h1;unfold zAN at g4 g5
   omega
theorem zKs{top most:Nat}{l:Bs}{e:Int}(h:zAH top most 0 0 l=.error e):(e !=0)=true:=bne_iff_ne.2 (zC2 top most 0 0 l 0 e (Nat.zero_le _) (by rw[List.drop_zero];exact h)).1
theorem zMD{l:Bs}{e:Int}(h:zAE l=.error e):(e !=0)=true:=bne_iff_ne.2 (zCZ.err l 0 e (Nat.zero_le _) (by rw[List.drop_zero];exact h)).1
theorem zFy(s:Bs)(hs:s.length≤1000000){W0 w:World}{K:Know}{L:List Res}(h:St W0 w K L):
  Calls Tryz.prog 127 #[.string (bb s)] w (zQh (zAz s) K W0 L):=by
 cases s with
 |nil=>exact(zEN h).mono fun en w' hh=>hh
 |cons c t=>
  have hl1:0<(c::t).length:=by simp
  have hlen:(c::t).length=t.length+1:=rfl
  have h0:zAG 1 (c::t)=.ok (zDg c,1):=by
    unfold zAG;rw[if_neg (by simp)]
    rfl
  have hlt:t.length≤1000000:=by omega
  by_cases hc:c=0
  · subst hc;have h0:zAG 1 (0::t)=.ok (0,1):=h0;obtain⟨s,hsd⟩:∃s:Bs,s=0::t:=⟨_,rfl⟩
    cases hv1:zAH 1 10 0 0 t with
    |error e=>
     have hr:=zPu h0 (show zBR ((0::t:Bs).drop 1)=.error e by unfold zBR;show(match zAH 1 10 0 0 t with| .ok x=>_| .error e=>_)=_;rw[hv1]);rw[hr];exact zEM t e hv1 (zKs hv1) (by omega) h
    |ok x1=>
     obtain⟨u,k⟩:=x1;have g1:zBR ((0::t:Bs).drop 1)=.ok (zAN u,k):=by unfold zBR;show(match zAH 1 10 0 0 t with| .ok x=>_| .error e=>_)=_;rw[hv1]
     obtain⟨_,_,hk0⟩:=zBJ (by decide) hv1;have hu:=zKt (by decide) (.inl ⟨rfl,rfl⟩) hv1;have hk:1+k≤(0::t:Bs).length:=by simp only[List.length_cons];omega
     obtain⟨s2,q2⟩:∃s2,(0::t:Bs).drop (1+k)=s2:=⟨_,rfl⟩
     cases hv2:zAH 15 5 0 0 s2 with
     |error e=>
      rw[ri_off h0 g1 (show zA4 ((0::t:Bs).drop (1+k))=.error e by rw[q2];unfold zA4;rw[hv2])];exact zFu (0::t) t u k hl1 rfl rfl hv1 hu hs s2 hk q2 e hv2 (zKs hv2) h
     |ok x2=>
      obtain⟨v,m⟩:=x2;have g2:zA4 ((0::t:Bs).drop (1+k))=.ok (zAN v,m):=by rw[q2];unfold zA4;rw[hv2]
      obtain⟨_,_,hm⟩:=zBJ (by decide) hv2;have hvv:=zKt (by decide) (.inr ⟨rfl,rfl⟩) hv2
      by_cases ho:zAN v<0
      · rw[ri_neg h0 g1 g2 ho];exact zFv (0::t) t u k hl1 rfl rfl hv1 hu hs s2 hk q2 v m _ _ hv2 rfl rfl hvv ho h
      rw[zPv h0 g1 g2 ho];have ho:0≤zAN v:=by omega
      obtain⟨s3,q3⟩:∃s3,s2.drop m=s3:=⟨_,rfl⟩;have e3:(0::t:Bs).drop (1+k+m)=s3:=by rw[←q3,←q2,List.drop_drop]
      rw[e3]
      cases hg1:zAd s3 with
      |error e=>exact zFw (0::t) t u k hl1 rfl rfl hv1 hu hs s2 hk q2 v m _ _ hv2 rfl rfl hvv s3 hm q3 ho e hg1 (bne_iff_ne.2 (zB4 hg1)) h
      |ok x3=>
        obtain⟨kb,ka⟩:=x3;obtain⟨_,_,hka,_⟩:=zAF hg1;obtain⟨s4,q4⟩:∃s4,s3.drop ka=s4:=⟨_,rfl⟩;have e4:(0::t:Bs).drop (1+k+m+ka)=s4:=by rw[←q4,←e3,List.drop_drop]
        simp only;rw[e4]
        cases hg2:zAd s4 with
        |error e=>exact zFt (0::t) t u k hl1 rfl rfl hv1 hu hs s2 hk q2 v m _ _ hv2 rfl rfl hvv s3 hm q3 ho s4 kb ka hka q4 hg1 e hg2 (bne_iff_ne.2 (zB4 hg2)) h
        |ok x4=>
         obtain⟨vb,va⟩:=x4;obtain⟨_,_,hva,_⟩:=zAF hg2;obtain⟨s5,q5⟩:∃s5,s4.drop va=s5:=⟨_,rfl⟩;have e5:(0::t:Bs).drop (1+k+m+ka+va)=s5:=by rw[←q5,←e4,List.drop_drop]
         simp only;rw[e5]
         cases hh:zAE s5 with
         |error e=>exact zFx (0::t) t u k hl1 rfl rfl hv1 hu hs s2 hk q2 v m _ _ hv2 rfl rfl hvv s3 hm q3 ho s4 kb ka hka q4 hg1 s5 vb va hva q5 hg2 e hh (zMD hh) h
         |ok x5=>
          obtain⟨l,ha⟩:=x5;obtain⟨_,_,hla,_⟩:=zGK hh;simp only;have l2:s2.length+k+1=(0::t:Bs).length:=by rw[←q2,List.length_drop];omega
          have l3:s3.length+m=s2.length:=by rw[←q3,List.length_drop];omega
          have l4:s4.length+ka=s3.length:=by rw[←q4,List.length_drop];omega
          have l5:s5.length+va=s4.length:=by rw[←q5,List.length_drop];omega
          by_cases hfin:1+k+m+ka+va+ha=(0::t:Bs).length
          · rw[if_pos hfin];exact zGo (0::t) t u k hl1 rfl rfl hv1 hu hs s2 hk q2 v m _ _ hv2 rfl rfl hvv s3 hm q3 ho s4 kb ka hka q4 hg1 s5 vb va hva q5 hg2 l ha hh (by omega) h
          · rw[if_neg hfin];exact zEO (0::t) t u k hl1 rfl rfl hv1 hu hs s2 hk q2 v m _ _ hv2 rfl rfl hvv s3 hm q3 ho s4 kb ka hka q4 hg1 s5 vb va hva q5 hg2 l ha hh (by omega) hla h
  · rw[zPw h0 (by
     have hn:=c.toNat_lt;have hc2:c.toNat≠0:=fun hh=>hc (UInt8.toNat_inj.1 hh)
     unfold zDg
     split<;>omega)]
    exact zEP c t hc (by omega) h
variable {W0 w:World}{K:Know}{L:List Res}
theorem zIq(s:Bs)(x:RecS)(hi:zAz s=.ok x)(hs:s.length≤1000000)(h:St W0 w K L):
  Calls Tryz.prog 127 #[.string (bb s)] w fun en w'=>∃v,en=.returned (.agg #[.int .i64 x.time,.int .i64 x.off,.bool x.key.null,.string (bb x.key.data),.bool x.val.null,.string (bb x.val.data),v,.int .i64 0,.int .i64 0])∧St W0 w' (K.and (Know.flat RHdr v 3 x.hdrs)) L:=
 (zFy s hs h).mono fun en w' hh=>by unfold zQh at hh;rw[hi]at hh;exact hh
theorem zIr(s:Bs)(e:Int)(hi:zAz s=.error e)(hs:s.length≤1000000)(h:St W0 w K L):
  Calls Tryz.prog 127 #[.string (bb s)] w fun en w'=>en=.returned (.agg #[.int .i64 0,.int .i64 0,.bool false,.string ⟨#[]⟩,.bool false,.string ⟨#[]⟩,.slice none 0 0,.int .i64 0,.int .i64 e])∧St W0 w' K L:=
 (zFy s hs h).mono fun en w' hh=>by unfold zQh at hh;rw[hi]at hh;exact hh
theorem zHk(s d:Bs)(m:Nat)(x:RecS)(hr:zAd s=.ok (⟨false,d⟩,m))(hi:zAz d=.ok x)(hd:d.length≤1000000)(hs:s.length≤140737488355328)(h:St W0 w K L):
  Calls Tryz.prog 97 #[.string (bb s)] w fun en w'=>∃v,en=.returned (.agg #[.int .i64 x.time,.int .i64 x.off,.bool x.key.null,.string (bb x.key.data),.bool x.val.null,.string (bb x.val.data),v,.int .i64 m,.int .i64 0])∧St W0 w' (K.and (Know.flat RHdr v 3 x.hdrs)) L:=by
 have h0:=h.allocRaw #[.int .i64 0,.int .i64 0,.bool false,.string ⟨#[]⟩,.bool false,.string ⟨#[]⟩,.slice none 0 0,.int .i64 0,.int .i64 0] 146;obtain⟨wA,hwA⟩:∃b,w.heap.size=b:=⟨_,rfl⟩;rw[hwA]at h0;have H:=hQd h0;have HS:=hQd hs;have HD:=hQd hd;have HI:=hQd hi;have HG:=hQd (show gotV (zAd s)=.agg #[.bool false,.string (bb d),.int .i64 m,.int .i64 0] by rw[hr];rfl);clear h h0 hs hr hd hi;go_enter Tryz.func97,Tryz.ntmps97
 go_wp2_with (first
  |(go_at_call 125;refine(zAh s s _ rfl HS.out HG.out H.out).mono ?_;rintro e wn ⟨rfl,h⟩;obtain⟨wB,hwB⟩:∃b,wn.heap.size=b:=⟨_,rfl⟩;have h:=h.allocRaw #[.bool false,.string (bb d),.int .i64 m,.int .i64 0] 176;rw[hwB]at h;replace H:=hQd h;clear h;obtain⟨q0,q1,q2,q3⟩:=zAs (b:=wB) (H.out))
  |(go_at_call 127;refine(zIq d x HI.out HD.out H.out).mono ?_;rintro e wn ⟨vh,rfl,h⟩;obtain⟨qh,caph,hvh⟩:=zAu (Know.has_right (Know.has_refl _)) h;subst hvh;have h2:=h.allocRaw #[.int .i64 x.time,.int .i64 x.off,.bool x.key.null,.string (bb x.key.data),.bool x.val.null,.string (bb x.val.data),(.slice qh x.hdrs.length caph),.int .i64 m,.int .i64 0] 146;obtain⟨wX,hwX⟩:∃b,wn.heap.size=b:=⟨_,rfl⟩;have h:=h.allocRaw #[.int .i64 x.time,.int .i64 x.off,.bool x.key.null,.string (bb x.key.data),.bool x.val.null,.string (bb x.val.data),(.slice qh x.hdrs.length caph),.int .i64 0,.int .i64 0] 146;rw[hwX]at h;replace H:=hQd h;clear h;rw[hwX]at h2;have H2:=hQd h2;clear h2;obtain⟨xc0,xc1,xc2,xc3,xc4,xc5,xc6,xc7,xc8,xf0,xf1,xf2,xf3,xf4,xf5,xf6,xf7,xf8⟩:=raw9 (b:=wX) (H.out);obtain⟨ac0,ac1,ac2,ac3,ac4,ac5,ac6,ac7,ac8,af0,af1,af2,af3,af4,af5,af6,af7,af8⟩:=raw9 (b:=wA) (H2.out.p2);obtain⟨q0,q1,q2,q3⟩:=zAs (b:=wB) (H.out.p1);have n1:¬(wX=wA):=H.out.p1.drop.raw_ne;have m1:¬(wA=wX):=fun e=>n1 e.symm;have n2:¬(wX=wB):=H.out.raw_ne;have m2:¬(wB=wX):=fun e=>n2 e.symm))
 refine bodyPost_ret (v:=.agg #[.int .i64 x.time,.int .i64 x.off,.bool x.key.null,.string (bb x.key.data),.bool x.val.null,.string (bb x.val.data),(.slice qh x.hdrs.length caph),.int .i64 m,.int .i64 0]) zq36 rfl ⟨.slice qh x.hdrs.length caph,rfl,((((((((((H2.out.p2).rawSet 0 _).rawSet 1 _).rawSet 2 _).rawSet 3 _).rawSet 4 _).rawSet 5 _).rawSet 6 _).rawSet 7 _).rawSet 8 _).drop.drop.drop⟩
theorem zHl(s d:Bs)(m:Nat)(e:Int)(hr:zAd s=.ok (⟨false,d⟩,m))(hi:zAz d=.error e)(hd:d.length≤1000000)(hs:s.length≤140737488355328)(h:St W0 w K L):
  Calls Tryz.prog 97 #[.string (bb s)] w fun en w'=>en=.returned (.agg #[.int .i64 0,.int .i64 0,.bool false,.string ⟨#[]⟩,.bool false,.string ⟨#[]⟩,.slice none 0 0,.int .i64 m,.int .i64 e])∧St W0 w' K L:=by
 have h0:=h.allocRaw #[.int .i64 0,.int .i64 0,.bool false,.string ⟨#[]⟩,.bool false,.string ⟨#[]⟩,.slice none 0 0,.int .i64 0,.int .i64 0] 146;obtain⟨wA,hwA⟩:∃b,w.heap.size=b:=⟨_,rfl⟩;rw[hwA]at h0;have H:=hQd h0;have HS:=hQd hs;have HD:=hQd hd;have HI:=hQd hi;have HG:=hQd (show gotV (zAd s)=.agg #[.bool false,.string (bb d),.int .i64 m,.int .i64 0] by rw[hr];rfl);clear h h0 hs hr hd hi;go_enter Tryz.func97,Tryz.ntmps97
 go_wp2_with (first
  |(go_at_call 125;refine(zAh s s _ rfl HS.out HG.out H.out).mono ?_;rintro e wn ⟨rfl,h⟩;obtain⟨wB,hwB⟩:∃b,wn.heap.size=b:=⟨_,rfl⟩;have h:=h.allocRaw #[.bool false,.string (bb d),.int .i64 m,.int .i64 0] 176;rw[hwB]at h;replace H:=hQd h;clear h;obtain⟨q0,q1,q2,q3⟩:=zAs (b:=wB) (H.out))
  |(go_at_call 127;refine(zIr d e HI.out HD.out H.out).mono ?_;rintro e wn ⟨rfl,h⟩;have h2:=h.allocRaw #[.int .i64 0,.int .i64 0,.bool false,.string ⟨#[]⟩,.bool false,.string ⟨#[]⟩,.slice none 0 0,.int .i64 m,.int .i64 e] 146;obtain⟨wX,hwX⟩:∃b,wn.heap.size=b:=⟨_,rfl⟩;have h:=h.allocRaw #[.int .i64 0,.int .i64 0,.bool false,.string ⟨#[]⟩,.bool false,.string ⟨#[]⟩,.slice none 0 0,.int .i64 0,.int .i64 e] 146;rw[hwX]at h;replace H:=hQd h;clear h;rw[hwX]at h2;have H2:=hQd h2;clear h2;obtain⟨xc0,xc1,xc2,xc3,xc4,xc5,xc6,xc7,xc8,xf0,xf1,xf2,xf3,xf4,xf5,xf6,xf7,xf8⟩:=raw9 (b:=wX) (H.out);obtain⟨ac0,ac1,ac2,ac3,ac4,ac5,ac6,ac7,ac8,af0,af1,af2,af3,af4,af5,af6,af7,af8⟩:=raw9 (b:=wA) (H2.out.p2);obtain⟨q0,q1,q2,q3⟩:=zAs (b:=wB) (H.out.p1);have n1:¬(wX=wA):=H.out.p1.drop.raw_ne;have m1:¬(wA=wX):=fun e=>n1 e.symm;have n2:¬(wX=wB):=H.out.raw_ne;have m2:¬(wB=wX):=fun e=>n2 e.symm))
 refine bodyPost_ret (v:=.agg #[.int .i64 0,.int .i64 0,.bool false,.string ⟨#[]⟩,.bool false,.string ⟨#[]⟩,.slice none 0 0,.int .i64 m,.int .i64 e]) zq36 rfl ⟨rfl,((((((((((H2.out.p2).rawSet 0 _).rawSet 1 _).rawSet 2 _).rawSet 3 _).rawSet 4 _).rawSet 5 _).rawSet 6 _).rawSet 7 _).rawSet 8 _).drop.drop.drop⟩
def zQg (r:Except Int (RecS×Nat)) (K:Know) (W0:World) (L:List Res) (en:Ending) (w':World):Prop:=match r with
  | .ok x=>∃v,en=.returned (.agg #[.int .i64 x.1.time,.int .i64 x.1.off,.bool x.1.key.null,.string (bb x.1.key.data),.bool x.1.val.null,.string (bb x.1.val.data),v,.int .i64 x.2,.int .i64 0])∧St W0 w' (K.and (Know.flat RHdr v 3 x.1.hdrs)) L
  | .error e=>∃m:Int,en=.returned (.agg #[.int .i64 0,.int .i64 0,.bool false,.string ⟨#[]⟩,.bool false,.string ⟨#[]⟩,.slice none 0 0,.int .i64 m,.int .i64 e])∧St W0 w' K L
theorem zGH(s:Bs)(hs:s.length≤1000000)(h:St W0 w K L):
  Calls Tryz.prog 97 #[.string (bb s)] w (zQg (zBU s) K W0 L):=by
 unfold zBU
 cases hr:zAd s with
 |error e=>exact(zGn s e hr (bne_iff_ne.2 (zB4 hr)) (by omega) h).mono fun en w' hh=>⟨0,hh⟩
 |ok x=>
  obtain⟨⟨n,d⟩,m⟩:=x;simp only;obtain⟨_,_,g3,_,_,g5⟩:=zAF hr
  cases n with
  |true=>exact(zFs s d m hr (by omega) h).mono fun en w' hh=>⟨0,hh⟩
  |false=>
   have hd:d.length≤1000000:=by simp at g5;omega
   simp only[Bool.false_eq_true,if_false]
   cases hi:zAz d with
   |error e=>exact(zHl s d m e hr hi hd (by omega) h).mono fun en w' hh=>⟨m,hh⟩
   |ok x=>exact(zHk s d m x hr hi hd (by omega) h).mono fun en w' hh=>hh
theorem glue{l a:Bs}{n m:Nat}(h:a=(l.drop n).take m):a++l.drop (n+m)=l.drop n:=by
 rw[h,←List.drop_drop,List.take_append_drop]
theorem zJM{s:Bs}{x:RecS}(h:zAz s=.ok x):recF x=s∧zAZ x=0∧x.R∧x.sum≤s.length:=by
 unfold zAz at h
 cases h0:zAG 1 s with
 |error e=>rw[h0]at h;cases h
 |ok a=>
  rw[h0]at h;simp only at h
  by_cases ha:a.1=0
  · rw[if_pos ha]at h
    obtain⟨c,t,rfl⟩:∃c t,s=c::t:=by
     cases s with
     |nil=>cases h0
     |cons c t=>exact⟨c,t,rfl⟩
    have hc:c=0:=by
     have:(.ok (zDg c,1):Except Int (Int×Nat))=.ok a:=by rw[←h0];unfold zAG;rw[if_neg (by simp)];rfl
     cases this
     have hn:=c.toNat_lt;have h2:zDg c=0:=ha;unfold zDg at h2;exact UInt8.toNat_inj.1 (show c.toNat=0 by split at h2<;>omega)
    subst hc
    cases h1:zBR ((0::t:Bs).drop 1)with
    |error e=>rw[h1]at h;cases h
    |ok x1=>
     obtain⟨tm,k⟩:=x1;rw[h1]at h;simp only at h
     cases h2:zA4 ((0::t:Bs).drop (1+k))with
     |error e=>rw[h2]at h;cases h
     |ok x2=>
      obtain⟨o,m⟩:=x2;rw[h2]at h;simp only at h
      by_cases ho:o<0
      · rw[if_pos ho]at h;cases h
      rw[if_neg ho]at h
      cases h3:zAd ((0::t:Bs).drop (1+k+m))with
      |error e=>rw[h3]at h;cases h
      |ok x3=>
       obtain⟨kb,ka⟩:=x3;rw[h3]at h;simp only at h
       cases h4:zAd ((0::t:Bs).drop (1+k+m+ka))with
       |error e=>rw[h4]at h;cases h
       |ok x4=>
        obtain⟨vb,va⟩:=x4;rw[h4]at h;simp only at h
        cases h5:zAE ((0::t:Bs).drop (1+k+m+ka+va))with
        |error e=>rw[h5]at h;cases h
        |ok x5=>
         obtain⟨l,ha5⟩:=x5;rw[h5]at h;simp only at h
         by_cases hf:1+k+m+ka+va+ha5=(0::t:Bs).length
         · rw[if_pos hf]at h
           cases h
           obtain⟨g1,_,_,r1,r2⟩:=zH3 h1;obtain⟨g2,_,_,r3,r4⟩:=zCg h2;obtain⟨g3,_,b3,c3,_,d3⟩:=zAF h3;obtain⟨g4,_,b4,c4,_,d4⟩:=zAF h4;obtain⟨g5,_,b5,c5,d5⟩:=zGK h5;refine⟨?_,?_,⟨⟨r1,r2⟩,by constructor<;>simp only<;>omega⟩,?_⟩
           · unfold recF;simp only;have q5:=glue g5;rw[List.drop_eq_nil_of_le (by omega),List.append_nil]at q5;rw[q5,glue g4,glue g3];have q2:encI o++(0::t:Bs).drop (1+k+m)=(0::t:Bs).drop (1+k):=glue g2;have q1:encI tm++(0::t:Bs).drop (1+k)=(0::t:Bs).drop 1:=glue g1;rw[q2,q1]
             rfl
           · unfold zAZ RecS.allRight;simp only;rw[if_neg (by omega),c3,c4,c5]
             rfl
           · unfold RecS.sum;simp only;have e3:kb.data.length≤ka:=by split at d3<;>omega
             have e4:vb.data.length≤va:=by split at d4<;>omega
             omega
         · rw[if_neg hf]at h;cases h
  · rw[if_neg ha]at h;cases h
theorem zDA{s:Bs}{x:RecS}{m:Nat}(h:zBU s=.ok (x,m)):encR x=s.take m∧zAZ x=0∧x.R∧x.sum≤s.length∧0<m∧m≤s.length:=by
 unfold zBU at h
 cases h1:zAd s with
 |error e=>rw[h1]at h;cases h
 |ok b=>
  obtain⟨⟨n,d⟩,k⟩:=b;rw[h1]at h;simp only at h;obtain⟨g1,g2,g3,_,_,g5⟩:=zAF h1
  cases n with
  |true=>cases h
  |false=>
   simp only[Bool.false_eq_true,if_false]at h
   cases h2:zAz d with
   |error e=>rw[h2]at h;cases h
   |ok y=>
    rw[h2]at h
    cases h
    obtain⟨k1,k2,k3,k4⟩:=zJM h2;simp at g5;exact⟨by unfold encR;rw[k1];exact g1,k2,k3,by omega,g2,g3⟩
theorem zKM{s:Bs}{e:Int}(h:zBU s=.error e):e≠0:=(zCK.err s 0 e (Nat.zero_le _) (by rw[List.drop_zero];exact h)).1
theorem zJE(s:Bs)(x:RecS)(m:Nat)(hr:zBU s=.ok (x,m))(hs:s.length≤1000000)(h:St W0 w K L):
  Calls Tryz.prog 97 #[.string (bb s)] w fun en w'=>∃v,en=.returned (.agg #[.int .i64 x.time,.int .i64 x.off,.bool x.key.null,.string (bb x.key.data),.bool x.val.null,.string (bb x.val.data),v,.int .i64 m,.int .i64 0])∧St W0 w' (K.and (Know.flat RHdr v 3 x.hdrs)) L:=
 (zGH s hs h).mono fun en w' hh=>by unfold zQg at hh;rw[hr]at hh;exact hh
theorem zJF(s:Bs)(e:Int)(hr:zBU s=.error e)(hs:s.length≤1000000)(h:St W0 w K L):
  Calls Tryz.prog 97 #[.string (bb s)] w fun en w'=>∃m:Int,en=.returned (.agg #[.int .i64 0,.int .i64 0,.bool false,.string ⟨#[]⟩,.bool false,.string ⟨#[]⟩,.slice none 0 0,.int .i64 m,.int .i64 e])∧St W0 w' K L:=
 (zGH s hs h).mono fun en w' hh=>by unfold zQg at hh;rw[hr]at hh;exact hh
theorem zE0:∀(l:List HdrS) (N:Nat),hsum l≤N→∀x∈l,x.key.length≤N∧x.val.data.length≤N
  |[],_,_,_,h=>by cases h
  |y::t,N,hh,x,hx=>by
    simp only[hsum,List.map_cons,List.sum_cons]at hh
    rcases List.mem_cons.1 hx with rfl|hx
    · omega
    · exact zE0 t N (by simp only[hsum];omega) x hx
theorem zD1:∀(n:Nat) (rows:Bs) (pos:Nat) (rs:List RecS),pos≤rows.length→unp n ⟨rows,pos,0⟩=.ok rs→rs.length=n∧rs.length+pos≤rows.length∧∀x∈rs,x.R∧zAZ x=0∧x.sum≤rows.length
  |0,rows,pos,rs,hp,h=>by
    unfold unp at h
    split at h
    · cases h;exact⟨rfl,by simpa using hp,fun x hx=>by cases hx⟩
    · cases h
  |n+1,rows,pos,rs,hp,h=>by
    have h:(if (⟨rows,pos,0⟩:InS).left=0 then .error 10 else if (⟨rows,pos,0⟩:InS).record.2.err=0 then zDn (⟨rows,pos,0⟩:InS).record.1 (unp n (⟨rows,pos,0⟩:InS).record.2)else .error (⟨rows,pos,0⟩:InS).record.2.err)=.ok rs:=h
    by_cases c1:(⟨rows,pos,0⟩:InS).left=0
    · rw[if_pos c1]at h;cases h
    rw[if_neg c1]at h
    cases hr:zBU (rows.drop pos)with
    |error e=>
      obtain⟨he,q,_,hf⟩:=zCK.err rows pos e hp hr;rw[hf]at h;simp only at h;rw[if_neg he]at h
      cases h
    |ok y=>
      obtain⟨x,m⟩:=y;obtain⟨hpm,hf⟩:=zCK.ok rows pos x m hp hr;rw[hf]at h;simp only[if_true]at h
      cases hu:unp n ⟨rows,pos+m,0⟩with
      |error e=>rw[hu]at h;cases h
      |ok t=>
        rw[hu]at h;have h:Except.ok (x::t)=Except.ok rs:=h;injection h with h;subst h;obtain⟨i1,i2,i3⟩:=zD1 n rows (pos+m) t hpm hu;obtain⟨_,j1,j2,j3,j4,j5⟩:=zDA hr;rw[List.length_drop]at j3 j5;refine⟨by simp[i1],by simp only[List.length_cons];omega,fun y hy=> ?_⟩
        rcases List.mem_cons.1 hy with rfl|hy
        · exact⟨j2,j1,by omega⟩
        · exact i3 y hy
theorem zET{n:Nat}{rows:Bs}{rs:List RecS}{l:List (RecS×Value)}(hu:unp n ⟨rows,0,0⟩=.ok rs)(hl:l.map (·.1)=rs)(hr:rows.length≤1000000):FitB l∧l.length≤1000000:=by
 obtain⟨i1,i2,i3⟩:=zD1 n rows 0 rs (Nat.zero_le _) hu
 constructor
 · intro x hx;have hm:x.1∈rs:=by rw[←hl];exact List.mem_map.2 ⟨x,hx,rfl⟩
   obtain⟨a,_,c⟩:=i3 x.1 hm;refine⟨a,fun y hy=> ?_,by omega⟩;have h1:hsum x.1.hdrs≤1000000:=by unfold RecS.sum at c;omega
   have:=zE0 x.1.hdrs 1000000 h1 y hy
   omega
 · have:l.length=rs.length:=by rw[←hl,List.length_map]
   omega
def asmB (x:PreS) (said rows:Bs):Except Int BatS:=
  if ((zAq 0#32 (said.drop 21++rows)).toNat:Int)≠x.sum then .error 5
  else if chk x.attr≠0 then .error (chk x.attr)
  else match unp x.count.toNat ⟨rows,0,0⟩with
    | .error e=> .error e
    | .ok rs=>if zAA ⟨x.base,x.leader,zAf x.attr 3,zAf x.attr 4,zAf x.attr 5,x.last,x.first,x.maxt,x.prod,x.epoch,x.seq,rs⟩=0 then .ok ⟨x.base,x.leader,zAf x.attr 3,zAf x.attr 4,zAf x.attr 5,x.last,x.first,x.maxt,x.prod,x.epoch,x.seq,rs⟩else .error (zAA ⟨x.base,x.leader,zAf x.attr 3,zAf x.attr 4,zAf x.attr 5,x.last,x.first,x.maxt,x.prod,x.epoch,x.seq,rs⟩)
theorem zG7(n:Int)(h:St W0 w K L):
 Calls Tryz.prog 201 #[.int .i64 n] w fun en w'=>en=.returned (.tuple #[.bool (zAf n 3),.bool (zAf n 4),.bool (zAf n 5)])∧St W0 w' K L:=(zNM n w).mono fun _ _ hh=>⟨hh.1,hh.2 ▸ h⟩
theorem zCz(n e:Int)(he:chk n=e)(hn:R64 n)(h:St W0 w K L):
 Calls Tryz.prog 199 #[.int .i64 n] w fun en w'=>en=.returned (.int .i64 e)∧St W0 w' K L:=(zLW n hn w).mono fun _ _ hh=>⟨he ▸ hh.1,hh.2 ▸ h⟩
theorem zCE(b:Nat)(i j:InS)(n:Int)(s:Bs)(hx:i.take n=(s,j))(h:St W0 w K (.inp b i::L)):
  Calls Tryz.prog 184 #[zAC b,.int .i64 n] w fun en w'=>en=.returned (.string (bb s))∧St W0 w' K (.inp b j::L):=by
 have:=zO2 b i n h;rw[hx]at this;exact this
theorem zMn(b:Nat)(i j:InS)(e:Int)(hx:i.fail e=j)(h:St W0 w K (.inp b i::L)):
  Calls Tryz.prog 158 #[zAC b,.int .i64 e] w fun en w'=>en=.returned (.tuple #[])∧St W0 w' K (.inp b j::L):=by
 subst hx;exact zB9 b i e h
theorem zL4:∀(n:Nat) (i:InS) (e:Int),unp n i=.error e→e≠0
  |0,i,e,h=>by
    unfold unp at h
    split at h
    · cases h
    · cases h;decide
  |n+1,i,e,h=>by
    have h:(if i.left=0 then .error 10 else if i.record.2.err=0 then zDn i.record.1 (unp n i.record.2)else .error i.record.2.err)=.error e:=h
    by_cases c1:i.left=0
    · rw[if_pos c1]at h;cases h;decide
    rw[if_neg c1]at h
    by_cases c2:i.record.2.err=0
    · rw[if_pos c2]at h
      cases hu:unp n i.record.2 with
      |ok t=>rw[hu]at h;cases h
      |error f=>
        rw[hu]at h;have h:Except.error f=Except.error e:=h;injection h with h;subst h;exact zL4 n _ _ hu
    · rw[if_neg c2]at h;injection h with h;exact h ▸ c2
theorem zH2{x:PreS}{said rows:Bs}{e:Int}(h:asmB x said rows=.error e):e≠0:=by
 unfold asmB at h
 split at h
 · cases h;decide
 split at h
 · cases h;assumption
 split at h
 · rename_i f hu
   cases h
   exact zL4 _ _ _ hu
 · split at h
   · cases h
   · cases h;assumption
theorem zH1{x:PreS}{said rows:Bs}{b:BatS}(h:asmB x said rows=.ok b):((zAq 0#32 (said.drop 21++rows)).toNat:Int)=x.sum∧chk x.attr=0∧∃rs,unp x.count.toNat ⟨rows,0,0⟩=.ok rs∧zAA (⟨x.base,x.leader,zAf x.attr 3,zAf x.attr 4,zAf x.attr 5,x.last,x.first,x.maxt,x.prod,x.epoch,x.seq,rs⟩:BatS)=0∧b=(⟨x.base,x.leader,zAf x.attr 3,zAf x.attr 4,zAf x.attr 5,x.last,x.first,x.maxt,x.prod,x.epoch,x.seq,rs⟩:BatS):=by
 unfold asmB at h
 split at h
 · cases h
 rename_i h1
 split at h
 · cases h
 rename_i h2
 have h1:((zAq 0#32 (said.drop 21++rows)).toNat:Int)=x.sum:=by
   by_cases hh:((zAq 0#32 (said.drop 21++rows)).toNat:Int)=x.sum
   · exact hh
   · exact absurd hh h1
 have h2:chk x.attr=0:=by
   by_cases hh:chk x.attr=0
   · exact hh
   · exact absurd hh h2
 split at h
 · cases h
 · rename_i rs hu
   split at h
   · rename_i hb
     cases h
     exact⟨h1,h2,rs,hu,hb,rfl⟩
   · cases h
set_option maxHeartbeats 8000000
variable {W0 w:World}{K:Know}{L:List Res}
theorem zBf(s:Bs)(p k:Int)(a b:Nat)(hp:p=a)(hk:k=b)(hb:b≤8)(hs:a+b≤s.length)(hl:s.length≤140737488355328)(h:St W0 w K L):
  Calls Tryz.prog 95 #[.string (bb s),.int .i64 p,.int .i64 k] w fun en w'=>en=.returned (.int .i64 (sInt ((s.drop a).take b)))∧St W0 w' K L:=by
 subst hp;subst hk;have H:=hQd h;have hx:((s.drop a).take b).length≤8:=by rw[List.length_take];omega
 have HX:=hQd hx;clear h hx;go_enter Tryz.func95,Tryz.ntmps95;go_wp2_with (go_at_call 91;refine(zGC _ HX.out stQ).mono ?_;rintro e wn ⟨rfl,h⟩;replace H:=hQd h;clear h);go_ret;exact⟨rfl,H.out⟩
theorem zDy(s:Bs)(a0 a1 a2 a3 a4 a5 a6 a7 a8 a9 a10 a11 a12:Int)(e0:sInt ((s.drop 0).take 8)=a0)(e1:sInt ((s.drop 8).take 4)=a1)(e2:sInt ((s.drop 12).take 4)=a2)(e3:sInt ((s.drop 16).take 1)=a3)(e4:sInt ((s.drop 17).take 4)=a4)(e5:sInt ((s.drop 21).take 2)=a5)(e6:sInt ((s.drop 23).take 4)=a6)(e7:sInt ((s.drop 27).take 8)=a7)(e8:sInt ((s.drop 35).take 8)=a8)(e9:sInt ((s.drop 43).take 8)=a9)(e10:sInt ((s.drop 51).take 2)=a10)(e11:sInt ((s.drop 53).take 4)=a11)(e12:sInt ((s.drop 57).take 4)=a12)(hl61:61≤s.length)(hlen:s.length≤140737488355328)(hr4: -2147483648≤a4)(u:Int)(hu:(¬a4<0∧a4=u)∨(a4<0∧a4+4294967296=u))(R:Ending→World→Prop)
    (hR:((a3 !=2)=true∧(∀w',St W0 w' K L→R (.returned (.tuple #[.slice none 0 0,.int .i64 6])) w'))∨((a3 !=2)=false∧a1<49∧(∀w',St W0 w' K L→R (.returned (.tuple #[.slice none 0 0,.int .i64 4])) w'))∨((a3 !=2)=false∧¬a1<49∧a12<0∧(∀w',St W0 w' K L→R (.returned (.tuple #[.slice none 0 0,.int .i64 10])) w'))∨((a3 !=2)=false∧¬a1<49∧¬a12<0∧(∀bl w',St W0 w' K (.raw bl #[.int .i64 a0,.int .i64 a1,.int .i64 a2,.int .i64 u,.int .i64 a5,.int .i64 a6,.int .i64 a7,.int .i64 a8,.int .i64 a9,.int .i64 a10,.int .i64 a11,.int .i64 a12] 3::L)→R (.returned (.tuple #[.slice (some ⟨bl,0,none⟩) 12 12,.int .i64 0])) w')))
    (h:St W0 w K L):Calls Tryz.prog 66 #[.string (bb s)] w R:=by
  have H:=hQd h;have HL:=hQd hlen;have hd:decide ((s.length:Int)<61)=false:=decide_eq_false (by omega);have E0:=hQd e0;have HSL0:=hQd (show 0+8≤s.length by omega);have E1:=hQd e1;have HSL1:=hQd (show 8+4≤s.length by omega);have E2:=hQd e2;have HSL2:=hQd (show 12+4≤s.length by omega);have E3:=hQd e3;have HSL3:=hQd (show 16+1≤s.length by omega);have E4:=hQd e4;have HSL4:=hQd (show 17+4≤s.length by omega);have E5:=hQd e5;have HSL5:=hQd (show 21+2≤s.length by omega);have E6:=hQd e6;have HSL6:=hQd (show 23+4≤s.length by omega);have E7:=hQd e7;have HSL7:=hQd (show 27+8≤s.length by omega);have E8:=hQd e8;have HSL8:=hQd (show 35+8≤s.length by omega);have E9:=hQd e9;have HSL9:=hQd (show 43+8≤s.length by omega);have E10:=hQd e10;have HSL10:=hQd (show 51+2≤s.length by omega);have E11:=hQd e11;have HSL11:=hQd (show 53+4≤s.length by omega);have E12:=hQd e12;have HSL12:=hQd (show 57+4≤s.length by omega);clear h hlen hl61 e0 e1 e2 e3 e4 e5 e6 e7 e8 e9 e10 e11 e12
  rcases hu with ⟨h4,hu⟩|⟨h4,hu⟩<;>have HU:=hQd hu<;>clear hu<;>rcases hR with ⟨hm,hR⟩|⟨hm,hl,hR⟩|⟨hm,hl,hc,hR⟩|⟨hm,hl,hc,hR⟩<;>have HR:=hQd hR<;>clear hR
  all_goals
    go_enter Tryz.func66,Tryz.ntmps66
    go_wp2_with (first
      |(go_at_call 95;(with_reducible refine(zBf _ _ _ 0 8 (by decide) (by decide) (by decide) HSL0.out HL.out stQ).mono ?_);(repeat first|rw[E0.out]);rintro e wn ⟨rfl,h⟩;replace H:=hQd h;clear h)
      |(go_at_call 95;(with_reducible refine(zBf _ _ _ 8 4 (by decide) (by decide) (by decide) HSL1.out HL.out stQ).mono ?_);(repeat first|rw[E1.out]);rintro e wn ⟨rfl,h⟩;replace H:=hQd h;clear h)
      |(go_at_call 95;(with_reducible refine(zBf _ _ _ 12 4 (by decide) (by decide) (by decide) HSL2.out HL.out stQ).mono ?_);(repeat first|rw[E2.out]);rintro e wn ⟨rfl,h⟩;replace H:=hQd h;clear h)
      |(go_at_call 95;(with_reducible refine(zBf _ _ _ 16 1 (by decide) (by decide) (by decide) HSL3.out HL.out (H.out.allocRaw #[.int .i64 a0,.int .i64 a1,.int .i64 a2,_,.int .i64 a5,.int .i64 a6,.int .i64 a7,.int .i64 a8,.int .i64 a9,.int .i64 a10,.int .i64 a11,.int .i64 a12] 3)).mono ?_);(repeat first|rw[E3.out]);rintro e wn ⟨rfl,h⟩;replace H:=hQd h;clear h;have y1:=H.out.rawCell 1;have y11:=H.out.rawCell 11;simp at y1 y11)
      |(go_at_call 95;(with_reducible refine(zBf _ _ _ 17 4 (by decide) (by decide) (by decide) HSL4.out HL.out stQ).mono ?_);(repeat first|rw[E4.out]);rintro e wn ⟨rfl,h⟩;replace H:=hQd h;clear h)
      |(go_at_call 95;(with_reducible refine(zBf _ _ _ 21 2 (by decide) (by decide) (by decide) HSL5.out HL.out stQ).mono ?_);(repeat first|rw[E5.out]);rintro e wn ⟨rfl,h⟩;replace H:=hQd h;clear h)
      |(go_at_call 95;(with_reducible refine(zBf _ _ _ 23 4 (by decide) (by decide) (by decide) HSL6.out HL.out stQ).mono ?_);(repeat first|rw[E6.out]);rintro e wn ⟨rfl,h⟩;replace H:=hQd h;clear h)
      |(go_at_call 95;(with_reducible refine(zBf _ _ _ 27 8 (by decide) (by decide) (by decide) HSL7.out HL.out stQ).mono ?_);(repeat first|rw[E7.out]);rintro e wn ⟨rfl,h⟩;replace H:=hQd h;clear h)
      |(go_at_call 95;(with_reducible refine(zBf _ _ _ 35 8 (by decide) (by decide) (by decide) HSL8.out HL.out stQ).mono ?_);(repeat first|rw[E8.out]);rintro e wn ⟨rfl,h⟩;replace H:=hQd h;clear h)
      |(go_at_call 95;(with_reducible refine(zBf _ _ _ 43 8 (by decide) (by decide) (by decide) HSL9.out HL.out stQ).mono ?_);(repeat first|rw[E9.out]);rintro e wn ⟨rfl,h⟩;replace H:=hQd h;clear h)
      |(go_at_call 95;(with_reducible refine(zBf _ _ _ 51 2 (by decide) (by decide) (by decide) HSL10.out HL.out stQ).mono ?_);(repeat first|rw[E10.out]);rintro e wn ⟨rfl,h⟩;replace H:=hQd h;clear h)
      |(go_at_call 95;(with_reducible refine(zBf _ _ _ 53 4 (by decide) (by decide) (by decide) HSL11.out HL.out stQ).mono ?_);(repeat first|rw[E11.out]);rintro e wn ⟨rfl,h⟩;replace H:=hQd h;clear h)
      |(go_at_call 95;(with_reducible refine(zBf _ _ _ 57 4 (by decide) (by decide) (by decide) HSL12.out HL.out stQ).mono ?_);(repeat first|rw[E12.out]);rintro e wn ⟨rfl,h⟩;replace H:=hQd h;clear h))
    try go_ret2
    first|exact HR.out _ H.out.drop|(have h9:=H.out;rw[HU.out]at h9;exact HR.out _ _ h9)
def psz:List Nat:=[8,4,4,4,2,4,8,8,8,2,4,4]
def adj (k:Nat):Nat:=if k≤3 then k else k+1
theorem zOl(x:PreS)(k:Nat)(hk:k<12)(h3:k≠3):x.items.take (adj (k+1))=x.items.take (adj k)++[(x.list.getD k 0,psz.getD k 0)]∧(x.list.getD k 0,psz.getD k 0)∈x.items:=by
 rcases(by omega:k=0∨k=1∨k=2∨k=4∨k=5∨k=6∨k=7∨k=8∨k=9∨k=10∨k=11)with h|h|h|h|h|h|h|h|h|h|h<;>subst h<;>exact⟨rfl,by simp[PreS.items,PreS.list,psz]⟩
theorem zMP(x:PreS):x.items.take (adj (3+1))=x.items.take (adj 3)++[(2,1),(zAD x.sum,4)]∧(zAD x.sum,4)∈x.items:=⟨rfl,by simp[PreS.items]⟩
theorem zOm(x:PreS)(k:Nat)(hk:k<12):(#[.int .i64 x.base,.int .i64 x.len,.int .i64 x.leader,.int .i64 x.sum,.int .i64 x.attr,.int .i64 x.last,.int .i64 x.first,.int .i64 x.maxt,.int .i64 x.prod,.int .i64 x.epoch,.int .i64 x.seq,.int .i64 x.count]:Array Value)[k]? =some (.int .i64 (x.list.getD k 0))∧(#[.int .i64 8,.int .i64 4,.int .i64 4,.int .i64 4,.int .i64 2,.int .i64 4,.int .i64 8,.int .i64 8,.int .i64 8,.int .i64 2,.int .i64 4,.int .i64 4]:Array Value)[k]? =some (.int .i64 (psz.getD k 0))∧x.list.getD k 0∈x.list∧1≤psz.getD k 0∧psz.getD k 0≤8:=by
 rcases(by omega:k=0∨k=1∨k=2∨k=3∨k=4∨k=5∨k=6∨k=7∨k=8∨k=9∨k=10∨k=11)with h|h|h|h|h|h|h|h|h|h|h|h<;>subst h<;>exact⟨rfl,rfl,by simp[PreS.list],by decide,by decide⟩
theorem zBk(a b:List (Int×Nat)):zAi (a++b)=zAi a++zAi b:=List.flatMap_append
theorem FitsAll.nil:FitsAll []:=fun _ hx=>by cases hx
theorem FitsAll.append{a b:List (Int×Nat)}(h:FitsAll a)(k:FitsAll b):FitsAll (a++b):=fun x hx=>(List.mem_append.1 hx).elim (h x) (k x)
theorem FitsAll.one{n:Int}{z:Nat}(h:fits n z):FitsAll [(n,z)]:=fun x hx=>by simp at hx;subst hx;exact h
theorem zJ3(x:PreS)(k:Nat):(zAi (x.items.take k)).length≤61:=by
 have h1:(zAi x.items).length=61:=by rw[zBF];rfl
 have h2:zAi x.items=zAi (x.items.take k)++zAi (x.items.drop k):=by rw[←zBk,List.take_append_drop]
 have h3:=congrArg List.length h2;rw[List.length_append]at h3
 omega
theorem zEy(n:Int)(h0:¬n<0)(h1:¬4294967295<n):fits (zAD n) 4:=by
 have e4:half 4=2147483648:=by decide
 unfold fits zAD;rw[if_neg (by omega)];refine⟨by decide,by decide,?_⟩;have:(4:Int).toNat=4:=rfl;rw[this,e4]
 split<;>omega
theorem zDe(n:Int)(h:n<0∨4294967295<n):¬fits (zAD n) 4:=by
 have e:zAD n=4294967296:=if_pos h;rw[e]
 decide
def zBW (x:PreS):Bs×Bool:=if FitsAll x.items then(zAi x.items,true)else([],false)
theorem zPV{x:PreS}(hp:FitsAll x.items):Ending.returned (.tuple #[.string (bb (zAi x.items)),.bool true])=Ending.returned (.tuple #[.string (bb (zBW x).1),.bool (zBW x).2]):=by unfold zBW;rw[if_pos hp]
theorem zFW{x:PreS}(hp:¬FitsAll x.items):Ending.returned (.tuple #[.string ⟨#[]⟩,.bool false])=Ending.returned (.tuple #[.string (bb (zBW x).1),.bool (zBW x).2]):=by unfold zBW;rw[if_neg hp];rfl
theorem zq25{p:Prop}(h:p:=by
  go_roundw
  case rel=>
   obtain⟨k',r1,r2,r3,r4⟩:=REL.out;exact⟨k',r1,r2,r3,r4,H.out⟩
  case measure=>first|(simp[intOf];done)|(simp[intOf];omega)):p:=h
theorem zJC(bl:Nat)(x:PreS)(hx:x.R){W0 w:World}{K:Know}{L:List Res}(h:St W0 w K (.raw bl #[.int .i64 x.base,.int .i64 x.len,.int .i64 x.leader,.int .i64 x.sum,.int .i64 x.attr,.int .i64 x.last,.int .i64 x.first,.int .i64 x.maxt,.int .i64 x.prod,.int .i64 x.epoch,.int .i64 x.seq,.int .i64 x.count] 3::L)):
  Calls Tryz.prog 29 #[.slice (some ⟨bl,0,none⟩) 12 12] w fun en w'=>en=.returned (.tuple #[.string (bb (zBW x).1),.bool (zBW x).2])∧St W0 w' K (.raw bl #[.int .i64 x.base,.int .i64 x.len,.int .i64 x.leader,.int .i64 x.sum,.int .i64 x.attr,.int .i64 x.last,.int .i64 x.first,.int .i64 x.maxt,.int .i64 x.prod,.int .i64 x.epoch,.int .i64 x.seq,.int .i64 x.count] 3::L):=by
 have H:=hQd (h.allocRaw #[.int .i64 8,.int .i64 4,.int .i64 4,.int .i64 4,.int .i64 2,.int .i64 4,.int .i64 8,.int .i64 8,.int .i64 8,.int .i64 2,.int .i64 4,.int .i64 4] 3);have HX:=hQd hx;clear h hx;go_enter Tryz.func29,Tryz.ntmps29;go_wp2;obtain⟨bs,hbs⟩:∃b,w.heap.size=b:=⟨_,rfl⟩;rw[hbs]at H
 try rw[hbs]
 have HBS:=hQd hbs;clear hbs;go_loopw [5,6] (fun sv iv wr=>∃k:Nat,k≤12∧iv=.int .i64 k∧sv=.string (bb (zAi (x.items.take (adj k))))∧FitsAll (x.items.take (adj k))∧St W0 wr K (.raw bs #[.int .i64 8,.int .i64 4,.int .i64 4,.int .i64 4,.int .i64 2,.int .i64 4,.int .i64 8,.int .i64 8,.int .i64 8,.int .i64 2,.int .i64 4,.int .i64 4] 3::.raw bl #[.int .i64 x.base,.int .i64 x.len,.int .i64 x.leader,.int .i64 x.sum,.int .i64 x.attr,.int .i64 x.last,.int .i64 x.first,.int .i64 x.maxt,.int .i64 x.prod,.int .i64 x.epoch,.int .i64 x.seq,.int .i64 x.count] 3::L)) (fun _ iv _=>12 - (intOf iv).toNat)
 case atStart=>exact⟨0,Nat.zero_le _,rfl,rfl,FitsAll.nil,H.out⟩
 case round=>
  obtain⟨k,hk,rfl,rfl,hfa,hst⟩:=hrel;have HFA:=hQd hfa;have H:=hQd hst;clear hfa hst;have hlen:=zJ3 x (adj k);obtain⟨e0,he0⟩:∃e,zAi (x.items.take (adj k))=e:=⟨_,rfl⟩;rw[he0]at hlen;rw[he0];have HE0:=hQd he0;clear he0
  by_cases hlt:k<12
  · obtain⟨p1,p2,p3,p4,p5⟩:=zOm x k hlt;have hnr:=HX.out _ p3;obtain⟨n,hn⟩:∃n,x.list.getD k 0=n:=⟨_,rfl⟩;obtain⟨z,hz⟩:∃z,psz.getD k 0=z:=⟨_,rfl⟩;rw[hn]at p1 hnr;rw[hz]at p2 p4 p5;have C1:=hQd p1;have C2:=hQd p2;have HN:=hQd hnr;have HZ8:=hQd (show z≤140737488355328 by omega);have HNZ:=hQd (And.intro hn hz);have d1:=H.out.p1.rawCell k;have d2:=H.out.rawCell k;rw[C1.out]at d1;rw[C2.out]at d2;clear p1 p2 p3 hnr hn hz hk
    by_cases h3:k=3
    · subst h3;have HNX:=hQd (show x.sum=n from HNZ.out.1);obtain rfl:4=z:=HNZ.out.2;have HQ:=hQd (zMP x);rw[HNX.out]at HQ
      by_cases h0:n<0
      · go_wp2;go_ret2;exact⟨zFW (fun h=>zDe n (.inl h0) (h _ HQ.out.2)),H.out.drop⟩
      by_cases h1:4294967295<n
      · go_wp2;go_ret2;exact⟨zFW (fun h=>zDe n (.inr h1) (h _ HQ.out.2)),H.out.drop⟩
      have HF:=hQd (zEy n h0 h1);have HSR:=hQd (zCl n);have HF4:=hQd (decide_eq_true HF.out)
      by_cases h2:2147483647<n
      · have hsi:zAD n=n - 4294967296:=by unfold zAD;rw[if_neg (by omega),if_pos h2]
        rw[hsi]at HF4 HF HQ HSR;have tokA:True:=trivial
        have REL:=hQd (show ∃k:Nat,k≤12∧Value.int .i64 (3+1)=.int .i64 k∧Value.string (bb (e0++(zAk 2 1++zAk (n - 4294967296) 4)))=.string (bb (zAi (x.items.take (adj k))))∧FitsAll (x.items.take (adj k))from
         ⟨4,by decide,rfl,by rw[HQ.out.1,zBk,HE0.out];simp[zAi],by rw[HQ.out.1];exact HFA.out.append (fun y hy=>by simp at hy;rcases hy with rfl|rfl;exact(by decide);exact HF.out)⟩)
        clear hsi
        go_wp2_with (first
         |(go_at_call 62;have _t:=tokA;clear _t;refine(zCW 2 1 (by decide) (by decide) H.out).mono ?_;rintro e wn ⟨rfl,h⟩;replace H:=hQd h;clear h tokA;have d1:=H.out.p1.rawCell 3;have d2:=H.out.rawCell 3;rw[C1.out]at d1;rw[C2.out]at d2)
         |(go_at_call 62;refine(zCW (n - 4294967296) 4 (by decide) HSR.out H.out).mono ?_;rintro e wn ⟨rfl,h⟩;replace H:=hQd h;clear h;have d1:=H.out.p1.rawCell 3;have d2:=H.out.rawCell 3;rw[C1.out]at d1;rw[C2.out]at d2)
         |(go_at_call 63;refine(zJw (n - 4294967296) 4 HSR.out H.out).mono ?_;rw[HF4.out];rintro e wn ⟨rfl,h⟩;replace H:=hQd h;clear h;have d1:=H.out.p1.rawCell 3;have d2:=H.out.rawCell 3;rw[C1.out]at d1;rw[C2.out]at d2))
        exact zq25
      · have hsi:zAD n=n:=by unfold zAD;rw[if_neg (by omega),if_neg h2]
        rw[hsi]at HF4 HF HQ HSR;have tokA:True:=trivial
        have REL:=hQd (show ∃k:Nat,k≤12∧Value.int .i64 (3+1)=.int .i64 k∧Value.string (bb (e0++(zAk 2 1++zAk (n) 4)))=.string (bb (zAi (x.items.take (adj k))))∧FitsAll (x.items.take (adj k))from
         ⟨4,by decide,rfl,by rw[HQ.out.1,zBk,HE0.out];simp[zAi],by rw[HQ.out.1];exact HFA.out.append (fun y hy=>by simp at hy;rcases hy with rfl|rfl;exact(by decide);exact HF.out)⟩)
        clear hsi
        go_wp2_with (first
         |(go_at_call 62;have _t:=tokA;clear _t;refine(zCW 2 1 (by decide) (by decide) H.out).mono ?_;rintro e wn ⟨rfl,h⟩;replace H:=hQd h;clear h tokA;have d1:=H.out.p1.rawCell 3;have d2:=H.out.rawCell 3;rw[C1.out]at d1;rw[C2.out]at d2)
         |(go_at_call 62;refine(zCW (n) 4 (by decide) HSR.out H.out).mono ?_;rintro e wn ⟨rfl,h⟩;replace H:=hQd h;clear h;have d1:=H.out.p1.rawCell 3;have d2:=H.out.rawCell 3;rw[C1.out]at d1;rw[C2.out]at d2)
         |(go_at_call 63;refine(zJw (n) 4 HSR.out H.out).mono ?_;rw[HF4.out];rintro e wn ⟨rfl,h⟩;replace H:=hQd h;clear h;have d1:=H.out.p1.rawCell 3;have d2:=H.out.rawCell 3;rw[C1.out]at d1;rw[C2.out]at d2))
        exact zq25
    · obtain⟨q1,q2⟩:=zOl x k hlt h3;rw[HNZ.out.1,HNZ.out.2]at q1 q2;have HQ:=hQd (And.intro q1 q2);clear q1 q2;have h3b:((k:Int)==3)=false:=by rw[beq_eq_false_iff_ne];omega
      have HK3:=hQd h3;clear h3
      by_cases hf:fits n z
      all_goals
        have HF:=hQd hf;have hdf:decide (fits n z)=decide (fits n z):=rfl
        conv at hdf=>rhs;(first|rw[decide_eq_true HF.out]|rw[decide_eq_false HF.out])
        have HDF:=hQd hdf;clear hf hdf
        go_wp2_with (first
         |(go_at_call 63;(with_reducible refine(zJw _ _ HN.out H.out).mono ?_);rw[HDF.out];rintro e wn ⟨rfl,h⟩;replace H:=hQd h;clear h;have d1:=H.out.p1.rawCell k;have d2:=H.out.rawCell k;rw[C1.out]at d1;rw[C2.out]at d2)
         |(go_at_call 62;(with_reducible refine(zCW _ _ HZ8.out HN.out H.out).mono ?_);rintro e wn ⟨rfl,h⟩;replace H:=hQd h;clear h;have d1:=H.out.p1.rawCell k;have d2:=H.out.rawCell k;rw[C1.out]at d1;rw[C2.out]at d2))
      · go_roundw
        case rel=>
         refine⟨k+1,by omega,by go_num,?_,?_,H.out⟩
         · rw[HQ.out.1,zBk,HE0.out];simp[zAi]
         · rw[HQ.out.1];exact HFA.out.append (FitsAll.one HF.out)
        case measure=>first|(simp[intOf];done)|(simp[intOf];omega)
      · go_ret2;exact⟨zFW (fun h=>HF.out (h _ HQ.out.2)),H.out.drop⟩
  · have hk12:k=12:=by omega
    subst hk12;go_wp2;go_ret2;have ht:x.items.take (adj 12)=x.items:=rfl;have h1:=HFA.out;have h2:=HE0.out;rw[ht]at h1 h2;subst h2;exact⟨zPV h1,H.out.drop⟩
variable {W0 w:World}{K:Know}{L:List Res}
def preX (s:Bs):PreS×Int:=zFT (zBx zAR s)
def zAI (s:Bs):Except Int PreS:=if s.length<61 then .error 1 else if (preX s).2=2 then(if (preX s).1.len<49 then .error 4 else if (preX s).1.count<0 then .error 10 else .ok (preX s).1)else .error 6
theorem InS.fail_stuck_Pre6{i:InS}(h:i.err≠0)(e:Int):i.fail e=i:=if_neg h
theorem InS.fail_ok0(s:Bs)(p:Nat)(e:Int):(⟨s,p,0⟩:InS).fail e=⟨s,p,e⟩:=rfl
theorem zIF(x:PreS)(m:Int){i:InS}(h:i.err≠0):zIG x m i=i:=by
 unfold zIG;simp only[InS.fail_stuck_Pre6 h,ite_self]
theorem zJR(s:Bs)(pos:Nat)(hp:pos+61≤s.length):(⟨s,pos,0⟩:InS).pre=match zAI (s.drop pos)with| .ok x=>(x,⟨s,pos+61,0⟩)| .error e=>(PreS.zero,⟨s,pos+61,e⟩):=by
 have h1:=zM3 zAR s pos (by decide) hp;have h2:zAR.sum=61:=rfl;rw[h2]at h1;unfold InS.pre;rw[h1];unfold zAI preX;rw[if_neg (by rw[List.length_drop];omega)];obtain⟨x,m⟩:=zFT (zBx zAR (s.drop pos));simp only[zIG]
 by_cases hm:m=2
 · rw[if_pos hm,if_pos hm]
   by_cases hl:x.len<49
   · rw[if_pos hl,if_pos hl,InS.fail_ok0,InS.fail_stuck_Pre6 (show(4:Int)≠0 by decide),ite_self,if_neg (show ¬(4:Int)=0 by decide)]
   · rw[if_neg hl,if_neg hl]
     by_cases hc:x.count<0
     · rw[if_pos hc,if_pos hc,InS.fail_ok0,if_neg (show ¬(10:Int)=0 by decide)]
     · rw[if_neg hc,if_neg hc,if_pos rfl]
 · have hs:∀e:Int,(⟨s,pos+61,6⟩:InS).fail e=⟨s,pos+61,6⟩:=fun e=>InS.fail_stuck_Pre6 (show(6:Int)≠0 by decide) e
   rw[if_neg hm,if_neg hm,InS.fail_ok0];simp only[hs,ite_self];rw[if_neg (show ¬(6:Int)=0 by decide)]
theorem zLu(s:Bs)(pos:Nat)(hp:pos≤s.length)(hs:s.length<pos+61):∃q,q≤s.length∧(⟨s,pos,0⟩:InS).pre=(PreS.zero,⟨s,q,1⟩):=by
 obtain⟨q,h1,h2⟩:=zGV zAR s pos (by decide) hp hs;refine⟨q,h1,?_⟩;unfold InS.pre;rw[h2,zIF _ _ (show(1:Int)≠0 by decide)];simp only;rw[if_neg (by decide)]
theorem zJL{s:Bs}(h:s.length<61):zAI s=.error 1:=if_pos h
theorem zFY:∀(l:List Nat) (s:Bs) (n:Nat),l.sum≤n→zBx l (s.take n)=zBx l s
  |[],_,_,_=>rfl
  |k::t,s,n,h=>by
    rw[List.sum_cons]at h;unfold zBx;rw[List.take_take,Nat.min_eq_left (by omega),List.drop_take,zFY t (s.drop k) (n - k) (by omega)]
theorem zBq(s:Bs)(h:61≤s.length):zAI (s.take 61)=zAI s:=by
 unfold zAI preX;rw[zFY zAR s 61 (by decide),List.length_take,Nat.min_eq_left h,if_neg (show ¬61<61 by decide),if_neg (show ¬s.length<61 by omega)]
theorem zBz(s:Bs)(h:s.length≤4): -2147483648≤sInt s∧sInt s<2147483648:=by
 rcases(by omega:s.length=0∨(1≤s.length∧s.length≤4))with h0|h0
 · have:s=[]:=List.length_eq_zero_iff.1 h0;subst this
   decide
 · have h1:=(zMp s s.length h0.1 (by omega) rfl).2.2;rw[Int.toNat_natCast]at h1
   have h2:half s.length≤2147483648:=by
    rcases(by omega:s.length=1∨s.length=2∨s.length=3∨s.length=4)with h|h|h|h<;>rw[h]<;>decide
   omega
theorem zFR(s:Bs):preX s=(⟨sInt (s.take 8),sInt ((s.drop 8).take 4),sInt ((s.drop 12).take 4),sInt ((s.drop 17).take 4) % 4294967296,sInt ((s.drop 21).take 2),sInt ((s.drop 23).take 4),sInt ((s.drop 27).take 8),sInt ((s.drop 35).take 8),sInt ((s.drop 43).take 8),sInt ((s.drop 51).take 2),sInt ((s.drop 53).take 4),sInt ((s.drop 57).take 4)⟩,sInt ((s.drop 16).take 1)):=by
 unfold preX zAR;simp only[zBx,List.drop_drop,Nat.reduceAdd]
 rfl
theorem zKP(s:Bs): -2147483648≤(preX s).1.len∧(preX s).1.len<2147483648:=by
 rw[zFR];exact zBz _ (by rw[List.length_take];omega)
def zIJ (s:Bs):Int×Int:=if s.length<61 then(0,0)else match zAI s with| .ok x=>(x.len+12,0)| .error e=>(0,e)
theorem zBE{s:Bs}{x:PreS}(h:zAI s=.ok x):61≤s.length∧(preX s).1=x∧(preX s).2=2∧49≤x.len∧0≤x.count:=by
 unfold zAI at h
 split at h
 · cases h
 split at h
 · split at h
   · cases h
   · split at h
     · cases h
     · cases h
       exact⟨by omega,rfl,by assumption,by omega,by omega⟩
 · cases h
theorem zCJ{s:Bs}{e:Int}(h:zAI s=.error e):e≠0:=by
 unfold zAI at h
 split at h
 · cases h;decide
 split at h
 · split at h
   · cases h;decide
   · split at h
     · cases h;decide
     · cases h
 · cases h;decide
theorem zBr(p:Nat)(i j:InS)(x:PreS)(hx:i.pre=(x,j))(h:St W0 w K (.inp p i::L)):
  Calls Tryz.prog 188 #[zAC p] w fun en w'=>en=.returned (.agg #[.int .i64 x.base,.int .i64 x.len,.int .i64 x.leader,.int .i64 x.sum,.int .i64 x.attr,.int .i64 x.last,.int .i64 x.first,.int .i64 x.maxt,.int .i64 x.prod,.int .i64 x.epoch,.int .i64 x.seq,.int .i64 x.count])∧St W0 w' K (.inp p j::L):=by
 have:=zJQ p i h;rw[hx]at this;exact this
theorem zEh(s:Bs)(hs:s.length<61)(h:St W0 w K L):
  Calls Tryz.prog 166 #[.string (bb s)] w fun en w'=>en=.returned (.tuple #[.int .i64 0,.int .i64 0])∧St W0 w' K L:=by
 have hd:decide ((s.length:Int)<61)=true:=decide_eq_true (by omega);have H:=hQd h;clear h hs;go_enter Tryz.func166,Tryz.ntmps166;go_wp2;go_ret2;exact⟨rfl,H.out⟩
theorem zGr(s:Bs)(x:PreS)(j:InS)(h61:61≤s.length)(hl:s.length≤140737488355328)(hp:(⟨s.take 61,0,0⟩:InS).pre=(x,j))(hj:j.err=0)(hx: -2147483648≤x.len∧x.len<2147483648)(h:St W0 w K L):
  Calls Tryz.prog 166 #[.string (bb s)] w fun en w'=>en=.returned (.tuple #[.int .i64 (x.len+12),.int .i64 0])∧St W0 w' K L:=by
 have hd:decide ((s.length:Int)<61)=false:=decide_eq_false (by omega);have H:=hQd h;have HP:=hQd hp;have HJ:=hQd hj;have HL:=hQd (show(s.take 61).length≤140737488355328 by rw[List.length_take];omega);obtain⟨b1,b2⟩:=hx;clear h hp hj hl;go_enter Tryz.func166,Tryz.ntmps166
 go_wp2_with (first
  |(go_at_call 156;refine(zDf _ HL.out H.out).mono ?_;rintro e wn ⟨bi,rfl,h⟩;replace H:=hQd h;clear h)
  |(go_at_call 188;(with_reducible refine(zBr _ _ j x HP.out H.out).mono ?_);rintro e wn ⟨rfl,h⟩;replace H:=hQd h;clear h;replace H:=hQd (H.out.allocRaw #[.int .i64 x.base,.int .i64 x.len,.int .i64 x.leader,.int .i64 x.sum,.int .i64 x.attr,.int .i64 x.last,.int .i64 x.first,.int .i64 x.maxt,.int .i64 x.prod,.int .i64 x.epoch,.int .i64 x.seq,.int .i64 x.count] 130).p1)
  |(go_at_call 168;(with_reducible refine(zGg _ _ H.out).mono ?_);(repeat first|rw[HJ.out]);rintro e wn ⟨rfl,h⟩;replace H:=hQd h;clear h;have y1:=H.out.p1.rawCell 1;simp at y1))
 go_ret2;exact⟨rfl,H.out.drop.drop⟩
theorem zFP(s:Bs)(x:PreS)(j:InS)(h61:61≤s.length)(hl:s.length≤140737488355328)(hp:(⟨s.take 61,0,0⟩:InS).pre=(x,j))(e:Int)(hj:j.err=e)(he:e≠0)(h:St W0 w K L):
  Calls Tryz.prog 166 #[.string (bb s)] w fun en w'=>en=.returned (.tuple #[.int .i64 0,.int .i64 e])∧St W0 w' K L:=by
 have hd:decide ((s.length:Int)<61)=false:=decide_eq_false (by omega);have H:=hQd h;have HP:=hQd hp;have HJ:=hQd hj;have HL:=hQd (show(s.take 61).length≤140737488355328 by rw[List.length_take];omega);have heb:(e !=0)=true:=by rw[bne_iff_ne];exact he
 clear h hp hj hl he;go_enter Tryz.func166,Tryz.ntmps166
 go_wp2_with (first
  |(go_at_call 156;refine(zDf _ HL.out H.out).mono ?_;rintro e wn ⟨bi,rfl,h⟩;replace H:=hQd h;clear h)
  |(go_at_call 188;(with_reducible refine(zBr _ _ j x HP.out H.out).mono ?_);rintro e wn ⟨rfl,h⟩;replace H:=hQd h;clear h;replace H:=hQd (H.out.allocRaw #[.int .i64 x.base,.int .i64 x.len,.int .i64 x.leader,.int .i64 x.sum,.int .i64 x.attr,.int .i64 x.last,.int .i64 x.first,.int .i64 x.maxt,.int .i64 x.prod,.int .i64 x.epoch,.int .i64 x.seq,.int .i64 x.count] 130).p1)
  |(go_at_call 168;(with_reducible refine(zGg _ _ H.out).mono ?_);(repeat first|rw[HJ.out]);rintro e wn ⟨rfl,h⟩;replace H:=hQd h;clear h;have y1:=H.out.p1.rawCell 1;simp at y1))
 go_ret2;exact⟨rfl,H.out.drop.drop⟩
theorem zBc(s:Bs)(n e:Int)(hp:zIJ s=(n,e))(hl:s.length≤140737488355328)(h:St W0 w K L):
   Calls Tryz.prog 166 #[.string (bb s)] w fun en w'=>en=.returned (.tuple #[.int .i64 n,.int .i64 e])∧St W0 w' K L:=by
 unfold zIJ at hp
 by_cases h1:s.length<61
 · rw[if_pos h1]at hp
   cases hp
   exact zEh s h1 h
 · rw[if_neg h1]at hp;have h61:(s.take 61).length=61:=by rw[List.length_take];omega
   have hp2:=zJR (s.take 61) 0 (by omega);rw[List.drop_zero,zBq s (by omega)]at hp2
   cases hr:zAI s with
   |ok x=>
    rw[hr]at hp hp2
    cases hp
    have hx:=zKP s;rw[(zBE hr).2.1]at hx;exact zGr s x _ (by omega) hl hp2 rfl hx h
   |error e'=>
    rw[hr]at hp hp2
    cases hp
    exact zFP s _ _ (by omega) hl hp2 e rfl (zCJ hr) h
def zBv (s:Bs):Except Int (BatS×Nat):=match zAI s with
  | .error e=> .error e
  | .ok x=>if s.length<61+(x.len - 49).toNat then .error 1 else match asmB x (s.take 61) ((s.drop 61).take (x.len - 49).toNat)with
    | .error e=> .error e
    | .ok b=> .ok (b,61+(x.len - 49).toNat)
theorem zBs{s:Bs}{x:PreS}(h:zAI s=.ok x):(-2147483648≤x.len∧x.len<2147483648)∧49≤x.len∧R64 x.attr∧0≤x.count∧x.count≤2147483647∧x.first≤9223372036854775807:=by
 obtain⟨h1,h2,_,h3,h4⟩:=zBE h;have hl:=zKP s;rw[h2]at hl;rw[zFR]at h2;have h2:=h2.symm;subst h2;simp only at*;have a:=zCh ((s.drop 21).take 2) (by rw[List.length_take];omega);have b:=zCh ((s.drop 27).take 8) (by rw[List.length_take];omega);have c:=zBz ((s.drop 57).take 4) (by rw[List.length_take];omega);exact⟨hl,h3,a,h4,by omega,by omega⟩
theorem zOi{s:Bs}{e:Int}(h:zBv s=.error e):e≠0:=by
 unfold zBv at h
 split at h
 · rename_i f hp
   cases h
   exact zCJ hp
 · split at h
   · cases h;decide
   · split at h
     · rename_i f ha
       cases h
       exact zH2 ha
     · cases h
theorem zEV{s:Bs}{b:BatS}{n:Nat}(h:zBv s=.ok (b,n)):∃x,zAI s=.ok x∧n=61+(x.len - 49).toNat∧n≤s.length∧asmB x (s.take 61) ((s.drop 61).take (x.len - 49).toNat)=.ok b:=by
 unfold zBv at h
 split at h
 · cases h
 · rename_i x hp
   split at h
   · cases h
   · split at h
     · cases h
     · rename_i c ha
       cases h
       exact⟨x,hp,rfl,by omega,ha⟩
theorem zJP(o:Bs)(x:RecS)(h:zAZ x=0):(⟨o,0⟩:OutS).putRec x=⟨o++encR x,0⟩:=by
 unfold OutS.putRec;rw[if_pos h]
 rfl
theorem zHm:∀(l:List RecS),zBT l=0→∀x∈l,zAZ x=0
  |[],_,_,h=>by cases h
  |r::t,hh,x,hx=>by
    have hh:(if zAZ r=0 then zBT t else zAZ r)=0:=hh
    by_cases h1:zAZ r=0
    · rw[if_pos h1]at hh
      rcases List.mem_cons.1 hx with rfl|hx
      · exact h1
      · exact zHm t hh x hx
    · rw[if_neg h1]at hh;exact absurd hh h1
theorem zI3{l:List (RecS×Value)}(h:FitB l):(zAX l).length≤40000000*l.length:=by
 have:∀(l:List (RecS×Value)),(∀x∈l,(encR x.1).length≤40000000)→(zAX l).length≤40000000*l.length:=by
  intro l
  induction l with
  |nil=>intro _;simp[zAX]
  |cons x t ih=>
   intro hh;have h1:=ih (fun y hy=>hh y (by simp[hy]));have h2:=hh x (by simp);have e:zAX (x::t)=encR x.1++zAX t:=rfl;rw[e,List.length_append,List.length_cons]
   omega
 refine this l fun x hx=> ?_
 obtain⟨a,_,c⟩:=h x hx;have h1:=zEg x.1 a c;unfold encR encV;rw[List.length_append];have h2:(putU (zA7 (BlobS.len ⟨false,recF x.1⟩))).length≤10:=zBV _ (zBZ (by simp[BlobS.len]<;>omega) (by simp[BlobS.len]<;>omega));simp only at*
 omega
theorem zIc(n:Int)(h:fits (zAD n) 4):zAD n % 4294967296=n:=by
 by_cases h0:n<0∨4294967295<n
 · exact absurd h (zDe n h0)
 · unfold zAD;rw[if_neg h0]
   split<;>omega
theorem zMR(x:PreS)(hf:FitsAll x.items):preX (zAi x.items)=(x,2):=by
 have h1:=zGW x.items [] hf;rw[List.append_nil]at h1;have h2:x.items.map (·.2)=zAR:=rfl;rw[h2]at h1;have h3:=zIc x.sum (hf (zAD x.sum,4) (by simp[PreS.items]));unfold preX;rw[h1];simp only[PreS.items,List.map_cons,List.map_nil,zFT,h3]
theorem zA0(x:PreS):(zAi x.items).length=61:=by rw[zBF];rfl
theorem zIy(x:PreS)(hf:FitsAll x.items)(hl:49≤x.len)(hc:0≤x.count)(t:Bs):zAI (zAi x.items++t)=.ok x:=by
 have h:=zBq (zAi x.items++t) (by rw[List.length_append,zA0];omega);rw[List.take_left' (zA0 x)]at h;rw[←h];unfold zAI;rw[zMR x hf,if_neg (by rw[zA0];omega),if_pos rfl,if_neg (by simp only;omega),if_neg (by simp only;omega)]
def BatS.rowsB (b:BatS):Bs:=b.recs.flatMap encR
def BatS.pre (b:BatS) (sum:Int):PreS:=⟨b.base,49+b.rowsB.length,b.leader,sum,zAQ b.app b.txn b.ctl 3,b.last,b.first,b.maxt,b.prod,b.epoch,b.seq,b.recs.length⟩
def BatS.front (b:BatS) (sum:Int):Bs:=zAi [(b.base,8),(49+b.rowsB.length,4),(b.leader,4),(2,1),(zAD sum,4)]
def BatS.back (b:BatS):Bs:=zAi [(zAQ b.app b.txn b.ctl 3,2),(b.last,4),(b.first,8),(b.maxt,8),(b.prod,8),(b.epoch,2),(b.seq,4),(b.recs.length,4)]
def BatS.crc (b:BatS):Nat:=(zAq 0#32 (b.back++b.rowsB)).toNat
def BatS.enc (b:BatS):Bs:=zAi (b.pre b.crc).items++b.rowsB
theorem BatS.pre_split(b:BatS)(s:Int):zAi (b.pre s).items=b.front s++b.back:=by
 have h:(b.pre s).items=[(b.base,8),(49+(b.rowsB.length:Int),4),(b.leader,4),(2,1),(zAD s,4)]++[(zAQ b.app b.txn b.ctl 3,2),(b.last,4),(b.first,8),(b.maxt,8),(b.prod,8),(b.epoch,2),(b.seq,4),((b.recs.length:Int),4)]:=rfl;rw[h,zBk]
 rfl
theorem BatS.front_len(b:BatS)(s:Int):(b.front s).length=21:=by unfold BatS.front;rw[zBF];rfl
theorem BatS.pre_drop(b:BatS)(s:Int):(zAi (b.pre s).items).drop 21=b.back:=by rw[b.pre_split,List.drop_left' (b.front_len s)]
theorem BatS.crc_lt(b:BatS):b.crc<4294967296:=(zAq 0#32 (b.back++b.rowsB)).isLt
theorem zF3{n:Int}{k:Nat}(h1:1≤k)(h8:k≤8)(lo: -half k≤n)(hi:n<half k):fits n k:=by
 refine⟨by omega,by omega,?_,?_⟩<;>rw[Int.toNat_natCast]<;>assumption
theorem zB7{b:BatS}(h:zAA b=0):b.placed=true∧(b.ctl=true→b.txn=true)∧b.signed=true∧zBT b.recs=0:=by
 unfold zAA at h
 by_cases p1:b.placed=false
 · rw[if_pos p1]at h;cases h
 rw[if_neg p1]at h
 by_cases p2:b.ctl=true∧b.txn=false
 · rw[if_pos p2]at h;cases h
 rw[if_neg p2]at h
 by_cases p3:b.signed=false
 · rw[if_pos p3]at h;cases h
 rw[if_neg p3]at h
 by_cases p4:b.ctl=true∧b.recs.length≠1
 · rw[if_pos p4]at h;cases h
 rw[if_neg p4]at h
 by_cases p5:zBT b.recs≠0
 · rw[if_pos p5]at h;exact absurd h p5
 refine⟨by simpa using p1,fun hc=> ?_,by simpa using p3,Classical.not_not.1 p5⟩
 cases ht:b.txn with
 |true=>rfl
 |false=>exact absurd ⟨hc,ht⟩ p2
theorem zLd{b:BatS}(h:b.signed=true): -1≤b.prod∧(-1≤b.epoch∧b.epoch≤32767)∧(-1≤b.seq∧b.seq≤2147483647):=by
 unfold BatS.signed at h
 by_cases p:b.prod= -1
 · rw[if_pos p]at h;have:=of_decide_eq_true h
   omega
 rw[if_neg p]at h
 by_cases q:b.prod<0∨¬(0≤b.epoch∧b.epoch≤32767)
 · rw[if_pos q]at h;cases h
 rw[if_neg q]at h
 cases hc:b.ctl with
 |true=>
   rw[hc]at h;have h:decide (b.seq= -1)=true:=h;have:=of_decide_eq_true h
   omega
 |false=>
   rw[hc]at h;have h:decide (0≤b.seq∧b.seq≤2147483647)=true:=h;have:=of_decide_eq_true h
   omega
theorem zEx(a t c:Bool):(0≤zAQ a t c 3∧zAQ a t c 3≤63)∧zAf (zAQ a t c 3) 3=a∧zAf (zAQ a t c 3) 4=t∧zAf (zAQ a t c 3) 5=c∧((c=true→t=true)→chk (zAQ a t c 3)=0):=by
 cases a<;>cases t<;>cases c<;>decide
theorem zq12{p:Prop}(h:p:=by exact zF3 (by simp only;decide) (by simp only;decide) (by rw[h4];simp only;omega) (by rw[h4];simp only;omega)):p:=h
theorem zq16{p:Prop}(h:p:=by exact zF3 (by simp only;decide) (by simp only;decide) (by rw[h8];simp only;omega) (by rw[h8];simp only;omega)):p:=h
theorem BatS.fitsAll{b:BatS}(h:zAA b=0)(hR:b.R)(s:Int)(hs:0≤s∧s≤4294967295)(hz:b.rowsB.length≤1000000)(hn:b.recs.length≤1000000):FitsAll (b.pre s).items:=by
 obtain⟨p1,p2,p3,p4⟩:=zB7 h;have q1:=of_decide_eq_true p1;obtain⟨q2,q3,q4⟩:=zLd p3;obtain⟨r1,r2,r3,r4,r5,r6,r7,r8⟩:=hR;unfold Rn at r1 r2 r3 r4 r5 r6 r7 r8;have qa:=(zEx b.app b.txn b.ctl).1;have h8:half 8=9223372036854775808:=by decide
 have h4:half 4=2147483648:=by decide
 have h2:half 2=32768:=by decide
 have h1:half 1=128:=by decide
 intro x hx;simp only[PreS.items,BatS.pre,List.mem_cons,List.not_mem_nil,or_false]at hx
 rcases hx with rfl|rfl|rfl|rfl|rfl|rfl|rfl|rfl|rfl|rfl|rfl|rfl|rfl
 · exact zq16
 · exact zq12
 · exact zq12
 · exact zF3 (by simp only;decide) (by simp only;decide) (by rw[h1];simp only;omega) (by rw[h1];simp only;omega)
 · exact zEy s (by omega) (by omega)
 · exact zF3 (by simp only;decide) (by simp only;decide) (by rw[h2];simp only;omega) (by rw[h2];simp only;omega)
 · exact zq12
 · exact zq16
 · exact zq16
 · exact zq16
 · exact zF3 (by simp only;decide) (by simp only;decide) (by rw[h2];simp only;omega) (by rw[h2];simp only;omega)
 · exact zq12
 · exact zq12
theorem BatS.pre_R{b:BatS}(h:zAA b=0)(hR:b.R)(s:Int)(hs:0≤s∧s≤4294967295)(hz:b.rowsB.length≤1000000)(hn:b.recs.length≤1000000):(b.pre s).R:=by
 have qa:=(zEx b.app b.txn b.ctl).1;obtain⟨r1,r2,r3,r4,r5,r6,r7,r8⟩:=hR;unfold Rn at r1 r2 r3 r4 r5 r6 r7 r8;intro n hn;simp only[PreS.list,BatS.pre,List.mem_cons,List.not_mem_nil,or_false]at hn
 rcases hn with rfl|rfl|rfl|rfl|rfl|rfl|rfl|rfl|rfl|rfl|rfl|rfl<;>omega
theorem zKv:∀(rs:List RecS) (rows:Bs) (pos:Nat),pos≤rows.length→rows.drop pos=rs.flatMap encR→(∀x∈rs,x.R∧zAZ x=0∧x.sum≤1000000)→unp rs.length ⟨rows,pos,0⟩=.ok rs
  |[],rows,pos,hp,hd,_=>by
    have hz:rows.length - pos=0:=by rw[←List.length_drop,hd];rfl
    show(if (⟨rows,pos,0⟩:InS).left=0 then Except.ok []else Except.error (10:Int))=Except.ok []
    rw[if_pos (by simp only[InS.left];exact hz)]
  |x::t,rows,pos,hp,hd,hx=>by
    obtain⟨hR,ho,hs⟩:=hx x (by simp);rw[List.flatMap_cons]at hd;have hr:=zLp x hR ho hs (t.flatMap encR);rw[←hd]at hr;obtain⟨hpm,hf⟩:=zCK.ok rows pos x _ hp hr;have hpos:=(zDA hr).2.2.2.2.1
    show(if (⟨rows,pos,0⟩:InS).left=0 then Except.error (10:Int)else if (⟨rows,pos,0⟩:InS).record.2.err=0 then zDn (⟨rows,pos,0⟩:InS).record.1 (unp t.length (⟨rows,pos,0⟩:InS).record.2)else Except.error (⟨rows,pos,0⟩:InS).record.2.err)=Except.ok (x::t)
    rw[if_neg (by simp only[InS.left];omega),hf];simp only[if_true];rw[zKv t rows _ hpm (by rw[←List.drop_drop,hd,List.drop_left]) (fun y hy=>hx y (by simp[hy]))]
    rfl
theorem zNP{b:BatS}(h:zAA b=0)(hf:∀x∈b.recs,x.R∧zAZ x=0∧x.sum≤1000000):asmB (b.pre b.crc) (zAi (b.pre b.crc).items) b.rowsB=.ok b:=by
 obtain⟨_,p2,_,_⟩:=zB7 h;obtain⟨_,a3,a4,a5,a6⟩:=zEx b.app b.txn b.ctl;have hu:=zKv b.recs b.rowsB 0 (Nat.zero_le _) rfl hf;unfold asmB;rw[b.pre_drop];have e1:((zAq 0#32 (b.back++b.rowsB)).toNat:Int)=(b.pre b.crc).sum:=rfl;have e2:(b.pre b.crc).attr=zAQ b.app b.txn b.ctl 3:=rfl;have e3:(b.pre b.crc).count.toNat=b.recs.length:=rfl;rw[if_neg (fun hh=>hh e1),e2,if_neg (fun hh=>hh (a6 p2)),e3,hu];simp only[a3,a4,a5];obtain⟨base,leader,app,txn,ctl,last,first,maxt,prod,epoch,sq,rs⟩:=b;exact if_pos h
theorem zLr{b:BatS}(h:zAA b=0)(hR:b.R)(hf:∀x∈b.recs,x.R∧zAZ x=0∧x.sum≤1000000)(hz:b.rowsB.length≤1000000)(hn:b.recs.length≤1000000)(t:Bs):zBv (b.enc++t)=.ok (b,b.enc.length):=by
 have hc:=b.crc_lt;have hfa:=BatS.fitsAll h hR b.crc (by omega) hz hn;have hp:=zIy (b.pre b.crc) hfa (show(49:Int)≤49+(b.rowsB.length:Int) by omega) (show(0:Int)≤(b.recs.length:Int) by omega) (b.rowsB++t);rw[←List.append_assoc]at hp;have hle:b.enc.length=61+b.rowsB.length:=by unfold BatS.enc;rw[List.length_append,zA0]
 have hl:((b.pre b.crc).len - 49).toNat=b.rowsB.length:=by show((49+(b.rowsB.length:Int)) - 49).toNat=_;omega
 unfold zBv;have hp2:zAI (b.enc++t)=.ok (b.pre b.crc):=hp;rw[hp2];simp only;rw[hl,if_neg (by rw[List.length_append,hle];omega)]
 have t1:(b.enc++t).take 61=zAi (b.pre b.crc).items:=by
  unfold BatS.enc;rw[List.append_assoc,List.take_left' (zA0 _)]
 have t2:((b.enc++t).drop 61).take b.rowsB.length=b.rowsB:=by
  unfold BatS.enc;rw[List.append_assoc,List.drop_left' (zA0 _),List.take_left]
 rw[t1,t2,zNP h hf];simp only;rw[hle]
def hexD (n:Nat):UInt8:=if n<10 then UInt8.ofNat (48+n)else UInt8.ofNat (87+n)
def hexL (s:Bs):Bs:=s.flatMap fun x=>[hexD (x.toNat / 16),hexD (x.toNat % 16)]
def hexW (s:Bs):Bs:=if s=[]then[45]else hexL s
def digB:Bs:=[48,49,50,51,52,53,54,55,56,57,97,98,99,100,101,102]
theorem zNa(s:Bs)(k:Nat)(hk:k<s.length)(x:UInt8)(hx:s[k]=x):hexL (s.take k)++[hexD (x.toNat / 16)]++[hexD (x.toNat % 16)]=hexL (s.take (k+1)):=by
 unfold hexL;rw[List.take_succ_eq_append_getElem hk,hx,List.flatMap_append]
 simp
theorem zE1(s:Bs):(hexL s).length=2*s.length:=by
 unfold hexL
 induction s with
 |nil=>rfl
 |cons a t ih=>rw[List.flatMap_cons,List.length_append,ih];simp;omega
def digI (c:UInt8):Int:=Lib.indexByte digB c
theorem zOM:∀n:Fin 256,(digI (UInt8.ofNat n.1)= -1)∨(0≤digI (UInt8.ofNat n.1)∧digI (UInt8.ofNat n.1)<16∧hexD (digI (UInt8.ofNat n.1)).toNat=UInt8.ofNat n.1):=by decide+kernel
theorem zC4(c:UInt8):digI c= -1∨(0≤digI c∧digI c<16∧hexD (digI c).toNat=c):=by
 have h:=zOM ⟨c.toNat,c.toNat_lt⟩
 simpa using h
theorem zI6:∀n:Fin 16,digI (hexD n.1)=n.1:=by decide+kernel
def zBL:Bs→Option Bs
  |[]=>some []
  |[_]=>none
  |a::b::t=>if digI a= -1∨digI b= -1 then none else(zBL t).map (UInt8.ofNat (digI a*16+digI b).toNat:: ·)
def zIT (w:Bs):Option Bs:=if w=[45]then some []else if w=[]then none else zBL w
theorem zIU:∀w:Bs,w.length % 2≠0→zBL w=none
  |[],h=>absurd rfl h
  |[_],_=>rfl
  |a::b::t,h=>by
    unfold zBL
    by_cases hd:digI a= -1∨digI b= -1
    · rw[if_pos hd]
    · rw[if_neg hd,zIU t (by simp only[List.length_cons]at h;omega)]
      rfl
theorem zGX:∀s:Bs,zBL (hexL s)=some s
  |[]=>rfl
  |x::t=>by
    have h1:=zI6 ⟨x.toNat / 16,by have:=x.toNat_lt;omega⟩;have h2:=zI6 ⟨x.toNat % 16,by omega⟩;simp only at h1 h2;have e:hexL (x::t)=hexD (x.toNat / 16)::hexD (x.toNat % 16)::hexL t:=rfl;rw[e];unfold zBL;rw[h1,h2,if_neg (by omega),zGX t];have h3:((((x.toNat / 16:Nat):Int)*16+((x.toNat % 16:Nat):Int)).toNat)=x.toNat:=by omega
    simp only[Option.map_some];rw[h3,UInt8.ofNat_toNat]
theorem zF1:∀(w c:Bs),zBL w=some c→hexL c=w
  |[],c,h=>by unfold zBL at h;injection h with h;subst h;rfl
  |[_],c,h=>by unfold zBL at h;cases h
  |a::b::t,c,h=>by
    unfold zBL at h
    by_cases hd:digI a= -1∨digI b= -1
    · rw[if_pos hd]at h;cases h
    · rw[if_neg hd]at h
      cases ht:zBL t with
      |none=>rw[ht]at h;cases h
      |some d=>
        rw[ht]at h;injection h with h;subst h;have ih:=zF1 t d ht
        rcases zC4 a with ha|⟨a1,a2,a3⟩
        · exact absurd (.inl ha) hd
        rcases zC4 b with hb|⟨b1,b2,b3⟩
        · exact absurd (.inr hb) hd
        have e:∀x:UInt8,hexL (x::d)=hexD (x.toNat / 16)::hexD (x.toNat % 16)::hexL d:=fun _=>rfl
        rw[e,ih];have h3:(UInt8.ofNat (digI a*16+digI b).toNat).toNat=(digI a*16+digI b).toNat:=by rw[UInt8.toNat_ofNat'];omega
        rw[h3,show(digI a*16+digI b).toNat / 16=(digI a).toNat by omega,show(digI a*16+digI b).toNat % 16=(digI b).toNat by omega,a3,b3]
theorem zLE(s:Bs):zIT (hexW s)=some s:=by
 unfold zIT hexW
 by_cases h:s=[]
 · subst h;rfl
 · rw[if_neg h];have h2:=zE1 s;have h3:0<s.length:=List.length_pos_iff.2 h;rw[if_neg (fun e=>by rw[e]at h2;simp at h2;omega),if_neg (fun e=>by rw[e]at h2;simp at h2;omega),zGX]
theorem zM8{s c:Bs}(h:zIT s=some c):hexW c=s:=by
 unfold zIT at h
 by_cases h1:s=[45]
 · rw[if_pos h1]at h;injection h with h;subst h h1;rfl
 · rw[if_neg h1]at h
   by_cases h2:s=[]
   · rw[if_pos h2]at h;cases h
   · rw[if_neg h2]at h;have h3:=zF1 s c h;unfold hexW;rw[if_neg (fun e=>by subst e;exact h2 h3.symm),h3]
theorem zLF(w d:Bs)(j:Nat)(hj:j+1<w.length)(h:zBL w=(zBL (w.drop j)).map (d++ ·))(ha:digI w[j]≠ -1)(hb:digI w[j+1]≠ -1):zBL w=(zBL (w.drop (j+2))).map ((d++[UInt8.ofNat (digI w[j]*16+digI w[j+1]).toNat])++ ·):=by
 rw[h,List.drop_eq_getElem_cons (by omega:j<w.length),List.drop_eq_getElem_cons hj]
 conv=>lhs;arg 2;unfold zBL
 rw[if_neg (by intro h;rcases h with h|h;exact ha h;exact hb h)]
 cases zBL (w.drop (j+1+1))with
 |none=>rfl
 |some t=>simp
theorem zM9(w d:Bs)(j:Nat)(hj:j+1<w.length)(h:zBL w=(zBL (w.drop j)).map (d++ ·))(hb:digI w[j]= -1∨digI w[j+1]= -1):zBL w=none:=by
 rw[h,List.drop_eq_getElem_cons (by omega:j<w.length),List.drop_eq_getElem_cons hj]
 conv=>lhs;arg 2;unfold zBL
 rw[if_pos hb]
 rfl
variable {W0 w:World}{K:Know}{L:List Res}
theorem zPg:(Tryz.prog.info? 80).map (·.size)=some 2:=by kernel_rfl
theorem zPh:liesAt Tryz.prog Tryz.prog.depth 80 (2 / Tryz.prog.cellsOf 80) 0 80 1=true:=by kernel_rfl
structure SbAt (w:World) (b:Nat) (p v:Value) (l:Bs):Prop where
  ptr:p=.pointer none∨p=.pointer (some ⟨b,0,none⟩)
  blk:w.heap[b]? =some (.cells #[p,v] 80 (0,0))
  row:w.ownsRow 0 5 1 v l.length (Lib.byteCells l)
  ne:v.ownBlock≠some b
def sbG (b:Nat) (l:Bs):Gen where
  p w S:=∃p v,SbAt w b p v l∧∀k,S k↔k=b∨v.ownBlock=some k
  keep w w' S h hs hk:=by
    obtain⟨p,v,⟨h1,h2,h3,h4⟩,h5⟩:=h;refine⟨p,v,⟨h1,(hk b (zA2 h2) ((h5 b).2 (.inl rfl))).trans h2,?_,h4⟩,h5⟩;exact(Res.keep (r:=.row v 5 1 l.length (Lib.byteCells l)) (w:=w) (w':=w') (S:=fun k=>v.ownBlock=some k) ⟨h3,fun k=>Iff.rfl⟩ hs (fun k hl hx=>hk k hl ((h5 k).2 (.inr hx)))).1
theorem St.sbOpen{b:Nat}{l:Bs}(h:St W0 w K (.gen (sbG b l)::L)):∃p v,(p=.pointer none∨p=.pointer (some ⟨b,0,none⟩))∧St W0 w K (.raw b #[p,v] 80::.row v 5 1 l.length (Lib.byteCells l)::L):=by
 obtain⟨a,S,F,⟨S1,S2,⟨p,v,⟨h1,h2,h3,h4⟩,h5⟩,hL,hd,he⟩,c⟩:=h;refine⟨p,v,h1,a,S,F,⟨fun k=>k=b,fun k=>v.ownBlock=some k∨S2 k,⟨h2,fun _=>Iff.rfl⟩,⟨fun k=>v.ownBlock=some k,S2,⟨h3,fun _=>Iff.rfl⟩,hL,fun k hk=>hd k ((h5 k).2 (.inr hk)),fun _=>Iff.rfl⟩,?_,fun k=> ?_⟩,c⟩
 · rintro k rfl (hk|hk)
   · exact h4 hk
   · exact hd k ((h5 k).2 (.inl rfl)) hk
 · rw[he,h5,or_assoc]
theorem St.sbShut{b:Nat}{p v:Value}{l:Bs}{n:Nat}{cs:List Value}(hp:p=.pointer none∨p=.pointer (some ⟨b,0,none⟩))(hn:n=l.length)(hc:cs=Lib.byteCells l)(h:St W0 w K (.raw b #[p,v] 80::.row v 5 1 n cs::L)):St W0 w K (.gen (sbG b l)::L):=by
 subst hn hc;obtain⟨a,S,F,⟨S1,S2,⟨h2,e1⟩,⟨S3,S4,⟨h3,e3⟩,hL,d2,e2⟩,d1,e⟩,c⟩:=h;refine⟨a,S,F,⟨fun k=>S1 k∨S3 k,S4,⟨p,v,⟨hp,h2,h3,fun h=>d1 b ((e1 b).2 rfl) ((e2 b).2 (.inl ((e3 b).2 h)))⟩,fun k=>by show S1 k∨S3 k↔_;rw[e1,e3]⟩,hL,?_,fun k=> ?_⟩,c⟩
 · rintro k (hk|hk) h4
   · exact d1 k hk ((e2 k).2 (.inr h4))
   · exact d2 k hk h4
 · rw[e,e2,or_assoc]
theorem St.sbNew(h:St W0 w K L):St W0 (w.alloc (.cells #[.pointer none,.slice none 0 0] 80 (0,0))) K (.gen (sbG w.heap.size [])::L):=
 St.sbShut (.inl rfl) rfl rfl (((h.allocRaw #[.pointer none,.slice none 0 0] 80).nilRow 5 1).p1)
theorem zKD(b:Nat)(p v:Value)(hp:p=.pointer none∨p=.pointer (some ⟨b,0,none⟩))(h:St W0 w K (.raw b #[p,v] 80::L)):
   Calls Tryz.prog 84 #[.pointer (some ⟨b,0,none⟩)] w fun en w'=>en=.returned (.tuple #[])∧St W0 w' K (.raw b #[.pointer (some ⟨b,0,none⟩),v] 80::L):=by
 obtain⟨j,hj,hjs⟩:=Option.map_eq_some_iff.1 zPg
 rcases hp with rfl|rfl
 · have hsh:w.shape? b=some (80,2):=by have h9:=h.rawGet;simp[World.shape?,h9]
   have c0:=(h).rawCell 0;have c1:=(h).rawCell 1;simp at c0 c1;have r0:=(h).rawFree 0;have r1:=(h).rawFree 1;have H:=hQd h;clear h;go_enter Tryz.func84,Tryz.ntmps84;go_wp2;rw[Lib.run_to_unsafe w ⟨b,0,none⟩ Tryz.underlying78 Tryz.underlying167 hj (by rw[hjs];decide) hsh (Nat.zero_lt_succ 1)];simp only[Result.andThen];rw[Oper.upon_value];go_wp2;rw[run_callFunc_extern Tryz.func118 (by kernel_rfl) (by kernel_rfl) (by kernel_rfl) (e:=Extern.AbiNoEscape.same) (by kernel_rfl)];rw[Lib.run_noEscape];simp only[Result.andThen];rw[Oper.upon_value];go_wp2;rw[Lib.run_from_unsafe w ⟨b,0,none⟩ Tryz.underlying167 Tryz.underlying78 hj hsh zPh];simp only[Result.andThen];rw[Oper.upon_value];go_wp2;go_end0;exact⟨rfl,H.out.rawSet 0 _⟩
 · have c0:=(h).rawCell 0;have c1:=(h).rawCell 1;simp at c0 c1;have r0:=(h).rawFree 0;have r1:=(h).rawFree 1;have H:=hQd h;clear h;go_enter Tryz.func84,Tryz.ntmps84;go_wp2;rw[Lib.run_neq_ptr_same w _ Tryz.underlying78 hj];go_wp2;go_end0;exact⟨rfl,H.out⟩
theorem zGv(l:Bs)(x:UInt8):Lib.byteCells l++[.int .u8 x.toNat]=Lib.byteCells (l++[x]):=by simp[Lib.byteCells]
theorem zHV(l:Bs)(s:Bs):Lib.byteCells l++Lib.strCells (bb s)=Lib.byteCells (l++s):=by simp[Lib.byteCells,Lib.strCells]
theorem zJt{ops:Array Oper}{rest:List Oper}{o:Oper}{a:Act}{Q:Exit→Act→World→Prop}(hgd:o.guard=none)(sl x:Operand)(t u:TypeId)
    (ho:o.op=.call {callee:=.builtin .append,args:= #[sl,x],argTypes:= #[t,u]})(ht:Tryz.prog.underlying t=some (.slice 5))(hu:Tryz.prog.underlying u=some .string)
    (v:Value)(n:Nat)(xs:List Value)(hs:a.eval sl=v)(hst:St W0 w K (.row v 5 1 n xs::L))(s:ByteArray)(hx:a.eval x=.string s)(hbytes:n+s.size≤140737488355328)
    (h:∀v' w',St W0 w' K (.row v' 5 1 (n+s.size) (xs++Lib.strCells s)::L)→wpList Tryz.prog ops Q rest (a.put o.dst v') w'):wpList Tryz.prog ops Q (o::rest) a w:=by
  obtain⟨⟨i,g1,g2,g3,g4⟩,g5,g6⟩:=zHK;exact zDc hgd sl x t u ho 5 i ht hu g1 g2 g3 g4 v n xs hs hst.rowGet s hx hbytes fun v' w' k1 k2 k3=>h v' w' (hst.rowGrown k1 k2 k3)
theorem zPi(b:Nat)(l:Bs)(x:UInt8)(hl:l.length≤1000000000000)(h:St W0 w K (.gen (sbG b l)::L)):
  Calls Tryz.prog 46 #[.pointer (some ⟨b,0,none⟩),.int .u8 x.toNat] w fun en w'=>en=.returned .nilIface∧St W0 w' K (.gen (sbG b (l++[x]))::L):=by
 obtain⟨p,v,hp,h⟩:=h.sbOpen;obtain⟨qv,cv,hv⟩:=h.p1.rowAny;subst hv;have c0:=(h).rawCell 0;have c1:=(h).rawCell 1;simp at c0 c1;have r0:=(h).rawFree 0;have r1:=(h).rawFree 1;have H:=hQd h;have HP:=hQd hp;have HL:=hQd hl;clear h hp hl;go_enter Tryz.func46,Tryz.ntmps46
 go_wp2_with (first
  |(go_at_call 84;(try clear c0 c1 r0 r1);(with_reducible refine(zKD b p _ HP.out H.out).mono ?_);rintro e_ wn ⟨rfl,h⟩;have c0:=(h).rawCell 0;have c1:=(h).rawCell 1;simp at c0 c1;have r0:=(h).rawFree 0;have r1:=(h).rawFree 1;have h:=h.p1;replace H:=hQd h;clear h)
  |(at_builtin;refine zAB rfl _ _ 57 rfl 5 Tryz.underlying57 zHK _ _ _ rfl H.out [.int .u8 x.toNat] 5 (by first|rfl|(rw[World.size_alloc];rfl)) rfl (by simp[Value.oneCell'];done) (by have:=HL.out;unfold maxLen;omega) (by have:=HL.out;omega) ?_;intro v' w' h;obtain⟨qw,cw,hw⟩:=h.rowAny;subst hw;have h:=h.p1;have c0:=(h).rawCell 0;have c1:=(h).rawCell 1;simp at c0 c1;have r0:=(h).rawFree 0;have r1:=(h).rawFree 1;replace H:=hQd h;clear h))
 go_ret;exact⟨rfl,St.sbShut (.inr rfl) (by simp) (zGv l x) (H.out.rawSet 1 _)⟩
theorem zMl(b:Nat)(l s:Bs)(hl:l.length+s.length≤1000000000000)(h:St W0 w K (.gen (sbG b l)::L)):
  Calls Tryz.prog 76 #[.pointer (some ⟨b,0,none⟩),.string (bb s)] w fun en w'=>en=.returned (.tuple #[.int .i64 s.length,.nilIface])∧St W0 w' K (.gen (sbG b (l++s))::L):=by
 obtain⟨p,v,hp,h⟩:=h.sbOpen;obtain⟨qv,cv,hv⟩:=h.p1.rowAny;subst hv;have c0:=(h).rawCell 0;have c1:=(h).rawCell 1;simp at c0 c1;have r0:=(h).rawFree 0;have r1:=(h).rawFree 1;have H:=hQd h;have HP:=hQd hp;have HL:=hQd hl;clear h hp hl;go_enter Tryz.func76,Tryz.ntmps76
 go_wp2_with (first
  |(go_at_call 84;(try clear c0 c1 r0 r1);(with_reducible refine(zKD b p _ HP.out H.out).mono ?_);rintro e_ wn ⟨rfl,h⟩;have c0:=(h).rawCell 0;have c1:=(h).rawCell 1;simp at c0 c1;have r0:=(h).rawFree 0;have r1:=(h).rawFree 1;have h:=h.p1;replace H:=hQd h;clear h)
  |(at_builtin;refine zJt rfl _ _ 57 9 rfl Tryz.underlying57 Tryz.underlying9 _ _ _ rfl H.out (bb s) rfl (by have h8:=HL.out;have h9:(bb s).size=s.length:=(by simp);omega) ?_;intro v' w' h;obtain⟨qw,cw,hw⟩:=h.rowAny;subst hw;have h:=h.p1;have c0:=(h).rawCell 0;have c1:=(h).rawCell 1;simp at c0 c1;have r0:=(h).rawFree 0;have r1:=(h).rawFree 1;replace H:=hQd h;clear h))
 go_ret2;exact⟨by simp,St.sbShut (.inr rfl) (by simp) (zHV l s) (H.out.rawSet 1 _)⟩
theorem zIR(w:World)(g n:Nat):Keeps (· =g) w (w.freeze ⟨g,0,none⟩ n):=by
 unfold World.freeze
 split
 · exact Keeps.refl _ _
 · refine⟨rfl,rfl,rfl,by simp,fun k hk hne=> ?_⟩;simp only[Array.getElem?_modify];rw[if_neg (fun e=>hne e.symm)]
theorem St.gone{w':World}{r:Res}(h:St W0 w K (r::L))(hr:∀S1,r.holds w S1→Keeps S1 w w'):St W0 w' K L:=
 St.drop (r:=.gen ⟨fun _ S=>∀k,¬S k,fun _ _ _ h _ _=>h⟩) (h.step fun S1 h1=>⟨fun _=>False,fun _ h=>h,hr S1 h1,fun _ h=>h.elim⟩)
theorem zMk(b:Nat)(l:Bs)(h0:l≠[])(h:St W0 w K (.gen (sbG b l)::L)):
  Calls Tryz.prog 47 #[.pointer (some ⟨b,0,none⟩)] w fun en w'=>en=.returned (.string (bb l))∧St W0 w' K L:=by
 obtain⟨p,v,hp,h⟩:=h.sbOpen;have hl:0<l.length:=List.length_pos_iff.2 h0;obtain⟨g,cap,hv⟩:=h.p1.rowSlice hl;subst hv;have h1:=h.drew;have c0:=(h1).rawCell 0;have c1:=(h1).rawCell 1;simp at c0 c1
 obtain⟨hlc,hcap,cur,hg⟩:l.length≤cap∧cap≤maxLen∧∃cur,w.heap[g]? =some (.cells cur 5 (0,0))∧cur.size=cap:=by
  rcases h.p1.rowGet.2 with ⟨h2,_⟩|⟨g2,cap2,cur,h2,_,h3,h4,h5,h6,_⟩
  · cases h2
  · injection h2 with e1 e2 e3;injection e1 with e1;injection e1 with e1;subst e1 e3;exact⟨h4,h5,cur,h3,by omega⟩
 have hSD:(Builtin.unsafeSliceData_ #[57] 127 #[.slice (some ⟨g,0,none⟩) l.length cap]).run Tryz.prog w.drew=.ok (.pointer (some ⟨g,0,none⟩)) w.drew:=
  Lib.run_unsafeSliceData_row _ _ _ _ _ _ (by omega)
 have hUS:(Builtin.unsafeString_ #[127,3] 9 #[.pointer (some ⟨g,0,none⟩),.int .i64 l.length]).run Tryz.prog w.drew=.ok (.string (bb l)) (w.drew.freeze ⟨g,0,none⟩ l.length):=by
  refine Lib.run_unsafeString_row w.drew 127 3 9 5 Tryz.underlying127 (by kernel_rfl) g cur.size (by have hg':w.drew.heap[g]? =some (.cells cur 5 (0,0)):=hg.1;simp[World.shape?,hg']) l h0 (by omega) (by unfold maxLen at hcap;omega) ?_;intro j x hx;exact h1.p1.rowGet.cells (g:=g) rfl j (.int .u8 x.toNat) (by simp[Lib.byteCells,hx])
 have hz:St W0 (w.drew.freeze ⟨g,0,none⟩ l.length) K L:=(h1.p1.gone fun S1 hr=>(zIR _ g _).mono (fun k _ hk=>by rw[hk];exact(hr.2 g).2 rfl)).drop;have H:=hQd hz;clear h h1 hz hp hg;go_enter Tryz.func47,Tryz.ntmps47;go_wp2
 go_region
 go_wp2;go_ret;exact⟨rfl,H.out⟩
theorem zEZ{P:Program}{o:Oper}{a:Act}{w w':World}{v:Value}{KK:Act→World→Prop}{Q:Exit→Act→World→Prop}(hr:(execOp a.eval o).run P w=.ok (.value v) w')(h:KK (a.put o.dst v) w'):o.wp P a w KK Q:=by
 unfold Oper.wp;rw[hr];exact h
theorem zMT{P:Program}{o:Oper}{a:Act}{w w':World}{KK:Act→World→Prop}{Q:Exit→Act→World→Prop}(hr:(execOp a.eval o).run P w=.ok .skip w')(h:KK (a.put o.dst undef) w'):o.wp P a w KK Q:=by
 unfold Oper.wp;rw[hr];exact h
theorem St.setEx{W0 w:World}{K:Know}{L:List Res}{b:Nat}{c:Array Value}{T:TypeId}(h:St W0 w K (.raw b c T::L))(j:Nat)(v:Value):∃wz,w.setCell ⟨b,j,none⟩ v=wz∧St W0 wz K (.raw b (c.setIfInBounds j v) T::L):=⟨_,rfl,h.rawSet j v⟩
end Go.Proofs.YtenojajfacacoaaGreatDoor
