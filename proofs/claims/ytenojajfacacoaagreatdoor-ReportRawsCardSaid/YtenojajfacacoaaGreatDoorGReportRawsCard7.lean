/- A text. -/
import Derived.Test.YtenojajfacacoaaGreatDoorGReportRawsCard6
import Derived.Deep.DeepCutAuto
import Derived.Test.YtenojajfacacoaaGreatDoorGReportRawsCard5
import Derived.Test.YtenojajfacacoaaGreatDoorGReportRawsCard4
/- A text. -/
namespace Go.Proofs.YtenojajfacacoaaGreatDoor
open Go.RowKit
set_option maxHeartbeats 1000000
set_option maxRecDepth 100000
theorem zGB(s t1:Bs)(u k:Nat)(hl1:0<s.length)(hz:s[0]=0)(q1:s.drop 1=t1)(hv1:zAL 1 10 0 0 t1=.ok (u,k))(hu:u<18446744073709551616)(hs:s.length≤1000000)(s2:Bs)(hk:1+k≤s.length)(q2:s.drop (1+k)=s2)(v m:Nat)(bt bo:Int)(hv2:zAL 15 5 0 0 s2=.ok (v,m))(hbt:zAR u=bt)(hbo:zAR v=bo)(hvv:v<18446744073709551616)(s3:Bs)(hm:m≤s2.length)(q3:s2.drop m=s3)(ho:0≤bo)(s4:Bs)(kb:BlobS)(ka:Nat)(hka:ka≤s3.length)(q4:s3.drop ka=s4)(hg1:zAe s3=.ok (kb,ka))(s5:Bs)(vb:BlobS)(va:Nat)(hva:va≤s4.length)(q5:s4.drop va=s5)(hg2:zAe s4=.ok (vb,va))(l:List HdrS)(ha:Nat)(hh:zAI s5=.ok (l,ha))(hne:ha=s5.length){W0 w:World}{K:Know}{L:List Res}(h:St W0 w K L):
  Calls Tryz.prog 127 #[.string (bb s)] w fun en w'=>∃v,en=.returned (.agg #[.int .i64 bt,.int .i64 bo,.bool kb.null,.string (bb kb.data),.bool vb.null,.string (bb vb.data),v,.int .i64 0,.int .i64 0])∧St W0 w' (K.and (Know.flat RHdr v 3 l)) L:=by
 have h0:=h.allocRaw #[.int .i64 0,.int .i64 0,.bool false,.string ⟨#[]⟩,.bool false,.string ⟨#[]⟩,.slice none 0 0,.int .i64 0,.int .i64 0] 146;obtain⟨wA,hwA⟩:∃b,w.heap.size=b:=⟨_,rfl⟩;rw[hwA]at h0;have H:=hQd h0;have h1:decide ((s.length:Int)<1)=false:=decide_eq_false (by omega);have hcn:((s[0].toNat:Int) !=0)=false:=by rw[hz];rfl
 have hb1:(1:Int)≤(s.length:Int):=by omega
 have HV1:=hQd hv1;have HU:=hQd hu;have hlt1:t1.length+1=s.length:=by rw[←q1,List.length_drop];omega
 have HS1:=hQd (show t1.length≤140737488355328 by omega);have Q1:=hQd (show List.take (s.length - 1) (List.tail s)=t1 by rw[←q1,List.drop_one];exact List.take_of_length_le (by simp));have k1:True:=trivial;have hb2:(1:Int)+k≤(s.length:Int):=by omega
 have hl2:s2.length+k+1=s.length:=by rw[←q2,List.length_drop];omega
 have HS2:=hQd (show s2.length≤140737488355328 by omega);have Q2:=hQd (show List.take (s.length - (1+k)) (List.drop (1+k) s)=s2 by rw[←q2];exact List.take_of_length_le (by simp));have HV2:=hQd hv2;have HBT:=hQd hbt;have HBO:=hQd hbo;have HW:=hQd hvv;have hdo:decide (bo<0)=false:=decide_eq_false (by omega);have hb3:(m:Int)≤(s2.length:Int):=by omega
 have hl3:s3.length+m=s2.length:=by rw[←q3,List.length_drop];omega
 have HS3:=hQd (show s3.length≤140737488355328 by omega);have Q3:=hQd (show List.take (s2.length - m) (List.drop m s2)=s3 by rw[←q3];exact List.take_of_length_le (by simp));have hb4:(ka:Int)≤(s3.length:Int):=by omega
 have hl4:s4.length+ka=s3.length:=by rw[←q4,List.length_drop];omega
 have HS4:=hQd (show s4.length≤140737488355328 by omega);have Q4:=hQd (show List.take (s3.length - ka) (List.drop ka s3)=s4 by rw[←q4];exact List.take_of_length_le (by simp));have HG1:=hQd (show gotV (zAe s3)=.agg #[.bool kb.null,.string (bb kb.data),.int .i64 ka,.int .i64 0] by rw[hg1];rfl);have hb5:(va:Int)≤(s4.length:Int):=by omega
 have hl5:s5.length+va=s4.length:=by rw[←q5,List.length_drop];omega
 have HS5:=hQd (show s5.length≤140737488355328 by omega);have Q5:=hQd (show List.take (s4.length - va) (List.drop va s4)=s5 by rw[←q5];exact List.take_of_length_le (by simp));have HG2:=hQd (show gotV (zAe s4)=.agg #[.bool vb.null,.string (bb vb.data),.int .i64 va,.int .i64 0] by rw[hg2];rfl);have HH:=hQd hh;have hnb:((ha:Int) !=(s5.length:Int))=false:=by rw[hne];simp
 clear hz hv1 hu q1 q2 hv2 hbt hbo hvv q3 q4 hg1 q5 hg2 hh hne h h0;go_enter Tryz.func127,Tryz.ntmps127
 go_upto_region 29 with (first
  |(go_at_call 152;have _t:=k1;clear _t;rw[Q1.out];(with_reducible refine(zBA t1 u k HV1.out HS1.out H.out).mono ?_);rintro e wn ⟨rfl,h⟩;replace H:=hQd h;clear h;clear k1;have k2:True:=trivial)
  |(go_at_call 152;have _t:=k2;clear _t;rw[Q2.out];(with_reducible refine(zCc s2 v m HV2.out HS2.out H.out).mono ?_);rintro e wn ⟨rfl,h⟩;replace H:=hQd h;clear h;clear k2;have k3:True:=trivial)
  |(go_at_call 154;have _t:=k3;clear _t;(with_reducible refine(zAX u bt HBT.out HU.out H.out).mono ?_);rintro e wn ⟨rfl,h⟩;replace H:=hQd h;clear h;clear k3;have k4:True:=trivial)
  |(go_at_call 154;have _t:=k4;clear _t;(with_reducible refine(zAX v bo HBO.out HW.out H.out).mono ?_);rintro e wn ⟨rfl,h⟩;obtain⟨wR,hwR⟩:∃b,wn.heap.size=b:=⟨_,rfl⟩;have h:=h.allocRaw #[.int .i64 bt,.int .i64 bo,.bool false,.string ⟨#[]⟩,.bool false,.string ⟨#[]⟩,.slice none 0 0] 54;rw[hwR]at h;replace H:=hQd h;clear h;clear k4;have k5:True:=trivial;obtain⟨rc0,rc1,rc2,rc3,rc4,rc5,rc6,rf0,rf1,rf2,rf3,rf4,rf5,rf6⟩:=raw7 (b:=wR) (H.out))
  |(go_at_call 125;have _t:=k5;clear _t;rw[Q3.out];(with_reducible refine(zAi s3 s3 _ rfl HS3.out HG1.out H.out).mono ?_);rintro e wn ⟨rfl,h⟩;obtain⟨wK,hwK⟩:∃b,wn.heap.size=b:=⟨_,rfl⟩;have h:=h.allocRaw #[.bool kb.null,.string (bb kb.data),.int .i64 ka,.int .i64 0] 176;rw[hwK]at h;replace H:=hQd h;clear h;clear k5;have k6:True:=trivial;obtain⟨q0,q1,q2,q3⟩:=zAt (b:=wK) (H.out))
  |(go_at_call 125;have _t:=k6;clear _t;rw[Q4.out];(with_reducible refine(zAi s4 s4 _ rfl HS4.out HG2.out H.out).mono ?_);rintro e wn ⟨rfl,h⟩;obtain⟨wV,hwV⟩:∃b,wn.heap.size=b:=⟨_,rfl⟩;have h:=h.allocRaw #[.bool vb.null,.string (bb vb.data),.int .i64 va,.int .i64 0] 176;rw[hwV]at h;replace H:=hQd h;clear h;clear k6;have k7:True:=trivial;obtain⟨p0,p1,p2,p3⟩:=zAt (b:=wV) (H.out);obtain⟨q0,q1,q2,q3⟩:=zAt (b:=wK) (H.out.p1))
  |(go_at_call 155;have _t:=k7;clear _t;rw[Q5.out];refine(zFO s5 l ha HH.out HS5.out H.out).mono ?_;rintro e wn ⟨vh,rfl,h⟩;obtain⟨qh,caph,hvh⟩:=zAv (Know.has_right (Know.has_refl _)) h;subst hvh;replace H:=hQd h;clear h;clear k7;have k8:True:=trivial;(first|(obtain⟨ac0,ac1,ac2,ac3,ac4,ac5,ac6,ac7,ac8,af0,af1,af2,af3,af4,af5,af6,af7,af8⟩:=raw9 (b:=wA) (H.out))|(obtain⟨ac0,ac1,ac2,ac3,ac4,ac5,ac6,ac7,ac8,af0,af1,af2,af3,af4,af5,af6,af7,af8⟩:=raw9 (b:=wA) (H.out.p1))|(obtain⟨ac0,ac1,ac2,ac3,ac4,ac5,ac6,ac7,ac8,af0,af1,af2,af3,af4,af5,af6,af7,af8⟩:=raw9 (b:=wA) (H.out.p2))|(obtain⟨ac0,ac1,ac2,ac3,ac4,ac5,ac6,ac7,ac8,af0,af1,af2,af3,af4,af5,af6,af7,af8⟩:=raw9 (b:=wA) (H.out.p3))|(obtain⟨ac0,ac1,ac2,ac3,ac4,ac5,ac6,ac7,ac8,af0,af1,af2,af3,af4,af5,af6,af7,af8⟩:=raw9 (b:=wA) (H.out.p4)));obtain⟨rc0,rc1,rc2,rc3,rc4,rc5,rc6,rf0,rf1,rf2,rf3,rf4,rf5,rf6⟩:=raw7 (b:=wR) (H.out.p2);obtain⟨p0,p1,p2,p3⟩:=zAt (b:=wV) (H.out);obtain⟨q0,q1,q2,q3⟩:=zAt (b:=wK) (H.out.p1))
  |(go_at_call 126;refine(zAO _ H.out).mono ?_;rintro e wn ⟨rfl,h⟩;replace H:=hQd h;clear h;(first|(obtain⟨ac0,ac1,ac2,ac3,ac4,ac5,ac6,ac7,ac8,af0,af1,af2,af3,af4,af5,af6,af7,af8⟩:=raw9 (b:=wA) (H.out))|(obtain⟨ac0,ac1,ac2,ac3,ac4,ac5,ac6,ac7,ac8,af0,af1,af2,af3,af4,af5,af6,af7,af8⟩:=raw9 (b:=wA) (H.out.p1))|(obtain⟨ac0,ac1,ac2,ac3,ac4,ac5,ac6,ac7,ac8,af0,af1,af2,af3,af4,af5,af6,af7,af8⟩:=raw9 (b:=wA) (H.out.p2))|(obtain⟨ac0,ac1,ac2,ac3,ac4,ac5,ac6,ac7,ac8,af0,af1,af2,af3,af4,af5,af6,af7,af8⟩:=raw9 (b:=wA) (H.out.p3))|(obtain⟨ac0,ac1,ac2,ac3,ac4,ac5,ac6,ac7,ac8,af0,af1,af2,af3,af4,af5,af6,af7,af8⟩:=raw9 (b:=wA) (H.out.p4)))))
 go_cut [2,9,10,11,12] (fun s2 s9 s10 s11 s12 wx=>s2=.pointer (some ⟨wA,0,none⟩)∧s9=.pointer (some ⟨wR,0,none⟩)∧s10=.pointer (some ⟨wK,0,none⟩)∧s11=.pointer (some ⟨wV,0,none⟩)∧s12=.slice qh l.length caph∧St W0 wx (K.and (Know.flat RHdr (.slice qh l.length caph) 3 l)) (.raw wV #[.bool vb.null,.string (bb vb.data),.int .i64 va,.int .i64 0] 176::.raw wK #[.bool kb.null,.string (bb kb.data),.int .i64 ka,.int .i64 0] 176::.raw wR #[.int .i64 bt,.int .i64 bo,.bool kb.null,.string (bb kb.data),.bool false,.string ⟨#[]⟩,.slice none 0 0] 54::.raw wA #[.int .i64 0,.int .i64 0,.bool false,.string ⟨#[]⟩,.bool false,.string ⟨#[]⟩,.slice none 0 0,.int .i64 0,.int .i64 0] 146::L))
 case first=>
  obtain⟨ac0,ac1,ac2,ac3,ac4,ac5,ac6,ac7,ac8,af0,af1,af2,af3,af4,af5,af6,af7,af8⟩:=raw9 (b:=wA) (H.out.p3);obtain⟨rc0,rc1,rc2,rc3,rc4,rc5,rc6,rf0,rf1,rf2,rf3,rf4,rf5,rf6⟩:=raw7 (b:=wR) (H.out.p2);obtain⟨p0,p1,p2,p3⟩:=zAt (b:=wV) (H.out);obtain⟨q0,q1,q2,q3⟩:=zAt (b:=wK) (H.out.p1);have n1:¬(wV=wR):=H.out.p1.drop.raw_ne;have n2:¬(wK=wR):=H.out.drop.raw_ne;have n3:¬(wR=wA):=H.out.drop.drop.raw_ne;have m1:¬(wR=wV):=fun e=>n1 e.symm;have m2:¬(wR=wK):=fun e=>n2 e.symm;have m3:¬(wA=wR):=fun e=>n3 e.symm
  go_wp2_with fail;go_meet;exact⟨rfl,rfl,rfl,rfl,rfl,((H.out.p2.rawSet 2 _).rawSet 3 _).p2.p2⟩
 case rest=>
 obtain⟨rfl,rfl,rfl,rfl,rfl,hst⟩:=hcut;clear H;have H:=hQd hst;clear hst;go_upto_region 30 with (fail);go_cut [2,9,10,11,12] (fun s2 s9 s10 s11 s12 wx=>s2=.pointer (some ⟨wA,0,none⟩)∧s9=.pointer (some ⟨wR,0,none⟩)∧s10=.pointer (some ⟨wK,0,none⟩)∧s11=.pointer (some ⟨wV,0,none⟩)∧s12=.slice qh l.length caph∧St W0 wx (K.and (Know.flat RHdr (.slice qh l.length caph) 3 l)) (.raw wV #[.bool vb.null,.string (bb vb.data),.int .i64 va,.int .i64 0] 176::.raw wK #[.bool kb.null,.string (bb kb.data),.int .i64 ka,.int .i64 0] 176::.raw wR #[.int .i64 bt,.int .i64 bo,.bool kb.null,.string (bb kb.data),.bool vb.null,.string (bb vb.data),.slice none 0 0] 54::.raw wA #[.int .i64 0,.int .i64 0,.bool false,.string ⟨#[]⟩,.bool false,.string ⟨#[]⟩,.slice none 0 0,.int .i64 0,.int .i64 0] 146::L))
 case first=>
  obtain⟨ac0,ac1,ac2,ac3,ac4,ac5,ac6,ac7,ac8,af0,af1,af2,af3,af4,af5,af6,af7,af8⟩:=raw9 (b:=wA) (H.out.p3);obtain⟨rc0,rc1,rc2,rc3,rc4,rc5,rc6,rf0,rf1,rf2,rf3,rf4,rf5,rf6⟩:=raw7 (b:=wR) (H.out.p2);obtain⟨p0,p1,p2,p3⟩:=zAt (b:=wV) (H.out);obtain⟨q0,q1,q2,q3⟩:=zAt (b:=wK) (H.out.p1);have n1:¬(wV=wR):=H.out.p1.drop.raw_ne;have n2:¬(wK=wR):=H.out.drop.raw_ne;have n3:¬(wR=wA):=H.out.drop.drop.raw_ne;have m1:¬(wR=wV):=fun e=>n1 e.symm;have m2:¬(wR=wK):=fun e=>n2 e.symm;have m3:¬(wA=wR):=fun e=>n3 e.symm
  go_wp2_with fail;go_meet;exact⟨rfl,rfl,rfl,rfl,rfl,((H.out.p2.rawSet 4 _).rawSet 5 _).p2.p2⟩
 case rest=>
 obtain⟨rfl,rfl,rfl,rfl,rfl,hst⟩:=hcut;clear H;have H:=hQd hst;clear hst;go_upto_region 31 with (fail);go_cut [2,9,10,11,12] (fun s2 s9 s10 s11 s12 wx=>s2=.pointer (some ⟨wA,0,none⟩)∧s9=.pointer (some ⟨wR,0,none⟩)∧s10=.pointer (some ⟨wK,0,none⟩)∧s11=.pointer (some ⟨wV,0,none⟩)∧s12=.slice qh l.length caph∧St W0 wx (K.and (Know.flat RHdr (.slice qh l.length caph) 3 l)) (.raw wV #[.bool vb.null,.string (bb vb.data),.int .i64 va,.int .i64 0] 176::.raw wK #[.bool kb.null,.string (bb kb.data),.int .i64 ka,.int .i64 0] 176::.raw wR #[.int .i64 bt,.int .i64 bo,.bool kb.null,.string (bb kb.data),.bool vb.null,.string (bb vb.data),.slice qh l.length caph] 54::.raw wA #[.int .i64 0,.int .i64 0,.bool false,.string ⟨#[]⟩,.bool false,.string ⟨#[]⟩,.slice none 0 0,.int .i64 0,.int .i64 0] 146::L))
 case first=>
  obtain⟨ac0,ac1,ac2,ac3,ac4,ac5,ac6,ac7,ac8,af0,af1,af2,af3,af4,af5,af6,af7,af8⟩:=raw9 (b:=wA) (H.out.p3);obtain⟨rc0,rc1,rc2,rc3,rc4,rc5,rc6,rf0,rf1,rf2,rf3,rf4,rf5,rf6⟩:=raw7 (b:=wR) (H.out.p2);obtain⟨p0,p1,p2,p3⟩:=zAt (b:=wV) (H.out);obtain⟨q0,q1,q2,q3⟩:=zAt (b:=wK) (H.out.p1);have n1:¬(wV=wR):=H.out.p1.drop.raw_ne;have n2:¬(wK=wR):=H.out.drop.raw_ne;have n3:¬(wR=wA):=H.out.drop.drop.raw_ne;have m1:¬(wR=wV):=fun e=>n1 e.symm;have m2:¬(wR=wK):=fun e=>n2 e.symm;have m3:¬(wA=wR):=fun e=>n3 e.symm
  go_wp2_with fail;go_meet;exact⟨rfl,rfl,rfl,rfl,rfl,(H.out.p2.rawSet 6 _).p2.p2⟩
 case rest=>
 obtain⟨rfl,rfl,rfl,rfl,rfl,hst⟩:=hcut;clear H;have H:=hQd hst;clear hst;obtain⟨ac0,ac1,ac2,ac3,ac4,ac5,ac6,ac7,ac8,af0,af1,af2,af3,af4,af5,af6,af7,af8⟩:=raw9 (b:=wA) (H.out.p3);obtain⟨rc0,rc1,rc2,rc3,rc4,rc5,rc6,rf0,rf1,rf2,rf3,rf4,rf5,rf6⟩:=raw7 (b:=wR) (H.out.p2);obtain⟨p0,p1,p2,p3⟩:=zAt (b:=wV) (H.out);obtain⟨q0,q1,q2,q3⟩:=zAt (b:=wK) (H.out.p1);have n1:¬(wV=wR):=H.out.p1.drop.raw_ne;have n2:¬(wK=wR):=H.out.drop.raw_ne;have n3:¬(wR=wA):=H.out.drop.drop.raw_ne;have m1:¬(wR=wV):=fun e=>n1 e.symm;have m2:¬(wR=wK):=fun e=>n2 e.symm;have m3:¬(wA=wR):=fun e=>n3 e.symm
 go_wp2_with fail;refine bodyPost_ret (v:=.agg #[.int .i64 bt,.int .i64 bo,.bool kb.null,.string (bb kb.data),.bool vb.null,.string (bb vb.data),.slice qh l.length caph,.int .i64 0,.int .i64 0]) zq35 rfl ⟨.slice qh l.length caph,rfl,(((((((((H.out.p3.rawSet 0 _).rawSet 1 _).rawSet 2 _).rawSet 3 _).rawSet 4 _).rawSet 5 _).rawSet 6 _).rawSet 7 _).rawSet 8 _).drop.drop.drop.drop⟩
theorem zPB{s:Bs}{a:Int}(h0:zAK 1 s=.ok (a,1))(ha:a≠0):zAD s=.error 8:=by unfold zAD;rw[h0];simp only;rw[if_neg ha]
theorem zPz{s:Bs}{e:Int}(h0:zAK 1 s=.ok (0,1))(h1:zBS (s.drop 1)=.error e):zAD s=.error e:=by unfold zAD;rw[h0];simp only[if_true];rw[h1]
theorem ri_off{s:Bs}{e t:Int}{k:Nat}(h0:zAK 1 s=.ok (0,1))(h1:zBS (s.drop 1)=.ok (t,k))(h2:zA7 (s.drop (1+k))=.error e):zAD s=.error e:=by
 unfold zAD;rw[h0];simp only[if_true];rw[h1];simp only;rw[h2]
theorem ri_neg{s:Bs}{t o:Int}{k m:Nat}(h0:zAK 1 s=.ok (0,1))(h1:zBS (s.drop 1)=.ok (t,k))(h2:zA7 (s.drop (1+k))=.ok (o,m))(ho:o<0):zAD s=.error 11:=by
 unfold zAD;rw[h0];simp only[if_true];rw[h1];simp only;rw[h2];simp only;rw[if_pos ho]
theorem zPA{s:Bs}{t o:Int}{k m:Nat}(h0:zAK 1 s=.ok (0,1))(h1:zBS (s.drop 1)=.ok (t,k))(h2:zA7 (s.drop (1+k))=.ok (o,m))(ho:¬o<0):zAD s=
    match zAe (s.drop (1+k+m))with
          | .error e=> .error e
          | .ok kk=>match zAe (s.drop (1+k+m+kk.2))with
            | .error e=> .error e
            | .ok v=>match zAI (s.drop (1+k+m+kk.2+v.2))with
              | .error e=> .error e
              | .ok h=>if 1+k+m+kk.2+v.2+h.2=s.length then .ok ⟨t,o,kk.1,v.1,h.1⟩else .error 2:=by
  unfold zAD;rw[h0];simp only[if_true];rw[h1];simp only;rw[h2];simp only;rw[if_neg ho]
  rfl
def zQs (r:Except Int RecS) (K:Know) (W0:World) (L:List Res) (en:Ending) (w':World):Prop:=match r with
  | .ok x=>∃v,en=.returned (.agg #[.int .i64 x.time,.int .i64 x.off,.bool x.key.null,.string (bb x.key.data),.bool x.val.null,.string (bb x.val.data),v,.int .i64 0,.int .i64 0])∧St W0 w' (K.and (Know.flat RHdr v 3 x.hdrs)) L
  | .error e=>en=.returned (.agg #[.int .i64 0,.int .i64 0,.bool false,.string ⟨#[]⟩,.bool false,.string ⟨#[]⟩,.slice none 0 0,.int .i64 0,.int .i64 e])∧St W0 w' K L
theorem zKE{top most:Nat}{l:Bs}{u k:Nat}(ht:top<128)(hm:top=1∧most=10∨top=15∧most=5)(h:zAL top most 0 0 l=.ok (u,k)):u<18446744073709551616:=by
 rcases hm with ⟨rfl,rfl⟩|⟨rfl,rfl⟩
 · have h1:zBS l=.ok (zAR u,k):=by unfold zBS;rw[h]
   obtain⟨_,_,_,g4,g5⟩:=zIf h1;unfold zAR at g4 g5
   omega
 · have h1:zA7 l=.ok (zAR u,k):=by unfold zA7;rw[h]
   obtain⟨_,_,_,g4,g5⟩:=zCi h1;unfold zAR at g4 g5
   omega
theorem zKD{top most:Nat}{l:Bs}{e:Int}(h:zAL top most 0 0 l=.error e):(e !=0)=true:=bne_iff_ne.2 (zC7 top most 0 0 l 0 e (Nat.zero_le _) (by rw[List.drop_zero];exact h)).1
theorem zML{l:Bs}{e:Int}(h:zAI l=.error e):(e !=0)=true:=bne_iff_ne.2 (zC3.err l 0 e (Nat.zero_le _) (by rw[List.drop_zero];exact h)).1
theorem zFN(s:Bs)(hs:s.length≤1000000){W0 w:World}{K:Know}{L:List Res}(h:St W0 w K L):
  Calls Tryz.prog 127 #[.string (bb s)] w (zQs (zAD s) K W0 L):=by
 cases s with
 |nil=>exact(zEV h).mono fun en w' hh=>hh
 |cons c t=>
  have hl1:0<(c::t).length:=by simp
  have hlen:(c::t).length=t.length+1:=rfl
  have h0:zAK 1 (c::t)=.ok (zDl c,1):=by
    unfold zAK;rw[if_neg (by simp)]
    rfl
  have hlt:t.length≤1000000:=by omega
  by_cases hc:c=0
  · subst hc;have h0:zAK 1 (0::t)=.ok (0,1):=h0;obtain⟨s,hsd⟩:∃s:Bs,s=0::t:=⟨_,rfl⟩
    cases hv1:zAL 1 10 0 0 t with
    |error e=>
     have hr:=zPz h0 (show zBS ((0::t:Bs).drop 1)=.error e by unfold zBS;show(match zAL 1 10 0 0 t with| .ok x=>_| .error e=>_)=_;rw[hv1]);rw[hr];exact zEU t e hv1 (zKD hv1) (by omega) h
    |ok x1=>
     obtain⟨u,k⟩:=x1;have g1:zBS ((0::t:Bs).drop 1)=.ok (zAR u,k):=by unfold zBS;show(match zAL 1 10 0 0 t with| .ok x=>_| .error e=>_)=_;rw[hv1]
     obtain⟨_,_,hk0⟩:=zBK (by decide) hv1;have hu:=zKE (by decide) (.inl ⟨rfl,rfl⟩) hv1;have hk:1+k≤(0::t:Bs).length:=by simp only[List.length_cons];omega
     obtain⟨s2,q2⟩:∃s2,(0::t:Bs).drop (1+k)=s2:=⟨_,rfl⟩
     cases hv2:zAL 15 5 0 0 s2 with
     |error e=>
      rw[ri_off h0 g1 (show zA7 ((0::t:Bs).drop (1+k))=.error e by rw[q2];unfold zA7;rw[hv2])];exact zFJ (0::t) t u k hl1 rfl rfl hv1 hu hs s2 hk q2 e hv2 (zKD hv2) h
     |ok x2=>
      obtain⟨v,m⟩:=x2;have g2:zA7 ((0::t:Bs).drop (1+k))=.ok (zAR v,m):=by rw[q2];unfold zA7;rw[hv2]
      obtain⟨_,_,hm⟩:=zBK (by decide) hv2;have hvv:=zKE (by decide) (.inr ⟨rfl,rfl⟩) hv2
      by_cases ho:zAR v<0
      · rw[ri_neg h0 g1 g2 ho];exact zFK (0::t) t u k hl1 rfl rfl hv1 hu hs s2 hk q2 v m _ _ hv2 rfl rfl hvv ho h
      rw[zPA h0 g1 g2 ho];have ho:0≤zAR v:=by omega
      obtain⟨s3,q3⟩:∃s3,s2.drop m=s3:=⟨_,rfl⟩;have e3:(0::t:Bs).drop (1+k+m)=s3:=by rw[←q3,←q2,List.drop_drop]
      rw[e3]
      cases hg1:zAe s3 with
      |error e=>exact zFL (0::t) t u k hl1 rfl rfl hv1 hu hs s2 hk q2 v m _ _ hv2 rfl rfl hvv s3 hm q3 ho e hg1 (bne_iff_ne.2 (zB6 hg1)) h
      |ok x3=>
        obtain⟨kb,ka⟩:=x3;obtain⟨_,_,hka,_⟩:=zAJ hg1;obtain⟨s4,q4⟩:∃s4,s3.drop ka=s4:=⟨_,rfl⟩;have e4:(0::t:Bs).drop (1+k+m+ka)=s4:=by rw[←q4,←e3,List.drop_drop]
        simp only;rw[e4]
        cases hg2:zAe s4 with
        |error e=>exact zFI (0::t) t u k hl1 rfl rfl hv1 hu hs s2 hk q2 v m _ _ hv2 rfl rfl hvv s3 hm q3 ho s4 kb ka hka q4 hg1 e hg2 (bne_iff_ne.2 (zB6 hg2)) h
        |ok x4=>
         obtain⟨vb,va⟩:=x4;obtain⟨_,_,hva,_⟩:=zAJ hg2;obtain⟨s5,q5⟩:∃s5,s4.drop va=s5:=⟨_,rfl⟩;have e5:(0::t:Bs).drop (1+k+m+ka+va)=s5:=by rw[←q5,←e4,List.drop_drop]
         simp only;rw[e5]
         cases hh:zAI s5 with
         |error e=>exact zFM (0::t) t u k hl1 rfl rfl hv1 hu hs s2 hk q2 v m _ _ hv2 rfl rfl hvv s3 hm q3 ho s4 kb ka hka q4 hg1 s5 vb va hva q5 hg2 e hh (zML hh) h
         |ok x5=>
          obtain⟨l,ha⟩:=x5;obtain⟨_,_,hla,_⟩:=zGX hh;simp only;have l2:s2.length+k+1=(0::t:Bs).length:=by rw[←q2,List.length_drop];omega
          have l3:s3.length+m=s2.length:=by rw[←q3,List.length_drop];omega
          have l4:s4.length+ka=s3.length:=by rw[←q4,List.length_drop];omega
          have l5:s5.length+va=s4.length:=by rw[←q5,List.length_drop];omega
          by_cases hfin:1+k+m+ka+va+ha=(0::t:Bs).length
          · rw[if_pos hfin];exact zGB (0::t) t u k hl1 rfl rfl hv1 hu hs s2 hk q2 v m _ _ hv2 rfl rfl hvv s3 hm q3 ho s4 kb ka hka q4 hg1 s5 vb va hva q5 hg2 l ha hh (by omega) h
          · rw[if_neg hfin];exact zEW (0::t) t u k hl1 rfl rfl hv1 hu hs s2 hk q2 v m _ _ hv2 rfl rfl hvv s3 hm q3 ho s4 kb ka hka q4 hg1 s5 vb va hva q5 hg2 l ha hh (by omega) hla h
  · rw[zPB h0 (by
     have hn:=c.toNat_lt;have hc2:c.toNat≠0:=fun hh=>hc (UInt8.toNat_inj.1 hh)
     unfold zDl
     split<;>omega)]
    exact zEX c t hc (by omega) h
variable {W0 w:World}{K:Know}{L:List Res}
theorem zIB(s:Bs)(x:RecS)(hi:zAD s=.ok x)(hs:s.length≤1000000)(h:St W0 w K L):
  Calls Tryz.prog 127 #[.string (bb s)] w fun en w'=>∃v,en=.returned (.agg #[.int .i64 x.time,.int .i64 x.off,.bool x.key.null,.string (bb x.key.data),.bool x.val.null,.string (bb x.val.data),v,.int .i64 0,.int .i64 0])∧St W0 w' (K.and (Know.flat RHdr v 3 x.hdrs)) L:=
 (zFN s hs h).mono fun en w' hh=>by unfold zQs at hh;rw[hi]at hh;exact hh
theorem zIC(s:Bs)(e:Int)(hi:zAD s=.error e)(hs:s.length≤1000000)(h:St W0 w K L):
  Calls Tryz.prog 127 #[.string (bb s)] w fun en w'=>en=.returned (.agg #[.int .i64 0,.int .i64 0,.bool false,.string ⟨#[]⟩,.bool false,.string ⟨#[]⟩,.slice none 0 0,.int .i64 0,.int .i64 e])∧St W0 w' K L:=
 (zFN s hs h).mono fun en w' hh=>by unfold zQs at hh;rw[hi]at hh;exact hh
theorem zHy(s d:Bs)(m:Nat)(x:RecS)(hr:zAe s=.ok (⟨false,d⟩,m))(hi:zAD d=.ok x)(hd:d.length≤1000000)(hs:s.length≤140737488355328)(h:St W0 w K L):
  Calls Tryz.prog 97 #[.string (bb s)] w fun en w'=>∃v,en=.returned (.agg #[.int .i64 x.time,.int .i64 x.off,.bool x.key.null,.string (bb x.key.data),.bool x.val.null,.string (bb x.val.data),v,.int .i64 m,.int .i64 0])∧St W0 w' (K.and (Know.flat RHdr v 3 x.hdrs)) L:=by
 have h0:=h.allocRaw #[.int .i64 0,.int .i64 0,.bool false,.string ⟨#[]⟩,.bool false,.string ⟨#[]⟩,.slice none 0 0,.int .i64 0,.int .i64 0] 146;obtain⟨wA,hwA⟩:∃b,w.heap.size=b:=⟨_,rfl⟩;rw[hwA]at h0;have H:=hQd h0;have HS:=hQd hs;have HD:=hQd hd;have HI:=hQd hi;have HG:=hQd (show gotV (zAe s)=.agg #[.bool false,.string (bb d),.int .i64 m,.int .i64 0] by rw[hr];rfl);clear h h0 hs hr hd hi;go_enter Tryz.func97,Tryz.ntmps97
 go_wp2_with (first
  |(go_at_call 125;refine(zAi s s _ rfl HS.out HG.out H.out).mono ?_;rintro e wn ⟨rfl,h⟩;obtain⟨wB,hwB⟩:∃b,wn.heap.size=b:=⟨_,rfl⟩;have h:=h.allocRaw #[.bool false,.string (bb d),.int .i64 m,.int .i64 0] 176;rw[hwB]at h;replace H:=hQd h;clear h;obtain⟨q0,q1,q2,q3⟩:=zAt (b:=wB) (H.out))
  |(go_at_call 127;refine(zIB d x HI.out HD.out H.out).mono ?_;rintro e wn ⟨vh,rfl,h⟩;obtain⟨qh,caph,hvh⟩:=zAv (Know.has_right (Know.has_refl _)) h;subst hvh;have h2:=h.allocRaw #[.int .i64 x.time,.int .i64 x.off,.bool x.key.null,.string (bb x.key.data),.bool x.val.null,.string (bb x.val.data),(.slice qh x.hdrs.length caph),.int .i64 m,.int .i64 0] 146;obtain⟨wX,hwX⟩:∃b,wn.heap.size=b:=⟨_,rfl⟩;have h:=h.allocRaw #[.int .i64 x.time,.int .i64 x.off,.bool x.key.null,.string (bb x.key.data),.bool x.val.null,.string (bb x.val.data),(.slice qh x.hdrs.length caph),.int .i64 0,.int .i64 0] 146;rw[hwX]at h;replace H:=hQd h;clear h;rw[hwX]at h2;have H2:=hQd h2;clear h2;obtain⟨xc0,xc1,xc2,xc3,xc4,xc5,xc6,xc7,xc8,xf0,xf1,xf2,xf3,xf4,xf5,xf6,xf7,xf8⟩:=raw9 (b:=wX) (H.out);obtain⟨ac0,ac1,ac2,ac3,ac4,ac5,ac6,ac7,ac8,af0,af1,af2,af3,af4,af5,af6,af7,af8⟩:=raw9 (b:=wA) (H2.out.p2);obtain⟨q0,q1,q2,q3⟩:=zAt (b:=wB) (H.out.p1);have n1:¬(wX=wA):=H.out.p1.drop.raw_ne;have m1:¬(wA=wX):=fun e=>n1 e.symm;have n2:¬(wX=wB):=H.out.raw_ne;have m2:¬(wB=wX):=fun e=>n2 e.symm))
 refine bodyPost_ret (v:=.agg #[.int .i64 x.time,.int .i64 x.off,.bool x.key.null,.string (bb x.key.data),.bool x.val.null,.string (bb x.val.data),(.slice qh x.hdrs.length caph),.int .i64 m,.int .i64 0]) zq39 rfl ⟨.slice qh x.hdrs.length caph,rfl,((((((((((H2.out.p2).rawSet 0 _).rawSet 1 _).rawSet 2 _).rawSet 3 _).rawSet 4 _).rawSet 5 _).rawSet 6 _).rawSet 7 _).rawSet 8 _).drop.drop.drop⟩
theorem zHz(s d:Bs)(m:Nat)(e:Int)(hr:zAe s=.ok (⟨false,d⟩,m))(hi:zAD d=.error e)(hd:d.length≤1000000)(hs:s.length≤140737488355328)(h:St W0 w K L):
  Calls Tryz.prog 97 #[.string (bb s)] w fun en w'=>en=.returned (.agg #[.int .i64 0,.int .i64 0,.bool false,.string ⟨#[]⟩,.bool false,.string ⟨#[]⟩,.slice none 0 0,.int .i64 m,.int .i64 e])∧St W0 w' K L:=by
 have h0:=h.allocRaw #[.int .i64 0,.int .i64 0,.bool false,.string ⟨#[]⟩,.bool false,.string ⟨#[]⟩,.slice none 0 0,.int .i64 0,.int .i64 0] 146;obtain⟨wA,hwA⟩:∃b,w.heap.size=b:=⟨_,rfl⟩;rw[hwA]at h0;have H:=hQd h0;have HS:=hQd hs;have HD:=hQd hd;have HI:=hQd hi;have HG:=hQd (show gotV (zAe s)=.agg #[.bool false,.string (bb d),.int .i64 m,.int .i64 0] by rw[hr];rfl);clear h h0 hs hr hd hi;go_enter Tryz.func97,Tryz.ntmps97
 go_wp2_with (first
  |(go_at_call 125;refine(zAi s s _ rfl HS.out HG.out H.out).mono ?_;rintro e wn ⟨rfl,h⟩;obtain⟨wB,hwB⟩:∃b,wn.heap.size=b:=⟨_,rfl⟩;have h:=h.allocRaw #[.bool false,.string (bb d),.int .i64 m,.int .i64 0] 176;rw[hwB]at h;replace H:=hQd h;clear h;obtain⟨q0,q1,q2,q3⟩:=zAt (b:=wB) (H.out))
  |(go_at_call 127;refine(zIC d e HI.out HD.out H.out).mono ?_;rintro e wn ⟨rfl,h⟩;have h2:=h.allocRaw #[.int .i64 0,.int .i64 0,.bool false,.string ⟨#[]⟩,.bool false,.string ⟨#[]⟩,.slice none 0 0,.int .i64 m,.int .i64 e] 146;obtain⟨wX,hwX⟩:∃b,wn.heap.size=b:=⟨_,rfl⟩;have h:=h.allocRaw #[.int .i64 0,.int .i64 0,.bool false,.string ⟨#[]⟩,.bool false,.string ⟨#[]⟩,.slice none 0 0,.int .i64 0,.int .i64 e] 146;rw[hwX]at h;replace H:=hQd h;clear h;rw[hwX]at h2;have H2:=hQd h2;clear h2;obtain⟨xc0,xc1,xc2,xc3,xc4,xc5,xc6,xc7,xc8,xf0,xf1,xf2,xf3,xf4,xf5,xf6,xf7,xf8⟩:=raw9 (b:=wX) (H.out);obtain⟨ac0,ac1,ac2,ac3,ac4,ac5,ac6,ac7,ac8,af0,af1,af2,af3,af4,af5,af6,af7,af8⟩:=raw9 (b:=wA) (H2.out.p2);obtain⟨q0,q1,q2,q3⟩:=zAt (b:=wB) (H.out.p1);have n1:¬(wX=wA):=H.out.p1.drop.raw_ne;have m1:¬(wA=wX):=fun e=>n1 e.symm;have n2:¬(wX=wB):=H.out.raw_ne;have m2:¬(wB=wX):=fun e=>n2 e.symm))
 refine bodyPost_ret (v:=.agg #[.int .i64 0,.int .i64 0,.bool false,.string ⟨#[]⟩,.bool false,.string ⟨#[]⟩,.slice none 0 0,.int .i64 m,.int .i64 e]) zq39 rfl ⟨rfl,((((((((((H2.out.p2).rawSet 0 _).rawSet 1 _).rawSet 2 _).rawSet 3 _).rawSet 4 _).rawSet 5 _).rawSet 6 _).rawSet 7 _).rawSet 8 _).drop.drop.drop⟩
def zQr (r:Except Int (RecS×Nat)) (K:Know) (W0:World) (L:List Res) (en:Ending) (w':World):Prop:=match r with
  | .ok x=>∃v,en=.returned (.agg #[.int .i64 x.1.time,.int .i64 x.1.off,.bool x.1.key.null,.string (bb x.1.key.data),.bool x.1.val.null,.string (bb x.1.val.data),v,.int .i64 x.2,.int .i64 0])∧St W0 w' (K.and (Know.flat RHdr v 3 x.1.hdrs)) L
  | .error e=>∃m:Int,en=.returned (.agg #[.int .i64 0,.int .i64 0,.bool false,.string ⟨#[]⟩,.bool false,.string ⟨#[]⟩,.slice none 0 0,.int .i64 m,.int .i64 e])∧St W0 w' K L
theorem zGU(s:Bs)(hs:s.length≤1000000)(h:St W0 w K L):
  Calls Tryz.prog 97 #[.string (bb s)] w (zQr (zBB s) K W0 L):=by
 unfold zBB
 cases hr:zAe s with
 |error e=>exact(zGA s e hr (bne_iff_ne.2 (zB6 hr)) (by omega) h).mono fun en w' hh=>⟨0,hh⟩
 |ok x=>
  obtain⟨⟨n,d⟩,m⟩:=x;simp only;obtain⟨_,_,g3,_,_,g5⟩:=zAJ hr
  cases n with
  |true=>exact(zFH s d m hr (by omega) h).mono fun en w' hh=>⟨0,hh⟩
  |false=>
   have hd:d.length≤1000000:=by simp at g5;omega
   simp only[Bool.false_eq_true,if_false]
   cases hi:zAD d with
   |error e=>exact(zHz s d m e hr hi hd (by omega) h).mono fun en w' hh=>⟨m,hh⟩
   |ok x=>exact(zHy s d m x hr hi hd (by omega) h).mono fun en w' hh=>hh
theorem glue{l a:Bs}{n m:Nat}(h:a=(l.drop n).take m):a++l.drop (n+m)=l.drop n:=by
 rw[h,←List.drop_drop,List.take_append_drop]
theorem zJW{s:Bs}{x:RecS}(h:zAD s=.ok x):recF x=s∧zA3 x=0∧x.R∧x.sum≤s.length:=by
 unfold zAD at h
 cases h0:zAK 1 s with
 |error e=>rw[h0]at h;cases h
 |ok a=>
  rw[h0]at h;simp only at h
  by_cases ha:a.1=0
  · rw[if_pos ha]at h
    obtain⟨c,t,rfl⟩:∃c t,s=c::t:=by
     cases s with
     |nil=>cases h0
     |cons c t=>exact⟨c,t,rfl⟩
    have hc:c=0:=by
     have:(.ok (zDl c,1):Except Int (Int×Nat))=.ok a:=by rw[←h0];unfold zAK;rw[if_neg (by simp)];rfl
     cases this
     have hn:=c.toNat_lt;have h2:zDl c=0:=ha;unfold zDl at h2;exact UInt8.toNat_inj.1 (show c.toNat=0 by split at h2<;>omega)
    subst hc
    cases h1:zBS ((0::t:Bs).drop 1)with
    |error e=>rw[h1]at h;cases h
    |ok x1=>
     obtain⟨tm,k⟩:=x1;rw[h1]at h;simp only at h
     cases h2:zA7 ((0::t:Bs).drop (1+k))with
     |error e=>rw[h2]at h;cases h
     |ok x2=>
      obtain⟨o,m⟩:=x2;rw[h2]at h;simp only at h
      by_cases ho:o<0
      · rw[if_pos ho]at h;cases h
      rw[if_neg ho]at h
      cases h3:zAe ((0::t:Bs).drop (1+k+m))with
      |error e=>rw[h3]at h;cases h
      |ok x3=>
       obtain⟨kb,ka⟩:=x3;rw[h3]at h;simp only at h
       cases h4:zAe ((0::t:Bs).drop (1+k+m+ka))with
       |error e=>rw[h4]at h;cases h
       |ok x4=>
        obtain⟨vb,va⟩:=x4;rw[h4]at h;simp only at h
        cases h5:zAI ((0::t:Bs).drop (1+k+m+ka+va))with
        |error e=>rw[h5]at h;cases h
        |ok x5=>
         obtain⟨l,ha5⟩:=x5;rw[h5]at h;simp only at h
         by_cases hf:1+k+m+ka+va+ha5=(0::t:Bs).length
         · rw[if_pos hf]at h
           cases h
           obtain⟨g1,_,_,r1,r2⟩:=zIf h1;obtain⟨g2,_,_,r3,r4⟩:=zCi h2;obtain⟨g3,_,b3,c3,_,d3⟩:=zAJ h3;obtain⟨g4,_,b4,c4,_,d4⟩:=zAJ h4;obtain⟨g5,_,b5,c5,d5⟩:=zGX h5;refine⟨?_,?_,⟨⟨r1,r2⟩,by constructor<;>simp only<;>omega⟩,?_⟩
           · unfold recF;simp only;have q5:=glue g5;rw[List.drop_eq_nil_of_le (by omega),List.append_nil]at q5;rw[q5,glue g4,glue g3];have q2:encI o++(0::t:Bs).drop (1+k+m)=(0::t:Bs).drop (1+k):=glue g2;have q1:encI tm++(0::t:Bs).drop (1+k)=(0::t:Bs).drop 1:=glue g1;rw[q2,q1]
             rfl
           · unfold zA3 RecS.allRight;simp only;rw[if_neg (by omega),c3,c4,c5]
             rfl
           · unfold RecS.sum;simp only;have e3:kb.data.length≤ka:=by split at d3<;>omega
             have e4:vb.data.length≤va:=by split at d4<;>omega
             omega
         · rw[if_neg hf]at h;cases h
  · rw[if_neg ha]at h;cases h
theorem zCl{s:Bs}{x:RecS}{m:Nat}(h:zBB s=.ok (x,m)):encR x=s.take m∧zA3 x=0∧x.R∧x.sum≤s.length∧0<m∧m≤s.length:=by
 unfold zBB at h
 cases h1:zAe s with
 |error e=>rw[h1]at h;cases h
 |ok b=>
  obtain⟨⟨n,d⟩,k⟩:=b;rw[h1]at h;simp only at h;obtain⟨g1,g2,g3,_,_,g5⟩:=zAJ h1
  cases n with
  |true=>cases h
  |false=>
   simp only[Bool.false_eq_true,if_false]at h
   cases h2:zAD d with
   |error e=>rw[h2]at h;cases h
   |ok y=>
    rw[h2]at h
    cases h
    obtain⟨k1,k2,k3,k4⟩:=zJW h2;simp at g5;exact⟨by unfold encR;rw[k1];exact g1,k2,k3,by omega,g2,g3⟩
theorem zOj{s:Bs}{e:Int}(h:zBB s=.error e):e≠0:=(zCN.err s 0 e (Nat.zero_le _) (by rw[List.drop_zero];exact h)).1
theorem zDo(s:Bs)(x:RecS)(m:Nat)(hr:zBB s=.ok (x,m))(hs:s.length≤1000000)(h:St W0 w K L):
  Calls Tryz.prog 97 #[.string (bb s)] w fun en w'=>∃v,en=.returned (.agg #[.int .i64 x.time,.int .i64 x.off,.bool x.key.null,.string (bb x.key.data),.bool x.val.null,.string (bb x.val.data),v,.int .i64 m,.int .i64 0])∧St W0 w' (K.and (Know.flat RHdr v 3 x.hdrs)) L:=
 (zGU s hs h).mono fun en w' hh=>by unfold zQr at hh;rw[hr]at hh;exact hh
theorem zJP(s:Bs)(e:Int)(hr:zBB s=.error e)(hs:s.length≤1000000)(h:St W0 w K L):
  Calls Tryz.prog 97 #[.string (bb s)] w fun en w'=>∃m:Int,en=.returned (.agg #[.int .i64 0,.int .i64 0,.bool false,.string ⟨#[]⟩,.bool false,.string ⟨#[]⟩,.slice none 0 0,.int .i64 m,.int .i64 e])∧St W0 w' K L:=
 (zGU s hs h).mono fun en w' hh=>by unfold zQr at hh;rw[hr]at hh;exact hh
theorem zFa:∀(l:List HdrS) (N:Nat),hsum l≤N→∀x∈l,x.key.length≤N∧x.val.data.length≤N
  |[],_,_,_,h=>by cases h
  |y::t,N,hh,x,hx=>by
    simp only[hsum,List.map_cons,List.sum_cons]at hh
    rcases List.mem_cons.1 hx with rfl|hx
    · omega
    · exact zFa t N (by simp only[hsum];omega) x hx
theorem zD8:∀(n:Nat) (rows:Bs) (pos:Nat) (rs:List RecS),pos≤rows.length→unp n ⟨rows,pos,0⟩=.ok rs→rs.length=n∧rs.length+pos≤rows.length∧∀x∈rs,x.R∧zA3 x=0∧x.sum≤rows.length
  |0,rows,pos,rs,hp,h=>by
    unfold unp at h
    split at h
    · cases h;exact⟨rfl,by simpa using hp,fun x hx=>by cases hx⟩
    · cases h
  |n+1,rows,pos,rs,hp,h=>by
    have h:(if (⟨rows,pos,0⟩:InS).left=0 then .error 10 else if (⟨rows,pos,0⟩:InS).record.2.err=0 then zDt (⟨rows,pos,0⟩:InS).record.1 (unp n (⟨rows,pos,0⟩:InS).record.2)else .error (⟨rows,pos,0⟩:InS).record.2.err)=.ok rs:=h
    by_cases c1:(⟨rows,pos,0⟩:InS).left=0
    · rw[if_pos c1]at h;cases h
    rw[if_neg c1]at h
    cases hr:zBB (rows.drop pos)with
    |error e=>
      obtain⟨he,q,_,hf⟩:=zCN.err rows pos e hp hr;rw[hf]at h;simp only at h;rw[if_neg he]at h
      cases h
    |ok y=>
      obtain⟨x,m⟩:=y;obtain⟨hpm,hf⟩:=zCN.ok rows pos x m hp hr;rw[hf]at h;simp only[if_true]at h
      cases hu:unp n ⟨rows,pos+m,0⟩with
      |error e=>rw[hu]at h;cases h
      |ok t=>
        rw[hu]at h;have h:Except.ok (x::t)=Except.ok rs:=h;injection h with h;subst h;obtain⟨i1,i2,i3⟩:=zD8 n rows (pos+m) t hpm hu;obtain⟨_,j1,j2,j3,j4,j5⟩:=zCl hr;rw[List.length_drop]at j3 j5;refine⟨by simp[i1],by simp only[List.length_cons];omega,fun y hy=> ?_⟩
        rcases List.mem_cons.1 hy with rfl|hy
        · exact⟨j2,j1,by omega⟩
        · exact i3 y hy
theorem zE1{n:Nat}{rows:Bs}{rs:List RecS}{l:List (RecS×Value)}(hu:unp n ⟨rows,0,0⟩=.ok rs)(hl:l.map (·.1)=rs)(hr:rows.length≤1000000):FitB l∧l.length≤1000000:=by
 obtain⟨i1,i2,i3⟩:=zD8 n rows 0 rs (Nat.zero_le _) hu
 constructor
 · intro x hx;have hm:x.1∈rs:=by rw[←hl];exact List.mem_map.2 ⟨x,hx,rfl⟩
   obtain⟨a,_,c⟩:=i3 x.1 hm;refine⟨a,fun y hy=> ?_,by omega⟩;have h1:hsum x.1.hdrs≤1000000:=by unfold RecS.sum at c;omega
   have:=zFa x.1.hdrs 1000000 h1 y hy
   omega
 · have:l.length=rs.length:=by rw[←hl,List.length_map]
   omega
def asmB (x:PreS) (said rows:Bs):Except Int BatS:=
  if ((zAj 0#32 (said.drop 21++rows)).toNat:Int)≠x.sum then .error 5
  else if chk x.attr≠0 then .error (chk x.attr)
  else match unp x.count.toNat ⟨rows,0,0⟩with
    | .error e=> .error e
    | .ok rs=>if zAC ⟨x.base,x.leader,zAf x.attr 3,zAf x.attr 4,zAf x.attr 5,x.last,x.first,x.maxt,x.prod,x.epoch,x.seq,rs⟩=0 then .ok ⟨x.base,x.leader,zAf x.attr 3,zAf x.attr 4,zAf x.attr 5,x.last,x.first,x.maxt,x.prod,x.epoch,x.seq,rs⟩else .error (zAC ⟨x.base,x.leader,zAf x.attr 3,zAf x.attr 4,zAf x.attr 5,x.last,x.first,x.maxt,x.prod,x.epoch,x.seq,rs⟩)
theorem zHk(n:Int)(h:St W0 w K L):
 Calls Tryz.prog 201 #[.int .i64 n] w fun en w'=>en=.returned (.tuple #[.bool (zAf n 3),.bool (zAf n 4),.bool (zAf n 5)])∧St W0 w' K L:=(zNS n w).mono fun _ _ hh=>⟨hh.1,hh.2 ▸ h⟩
theorem zCC(n e:Int)(he:chk n=e)(hn:R64 n)(h:St W0 w K L):
 Calls Tryz.prog 199 #[.int .i64 n] w fun en w'=>en=.returned (.int .i64 e)∧St W0 w' K L:=(zL5 n hn w).mono fun _ _ hh=>⟨he ▸ hh.1,hh.2 ▸ h⟩
theorem zCH(b:Nat)(i j:InS)(n:Int)(s:Bs)(hx:i.take n=(s,j))(h:St W0 w K (.inp b i::L)):
  Calls Tryz.prog 184 #[zAF b,.int .i64 n] w fun en w'=>en=.returned (.string (bb s))∧St W0 w' K (.inp b j::L):=by
 have:=zO7 b i n h;rw[hx]at this;exact this
theorem zMv(b:Nat)(i j:InS)(e:Int)(hx:i.fail e=j)(h:St W0 w K (.inp b i::L)):
  Calls Tryz.prog 158 #[zAF b,.int .i64 e] w fun en w'=>en=.returned (.tuple #[])∧St W0 w' K (.inp b j::L):=by
 subst hx;exact zCb b i e h
theorem zMd:∀(n:Nat) (i:InS) (e:Int),unp n i=.error e→e≠0
  |0,i,e,h=>by
    unfold unp at h
    split at h
    · cases h
    · cases h;decide
  |n+1,i,e,h=>by
    have h:(if i.left=0 then .error 10 else if i.record.2.err=0 then zDt i.record.1 (unp n i.record.2)else .error i.record.2.err)=.error e:=h
    by_cases c1:i.left=0
    · rw[if_pos c1]at h;cases h;decide
    rw[if_neg c1]at h
    by_cases c2:i.record.2.err=0
    · rw[if_pos c2]at h
      cases hu:unp n i.record.2 with
      |ok t=>rw[hu]at h;cases h
      |error f=>
        rw[hu]at h;have h:Except.error f=Except.error e:=h;injection h with h;subst h;exact zMd n _ _ hu
    · rw[if_neg c2]at h;injection h with h;exact h ▸ c2
theorem zIe{x:PreS}{said rows:Bs}{e:Int}(h:asmB x said rows=.error e):e≠0:=by
 unfold asmB at h
 split at h
 · cases h;decide
 split at h
 · cases h;assumption
 split at h
 · rename_i f hu
   cases h
   exact zMd _ _ _ hu
 · split at h
   · cases h
   · cases h;assumption
theorem zId{x:PreS}{said rows:Bs}{b:BatS}(h:asmB x said rows=.ok b):((zAj 0#32 (said.drop 21++rows)).toNat:Int)=x.sum∧chk x.attr=0∧∃rs,unp x.count.toNat ⟨rows,0,0⟩=.ok rs∧zAC (⟨x.base,x.leader,zAf x.attr 3,zAf x.attr 4,zAf x.attr 5,x.last,x.first,x.maxt,x.prod,x.epoch,x.seq,rs⟩:BatS)=0∧b=(⟨x.base,x.leader,zAf x.attr 3,zAf x.attr 4,zAf x.attr 5,x.last,x.first,x.maxt,x.prod,x.epoch,x.seq,rs⟩:BatS):=by
 unfold asmB at h
 split at h
 · cases h
 rename_i h1
 split at h
 · cases h
 rename_i h2
 have h1:((zAj 0#32 (said.drop 21++rows)).toNat:Int)=x.sum:=by
   by_cases hh:((zAj 0#32 (said.drop 21++rows)).toNat:Int)=x.sum
   · exact hh
   · exact absurd hh h1
 have h2:chk x.attr=0:=by
   by_cases hh:chk x.attr=0
   · exact hh
   · exact absurd hh h2
 split at h
 · cases h
 · rename_i rs hu
   split at h
   · rename_i hb
     cases h
     exact⟨h1,h2,rs,hu,hb,rfl⟩
   · cases h
variable {W0 w:World}{K:Know}{L:List Res}
theorem zAc(s:Bs)(p k:Int)(a b:Nat)(hp:p=a)(hk:k=b)(hb:b≤8)(hs:a+b≤s.length)(hl:s.length≤140737488355328)(h:St W0 w K L):
  Calls Tryz.prog 95 #[.string (bb s),.int .i64 p,.int .i64 k] w fun en w'=>en=.returned (.int .i64 (sInt ((s.drop a).take b)))∧St W0 w' K L:=by
 subst hp;subst hk;have H:=hQd h;have hx:((s.drop a).take b).length≤8:=by rw[List.length_take];omega
 have HX:=hQd hx;clear h hx;go_enter Tryz.func95,Tryz.ntmps95;go_wp2_with (go_at_call 91;refine(zGP _ HX.out stQ).mono ?_;rintro e wn ⟨rfl,h⟩;replace H:=hQd h;clear h);go_ret;exact⟨rfl,H.out⟩
theorem zFA(s:Bs)(a0 a1 a2 a3 a4 a5 a6 a7 a8 a9 a10 a11 a12:Int)(e0:sInt ((s.drop 0).take 8)=a0)(e1:sInt ((s.drop 8).take 4)=a1)(e2:sInt ((s.drop 12).take 4)=a2)(e3:sInt ((s.drop 16).take 1)=a3)(e4:sInt ((s.drop 17).take 4)=a4)(e5:sInt ((s.drop 21).take 2)=a5)(e6:sInt ((s.drop 23).take 4)=a6)(e7:sInt ((s.drop 27).take 8)=a7)(e8:sInt ((s.drop 35).take 8)=a8)(e9:sInt ((s.drop 43).take 8)=a9)(e10:sInt ((s.drop 51).take 2)=a10)(e11:sInt ((s.drop 53).take 4)=a11)(e12:sInt ((s.drop 57).take 4)=a12)(hl61:61≤s.length)(hlen:s.length≤140737488355328)(hr4: -2147483648≤a4)(h4:¬a4<0)(hm:(a3 !=2)=true)(h:St W0 w K L):
  Calls Tryz.prog 66 #[.string (bb s)] w fun en w'=>en=.returned (.tuple #[.slice none 0 0,.int .i64 6])∧St W0 w' K L:=by
 have H:=hQd h;have HL:=hQd hlen;have hd:decide ((s.length:Int)<61)=false:=decide_eq_false (by omega);have E0:=hQd e0;have HSL0:=hQd (show 0+8≤s.length by omega);have E1:=hQd e1;have HSL1:=hQd (show 8+4≤s.length by omega);have E2:=hQd e2;have HSL2:=hQd (show 12+4≤s.length by omega);have E3:=hQd e3;have HSL3:=hQd (show 16+1≤s.length by omega);have E4:=hQd e4;have HSL4:=hQd (show 17+4≤s.length by omega);have E5:=hQd e5;have HSL5:=hQd (show 21+2≤s.length by omega);have E6:=hQd e6;have HSL6:=hQd (show 23+4≤s.length by omega);have E7:=hQd e7;have HSL7:=hQd (show 27+8≤s.length by omega);have E8:=hQd e8;have HSL8:=hQd (show 35+8≤s.length by omega);have E9:=hQd e9;have HSL9:=hQd (show 43+8≤s.length by omega);have E10:=hQd e10;have HSL10:=hQd (show 51+2≤s.length by omega);have E11:=hQd e11;have HSL11:=hQd (show 53+4≤s.length by omega);have E12:=hQd e12;have HSL12:=hQd (show 57+4≤s.length by omega);clear h hlen hl61 e0 e1 e2 e3 e4 e5 e6 e7 e8 e9 e10 e11 e12;go_enter Tryz.func66,Tryz.ntmps66
 go_wp2_with (first
  |(go_at_call 95;(with_reducible refine(zAc _ _ _ 0 8 (by decide) (by decide) (by decide) HSL0.out HL.out stQ).mono ?_);(repeat first|rw[E0.out]);rintro e wn ⟨rfl,h⟩;replace H:=hQd h;clear h)
  |(go_at_call 95;(with_reducible refine(zAc _ _ _ 8 4 (by decide) (by decide) (by decide) HSL1.out HL.out stQ).mono ?_);(repeat first|rw[E1.out]);rintro e wn ⟨rfl,h⟩;replace H:=hQd h;clear h)
  |(go_at_call 95;(with_reducible refine(zAc _ _ _ 12 4 (by decide) (by decide) (by decide) HSL2.out HL.out stQ).mono ?_);(repeat first|rw[E2.out]);rintro e wn ⟨rfl,h⟩;replace H:=hQd h;clear h)
  |(go_at_call 95;(with_reducible refine(zAc _ _ _ 16 1 (by decide) (by decide) (by decide) HSL3.out HL.out (H.out.allocRaw #[.int .i64 a0,.int .i64 a1,.int .i64 a2,.int .i64 a4,.int .i64 a5,.int .i64 a6,.int .i64 a7,.int .i64 a8,.int .i64 a9,.int .i64 a10,.int .i64 a11,.int .i64 a12] 3)).mono ?_);(repeat first|rw[E3.out]);rintro e wn ⟨rfl,h⟩;replace H:=hQd h;clear h;have y1:=H.out.rawCell 1;have y11:=H.out.rawCell 11;simp at y1 y11)
  |(go_at_call 95;(with_reducible refine(zAc _ _ _ 17 4 (by decide) (by decide) (by decide) HSL4.out HL.out stQ).mono ?_);(repeat first|rw[E4.out]);rintro e wn ⟨rfl,h⟩;replace H:=hQd h;clear h)
  |(go_at_call 95;(with_reducible refine(zAc _ _ _ 21 2 (by decide) (by decide) (by decide) HSL5.out HL.out stQ).mono ?_);(repeat first|rw[E5.out]);rintro e wn ⟨rfl,h⟩;replace H:=hQd h;clear h)
  |(go_at_call 95;(with_reducible refine(zAc _ _ _ 23 4 (by decide) (by decide) (by decide) HSL6.out HL.out stQ).mono ?_);(repeat first|rw[E6.out]);rintro e wn ⟨rfl,h⟩;replace H:=hQd h;clear h)
  |(go_at_call 95;(with_reducible refine(zAc _ _ _ 27 8 (by decide) (by decide) (by decide) HSL7.out HL.out stQ).mono ?_);(repeat first|rw[E7.out]);rintro e wn ⟨rfl,h⟩;replace H:=hQd h;clear h)
  |(go_at_call 95;(with_reducible refine(zAc _ _ _ 35 8 (by decide) (by decide) (by decide) HSL8.out HL.out stQ).mono ?_);(repeat first|rw[E8.out]);rintro e wn ⟨rfl,h⟩;replace H:=hQd h;clear h)
  |(go_at_call 95;(with_reducible refine(zAc _ _ _ 43 8 (by decide) (by decide) (by decide) HSL9.out HL.out stQ).mono ?_);(repeat first|rw[E9.out]);rintro e wn ⟨rfl,h⟩;replace H:=hQd h;clear h)
  |(go_at_call 95;(with_reducible refine(zAc _ _ _ 51 2 (by decide) (by decide) (by decide) HSL10.out HL.out stQ).mono ?_);(repeat first|rw[E10.out]);rintro e wn ⟨rfl,h⟩;replace H:=hQd h;clear h)
  |(go_at_call 95;(with_reducible refine(zAc _ _ _ 53 4 (by decide) (by decide) (by decide) HSL11.out HL.out stQ).mono ?_);(repeat first|rw[E11.out]);rintro e wn ⟨rfl,h⟩;replace H:=hQd h;clear h)
  |(go_at_call 95;(with_reducible refine(zAc _ _ _ 57 4 (by decide) (by decide) (by decide) HSL12.out HL.out stQ).mono ?_);(repeat first|rw[E12.out]);rintro e wn ⟨rfl,h⟩;replace H:=hQd h;clear h))
 go_ret2;exact⟨rfl,H.out.drop⟩
theorem zFC(s:Bs)(a0 a1 a2 a3 a4 a5 a6 a7 a8 a9 a10 a11 a12:Int)(e0:sInt ((s.drop 0).take 8)=a0)(e1:sInt ((s.drop 8).take 4)=a1)(e2:sInt ((s.drop 12).take 4)=a2)(e3:sInt ((s.drop 16).take 1)=a3)(e4:sInt ((s.drop 17).take 4)=a4)(e5:sInt ((s.drop 21).take 2)=a5)(e6:sInt ((s.drop 23).take 4)=a6)(e7:sInt ((s.drop 27).take 8)=a7)(e8:sInt ((s.drop 35).take 8)=a8)(e9:sInt ((s.drop 43).take 8)=a9)(e10:sInt ((s.drop 51).take 2)=a10)(e11:sInt ((s.drop 53).take 4)=a11)(e12:sInt ((s.drop 57).take 4)=a12)(hl61:61≤s.length)(hlen:s.length≤140737488355328)(hr4: -2147483648≤a4)(h4:¬a4<0)(hm:(a3 !=2)=false)(hl:a1<49)(h:St W0 w K L):
  Calls Tryz.prog 66 #[.string (bb s)] w fun en w'=>en=.returned (.tuple #[.slice none 0 0,.int .i64 4])∧St W0 w' K L:=by
 have H:=hQd h;have HL:=hQd hlen;have hd:decide ((s.length:Int)<61)=false:=decide_eq_false (by omega);have E0:=hQd e0;have HSL0:=hQd (show 0+8≤s.length by omega);have E1:=hQd e1;have HSL1:=hQd (show 8+4≤s.length by omega);have E2:=hQd e2;have HSL2:=hQd (show 12+4≤s.length by omega);have E3:=hQd e3;have HSL3:=hQd (show 16+1≤s.length by omega);have E4:=hQd e4;have HSL4:=hQd (show 17+4≤s.length by omega);have E5:=hQd e5;have HSL5:=hQd (show 21+2≤s.length by omega);have E6:=hQd e6;have HSL6:=hQd (show 23+4≤s.length by omega);have E7:=hQd e7;have HSL7:=hQd (show 27+8≤s.length by omega);have E8:=hQd e8;have HSL8:=hQd (show 35+8≤s.length by omega);have E9:=hQd e9;have HSL9:=hQd (show 43+8≤s.length by omega);have E10:=hQd e10;have HSL10:=hQd (show 51+2≤s.length by omega);have E11:=hQd e11;have HSL11:=hQd (show 53+4≤s.length by omega);have E12:=hQd e12;have HSL12:=hQd (show 57+4≤s.length by omega);clear h hlen hl61 e0 e1 e2 e3 e4 e5 e6 e7 e8 e9 e10 e11 e12;go_enter Tryz.func66,Tryz.ntmps66
 go_wp2_with (first
  |(go_at_call 95;(with_reducible refine(zAc _ _ _ 0 8 (by decide) (by decide) (by decide) HSL0.out HL.out stQ).mono ?_);(repeat first|rw[E0.out]);rintro e wn ⟨rfl,h⟩;replace H:=hQd h;clear h)
  |(go_at_call 95;(with_reducible refine(zAc _ _ _ 8 4 (by decide) (by decide) (by decide) HSL1.out HL.out stQ).mono ?_);(repeat first|rw[E1.out]);rintro e wn ⟨rfl,h⟩;replace H:=hQd h;clear h)
  |(go_at_call 95;(with_reducible refine(zAc _ _ _ 12 4 (by decide) (by decide) (by decide) HSL2.out HL.out stQ).mono ?_);(repeat first|rw[E2.out]);rintro e wn ⟨rfl,h⟩;replace H:=hQd h;clear h)
  |(go_at_call 95;(with_reducible refine(zAc _ _ _ 16 1 (by decide) (by decide) (by decide) HSL3.out HL.out (H.out.allocRaw #[.int .i64 a0,.int .i64 a1,.int .i64 a2,.int .i64 a4,.int .i64 a5,.int .i64 a6,.int .i64 a7,.int .i64 a8,.int .i64 a9,.int .i64 a10,.int .i64 a11,.int .i64 a12] 3)).mono ?_);(repeat first|rw[E3.out]);rintro e wn ⟨rfl,h⟩;replace H:=hQd h;clear h;have y1:=H.out.rawCell 1;have y11:=H.out.rawCell 11;simp at y1 y11)
  |(go_at_call 95;(with_reducible refine(zAc _ _ _ 17 4 (by decide) (by decide) (by decide) HSL4.out HL.out stQ).mono ?_);(repeat first|rw[E4.out]);rintro e wn ⟨rfl,h⟩;replace H:=hQd h;clear h)
  |(go_at_call 95;(with_reducible refine(zAc _ _ _ 21 2 (by decide) (by decide) (by decide) HSL5.out HL.out stQ).mono ?_);(repeat first|rw[E5.out]);rintro e wn ⟨rfl,h⟩;replace H:=hQd h;clear h)
  |(go_at_call 95;(with_reducible refine(zAc _ _ _ 23 4 (by decide) (by decide) (by decide) HSL6.out HL.out stQ).mono ?_);(repeat first|rw[E6.out]);rintro e wn ⟨rfl,h⟩;replace H:=hQd h;clear h)
  |(go_at_call 95;(with_reducible refine(zAc _ _ _ 27 8 (by decide) (by decide) (by decide) HSL7.out HL.out stQ).mono ?_);(repeat first|rw[E7.out]);rintro e wn ⟨rfl,h⟩;replace H:=hQd h;clear h)
  |(go_at_call 95;(with_reducible refine(zAc _ _ _ 35 8 (by decide) (by decide) (by decide) HSL8.out HL.out stQ).mono ?_);(repeat first|rw[E8.out]);rintro e wn ⟨rfl,h⟩;replace H:=hQd h;clear h)
  |(go_at_call 95;(with_reducible refine(zAc _ _ _ 43 8 (by decide) (by decide) (by decide) HSL9.out HL.out stQ).mono ?_);(repeat first|rw[E9.out]);rintro e wn ⟨rfl,h⟩;replace H:=hQd h;clear h)
  |(go_at_call 95;(with_reducible refine(zAc _ _ _ 51 2 (by decide) (by decide) (by decide) HSL10.out HL.out stQ).mono ?_);(repeat first|rw[E10.out]);rintro e wn ⟨rfl,h⟩;replace H:=hQd h;clear h)
  |(go_at_call 95;(with_reducible refine(zAc _ _ _ 53 4 (by decide) (by decide) (by decide) HSL11.out HL.out stQ).mono ?_);(repeat first|rw[E11.out]);rintro e wn ⟨rfl,h⟩;replace H:=hQd h;clear h)
  |(go_at_call 95;(with_reducible refine(zAc _ _ _ 57 4 (by decide) (by decide) (by decide) HSL12.out HL.out stQ).mono ?_);(repeat first|rw[E12.out]);rintro e wn ⟨rfl,h⟩;replace H:=hQd h;clear h))
 go_ret2;exact⟨rfl,H.out.drop⟩
theorem zFE(s:Bs)(a0 a1 a2 a3 a4 a5 a6 a7 a8 a9 a10 a11 a12:Int)(e0:sInt ((s.drop 0).take 8)=a0)(e1:sInt ((s.drop 8).take 4)=a1)(e2:sInt ((s.drop 12).take 4)=a2)(e3:sInt ((s.drop 16).take 1)=a3)(e4:sInt ((s.drop 17).take 4)=a4)(e5:sInt ((s.drop 21).take 2)=a5)(e6:sInt ((s.drop 23).take 4)=a6)(e7:sInt ((s.drop 27).take 8)=a7)(e8:sInt ((s.drop 35).take 8)=a8)(e9:sInt ((s.drop 43).take 8)=a9)(e10:sInt ((s.drop 51).take 2)=a10)(e11:sInt ((s.drop 53).take 4)=a11)(e12:sInt ((s.drop 57).take 4)=a12)(hl61:61≤s.length)(hlen:s.length≤140737488355328)(hr4: -2147483648≤a4)(h4:¬a4<0)(hm:(a3 !=2)=false)(hl:¬a1<49)(hc:a12<0)(h:St W0 w K L):
  Calls Tryz.prog 66 #[.string (bb s)] w fun en w'=>en=.returned (.tuple #[.slice none 0 0,.int .i64 10])∧St W0 w' K L:=by
 have H:=hQd h;have HL:=hQd hlen;have hd:decide ((s.length:Int)<61)=false:=decide_eq_false (by omega);have E0:=hQd e0;have HSL0:=hQd (show 0+8≤s.length by omega);have E1:=hQd e1;have HSL1:=hQd (show 8+4≤s.length by omega);have E2:=hQd e2;have HSL2:=hQd (show 12+4≤s.length by omega);have E3:=hQd e3;have HSL3:=hQd (show 16+1≤s.length by omega);have E4:=hQd e4;have HSL4:=hQd (show 17+4≤s.length by omega);have E5:=hQd e5;have HSL5:=hQd (show 21+2≤s.length by omega);have E6:=hQd e6;have HSL6:=hQd (show 23+4≤s.length by omega);have E7:=hQd e7;have HSL7:=hQd (show 27+8≤s.length by omega);have E8:=hQd e8;have HSL8:=hQd (show 35+8≤s.length by omega);have E9:=hQd e9;have HSL9:=hQd (show 43+8≤s.length by omega);have E10:=hQd e10;have HSL10:=hQd (show 51+2≤s.length by omega);have E11:=hQd e11;have HSL11:=hQd (show 53+4≤s.length by omega);have E12:=hQd e12;have HSL12:=hQd (show 57+4≤s.length by omega);clear h hlen hl61 e0 e1 e2 e3 e4 e5 e6 e7 e8 e9 e10 e11 e12;go_enter Tryz.func66,Tryz.ntmps66
 go_wp2_with (first
  |(go_at_call 95;(with_reducible refine(zAc _ _ _ 0 8 (by decide) (by decide) (by decide) HSL0.out HL.out stQ).mono ?_);(repeat first|rw[E0.out]);rintro e wn ⟨rfl,h⟩;replace H:=hQd h;clear h)
  |(go_at_call 95;(with_reducible refine(zAc _ _ _ 8 4 (by decide) (by decide) (by decide) HSL1.out HL.out stQ).mono ?_);(repeat first|rw[E1.out]);rintro e wn ⟨rfl,h⟩;replace H:=hQd h;clear h)
  |(go_at_call 95;(with_reducible refine(zAc _ _ _ 12 4 (by decide) (by decide) (by decide) HSL2.out HL.out stQ).mono ?_);(repeat first|rw[E2.out]);rintro e wn ⟨rfl,h⟩;replace H:=hQd h;clear h)
  |(go_at_call 95;(with_reducible refine(zAc _ _ _ 16 1 (by decide) (by decide) (by decide) HSL3.out HL.out (H.out.allocRaw #[.int .i64 a0,.int .i64 a1,.int .i64 a2,.int .i64 a4,.int .i64 a5,.int .i64 a6,.int .i64 a7,.int .i64 a8,.int .i64 a9,.int .i64 a10,.int .i64 a11,.int .i64 a12] 3)).mono ?_);(repeat first|rw[E3.out]);rintro e wn ⟨rfl,h⟩;replace H:=hQd h;clear h;have y1:=H.out.rawCell 1;have y11:=H.out.rawCell 11;simp at y1 y11)
  |(go_at_call 95;(with_reducible refine(zAc _ _ _ 17 4 (by decide) (by decide) (by decide) HSL4.out HL.out stQ).mono ?_);(repeat first|rw[E4.out]);rintro e wn ⟨rfl,h⟩;replace H:=hQd h;clear h)
  |(go_at_call 95;(with_reducible refine(zAc _ _ _ 21 2 (by decide) (by decide) (by decide) HSL5.out HL.out stQ).mono ?_);(repeat first|rw[E5.out]);rintro e wn ⟨rfl,h⟩;replace H:=hQd h;clear h)
  |(go_at_call 95;(with_reducible refine(zAc _ _ _ 23 4 (by decide) (by decide) (by decide) HSL6.out HL.out stQ).mono ?_);(repeat first|rw[E6.out]);rintro e wn ⟨rfl,h⟩;replace H:=hQd h;clear h)
  |(go_at_call 95;(with_reducible refine(zAc _ _ _ 27 8 (by decide) (by decide) (by decide) HSL7.out HL.out stQ).mono ?_);(repeat first|rw[E7.out]);rintro e wn ⟨rfl,h⟩;replace H:=hQd h;clear h)
  |(go_at_call 95;(with_reducible refine(zAc _ _ _ 35 8 (by decide) (by decide) (by decide) HSL8.out HL.out stQ).mono ?_);(repeat first|rw[E8.out]);rintro e wn ⟨rfl,h⟩;replace H:=hQd h;clear h)
  |(go_at_call 95;(with_reducible refine(zAc _ _ _ 43 8 (by decide) (by decide) (by decide) HSL9.out HL.out stQ).mono ?_);(repeat first|rw[E9.out]);rintro e wn ⟨rfl,h⟩;replace H:=hQd h;clear h)
  |(go_at_call 95;(with_reducible refine(zAc _ _ _ 51 2 (by decide) (by decide) (by decide) HSL10.out HL.out stQ).mono ?_);(repeat first|rw[E10.out]);rintro e wn ⟨rfl,h⟩;replace H:=hQd h;clear h)
  |(go_at_call 95;(with_reducible refine(zAc _ _ _ 53 4 (by decide) (by decide) (by decide) HSL11.out HL.out stQ).mono ?_);(repeat first|rw[E11.out]);rintro e wn ⟨rfl,h⟩;replace H:=hQd h;clear h)
  |(go_at_call 95;(with_reducible refine(zAc _ _ _ 57 4 (by decide) (by decide) (by decide) HSL12.out HL.out stQ).mono ?_);(repeat first|rw[E12.out]);rintro e wn ⟨rfl,h⟩;replace H:=hQd h;clear h))
 go_ret2;exact⟨rfl,H.out.drop⟩
theorem zET(s:Bs)(a0 a1 a2 a3 a4 a5 a6 a7 a8 a9 a10 a11 a12:Int)(e0:sInt ((s.drop 0).take 8)=a0)(e1:sInt ((s.drop 8).take 4)=a1)(e2:sInt ((s.drop 12).take 4)=a2)(e3:sInt ((s.drop 16).take 1)=a3)(e4:sInt ((s.drop 17).take 4)=a4)(e5:sInt ((s.drop 21).take 2)=a5)(e6:sInt ((s.drop 23).take 4)=a6)(e7:sInt ((s.drop 27).take 8)=a7)(e8:sInt ((s.drop 35).take 8)=a8)(e9:sInt ((s.drop 43).take 8)=a9)(e10:sInt ((s.drop 51).take 2)=a10)(e11:sInt ((s.drop 53).take 4)=a11)(e12:sInt ((s.drop 57).take 4)=a12)(hl61:61≤s.length)(hlen:s.length≤140737488355328)(hr4: -2147483648≤a4)(h4:¬a4<0)(hm:(a3 !=2)=false)(hl:¬a1<49)(hc:¬a12<0)(h:St W0 w K L):
  Calls Tryz.prog 66 #[.string (bb s)] w fun en w'=>∃bl,en=.returned (.tuple #[.slice (some ⟨bl,0,none⟩) 12 12,.int .i64 0])∧St W0 w' K (.raw bl #[.int .i64 a0,.int .i64 a1,.int .i64 a2,.int .i64 a4,.int .i64 a5,.int .i64 a6,.int .i64 a7,.int .i64 a8,.int .i64 a9,.int .i64 a10,.int .i64 a11,.int .i64 a12] 3::L):=by
 have H:=hQd h;have HL:=hQd hlen;have hd:decide ((s.length:Int)<61)=false:=decide_eq_false (by omega);have E0:=hQd e0;have HSL0:=hQd (show 0+8≤s.length by omega);have E1:=hQd e1;have HSL1:=hQd (show 8+4≤s.length by omega);have E2:=hQd e2;have HSL2:=hQd (show 12+4≤s.length by omega);have E3:=hQd e3;have HSL3:=hQd (show 16+1≤s.length by omega);have E4:=hQd e4;have HSL4:=hQd (show 17+4≤s.length by omega);have E5:=hQd e5;have HSL5:=hQd (show 21+2≤s.length by omega);have E6:=hQd e6;have HSL6:=hQd (show 23+4≤s.length by omega);have E7:=hQd e7;have HSL7:=hQd (show 27+8≤s.length by omega);have E8:=hQd e8;have HSL8:=hQd (show 35+8≤s.length by omega);have E9:=hQd e9;have HSL9:=hQd (show 43+8≤s.length by omega);have E10:=hQd e10;have HSL10:=hQd (show 51+2≤s.length by omega);have E11:=hQd e11;have HSL11:=hQd (show 53+4≤s.length by omega);have E12:=hQd e12;have HSL12:=hQd (show 57+4≤s.length by omega);clear h hlen hl61 e0 e1 e2 e3 e4 e5 e6 e7 e8 e9 e10 e11 e12;go_enter Tryz.func66,Tryz.ntmps66
 go_wp2_with (first
  |(go_at_call 95;(with_reducible refine(zAc _ _ _ 0 8 (by decide) (by decide) (by decide) HSL0.out HL.out stQ).mono ?_);(repeat first|rw[E0.out]);rintro e wn ⟨rfl,h⟩;replace H:=hQd h;clear h)
  |(go_at_call 95;(with_reducible refine(zAc _ _ _ 8 4 (by decide) (by decide) (by decide) HSL1.out HL.out stQ).mono ?_);(repeat first|rw[E1.out]);rintro e wn ⟨rfl,h⟩;replace H:=hQd h;clear h)
  |(go_at_call 95;(with_reducible refine(zAc _ _ _ 12 4 (by decide) (by decide) (by decide) HSL2.out HL.out stQ).mono ?_);(repeat first|rw[E2.out]);rintro e wn ⟨rfl,h⟩;replace H:=hQd h;clear h)
  |(go_at_call 95;(with_reducible refine(zAc _ _ _ 16 1 (by decide) (by decide) (by decide) HSL3.out HL.out (H.out.allocRaw #[.int .i64 a0,.int .i64 a1,.int .i64 a2,.int .i64 a4,.int .i64 a5,.int .i64 a6,.int .i64 a7,.int .i64 a8,.int .i64 a9,.int .i64 a10,.int .i64 a11,.int .i64 a12] 3)).mono ?_);(repeat first|rw[E3.out]);rintro e wn ⟨rfl,h⟩;replace H:=hQd h;clear h;have y1:=H.out.rawCell 1;have y11:=H.out.rawCell 11;simp at y1 y11)
  |(go_at_call 95;(with_reducible refine(zAc _ _ _ 17 4 (by decide) (by decide) (by decide) HSL4.out HL.out stQ).mono ?_);(repeat first|rw[E4.out]);rintro e wn ⟨rfl,h⟩;replace H:=hQd h;clear h)
  |(go_at_call 95;(with_reducible refine(zAc _ _ _ 21 2 (by decide) (by decide) (by decide) HSL5.out HL.out stQ).mono ?_);(repeat first|rw[E5.out]);rintro e wn ⟨rfl,h⟩;replace H:=hQd h;clear h)
  |(go_at_call 95;(with_reducible refine(zAc _ _ _ 23 4 (by decide) (by decide) (by decide) HSL6.out HL.out stQ).mono ?_);(repeat first|rw[E6.out]);rintro e wn ⟨rfl,h⟩;replace H:=hQd h;clear h)
  |(go_at_call 95;(with_reducible refine(zAc _ _ _ 27 8 (by decide) (by decide) (by decide) HSL7.out HL.out stQ).mono ?_);(repeat first|rw[E7.out]);rintro e wn ⟨rfl,h⟩;replace H:=hQd h;clear h)
  |(go_at_call 95;(with_reducible refine(zAc _ _ _ 35 8 (by decide) (by decide) (by decide) HSL8.out HL.out stQ).mono ?_);(repeat first|rw[E8.out]);rintro e wn ⟨rfl,h⟩;replace H:=hQd h;clear h)
  |(go_at_call 95;(with_reducible refine(zAc _ _ _ 43 8 (by decide) (by decide) (by decide) HSL9.out HL.out stQ).mono ?_);(repeat first|rw[E9.out]);rintro e wn ⟨rfl,h⟩;replace H:=hQd h;clear h)
  |(go_at_call 95;(with_reducible refine(zAc _ _ _ 51 2 (by decide) (by decide) (by decide) HSL10.out HL.out stQ).mono ?_);(repeat first|rw[E10.out]);rintro e wn ⟨rfl,h⟩;replace H:=hQd h;clear h)
  |(go_at_call 95;(with_reducible refine(zAc _ _ _ 53 4 (by decide) (by decide) (by decide) HSL11.out HL.out stQ).mono ?_);(repeat first|rw[E11.out]);rintro e wn ⟨rfl,h⟩;replace H:=hQd h;clear h)
  |(go_at_call 95;(with_reducible refine(zAc _ _ _ 57 4 (by decide) (by decide) (by decide) HSL12.out HL.out stQ).mono ?_);(repeat first|rw[E12.out]);rintro e wn ⟨rfl,h⟩;replace H:=hQd h;clear h))
 go_ret2;exact⟨_,rfl,H.out⟩
theorem zFz(s:Bs)(a0 a1 a2 a3 a4 a5 a6 a7 a8 a9 a10 a11 a12:Int)(e0:sInt ((s.drop 0).take 8)=a0)(e1:sInt ((s.drop 8).take 4)=a1)(e2:sInt ((s.drop 12).take 4)=a2)(e3:sInt ((s.drop 16).take 1)=a3)(e4:sInt ((s.drop 17).take 4)=a4)(e5:sInt ((s.drop 21).take 2)=a5)(e6:sInt ((s.drop 23).take 4)=a6)(e7:sInt ((s.drop 27).take 8)=a7)(e8:sInt ((s.drop 35).take 8)=a8)(e9:sInt ((s.drop 43).take 8)=a9)(e10:sInt ((s.drop 51).take 2)=a10)(e11:sInt ((s.drop 53).take 4)=a11)(e12:sInt ((s.drop 57).take 4)=a12)(hl61:61≤s.length)(hlen:s.length≤140737488355328)(hr4: -2147483648≤a4)(h4:a4<0)(hm:(a3 !=2)=true)(h:St W0 w K L):
  Calls Tryz.prog 66 #[.string (bb s)] w fun en w'=>en=.returned (.tuple #[.slice none 0 0,.int .i64 6])∧St W0 w' K L:=by
 have H:=hQd h;have HL:=hQd hlen;have hd:decide ((s.length:Int)<61)=false:=decide_eq_false (by omega);have E0:=hQd e0;have HSL0:=hQd (show 0+8≤s.length by omega);have E1:=hQd e1;have HSL1:=hQd (show 8+4≤s.length by omega);have E2:=hQd e2;have HSL2:=hQd (show 12+4≤s.length by omega);have E3:=hQd e3;have HSL3:=hQd (show 16+1≤s.length by omega);have E4:=hQd e4;have HSL4:=hQd (show 17+4≤s.length by omega);have E5:=hQd e5;have HSL5:=hQd (show 21+2≤s.length by omega);have E6:=hQd e6;have HSL6:=hQd (show 23+4≤s.length by omega);have E7:=hQd e7;have HSL7:=hQd (show 27+8≤s.length by omega);have E8:=hQd e8;have HSL8:=hQd (show 35+8≤s.length by omega);have E9:=hQd e9;have HSL9:=hQd (show 43+8≤s.length by omega);have E10:=hQd e10;have HSL10:=hQd (show 51+2≤s.length by omega);have E11:=hQd e11;have HSL11:=hQd (show 53+4≤s.length by omega);have E12:=hQd e12;have HSL12:=hQd (show 57+4≤s.length by omega);clear h hlen hl61 e0 e1 e2 e3 e4 e5 e6 e7 e8 e9 e10 e11 e12;go_enter Tryz.func66,Tryz.ntmps66
 go_wp2_with (first
  |(go_at_call 95;(with_reducible refine(zAc _ _ _ 0 8 (by decide) (by decide) (by decide) HSL0.out HL.out stQ).mono ?_);(repeat first|rw[E0.out]);rintro e wn ⟨rfl,h⟩;replace H:=hQd h;clear h)
  |(go_at_call 95;(with_reducible refine(zAc _ _ _ 8 4 (by decide) (by decide) (by decide) HSL1.out HL.out stQ).mono ?_);(repeat first|rw[E1.out]);rintro e wn ⟨rfl,h⟩;replace H:=hQd h;clear h)
  |(go_at_call 95;(with_reducible refine(zAc _ _ _ 12 4 (by decide) (by decide) (by decide) HSL2.out HL.out stQ).mono ?_);(repeat first|rw[E2.out]);rintro e wn ⟨rfl,h⟩;replace H:=hQd h;clear h)
  |(go_at_call 95;(with_reducible refine(zAc _ _ _ 16 1 (by decide) (by decide) (by decide) HSL3.out HL.out (H.out.allocRaw #[.int .i64 a0,.int .i64 a1,.int .i64 a2,.int .i64 (a4+4294967296),.int .i64 a5,.int .i64 a6,.int .i64 a7,.int .i64 a8,.int .i64 a9,.int .i64 a10,.int .i64 a11,.int .i64 a12] 3)).mono ?_);(repeat first|rw[E3.out]);rintro e wn ⟨rfl,h⟩;replace H:=hQd h;clear h;have y1:=H.out.rawCell 1;have y11:=H.out.rawCell 11;simp at y1 y11)
  |(go_at_call 95;(with_reducible refine(zAc _ _ _ 17 4 (by decide) (by decide) (by decide) HSL4.out HL.out stQ).mono ?_);(repeat first|rw[E4.out]);rintro e wn ⟨rfl,h⟩;replace H:=hQd h;clear h)
  |(go_at_call 95;(with_reducible refine(zAc _ _ _ 21 2 (by decide) (by decide) (by decide) HSL5.out HL.out stQ).mono ?_);(repeat first|rw[E5.out]);rintro e wn ⟨rfl,h⟩;replace H:=hQd h;clear h)
  |(go_at_call 95;(with_reducible refine(zAc _ _ _ 23 4 (by decide) (by decide) (by decide) HSL6.out HL.out stQ).mono ?_);(repeat first|rw[E6.out]);rintro e wn ⟨rfl,h⟩;replace H:=hQd h;clear h)
  |(go_at_call 95;(with_reducible refine(zAc _ _ _ 27 8 (by decide) (by decide) (by decide) HSL7.out HL.out stQ).mono ?_);(repeat first|rw[E7.out]);rintro e wn ⟨rfl,h⟩;replace H:=hQd h;clear h)
  |(go_at_call 95;(with_reducible refine(zAc _ _ _ 35 8 (by decide) (by decide) (by decide) HSL8.out HL.out stQ).mono ?_);(repeat first|rw[E8.out]);rintro e wn ⟨rfl,h⟩;replace H:=hQd h;clear h)
  |(go_at_call 95;(with_reducible refine(zAc _ _ _ 43 8 (by decide) (by decide) (by decide) HSL9.out HL.out stQ).mono ?_);(repeat first|rw[E9.out]);rintro e wn ⟨rfl,h⟩;replace H:=hQd h;clear h)
  |(go_at_call 95;(with_reducible refine(zAc _ _ _ 51 2 (by decide) (by decide) (by decide) HSL10.out HL.out stQ).mono ?_);(repeat first|rw[E10.out]);rintro e wn ⟨rfl,h⟩;replace H:=hQd h;clear h)
  |(go_at_call 95;(with_reducible refine(zAc _ _ _ 53 4 (by decide) (by decide) (by decide) HSL11.out HL.out stQ).mono ?_);(repeat first|rw[E11.out]);rintro e wn ⟨rfl,h⟩;replace H:=hQd h;clear h)
  |(go_at_call 95;(with_reducible refine(zAc _ _ _ 57 4 (by decide) (by decide) (by decide) HSL12.out HL.out stQ).mono ?_);(repeat first|rw[E12.out]);rintro e wn ⟨rfl,h⟩;replace H:=hQd h;clear h))
 go_ret2;exact⟨rfl,H.out.drop⟩
theorem zFB(s:Bs)(a0 a1 a2 a3 a4 a5 a6 a7 a8 a9 a10 a11 a12:Int)(e0:sInt ((s.drop 0).take 8)=a0)(e1:sInt ((s.drop 8).take 4)=a1)(e2:sInt ((s.drop 12).take 4)=a2)(e3:sInt ((s.drop 16).take 1)=a3)(e4:sInt ((s.drop 17).take 4)=a4)(e5:sInt ((s.drop 21).take 2)=a5)(e6:sInt ((s.drop 23).take 4)=a6)(e7:sInt ((s.drop 27).take 8)=a7)(e8:sInt ((s.drop 35).take 8)=a8)(e9:sInt ((s.drop 43).take 8)=a9)(e10:sInt ((s.drop 51).take 2)=a10)(e11:sInt ((s.drop 53).take 4)=a11)(e12:sInt ((s.drop 57).take 4)=a12)(hl61:61≤s.length)(hlen:s.length≤140737488355328)(hr4: -2147483648≤a4)(h4:a4<0)(hm:(a3 !=2)=false)(hl:a1<49)(h:St W0 w K L):
  Calls Tryz.prog 66 #[.string (bb s)] w fun en w'=>en=.returned (.tuple #[.slice none 0 0,.int .i64 4])∧St W0 w' K L:=by
 have H:=hQd h;have HL:=hQd hlen;have hd:decide ((s.length:Int)<61)=false:=decide_eq_false (by omega);have E0:=hQd e0;have HSL0:=hQd (show 0+8≤s.length by omega);have E1:=hQd e1;have HSL1:=hQd (show 8+4≤s.length by omega);have E2:=hQd e2;have HSL2:=hQd (show 12+4≤s.length by omega);have E3:=hQd e3;have HSL3:=hQd (show 16+1≤s.length by omega);have E4:=hQd e4;have HSL4:=hQd (show 17+4≤s.length by omega);have E5:=hQd e5;have HSL5:=hQd (show 21+2≤s.length by omega);have E6:=hQd e6;have HSL6:=hQd (show 23+4≤s.length by omega);have E7:=hQd e7;have HSL7:=hQd (show 27+8≤s.length by omega);have E8:=hQd e8;have HSL8:=hQd (show 35+8≤s.length by omega);have E9:=hQd e9;have HSL9:=hQd (show 43+8≤s.length by omega);have E10:=hQd e10;have HSL10:=hQd (show 51+2≤s.length by omega);have E11:=hQd e11;have HSL11:=hQd (show 53+4≤s.length by omega);have E12:=hQd e12;have HSL12:=hQd (show 57+4≤s.length by omega);clear h hlen hl61 e0 e1 e2 e3 e4 e5 e6 e7 e8 e9 e10 e11 e12;go_enter Tryz.func66,Tryz.ntmps66
 go_wp2_with (first
  |(go_at_call 95;(with_reducible refine(zAc _ _ _ 0 8 (by decide) (by decide) (by decide) HSL0.out HL.out stQ).mono ?_);(repeat first|rw[E0.out]);rintro e wn ⟨rfl,h⟩;replace H:=hQd h;clear h)
  |(go_at_call 95;(with_reducible refine(zAc _ _ _ 8 4 (by decide) (by decide) (by decide) HSL1.out HL.out stQ).mono ?_);(repeat first|rw[E1.out]);rintro e wn ⟨rfl,h⟩;replace H:=hQd h;clear h)
  |(go_at_call 95;(with_reducible refine(zAc _ _ _ 12 4 (by decide) (by decide) (by decide) HSL2.out HL.out stQ).mono ?_);(repeat first|rw[E2.out]);rintro e wn ⟨rfl,h⟩;replace H:=hQd h;clear h)
  |(go_at_call 95;(with_reducible refine(zAc _ _ _ 16 1 (by decide) (by decide) (by decide) HSL3.out HL.out (H.out.allocRaw #[.int .i64 a0,.int .i64 a1,.int .i64 a2,.int .i64 (a4+4294967296),.int .i64 a5,.int .i64 a6,.int .i64 a7,.int .i64 a8,.int .i64 a9,.int .i64 a10,.int .i64 a11,.int .i64 a12] 3)).mono ?_);(repeat first|rw[E3.out]);rintro e wn ⟨rfl,h⟩;replace H:=hQd h;clear h;have y1:=H.out.rawCell 1;have y11:=H.out.rawCell 11;simp at y1 y11)
  |(go_at_call 95;(with_reducible refine(zAc _ _ _ 17 4 (by decide) (by decide) (by decide) HSL4.out HL.out stQ).mono ?_);(repeat first|rw[E4.out]);rintro e wn ⟨rfl,h⟩;replace H:=hQd h;clear h)
  |(go_at_call 95;(with_reducible refine(zAc _ _ _ 21 2 (by decide) (by decide) (by decide) HSL5.out HL.out stQ).mono ?_);(repeat first|rw[E5.out]);rintro e wn ⟨rfl,h⟩;replace H:=hQd h;clear h)
  |(go_at_call 95;(with_reducible refine(zAc _ _ _ 23 4 (by decide) (by decide) (by decide) HSL6.out HL.out stQ).mono ?_);(repeat first|rw[E6.out]);rintro e wn ⟨rfl,h⟩;replace H:=hQd h;clear h)
  |(go_at_call 95;(with_reducible refine(zAc _ _ _ 27 8 (by decide) (by decide) (by decide) HSL7.out HL.out stQ).mono ?_);(repeat first|rw[E7.out]);rintro e wn ⟨rfl,h⟩;replace H:=hQd h;clear h)
  |(go_at_call 95;(with_reducible refine(zAc _ _ _ 35 8 (by decide) (by decide) (by decide) HSL8.out HL.out stQ).mono ?_);(repeat first|rw[E8.out]);rintro e wn ⟨rfl,h⟩;replace H:=hQd h;clear h)
  |(go_at_call 95;(with_reducible refine(zAc _ _ _ 43 8 (by decide) (by decide) (by decide) HSL9.out HL.out stQ).mono ?_);(repeat first|rw[E9.out]);rintro e wn ⟨rfl,h⟩;replace H:=hQd h;clear h)
  |(go_at_call 95;(with_reducible refine(zAc _ _ _ 51 2 (by decide) (by decide) (by decide) HSL10.out HL.out stQ).mono ?_);(repeat first|rw[E10.out]);rintro e wn ⟨rfl,h⟩;replace H:=hQd h;clear h)
  |(go_at_call 95;(with_reducible refine(zAc _ _ _ 53 4 (by decide) (by decide) (by decide) HSL11.out HL.out stQ).mono ?_);(repeat first|rw[E11.out]);rintro e wn ⟨rfl,h⟩;replace H:=hQd h;clear h)
  |(go_at_call 95;(with_reducible refine(zAc _ _ _ 57 4 (by decide) (by decide) (by decide) HSL12.out HL.out stQ).mono ?_);(repeat first|rw[E12.out]);rintro e wn ⟨rfl,h⟩;replace H:=hQd h;clear h))
 go_ret2;exact⟨rfl,H.out.drop⟩
theorem zFD(s:Bs)(a0 a1 a2 a3 a4 a5 a6 a7 a8 a9 a10 a11 a12:Int)(e0:sInt ((s.drop 0).take 8)=a0)(e1:sInt ((s.drop 8).take 4)=a1)(e2:sInt ((s.drop 12).take 4)=a2)(e3:sInt ((s.drop 16).take 1)=a3)(e4:sInt ((s.drop 17).take 4)=a4)(e5:sInt ((s.drop 21).take 2)=a5)(e6:sInt ((s.drop 23).take 4)=a6)(e7:sInt ((s.drop 27).take 8)=a7)(e8:sInt ((s.drop 35).take 8)=a8)(e9:sInt ((s.drop 43).take 8)=a9)(e10:sInt ((s.drop 51).take 2)=a10)(e11:sInt ((s.drop 53).take 4)=a11)(e12:sInt ((s.drop 57).take 4)=a12)(hl61:61≤s.length)(hlen:s.length≤140737488355328)(hr4: -2147483648≤a4)(h4:a4<0)(hm:(a3 !=2)=false)(hl:¬a1<49)(hc:a12<0)(h:St W0 w K L):
  Calls Tryz.prog 66 #[.string (bb s)] w fun en w'=>en=.returned (.tuple #[.slice none 0 0,.int .i64 10])∧St W0 w' K L:=by
 have H:=hQd h;have HL:=hQd hlen;have hd:decide ((s.length:Int)<61)=false:=decide_eq_false (by omega);have E0:=hQd e0;have HSL0:=hQd (show 0+8≤s.length by omega);have E1:=hQd e1;have HSL1:=hQd (show 8+4≤s.length by omega);have E2:=hQd e2;have HSL2:=hQd (show 12+4≤s.length by omega);have E3:=hQd e3;have HSL3:=hQd (show 16+1≤s.length by omega);have E4:=hQd e4;have HSL4:=hQd (show 17+4≤s.length by omega);have E5:=hQd e5;have HSL5:=hQd (show 21+2≤s.length by omega);have E6:=hQd e6;have HSL6:=hQd (show 23+4≤s.length by omega);have E7:=hQd e7;have HSL7:=hQd (show 27+8≤s.length by omega);have E8:=hQd e8;have HSL8:=hQd (show 35+8≤s.length by omega);have E9:=hQd e9;have HSL9:=hQd (show 43+8≤s.length by omega);have E10:=hQd e10;have HSL10:=hQd (show 51+2≤s.length by omega);have E11:=hQd e11;have HSL11:=hQd (show 53+4≤s.length by omega);have E12:=hQd e12;have HSL12:=hQd (show 57+4≤s.length by omega);clear h hlen hl61 e0 e1 e2 e3 e4 e5 e6 e7 e8 e9 e10 e11 e12;go_enter Tryz.func66,Tryz.ntmps66
 go_wp2_with (first
  |(go_at_call 95;(with_reducible refine(zAc _ _ _ 0 8 (by decide) (by decide) (by decide) HSL0.out HL.out stQ).mono ?_);(repeat first|rw[E0.out]);rintro e wn ⟨rfl,h⟩;replace H:=hQd h;clear h)
  |(go_at_call 95;(with_reducible refine(zAc _ _ _ 8 4 (by decide) (by decide) (by decide) HSL1.out HL.out stQ).mono ?_);(repeat first|rw[E1.out]);rintro e wn ⟨rfl,h⟩;replace H:=hQd h;clear h)
  |(go_at_call 95;(with_reducible refine(zAc _ _ _ 12 4 (by decide) (by decide) (by decide) HSL2.out HL.out stQ).mono ?_);(repeat first|rw[E2.out]);rintro e wn ⟨rfl,h⟩;replace H:=hQd h;clear h)
  |(go_at_call 95;(with_reducible refine(zAc _ _ _ 16 1 (by decide) (by decide) (by decide) HSL3.out HL.out (H.out.allocRaw #[.int .i64 a0,.int .i64 a1,.int .i64 a2,.int .i64 (a4+4294967296),.int .i64 a5,.int .i64 a6,.int .i64 a7,.int .i64 a8,.int .i64 a9,.int .i64 a10,.int .i64 a11,.int .i64 a12] 3)).mono ?_);(repeat first|rw[E3.out]);rintro e wn ⟨rfl,h⟩;replace H:=hQd h;clear h;have y1:=H.out.rawCell 1;have y11:=H.out.rawCell 11;simp at y1 y11)
  |(go_at_call 95;(with_reducible refine(zAc _ _ _ 17 4 (by decide) (by decide) (by decide) HSL4.out HL.out stQ).mono ?_);(repeat first|rw[E4.out]);rintro e wn ⟨rfl,h⟩;replace H:=hQd h;clear h)
  |(go_at_call 95;(with_reducible refine(zAc _ _ _ 21 2 (by decide) (by decide) (by decide) HSL5.out HL.out stQ).mono ?_);(repeat first|rw[E5.out]);rintro e wn ⟨rfl,h⟩;replace H:=hQd h;clear h)
  |(go_at_call 95;(with_reducible refine(zAc _ _ _ 23 4 (by decide) (by decide) (by decide) HSL6.out HL.out stQ).mono ?_);(repeat first|rw[E6.out]);rintro e wn ⟨rfl,h⟩;replace H:=hQd h;clear h)
  |(go_at_call 95;(with_reducible refine(zAc _ _ _ 27 8 (by decide) (by decide) (by decide) HSL7.out HL.out stQ).mono ?_);(repeat first|rw[E7.out]);rintro e wn ⟨rfl,h⟩;replace H:=hQd h;clear h)
  |(go_at_call 95;(with_reducible refine(zAc _ _ _ 35 8 (by decide) (by decide) (by decide) HSL8.out HL.out stQ).mono ?_);(repeat first|rw[E8.out]);rintro e wn ⟨rfl,h⟩;replace H:=hQd h;clear h)
  |(go_at_call 95;(with_reducible refine(zAc _ _ _ 43 8 (by decide) (by decide) (by decide) HSL9.out HL.out stQ).mono ?_);(repeat first|rw[E9.out]);rintro e wn ⟨rfl,h⟩;replace H:=hQd h;clear h)
  |(go_at_call 95;(with_reducible refine(zAc _ _ _ 51 2 (by decide) (by decide) (by decide) HSL10.out HL.out stQ).mono ?_);(repeat first|rw[E10.out]);rintro e wn ⟨rfl,h⟩;replace H:=hQd h;clear h)
  |(go_at_call 95;(with_reducible refine(zAc _ _ _ 53 4 (by decide) (by decide) (by decide) HSL11.out HL.out stQ).mono ?_);(repeat first|rw[E11.out]);rintro e wn ⟨rfl,h⟩;replace H:=hQd h;clear h)
  |(go_at_call 95;(with_reducible refine(zAc _ _ _ 57 4 (by decide) (by decide) (by decide) HSL12.out HL.out stQ).mono ?_);(repeat first|rw[E12.out]);rintro e wn ⟨rfl,h⟩;replace H:=hQd h;clear h))
 go_ret2;exact⟨rfl,H.out.drop⟩
theorem zES(s:Bs)(a0 a1 a2 a3 a4 a5 a6 a7 a8 a9 a10 a11 a12:Int)(e0:sInt ((s.drop 0).take 8)=a0)(e1:sInt ((s.drop 8).take 4)=a1)(e2:sInt ((s.drop 12).take 4)=a2)(e3:sInt ((s.drop 16).take 1)=a3)(e4:sInt ((s.drop 17).take 4)=a4)(e5:sInt ((s.drop 21).take 2)=a5)(e6:sInt ((s.drop 23).take 4)=a6)(e7:sInt ((s.drop 27).take 8)=a7)(e8:sInt ((s.drop 35).take 8)=a8)(e9:sInt ((s.drop 43).take 8)=a9)(e10:sInt ((s.drop 51).take 2)=a10)(e11:sInt ((s.drop 53).take 4)=a11)(e12:sInt ((s.drop 57).take 4)=a12)(hl61:61≤s.length)(hlen:s.length≤140737488355328)(hr4: -2147483648≤a4)(h4:a4<0)(hm:(a3 !=2)=false)(hl:¬a1<49)(hc:¬a12<0)(h:St W0 w K L):
  Calls Tryz.prog 66 #[.string (bb s)] w fun en w'=>∃bl,en=.returned (.tuple #[.slice (some ⟨bl,0,none⟩) 12 12,.int .i64 0])∧St W0 w' K (.raw bl #[.int .i64 a0,.int .i64 a1,.int .i64 a2,.int .i64 (a4+4294967296),.int .i64 a5,.int .i64 a6,.int .i64 a7,.int .i64 a8,.int .i64 a9,.int .i64 a10,.int .i64 a11,.int .i64 a12] 3::L):=by
 have H:=hQd h;have HL:=hQd hlen;have hd:decide ((s.length:Int)<61)=false:=decide_eq_false (by omega);have E0:=hQd e0;have HSL0:=hQd (show 0+8≤s.length by omega);have E1:=hQd e1;have HSL1:=hQd (show 8+4≤s.length by omega);have E2:=hQd e2;have HSL2:=hQd (show 12+4≤s.length by omega);have E3:=hQd e3;have HSL3:=hQd (show 16+1≤s.length by omega);have E4:=hQd e4;have HSL4:=hQd (show 17+4≤s.length by omega);have E5:=hQd e5;have HSL5:=hQd (show 21+2≤s.length by omega);have E6:=hQd e6;have HSL6:=hQd (show 23+4≤s.length by omega);have E7:=hQd e7;have HSL7:=hQd (show 27+8≤s.length by omega);have E8:=hQd e8;have HSL8:=hQd (show 35+8≤s.length by omega);have E9:=hQd e9;have HSL9:=hQd (show 43+8≤s.length by omega);have E10:=hQd e10;have HSL10:=hQd (show 51+2≤s.length by omega);have E11:=hQd e11;have HSL11:=hQd (show 53+4≤s.length by omega);have E12:=hQd e12;have HSL12:=hQd (show 57+4≤s.length by omega);clear h hlen hl61 e0 e1 e2 e3 e4 e5 e6 e7 e8 e9 e10 e11 e12;go_enter Tryz.func66,Tryz.ntmps66
 go_wp2_with (first
  |(go_at_call 95;(with_reducible refine(zAc _ _ _ 0 8 (by decide) (by decide) (by decide) HSL0.out HL.out stQ).mono ?_);(repeat first|rw[E0.out]);rintro e wn ⟨rfl,h⟩;replace H:=hQd h;clear h)
  |(go_at_call 95;(with_reducible refine(zAc _ _ _ 8 4 (by decide) (by decide) (by decide) HSL1.out HL.out stQ).mono ?_);(repeat first|rw[E1.out]);rintro e wn ⟨rfl,h⟩;replace H:=hQd h;clear h)
  |(go_at_call 95;(with_reducible refine(zAc _ _ _ 12 4 (by decide) (by decide) (by decide) HSL2.out HL.out stQ).mono ?_);(repeat first|rw[E2.out]);rintro e wn ⟨rfl,h⟩;replace H:=hQd h;clear h)
  |(go_at_call 95;(with_reducible refine(zAc _ _ _ 16 1 (by decide) (by decide) (by decide) HSL3.out HL.out (H.out.allocRaw #[.int .i64 a0,.int .i64 a1,.int .i64 a2,.int .i64 (a4+4294967296),.int .i64 a5,.int .i64 a6,.int .i64 a7,.int .i64 a8,.int .i64 a9,.int .i64 a10,.int .i64 a11,.int .i64 a12] 3)).mono ?_);(repeat first|rw[E3.out]);rintro e wn ⟨rfl,h⟩;replace H:=hQd h;clear h;have y1:=H.out.rawCell 1;have y11:=H.out.rawCell 11;simp at y1 y11)
  |(go_at_call 95;(with_reducible refine(zAc _ _ _ 17 4 (by decide) (by decide) (by decide) HSL4.out HL.out stQ).mono ?_);(repeat first|rw[E4.out]);rintro e wn ⟨rfl,h⟩;replace H:=hQd h;clear h)
  |(go_at_call 95;(with_reducible refine(zAc _ _ _ 21 2 (by decide) (by decide) (by decide) HSL5.out HL.out stQ).mono ?_);(repeat first|rw[E5.out]);rintro e wn ⟨rfl,h⟩;replace H:=hQd h;clear h)
  |(go_at_call 95;(with_reducible refine(zAc _ _ _ 23 4 (by decide) (by decide) (by decide) HSL6.out HL.out stQ).mono ?_);(repeat first|rw[E6.out]);rintro e wn ⟨rfl,h⟩;replace H:=hQd h;clear h)
  |(go_at_call 95;(with_reducible refine(zAc _ _ _ 27 8 (by decide) (by decide) (by decide) HSL7.out HL.out stQ).mono ?_);(repeat first|rw[E7.out]);rintro e wn ⟨rfl,h⟩;replace H:=hQd h;clear h)
  |(go_at_call 95;(with_reducible refine(zAc _ _ _ 35 8 (by decide) (by decide) (by decide) HSL8.out HL.out stQ).mono ?_);(repeat first|rw[E8.out]);rintro e wn ⟨rfl,h⟩;replace H:=hQd h;clear h)
  |(go_at_call 95;(with_reducible refine(zAc _ _ _ 43 8 (by decide) (by decide) (by decide) HSL9.out HL.out stQ).mono ?_);(repeat first|rw[E9.out]);rintro e wn ⟨rfl,h⟩;replace H:=hQd h;clear h)
  |(go_at_call 95;(with_reducible refine(zAc _ _ _ 51 2 (by decide) (by decide) (by decide) HSL10.out HL.out stQ).mono ?_);(repeat first|rw[E10.out]);rintro e wn ⟨rfl,h⟩;replace H:=hQd h;clear h)
  |(go_at_call 95;(with_reducible refine(zAc _ _ _ 53 4 (by decide) (by decide) (by decide) HSL11.out HL.out stQ).mono ?_);(repeat first|rw[E11.out]);rintro e wn ⟨rfl,h⟩;replace H:=hQd h;clear h)
  |(go_at_call 95;(with_reducible refine(zAc _ _ _ 57 4 (by decide) (by decide) (by decide) HSL12.out HL.out stQ).mono ?_);(repeat first|rw[E12.out]);rintro e wn ⟨rfl,h⟩;replace H:=hQd h;clear h))
 go_ret2;exact⟨_,rfl,H.out⟩
def psz:List Nat:=[8,4,4,4,2,4,8,8,8,2,4,4]
def adj (k:Nat):Nat:=if k≤3 then k else k+1
theorem zOq(x:PreS)(k:Nat)(hk:k<12)(h3:k≠3):x.items.take (adj (k+1))=x.items.take (adj k)++[(x.list.getD k 0,psz.getD k 0)]∧(x.list.getD k 0,psz.getD k 0)∈x.items:=by
 rcases(by omega:k=0∨k=1∨k=2∨k=4∨k=5∨k=6∨k=7∨k=8∨k=9∨k=10∨k=11)with h|h|h|h|h|h|h|h|h|h|h<;>subst h<;>exact⟨rfl,by simp[PreS.items,PreS.list,psz]⟩
theorem zMX(x:PreS):x.items.take (adj (3+1))=x.items.take (adj 3)++[(2,1),(zAG x.sum,4)]∧(zAG x.sum,4)∈x.items:=⟨rfl,by simp[PreS.items]⟩
theorem zOr(x:PreS)(k:Nat)(hk:k<12):(#[.int .i64 x.base,.int .i64 x.len,.int .i64 x.leader,.int .i64 x.sum,.int .i64 x.attr,.int .i64 x.last,.int .i64 x.first,.int .i64 x.maxt,.int .i64 x.prod,.int .i64 x.epoch,.int .i64 x.seq,.int .i64 x.count]:Array Value)[k]? =some (.int .i64 (x.list.getD k 0))∧(#[.int .i64 8,.int .i64 4,.int .i64 4,.int .i64 4,.int .i64 2,.int .i64 4,.int .i64 8,.int .i64 8,.int .i64 8,.int .i64 2,.int .i64 4,.int .i64 4]:Array Value)[k]? =some (.int .i64 (psz.getD k 0))∧x.list.getD k 0∈x.list∧1≤psz.getD k 0∧psz.getD k 0≤8:=by
 rcases(by omega:k=0∨k=1∨k=2∨k=3∨k=4∨k=5∨k=6∨k=7∨k=8∨k=9∨k=10∨k=11)with h|h|h|h|h|h|h|h|h|h|h|h<;>subst h<;>exact⟨rfl,rfl,by simp[PreS.list],by decide,by decide⟩
theorem zBl(a b:List (Int×Nat)):zAk (a++b)=zAk a++zAk b:=List.flatMap_append
theorem FitsAll.nil:FitsAll []:=fun _ hx=>by cases hx
theorem FitsAll.append{a b:List (Int×Nat)}(h:FitsAll a)(k:FitsAll b):FitsAll (a++b):=fun x hx=>(List.mem_append.1 hx).elim (h x) (k x)
theorem FitsAll.one{n:Int}{z:Nat}(h:fits n z):FitsAll [(n,z)]:=fun x hx=>by simp at hx;subst hx;exact h
theorem zKe(x:PreS)(k:Nat):(zAk (x.items.take k)).length≤61:=by
 have h1:(zAk x.items).length=61:=by rw[zBG];rfl
 have h2:zAk x.items=zAk (x.items.take k)++zAk (x.items.drop k):=by rw[←zBl,List.take_append_drop]
 have h3:=congrArg List.length h2;rw[List.length_append]at h3
 omega
theorem zEE(n:Int)(h0:¬n<0)(h1:¬4294967295<n):fits (zAG n) 4:=by
 have e4:half 4=2147483648:=by decide
 unfold fits zAG;rw[if_neg (by omega)];refine⟨by decide,by decide,?_⟩;have:(4:Int).toNat=4:=rfl;rw[this,e4]
 split<;>omega
theorem zDj(n:Int)(h:n<0∨4294967295<n):¬fits (zAG n) 4:=by
 have e:zAG n=4294967296:=if_pos h;rw[e]
 decide
def zBW (x:PreS):Bs×Bool:=if FitsAll x.items then(zAk x.items,true)else([],false)
theorem zP6{x:PreS}(hp:FitsAll x.items):Ending.returned (.tuple #[.string (bb (zAk x.items)),.bool true])=Ending.returned (.tuple #[.string (bb (zBW x).1),.bool (zBW x).2]):=by unfold zBW;rw[if_pos hp]
theorem zF9{x:PreS}(hp:¬FitsAll x.items):Ending.returned (.tuple #[.string ⟨#[]⟩,.bool false])=Ending.returned (.tuple #[.string (bb (zBW x).1),.bool (zBW x).2]):=by unfold zBW;rw[if_neg hp];rfl
theorem zq28{p:Prop}(h:p:=by
  go_roundw
  case rel=>
   obtain⟨k',r1,r2,r3,r4⟩:=REL.out;exact⟨k',r1,r2,r3,r4,H.out⟩
  case measure=>first|(simp[intOf];done)|(simp[intOf];omega)):p:=h
theorem zJN(bl:Nat)(x:PreS)(hx:x.R){W0 w:World}{K:Know}{L:List Res}(h:St W0 w K (.raw bl #[.int .i64 x.base,.int .i64 x.len,.int .i64 x.leader,.int .i64 x.sum,.int .i64 x.attr,.int .i64 x.last,.int .i64 x.first,.int .i64 x.maxt,.int .i64 x.prod,.int .i64 x.epoch,.int .i64 x.seq,.int .i64 x.count] 3::L)):
  Calls Tryz.prog 29 #[.slice (some ⟨bl,0,none⟩) 12 12] w fun en w'=>en=.returned (.tuple #[.string (bb (zBW x).1),.bool (zBW x).2])∧St W0 w' K (.raw bl #[.int .i64 x.base,.int .i64 x.len,.int .i64 x.leader,.int .i64 x.sum,.int .i64 x.attr,.int .i64 x.last,.int .i64 x.first,.int .i64 x.maxt,.int .i64 x.prod,.int .i64 x.epoch,.int .i64 x.seq,.int .i64 x.count] 3::L):=by
 have H:=hQd (h.allocRaw #[.int .i64 8,.int .i64 4,.int .i64 4,.int .i64 4,.int .i64 2,.int .i64 4,.int .i64 8,.int .i64 8,.int .i64 8,.int .i64 2,.int .i64 4,.int .i64 4] 3);have HX:=hQd hx;clear h hx;go_enter Tryz.func29,Tryz.ntmps29;go_wp2;obtain⟨bs,hbs⟩:∃b,w.heap.size=b:=⟨_,rfl⟩;rw[hbs]at H
 try rw[hbs]
 have HBS:=hQd hbs;clear hbs;go_loopw [5,6] (fun sv iv wr=>∃k:Nat,k≤12∧iv=.int .i64 k∧sv=.string (bb (zAk (x.items.take (adj k))))∧FitsAll (x.items.take (adj k))∧St W0 wr K (.raw bs #[.int .i64 8,.int .i64 4,.int .i64 4,.int .i64 4,.int .i64 2,.int .i64 4,.int .i64 8,.int .i64 8,.int .i64 8,.int .i64 2,.int .i64 4,.int .i64 4] 3::.raw bl #[.int .i64 x.base,.int .i64 x.len,.int .i64 x.leader,.int .i64 x.sum,.int .i64 x.attr,.int .i64 x.last,.int .i64 x.first,.int .i64 x.maxt,.int .i64 x.prod,.int .i64 x.epoch,.int .i64 x.seq,.int .i64 x.count] 3::L)) (fun _ iv _=>12 - (intOf iv).toNat)
 case atStart=>exact⟨0,Nat.zero_le _,rfl,rfl,FitsAll.nil,H.out⟩
 case round=>
  obtain⟨k,hk,rfl,rfl,hfa,hst⟩:=hrel;have HFA:=hQd hfa;have H:=hQd hst;clear hfa hst;have hlen:=zKe x (adj k);obtain⟨e0,he0⟩:∃e,zAk (x.items.take (adj k))=e:=⟨_,rfl⟩;rw[he0]at hlen;rw[he0];have HE0:=hQd he0;clear he0
  by_cases hlt:k<12
  · obtain⟨p1,p2,p3,p4,p5⟩:=zOr x k hlt;have hnr:=HX.out _ p3;obtain⟨n,hn⟩:∃n,x.list.getD k 0=n:=⟨_,rfl⟩;obtain⟨z,hz⟩:∃z,psz.getD k 0=z:=⟨_,rfl⟩;rw[hn]at p1 hnr;rw[hz]at p2 p4 p5;have C1:=hQd p1;have C2:=hQd p2;have HN:=hQd hnr;have HZ8:=hQd (show z≤140737488355328 by omega);have HNZ:=hQd (And.intro hn hz);have d1:=H.out.p1.rawCell k;have d2:=H.out.rawCell k;rw[C1.out]at d1;rw[C2.out]at d2;clear p1 p2 p3 hnr hn hz hk
    by_cases h3:k=3
    · subst h3;have HNX:=hQd (show x.sum=n from HNZ.out.1);obtain rfl:4=z:=HNZ.out.2;have HQ:=hQd (zMX x);rw[HNX.out]at HQ
      by_cases h0:n<0
      · go_wp2;go_ret2;exact⟨zF9 (fun h=>zDj n (.inl h0) (h _ HQ.out.2)),H.out.drop⟩
      by_cases h1:4294967295<n
      · go_wp2;go_ret2;exact⟨zF9 (fun h=>zDj n (.inr h1) (h _ HQ.out.2)),H.out.drop⟩
      have HF:=hQd (zEE n h0 h1);have HSR:=hQd (zCo n);have HF4:=hQd (decide_eq_true HF.out)
      by_cases h2:2147483647<n
      · have hsi:zAG n=n - 4294967296:=by unfold zAG;rw[if_neg (by omega),if_pos h2]
        rw[hsi]at HF4 HF HQ HSR;have tokA:True:=trivial
        have REL:=hQd (show ∃k:Nat,k≤12∧Value.int .i64 (3+1)=.int .i64 k∧Value.string (bb (e0++(zAo 2 1++zAo (n - 4294967296) 4)))=.string (bb (zAk (x.items.take (adj k))))∧FitsAll (x.items.take (adj k))from
         ⟨4,by decide,rfl,by rw[HQ.out.1,zBl,HE0.out];simp[zAk],by rw[HQ.out.1];exact HFA.out.append (fun y hy=>by simp at hy;rcases hy with rfl|rfl;exact(by decide);exact HF.out)⟩)
        clear hsi
        go_wp2_with (first
         |(go_at_call 62;have _t:=tokA;clear _t;refine(zC0 2 1 (by decide) (by decide) H.out).mono ?_;rintro e wn ⟨rfl,h⟩;replace H:=hQd h;clear h tokA;have d1:=H.out.p1.rawCell 3;have d2:=H.out.rawCell 3;rw[C1.out]at d1;rw[C2.out]at d2)
         |(go_at_call 62;refine(zC0 (n - 4294967296) 4 (by decide) HSR.out H.out).mono ?_;rintro e wn ⟨rfl,h⟩;replace H:=hQd h;clear h;have d1:=H.out.p1.rawCell 3;have d2:=H.out.rawCell 3;rw[C1.out]at d1;rw[C2.out]at d2)
         |(go_at_call 63;refine(zJH (n - 4294967296) 4 HSR.out H.out).mono ?_;rw[HF4.out];rintro e wn ⟨rfl,h⟩;replace H:=hQd h;clear h;have d1:=H.out.p1.rawCell 3;have d2:=H.out.rawCell 3;rw[C1.out]at d1;rw[C2.out]at d2))
        exact zq28
      · have hsi:zAG n=n:=by unfold zAG;rw[if_neg (by omega),if_neg h2]
        rw[hsi]at HF4 HF HQ HSR;have tokA:True:=trivial
        have REL:=hQd (show ∃k:Nat,k≤12∧Value.int .i64 (3+1)=.int .i64 k∧Value.string (bb (e0++(zAo 2 1++zAo (n) 4)))=.string (bb (zAk (x.items.take (adj k))))∧FitsAll (x.items.take (adj k))from
         ⟨4,by decide,rfl,by rw[HQ.out.1,zBl,HE0.out];simp[zAk],by rw[HQ.out.1];exact HFA.out.append (fun y hy=>by simp at hy;rcases hy with rfl|rfl;exact(by decide);exact HF.out)⟩)
        clear hsi
        go_wp2_with (first
         |(go_at_call 62;have _t:=tokA;clear _t;refine(zC0 2 1 (by decide) (by decide) H.out).mono ?_;rintro e wn ⟨rfl,h⟩;replace H:=hQd h;clear h tokA;have d1:=H.out.p1.rawCell 3;have d2:=H.out.rawCell 3;rw[C1.out]at d1;rw[C2.out]at d2)
         |(go_at_call 62;refine(zC0 (n) 4 (by decide) HSR.out H.out).mono ?_;rintro e wn ⟨rfl,h⟩;replace H:=hQd h;clear h;have d1:=H.out.p1.rawCell 3;have d2:=H.out.rawCell 3;rw[C1.out]at d1;rw[C2.out]at d2)
         |(go_at_call 63;refine(zJH (n) 4 HSR.out H.out).mono ?_;rw[HF4.out];rintro e wn ⟨rfl,h⟩;replace H:=hQd h;clear h;have d1:=H.out.p1.rawCell 3;have d2:=H.out.rawCell 3;rw[C1.out]at d1;rw[C2.out]at d2))
        exact zq28
    · obtain⟨q1,q2⟩:=zOq x k hlt h3;rw[HNZ.out.1,HNZ.out.2]at q1 q2;have HQ:=hQd (And.intro q1 q2);clear q1 q2;have h3b:((k:Int)==3)=false:=by rw[beq_eq_false_iff_ne];omega
      have HK3:=hQd h3;clear h3
      by_cases hf:fits n z
      all_goals
        have HF:=hQd hf;have hdf:decide (fits n z)=decide (fits n z):=rfl
        conv at hdf=>rhs;(first|rw[decide_eq_true HF.out]|rw[decide_eq_false HF.out])
        have HDF:=hQd hdf;clear hf hdf
        go_wp2_with (first
         |(go_at_call 63;(with_reducible refine(zJH _ _ HN.out H.out).mono ?_);rw[HDF.out];rintro e wn ⟨rfl,h⟩;replace H:=hQd h;clear h;have d1:=H.out.p1.rawCell k;have d2:=H.out.rawCell k;rw[C1.out]at d1;rw[C2.out]at d2)
         |(go_at_call 62;(with_reducible refine(zC0 _ _ HZ8.out HN.out H.out).mono ?_);rintro e wn ⟨rfl,h⟩;replace H:=hQd h;clear h;have d1:=H.out.p1.rawCell k;have d2:=H.out.rawCell k;rw[C1.out]at d1;rw[C2.out]at d2))
      · go_roundw
        case rel=>
         refine⟨k+1,by omega,by go_num,?_,?_,H.out⟩
         · rw[HQ.out.1,zBl,HE0.out];simp[zAk]
         · rw[HQ.out.1];exact HFA.out.append (FitsAll.one HF.out)
        case measure=>first|(simp[intOf];done)|(simp[intOf];omega)
      · go_ret2;exact⟨zF9 (fun h=>HF.out (h _ HQ.out.2)),H.out.drop⟩
  · have hk12:k=12:=by omega
    subst hk12;go_wp2;go_ret2;have ht:x.items.take (adj 12)=x.items:=rfl;have h1:=HFA.out;have h2:=HE0.out;rw[ht]at h1 h2;subst h2;exact⟨zP6 h1,H.out.drop⟩
end Go.Proofs.YtenojajfacacoaaGreatDoor
