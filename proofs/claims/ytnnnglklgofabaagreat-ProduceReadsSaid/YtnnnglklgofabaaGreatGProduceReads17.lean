/- A text. -/
import Derived.Test.YtnnnglklgofabaaGreatGProduceReads12
import Derived.Test.YtnnnglklgofabaaGreatGProduceReads16
import Derived.Test.YtnnnglklgofabaaGreatGProduceReads10
import Derived.RegionTactic
import Derived.Deep.RegionHeld3
import Derived.Deep.DeepCutAuto
import Derived.WalkMore
import Derived.Test.YtnnnglklgofabaaGreatGProduceReads13
import Derived.Test.YtnnnglklgofabaaGreatGProduceReads9
import Derived.Test.YtnnnglklgofabaaGreatGProduceReads14
import Derived.Test.YtnnnglklgofabaaGreatGProduceReads11
import Derived.Test.YtnnnglklgofabaaGreatGProduceReads4
import Derived.Test.YtnnnglklgofabaaGreatGProduceReads5
/- A text. -/
namespace Go.Proofs.YtnnnglklgofabaaGreat
open Go.RowKit
set_option maxHeartbeats 8000000
set_option maxRecDepth 100000
variable {W0 w:World}{K:Know}{L:List Res}
theorem St.freezePartsK{v:Value}{T:TypeId}{l:List PartR}{k:Nat}{xs:List Value}(h:St W0 w K (.row v T 2 k xs::L))(hk:k=l.length)(hx:xs=l.flatMap zG4)(ht:∀x∈l,K.has (Know.bats (.slice x.q x.l.length x.cap) x.l)):St W0 w (K.and (Know.pparts v l)) L:=by
 subst hk;subst hx;exact h.freezeParts ht
theorem zRk(s:Bs)(ve:Int)(hs:s.length≤1000000)(nl:Bool)(dd:Bs)(k:Nat)(hv:zAk 2 s=.ok (⟨nl,dd⟩,k))(hl:¬(s.drop k).length<6)(n:Nat)(hc:cntR 6 (s.drop (k+6))=(n,0))(F:Except Int (List TopV×Nat))(hF:zEI [] (k+10) (zBN n (s.drop (k+10)))=F)(hok:∀ts m,F=.ok (ts,m)→ts.length≤1000000∧∀x∈ts,PtOk s.length x)(h:St W0 w K L):
  Calls Tryz.prog 19 #[.string (bb s),.int .i64 ve] w fun en w'=>RPost nl dd (sInt ((s.drop k).take 2)) (sInt ((s.drop (k+2)).take 4)) ve K W0 L F en w':=by
 obtain⟨rb,hrb⟩:∃b,w.heap.size=b:=⟨_,rfl⟩;obtain⟨nb,hnb⟩:∃b,rb+1=b:=⟨_,rfl⟩;have g1:=(h.allocRaw #[.bool false,.string ⟨#[]⟩,.int .i64 0,.int .i64 0,.slice none 0 0] 40).allocRaw #[.bool false,.string ⟨#[]⟩,.int .i64 0,.int .i64 0,.slice none 0 0] 40;simp only[World.size_alloc,hrb,hnb]at g1;obtain⟨c0,c1,c2,c3,c4⟩:=uR5 g1;simp at c0 c1 c2 c3 c4;obtain⟨q0,q1,q2,q3,q4⟩:=uS5 g1.p1;obtain⟨v0,v1,v2,v3,v4⟩:=uR5 g1.p1;simp at v0 v1 v2 v3 v4;have H:=hQd g1;clear h g1;have HX:=hQd (show s.length≤140737488355328 by omega);have hsl:(s.length:Int)≤1000000:=by omega
 have HV0:=hQd hv;have HV:=hQd hv;rw[List.length_drop]at hl;obtain⟨hk2,hkl⟩:=zDL hv;have HVK:=hQd hkl;obtain⟨ac,hac⟩:∃a,sInt ((s.drop k).take 2)=a:=⟨_,rfl⟩;obtain⟨tm,htm⟩:∃a,sInt ((s.drop (k+2)).take 4)=a:=⟨_,rfl⟩;have HAC:=hQd hac;have HTM:=hQd htm;have H82:=hQd (show((s.drop k).take 2).length≤8 by rw[List.length_take];omega);have H84:=hQd (show((s.drop (k+2)).take 4).length≤8 by rw[List.length_take];omega);have hki:(k:Int)≤1000000:=by omega
 have h6a:(k:Int)+2≤(s.length:Int):=by omega
 have h6b:(k:Int)+6≤(s.length:Int):=by omega
 have h6c:¬((s.length:Int) - (k:Int)<6):=by omega
 have h6d:(k:Int)≤(s.length:Int):=by omega
 obtain⟨ka,hka⟩:∃a:Nat,k+2=a:=⟨_,rfl⟩;obtain⟨kb,hkb⟩:∃a:Nat,k+6=a:=⟨_,rfl⟩;have hwa:IntKind.i64.wrap ((k:Int)+2)=(ka:Int):=by rw[IntKind.wrap_i64];omega
 have hwb:IntKind.i64.wrap ((k:Int)+6)=(kb:Int):=by rw[IntKind.wrap_i64];omega
 have hwc:(k:Int)+6=(kb:Int):=by omega
 have hwd:IntKind.i64.wrap (kb:Int)=(kb:Int):=by rw[IntKind.wrap_i64];omega
 have hwe:IntKind.i64.wrap (ka:Int)=(ka:Int):=by rw[IntKind.wrap_i64];omega
 have h6e:(k:Int)≤(ka:Int):=by omega
 have h6f:(ka:Int)≤(kb:Int):=by omega
 have h6g:(kb:Int)≤(s.length:Int):=by omega
 have h6h:(ka:Int)≤(s.length:Int):=by omega
 have h6i:k≤ka:=by omega
 have h6j:ka≤kb:=by omega
 have HT1:=hQd (show List.take (ka - k) (List.drop k s)=(s.drop k).take 2 by rw[←hka,Nat.add_sub_cancel_left]);have HT2:=hQd (show List.take (kb - ka) (List.drop ka s)=(s.drop (k+2)).take 4 by rw[←hka,←hkb,show k+6 - (k+2)=4 by omega]);have HTE:=hQd (show List.take (s.length - kb) (List.drop kb s)=s.drop (k+6) by rw[←hkb];exact zCx s (k+6));have HKB:=hQd hkb;have HX6:=hQd (show(s.drop (k+6)).length≤1000000 by rw[List.length_drop];omega);have HC:=hQd hc;obtain⟨_,hle⟩:=zDE dD hc;rw[List.length_drop]at hle;have HSL:=hQd hs;have HF:=hQd hF;have HOK:=hQd hok;have HNB:=hQd (show n≤1000000 by omega);have HP4:=hQd (show k+10≤s.length by omega);have hni:(n:Int)≤1000000:=by omega
 have hk4:(kb:Int)+4=((k+10:Nat):Int):=by omega
 have HKX:=hQd hk4;rw[hac,htm];clear hs hv hl hk2 hkl hac htm hc hF hok hle hka hkb hk4;go_enter Tryz.func19,Tryz.ntmps19;go_upto_region 8 with (go_at_call 53;(try clear c0 v0 q0 c1 v1 q1 c2 v2 q2 c3 v3 q3 c4 v4 q4);(with_reducible refine(zB0 s s nl dd k rfl HX.out HV.out H.out).mono ?_);rintro e_ wn ⟨rfl,h⟩;obtain⟨fb,hfb⟩:∃b,wn.heap.size=b:=⟨_,rfl⟩;have h:=h.allocRaw #[.bool nl,.string (bb dd),.int .i64 k,.int .i64 0] 102;rw[hfb]at h;obtain⟨x0,x1,x2,x3⟩:=uR4 h;simp at x0 x1 x2 x3;obtain⟨c0,c1,c2,c3,c4⟩:=uR5 h.p1;simp at c0 c1 c2 c3 c4;obtain⟨q0,q1,q2,q3,q4⟩:=uS5 h.p2;obtain⟨v0,v1,v2,v3,v4⟩:=uR5 h.p2;simp at v0 v1 v2 v3 v4;replace H:=hQd h;clear h);go_cut [10] (fun s10 wx=>∃vb:Nat,s10=.pointer (some ⟨vb,0,none⟩)∧St W0 wx K (.raw vb #[.bool nl,.string (bb dd),.int .i64 ac,.int .i64 tm,.slice none 0 0] 40::.raw fb #[.bool nl,.string (bb dd),.int .i64 k,.int .i64 0] 102::.raw nb #[.bool false,.string ⟨#[]⟩,.int .i64 0,.int .i64 0,.slice none 0 0] 40::.raw rb #[.bool false,.string ⟨#[]⟩,.int .i64 0,.int .i64 0,.slice none 0 0] 40::L))
 case first=>
  (try clear c0 v0 q0 c1 v1 q1 c2 v2 q2 c3 v3 q3 c4 v4 q4)
  have HKA:=hQd (show ∀(w':World),St W0 w' K (.raw fb #[.bool nl,.string (bb dd),.int .i64 k,.int .i64 0] 102::.raw nb #[.bool false,.string ⟨#[]⟩,.int .i64 0,.int .i64 0,.slice none 0 0] 40::.raw rb #[.bool false,.string ⟨#[]⟩,.int .i64 0,.int .i64 0,.slice none 0 0] 40::L)→(w'.cell? ⟨fb,0,none⟩=some (.bool nl)∧w'.cell? ⟨fb,1,none⟩=some (.string (bb dd)))from fun w' hs=>by
    obtain⟨a0,a1⟩:=uR2 hs;simp at a0 a1
    exact⟨a0,a1⟩)
  have HKB:=hQd (show ∀(w':World) (r0:Res),St W0 w' K (r0::.raw fb #[.bool nl,.string (bb dd),.int .i64 k,.int .i64 0] 102::.raw nb #[.bool false,.string ⟨#[]⟩,.int .i64 0,.int .i64 0,.slice none 0 0] 40::.raw rb #[.bool false,.string ⟨#[]⟩,.int .i64 0,.int .i64 0,.slice none 0 0] 40::L)→(w'.cell? ⟨fb,0,none⟩=some (.bool nl)∧w'.cell? ⟨fb,1,none⟩=some (.string (bb dd)))from fun w' r0 hs=>by
    obtain⟨a0,a1⟩:=uR2 hs.p1;simp at a0 a1
    exact⟨a0,a1⟩)
  have hs:=H.out.drew;refine wp_region_held_drew (S:=fun w'=>(w'.cell? ⟨fb,0,none⟩=some (.bool nl)∧w'.cell? ⟨fb,1,none⟩=some (.string (bb dd)))) (by kernel_rfl) (HKA.out _ hs) (fun hHeld=> ?_);refine tR 0 ?_;refine tR 1 ?_;refine tR 2 ?_;refine tR 3 ?_;refine tR 4 ?_;refine tR 5 ?_;refine tR 6 ?_;refine tR 8 ?_;refine tR 9 ?_;refine tR 10 ?_;refine tR 11 ?_;refine tR 12 ?_;refine tR 13 ?_;refine wR [7,16] (rC rfl (fun KK hK=> ?_) (rC rfl (fun KK hK=> ?_) rN))
  focus
    go_simp;go_at_call 54;with_reducible refine(zBQ _ ((s.drop k).take 2) (by first|rfl|exact HT1.out|simp) ac HAC.out H82.out hs).mono ?_;rintro e wq ⟨rfl,hs⟩;refine zK hK (HKA.out _ hs) (fun hHeld=> ?_);clear hK KK
    refine wR [14,16] (rC rfl (fun KK hK=> ?_) (rC rfl (fun KK hK=> ?_) rN))
    focus
      go_simp;go_at_call 54;with_reducible refine(zBQ _ ((s.drop (k+2)).take 4) zq70 tm HTM.out H84.out hs).mono ?_;rintro e wq ⟨rfl,hs⟩;refine zK hK (HKA.out _ hs) (fun hHeld=> ?_);clear hK KK
      refine tR 15 ?_;refine wR [16] (rC rfl (fun KK hK=> ?_) rN);obtain⟨wy,vb,ey,er,hs⟩:=hs.allocEx #[.bool false,.string ⟨#[]⟩,.int .i64 0,.int .i64 0,.slice none 0 0] 40;go_simp
      try rw[ey]
      try rw[er]
      clear ey er;refine zK hK (HKB.out _ _ hs) (fun hHeld=> ?_);clear hK KK
    rotate_left
    focus
      obtain⟨wy,vb,ey,er,hs⟩:=hs.allocEx #[.bool false,.string ⟨#[]⟩,.int .i64 0,.int .i64 0,.slice none 0 0] 40;go_simp
      try rw[ey]
      try rw[er]
      clear ey er;refine zK hK (HKB.out _ _ hs) (fun hHeld=> ?_);clear hK KK
      refine wR [14] (rC rfl (fun KK hK=> ?_) rN);go_simp;go_at_call 54;with_reducible refine(zBQ _ ((s.drop (k+2)).take 4) zq70 tm HTM.out H84.out hs).mono ?_;rintro e wq ⟨rfl,hs⟩;refine zK hK (HKB.out _ _ hs) (fun hHeld=> ?_);clear hK KK
      refine tR 15 ?_
  rotate_left 2
  focus
    obtain⟨wy,vb,ey,er,hs⟩:=hs.allocEx #[.bool false,.string ⟨#[]⟩,.int .i64 0,.int .i64 0,.slice none 0 0] 40;go_simp
    try rw[ey]
    try rw[er]
    clear ey er;refine zK hK (HKB.out _ _ hs) (fun hHeld=> ?_);clear hK KK
    refine wR [7] (rC rfl (fun KK hK=> ?_) rN);go_simp;go_at_call 54;with_reducible refine(zBQ _ ((s.drop k).take 2) (by first|rfl|exact HT1.out|simp) ac HAC.out H82.out hs).mono ?_;rintro e wq ⟨rfl,hs⟩;refine zK hK (HKB.out _ _ hs) (fun hHeld=> ?_);clear hK KK
    refine wR [14] (rC rfl (fun KK hK=> ?_) rN);go_simp;go_at_call 54;with_reducible refine(zBQ _ ((s.drop (k+2)).take 4) zq70 tm HTM.out H84.out hs).mono ?_;rintro e wq ⟨rfl,hs⟩;refine zK hK (HKB.out _ _ hs) (fun hHeld=> ?_);clear hK KK
    refine tR 15 ?_
  all_goals
    exact zq16
 obtain⟨vb,rfl,h⟩:=hcut;clear H;obtain⟨c0,c1,c2,c3,c4⟩:=uR5 h.p2;simp at c0 c1 c2 c3 c4;obtain⟨q0,q1,q2,q3,q4⟩:=uS5 h.p3;obtain⟨v0,v1,v2,v3,v4⟩:=uR5 h.p3;simp at v0 v1 v2 v3 v4;have H:=hQd h;clear h;go_wp2_with (go_at_call 55;(try clear c0 v0 q0 c1 v1 q1 c2 v2 q2 c3 v3 q3 c4 v4 q4);(with_reducible refine(zCK _ (s.drop (k+6)) HTE.out 6 6 rfl dD dD HX6.out n 0 HC.out H.out).mono ?_);rintro e_ wn ⟨rfl,h⟩;obtain⟨c0,c1,c2,c3,c4⟩:=uR5 h.p2;simp at c0 c1 c2 c3 c4;obtain⟨q0,q1,q2,q3,q4⟩:=uS5 h.p3;obtain⟨v0,v1,v2,v3,v4⟩:=uR5 h.p3;simp at v0 v1 v2 v3 v4;replace H:=hQd h;clear h)
 (try clear c0 v0 q0 c1 v1 q1 c2 v2 q2 c3 v3 q3 c4 v4 q4)
 clear hwa hwb hwd hwe hwc h6a h6b h6c h6d h6e h6f h6h h6i h6j;go_loopw [9,13] (fun pv iv wr=>∃(k2 p:Nat) (v:Value) (acc:List PTop) (K2:Know),k2≤n∧iv=.int .i64 k2∧pv=.int .i64 p∧Hid (acc.length=k2)∧Hid (p≤s.length)∧Hid (zEI (acc.map PTop.pt) p (zBN (n - k2) (s.drop p))=F)∧Hid (K2.has K)∧Hid (∀x∈acc,K2.has (Know.pparts (.slice x.q x.l.length x.cap) x.l))∧Hid (∀x∈acc,∀y∈x.l,∀z∈y.l,z.l.map (·.1)=z.b.recs)∧St W0 wr K2 (.row v 83 2 k2 (acc.flatMap zCE)::.raw vb #[.bool nl,.string (bb dd),.int .i64 ac,.int .i64 tm,v] 40::.raw fb #[.bool nl,.string (bb dd),.int .i64 k,.int .i64 0] 102::.raw nb #[.bool false,.string ⟨#[]⟩,.int .i64 0,.int .i64 0,.slice none 0 0] 40::.raw rb #[.bool false,.string ⟨#[]⟩,.int .i64 0,.int .i64 0,.slice none 0 0] 40::L)) (fun _ iv _=>n - (intOf iv).toNat)
 case atStart=>exact⟨0,k+10,.slice none 0 0,[],K,Nat.zero_le _,rfl,congrArg (Value.int .i64) HKX.out,hQd rfl,HP4,hQd HF.out,hQd (Know.has_refl _),hQd (fun x hx=>by cases hx),hQd (fun x hx=>by cases hx),H.out.nilRow 83 2⟩
 case round=>
  obtain⟨k2,p,v,acc,K2,hk,rfl,rfl,HAL,HPL,HP,HKK,HALL,HMP,hst⟩:=hrel;clear H;obtain⟨qv0,cv0,hv0⟩:=hst.rowAny;subst hv0;have HKK9:=hQd HKK.out
  by_cases hlt:k2<n
  · have hkn:(k2:Int)<(n:Int):=by omega
    have hP1:=HP.out;rw[show n - k2=(n - (k2+1))+1 by omega]at hP1;have hp0:(p:Int)≤(s.length:Int):=by have:=HPL.out;omega
    have HTE:=hQd (zCx s p);have HX:=hQd (show(s.drop p).length≤140737488355328 by rw[List.length_drop];have:=HSL.out;omega);have HKN:=hQd (show k2≤1000000 by have:=HNB.out;omega);obtain⟨c0,c1,c2,c3,c4⟩:=uR5 hst.p3;simp at c0 c1 c2 c3 c4;obtain⟨q0,q1,q2,q3,q4⟩:=uS5 hst.p4;obtain⟨v0,v1,v2,v3,v4⟩:=uR5 hst.p4;simp at v0 v1 v2 v3 v4;have H:=hQd hst;clear hst
    cases hv:zAk 2 (s.drop p)with
    |error e=>
      have h0:=zGh hv;have HFE:=hQd (show F=.error e by rw[←hP1];exact zEH (zP7 hv));have HV:=hQd hv;have e1:(e==0)=false:=by rw[beq_eq_false_iff_ne];exact h0
      have e2:(e !=0)=true:=by simp[bne,e1]
      clear hv h0 hP1;go_wp2_with (go_at_call 53;(try clear c0 v0 q0 c1 v1 q1 c2 v2 q2 c3 v3 q3 c4 v4 q4);(with_reducible refine(zFx _ (s.drop p) e HTE.out HX.out HV.out H.out).mono ?_);rintro e_ wn ⟨rfl,h⟩;obtain⟨gb,hgb⟩:∃b,wn.heap.size=b:=⟨_,rfl⟩;have h:=h.allocRaw #[.bool false,.string ⟨#[]⟩,.int .i64 0,.int .i64 e] 102;rw[hgb]at h;obtain⟨x0,x1,x2,x3⟩:=uR4 h;simp at x0 x1 x2 x3;obtain⟨c0,c1,c2,c3,c4⟩:=uR5 h.p4;simp at c0 c1 c2 c3 c4;obtain⟨q0,q1,q2,q3,q4⟩:=uS5 h.p5;obtain⟨v0,v1,v2,v3,v4⟩:=uR5 h.p5;simp at v0 v1 v2 v3 v4;replace H:=hQd h;clear h)
      have HKP:=hQd (show ∀(w':World) (c:Array Value),St W0 w' K2 (.raw rb c 40::.raw gb #[.bool false,.string ⟨#[]⟩,.int .i64 0,.int .i64 e] 102::.row (.slice qv0 k2 cv0) 83 2 k2 (acc.flatMap zCE)::.raw vb #[.bool nl,.string (bb dd),.int .i64 ac,.int .i64 tm,.slice qv0 k2 cv0] 40::.raw fb #[.bool nl,.string (bb dd),.int .i64 k,.int .i64 0] 102::.raw nb #[.bool false,.string ⟨#[]⟩,.int .i64 0,.int .i64 0,.slice none 0 0] 40::L)→(w'.cell? ⟨nb,0,none⟩=some (.bool false)∧w'.cell? ⟨nb,1,none⟩=some (.string ⟨#[]⟩)∧w'.cell? ⟨nb,2,none⟩=some (.int .i64 0)∧w'.cell? ⟨nb,3,none⟩=some (.int .i64 0)∧w'.cell? ⟨nb,4,none⟩=some (.slice none 0 0)∧w'.cell? ⟨gb,3,none⟩=some (.int .i64 e))from fun w' c hs=>by
       obtain⟨a0,a1,a2,a3,a4⟩:=uR5 hs.p5;have a5:=hs.p1.rawCell 3;simp at a0 a1 a2 a3 a4 a5
       exact⟨a0,a1,a2,a3,a4,a5⟩)
      have hs:=H.out.p5.drew;refine wp_region_held_drew (S:=fun w'=>(w'.cell? ⟨nb,0,none⟩=some (.bool false)∧w'.cell? ⟨nb,1,none⟩=some (.string ⟨#[]⟩)∧w'.cell? ⟨nb,2,none⟩=some (.int .i64 0)∧w'.cell? ⟨nb,3,none⟩=some (.int .i64 0)∧w'.cell? ⟨nb,4,none⟩=some (.slice none 0 0)∧w'.cell? ⟨gb,3,none⟩=some (.int .i64 e))) (by kernel_rfl) (HKP.out _ _ hs) (fun hHeld=> ?_);refine tR 0 ?_;refine tR 1 ?_;refine tR 2 ?_;refine wR [3] (rC rfl (fun KK hK=> ?_) rN);rw[if_pos (by rfl)];refine wp_store_mid 40 (.tmp 4) (.tmp 83) rfl rb 0 #[.bool false,.string ⟨#[]⟩,.int .i64 0,.int .i64 0,.slice none 0 0] (by rfl) (by rfl) hs.there (by kernel_rfl) (by simp[Value.oneCell']) ?_;obtain⟨wz,ez,hs⟩:=hs.storeEx #[.bool false,.string ⟨#[]⟩,.int .i64 0,.int .i64 0,.slice none 0 0];rw[ez];clear ez;refine hK.out _ _ (HKP.out _ _ hs) (fun hHeld=> ?_);clear hK KK
      try simp only[Act.put]
      refine tR 4 ?_;refine tR 5 ?_;refine wpAnyH_done (by kernel_rfl) ?_ _;clear hHeld;rw[zBs]at hs;rotate_left
      · rfl
      have hz:St W0 _ _ (.raw rb #[.bool false,.string ⟨#[]⟩,.int .i64 0,.int .i64 0,.slice none 0 0] 40::_):=hs;go_wp2_with fail;refine bodyPost_ret (rcT3 rfl _ _ rb [.bool false,.string ⟨#[]⟩,.int .i64 0,.int .i64 0,.slice none 0 0] _ rfl (zAr hz) Tryz.underlying40 rfl (by kernel_rfl)) rfl ?_;rw[HFE.out];exact⟨rfl,(hz.drop.drop.drop.drop.drop.drop).know HKK9.out⟩
    |ok y=>
      obtain⟨⟨nl2,d⟩,kk⟩:=y;have HV:=hQd hv
      cases nl2 with
      |true=>
       have HFE:=hQd (show F=.error 4 by rw[←hP1];exact zEH (zP6 hv));clear hv hP1;go_wp2_with (go_at_call 53;(try clear c0 v0 q0 c1 v1 q1 c2 v2 q2 c3 v3 q3 c4 v4 q4);(with_reducible refine(zB0 _ (s.drop p) true d kk HTE.out HX.out HV.out H.out).mono ?_);rintro e_ wn ⟨rfl,h⟩;obtain⟨gb,hgb⟩:∃b,wn.heap.size=b:=⟨_,rfl⟩;have h:=h.allocRaw #[.bool true,.string (bb d),.int .i64 kk,.int .i64 0] 102;rw[hgb]at h;obtain⟨x0,x1,x2,x3⟩:=uR4 h;simp at x0 x1 x2 x3;obtain⟨c0,c1,c2,c3,c4⟩:=uR5 h.p4;simp at c0 c1 c2 c3 c4;obtain⟨q0,q1,q2,q3,q4⟩:=uS5 h.p5;obtain⟨v0,v1,v2,v3,v4⟩:=uR5 h.p5;simp at v0 v1 v2 v3 v4;replace H:=hQd h;clear h);have hz:St W0 _ _ (.raw rb #[.bool false,.string ⟨#[]⟩,.int .i64 0,.int .i64 0,.slice none 0 0] 40::_):=St.sets5P _ _ _ _ _ H.out.p5;refine bodyPost_ret (rcT3 rfl _ _ rb [.bool false,.string ⟨#[]⟩,.int .i64 0,.int .i64 0,.slice none 0 0] _ rfl (zAr hz) Tryz.underlying40 rfl (by kernel_rfl)) rfl ?_;rw[HFE.out];exact⟨rfl,(hz.drop.drop.drop.drop.drop.drop).know HKK9.out⟩
      |false=>
       obtain⟨hk2,hkl⟩:=zDL hv;rw[List.length_drop]at hkl;obtain⟨pa,hpa⟩:∃a:Nat,p+kk=a:=⟨_,rfl⟩;have hp1:(p:Int)+(kk:Int)=(pa:Int):=by omega
       have hp2:(pa:Int)≤(s.length:Int):=by have:=HPL.out;omega
       have HTE2:=hQd (show List.take (s.length - pa) (List.drop pa s)=s.drop (p+kk) by rw[←hpa];exact zCx s (p+kk));have HX2:=hQd (show(s.drop (p+kk)).length≤1000000 by rw[List.length_drop];have:=HSL.out;omega);obtain⟨⟨m,f⟩,hc2⟩:∃r,cntR 8 (s.drop (p+kk))=r:=⟨_,rfl⟩;have HC2:=hQd hc2
       by_cases h0:f=0
       rotate_left
       · have HFE:=hQd (show F=.error f by rw[←hP1];exact zEH (zP5 hv (by rw[List.drop_drop];exact hc2) h0));have e1:(f==0)=false:=by rw[beq_eq_false_iff_ne];exact h0
         have e2:(f !=0)=true:=by simp[bne,e1]
         clear hv hc2 h0 hk2 hkl hP1 hpa
         go_wp2_with (first
  |(go_at_call 53;(try clear c0 v0 q0 c1 v1 q1 c2 v2 q2 c3 v3 q3 c4 v4 q4);(with_reducible refine(zB0 _ (s.drop p) false d kk HTE.out HX.out HV.out H.out).mono ?_);rintro e_ wn ⟨rfl,h⟩;obtain⟨gb,hgb⟩:∃b,wn.heap.size=b:=⟨_,rfl⟩;have h:=h.allocRaw #[.bool false,.string (bb d),.int .i64 kk,.int .i64 0] 102;rw[hgb]at h;obtain⟨x0,x1,x2,x3⟩:=uR4 h;simp at x0 x1 x2 x3;obtain⟨c0,c1,c2,c3,c4⟩:=uR5 h.p4;simp at c0 c1 c2 c3 c4;obtain⟨q0,q1,q2,q3,q4⟩:=uS5 h.p5;obtain⟨v0,v1,v2,v3,v4⟩:=uR5 h.p5;simp at v0 v1 v2 v3 v4;replace H:=hQd h;clear h)
  |(go_at_call 55;(try clear c0 v0 q0 c1 v1 q1 c2 v2 q2 c3 v3 q3 c4 v4 q4);(try clear x0 x1 x2 x3);(with_reducible refine(zCK _ (s.drop (p+kk)) HTE2.out 8 8 rfl dD dD HX2.out m f HC2.out H.out).mono ?_);rintro e_ wn ⟨rfl,h⟩;obtain⟨x0,x1,x2,x3⟩:=uR4 h;simp at x0 x1 x2 x3;obtain⟨c0,c1,c2,c3,c4⟩:=uR5 h.p4;simp at c0 c1 c2 c3 c4;obtain⟨q0,q1,q2,q3,q4⟩:=uS5 h.p5;obtain⟨v0,v1,v2,v3,v4⟩:=uR5 h.p5;simp at v0 v1 v2 v3 v4;replace H:=hQd h;clear h))
         have hz:St W0 _ _ (.raw rb #[.bool false,.string ⟨#[]⟩,.int .i64 0,.int .i64 0,.slice none 0 0] 40::_):=St.sets5P _ _ _ _ _ H.out.p5;refine bodyPost_ret (rcT3 rfl _ _ rb [.bool false,.string ⟨#[]⟩,.int .i64 0,.int .i64 0,.slice none 0 0] _ rfl (zAr hz) Tryz.underlying40 rfl (by kernel_rfl)) rfl ?_;rw[HFE.out];exact⟨rfl,(hz.drop.drop.drop.drop.drop.drop).know HKK9.out⟩
       subst h0;obtain⟨hrel1,hrel2⟩:=zOh hv hc2 hP1;obtain⟨_,hml⟩:=zDE dD hc2;rw[List.length_drop]at hml;have HMB:=hQd (show m≤1000000 by have:=HSL.out;omega);have hmi:(m:Int)≤1000000:=by have:=HMB.out;omega
       have HPQ:=hQd (show p+kk+4≤s.length by omega);have HPI:=hQd (show(pa:Int)+4=((p+kk+4:Nat):Int) by omega);obtain⟨G,hG⟩:∃G,zFN [] (p+kk+4) (zAY m (s.drop (p+kk+4)))=G:=⟨_,rfl⟩;rw[hG]at hrel1 hrel2;have HREL1:=hQd hrel1;have HREL2:=hQd hrel2;have HG:=hQd hG;clear hv hc2 hk2 hkl hP1 hml hrel1 hrel2 hG hpa
       go_wp2_with (first
  |(go_at_call 53;(try clear c0 v0 q0 c1 v1 q1 c2 v2 q2 c3 v3 q3 c4 v4 q4);(with_reducible refine(zB0 _ (s.drop p) false d kk HTE.out HX.out HV.out H.out).mono ?_);rintro e_ wn ⟨rfl,h⟩;obtain⟨gb,hgb⟩:∃b,wn.heap.size=b:=⟨_,rfl⟩;have h:=h.allocRaw #[.bool false,.string (bb d),.int .i64 kk,.int .i64 0] 102;rw[hgb]at h;obtain⟨x0,x1,x2,x3⟩:=uR4 h;simp at x0 x1 x2 x3;obtain⟨c0,c1,c2,c3,c4⟩:=uR5 h.p4;simp at c0 c1 c2 c3 c4;obtain⟨q0,q1,q2,q3,q4⟩:=uS5 h.p5;obtain⟨v0,v1,v2,v3,v4⟩:=uR5 h.p5;simp at v0 v1 v2 v3 v4;replace H:=hQd h;clear h)
  |(go_at_call 55;(try clear c0 v0 q0 c1 v1 q1 c2 v2 q2 c3 v3 q3 c4 v4 q4);(try clear x0 x1 x2 x3);(with_reducible refine(zCK _ (s.drop (p+kk)) HTE2.out 8 8 rfl dD dD HX2.out m 0 HC2.out H.out).mono ?_);rintro e_ wn ⟨rfl,h⟩;obtain⟨x0,x1,x2,x3⟩:=uR4 h;simp at x0 x1 x2 x3;obtain⟨c0,c1,c2,c3,c4⟩:=uR5 h.p4;simp at c0 c1 c2 c3 c4;obtain⟨q0,q1,q2,q3,q4⟩:=uS5 h.p5;obtain⟨v0,v1,v2,v3,v4⟩:=uR5 h.p5;simp at v0 v1 v2 v3 v4;obtain⟨tb,htb⟩:∃b,wn.heap.size=b:=⟨_,rfl⟩;have h:=h.allocRaw #[.string (bb d),.slice none 0 0] 83;rw[htb]at h;replace H:=hQd h;clear h))
       (try clear c0 v0 q0 c1 v1 q1 c2 v2 q2 c3 v3 q3 c4 v4 q4)
       try clear x0 x1 x2 x3
       go_loopw [9,18] (fun pv jv wr=>∃(j q:Nat) (v3:Value) (accp:List PartR) (K3:Know),j≤m∧jv=.int .i64 j∧pv=.int .i64 q∧Hid (accp.length=j)∧Hid (q≤s.length)∧Hid (zFN (accp.map PartR.pb) q (zAY (m - j) (s.drop q))=G)∧Hid (K3.has K2)∧Hid (∀x∈accp,K3.has (Know.bats (.slice x.q x.l.length x.cap) x.l))∧Hid (∀x∈accp,∀z∈x.l,z.l.map (·.1)=z.b.recs)∧St W0 wr K3 (.row v3 85 2 j (accp.flatMap zG4)::.raw tb #[.string (bb d),v3] 83::.row (.slice qv0 k2 cv0) 83 2 k2 (acc.flatMap zCE)::.raw vb #[.bool nl,.string (bb dd),.int .i64 ac,.int .i64 tm,(.slice qv0 k2 cv0)] 40::.raw fb #[.bool nl,.string (bb dd),.int .i64 k,.int .i64 0] 102::.raw nb #[.bool false,.string ⟨#[]⟩,.int .i64 0,.int .i64 0,.slice none 0 0] 40::.raw rb #[.bool false,.string ⟨#[]⟩,.int .i64 0,.int .i64 0,.slice none 0 0] 40::L)) (fun _ jv _=>m - (intOf jv).toNat)
       case atStart=>exact⟨0,p+kk+4,.slice none 0 0,[],K2,Nat.zero_le _,rfl,congrArg (Value.int .i64) HPI.out,hQd rfl,HPQ,hQd HG.out,hQd (Know.has_refl _),hQd (fun x hx=>by cases hx),hQd (fun x hx=>by cases hx),(H.out.p1.drop.nilRow 85 2)⟩
       case round=>
         obtain⟨j,q,v3,accp,K3,hj,rfl,rfl,HAJ,HQL,HQ,HK3,HALP,HMPP,hst⟩:=hrel;clear H;obtain⟨qj,cj,hvj⟩:=hst.rowAny;subst hvj
         by_cases hjt:j<m
         · have hjn:(j:Int)<(m:Int):=by omega
           have hQ1:=HQ.out;rw[show m - j=(m - (j+1))+1 by omega]at hQ1;have hq0:(q:Int)≤(s.length:Int):=by have:=HQL.out;omega
           have HTE3:=hQd (zCx s q);have HX3:=hQd (show(s.drop q).length≤1000000 by rw[List.length_drop];have:=HSL.out;omega);have HJN:=hQd (show j≤1000000 by have:=HMB.out;omega);have H:=hQd hst
           cases hp:zBC (s.drop q)with
           |error e=>
            obtain⟨he0,_⟩:=zQW (by have:=HQL.out;omega) hp;have HFE:=hQd (HREL1.out e (by rw[←hQ1];exact zPu hp));have HKK9:=hQd (Know.has_trans HK3.out HKK.out);have HPR:=hQd hp;have e1:(e==0)=false:=by rw[beq_eq_false_iff_ne];exact he0
            have e2:(e !=0)=true:=by simp[bne,e1]
            clear hp he0 hQ1 hst;go_wp2_with (go_at_call 56;(try clear c0 v0 q0 c1 v1 q1 c2 v2 q2 c3 v3 q3 c4 v4 q4);(with_reducible refine(zQg _ (s.drop q) HTE3.out HX3.out e HPR.out H.out).mono ?_);rintro e_ wn ⟨rfl,h⟩;have h:=h.drop.drop.alloc (.cells #[.int .i64 0,.slice none 0 0] 85 (0,0));obtain⟨c0,c1,c2,c3,c4⟩:=uR5 h.p3;simp at c0 c1 c2 c3 c4;obtain⟨q0,q1,q2,q3,q4⟩:=uS5 h.p4;obtain⟨v0,v1,v2,v3,v4⟩:=uR5 h.p4;simp at v0 v1 v2 v3 v4;replace H:=hQd h;clear h);have hz:St W0 _ _ (.raw rb #[.bool false,.string ⟨#[]⟩,.int .i64 0,.int .i64 0,.slice none 0 0] 40::_):=St.sets5P _ _ _ _ _ H.out.p4;refine bodyPost_ret (rcT3 rfl _ _ rb [.bool false,.string ⟨#[]⟩,.int .i64 0,.int .i64 0,.slice none 0 0] _ rfl (zAr hz) Tryz.underlying40 rfl (by kernel_rfl)) rfl ?_;rw[HFE.out];exact⟨rfl,(hz.drop.drop.drop.drop.drop).know HKK9.out⟩
           |ok y=>
            obtain⟨⟨i3,l3⟩,m3⟩:=y;obtain⟨hqm,_⟩:=zQX (by have:=HQL.out;omega) hp;have HQ2:=hQd (show zFN (accp.map PartR.pb++[(i3,l3)]) (q+m3) (zAY (m - (j+1)) (s.drop (q+m3)))=G by rw[←zQE hp];exact hQ1);have HPR:=hQd hp;have HQM:=hQd hqm;have hqi:(q:Int)+(m3:Int)≤(s.length:Int):=by omega
            have HQI:=hQd (show(q:Int)+(m3:Int)=((q+m3:Nat):Int) by omega);clear hp hQ1 hqm hst
            go_wp2_with (first
  |(go_at_call 56;(with_reducible refine(zQf _ (s.drop q) HTE3.out HX3.out i3 l3 m3 HPR.out H.out).mono ?_);rintro e_ wn ⟨q3,c3,r3,K4,rfl,hr3,hm3,hk4,hb4,h⟩;obtain⟨pb,hpb⟩:∃b,wn.heap.size=b:=⟨_,rfl⟩;have h:=h.allocRaw #[.int .i64 i3,.slice q3 r3.length c3] 85;rw[hpb]at h;obtain⟨f0,f1⟩:=uR2 h;simp at f0 f1;have t1:=h.p2.rawCell 1;simp at t1;have HR3:=hQd hr3;have HM3:=hQd hm3;have HK4:=hQd hk4;have HB4:=hQd hb4;clear hr3 hm3 hk4 hb4;replace H:=hQd h;clear h)
  |(at_builtin;refine zAw rfl _ _ 81 rfl 85 Tryz.underlying81 zKN _ _ _ rfl H.out.p1 [.int .i64 i3,.slice q3 r3.length c3] 85 (by first|rfl|(rw[World.size_alloc];rfl)|(rw[World.size_alloc,hpb];rfl)) rfl (by simp[Value.oneCell']) (by have:=HJN.out;unfold maxLen;omega) (by have:=HJN.out;omega) ?_;intro v' w' h;obtain⟨qv,cv,hv⟩:=h.rowAny;subst hv;have q1:=h.p2.rawFree 1;have q2:=h.p2.rawCell 1;simp at q2;replace H:=hQd h;clear h))
            go_roundw
            case rel=>
             refine⟨j+1,q+m3,.slice qv (j+1) cv,accp++[⟨i3,r3,q3,c3⟩],K4,hjt,by go_num,congrArg (Value.int .i64) HQI.out,hQd (by rw[List.length_append,HAJ.out];rfl),HQM,hQd (by rw[List.map_append];have h9:=HQ2.out;rw[←HR3.out]at h9;exact h9),hQd (Know.has_trans HK4.out HK3.out),hQd (fun x hx=>by
              rcases List.mem_append.1 hx with hx|hx
              · exact Know.has_trans HK4.out (HALP.out x hx)
              · rw[List.mem_singleton.1 hx];exact HB4.out),hQd (fun x hx=>by
              rcases List.mem_append.1 hx with hx|hx
              · exact HMPP.out x hx
              · rw[List.mem_singleton.1 hx];exact HM3.out),?_⟩
             rw[List.flatMap_append];exact((H.out.p2.rawSet 1 (.slice qv (j+1) cv)).p2.drop).p1
            case measure=>first|(simp[intOf];done)|(simp[intOf];omega)
         · obtain rfl:j=m:=by omega
           have hq:=HQ.out;rw[Nat.sub_self,zN1]at hq;have HF2:=hQd (HREL2.out _ _ hq.symm);have hr:=hst;have hfz:=hr.freezePartsK HAJ.out.symm rfl HALP.out;have HK5:=hQd (show(K3.and (Know.pparts (.slice qj j cj) accp)).has (Know.pparts (.slice qj accp.length cj) accp) by rw[HAJ.out];exact Know.has_right (Know.has_refl _));have HK6:=hQd (Know.has_trans (Know.has_left (Know.has_refl _)) HK3.out:(K3.and (Know.pparts (.slice qj j cj) accp)).has K2);obtain⟨t0,t1⟩:=uR2 hfz;have t4:=hfz.p2.rawCell 4;simp at t0 t1 t4;have hz:=hfz.p1;clear hst hr hfz hq;have H:=hQd hz;clear hz;go_wp2_with (at_builtin;refine zAw rfl _ _ 38 rfl 83 Tryz.underlying38 zKM _ _ _ rfl H.out [.string (bb d),.slice qj j cj] 83 (by first|rfl|(rw[World.size_alloc];rfl)) rfl (by simp[Value.oneCell']) zq64 (by have:=HKN.out;omega) ?_;intro v' w' h;obtain⟨qv,cv,hv⟩:=h.rowAny;subst hv;have q1:=h.p2.rawFree 4;have q2:=h.p2.rawCell 4;simp at q2;replace H:=hQd h;clear h);go_roundw
           case rel=>
            refine⟨k2+1,q,.slice qv (k2+1) cv,acc++[⟨d,accp,qj,cj⟩],K3.and (Know.pparts (.slice qj j cj) accp),hlt,by go_num,rfl,hQd (by rw[List.length_append,HAL.out];rfl),HQL,hQd (by rw[List.map_append];exact HF2.out),hQd (Know.has_trans HK6.out HKK.out),hQd (fun x hx=>by
             rcases List.mem_append.1 hx with hx|hx
             · exact Know.has_trans HK6.out (HALL.out x hx)
             · rw[List.mem_singleton.1 hx];exact HK5.out),hQd (fun x hx=>by
             rcases List.mem_append.1 hx with hx|hx
             · exact HMP.out x hx
             · rw[List.mem_singleton.1 hx];exact HMPP.out),?_⟩
            have hpe:List.flatMap zCE [(⟨d,accp,qj,cj⟩:PTop)]=[.string (bb d),.slice qj j cj]:=by
             show[Value.string (bb d),Value.slice qj accp.length cj]=_
             rw[HAJ.out]
            rw[List.flatMap_append,hpe];exact((H.out.p2.rawSet 4 (.slice qv (k2+1) cv)).p2.drop).p1
           case measure=>first|(simp[intOf];done)|(simp[intOf];omega)
  · obtain rfl:k2=n:=by omega
    have hp:=HP.out;rw[Nat.sub_self,zN0]at hp;have HFO:=hQd hp.symm;obtain⟨htl,hpt⟩:=HOK.out _ _ hp.symm;rw[List.length_map]at htl;have hptx:∀x∈acc,PtOk s.length x.pt:=fun x hx=>hpt _ (List.mem_map_of_mem hx)
    have HCT:=hQd (show ∀x∈acc,CkT2 x from fun x hx=>zRU HSL.out x (hptx x hx) (HMP.out x hx));have HRF:=hQd (zOq HSL.out htl hptx);have HLN:=hQd (show acc.length≤3518437208780 by omega);have HL6:=hQd htl;have hfz:=hst.freezeTopsK HAL.out.symm rfl HALL.out;rw[←HAL.out]at hfz;have HKT:=hQd (show(K2.and (Know.ptops (.slice qv0 acc.length cv0) acc)).has (Know.ptops (.slice qv0 acc.length cv0) acc)from Know.has_right (Know.has_refl _));have HKL:=hQd (show(K2.and (Know.ptops (.slice qv0 acc.length cv0) acc)).has K from Know.has_trans (Know.has_left (Know.has_refl _)) HKK.out);obtain⟨y0,y1,y2,y3,y4⟩:=uR5 hfz;simp at y0 y1 y2 y3 y4;clear hst hp hpt hptx htl;have H:=hQd hfz;clear hfz;obtain⟨e,he⟩:∃e,zAC ⟨nl,dd⟩ ac tm ve acc=e:=⟨_,rfl⟩;have HER:=hQd he
    by_cases h0:e=0
    · subst h0;clear he;go_wp2_with (go_at_call 10;(try clear y0 y1 y2 y3 y4);(with_reducible refine(zGj nl dd ac tm ve acc qv0 cv0 HCT.out HRF.out HLN.out 0 HER.out HKT.out H.out).mono ?_);rintro e_ wn ⟨rfl,h⟩;obtain⟨y0,y1,y2,y3,y4⟩:=uR5 h;simp at y0 y1 y2 y3 y4;obtain⟨c0,c1,c2,c3,c4⟩:=uR5 h.p2;simp at c0 c1 c2 c3 c4;obtain⟨q0,q1,q2,q3,q4⟩:=uS5 h.p3;obtain⟨v0,v1,v2,v3,v4⟩:=uR5 h.p3;simp at v0 v1 v2 v3 v4;replace H:=hQd h;clear h);have hz:St W0 _ _ (.raw rb #[.bool nl,.string (bb dd),.int .i64 ac,.int .i64 tm,.slice qv0 acc.length cv0] 40::_):=St.sets5P _ _ _ _ _ H.out.p3;refine bodyPost_ret (rcT3 rfl _ _ rb [.bool nl,.string (bb dd),.int .i64 ac,.int .i64 tm,.slice qv0 acc.length cv0] _ rfl (zAr hz) Tryz.underlying40 rfl (by kernel_rfl)) rfl ?_;rw[HFO.out];exact⟨qv0,cv0,acc,_,rfl,HMP.out,HL6.out,HKL.out,.inl ⟨HER.out,rfl,HKT.out,hz.drop.drop.drop.drop⟩⟩
    · have e1:(e==0)=false:=by rw[beq_eq_false_iff_ne];exact h0
      have e2:(e !=0)=true:=by simp[bne,e1]
      have HE0:=hQd h0;clear he h0;go_wp2_with (go_at_call 10;(try clear y0 y1 y2 y3 y4);(with_reducible refine(zGj nl dd ac tm ve acc qv0 cv0 HCT.out HRF.out HLN.out e HER.out HKT.out H.out).mono ?_);rintro e_ wn ⟨rfl,h⟩;obtain⟨y0,y1,y2,y3,y4⟩:=uR5 h;simp at y0 y1 y2 y3 y4;obtain⟨c0,c1,c2,c3,c4⟩:=uR5 h.p2;simp at c0 c1 c2 c3 c4;obtain⟨q0,q1,q2,q3,q4⟩:=uS5 h.p3;obtain⟨v0,v1,v2,v3,v4⟩:=uR5 h.p3;simp at v0 v1 v2 v3 v4;replace H:=hQd h;clear h);have hz:St W0 _ _ (.raw rb #[.bool false,.string ⟨#[]⟩,.int .i64 0,.int .i64 0,.slice none 0 0] 40::_):=St.sets5P _ _ _ _ _ H.out.p3;refine bodyPost_ret (rcT3 rfl _ _ rb [.bool false,.string ⟨#[]⟩,.int .i64 0,.int .i64 0,.slice none 0 0] _ rfl (zAr hz) Tryz.underlying40 rfl (by kernel_rfl)) rfl ?_;rw[HFO.out];exact⟨qv0,cv0,acc,_,rfl,HMP.out,HL6.out,HKL.out,.inr ⟨by rw[HER.out];exact HE0.out,by rw[HER.out];rfl,(hz.drop.drop.drop.drop).know HKL.out⟩⟩
theorem zBm(s:Bs)(k:Nat)(h:k≤s.length):zAd (sInt (s.take k)) k=s.take k:=by
 have h1:=zDF (s.take k);rw[List.length_take,Nat.min_eq_left h]at h1;exact h1
theorem zMZ{each:Nat}{s:Bs}{n k:Nat}(he:0<each)(h:cntP each s=.ok (n,k)):k=4∧4+each*n≤s.length∧s.take 4=zAd n 4:=by
 obtain⟨h1,h2,h3,_⟩:=zFk he h;refine⟨h1,h2,?_⟩;rw[h3];exact(zBm s 4 oM).symm
theorem zOi{s:Bs}{d:Bs}{k:Nat}(h:zD0 s=.ok (d,k)):k≤s.length∧s.take k=encF 2 ⟨false,d⟩:=by
 unfold zD0 at h
 cases h1:zAk 2 s with
 |error e=>rw[h1]at h;cases h
 |ok x=>
  rw[h1]at h;simp only at h
  by_cases hn:x.1.null=true
  ·rw[if_pos hn]at h;cases h
  ·rw[if_neg hn]at h
   cases h
   unfold zAk at h1
   by_cases h2:s.length<2
   ·rw[if_pos h2]at h1;cases h1
   rw[if_neg h2]at h1;unfold gotS at h1
   by_cases h3:sInt (s.take 2)= -1
   ·rw[if_pos h3]at h1;cases h1;exact absurd rfl hn
   rw[if_neg h3]at h1
   by_cases h4:sInt (s.take 2)<0
   ·rw[if_pos h4]at h1;cases h1
   rw[if_neg h4]at h1
   by_cases h5:(s.length:Int) - (2:Nat)<sInt (s.take 2)
   ·rw[if_pos h5]at h1;cases h1
   rw[if_neg h5]at h1
   cases h1
   simp only
   have hl:((s.drop 2).take (sInt (s.take 2)).toNat).length=(sInt (s.take 2)).toNat:=by
    rw[List.length_take,List.length_drop];omega
   refine⟨oM,?_⟩;unfold encF
   have hL:(⟨false,(s.drop 2).take (sInt (s.take 2)).toNat⟩:BlobS).len=sInt (s.take 2):=by
    show(((s.drop 2).take (sInt (s.take 2)).toNat).length:Int)=_
    rw[hl];omega
   rw[hL,zBm s 2 oM,List.take_add]
theorem zFu{k:Nat}{s:Bs}{b:BlobS}{m:Nat}(h:zAk k s=.ok (b,m)):m≤s.length∧s.take m=encF k b:=by
 unfold zAk at h
 by_cases h2:s.length<k
 ·rw[if_pos h2]at h;cases h
 rw[if_neg h2]at h;unfold gotS at h
 by_cases h3:sInt (s.take k)= -1
 ·rw[if_pos h3]at h
  cases h
  refine⟨oM,?_⟩
  show s.take k=zAd (-1) k++[]
  rw[←h3,zBm s k oM,List.append_nil]
 rw[if_neg h3]at h
 by_cases h4:sInt (s.take k)<0
 ·rw[if_pos h4]at h;cases h
 rw[if_neg h4]at h
 by_cases h5:(s.length:Int) - (k:Nat)<sInt (s.take k)
 ·rw[if_pos h5]at h;cases h
 rw[if_neg h5]at h
 cases h
 have hl:((s.drop k).take (sInt (s.take k)).toNat).length=(sInt (s.take k)).toNat:=by
  rw[List.length_take,List.length_drop];omega
 refine⟨oM,?_⟩;unfold encF
 have hL:(⟨false,(s.drop k).take (sInt (s.take k)).toNat⟩:BlobS).len=sInt (s.take k):=by
  show(((s.drop k).take (sInt (s.take k)).toNat).length:Int)=_
  rw[hl];omega
 rw[hL,zBm s k oM,List.take_add]
theorem zK5:∀(f:Nat) (s:Bs) (l:List BatS),zC8 f s=.ok l→s.length≤f→l.flatMap BatS.enc=s
 |0,s,l,h,hs=>by
  have h:Except.ok []=Except.ok l:=h;injection h with h;subst h;obtain rfl:s=[]:=List.eq_nil_of_length_eq_zero oM
  rfl
 |f+1,s,l,h,hs=>by
  have h:(if s=[]then Except.ok []else match zBd s with
   | .error e=>Except.error e
   | .ok y=>zEG y.1 (zC8 f (s.drop y.2)))=.ok l:=h
  by_cases c:s=[]
  ·rw[if_pos c]at h;injection h with h;subst h;rw[c]
   rfl
  ·rw[if_neg c]at h
   cases hr:zBd s with
   |error e=>rw[hr]at h;cases h
   |ok y=>
    obtain⟨b,n⟩:=y;rw[hr]at h;have h:zEG b (zC8 f (s.drop n))=.ok l:=h;obtain⟨x,_,hn,hl,_⟩:=zBI hr
    cases ht:zC8 f (s.drop n)with
    |error e=>rw[ht]at h;cases h
    |ok t=>
     rw[ht]at h;have h:Except.ok (b::t)=Except.ok l:=h;injection h with h;subst h;have ih:=zK5 f (s.drop n) t ht (by rw[List.length_drop];omega);rw[List.flatMap_cons,ih,(zJ7 hr).1,List.take_append_drop]
theorem zPD{s:Bs}{l:List BatS}(h:zBk s=.ok l):l.flatMap BatS.enc=s:=zK5 _ s l h (Nat.le_refl _)
def zNX (x:zCf):Bs:=zAd x.1 4++encF 4 ⟨false,x.2.flatMap BatS.enc⟩
def zNV (x:TopV):Bs:=(encF 2 ⟨false,x.1⟩++zAd (x.2.length:Int) 4)++x.2.flatMap zNX
theorem zNJ{s:Bs}{x:zCf}{m:Nat}(h:zBC s=.ok (x,m)):m≤s.length∧s.take m=zNX x:=by
 unfold zBC at h
 by_cases h4:s.length<4
 ·rw[if_pos h4]at h;cases h
 rw[if_neg h4]at h
 cases hr:zAk 4 (s.drop 4)with
 |error e=>rw[hr]at h;cases h
 |ok b=>
  rw[hr]at h;simp only at h
  cases hn:b.1.null with
  |true=>rw[hn,if_pos rfl]at h;cases h
  |false=>
   rw[hn,if_neg dD]at h
   cases hb:zBk b.1.data with
   |error e=>rw[hb]at h;cases h
   |ok l=>
    rw[hb]at h
    cases h
    obtain⟨g1,g2⟩:=zFu (b:=b.1) (m:=b.2) hr;rw[List.length_drop]at g1;refine⟨oM,?_⟩;unfold zNX;simp only;rw[zPD hb,zBm s 4 oM,List.take_add,g2]
    congr 1
    congr 1
    obtain⟨⟨u,d⟩,k⟩:=b;have hn:u=false:=hn;rw[hn]
theorem zHY:∀(n:Nat) (s:Bs) (l:List zCf) (m:Nat),zAY n s=.ok (l,m)→l.length=n∧m≤s.length∧s.take m=l.flatMap zNX
 |0,s,l,m,h=>by
  have h:(Except.ok ([],0):Except Int (List zCf×Nat))=.ok (l,m):=h;injection h with h;simp only[Prod.mk.injEq]at h;obtain⟨rfl,rfl⟩:=h;exact⟨rfl,Nat.zero_le _,rfl⟩
 |n+1,s,l,m,h=>by
  have h:(match zBC s with| .error e=>Except.error e| .ok x=>match zAY n (s.drop x.2)with| .error e=> .error e| .ok y=> .ok (x.1::y.1,x.2+y.2))=.ok (l,m):=h
  cases hp:zBC s with
  |error e=>rw[hp]at h;cases h
  |ok x=>
   rw[hp]at h;simp only at h
   cases hq:zAY n (s.drop x.2)with
   |error e=>rw[hq]at h;cases h
   |ok y=>
    rw[hq]at h
    cases h
    obtain⟨a1,a2⟩:=zNJ (x:=x.1) (m:=x.2) hp;obtain⟨b0,b1,b2⟩:=zHY n (s.drop x.2) y.1 y.2 hq;rw[List.length_drop]at b1;exact⟨by rw[List.length_cons,b0],oM,by rw[List.flatMap_cons,List.take_add,a2,b2]⟩
theorem zOP{s:Bs}{x:TopV}{m:Nat}(h:zCD s=.ok (x,m)):m≤s.length∧s.take m=zNV x:=by
 unfold zCD at h
 cases h1:zD0 s with
 |error e1=>rw[h1]at h;cases h
 |ok t=>
  rw[h1]at h;simp only at h
  cases h2:cntP 8 (s.drop t.2)with
  |error e2=>rw[h2]at h;cases h
  |ok c=>
   rw[h2]at h;simp only at h
   cases h3:zAY c.1 (s.drop (t.2+4))with
   |error e3=>rw[h3]at h;cases h
   |ok y=>
    rw[h3]at h
    cases h
    obtain⟨a1,a2⟩:=zOi (d:=t.1) (k:=t.2) h1;obtain⟨_,b1,b2⟩:=zMZ (n:=c.1) (k:=c.2) dD h2;obtain⟨c0,c1,c2⟩:=zHY c.1 _ y.1 y.2 h3;rw[List.length_drop]at b1 c1;refine⟨oM,?_⟩;unfold zNV;simp only;rw[c0,Nat.add_assoc,List.take_add,List.take_add,a2,List.drop_drop,b2,c2,List.append_assoc]
theorem zKd:∀(n:Nat) (s:Bs) (l:List TopV) (m:Nat),zBN n s=.ok (l,m)→l.length=n∧m≤s.length∧s.take m=l.flatMap zNV
 |0,s,l,m,h=>by
  have h:(Except.ok ([],0):Except Int (List TopV×Nat))=.ok (l,m):=h;injection h with h;simp only[Prod.mk.injEq]at h;obtain⟨rfl,rfl⟩:=h;exact⟨rfl,Nat.zero_le _,rfl⟩
 |n+1,s,l,m,h=>by
  have h:(match zCD s with| .error e=>Except.error e| .ok x=>match zBN n (s.drop x.2)with| .error e=> .error e| .ok y=> .ok (x.1::y.1,x.2+y.2))=.ok (l,m):=h
  cases hp:zCD s with
  |error e=>rw[hp]at h;cases h
  |ok x=>
   rw[hp]at h;simp only at h
   cases hq:zBN n (s.drop x.2)with
   |error e=>rw[hq]at h;cases h
   |ok y=>
    rw[hq]at h
    cases h
    obtain⟨a1,a2⟩:=zOP (x:=x.1) (m:=x.2) hp;obtain⟨b0,b1,b2⟩:=zKd n (s.drop x.2) y.1 y.2 hq;rw[List.length_drop]at b1;exact⟨by rw[List.length_cons,b0],oM,by rw[List.flatMap_cons,List.take_add,a2,b2]⟩
theorem encB_V(l:List BatR):encB l=(l.map BatR.b).flatMap BatS.enc:=by unfold encB;rw[List.flatMap_map]
theorem zPl(x:PartR):zAL x=zNX x.pb:=by unfold zAL zNX PartR.pb;simp only;rw[encB_V];rfl
theorem zPm(x:PTop):zAJ x=zNV x.pt:=by
 unfold zAJ zNV PTop.pt;simp only;rw[List.length_map,List.flatMap_map]
 congr 1
 exact congrArg (fun f=>x.l.flatMap f) (funext zPl)
theorem zOQ{s:Bs}{nl:Bool}{dd:Bs}{ac tm:Int}{lr:List PTop}{m:Nat}(h:zB1 s=.ok ((⟨nl,dd⟩,ac,tm,lr.map PTop.pt),m)):m≤s.length∧zCi nl dd ac tm lr=s.take m:=by
 unfold zB1 at h
 cases h1:zAk 2 s with
 |error e=>rw[h1]at h;cases h
 |ok x=>
  rw[h1]at h;simp only at h
  by_cases h6:(s.drop x.2).length<6
  ·rw[if_pos h6]at h;cases h
  rw[if_neg h6]at h;rw[List.length_drop]at h6
  cases h2:cntP 6 (s.drop (x.2+6))with
  |error e=>rw[h2]at h;cases h
  |ok c=>
   rw[h2]at h;simp only at h
   cases h3:zBN c.1 (s.drop (x.2+10))with
   |error e=>rw[h3]at h;cases h
   |ok y=>
    rw[h3]at h;injection h with h;simp only[Prod.mk.injEq]at h;obtain⟨⟨hx,hac,htm,hy⟩,rfl⟩:=h;obtain⟨a1,a2⟩:=zFu (b:=x.1) (m:=x.2) h1;obtain⟨_,b1,b2⟩:=zMZ (n:=c.1) (k:=c.2) dD h2;obtain⟨c0,c1,c2⟩:=zKd c.1 _ y.1 y.2 h3;rw[List.length_drop]at b1 c1;refine⟨oM,?_⟩;have e2:zAd ac 2=(s.drop x.2).take 2:=by rw[←hac];exact zBm _ 2 (by rw[List.length_drop];omega)
    have e4:zAd tm 4=(s.drop (x.2+2)).take 4:=by rw[←htm];exact zBm _ 4 (by rw[List.length_drop];omega)
    have hlen:lr.length=c.1:=by rw[←c0,hy,List.length_map]
    have ht:lr.flatMap zAJ=y.1.flatMap zNV:=by rw[hy,List.flatMap_map];exact congrArg (fun f=>lr.flatMap f) (funext zPm)
    show(((encF 2 ⟨nl,dd⟩++zAd ac 2)++zAd tm 4)++zAd (lr.length:Int) 4)++lr.flatMap zAJ=_
    rw[ht,hlen,←hx,←a2,e2,e4,←b2,←c2];rw[show x.2+10+y.2=x.2+(2+(4+(4+y.2))) by omega,List.take_add,List.take_add,List.take_add,List.take_add];simp only[List.drop_drop,List.append_assoc]
theorem zNG{s:Bs}{nl:Bool}{dd:Bs}{k n:Nat}(hv:zAk 2 s=.ok (⟨nl,dd⟩,k))(hl:¬(s.drop k).length<6)(hc:cntR 6 (s.drop (k+6))=(n,0)):
 zB1 s=match zEI [] (k+10) (zBN n (s.drop (k+10)))with| .error e=> .error e| .ok y=> .ok ((⟨nl,dd⟩,sInt ((s.drop k).take 2),sInt ((s.drop (k+2)).take 4),y.1),y.2):=by
 unfold zB1;rw[hv];simp only;rw[if_neg hl,(zDE dD hc).1];simp only
 cases zBN n (s.drop (k+10))with
 |error e=>rfl
 |ok y=>rfl
theorem zOv{s:Bs}(hs:s.length≤1000000){k n:Nat}(hp:k+10≤s.length)(hn:n≤1000000):∀ts m,zEI [] (k+10) (zBN n (s.drop (k+10)))=.ok (ts,m)→ts.length≤1000000∧∀x∈ts,PtOk s.length x:=by
 intro ts m h
 cases hq:zBN n (s.drop (k+10))with
 |error e=>rw[hq]at h;cases h
 |ok y=>
  rw[hq]at h;have h:(Except.ok ([]++y.1,k+10+y.2):Except Int (List TopV×Nat))=.ok (ts,m):=h;injection h with h;simp only[List.nil_append,Prod.mk.injEq]at h;obtain⟨rfl,rfl⟩:=h;obtain⟨_,g⟩:=(zEq n [] s (k+10) hp).1 y.1 y.2 hq;have h9:=zEp (M:=s.length) n [] ⟨s,k+10,0⟩ (Nat.le_refl _) (fun x hx=>by cases hx);rw[g,List.nil_append,List.length_nil]at h9;have h9a:y.1.length≤0+n:=h9.1;exact⟨oM,h9.2⟩
theorem zE4(s:Bs)(ve:Int)(hs:s.length≤1000000){W0 w:World}{K:Know}{L:List Res}(h:St W0 w K L):
 (∀e,zB1 s=.error e→Calls Tryz.prog 19 #[.string (bb s),.int .i64 ve] w fun en w'=>en=.returned (.tuple #[.agg #[.bool false,.string ⟨#[]⟩,.int .i64 0,.int .i64 0,.slice none 0 0],.int .i64 0,.int .i64 e])∧St W0 w' K L)∧(∀nl dd ac tm ts m,zB1 s=.ok ((⟨nl,dd⟩,ac,tm,ts),m)→Calls Tryz.prog 19 #[.string (bb s),.int .i64 ve] w fun en w'=>RPost nl dd ac tm ve K W0 L (.ok (ts,m)) en w'):=by
 cases hv:zAk 2 s with
 |error e0=>
  have hp:zB1 s=.error e0:=by unfold zB1;rw[hv]
  have h0:=zGh hv;rw[hp];refine⟨fun e he=> ?_,fun nl dd ac tm ts m he=>(by cases he)⟩;injection he with he;subst he;exact rd20_1 s ve hs _ h0 hv h
 |ok x=>
  obtain⟨⟨nl,dd⟩,k⟩:=x
  by_cases hl:(s.drop k).length<6
  ·have hp:zB1 s=.error 1:=by unfold zB1;rw[hv];simp only;rw[if_pos hl]
   rw[hp];refine⟨fun e he=> ?_,fun nl dd ac tm ts m he=>(by cases he)⟩;injection he with he;subst he;exact rd20_2 s ve hs nl dd k hv hl h
  obtain⟨⟨n,f⟩,hc⟩:∃r,cntR 6 (s.drop (k+6))=r:=⟨_,rfl⟩
  by_cases h0:f=0
  rotate_left
  ·have hp:zB1 s=.error f:=by unfold zB1;rw[hv];simp only;rw[if_neg hl,zMY hc h0]
   rw[hp];refine⟨fun e he=> ?_,fun nl dd ac tm ts m he=>(by cases he)⟩;injection he with he;subst he;exact rd20_3 s ve hs nl dd k hv hl n f hc h0 h
  subst h0;obtain⟨_,hle⟩:=zDE dD hc;have hl2:=hl;rw[List.length_drop]at hle hl2;have hgo:=zRk s ve hs nl dd k hv hl n hc _ rfl (zOv hs oM oM) h;rw[zNG hv hl hc]
  cases hF:zEI [] (k+10) (zBN n (s.drop (k+10)))with
  |error e1=>
   rw[hF]at hgo;refine⟨fun e he=> ?_,fun nl dd ac tm ts m he=>(by cases he)⟩;injection he with he;subst he;exact hgo
  |ok y=>
   rw[hF]at hgo;refine⟨fun e he=>(by cases he),fun nl2 dd2 ac tm ts m he=> ?_⟩;injection he with he;simp only[Prod.mk.injEq,BlobS.mk.injEq]at he;obtain⟨⟨⟨rfl,rfl⟩,rfl,rfl,rfl⟩,rfl⟩:=he;exact hgo
theorem zLo(nl:Bool)(dd:Bs)(ac tm:Int)(l:List PTop)(q:Option Addr)(cap:Nat)(S:Bs)(hS:zCi nl dd ac tm l=S)(h2:S.length≤9000000)(hdd:dd.length≤32767)(hra: -9223372036854775808≤ac∧ac<9223372036854775808)(hrt: -9223372036854775808≤tm∧tm<9223372036854775808)(hll:l.length≤1000000)(hf:∀x∈l,WrT x){W0 w:World}{K:Know}{L:List Res}(hk:K.has (Know.ptops (.slice q l.length cap) l))(h:St W0 w K L):
 Calls Tryz.prog 16 #[.agg #[.bool nl,.string (bb dd),.int .i64 ac,.int .i64 tm,.slice q l.length cap]] w fun en w'=>en=.returned (.string (bb S))∧St W0 w' K L:=by
 obtain⟨rb,hrb⟩:∃b,w.heap.size=b:=⟨_,rfl⟩;have g9:=h.allocRaw #[.bool nl,.string (bb dd),.int .i64 ac,.int .i64 tm,.slice q l.length cap] 40;rw[hrb]at g9;have H:=hQd g9;have HK:=hQd hk;have HF:=hQd hf;have HDD:=hQd hdd;have RA:=hQd hra;have RT:=hQd hrt;have RL:=hQd (show -9223372036854775808≤(l.length:Int)∧(l.length:Int)<9223372036854775808 by omega);have HS:=hQd h2;have hni:(l.length:Int)≤1000000:=by omega
 obtain⟨g0,hg0⟩:∃y,encF 2 ⟨nl,dd⟩=y:=⟨_,rfl⟩;obtain⟨g1,hg1⟩:∃y,zAd ac 2=y:=⟨_,rfl⟩;obtain⟨g2,hg2⟩:∃y,zAd tm 4=y:=⟨_,rfl⟩;obtain⟨g3,hg3⟩:∃y,zAd (l.length:Int) 4=y:=⟨_,rfl⟩;obtain⟨y1,hy1⟩:∃y,g0++g1=y:=⟨_,rfl⟩;obtain⟨y2,hy2⟩:∃y,y1++g2=y:=⟨_,rfl⟩;obtain⟨y3,hy3⟩:∃y,y2++g3=y:=⟨_,rfl⟩
 have hR:y3++(l.drop 0).flatMap zAJ=S:=by
  rw[←hS,←hy3,←hy2,←hy1,←hg0,←hg1,←hg2,←hg3,List.drop_zero]
  rfl
 have l3:=zA8 hR h2;have e3:=congrArg List.length hy3;have e2:=congrArg List.length hy2;have e1:=congrArg List.length hy1;rw[List.length_append]at e1 e2 e3;obtain⟨q1,q2,q3⟩:¬(9223372036854775807<g0.length+g1.length)∧¬(9223372036854775807<y1.length+g2.length)∧¬(9223372036854775807<y2.length+g3.length):=by refine⟨?_,?_,?_⟩<;>omega
 have hcat1:bb g0++bb g1=bb y1:=by rw[←hy1];exact zBb _ _
 have hcat2:bb y1++bb g2=bb y2:=by rw[←hy2];exact zBb _ _
 have hcat3:bb y2++bb g3=bb y3:=by rw[←hy3];exact zBb _ _
 have G0:=hQd hg0;have G1:=hQd hg1;have G2:=hQd hg2;have G3:=hQd hg3;have HR:=hQd hR
 have HKP:=hQd (show ∀w',St W0 w' K (.raw rb #[.bool nl,.string (bb dd),.int .i64 ac,.int .i64 tm,.slice q l.length cap] 40::L)→(w'.cell? ⟨rb,0,none⟩=some (.bool nl)∧w'.cell? ⟨rb,1,none⟩=some (.string (bb dd))∧w'.cell? ⟨rb,2,none⟩=some (.int .i64 ac)∧w'.cell? ⟨rb,3,none⟩=some (.int .i64 tm)∧w'.cell? ⟨rb,4,none⟩=some (.slice q l.length cap))from fun w' hs=>by
  obtain⟨a0,a1,a2,a3,a4⟩:=uR5 hs;simp at a0 a1 a2 a3 a4
  exact⟨a0,a1,a2,a3,a4⟩)
 clear h g9 hk hf hdd hra hrt hll hS h2 hg0 hg1 hg2 hg3 hy1 hy2 hy3 hR l3 e1 e2 e3;go_enter Tryz.func16,Tryz.ntmps16;go_wp2_with fail;go_cut [3] (fun s3 wx=>s3=.string (bb y3)∧St W0 wx K (.raw rb #[.bool nl,.string (bb dd),.int .i64 ac,.int .i64 tm,.slice q l.length cap] 40::L))
 case first=>
  have hs:=H.out.drew;refine wp_region_held_drew (S:=fun w'=>w'.cell? ⟨rb,0,none⟩=some (.bool nl)∧w'.cell? ⟨rb,1,none⟩=some (.string (bb dd))∧w'.cell? ⟨rb,2,none⟩=some (.int .i64 ac)∧w'.cell? ⟨rb,3,none⟩=some (.int .i64 tm)∧w'.cell? ⟨rb,4,none⟩=some (.slice q l.length cap)) (by kernel_rfl) (HKP.out _ hs) (fun hHeld=> ?_);refine tR 0 ?_;refine tR 1 ?_;refine tR 3 ?_;refine tR 4 ?_;refine tR 7 ?_;refine tR 8 ?_;refine tR 11 ?_;refine tR 12 ?_;refine tR 13 ?_;refine wR [2] (rC rfl (fun KK hK=> ?_) rN);go_simp;go_at_call 48;with_reducible refine(pfix2 nl dd g0 G0.out HDD.out hs).mono ?_;rintro e wq ⟨rfl,hs⟩;refine zK hK (HKP.out _ hs) (fun hHeld=> ?_);clear hK KK
  refine wR [5] (rC rfl (fun KK hK=> ?_) rN);go_simp;go_at_call 49;with_reducible refine(pby ac 2 2 rfl dD g1 G1.out RA.out hs).mono ?_;rintro e wq ⟨rfl,hs⟩;refine zK hK (HKP.out _ hs) (fun hHeld=> ?_);clear hK KK
  refine tR 6 ?_;refine wR [9] (rC rfl (fun KK hK=> ?_) rN);go_simp;go_at_call 49;with_reducible refine(pby tm 4 4 rfl dD g2 G2.out RT.out hs).mono ?_;rintro e wq ⟨rfl,hs⟩;refine zK hK (HKP.out _ hs) (fun hHeld=> ?_);clear hK KK
  refine tR 10 ?_;refine wR [14] (rC rfl (fun KK hK=> ?_) rN);go_simp;go_at_call 49;with_reducible refine(pby l.length 4 4 rfl dD g3 G3.out RL.out hs).mono ?_;rintro e wq ⟨rfl,hs⟩;refine zK hK (HKP.out _ hs) (fun hHeld=> ?_);clear hK KK
  refine tR 15 ?_;refine tR 16 ?_;refine wpAnyH_done (by kernel_rfl) ?_ _;clear hHeld;go_wp2_with fail;go_meet;exact⟨rfl,hs⟩
 obtain⟨rfl,h⟩:=hcut;clear H HKP hcat1 hcat2 hcat3 q1 q2 q3 G0 G1 G2 G3;have H:=hQd h;clear h;go_wp2_with fail;go_loopw [3,4] (fun sv iv wr=>∃(k:Nat) (E:Bs),k≤l.length∧iv=.int .i64 k∧sv=.string (bb E)∧Hid (E++(l.drop k).flatMap zAJ=S)∧St W0 wr K (.raw rb #[.bool nl,.string (bb dd),.int .i64 ac,.int .i64 tm,.slice q l.length cap] 40::L)) (fun _ iv _=>l.length - (intOf iv).toNat)
 case atStart=>exact⟨0,y3,Nat.zero_le _,rfl,rfl,HR,H.out⟩
 case round=>
  obtain⟨k,E,hkl,rfl,rfl,HE,hst⟩:=hrel;clear H HR;have H:=hQd hst;clear hst;have z4:=H.out.rawCell 4;simp at z4
  by_cases hlt:k<l.length
  ·obtain⟨bk,off,hqq⟩:=zB9 HK.out H.out oM;obtain⟨x,hx⟩:∃x,l[k]=x:=⟨_,rfl⟩;have hmem:x∈l:=hx ▸ List.getElem_mem hlt;have hpx:=HF.out x hmem;have HK':=HK.out;rw[hqq]at HK';obtain⟨c0,c1⟩:=zAZ HK' H.out k hlt x hx;have HXK0:=zA5 HK.out hmem;have he:=HE.out;rw[zF0 zAJ l k hlt x hx]at he;have hkn:(k:Int)<(l.length:Int):=by omega
   obtain⟨nm,xl,xq,xcap⟩:=x;simp only at c0 c1 HXK0;obtain⟨h0,hh0⟩:∃y,encF 2 ⟨false,nm⟩=y:=⟨_,rfl⟩;obtain⟨h1,hh1⟩:∃y,zAd (xl.length:Int) 4=y:=⟨_,rfl⟩;obtain⟨B1,hB1⟩:∃B,E++h0=B:=⟨_,rfl⟩;obtain⟨B2,hB2⟩:∃B,B1++h1=B:=⟨_,rfl⟩
   have hI:B2++((xl.drop 0).flatMap zAL++(l.drop (k+1)).flatMap zAJ)=S:=by
    rw[←he,←hB2,←hB1,←hh0,←hh1,List.drop_zero];unfold zAJ;simp only[List.append_assoc]
    rfl
   have lI:=zA8 hI HS.out;have eB2:=congrArg List.length hB2;have eB1:=congrArg List.length hB1;rw[List.length_append]at eB1 eB2;obtain⟨q1,q2⟩:¬(9223372036854775807<E.length+h0.length)∧¬(9223372036854775807<B1.length+h1.length):=by refine⟨?_,?_⟩<;>omega
   have hcat1:bb E++bb h0=bb B1:=by rw[←hB1];exact zBb _ _
   have hcat2:bb B1++bb h1=bb B2:=by rw[←hB2];exact zBb _ _
   have hxl:xl.length≤10000000:=by
    have h9:=congrArg List.length hI;rw[List.length_append,List.length_append,List.drop_zero]at h9;have h8:8*xl.length≤(xl.flatMap zAL).length:=zFA xl;have h7:=HS.out
    omega
   have hxi:(xl.length:Int)≤10000000:=by omega
   have RX:=hQd (show -9223372036854775808≤(xl.length:Int)∧(xl.length:Int)<9223372036854775808 by omega);have H0:=hQd hh0;have H1:=hQd hh1;have HI:=hQd hI;have HNM:=hQd (show nm.length≤32767 from hpx.name);have HXK:=hQd HXK0;have HPP:=hQd (show ∀y∈xl,WrP y from hpx.parts);subst hqq;obtain⟨tb,htb⟩:∃b,wr.heap.size=b:=⟨_,rfl⟩;have h:=H.out.allocRaw #[.string (bb nm),.slice xq xl.length xcap] 83;rw[htb]at h;clear H;have H:=hQd h
   have HKP:=hQd (show ∀w',St W0 w' K (.raw tb #[.string (bb nm),.slice xq xl.length xcap] 83::.raw rb #[.bool nl,.string (bb dd),.int .i64 ac,.int .i64 tm,.slice (some ⟨bk,off,none⟩) l.length cap] 40::L)→(w'.cell? ⟨tb,0,none⟩=some (.string (bb nm))∧w'.cell? ⟨tb,1,none⟩=some (.slice xq xl.length xcap))from fun w' hs=>by
    obtain⟨a0,a1⟩:=uR2 hs;simp at a0 a1
    exact⟨a0,a1⟩)
   clear h hx hmem hpx HK' HXK0 he hxl hh0 hh1 hB1 hB2 hI lI eB1 eB2;go_wp2_with fail;go_cut [3] (fun s3 wx=>s3=.string (bb B2)∧St W0 wx K (.raw tb #[.string (bb nm),.slice xq xl.length xcap] 83::.raw rb #[.bool nl,.string (bb dd),.int .i64 ac,.int .i64 tm,.slice (some ⟨bk,off,none⟩) l.length cap] 40::L))
   case first=>
    have hs:=H.out.drew;refine wp_region_held_drew (S:=fun w'=>w'.cell? ⟨tb,0,none⟩=some (.string (bb nm))∧w'.cell? ⟨tb,1,none⟩=some (.slice xq xl.length xcap)) (by kernel_rfl) (HKP.out _ hs) (fun hHeld=> ?_);refine tR 0 ?_;refine tR 1 ?_;refine tR 2 ?_;refine tR 3 ?_;refine tR 6 ?_;refine tR 7 ?_;refine tR 8 ?_;refine wR [4] (rC rfl (fun KK hK=> ?_) rN);go_simp;go_at_call 48;with_reducible refine(pfix2 false nm h0 H0.out HNM.out hs).mono ?_;rintro e wq ⟨rfl,hs⟩;refine zK hK (HKP.out _ hs) (fun hHeld=> ?_);clear hK KK
    refine tR 5 ?_;refine wR [9] (rC rfl (fun KK hK=> ?_) rN);go_simp;go_at_call 49;with_reducible refine(pby xl.length 4 4 rfl dD h1 H1.out RX.out hs).mono ?_;rintro e wq ⟨rfl,hs⟩;refine zK hK (HKP.out _ hs) (fun hHeld=> ?_);clear hK KK
    refine tR 10 ?_;refine tR 11 ?_;refine wpAnyH_done (by kernel_rfl) ?_ _;clear hHeld;go_wp2_with fail;go_meet;exact⟨rfl,hs⟩
   obtain⟨rfl,h⟩:=hcut;clear H HKP hcat1 hcat2 q1 q2 H0 H1 z4 c0 c1;have H:=hQd h;clear h;go_wp2_with fail;go_loopw [3,6] (fun sv jv wr=>∃(j:Nat) (G:Bs),j≤xl.length∧jv=.int .i64 j∧sv=.string (bb G)∧Hid (G++((xl.drop j).flatMap zAL++(l.drop (k+1)).flatMap zAJ)=S)∧St W0 wr K (.raw tb #[.string (bb nm),.slice xq xl.length xcap] 83::.raw rb #[.bool nl,.string (bb dd),.int .i64 ac,.int .i64 tm,.slice (some ⟨bk,off,none⟩) l.length cap] 40::L)) (fun _ jv _=>xl.length - (intOf jv).toNat)
   case atStart=>exact⟨0,B2,Nat.zero_le _,rfl,rfl,HI,H.out⟩
   case round=>
    obtain⟨j,G,hjl,rfl,rfl,HG,hst⟩:=hrel;clear H HI;have H:=hQd hst;clear hst;have t1:=H.out.rawCell 1;simp at t1
    by_cases hjt:j<xl.length
    ·obtain⟨pk,poff,hpq⟩:=zBB HXK.out H.out oM;subst hpq;obtain⟨y,hy⟩:∃y,xl[j]=y:=⟨_,rfl⟩;have hmem:y∈xl:=hy ▸ List.getElem_mem hjt;have hpy:=HPP.out y hmem;have HYK0:=zBp HXK.out hmem;have hg:=HG.out;rw[zF0 zAL xl j hjt y hy]at hg;have hjn:(j:Int)<(xl.length:Int):=by omega
     have HY:=hQd hy;obtain⟨yi,yl,yq,ycap⟩:=y;simp only at HYK0;obtain⟨al,hal⟩:∃y,encB yl=y:=⟨_,rfl⟩;obtain⟨k1,hk1⟩:∃y,zAd yi 4=y:=⟨_,rfl⟩;obtain⟨k2,hk2⟩:∃y,encF 4 ⟨false,al⟩=y:=⟨_,rfl⟩;obtain⟨D1,hD1⟩:∃B,G++k1=B:=⟨_,rfl⟩;obtain⟨D2,hD2⟩:∃B,D1++k2=B:=⟨_,rfl⟩
     have hI:D2++((xl.drop (j+1)).flatMap zAL++(l.drop (k+1)).flatMap zAJ)=S:=by
      rw[←hg,←hD2,←hD1,←hk1,←hk2,←hal];unfold zAL;simp only[List.append_assoc]
      rfl
     have lI:=zA8 hI HS.out;have eD2:=congrArg List.length hD2;have eD1:=congrArg List.length hD1;have ek2:=congrArg List.length hk2;rw[List.length_append]at eD1 eD2;have hka:al.length≤k2.length:=by rw[←ek2];show al.length≤(zAd _ _++al).length;rw[List.length_append];omega
     have hal4:al.length≤9000000:=by omega
     obtain⟨q1,q2⟩:¬(9223372036854775807<G.length+k1.length)∧¬(9223372036854775807<D1.length+k2.length):=by refine⟨?_,?_⟩<;>omega
     have hcat1:bb G++bb k1=bb D1:=by rw[←hD1];exact zBb _ _
     have hcat2:bb D1++bb k2=bb D2:=by rw[←hD2];exact zBb _ _
     have hyl:yl.length≤9000000:=by
      have h9:61*yl.length≤(encB yl).length:=zKJ yl;rw[hal]at h9
      omega
     have hyi:(yl.length:Int)≤9000000:=by omega
     have K1:=hQd hk1;have K2_:=hQd hk2;have HI:=hQd hI;have HAL:=hQd hal;have HALN:=hQd hal4;have HAL4:=hQd (show al.length≤100000000 by omega);have HYK:=hQd HYK0;have HYI:=hQd (show -9223372036854775808≤yi∧yi<9223372036854775808 from hpy.idx);have HYB:=hQd (show ∀z∈yl,z.l.map (·.1)=z.b.recs∧EncOk z.b from hpy.bats);clear hy hmem hpy HYK0 hg hk1 hk2 hD1 hD2 hI lI eD1 eD2 ek2 hka hal4 hyl hal;go_wp2_with fail;clear t1;go_loopw [7,8] (fun av mv wr=>∃(m:Nat) (A:Bs),m≤yl.length∧mv=.int .i64 m∧av=.string (bb A)∧Hid (A++encB (yl.drop m)=al)∧St W0 wr K (.raw tb #[.string (bb nm),.slice (some ⟨pk,poff,none⟩) xl.length xcap] 83::.raw rb #[.bool nl,.string (bb dd),.int .i64 ac,.int .i64 tm,.slice (some ⟨bk,off,none⟩) l.length cap] 40::L)) (fun _ mv _=>yl.length - (intOf mv).toNat)
     case atStart=>exact⟨0,[],Nat.zero_le _,rfl,rfl,hQd (by rw[List.drop_zero];exact HAL.out),H.out⟩
     case round=>
      obtain⟨m,A,hml,rfl,rfl,HA,hst⟩:=hrel;clear H;have H:=hQd hst;clear hst;have t1:=H.out.rawCell 1;simp at t1;obtain⟨d0,d1⟩:=zAW HXK.out H.out j hjt _ HY.out;simp only at d0 d1
      by_cases hmt:m<yl.length
      ·obtain⟨tk,toff,htq⟩:=zFn HYK.out H.out oM;subst htq;obtain⟨z,hz⟩:∃z,yl[m]=z:=⟨_,rfl⟩;have hmem:z∈yl:=hz ▸ List.getElem_mem hmt;obtain⟨hz1,hz2⟩:=HYB.out z hmem;obtain⟨c0,c1,c2,c3,c4,c5,c6,c7,c8,c9,c10,c11⟩:=zBF HYK.out H.out m hmt z hz;have HZK:=hQd (zC6 HYK.out hmem);have hmn:(m:Int)<(yl.length:Int):=by omega
       obtain⟨en1,hen1⟩:∃y,z.b.enc=y:=⟨_,rfl⟩;obtain⟨A2,hA2⟩:∃y,A++en1=y:=⟨_,rfl⟩
       have hI2:A2++encB (yl.drop (m+1))=al:=by
        rw[←HA.out,←hA2,←hen1,List.append_assoc,←zEz,List.drop_eq_getElem_cons hmt,hz]
       have eA2:=congrArg List.length hA2;rw[List.length_append]at eA2;have lA:=congrArg List.length hI2;rw[List.length_append]at lA;have q3:¬(9223372036854775807<A.length+en1.length):=by have:=HALN.out;omega
       have hcat3:bb A++bb en1=bb A2:=by rw[←hA2];exact zBb _ _
       have HEN:=hQd hen1;have HZ1:=hQd hz1;have HZ2:=hQd hz2;have HI2:=hQd hI2;clear hz hmem hz1 hz2 hen1 hA2 hI2 eA2 lA;go_wp2_with (go_at_call 50;(try clear c0 c1 c2 c3 c4 c5 c6 c7 c8 c9 c10 c11);(with_reducible refine(zIw z.b en1 HEN.out z.l z.q z.cap HZ1.out HZ2.out HZK.out H.out).zM ?_);clear H;intro wn H);go_roundw
       case rel=>exact⟨m+1,A2,hmt,by go_num,rfl,HI2,H.out⟩
       case measure=>first|(simp[intOf];done)|(simp[intOf];omega)
      ·obtain rfl:m=yl.length:=by omega
       have ha:=HA.out;rw[List.drop_length,show encB []=[]from rfl,List.append_nil]at ha;have ha:=ha.symm;subst ha
       go_wp2_with (first
  |(go_at_call 49;(try clear d0 t1);(with_reducible refine(pby yi 4 4 rfl dD k1 K1.out HYI.out H.out).zM ?_);clear H;intro wn H)
  |(go_at_call 48;(with_reducible refine(pfix4 al k2 K2_.out HAL4.out H.out).zM ?_);clear H;intro wn H))
       go_roundw
       case rel=>exact⟨j+1,D2,hjt,by go_num,rfl,HI,H.out⟩
       case measure=>first|(simp[intOf];done)|(simp[intOf];omega)
    ·obtain rfl:j=xl.length:=by omega
     have HE2:=hQd (show G++(l.drop (k+1)).flatMap zAJ=S by have hg:=HG.out;rw[List.drop_length]at hg;exact hg);go_wp2_with fail;go_roundw
     case rel=>exact⟨k+1,G,hlt,by go_num,rfl,HE2,H.out.drop⟩
     case measure=>first|(simp[intOf];done)|(simp[intOf];omega)
  ·obtain rfl:k=l.length:=by omega
   have he:=HE.out;rw[List.drop_length,List.flatMap_nil,List.append_nil]at he;subst he;go_wp2_with fail;go_ret;exact⟨rfl,H.out.drop⟩
theorem MidOk.of2{s:Bs}{b:BatS}{n:Nat}(h:zBd s=.ok (b,n))(hl:s.length≤2000):MidOk b:=by
 exact zq24
structure LawOk (nl:Bool) (x:BatR):Prop where
 mid:MidOk x.b
 recs:x.l.map (·.1)=x.b.recs
 ctl:x.b.ctl=false
 txn:x.b.txn= !nl
theorem wrT_pt{M:Nat}(hM:M≤2000)(x:PTop)(h:PtOk M x.pt)(hi:∀y∈x.l,-2147483648≤y.idx∧y.idx<2147483648)(hm:∀y∈x.l,∀z∈y.l,z.l.map (·.1)=z.b.recs):WrT x:=by
 obtain⟨h1,_,h3⟩:=h;refine⟨Nat.le_trans h1 oM,fun y hy=>⟨by have:=hi y hy;omega,fun z hz=>⟨hm y hy z hz,?_⟩⟩⟩;obtain⟨_,g2⟩:=h3 y.pb (List.mem_map_of_mem hy);obtain⟨t,n,hr,ht⟩:=g2 z.b (List.mem_map_of_mem hz);exact EncOk.mid (MidOk.of2 hr oM)
def zM4 (s:Bs) (v e:Int):Prop:=e≠0∧(zB1 s=.error e∨∃nl dd ac tm ts m,zB1 s=.ok ((⟨nl,dd⟩,ac,tm,ts),m)∧zAC ⟨nl,dd⟩ ac tm v (ts.map topU)=e)
theorem zDQ{nl:Bool}{dd:Bs}{ac tm v:Int}{lr:List PTop}{ts:List TopV}(h:lr.map PTop.pt=ts):zAC ⟨nl,dd⟩ ac tm v lr=zAC ⟨nl,dd⟩ ac tm v (ts.map topU):=zPj _ _ _ _ (h.trans (zQ7 ts).symm)
theorem zP9(s:Bs)(v:Int):(∃e,zM4 s v e)∨∃nl dd ac tm ts m,zB1 s=.ok ((⟨nl,dd⟩,ac,tm,ts),m)∧zAC ⟨nl,dd⟩ ac tm v (ts.map topU)=0:=by
 cases h:zB1 s with
 |error e=>exact .inl ⟨e,(zMI h).1,.inl h⟩
 |ok x=>
  obtain⟨⟨⟨nl,dd⟩,ac,tm,ts⟩,m⟩:=x
  by_cases h0:zAC ⟨nl,dd⟩ ac tm v (ts.map topU)=0
  ·exact .inr ⟨nl,dd,ac,tm,ts,m,rfl,h0⟩
  ·exact .inl ⟨_,h0,.inr ⟨nl,dd,ac,tm,ts,m,h,rfl⟩⟩
theorem fail_err{j:InS}(h:j.err=0)(e:Int):(j.fail e).err=e:=by unfold InS.fail;rw[if_pos h]
theorem zRg(p:Nat)(v:Int)(s:Bs)(e:Int)(hb:zM4 s v e)(hs:s.length≤1000000)(h:St W0 w K (.inp p ⟨s,0,0⟩::L)):
 Calls Tryz.prog 15 #[zAu p,.int .i64 v] w fun en w'=>∃(j:InS) (K2:Know),j.err=e∧en=.returned (.agg #[.bool false,.string ⟨#[]⟩,.int .i64 0,.int .i64 0,.slice none 0 0])∧K2.has K∧K2.has (Know.ptops (.slice none ([]:List PTop).length 0) [])∧St W0 w' K2 (.inp p j::L):=by
 have hz:∀{K2:Know}{W0 w:World}{L:List Res},St W0 w K2 L→St W0 w (K2.and (Know.ptops (.slice none 0 0) [])) L:=fun {K2}{_}{_}{_} g=>g.know (K':=K2.and (Know.ptops (.slice none 0 0) [])) (fun w F hh=>⟨hh,⟨⟨none,0,rfl,fun h=>absurd h (by simp)⟩,fun x hx=>by cases hx⟩⟩)
 obtain⟨he,hp|⟨nl,dd,ac,tm,ts,m,hp,hq⟩⟩:=hb
 ·obtain⟨_,⟨nl,dd⟩,ac,tm,ts,q,_,hI⟩:=zMI hp;refine(zGJ p v s nl dd ac tm ts _ hI hs h).mono ?_;rintro en w' (⟨_,K2,rfl,hk,g⟩|⟨h0,_⟩)
  ·exact⟨_,_,rfl,rfl,Know.has_trans (Know.has_left (Know.has_refl _)) hk,Know.has_right (Know.has_refl _),hz g⟩
  ·exact absurd h0 he
 ·obtain⟨_,hI⟩:=zLL hp;refine(zGJ p v s nl dd ac tm ts _ hI hs h).mono ?_;rintro en w' (⟨h0,_⟩|⟨h0,q,cap,lr,K2,hk,hpt,_,_,_,⟨hr,_⟩|⟨_,rfl,g⟩⟩)
  ·exact absurd rfl h0
  ·rw[zDQ hpt,hq]at hr;exact absurd hr he
  ·rw[zDQ hpt,hq]at g;exact⟨_,_,fail_err h0 e,rfl,Know.has_trans (Know.has_left (Know.has_refl _)) hk,Know.has_right (Know.has_refl _),hz g⟩
theorem zRh(p:Nat)(v:Int)(s:Bs)(nl:Bool)(dd:Bs)(ac tm:Int)(ts:List TopV)(m:Nat)(hp:zB1 s=.ok ((⟨nl,dd⟩,ac,tm,ts),m))(he:zAC ⟨nl,dd⟩ ac tm v (ts.map topU)=0)(hs:s.length≤2000)(h:St W0 w K (.inp p ⟨s,0,0⟩::L)):
 Calls Tryz.prog 15 #[zAu p,.int .i64 v] w fun en w'=>∃(q:Option Addr) (cap:Nat) (lr:List PTop) (K2:Know),en=.returned (.agg #[.bool nl,.string (bb dd),.int .i64 ac,.int .i64 tm,.slice q lr.length cap])∧lr.map PTop.pt=ts∧(∀x∈lr,CkT x)∧(∀x∈lr,WrT x)∧lr.length≤1000000∧K2.has K∧K2.has (Know.ptops (.slice q lr.length cap) lr)∧St W0 w' K2 (.inp p ⟨s,m,0⟩::L):=by
 obtain⟨_,hI⟩:=zLL hp;have hi:=zOR hp;refine(zGJ p v s nl dd ac tm ts _ hI oM h).mono ?_;rintro en w' (⟨h0,_⟩|⟨_,q,cap,lr,K2,hk,hpt,hck,hll,hot,⟨_,he2,hk2,g⟩|⟨hne,_⟩⟩)
 ·exact absurd rfl h0
 ·refine⟨q,cap,lr,K2,he2,hpt,hck,fun x hx=>wrT_pt hs x (hot x hx).1 (fun y hy=> ?_) (hot x hx).2,hll,hk,hk2,g⟩;exact hi x.pt (hpt ▸ List.mem_map_of_mem hx) y.pb (List.mem_map_of_mem hy)
 ·exact absurd ((zDQ hpt).trans he) hne
theorem ref20Z(v:Int)(s:Bs)(e:Int)(hb:zM4 s v e)(hs:s.length≤1000000)(h:St W0 w K L):
 Calls Tryz.prog 19 #[.string (bb s),.int .i64 v] w fun en w'=>en=.returned (.tuple #[.agg #[.bool false,.string ⟨#[]⟩,.int .i64 0,.int .i64 0,.slice none 0 0],.int .i64 0,.int .i64 e])∧St W0 w' K L:=by
 obtain⟨he,hp|⟨nl,dd,ac,tm,ts,m,hp,hq⟩⟩:=hb
 ·exact(zE4 s v hs h).1 e hp
 ·refine((zE4 s v hs h).2 nl dd ac tm ts m hp).mono ?_;rintro en w' ⟨q,cap,lr,K2,hpt,_,_,_,⟨hr,_⟩|⟨_,h1,g⟩⟩
  ·rw[zDQ hpt,hq]at hr;exact absurd hr he
  ·rw[zDQ hpt,hq]at h1;exact⟨h1,g⟩
theorem ref20B(v:Int)(s:Bs)(nl:Bool)(dd:Bs)(ac tm:Int)(ts:List TopV)(m:Nat)(hp:zB1 s=.ok ((⟨nl,dd⟩,ac,tm,ts),m))(he:zAC ⟨nl,dd⟩ ac tm v (ts.map topU)=0)(hs:s.length≤1000000)(ck:∀t∈ts,PtOk 1000000 t)(h:St W0 w K L):
 Calls Tryz.prog 19 #[.string (bb s),.int .i64 v] w fun en w'=>∃(q:Option Addr) (cap:Nat) (lr:List PTop) (K2:Know),en=.returned (.tuple #[.agg #[.bool nl,.string (bb dd),.int .i64 ac,.int .i64 tm,.slice q lr.length cap],.int .i64 m,.int .i64 0])∧lr.map PTop.pt=ts∧(∀x∈lr,CkT x)∧K2.has K∧K2.has (Know.ptops (.slice q lr.length cap) lr)∧St W0 w' K2 L:=by
 refine((zE4 s v hs h).2 nl dd ac tm ts m hp).mono ?_;rintro en w' ⟨q,cap,lr,K2,hpt,hrc,_,hk,⟨_,h1,hk2,g⟩|⟨hne,_⟩⟩
 all_goals have hpt:lr.map PTop.pt=ts:=hpt
 ·exact⟨q,cap,lr,K2,h1,hpt,fun x hx=>zPw (Nat.le_refl _) x (ck x.pt (hpt ▸ List.mem_map_of_mem hx)) (hrc x hx),hk,hk2,g⟩
 ·exact absurd ((zDQ hpt).trans he) hne
theorem zKf{s:Bs}{b:BlobS}{ac tm:Int}{ts:List TopV}{m:Nat}(h:zB1 s=.ok ((b,ac,tm,ts),m))(hs:s.length≤1000000):b.data.length≤s.length∧∀t∈ts,PtOk 1000000 t:=by
 obtain⟨_,i1,i2,i3,c,n,h1,h2,h3,h4,h5⟩:=zLL h;have e1:=zBr (⟨s,0,0⟩:InS) 2;have e2:=zB2 i1 2;have e3:=zB2 i2 4;have e4:=zFj i3 6;rw[h1]at e1;rw[h2]at e2;rw[h3]at e3;rw[h4]at e4;simp only at e1 e2 e3 e4;have hc:c.s.length≤1000000:=by rw[e4,e3,e2,e1.1];exact hs
 have h9:=zEp (M:=1000000) n [] c hc (fun x hx=>by cases hx);rw[h5]at h9;exact⟨e1.2,h9.2⟩
def zM6 (s:Bs) (v e:Int) (nl:Bool) (dd:Bs) (ac tm:Int) (ts:List TopV) (m:Nat):Prop:=
 (zM4 s v e∧nl=false∧dd=[]∧ac=0∧tm=0∧ts=[]∧m=0)∨(e=0∧zB1 s=.ok ((⟨nl,dd⟩,ac,tm,ts),m)∧zAC ⟨nl,dd⟩ ac tm v (ts.map topU)=0)
theorem zRz(s:Bs)(v:Int):∃e nl dd ac tm ts m,zM6 s v e nl dd ac tm ts m:=by
 rcases zP9 s v with ⟨e,h⟩|⟨nl,dd,ac,tm,ts,m,h1,h2⟩
 ·exact⟨e,_,_,_,_,_,_,.inl ⟨h,rfl,rfl,rfl,rfl,rfl,rfl⟩⟩
 ·exact⟨0,nl,dd,ac,tm,ts,m,.inr ⟨rfl,h1,h2⟩⟩
theorem zNz(p:Nat)(v:Int)(s:Bs)(e:Int)(nl:Bool)(dd:Bs)(ac tm:Int)(ts:List TopV)(m:Nat)(ho:zM6 s v e nl dd ac tm ts m)(hs:s.length≤2000)(h:St W0 w K (.inp p ⟨s,0,0⟩::L)):
 Calls Tryz.prog 15 #[zAu p,.int .i64 v] w fun en w'=>∃(j:InS) (q:Option Addr) (cap:Nat) (lr:List PTop) (K2:Know),en=.returned (.agg #[.bool nl,.string (bb dd),.int .i64 ac,.int .i64 tm,.slice q lr.length cap])∧lr.map PTop.pt=ts∧(∀x∈lr,CkT x)∧lr.length≤1000000∧j.err=e∧(e=0→(∀x∈lr,WrT x)∧j=⟨s,m,0⟩)∧K2.has K∧K2.has (Know.ptops (.slice q lr.length cap) lr)∧St W0 w' K2 (.inp p j::L):=by
 rcases ho with ⟨hb,rfl,rfl,rfl,rfl,rfl,rfl⟩|⟨rfl,hp,he⟩
 ·refine(zRg p v s e hb oM h).mono ?_;rintro en w' ⟨j,K2,hj,he,hk,hk2,g⟩;exact⟨j,none,0,[],K2,he,rfl,fun x hx=>(by cases hx),Nat.zero_le _,hj,fun h0=>absurd h0 hb.1,hk,hk2,g⟩
 ·refine(zRh p v s nl dd ac tm ts m hp he hs h).mono ?_;rintro en w' ⟨q,cap,lr,K2,he2,hpt,hck,hwr,hll,hk,hk2,g⟩;exact⟨_,q,cap,lr,K2,he2,hpt,hck,hll,rfl,fun _=>⟨hwr,rfl⟩,hk,hk2,g⟩
theorem zOu(v:Int)(s:Bs)(e:Int)(nl:Bool)(dd:Bs)(ac tm:Int)(ts:List TopV)(m:Nat)(ho:zM6 s v e nl dd ac tm ts m)(hs:s.length≤1000000)(h:St W0 w K L):
 Calls Tryz.prog 19 #[.string (bb s),.int .i64 v] w fun en w'=>∃(q:Option Addr) (cap:Nat) (lr:List PTop) (K2:Know),en=.returned (.tuple #[.agg #[.bool nl,.string (bb dd),.int .i64 ac,.int .i64 tm,.slice q lr.length cap],.int .i64 m,.int .i64 e])∧lr.map PTop.pt=ts∧(∀x∈lr,CkT x)∧K2.has K∧K2.has (Know.ptops (.slice q lr.length cap) lr)∧St W0 w' K2 L:=by
 rcases ho with ⟨hb,rfl,rfl,rfl,rfl,rfl,rfl⟩|⟨rfl,hp,he⟩
 ·refine(ref20Z v s e hb hs h).mono ?_;rintro en w' ⟨he,g⟩;exact⟨none,0,[],K.and (Know.ptops (.slice none 0 0) []),he,rfl,fun x hx=>(by cases hx),Know.has_left (Know.has_refl _),Know.has_right (Know.has_refl _),g.know (K':=K.and (Know.ptops (.slice none 0 0) [])) (fun w F hh=>⟨hh,⟨⟨none,0,rfl,fun h=>absurd h (by simp)⟩,fun x hx=>by cases hx⟩⟩)⟩
 ·exact ref20B v s nl dd ac tm ts m hp he hs (zKf hp hs).2 h
theorem zMP{nl:Bool}{dd:Bs}{ac tm v:Int}{l:List PTop}(he:zAC ⟨nl,dd⟩ ac tm v l=0):(-9223372036854775808≤ac∧ac<9223372036854775808)∧(-9223372036854775808≤tm∧tm<9223372036854775808):=by
 unfold zAC at he
 by_cases h1:(⟨nl,dd⟩:BlobS).right=false∨((⟨nl,dd⟩:BlobS).null=false∧zAv (⟨nl,dd⟩:BlobS).data=false)
 ·rw[if_pos h1]at he;cases he
 rw[if_neg h1]at he
 by_cases h2:ac< -1∨1<ac∨tm<0∨2147483647<tm
 ·rw[if_pos h2]at he;cases he
 omega
theorem zRa(b:Nat)(i:InS)(e:Int)(he:i.err=e)(h:St W0 w K (.inp b i::L)):
 Calls Tryz.prog 20 #[zAu b] w fun en w'=>en=.returned (.int .i64 e)∧St W0 w' K (.inp b i::L):=by
 subst he;exact zIr b i h
theorem s_at20(b:Nat)(s:Bs)(m:Nat)(e:Int)(h:St W0 w K (.inp b ⟨s,m,e⟩::L)):
 Calls Tryz.prog 21 #[zAu b] w fun en w'=>en=.returned (.int .i64 m)∧St W0 w' K (.inp b ⟨s,m,e⟩::L):=s_at b ⟨s,m,e⟩ h
variable {W0 w:World}{K:Know}{L:List Res}
theorem zIS(h:St W0 w K L):
 Calls Tryz.prog 28 #[] w fun en w'=>en=.returned (.agg #[.int .i64 0,.int .i64 0,.bool false,.bool false,.bool false,.int .i64 0,.int .i64 0,.int .i64 0,.int .i64 (-1),.int .i64 (-1),.int .i64 (-1),.slice none 0 0])∧St W0 w' K L:=by
 obtain⟨rb,hrb⟩:∃b,w.heap.size=b:=⟨_,rfl⟩;have g2:=h.allocRaw #[.int .i64 0,.int .i64 0,.bool false,.bool false,.bool false,.int .i64 0,.int .i64 0,.int .i64 0,.int .i64 (-1),.int .i64 (-1),.int .i64 (-1),.slice none 0 0] 58;rw[hrb]at g2;have H:=hQd g2;clear h g2;go_enter Tryz.func28,Tryz.ntmps28;go_wp2;have hz:=H.out;refine bodyPost_ret (zAy rfl _ _ rb [.int .i64 0,.int .i64 0,.bool false,.bool false,.bool false,.int .i64 0,.int .i64 0,.int .i64 0,.int .i64 (-1),.int .i64 (-1),.int .i64 (-1),.slice none 0 0] _ rfl (zAr hz) Tryz.underlying58 rfl (by kernel_rfl)) rfl ?_;exact⟨rfl,hz.drop⟩
theorem zO0(po b p t:Nat)(hk:K.has (Know.ptops (.slice (some ⟨t,0,none⟩) 1 1) [zBD 1 b p]))(h:St W0 w K (.out po ⟨[],0⟩::L)):
 Calls Tryz.prog 8 #[.agg #[.bool true,.string ⟨#[]⟩,.int .i64 0,.int .i64 0,.slice (some ⟨t,0,none⟩) 1 1],zAO po,.int .i64 3] w fun en w'=>en=.returned (.tuple #[])∧∃s:Bs,s.length=88∧St W0 w' K (.out po ⟨s,0⟩::L):=by
 have hl:=zO1 b p;refine(zIK po [] true [] 0 0 3 [zBD 1 b p] (some ⟨t,0,none⟩) 1 dD (fun x hx=>by rw[List.mem_singleton.1 hx];exact zLR 1 b p dD) (by show(1:Nat)≤1000000;decide) (nob_E1 b p 3) (zCi true [] 0 0 [zBD 1 b p]) rfl oM rfl dD dD dD (fun x hx=>by rw[List.mem_singleton.1 hx];exact zQo b p) hk h).mono ?_;rintro en w' ⟨h1,h2⟩;exact⟨h1,_,hl,h2⟩
theorem zNQ(b p t:Nat)(hk:K.has (Know.ptops (.slice (some ⟨t,0,none⟩) 1 1) [zBD 2 b p]))(h:St W0 w K L):
 Calls Tryz.prog 12 #[.agg #[.bool true,.string ⟨#[]⟩,.int .i64 0,.int .i64 0,.slice (some ⟨t,0,none⟩) 1 1],.int .i64 3] w fun en w'=>en=.returned (.int .i64 10)∧St W0 w' K L:=
 zDO true [] 0 0 3 [zBD 2 b p] (some ⟨t,0,none⟩) 1 dD (fun x hx=>by rw[List.mem_singleton.1 hx];exact zLR 2 b p dD) (by show(1:Nat)≤4398046511104;decide) 10 (nob_E2 b p) hk h
theorem zNP(b p t:Nat)(hk:K.has (Know.ptops (.slice (some ⟨t,0,none⟩) 1 1) [zBD 2 b p]))(h:St W0 w K L):
 Calls Tryz.prog 12 #[.agg #[.bool true,.string ⟨#[]⟩,.int .i64 0,.int .i64 0,.slice (some ⟨t,0,none⟩) 1 1],.int .i64 4] w fun en w'=>en=.returned (.int .i64 0)∧St W0 w' K L:=
 zDO true [] 0 0 4 [zBD 2 b p] (some ⟨t,0,none⟩) 1 dD (fun x hx=>by rw[List.mem_singleton.1 hx];exact zLR 2 b p dD) (by show(1:Nat)≤4398046511104;decide) 0 (nob_E3 b p) hk h
theorem zMt(h:St W0 w K L):
 Calls Tryz.prog 6 #[] w fun en w'=>en=.returned (.bool true)∧St W0 w' K L:=by
 have H:=hQd h;have t1:True:=trivial;clear h;go_enter Tryz.func6,Tryz.ntmps6;go_upto_region 3 with (go_at_call 28;have _t:=t1;clear _t;(with_reducible refine(zIS H.out).mono ?_);rintro e_ wn ⟨rfl,h⟩;obtain⟨bb_,hbb⟩:∃b,wn.heap.size=b:=⟨_,rfl⟩;obtain⟨pb,hpb⟩:∃b,bb_+1=b:=⟨_,rfl⟩;obtain⟨tb,htb⟩:∃b,pb+1=b:=⟨_,rfl⟩;obtain⟨rb,hrb⟩:∃b,tb+1=b:=⟨_,rfl⟩;obtain⟨po,hpo⟩:∃b,rb+1=b:=⟨_,rfl⟩;replace H:=hQd h;clear h t1);have h0:=((((H.out.allocRaw #[.int .i64 0,.int .i64 0,.bool false,.bool false,.bool false,.int .i64 0,.int .i64 0,.int .i64 0,.int .i64 (-1),.int .i64 (-1),.int .i64 (-1),.slice none 0 0] 58).allocRaw #[.int .i64 0,.slice (some ⟨bb_,0,none⟩) 1 1] 68).allocRaw #[.string ⟨#[97]⟩,.slice (some ⟨pb,0,none⟩) 1 1] 65).allocRaw #[.bool true,.string ⟨#[]⟩,.int .i64 0,.int .i64 0,.slice (some ⟨tb,0,none⟩) 1 1] 26).allocOut;simp only[World.size_alloc,hbb,hpb,htb,hrb,hpo]at h0;obtain⟨Kp,l1,l2,l3,l4⟩:=zML 1 bb_ pb tb (T1:=58) (T2:=68) (T3:=65) (L:=.out po ⟨[],0⟩::.raw rb #[.bool true,.string ⟨#[]⟩,.int .i64 0,.int .i64 0,.slice (some ⟨tb,0,none⟩) 1 1] 26::L) h0.p2.p3.p4;obtain⟨z0,z1,z2,z3,z4⟩:=uR5 l3.p1;simp at z0 z1 z2 z3 z4;have HM2:=hQd l2;have HM4:=hQd l4;clear H h0 l1 l2 l4;have H:=hQd l3;have t3:True:=trivial;have t4:True:=trivial;have t5:True:=trivial;clear l3
 go_upto_region 5 with (first
  |(go_at_call 8;clear z0 z1 z2 z3 z4;(with_reducible refine(zO0 po bb_ pb tb HM2.out H.out).mono ?_);rintro e_ wn ⟨rfl,s,hs88,h⟩;have h:=HM4.out _ _ h;have h:=h.p3;have g88:((s.length:Int)==88)=true:=(by rw[hs88];rfl);replace H:=hQd h;clear h hs88)
  |(go_at_call 9;(with_reducible refine(zP8 po s H.out).mono ?_);rintro e_ wn ⟨rfl,h⟩;have h:=h.p3.p3.p3;obtain⟨z0,z1,z2,z3,z4⟩:=uR5 h.p4;simp at z0 z1 z2 z3 z4;replace H:=hQd h;clear h))
 have hs:=H.out.drew;refine wp_region_held_drew (S:=fun w'=>w'.cell? ⟨rb,4,none⟩=some (.slice (some ⟨tb,0,none⟩) 1 1)∧w'.cell? ⟨tb,1,none⟩=some (.slice (some ⟨pb,0,none⟩) 1 1)) (by kernel_rfl) (⟨by have:=(hs).p4.rawCell 4;simpa using this,by have:=(hs).p2.rawCell 1;simpa using this⟩) (fun hHeld=> ?_);refine tR 0 ?_;refine tR 1 ?_;refine tR 2 ?_;refine tR 3 ?_;refine tR 4 ?_;refine wR [5] (rC rfl (fun KK hK=> ?_) rN);go_simp;go_at_call 28;with_reducible refine(zIS hs).mono ?_;rintro e wq ⟨rfl,hs⟩;refine hK.out _ _ (⟨by have:=(hs).p4.rawCell 4;simpa using this,by have:=(hs).p2.rawCell 1;simpa using this⟩) (fun hHeld=> ?_);clear hK KK
 try simp only[Act.put,sA,sB,sC]
 refine wR [6] (rC rfl (fun KK hK=> ?_) rN);go_simp;go_at_call 28;with_reducible refine(zIS hs).mono ?_;rintro e wq ⟨rfl,hs⟩;refine hK.out _ _ (⟨by have:=(hs).p4.rawCell 4;simpa using this,by have:=(hs).p2.rawCell 1;simpa using this⟩) (fun hHeld=> ?_);clear hK KK
 try simp only[Act.put,sA,sB,sC]
 refine wR [7] (rC rfl (fun KK hK=> ?_) rN);rw[if_pos (by rfl)];refine zAM (zLW _ _ _ _ (by kernel_rfl) (zPz _)) ?_;obtain⟨wy,b2,ey,eb,hs⟩:=hs.allocEx #[.int .i64 0,.int .i64 0,.bool false,.bool false,.bool false,.int .i64 0,.int .i64 0,.int .i64 0,.int .i64 (-1),.int .i64 (-1),.int .i64 (-1),.slice none 0 0,.int .i64 0,.int .i64 0,.bool false,.bool false,.bool false,.int .i64 0,.int .i64 0,.int .i64 0,.int .i64 (-1),.int .i64 (-1),.int .i64 (-1),.slice none 0 0] 58;rw[ey,eb];clear ey eb;refine hK.out _ _ (⟨by have:=(hs).p5.rawCell 4;simpa using this,by have:=(hs).p3.rawCell 1;simpa using this⟩) (fun hHeld=> ?_);clear hK KK
 try simp only[Act.put,sA,sB,sC]
 refine tR 8 ?_;refine tR 9 ?_;refine wR [10] (rC rfl (fun KK hK=> ?_) rN);have hs:=hs.p2;have q1:=hs.rawFree 1;have z1:=hs.rawCell 1;simp at z1;rw[if_pos (by rfl)];refine zDx (w':=wy.setCell ⟨pb,1,none⟩ (.slice (some ⟨b2,0,none⟩) 2 2)) (by go_simp) ?_;obtain⟨wz,ez,hs⟩:=hs.setExP 1 (.slice (some ⟨b2,0,none⟩) 2 2);rw[ez];clear ez q1 z1;have hs:=hs.p2;refine hK.out _ _ (⟨by have:=(hs).p5.rawCell 4;simpa using this,by have:=(hs).p3.rawCell 1;simpa using this⟩) (fun hHeld=> ?_);clear hK KK
 try simp only[Act.put]
 refine wpAnyH_done (by kernel_rfl) ?_ _;clear hHeld z0 z1 z2 z3 z4;obtain⟨Kq,m1,m2,m3,m4⟩:=zML 2 b2 pb tb (T1:=58) (T2:=68) (T3:=65) (L:=.out po ⟨s,0⟩::.raw rb #[.bool true,.string ⟨#[]⟩,.int .i64 0,.int .i64 0,.slice (some ⟨tb,0,none⟩) 1 1] 26::L) hs.drop.p1;obtain⟨z0,z1,z2,z3,z4⟩:=uR5 m3.p1;simp at z0 z1 z2 z3 z4;have HM2:=hQd m2;have HM4:=hQd m4;have H:=hQd m3;clear m1 m2 m3 m4 hs
 go_wp2_with (first
  |(go_at_call 12;have _t:=t3;clear _t;clear z0 z1 z2 z3 z4;(with_reducible refine(zNQ b2 pb tb HM2.out H.out).mono ?_);rintro e_ wn ⟨rfl,h⟩;obtain⟨z0,z1,z2,z3,z4⟩:=uR5 h.p1;simp at z0 z1 z2 z3 z4;replace H:=hQd h;clear h t3)
  |(go_at_call 12;have _t:=t4;clear _t;clear z0 z1 z2 z3 z4;(with_reducible refine(zNP b2 pb tb HM2.out H.out).mono ?_);rintro e_ wn ⟨rfl,h⟩;replace H:=hQd h;clear h t4))
 go_ret;exact⟨rfl,(HM4.out _ _ H.out).drop.drop.drop.drop.drop⟩
theorem zq37{p:Prop}(h:p:=by
 have h:=heq.out
 rwa [List.take_of_length_le (by simp),List.take_of_length_le (by have:=HLEN.out;simp;omega)]at h):p:=h
theorem zLq(base1:Int)(leader1:Int)(app1:Bool)(txn1:Bool)(ctl1:Bool)(last1:Int)(first1:Int)(maxt1:Int)(prod1:Int)(epoch1:Int)(seq1:Int)(l1 l2:List (RecS×Value))(q1 q2:Option Addr)(cap1 cap2:Nat)(hn:l1.length≤1000000)(hlen:l1.length=l2.length)(r:Bool)(hr:decide ((⟨base1,leader1,app1,txn1,ctl1,last1,first1,maxt1,prod1,epoch1,seq1,l1.map (·.1)⟩:BatS)=(⟨base1,leader1,app1,txn1,ctl1,last1,first1,maxt1,prod1,epoch1,seq1,l2.map (·.1)⟩:BatS))=r)(hf1:∀x∈l1,x.1.hdrs.length≤9223372036854775807)(hf2:∀x∈l2,x.1.hdrs.length≤9223372036854775807){W0 w:World}{K:Know}{L:List Res}(hk1:K.has (Know.recs (.slice q1 l1.length cap1) l1))(hk2:K.has (Know.recs (.slice q2 l2.length cap2) l2))(h:St W0 w K L):
 Calls Tryz.prog 85 #[.agg #[.int .i64 base1,.int .i64 leader1,.bool app1,.bool txn1,.bool ctl1,.int .i64 last1,.int .i64 first1,.int .i64 maxt1,.int .i64 prod1,.int .i64 epoch1,.int .i64 seq1,.slice q1 l1.length cap1],.agg #[.int .i64 base1,.int .i64 leader1,.bool app1,.bool txn1,.bool ctl1,.int .i64 last1,.int .i64 first1,.int .i64 maxt1,.int .i64 prod1,.int .i64 epoch1,.int .i64 seq1,.slice q2 l2.length cap2]] w fun en w'=>en=.returned (.bool r)∧St W0 w' K L:=by
 obtain⟨hb,hhb⟩:∃b,w.heap.size=b:=⟨_,rfl⟩;have h1:=(h.allocRaw #[.int .i64 base1,.int .i64 leader1,.bool app1,.bool txn1,.bool ctl1,.int .i64 last1,.int .i64 first1,.int .i64 maxt1,.int .i64 prod1,.int .i64 epoch1,.int .i64 seq1,.slice q1 l1.length cap1] 58).allocRaw #[.int .i64 base1,.int .i64 leader1,.bool app1,.bool txn1,.bool ctl1,.int .i64 last1,.int .i64 first1,.int .i64 maxt1,.int .i64 prod1,.int .i64 epoch1,.int .i64 seq1,.slice q2 l2.length cap2] 58;rw[World.size_alloc,hhb]at h1;obtain⟨hc,hhc⟩:∃b,hb+1=b:=⟨_,rfl⟩;rw[hhc]at h1;obtain⟨b0,b1,b2,b3,b4,b5,b6,b7,b8,b9,b10,b11,fb0,fb1,fb2,fb3,fb4,fb5,fb6,fb7,fb8,fb9,fb10,fb11⟩:=zAe (b:=hc) h1;obtain⟨a0,a1,a2,a3,a4,a5,a6,a7,a8,a9,a10,a11,fa0,fa1,fa2,fa3,fa4,fa5,fa6,fa7,fa8,fa9,fa10,fa11⟩:=zAe (b:=hb) h1.p1;have H:=hQd h1;have HK1:=hQd hk1;have HK2:=hQd hk2;have hni:(l1.length:Int)≤1000000:=by omega
 have HF1:=hQd hf1;have HF2:=hQd hf2;clear h h1 hk1 hk2 hf1 hf2;have HLEN:=hQd hlen;have HR:=hQd hr;have g1:((l1.length:Int)==(l2.length:Int))=true:=by rw[hlen];exact beq_self_eq_true _
 have g2:((l1.length:Int) !=(l2.length:Int))=false:=by simp[bne,g1]
 have g3:(l2.length:Int)=(l1.length:Int):=by omega
 clear hr hlen;go_enter Tryz.func85,Tryz.ntmps85;go_wp2;clear g1 g2 g3;go_loopw [5] (fun iv wr=>∃k:Nat,k≤l1.length∧iv=.int .i64 k∧Hid ((l1.map (·.1)).take k=(l2.map (·.1)).take k)∧St W0 wr K (.raw hc #[.int .i64 base1,.int .i64 leader1,.bool app1,.bool txn1,.bool ctl1,.int .i64 last1,.int .i64 first1,.int .i64 maxt1,.int .i64 prod1,.int .i64 epoch1,.int .i64 seq1,.slice q2 l2.length cap2] 58::.raw hb #[.int .i64 base1,.int .i64 leader1,.bool app1,.bool txn1,.bool ctl1,.int .i64 last1,.int .i64 first1,.int .i64 maxt1,.int .i64 prod1,.int .i64 epoch1,.int .i64 seq1,.slice q1 l1.length cap1] 58::L)) (fun iv _=>l1.length - (intOf iv).toNat)
 case atStart=>exact⟨0,Nat.zero_le _,rfl,hQd (by simp),H.out⟩
 case round=>
  obtain⟨k,hkl,rfl,heq,hst⟩:=hrel;clear H a0 a1 a2 a3 a4 a5 a6 a7 a8 a9 a10 a11 fa0 fa1 fa2 fa3 fa4 fa5 fa6 fa7 fa8 fa9 fa10 fa11 b0 b1 b2 b3 b4 b5 b6 b7 b8 b9 b10 b11 fb0 fb1 fb2 fb3 fb4 fb5 fb6 fb7 fb8 fb9 fb10 fb11;have H:=hQd hst;clear hst;obtain⟨b0,b1,b2,b3,b4,b5,b6,b7,b8,b9,b10,b11,fb0,fb1,fb2,fb3,fb4,fb5,fb6,fb7,fb8,fb9,fb10,fb11⟩:=zAe (b:=hc) H.out;obtain⟨a0,a1,a2,a3,a4,a5,a6,a7,a8,a9,a10,a11,fa0,fa1,fa2,fa3,fa4,fa5,fa6,fa7,fa8,fa9,fa10,fa11⟩:=zAe (b:=hb) H.out.p1
  by_cases hlt:k<l1.length
  ·have hlt2:k<l2.length:=by have:=HLEN.out;omega
   obtain⟨b1',off1,hqq1⟩:=zCB HK1.out H.out oM;subst hqq1;obtain⟨⟨x1,v1⟩,hx1⟩:∃x,l1[k]=x:=⟨_,rfl⟩;have cc1:=zA2 HK1.out H.out k oM (x1,v1) hx1;have hmem1:(x1,v1)∈l1:=hx1 ▸ List.getElem_mem _;have XF1:=hQd (show x1.hdrs.length≤9223372036854775807 from HF1.out (x1,v1) hmem1);have XK1:=hQd (show K.has (Know.flat RHdr v1 3 x1.hdrs)from zBn HK1.out hmem1);simp only at cc1;obtain⟨c10,c11,c12,c13,c14,c15,c16⟩:=cc1;rw[←Nat.add_assoc]at c11 c12 c13 c14 c15 c16;have HX1:=hQd (show l1[k].1=x1 by rw[hx1]);have HXX1:=hQd hx1;clear hmem1 hx1;obtain⟨b2',off2,hqq2⟩:=zCB HK2.out H.out oM;subst hqq2;obtain⟨⟨x2,v2⟩,hx2⟩:∃x,l2[k]=x:=⟨_,rfl⟩;have cc2:=zA2 HK2.out H.out k oM (x2,v2) hx2;have hmem2:(x2,v2)∈l2:=hx2 ▸ List.getElem_mem _;have XF2:=hQd (show x2.hdrs.length≤9223372036854775807 from HF2.out (x2,v2) hmem2);have XK2:=hQd (show K.has (Know.flat RHdr v2 3 x2.hdrs)from zBn HK2.out hmem2);simp only at cc2;obtain⟨c20,c21,c22,c23,c24,c25,c26⟩:=cc2;rw[←Nat.add_assoc]at c21 c22 c23 c24 c25 c26;have HX2:=hQd (show l2[k].1=x2 by rw[hx2]);have HXX2:=hQd hx2;clear hmem2 hx2;have hki:(k:Int)<(l1.length:Int):=by omega
   have hki2:(k:Int)<(l2.length:Int):=by omega
   have hk0:(0:Int)≤(k:Int):=Int.natCast_nonneg _;have NX:=hQd (show x1≠x2→l1.map (·.1)≠l2.map (·.1)from zIU l1 l2 k hlt hlt2 x1 x2 HX1.out HX2.out);have NT:=hQd (show x1=x2→(l1.map (·.1)).take (k+1)=(l2.map (·.1)).take (k+1)from fun e=>by rw[zEu l1 k hlt x1 HX1.out,zEu l2 k hlt2 x2 HX2.out,heq.out,e])
   have hkeep:∀w',St W0 w' K (.raw hc #[.int .i64 base1,.int .i64 leader1,.bool app1,.bool txn1,.bool ctl1,.int .i64 last1,.int .i64 first1,.int .i64 maxt1,.int .i64 prod1,.int .i64 epoch1,.int .i64 seq1,.slice (some ⟨b2',off2,none⟩) l2.length cap2] 58::.raw hb #[.int .i64 base1,.int .i64 leader1,.bool app1,.bool txn1,.bool ctl1,.int .i64 last1,.int .i64 first1,.int .i64 maxt1,.int .i64 prod1,.int .i64 epoch1,.int .i64 seq1,.slice (some ⟨b1',off1,none⟩) l1.length cap1] 58::L)→((w'.cell? ⟨hb,11,none⟩=some (.slice (some ⟨b1',off1,none⟩) l1.length cap1))∧(w'.cell? ⟨hc,11,none⟩=some (.slice (some ⟨b2',off2,none⟩) l2.length cap2))∧(w'.cell? ⟨b1',off1+k*7,none⟩=some (.int .i64 x1.time)∧w'.cell? ⟨b1',off1+k*7+1,none⟩=some (.int .i64 x1.off)∧w'.cell? ⟨b1',off1+k*7+2,none⟩=some (.bool x1.key.null)∧w'.cell? ⟨b1',off1+k*7+3,none⟩=some (.string (bb x1.key.data))∧w'.cell? ⟨b1',off1+k*7+4,none⟩=some (.bool x1.val.null)∧w'.cell? ⟨b1',off1+k*7+5,none⟩=some (.string (bb x1.val.data))∧w'.cell? ⟨b1',off1+k*7+6,none⟩=some (v1))∧(w'.cell? ⟨b2',off2+k*7,none⟩=some (.int .i64 x2.time)∧w'.cell? ⟨b2',off2+k*7+1,none⟩=some (.int .i64 x2.off)∧w'.cell? ⟨b2',off2+k*7+2,none⟩=some (.bool x2.key.null)∧w'.cell? ⟨b2',off2+k*7+3,none⟩=some (.string (bb x2.key.data))∧w'.cell? ⟨b2',off2+k*7+4,none⟩=some (.bool x2.val.null)∧w'.cell? ⟨b2',off2+k*7+5,none⟩=some (.string (bb x2.val.data))∧w'.cell? ⟨b2',off2+k*7+6,none⟩=some (v2))):=fun w' hs=>by
    have r1:=zA2 HK1.out hs k hlt (x1,v1) HXX1.out;have r2:=zA2 HK2.out hs k hlt2 (x2,v2) HXX2.out;simp only[←Nat.add_assoc]at r1 r2;exact⟨hs.p1.rawCell 11,hs.rawCell 11,r1,r2⟩
   have HKP:=hQd hkeep;clear hkeep HX1 HX2 HXX1 HXX2;clear hlt2
   by_cases hxy:x1=x2
   ·as_aux_lemma=>
    have E1:=hQd (decide_eq_true hxy);have NT2:=hQd (NT.out hxy);clear hxy NX NT;go_upto_region 6 with (fail);have hs:=H.out.drew;refine wp_region_held_drew (S:=fun w'=>(w'.cell? ⟨hb,11,none⟩=some (.slice (some ⟨b1',off1,none⟩) l1.length cap1))∧(w'.cell? ⟨hc,11,none⟩=some (.slice (some ⟨b2',off2,none⟩) l2.length cap2))∧(w'.cell? ⟨b1',off1+k*7,none⟩=some (.int .i64 x1.time)∧w'.cell? ⟨b1',off1+k*7+1,none⟩=some (.int .i64 x1.off)∧w'.cell? ⟨b1',off1+k*7+2,none⟩=some (.bool x1.key.null)∧w'.cell? ⟨b1',off1+k*7+3,none⟩=some (.string (bb x1.key.data))∧w'.cell? ⟨b1',off1+k*7+4,none⟩=some (.bool x1.val.null)∧w'.cell? ⟨b1',off1+k*7+5,none⟩=some (.string (bb x1.val.data))∧w'.cell? ⟨b1',off1+k*7+6,none⟩=some (v1))∧(w'.cell? ⟨b2',off2+k*7,none⟩=some (.int .i64 x2.time)∧w'.cell? ⟨b2',off2+k*7+1,none⟩=some (.int .i64 x2.off)∧w'.cell? ⟨b2',off2+k*7+2,none⟩=some (.bool x2.key.null)∧w'.cell? ⟨b2',off2+k*7+3,none⟩=some (.string (bb x2.key.data))∧w'.cell? ⟨b2',off2+k*7+4,none⟩=some (.bool x2.val.null)∧w'.cell? ⟨b2',off2+k*7+5,none⟩=some (.string (bb x2.val.data))∧w'.cell? ⟨b2',off2+k*7+6,none⟩=some (v2))) (by kernel_rfl) (HKP.out _ hs) (fun _=> ?_);refine tR 0 ?_;refine tR 1 ?_;refine tR 2 ?_;refine tR 3 ?_;refine tR 4 ?_;refine tR 5 ?_;refine tR 6 ?_;refine tR 7 ?_;refine tR 8 ?_;refine tR 9 ?_;refine wR [10] (rC rfl (fun KK hK=> ?_) rN);go_simp;go_at_call 116;with_reducible refine(zGv x1 x2 v1 v2 true E1.out XF1.out XF2.out XK1.out XK2.out hs).mono ?_;rintro e wq ⟨rfl,hs⟩;refine zK hK (HKP.out _ hs) (fun _=> ?_);clear hK KK
    refine tR 11 ?_;refine wpAnyH_done (by kernel_rfl) ?_ _;go_wp2_with fail;go_roundw
    case rel=>exact⟨k+1,hlt,by go_num,NT2,hs⟩
    case measure=>first|(simp[intOf];done)|(simp[intOf];omega)
   ·as_aux_lemma=>
    have E1:=hQd (decide_eq_false hxy);have HRF:=hQd (show r=false from zB8 (zK7 _ _ _ _ _ _ _ _ _ _ _ _ _ _ _ _ _ _ _ _ _ _ _ _ (NX.out hxy)) HR.out);clear hxy NX NT;go_upto_region 6 with (fail);have hs:=H.out.drew;refine wp_region_held_drew (S:=fun w'=>(w'.cell? ⟨hb,11,none⟩=some (.slice (some ⟨b1',off1,none⟩) l1.length cap1))∧(w'.cell? ⟨hc,11,none⟩=some (.slice (some ⟨b2',off2,none⟩) l2.length cap2))∧(w'.cell? ⟨b1',off1+k*7,none⟩=some (.int .i64 x1.time)∧w'.cell? ⟨b1',off1+k*7+1,none⟩=some (.int .i64 x1.off)∧w'.cell? ⟨b1',off1+k*7+2,none⟩=some (.bool x1.key.null)∧w'.cell? ⟨b1',off1+k*7+3,none⟩=some (.string (bb x1.key.data))∧w'.cell? ⟨b1',off1+k*7+4,none⟩=some (.bool x1.val.null)∧w'.cell? ⟨b1',off1+k*7+5,none⟩=some (.string (bb x1.val.data))∧w'.cell? ⟨b1',off1+k*7+6,none⟩=some (v1))∧(w'.cell? ⟨b2',off2+k*7,none⟩=some (.int .i64 x2.time)∧w'.cell? ⟨b2',off2+k*7+1,none⟩=some (.int .i64 x2.off)∧w'.cell? ⟨b2',off2+k*7+2,none⟩=some (.bool x2.key.null)∧w'.cell? ⟨b2',off2+k*7+3,none⟩=some (.string (bb x2.key.data))∧w'.cell? ⟨b2',off2+k*7+4,none⟩=some (.bool x2.val.null)∧w'.cell? ⟨b2',off2+k*7+5,none⟩=some (.string (bb x2.val.data))∧w'.cell? ⟨b2',off2+k*7+6,none⟩=some (v2))) (by kernel_rfl) (HKP.out _ hs) (fun _=> ?_);refine tR 0 ?_;refine tR 1 ?_;refine tR 2 ?_;refine tR 3 ?_;refine tR 4 ?_;refine tR 5 ?_;refine tR 6 ?_;refine tR 7 ?_;refine tR 8 ?_;refine tR 9 ?_;refine wR [10] (rC rfl (fun KK hK=> ?_) rN);go_simp;go_at_call 116;with_reducible refine(zGv x1 x2 v1 v2 false E1.out XF1.out XF2.out XK1.out XK2.out hs).mono ?_;rintro e wq ⟨rfl,hs⟩;refine zK hK (HKP.out _ hs) (fun _=> ?_);clear hK KK
    refine tR 11 ?_;refine wpAnyH_done (by kernel_rfl) ?_ _;go_wp2_with fail;go_ret;exact⟨zAB HRF.out.symm,hs.drop.drop⟩
  ·obtain rfl:k=l1.length:=by omega
   have hall:l1.map (·.1)=l2.map (·.1):=by
    exact zq37
   have HRT:=hQd (show r=true by rw[←HR.out,hall];exact decide_eq_true rfl);clear hall;go_wp2;go_ret;exact⟨zAB HRT.out.symm,H.out.drop.drop⟩
theorem zOF(base1 base2:Int)(leader1 leader2:Int)(app1 app2:Bool)(txn1 txn2:Bool)(ctl1 ctl2:Bool)(last1 last2:Int)(first1 first2:Int)(maxt1 maxt2:Int)(prod1 prod2:Int)(epoch1 epoch2:Int)(seq1 seq2:Int)(l1 l2:List (RecS×Value))(q1 q2:Option Addr)(cap1 cap2:Nat)(hne:base1≠base2){W0 w:World}{K:Know}{L:List Res}(h:St W0 w K L):
 Calls Tryz.prog 85 #[.agg #[.int .i64 base1,.int .i64 leader1,.bool app1,.bool txn1,.bool ctl1,.int .i64 last1,.int .i64 first1,.int .i64 maxt1,.int .i64 prod1,.int .i64 epoch1,.int .i64 seq1,.slice q1 l1.length cap1],.agg #[.int .i64 base2,.int .i64 leader2,.bool app2,.bool txn2,.bool ctl2,.int .i64 last2,.int .i64 first2,.int .i64 maxt2,.int .i64 prod2,.int .i64 epoch2,.int .i64 seq2,.slice q2 l2.length cap2]] w fun en w'=>en=.returned (.bool false)∧St W0 w' K L:=by
 obtain⟨hb,hhb⟩:∃b,w.heap.size=b:=⟨_,rfl⟩;have h1:=(h.allocRaw #[.int .i64 base1,.int .i64 leader1,.bool app1,.bool txn1,.bool ctl1,.int .i64 last1,.int .i64 first1,.int .i64 maxt1,.int .i64 prod1,.int .i64 epoch1,.int .i64 seq1,.slice q1 l1.length cap1] 58).allocRaw #[.int .i64 base2,.int .i64 leader2,.bool app2,.bool txn2,.bool ctl2,.int .i64 last2,.int .i64 first2,.int .i64 maxt2,.int .i64 prod2,.int .i64 epoch2,.int .i64 seq2,.slice q2 l2.length cap2] 58;rw[World.size_alloc,hhb]at h1;obtain⟨hc,hhc⟩:∃b,hb+1=b:=⟨_,rfl⟩;rw[hhc]at h1;obtain⟨b0,b1,b2,b3,b4,b5,b6,b7,b8,b9,b10,b11,fb0,fb1,fb2,fb3,fb4,fb5,fb6,fb7,fb8,fb9,fb10,fb11⟩:=zAe (b:=hc) h1;obtain⟨a0,a1,a2,a3,a4,a5,a6,a7,a8,a9,a10,a11,fa0,fa1,fa2,fa3,fa4,fa5,fa6,fa7,fa8,fa9,fa10,fa11⟩:=zAe (b:=hb) h1.p1;have H:=hQd h1;have g1:(base1==base2)=false:=by simpa using hne
 have g2:(base1 !=base2)=true:=by simp[bne,g1]
 clear h h1 hne fa0 fb0 fa1 fb1 fa2 fb2 fa3 fb3 fa4 fb4 fa5 fb5 fa6 fb6 fa7 fb7 fa8 fb8 fa9 fb9 fa10 fb10 fa11 fb11;go_enter Tryz.func85,Tryz.ntmps85;go_wp2;go_ret;exact⟨rfl,H.out.drop.drop⟩
end Go.Proofs.YtnnnglklgofabaaGreat
