/- A text. -/
import Derived.Test.YtnnnglklgofabaaGreatGProduceReads10
import Derived.Deep.RegionHeld3
import Derived.Deep.DeepCutAuto
import Derived.Test.YtnnnglklgofabaaGreatGProduceReads2
import Derived.Test.YtnnnglklgofabaaGreatGProduceReads3
import Derived.Test.YtnnnglklgofabaaGreatGProduceReads12
import Derived.Test.YtnnnglklgofabaaGreatGProduceReads8
import Derived.Test.YtnnnglklgofabaaGreatGProduceReads9
import Derived.RegionTactic
import Derived.WalkMore
/- A text. -/
namespace Go.Proofs.YtnnnglklgofabaaGreat
open Go.RowKit
set_option maxHeartbeats 2000000
set_option maxRecDepth 100000
theorem zq20{p:Prop}(h:p:=by
  obtain rfl:k=ps.length:=by omega
  have HOK:=hQd (show tRef (l.map (·.1)) i=true from HGOOD.out (by
    unfold tOk;rw[zIQ ps HPNE.out,zEQ HQ.out,HIE.out,decide_eq_true HLN.out]
    rfl))
  go_wp2;go_roundw
  case rel=>exact⟨i+1,hlt,by go_num,hQd (fun j hj=>by
    by_cases hji:j=i
    · rw[hji];exact HOK.out
    · exact HP.out j oM),H.out⟩
  case measure=>first|(simp[intOf];done)|(simp[intOf];omega)):p:=h
theorem zq21{p:Prop}(h:p:=by
  have b4:¬0<k:=by omega
  have b4d:decide (0<k)=false:=decide_eq_false b4;have HN:=hQd (show pk ps k=true by rw[HPK.out,decide_eq_true ⟨oM,oM⟩,b3];rfl);clear d1 b3 hj;go_wp2;go_roundw
  case rel=>exact⟨k+1,hlk,by go_num,hQd (fun i hi=>by
    by_cases hik:i=k
    · rw[hik];exact HN.out
    · exact HQ.out i oM),H.out⟩
  case measure=>first|(simp[intOf];done)|(simp[intOf];omega)):p:=h
theorem zq25{p:Prop}(h:p:=by have hr2:r=false:=HF2.out (by rw[HPK.out,decide_eq_false oM,Bool.false_and]);subst hr2;go_wp2;go_ret;exact⟨rfl,H.out⟩):p:=h
theorem zq48{p:Prop}(h:p:=by have hr2:r=false:=HF2.out (by rw[HPK.out,hk1,decide_eq_false (show ¬y<x by omega)];simp);subst hr2;clear hk1 hj;go_wp2;go_ret;exact⟨rfl,H.out⟩):p:=h
theorem zNr(l:List (TopS×Value))(q:Option Addr)(cap:Nat)(r:Bool)(hr:zEV (l.map (·.1))=r)(hf:FewT l){W0 w:World}{K:Know}{L:List Res}(hk:K.has (Know.tops (.slice q l.length cap) l))(h:St W0 w K L):
  Calls Tryz.prog 70 #[.slice q l.length cap] w fun en w'=>en=.returned (.bool r)∧St W0 w' K L:=by
 have H:=hQd h;have HK:=hQd hk;have HR:=hQd (show allN l.length (tRef (l.map (·.1)))=r by rw[←hr,zNh,List.length_map]);have HF:=hQd hf;have hni:(l.length:Int)≤1000000:=by have:=hf.1;omega
 clear h hk hr hf;go_enter Tryz.func70,Tryz.ntmps70;go_wp2;go_loopw [3,4,5] (fun iv _ _ wr=>∃i:Nat,i≤l.length∧iv=.int .i64 i∧Hid (∀j,j<i→tRef (l.map (·.1)) j=true)∧St W0 wr K L) (fun iv _ _ _=>l.length - (intOf iv).toNat)
 case atStart=>exact⟨0,Nat.zero_le _,rfl,hQd (fun j hj=>by omega),H.out⟩
 case round=>
  obtain⟨i,hil,rfl,HP,hst⟩:=hrel;clear H;have H:=hQd hst;clear hst
  by_cases hlt:i<l.length
  · obtain⟨b,off,hqq⟩:=zQ6 HK.out H.out oM;subst hqq;obtain⟨⟨⟨nm,ps⟩,vx⟩,hx⟩:∃x,l[i]=x:=⟨_,rfl⟩;have hmem:((⟨nm,ps⟩:TopS),vx)∈l:=hx ▸ List.getElem_mem hlt;have hxk:K.has (Know.flat RI vx 1 ps):=zNe HK.out hmem;obtain⟨qx,capx,hvx⟩:=zAq hxk H.out;subst hvx;have HCL:=hQd (show ∀w',St W0 w' K L→w'.cell? ⟨b,off+i*2,none⟩=some (.string (bb nm))∧w'.cell? ⟨b,off+i*2+1,none⟩=some (.slice qx ps.length capx)from fun w' hs=>zJp HK.out hs i hlt _ hx);obtain⟨c0,c1⟩:=HCL.out _ H.out;have hfx:nm.length≤140737488355328∧ps.length≤1000000:=HF.out.2 _ hmem;have HNML:=hQd hfx.1;have HPN:=hQd hfx.2;have hkn:(i:Int)<(l.length:Int):=by omega
    have hi0:(0:Int)≤(i:Int):=by omega
    have hnl:(nm.length:Int)≤140737488355328:=by omega
    have hgl:(l.map (·.1)).getD i ⟨[],[]⟩=⟨nm,ps⟩:=by rw[List.getD_eq_getElem?_getD,List.getElem?_eq_getElem (by rw[List.length_map];exact hlt),List.getElem_map,hx];rfl
    have hbad:tRef (l.map (·.1)) i=false→r=false:=fun h=>by rw[←HR.out];exact zDU i hlt h
    have HBAD:=hQd (show tOk ⟨nm,ps⟩=false→r=false from fun h=>hbad (by unfold tRef;rw[hgl,h,Bool.false_and]));have HXK0:=hQd hxk;have hgln:((l.map (·.1)).map (·.name)).getD i []=nm:=by rw[List.map_map,List.getD_eq_getElem?_getD,List.getElem?_eq_getElem (by rw[List.length_map];exact hlt),List.getElem_map];show(l[i]).1.name=nm;rw[hx]
    by_cases hn1:nm.length<1
    · as_aux_lemma=>
      obtain rfl:nm=[]:=List.length_eq_zero_iff.1 oM;have hr2:r=false:=HBAD.out rfl;subst hr2;clear hx hmem hxk hfx hgl hbad hgln;go_wp2;go_ret;exact⟨rfl,H.out⟩
    · have hn2:¬(nm.length:Int)<1:=by omega
      have HIE:=hQd (show nm.isEmpty=false by cases nm with
        |nil=>exact absurd dD hn1
        |cons _ _=>rfl)
      by_cases hln:nm.length≤32767
      · have HLN:=hQd hln;have hl2:(nm.length:Int)≤32767:=by omega
        have hl3:decide ((32767:Int)<(nm.length:Int))=false:=decide_eq_false oM
        by_cases hp0:ps=[]
        · as_aux_lemma=>
          subst hp0;have hr2:r=false:=HBAD.out (by unfold tOk;rw[zOY,Bool.and_false]);subst hr2;clear hx hmem hxk hfx hgl hbad hgln;go_wp2;go_ret;exact⟨rfl,H.out⟩
        · have hpl:0<ps.length:=List.length_pos_iff.2 hp0;have HPNE:=hQd hp0;obtain⟨pb,poff,hpq⟩:=zRI HXK0.out H.out hpl;subst hpq;have HXK:=hQd HXK0.out;have hpl1:¬(ps.length:Int)<1:=by omega
          obtain⟨j0,hj0⟩:∃j,i - 1=j:=⟨_,rfl⟩
          by_cases hz:i=0
          · as_aux_lemma=>
            have hiz:¬0<i:=by omega
            have hiz2:decide (0<i)=false:=decide_eq_false hiz;have HGOOD:=hQd (show tOk ⟨nm,ps⟩=true→tRef (l.map (·.1)) i=true from fun h=>by unfold tRef upS;rw[hgl,h,hz];rfl);clear hx hmem hxk hfx hgl hbad hgln hp0 hz hj0;go_wp2;have hs:=H.out.drew;refine wp_region_held_drew (S:=fun w'=>w'.cell? ⟨b,off+i*2,none⟩=some (.string (bb nm))) (by kernel_rfl) ((HCL.out _ hs).1) (fun _=> ?_);refine tQ 0 ⟨some 37,.move (.tmp 3),3,_,_,none⟩ ?_;simp only[Act.put,sA,sB,sC];refine tQ 1 ⟨some 38,.binOp .gtr 3 (.tmp 37) (.const (Value.int IntKind.i64 0)) 3,4,_,_,none⟩ ?_;simp only[Act.put,sA,sB,sC];refine tQ 2 ⟨some 39,.move (.tmp 38),4,_,_,none⟩ ?_;simp only[Act.put,sA,sB,sC];refine wpAnyH_take (i:=3) (oi:=⟨some 40,.move (.tmp 0),110,_,_,some (2,true)⟩) (v:=undef) rfl (by kernel_rfl) (by kernel_rfl) (by kernel_rfl) (fun _ _ _ h=>h) (Or.inr ⟨by rfl,rfl⟩) (by assumption) ?_;simp only[Act.put,sA,sB,sC];refine wpAnyH_take (i:=4) (oi:=⟨some 41,.move (.tmp 3),3,_,_,some (2,true)⟩) (v:=undef) rfl (by kernel_rfl) (by kernel_rfl) (by kernel_rfl) (fun _ _ _ h=>h) (Or.inr ⟨by rfl,rfl⟩) (by assumption) ?_;simp only[Act.put,sA,sB,sC];refine wpAnyH_take (i:=5) (oi:=⟨some 42,.binOp .sub 3 (.tmp 41) (.const (Value.int IntKind.i64 1)) 3,3,_,_,some (2,true)⟩) (v:=undef) rfl (by kernel_rfl) (by kernel_rfl) (by kernel_rfl) (fun _ _ _ h=>h) (Or.inr ⟨by rfl,rfl⟩) (by assumption) ?_;simp only[Act.put,sA,sB,sC];refine wpAnyH_take (i:=6) (oi:=⟨some 43,.indexAddr 110 (.tmp 40) (.tmp 42),0,_,_,some (2,true)⟩) (v:=undef) rfl (by kernel_rfl) (by kernel_rfl) (by kernel_rfl) (fun _ _ _ h=>h) (Or.inr ⟨by rfl,rfl⟩) (by assumption) ?_;simp only[Act.put,sA,sB,sC];refine wpAnyH_take (i:=7) (oi:=⟨some 44,.fieldAddr 129 (.tmp 43) 0,0,_,_,some (2,true)⟩) (v:=undef) rfl (by kernel_rfl) (by kernel_rfl) (by kernel_rfl) (fun _ _ _ h=>h) (Or.inr ⟨by rfl,rfl⟩) (by assumption) ?_;simp only[Act.put,sA,sB,sC];refine wpAnyH_take (i:=8) (oi:=⟨some 45,.load 9 (.tmp 44),9,_,_,some (2,true)⟩) (v:=undef) rfl (by kernel_rfl) (by kernel_rfl) (by kernel_rfl) (fun _ _ _ h=>h) (Or.inr ⟨by rfl,rfl⟩) (by assumption) ?_;simp only[Act.put,sA,sB,sC];refine wpAnyH_take (i:=9) (oi:=⟨some 46,.move (.tmp 0),110,_,_,some (2,true)⟩) (v:=undef) rfl (by kernel_rfl) (by kernel_rfl) (by kernel_rfl) (fun _ _ _ h=>h) (Or.inr ⟨by rfl,rfl⟩) (by assumption) ?_;simp only[Act.put,sA,sB,sC];refine wpAnyH_take (i:=10) (oi:=⟨some 47,.move (.tmp 3),3,_,_,some (2,true)⟩) (v:=undef) rfl (by kernel_rfl) (by kernel_rfl) (by kernel_rfl) (fun _ _ _ h=>h) (Or.inr ⟨by rfl,rfl⟩) (by assumption) ?_;simp only[Act.put,sA,sB,sC];refine wpAnyH_take (i:=11) (oi:=⟨some 48,.indexAddr 110 (.tmp 46) (.tmp 47),0,_,_,some (2,true)⟩) (v:=undef) rfl (by kernel_rfl) (by kernel_rfl) (by kernel_rfl) (fun _ _ _ h=>h) (Or.inr ⟨by rfl,rfl⟩) (by assumption) ?_;simp only[Act.put,sA,sB,sC];refine wpAnyH_take (i:=12) (oi:=⟨some 49,.fieldAddr 129 (.tmp 48) 0,0,_,_,some (2,true)⟩) (v:=undef) rfl (by kernel_rfl) (by kernel_rfl) (by kernel_rfl) (fun _ _ _ h=>h) (Or.inr ⟨by rfl,rfl⟩) (by assumption) ?_;simp only[Act.put,sA,sB,sC];refine wpAnyH_take (i:=13) (oi:=⟨some 50,.load 9 (.tmp 49),9,_,_,some (2,true)⟩) (v:=undef) rfl (by kernel_rfl) (by kernel_rfl) (by kernel_rfl) (fun _ _ _ h=>h) (Or.inr ⟨by rfl,rfl⟩) (by assumption) ?_;simp only[Act.put,sA,sB,sC];refine wpAnyH_take (i:=14) (oi:=⟨some 51,.call {callee:=.value (.func 99),args:= #[.tmp 45,.tmp 50],argTypes:= #[9,9]},4,_,_,some (2,true)⟩) (v:=undef) rfl (by kernel_rfl) (by kernel_rfl) (by kernel_rfl) (fun _ _ _ h=>h) (Or.inr ⟨by rfl,rfl⟩) (by assumption) ?_;simp only[Act.put,sA,sB,sC];refine wpAnyH_take (i:=15) (oi:=⟨some 52,.unOp UnOp.not 4 (.tmp 51),4,_,_,some (2,true)⟩) (v:=undef) rfl (by kernel_rfl) (by kernel_rfl) (by kernel_rfl) (fun _ _ _ h=>h) (Or.inr ⟨by rfl,rfl⟩) (by assumption) ?_;simp only[Act.put,sA,sB,sC];refine tQ 16 ⟨some 53,.pick (.tmp 39) (.tmp 52) (.const (Value.bool false)),4,_,_,none⟩ ?_;simp only[Act.put,sA,sB,sC];refine wpAnyH_done (by kernel_rfl) ?_ _;go_wp2_with fail;clear H;have H:=hQd hs;clear hs;go_loopw [4,5] (fun kv _ wr=>∃k:Nat,k≤ps.length∧kv=.int .i64 k∧Hid (∀j,j<k→pk ps j=true)∧St W0 wr K L) (fun kv _ _=>ps.length - (intOf kv).toNat)
            case atStart=>exact⟨0,Nat.zero_le _,rfl,hQd (fun j hj=>by omega),H.out⟩
            case round=>
             obtain⟨k,hkl,rfl,HQ,hst⟩:=hrel;clear H;have H:=hQd hst;clear hst;obtain⟨c0,c1⟩:_∧_:=HCL.out _ H.out
             by_cases hlk:k<ps.length
             · obtain⟨j,hj⟩:∃j,k - 1=j:=⟨_,rfl⟩;have d0:=zFZ HXK.out H.out k hlk;have d1:=zFZ HXK.out H.out j oM;obtain⟨x,hx⟩:∃x,ps.getD k 0=x:=⟨_,rfl⟩;obtain⟨y,hy⟩:∃y,ps.getD j 0=y:=⟨_,rfl⟩
               have hpk:pk ps k=(decide (0≤x∧x≤2147483647) && (k==0||decide (y<x))):=by
                 unfold pk upI;rw[hj,hx,hy]
               rw[hx]at d0;rw[hy]at d1;have hkp:(k:Int)<(ps.length:Int):=by omega
               have hk0:(0:Int)≤(k:Int):=by omega
               have HPK:=hQd hpk
               have hfalse:pk ps k=false→r=false:=fun h=>HBAD.out (by
                 unfold tOk
                 rw[zIQ ps HPNE.out,zDU k hlk h,Bool.and_false])
               have HF2:=hQd hfalse;clear hx hy hpk hfalse;have hpl2:(ps.length:Int)≤1000000:=by have:=HPN.out;omega
               by_cases b1:x<0
               · exact zq25
               · by_cases b2:2147483647<x
                 · exact zq25
                 · by_cases b3:k=0
                   · exact zq21
                   · have b4:0<k:=by omega
                     have b4d:decide (0<k)=true:=decide_eq_true b4;have e1:wrap64 ((k:Int) - 1)=(j:Int):=by unfold wrap64;omega
                     have e2:IntKind.i64.wrap ((k:Int) - 1)=(j:Int):=by rw[show(k:Int) - 1=(j:Int) by omega];exact IntWalk.i64_in _ oM
                     have hjl:(j:Int)<(ps.length:Int):=by omega
                     have hk1:(k==0)=false:=by rw[beq_eq_false_iff_ne];exact b3
                     by_cases b5:x≤y
                     · exact zq48
                     · have HN:=hQd (show pk ps k=true by rw[HPK.out,hk1,decide_eq_true (show y<x by omega),decide_eq_true ⟨oM,oM⟩];rfl);clear hk1 hj;go_wp2;go_roundw
                       case rel=>exact⟨k+1,hlk,by go_num,hQd (fun i hi=>by
                         by_cases hik:i=k
                         · rw[hik];exact HN.out
                         · exact HQ.out i oM),H.out⟩
                       case measure=>first|(simp[intOf];done)|(simp[intOf];omega)
             · exact zq20
          · obtain⟨pm,hpm⟩:∃pm,((l.map (·.1)).map (·.name)).getD j0 []=pm:=⟨_,rfl⟩;have hjl:j0<l.length:=by omega
            have hjx:l[j0].1.name=pm:=by rw[←hpm,List.map_map,List.getD_eq_getElem?_getD,List.getElem?_eq_getElem (by rw[List.length_map];exact hjl),List.getElem_map];rfl
            have HPML:=hQd (show pm.length≤140737488355328 by rw[←hjx];exact(HF.out.2 _ (List.getElem_mem hjl)).1)
            have HPC:=hQd (show ∀w',St W0 w' K L→w'.cell? ⟨b,off+j0*2,none⟩=some (.string (bb pm))from fun w' hs=>by
             have:=(zJp HK.out hs j0 hjl _ rfl).1;rw[hjx]at this
             exact this)
            have hiz:0<i:=by omega
            have hiz2:decide (0<i)=true:=decide_eq_true hiz;have e1:wrap64 ((i:Int) - 1)=(j0:Int):=by unfold wrap64;omega
            have e2:IntKind.i64.wrap ((i:Int) - 1)=(j0:Int):=by rw[show(i:Int) - 1=(j0:Int) by omega];exact IntWalk.i64_in _ oM
            have hj0l:(j0:Int)<(l.length:Int):=by omega
            have hj00:(0:Int)≤(j0:Int):=by omega
            obtain⟨lb,hlb⟩:∃lb,Op.bytesLess pm nm=lb:=⟨_,rfl⟩;have HLB:=hQd hlb
            have hups:upS ((l.map (·.1)).map (·.name)) i=lb:=by
             unfold upS;have:(i==0)=false:=by rw[beq_eq_false_iff_ne];exact hz
             rw[this,hj0,hpm,hgln,hlb,Bool.false_or]
            have hkeep:∀w',St W0 w' K L→w'.cell? ⟨b,off+i*2,none⟩=some (.string (bb nm))∧w'.cell? ⟨b,off+j0*2,none⟩=some (.string (bb pm)):=fun w' hs=>⟨(HCL.out _ hs).1,HPC.out _ hs⟩
            have HKP:=hQd hkeep
            cases lb with
            |false=>
             as_aux_lemma=>
             have hr2:r=false:=hbad (by unfold tRef;rw[hups,Bool.and_false]);subst hr2;clear hx hmem hxk hfx hgl hbad hgln hp0 hpm hjx hlb hups hkeep hj0;go_wp2;have hs:=H.out.drew;refine wp_region_held_drew (S:=fun w'=>w'.cell? ⟨b,off+i*2,none⟩=some (.string (bb nm))∧w'.cell? ⟨b,off+j0*2,none⟩=some (.string (bb pm))) (by kernel_rfl) (HKP.out _ hs) (fun _=> ?_);refine tQ 0 ⟨some 37,.move (.tmp 3),3,_,_,none⟩ ?_;simp only[Act.put,sA,sB,sC];refine tQ 1 ⟨some 38,.binOp .gtr 3 (.tmp 37) (.const (Value.int IntKind.i64 0)) 3,4,_,_,none⟩ ?_;simp only[Act.put,sA,sB,sC];refine tQ 2 ⟨some 39,.move (.tmp 38),4,_,_,none⟩ ?_;simp only[Act.put,sA,sB,sC];refine tQ 3 ⟨some 40,.move (.tmp 0),110,_,_,some (2,true)⟩ ?_;simp only[Act.put,sA,sB,sC];refine tQ 4 ⟨some 41,.move (.tmp 3),3,_,_,some (2,true)⟩ ?_;simp only[Act.put,sA,sB,sC];refine tQ 5 ⟨some 42,.binOp .sub 3 (.tmp 41) (.const (Value.int IntKind.i64 1)) 3,3,_,_,some (2,true)⟩ ?_;simp only[Act.put,sA,sB,sC];refine tQ 6 ⟨some 43,.indexAddr 110 (.tmp 40) (.tmp 42),0,_,_,some (2,true)⟩ ?_;simp only[Act.put,sA,sB,sC];refine tQ 7 ⟨some 44,.fieldAddr 129 (.tmp 43) 0,0,_,_,some (2,true)⟩ ?_;simp only[Act.put,sA,sB,sC];refine tQ 8 ⟨some 45,.load 9 (.tmp 44),9,_,_,some (2,true)⟩ ?_;simp only[Act.put,sA,sB,sC];refine tQ 9 ⟨some 46,.move (.tmp 0),110,_,_,some (2,true)⟩ ?_;simp only[Act.put,sA,sB,sC];refine tQ 10 ⟨some 47,.move (.tmp 3),3,_,_,some (2,true)⟩ ?_;simp only[Act.put,sA,sB,sC];refine tQ 11 ⟨some 48,.indexAddr 110 (.tmp 46) (.tmp 47),0,_,_,some (2,true)⟩ ?_;simp only[Act.put,sA,sB,sC];refine tQ 12 ⟨some 49,.fieldAddr 129 (.tmp 48) 0,0,_,_,some (2,true)⟩ ?_;simp only[Act.put,sA,sB,sC];refine tQ 13 ⟨some 50,.load 9 (.tmp 49),9,_,_,some (2,true)⟩ ?_;simp only[Act.put,sA,sB,sC];refine wR [14] (rC rfl (fun KK hK=> ?_) rN);go_simp;go_at_call 99;with_reducible refine(zHN pm nm _ HLB.out HPML.out HNML.out hs).mono ?_;rintro e wq ⟨rfl,hs⟩;refine zK hK (HKP.out _ hs) (fun _=> ?_);clear hK KK
             refine tQ 15 ⟨some 52,.unOp UnOp.not 4 (.tmp 51),4,_,_,some (2,true)⟩ ?_;simp only[Act.put,sA,sB,sC];refine tQ 16 ⟨some 53,.pick (.tmp 39) (.tmp 52) (.const (Value.bool false)),4,_,_,none⟩ ?_;simp only[Act.put,sA,sB,sC];refine wpAnyH_done (by kernel_rfl) ?_ _;go_wp2_with fail;go_ret;exact⟨rfl,hs⟩
            |true=>
             as_aux_lemma=>
             have HGOOD:=hQd (show tOk ⟨nm,ps⟩=true→tRef (l.map (·.1)) i=true from fun h=>by unfold tRef;rw[hgl,h,hups];rfl);clear hx hmem hxk hfx hgl hbad hgln hp0 hpm hjx hlb hups hkeep hj0;go_wp2;have hs:=H.out.drew;refine wp_region_held_drew (S:=fun w'=>w'.cell? ⟨b,off+i*2,none⟩=some (.string (bb nm))∧w'.cell? ⟨b,off+j0*2,none⟩=some (.string (bb pm))) (by kernel_rfl) (HKP.out _ hs) (fun _=> ?_);refine tQ 0 ⟨some 37,.move (.tmp 3),3,_,_,none⟩ ?_;simp only[Act.put,sA,sB,sC];refine tQ 1 ⟨some 38,.binOp .gtr 3 (.tmp 37) (.const (Value.int IntKind.i64 0)) 3,4,_,_,none⟩ ?_;simp only[Act.put,sA,sB,sC];refine tQ 2 ⟨some 39,.move (.tmp 38),4,_,_,none⟩ ?_;simp only[Act.put,sA,sB,sC];refine tQ 3 ⟨some 40,.move (.tmp 0),110,_,_,some (2,true)⟩ ?_;simp only[Act.put,sA,sB,sC];refine tQ 4 ⟨some 41,.move (.tmp 3),3,_,_,some (2,true)⟩ ?_;simp only[Act.put,sA,sB,sC];refine tQ 5 ⟨some 42,.binOp .sub 3 (.tmp 41) (.const (Value.int IntKind.i64 1)) 3,3,_,_,some (2,true)⟩ ?_;simp only[Act.put,sA,sB,sC];refine tQ 6 ⟨some 43,.indexAddr 110 (.tmp 40) (.tmp 42),0,_,_,some (2,true)⟩ ?_;simp only[Act.put,sA,sB,sC];refine tQ 7 ⟨some 44,.fieldAddr 129 (.tmp 43) 0,0,_,_,some (2,true)⟩ ?_;simp only[Act.put,sA,sB,sC];refine tQ 8 ⟨some 45,.load 9 (.tmp 44),9,_,_,some (2,true)⟩ ?_;simp only[Act.put,sA,sB,sC];refine tQ 9 ⟨some 46,.move (.tmp 0),110,_,_,some (2,true)⟩ ?_;simp only[Act.put,sA,sB,sC];refine tQ 10 ⟨some 47,.move (.tmp 3),3,_,_,some (2,true)⟩ ?_;simp only[Act.put,sA,sB,sC];refine tQ 11 ⟨some 48,.indexAddr 110 (.tmp 46) (.tmp 47),0,_,_,some (2,true)⟩ ?_;simp only[Act.put,sA,sB,sC];refine tQ 12 ⟨some 49,.fieldAddr 129 (.tmp 48) 0,0,_,_,some (2,true)⟩ ?_;simp only[Act.put,sA,sB,sC];refine tQ 13 ⟨some 50,.load 9 (.tmp 49),9,_,_,some (2,true)⟩ ?_;simp only[Act.put,sA,sB,sC];refine wR [14] (rC rfl (fun KK hK=> ?_) rN);go_simp;go_at_call 99;with_reducible refine(zHN pm nm _ HLB.out HPML.out HNML.out hs).mono ?_;rintro e wq ⟨rfl,hs⟩;refine zK hK (HKP.out _ hs) (fun _=> ?_);clear hK KK
             refine tQ 15 ⟨some 52,.unOp UnOp.not 4 (.tmp 51),4,_,_,some (2,true)⟩ ?_;simp only[Act.put,sA,sB,sC];refine tQ 16 ⟨some 53,.pick (.tmp 39) (.tmp 52) (.const (Value.bool false)),4,_,_,none⟩ ?_;simp only[Act.put,sA,sB,sC];refine wpAnyH_done (by kernel_rfl) ?_ _;go_wp2_with fail;clear H;have H:=hQd hs;clear hs;go_loopw [4,5] (fun kv _ wr=>∃k:Nat,k≤ps.length∧kv=.int .i64 k∧Hid (∀j,j<k→pk ps j=true)∧St W0 wr K L) (fun kv _ _=>ps.length - (intOf kv).toNat)
             case atStart=>exact⟨0,Nat.zero_le _,rfl,hQd (fun j hj=>by omega),H.out⟩
             case round=>
               obtain⟨k,hkl,rfl,HQ,hst⟩:=hrel;clear H;have H:=hQd hst;clear hst;obtain⟨c0,c1⟩:_∧_:=HCL.out _ H.out
               by_cases hlk:k<ps.length
               · obtain⟨j,hj⟩:∃j,k - 1=j:=⟨_,rfl⟩;have d0:=zFZ HXK.out H.out k hlk;have d1:=zFZ HXK.out H.out j oM;obtain⟨x,hx⟩:∃x,ps.getD k 0=x:=⟨_,rfl⟩;obtain⟨y,hy⟩:∃y,ps.getD j 0=y:=⟨_,rfl⟩
                 have hpk:pk ps k=(decide (0≤x∧x≤2147483647) && (k==0||decide (y<x))):=by
                   unfold pk upI;rw[hj,hx,hy]
                 rw[hx]at d0;rw[hy]at d1;have hkp:(k:Int)<(ps.length:Int):=by omega
                 have hk0:(0:Int)≤(k:Int):=by omega
                 have HPK:=hQd hpk
                 have hfalse:pk ps k=false→r=false:=fun h=>HBAD.out (by
                   unfold tOk
                   rw[zIQ ps HPNE.out,zDU k hlk h,Bool.and_false])
                 have HF2:=hQd hfalse;clear hx hy hpk hfalse;have hpl2:(ps.length:Int)≤1000000:=by have:=HPN.out;omega
                 by_cases b1:x<0
                 · exact zq25
                 · by_cases b2:2147483647<x
                   · exact zq25
                   · by_cases b3:k=0
                     · exact zq21
                     · have b4:0<k:=by omega
                       have b4d:decide (0<k)=true:=decide_eq_true b4;have e1:wrap64 ((k:Int) - 1)=(j:Int):=by unfold wrap64;omega
                       have e2:IntKind.i64.wrap ((k:Int) - 1)=(j:Int):=by rw[show(k:Int) - 1=(j:Int) by omega];exact IntWalk.i64_in _ oM
                       have hjl:(j:Int)<(ps.length:Int):=by omega
                       have hk1:(k==0)=false:=by rw[beq_eq_false_iff_ne];exact b3
                       by_cases b5:x≤y
                       · exact zq48
                       · have HN:=hQd (show pk ps k=true by rw[HPK.out,hk1,decide_eq_true (show y<x by omega),decide_eq_true ⟨oM,oM⟩];rfl);clear hk1 hj;go_wp2;go_roundw
                         case rel=>exact⟨k+1,hlk,by go_num,hQd (fun i hi=>by
                          by_cases hik:i=k
                          · rw[hik];exact HN.out
                          · exact HQ.out i oM),H.out⟩
                         case measure=>first|(simp[intOf];done)|(simp[intOf];omega)
               · exact zq20
      · as_aux_lemma=>
        have hl2:(32767:Int)<(nm.length:Int):=by omega
        have hl3:decide ((32767:Int)<(nm.length:Int))=true:=decide_eq_true hl2;have hr2:r=false:=HBAD.out (by unfold tOk;rw[decide_eq_false hln];simp);subst hr2;clear hx hmem hxk hfx hgl hbad hgln;go_wp2;go_ret;exact⟨rfl,H.out⟩
  · obtain rfl:i=l.length:=by omega
    have hr2:r=true:=by rw[←HR.out];exact zEQ HP.out
    subst hr2;go_wp2;go_ret;exact⟨rfl,H.out⟩
def ValS.R (v:ValS):Prop:=(-9223372036854775808≤v.prod∧v.prod<9223372036854775808)∧(-9223372036854775808≤v.epoch∧v.epoch<9223372036854775808)∧(-9223372036854775808≤v.timeout∧v.timeout<9223372036854775808)∧(-9223372036854775808≤v.state∧v.state<9223372036854775808)∧(-9223372036854775808≤v.upd∧v.upd<9223372036854775808)∧(-9223372036854775808≤v.started∧v.started<9223372036854775808)
def ValS.z:ValS:=⟨0,0,0,0,[],0,0⟩
def InS.At (s:Bs) (i:InS):Prop:=i.s=s∧i.pos≤s.length
theorem At.int{s:Bs}{i:InS}(h:i.At s)(k:Int):(i.int k).2.At s:=by
 obtain⟨rfl,h⟩:=h;unfold InS.int
 split
 ·unfold InS.fail;split
  ·exact⟨rfl,h⟩
  ·exact⟨rfl,h⟩
 ·unfold InS.take
  split
  ·exact⟨rfl,h⟩
  ·split
   ·exact⟨rfl,h⟩
   ·split
    ·exact⟨rfl,h⟩
    ·rename_i h1 h2 h3
     refine⟨rfl,?_⟩;simp only[InS.left]at h3
     show i.pos+k.toNat≤i.s.length
     omega
theorem At.fail{s:Bs}{i:InS}(h:i.At s)(e:Int):(i.fail e).At s:=by
 unfold InS.fail
 split
 ·exact⟨h.1,h.2⟩
 ·exact h
structure BkP (x:PartR):Prop where
 idx: -2147483648≤x.idx∧x.idx<2147483648
 len:(encB x.l).length≤2000000
 bats:∀z∈x.l,SmallOk z.b
structure BkT (x:PTop):Prop where
 name:x.name.length≤32767
 len:x.l.length≤1000000
 parts:∀y∈x.l,BkP y
set_option maxHeartbeats 4000000
variable {W0 w:World}{K:Know}{L:List Res}
theorem zQU(l:List (TopS×Value))(q:Option Addr)(cap n:Nat)(hn:n=l.length)(r:Bool)(hr:zEV (l.map (·.1))=r)(hf:FewT l)(hk:K.has (Know.tops (.slice q n cap) l))(h:St W0 w K L):
 Calls Tryz.prog 70 #[.slice q n cap] w fun en w'=>en=.returned (.bool r)∧St W0 w' K L:=by
 subst hn;exact zNr l q cap r hr hf hk h
theorem zOg{K:Know}{v:Value}{l:List (TopS×Value)}(h:K.has (Know.flat RTop v 2 l))(ha:∀x∈l,K.has (Know.flat RI x.2 1 x.1.parts)):K.has (Know.tops v l):=fun w F hh=>⟨h w F hh,fun x hx=>ha x hx w F hh⟩
theorem accK{K:Know}{acc:List (TopS×Value)}{nm:Bs}{pt:List Int}{v:Value}(ha:∀x∈acc,K.has (Know.flat RI x.2 1 x.1.parts))(hv:K.has (Know.flat RI v 1 pt)):∀x∈acc++[((⟨nm,pt⟩:TopS),v)],K.has (Know.flat RI x.2 1 x.1.parts):=by
 intro x hx
 rcases List.mem_append.1 hx with hx|hx
 ·exact ha x hx
 ·rw[List.mem_singleton.1 hx];exact hv
def zBh (l:List PTop):Prop:=∀j,j≤l.length→AllP (l.take j)→j≤1000000∧∀x∈l.take j,x.name.length≤140737488355328∧x.l.length≤1000000
theorem zQw{l:List PTop}{acc:List (TopS×Value)}{j:Nat}(h:zBh l)(hj:j≤l.length)(ha:AllP (l.take j))(he:acc.map (·.1)=(l.take j).map PTop.ts):FewT acc:=by
 obtain⟨g1,g2⟩:=h j hj ha;have hl:=congrArg List.length he;rw[List.length_map,List.length_map,List.length_take]at hl;refine⟨oM,fun x hx=> ?_⟩;have hm:x.1∈(l.take j).map PTop.ts:=he ▸ List.mem_map_of_mem hx;obtain⟨y,hy,e⟩:=List.mem_map.1 hm;obtain⟨a,b⟩:=g2 y hy;rw[←e];exact⟨a,by show(y.l.map PartR.idx).length≤_;rw[List.length_map];exact b⟩
theorem zPK{l:List PTop}{k:Nat}(hk:k<l.length){x:PTop}(hx:l[k]=x)(ha:AllP (l.take k))(h:x.l.length≠0):AllP (l.take (k+1)):=by
 rw[List.take_succ_eq_append_getElem hk,hx];intro y hy
 rcases List.mem_append.1 hy with hy|hy
 ·exact ha y hy
 ·rw[List.mem_singleton.1 hy];exact h
theorem zMB(l:List PTop)(q:Option Addr)(cap:Nat)(e:Int)(he:zAP l=e)(hll:l.length≤3518437208780)(hfew:zBh l)(hk:K.has (Know.ptops (.slice q l.length cap) l))(h:St W0 w K L):
 Calls Tryz.prog 35 #[.slice q l.length cap] w fun en w'=>en=.returned (.int .i64 e)∧St W0 w' K L:=by
 have H:=hQd h;have HKT:=hQd hk;have HF:=hQd hfew;have HLN:=hQd hll;have hni:(l.length:Int)≤3518437208780:=by omega
 unfold zAP at he;clear h hk hfew
 by_cases h0:l.length=0
 ·rw[if_pos h0]at he;subst he;rw[h0];clear hni hll h0;go_enter Tryz.func35,Tryz.ntmps35;go_wp2;go_ret;exact⟨rfl,H.out⟩
 rw[if_neg h0]at he;have hz:((l.length:Int)==0)=false:=by rw[beq_eq_false_iff_ne];omega
 have HR:=hQd (show errT [] (l.drop 0)=e by rw[List.drop_zero];exact he);clear he hll h0;go_enter Tryz.func35,Tryz.ntmps35;go_wp2;clear hz;go_loopw [3,4] (fun lv iv wr=>∃(k:Nat) (acc:List (TopS×Value)) (K2:Know),k≤l.length∧iv=.int .i64 k∧Hid (k=acc.length)∧Hid (acc.map (·.1)=(l.take k).map PTop.ts)∧Hid (AllP (l.take k))∧Hid (zEV (acc.map (·.1))=true)∧Hid (errT (zHv (acc.map (·.1))) (l.drop k)=e)∧Hid (K2.has K)∧Hid (∀x∈acc,K2.has (Know.flat RI x.2 1 x.1.parts))∧St W0 wr K2 (.row lv 129 2 k (acc.flatMap zJq)::L)) (fun _ iv _=>l.length - (intOf iv).toNat)
 case atStart=>exact⟨0,[],K,Nat.zero_le _,rfl,hQd rfl,hQd (by simp),hQd (fun x hx=>by simp at hx),hQd rfl,HR,hQd (Know.has_refl _),hQd (fun x hx=>by cases hx),H.out.emptyRow 129 2⟩
 case round=>
  obtain⟨k,acc,K2,hkl,rfl,HAL,HTS,HAP,HTA,HC,HKK,HALL,hst⟩:=hrel;clear H;obtain⟨qv0,cv0,hv0⟩:=hst.rowAny;subst hv0;have H:=hQd hst;clear hst HR
  by_cases hlt:k<l.length
  ·obtain⟨bk,off,hqq⟩:=zB9 (Know.has_trans HKK.out HKT.out) H.out oM;obtain⟨x,hx⟩:∃x,l[k]=x:=⟨_,rfl⟩;have hmem:x∈l:=hx ▸ List.getElem_mem hlt;have HK':=(Know.has_trans HKK.out HKT.out);rw[hqq]at HK';obtain⟨c0,c1⟩:=zAZ HK' H.out k hlt x hx;have HXK0:=zA5 (Know.has_trans HKK.out HKT.out) hmem;have hc:=HC.out;rw[List.drop_eq_getElem_cons hlt,hx,zDD]at hc;have hkn:(k:Int)<(l.length:Int):=by omega
   have HX:=hQd hx;subst hqq
   by_cases h0:x.l.length=0
   ·rw[if_pos h0]at hc;subst hc;have h0i:((x.l.length:Int)==0)=true:=by rw[h0];rfl
    have h0j:(x.l.length:Int)=0:=by omega
    clear hx hmem HK' HXK0 h0;go_wp2;go_ret;exact⟨rfl,H.out.drop.know HKK.out⟩
   rw[if_neg h0]at hc;have HAP2:=hQd (zPK hlt hx HAP.out h0);have hft:=HF.out (k+1) hlt HAP2.out;have hxn:x.l.length≤1000000:=(hft.2 x (by rw[List.take_succ_eq_append_getElem hlt,hx];exact List.mem_append_right _ (List.mem_singleton.2 rfl))).2;have htr:=zPP (acc.map (·.1)) x h0 HTA.out;have HAS:=hQd (zMi (acc.map (·.1)) x);have h0i:((x.l.length:Int)==0)=false:=by rw[beq_eq_false_iff_ne];omega
   have h0j:¬((x.l.length:Int)=0):=by omega
   have HKN:=hQd (show k≤3518437208780 by have:=HLN.out;omega);obtain⟨nm,xl,xq,xcap⟩:=x;simp only at c0 c1 HXK0 hc h0i h0j hxn;have HXK:=hQd HXK0;have HXN:=hQd hxn;have HTS2:=hQd (show ∀v:Value,(acc++[((⟨nm,xl.map PartR.idx⟩:TopS),v)]).map (·.1)=(l.take (k+1)).map PTop.ts from fun v=>by rw[List.map_append,HTS.out,List.take_succ_eq_append_getElem hlt,HX.out,List.map_append];rfl);have HFT:=hQd (show ∀v:Value,FewT (acc++[((⟨nm,xl.map PartR.idx⟩:TopS),v)])from fun v=>zQw HF.out hlt HAP2.out (HTS2.out v));have HLA:=hQd (show ∀v:Value,k+1=(acc++[((⟨nm,xl.map PartR.idx⟩:TopS),v)]).length from fun v=>by rw[List.length_append,←HAL.out];rfl);have HXA:=hQd (show ∀v:Value,acc.flatMap zJq++[.string (bb nm),v]=(acc++[((⟨nm,xl.map PartR.idx⟩:TopS),v)]).flatMap zJq from fun v=>by rw[List.flatMap_append];rfl);clear hx hmem HK' HXK0 h0 hft hxn
   cases hb:(zAv nm && Op.bytesLess (zHv (acc.map (·.1))) nm && zBL (-1) xl)with
   |false=>
    rw[if_neg (by rw[hb];exact Bool.false_ne_true)]at hc;subst hc;have HTR:=hQd (show ∀v:Value,zEV ((acc++[((⟨nm,xl.map PartR.idx⟩:TopS),v)]).map (·.1))=false from fun v=>by rw[List.map_append];exact htr.trans hb);clear htr hb
    go_wp2_with (first
   |(go_at_call 69;(with_reducible refine(zOX nm xl xq xcap HXN.out HXK.out H.out).mono ?_);rintro e_ wn ⟨q2,c2,K3,rfl,hk3,hki,h⟩;have HK3:=hQd (Know.has_trans hk3 HKK.out);have HKI:=hQd hki;have HALL2:=hQd (fun x hx=>Know.has_trans hk3 (HALL.out x hx));clear hk3 hki;replace H:=hQd h;clear h)
   |(at_builtin;refine zAw rfl _ _ 110 rfl 129 Tryz.underlying110 zKO _ _ _ rfl H.out [.string (bb nm),.slice q2 xl.length c2] 129 (by first|rfl|(rw[World.size_alloc];rfl)) rfl (by simp[Value.oneCell']) zq64 (by have:=HKN.out;omega) ?_;intro v' w' h;obtain⟨qv,cv,hv⟩:=h.rowAny;subst hv;have HAF:=hQd (show K3.has K3 from Know.has_refl _);replace H:=hQd h;clear h)
   |(go_at_call 70;(obtain⟨Kp,hp1,hp2,hpst,hback⟩:=H.out.lend (fun S1 hs1 _=>zMz (acc++[(⟨nm,xl.map PartR.idx⟩,.slice q2 xl.length c2)]) zJq (R:=RTop) (fun x _=>⟨rfl,rfl⟩) (HLA.out _) (HXA.out _) S1 hs1));(with_reducible refine(zQU (acc++[(⟨nm,xl.map PartR.idx⟩,.slice q2 xl.length c2)]) qv cv (k+1) (HLA.out _) false (HTR.out _) (HFT.out _) (zOg hp2 (fun x hx=>Know.has_trans hp1 (accK HALL2.out HKI.out x hx))) hpst).mono ?_);rintro e_ wn ⟨rfl,h⟩;have h:=hback wn _ Kp (Know.has_refl _) h;clear hp1 hp2 hpst hback;replace H:=hQd h;clear h))
    go_ret;exact⟨rfl,H.out.drop.know HK3.out⟩
   |true=>
    rw[if_pos hb]at hc;have HTR:=hQd (show ∀v:Value,zEV ((acc++[((⟨nm,xl.map PartR.idx⟩:TopS),v)]).map (·.1))=true from fun v=>by rw[List.map_append];exact htr.trans hb);have HC2:=hQd (show ∀v:Value,errT (zHv ((acc++[((⟨nm,xl.map PartR.idx⟩:TopS),v)]).map (·.1))) (l.drop (k+1))=e from fun v=>by rw[List.map_append];exact(congrArg (fun a=>errT a (l.drop (k+1))) HAS.out).trans hc);clear htr hb hc
    go_wp2_with (first
   |(go_at_call 69;(with_reducible refine(zOX nm xl xq xcap HXN.out HXK.out H.out).mono ?_);rintro e_ wn ⟨q2,c2,K3,rfl,hk3,hki,h⟩;have HK3:=hQd (Know.has_trans hk3 HKK.out);have HKI:=hQd hki;have HALL2:=hQd (fun x hx=>Know.has_trans hk3 (HALL.out x hx));clear hk3 hki;replace H:=hQd h;clear h)
   |(at_builtin;refine zAw rfl _ _ 110 rfl 129 Tryz.underlying110 zKO _ _ _ rfl H.out [.string (bb nm),.slice q2 xl.length c2] 129 (by first|rfl|(rw[World.size_alloc];rfl)) rfl (by simp[Value.oneCell']) zq64 (by have:=HKN.out;omega) ?_;intro v' w' h;obtain⟨qv,cv,hv⟩:=h.rowAny;subst hv;have HAF:=hQd (show K3.has K3 from Know.has_refl _);replace H:=hQd h;clear h)
   |(go_at_call 70;(obtain⟨Kp,hp1,hp2,hpst,hback⟩:=H.out.lend (fun S1 hs1 _=>zMz (acc++[(⟨nm,xl.map PartR.idx⟩,.slice q2 xl.length c2)]) zJq (R:=RTop) (fun x _=>⟨rfl,rfl⟩) (HLA.out _) (HXA.out _) S1 hs1));(with_reducible refine(zQU (acc++[(⟨nm,xl.map PartR.idx⟩,.slice q2 xl.length c2)]) qv cv (k+1) (HLA.out _) true (HTR.out _) (HFT.out _) (zOg hp2 (fun x hx=>Know.has_trans hp1 (accK HALL2.out HKI.out x hx))) hpst).mono ?_);rintro e_ wn ⟨rfl,h⟩;have h:=hback wn _ Kp (Know.has_refl _) h;clear hp1 hp2 hpst hback;replace H:=hQd h;clear h))
    go_roundw
    case rel=>
     refine⟨k+1,acc++[((⟨nm,xl.map PartR.idx⟩:TopS),.slice q2 xl.length c2)],K3,hlt,by go_num,hQd (by rw[List.length_append,←HAL.out];rfl),hQd (HTS2.out _),HAP2,hQd (HTR.out _),hQd (HC2.out _),HK3,hQd (accK HALL2.out HKI.out),?_⟩;rw[List.flatMap_append];exact H.out
    case measure=>first|(simp[intOf];done)|(simp[intOf];omega)
  ·obtain rfl:k=l.length:=by omega
   have hc:=HC.out;rw[List.drop_length]at hc;have hc:0=e:=hc;subst hc;go_wp2;go_ret;exact⟨rfl,H.out.drop.know HKK.out⟩
variable {W0 w:World}{K:Know}{L:List Res}
structure CkB (x:BatR):Prop where
 ck:CkR x
 base:Rn x.b.base
theorem zq54{p:Prop}(h:p:=by
 rw[if_neg (by simp)]at hc;have HC2:=hQd hc;clear hc;go_wp2_with (go_at_call 71;clear c0 c1 c2 c3 c4 c5 c6 c7 c8 c9 c10 c11;(with_reducible refine(zBZ _ _ _ _ _ _ _ _ _ _ _ xl _ _ 0 HBE.out HFI.out HB0.out HFB.out HLN.out HXK.out H.out).mono ?_);rintro e_ wn ⟨rfl,h⟩;obtain⟨_,_,_,d3,d4,_⟩:=zBF HK.out h k hlt _ HX.out;replace H:=hQd h;clear h);go_roundw
 case rel=>exact⟨k+1,hlt,by go_num,HC2,H.out⟩
 case measure=>first|(simp[intOf];done)|(simp[intOf];omega)):p:=h
theorem zq55{p:Prop}(h:p:=by rw[if_pos (by simp)]at hc;subst hc;go_wp2_with (go_at_call 71;clear c0 c1 c2 c3 c4 c5 c6 c7 c8 c9 c10 c11;(with_reducible refine(zBZ _ _ _ _ _ _ _ _ _ _ _ xl _ _ 0 HBE.out HFI.out HB0.out HFB.out HLN.out HXK.out H.out).mono ?_);rintro e_ wn ⟨rfl,h⟩;obtain⟨_,_,_,d3,d4,_⟩:=zBF HK.out h k hlt _ HX.out;replace H:=hQd h;clear h);go_ret;exact⟨rfl,H.out⟩):p:=h
theorem zq6{p:Prop}(h:p:=by
  obtain⟨k,hkl,rfl,HC,hst⟩:=hrel;clear H HR;have H:=hQd hst;clear hst
  by_cases hlt:k<l.length
  · obtain⟨bk,off,hqq⟩:=zFn HK.out H.out oM;subst hqq;obtain⟨x,hx⟩:∃x,l[k]=x:=⟨_,rfl⟩;have hmem:x∈l:=hx ▸ List.getElem_mem hlt;have hck:=(HF.out x hmem).ck;have hbs:=(HF.out x hmem).base;have hcell0:=zBF HK.out H.out k hlt x hx;have HXK0:=zC6 HK.out hmem;have hc:=HC.out;rw[List.drop_eq_getElem_cons hlt,hx,zC1]at hc;have hkn:(k:Int)<(l.length:Int):=by omega
    have HX:=hQd hx;obtain⟨⟨base,leader,app,txn2,ctl,last,first,maxt,prod,epoch,sq,rcs⟩,xl,xq,xcap⟩:=x;have hcell:wr.cell? ⟨bk,off+k*12,none⟩=some (.int .i64 base)∧wr.cell? ⟨bk,off+k*12+1,none⟩=some (.int .i64 leader)∧wr.cell? ⟨bk,off+k*12+2,none⟩=some (.bool app)∧wr.cell? ⟨bk,off+k*12+3,none⟩=some (.bool txn2)∧wr.cell? ⟨bk,off+k*12+4,none⟩=some (.bool ctl)∧wr.cell? ⟨bk,off+k*12+5,none⟩=some (.int .i64 last)∧wr.cell? ⟨bk,off+k*12+6,none⟩=some (.int .i64 first)∧wr.cell? ⟨bk,off+k*12+7,none⟩=some (.int .i64 maxt)∧wr.cell? ⟨bk,off+k*12+8,none⟩=some (.int .i64 prod)∧wr.cell? ⟨bk,off+k*12+9,none⟩=some (.int .i64 epoch)∧wr.cell? ⟨bk,off+k*12+10,none⟩=some (.int .i64 sq)∧wr.cell? ⟨bk,off+k*12+11,none⟩=some (.slice xq xl.length xcap):=hcell0;obtain⟨c0,c1,c2,c3,c4,c5,c6,c7,c8,c9,c10,c11⟩:=hcell;have HXK:=hQd (show K.has (Know.recs (.slice xq xl.length xcap) xl)from HXK0);have HFI:=hQd (show first≤9223372036854775807 from hck.first);have HB0:=hQd (show Rn base from hbs);have HFB:=hQd (show FitB xl from hck.fit);have HLN:=hQd (show xl.length≤1000000 from hck.len);obtain⟨be,hbe⟩:∃n,zAl ⟨base,leader,app,txn2,ctl,last,first,maxt,prod,epoch,sq,rcs⟩=n:=⟨_,rfl⟩;have HBE:=hQd (show zAl ⟨base,leader,app,txn2,ctl,last,first,maxt,prod,epoch,sq,xl.map (·.1)⟩=be by rw[show xl.map (·.1)=rcs from hck.recs];exact hbe);have hc:(if be≠0 then be else if ctl=true then 12 else if txn2≠txn then 8 else zB5 txn (l.drop (k+1)))=e:=by rw[←hbe];exact hc
    clear hx hmem hck hbs hcell0 HXK0 hbe
    by_cases b0:be=0
    · subst b0;rw[if_neg (by simp)]at hc
      cases ctl with
      |true=>
       rw[if_pos rfl]at hc;subst hc;go_wp2_with (go_at_call 71;clear c0 c1 c2 c3 c4 c5 c6 c7 c8 c9 c10 c11;(with_reducible refine(zBZ _ _ _ _ _ _ _ _ _ _ _ xl _ _ 0 HBE.out HFI.out HB0.out HFB.out HLN.out HXK.out H.out).mono ?_);rintro e_ wn ⟨rfl,h⟩;obtain⟨_,_,_,d3,d4,_⟩:=zBF HK.out h k hlt _ HX.out;replace H:=hQd h;clear h);go_ret;exact⟨rfl,H.out⟩
      |false=>
       rw[if_neg (by simp)]at hc
       cases txn2<;>cases txn
       · -- none, none
         exact zq54
       · -- none, one
         exact zq55
       · -- one, none
         exact zq55
       · -- one, one
         exact zq54
    · rw[if_pos b0]at hc;subst hc;have g1:(be==0)=false:=by rw[beq_eq_false_iff_ne];exact b0
      have g2:(be !=0)=true:=by simp[bne,g1]
      have g3:¬be=0:=b0;clear b0;go_wp2_with (go_at_call 71;clear c0 c1 c2 c3 c4 c5 c6 c7 c8 c9 c10 c11;(with_reducible refine(zBZ _ _ _ _ _ _ _ _ _ _ _ xl _ _ be HBE.out HFI.out HB0.out HFB.out HLN.out HXK.out H.out).mono ?_);rintro e_ wn ⟨rfl,h⟩;obtain⟨_,_,_,d3,d4,_⟩:=zBF HK.out h k hlt _ HX.out;replace H:=hQd h;clear h);go_ret;exact⟨rfl,H.out⟩
  · obtain rfl:k=l.length:=by omega
    have hc:=HC.out;rw[List.drop_length]at hc;have hc:0=e:=hc;subst hc;go_wp2;go_ret;exact⟨rfl,H.out⟩):p:=h
theorem zN7(txn:Bool)(v:Int)(l:List BatR)(q:Option Addr)(cap:Nat)(e:Int)(he:zB5 txn l=e)(h0:l.length≠0)(hv:¬v=3)(hf:∀x∈l,CkB x)(hll:l.length≤4398046511104)(hk:K.has (Know.bats (.slice q l.length cap) l))(h:St W0 w K L):
 Calls Tryz.prog 36 #[.slice q l.length cap,.bool txn,.int .i64 v] w fun en w'=>en=.returned (.int .i64 e)∧St W0 w' K L:=by
 have H:=hQd h;have HK:=hQd hk;have HF:=hQd hf;have HR:=hQd (show zB5 txn (l.drop 0)=e by rw[List.drop_zero];exact he);have hni:(l.length:Int)≤4398046511104:=by omega
 have z1:((l.length:Int)==0)=false:=by rw[beq_eq_false_iff_ne];omega
 have z2:¬((l.length:Int)=0):=by omega
 have z3:(v==3)=false:=by rw[beq_eq_false_iff_ne];exact hv
 have z4:¬v=3:=hv;clear hv;clear h hk he hll hf h0;go_enter Tryz.func36,Tryz.ntmps36;go_wp2;clear z1 z2 z3 z4;go_loopw [7] (fun iv wr=>∃(k:Nat),k≤l.length∧iv=.int .i64 k∧Hid (zB5 txn (l.drop k)=e)∧St W0 wr K L) (fun iv _=>l.length - (intOf iv).toNat)
 case atStart=>exact⟨0,Nat.zero_le _,rfl,HR,H.out⟩
 case round=>
  exact zq6
theorem zN6(txn:Bool)(v:Int)(l:List BatR)(q:Option Addr)(cap:Nat)(e:Int)(he:zB5 txn l=e)(h0:l.length≠0)(hv:v=3)(h1:¬1<l.length)(hf:∀x∈l,CkB x)(hll:l.length≤4398046511104)(hk:K.has (Know.bats (.slice q l.length cap) l))(h:St W0 w K L):
 Calls Tryz.prog 36 #[.slice q l.length cap,.bool txn,.int .i64 v] w fun en w'=>en=.returned (.int .i64 e)∧St W0 w' K L:=by
 have H:=hQd h;have HK:=hQd hk;have HF:=hQd hf;have HR:=hQd (show zB5 txn (l.drop 0)=e by rw[List.drop_zero];exact he);have hni:(l.length:Int)≤4398046511104:=by omega
 have z1:((l.length:Int)==0)=false:=by rw[beq_eq_false_iff_ne];omega
 have z2:¬((l.length:Int)=0):=by omega
 subst hv;have z3:¬1<(l.length:Int):=by omega
 clear h1;clear h hk he hll hf h0;go_enter Tryz.func36,Tryz.ntmps36;go_wp2;clear z1 z2 z3;go_loopw [7] (fun iv wr=>∃(k:Nat),k≤l.length∧iv=.int .i64 k∧Hid (zB5 txn (l.drop k)=e)∧St W0 wr K L) (fun iv _=>l.length - (intOf iv).toNat)
 case atStart=>exact⟨0,Nat.zero_le _,rfl,HR,H.out⟩
 case round=>
  exact zq6
theorem zPF(txn:Bool)(v:Int)(q:Option Addr)(cap:Nat)(h:St W0 w K L):
 Calls Tryz.prog 36 #[.slice q 0 cap,.bool txn,.int .i64 v] w fun en w'=>en=.returned (.int .i64 10)∧St W0 w' K L:=by
 have H:=hQd h;clear h;go_enter Tryz.func36,Tryz.ntmps36;go_wp2;go_ret;exact⟨rfl,H.out⟩
theorem zPE(txn:Bool)(l:List BatR)(q:Option Addr)(cap:Nat)(h1:1<l.length)(h:St W0 w K L):
 Calls Tryz.prog 36 #[.slice q l.length cap,.bool txn,.int .i64 3] w fun en w'=>en=.returned (.int .i64 10)∧St W0 w' K L:=by
 have H:=hQd h;have z1:((l.length:Int)==0)=false:=by rw[beq_eq_false_iff_ne];omega
 have z2:¬((l.length:Int)=0):=by omega
 have z3:1<(l.length:Int):=by omega
 clear h h1;go_enter Tryz.func36,Tryz.ntmps36;go_wp2;go_ret;exact⟨rfl,H.out⟩
def zHd (txn:Bool) (v:Int) (l:List BatR):Int:=if l.length=0∨(v=3∧1<l.length)then 10 else zB5 txn l
theorem zEL(txn:Bool)(v:Int)(l:List BatR)(q:Option Addr)(cap:Nat)(e:Int)(he:zHd txn v l=e)(hf:∀x∈l,CkB x)(hll:l.length≤4398046511104)(hk:K.has (Know.bats (.slice q l.length cap) l))(h:St W0 w K L):
 Calls Tryz.prog 36 #[.slice q l.length cap,.bool txn,.int .i64 v] w fun en w'=>en=.returned (.int .i64 e)∧St W0 w' K L:=by
 unfold zHd at he
 by_cases h0:l.length=0
 ·rw[if_pos (.inl h0)]at he;subst he;rw[h0];exact zPF txn v q cap h
 ·by_cases hv:v=3
  ·by_cases h1:1<l.length
   ·rw[if_pos (.inr ⟨hv,h1⟩)]at he;subst he;subst hv;exact zPE txn l q cap h1 h
   ·rw[if_neg oM]at he;exact zN6 txn v l q cap e he h0 hv h1 hf hll hk h
  ·rw[if_neg oM]at he;exact zN7 txn v l q cap e he h0 hv hf hll hk h
theorem zKB(txn:Bool)(v:Int)(x:PartR)(t:List PartR):zBz txn v (x::t)=if zHd txn v x.l≠0 then zHd txn v x.l else zBz txn v t:=by
 rw[zB4];unfold zHd
 by_cases h:x.l.length=0∨(v=3∧1<x.l.length)
 ·rw[if_pos h,if_pos h,if_pos dD]
 ·rw[if_neg h,if_neg h]
set_option maxHeartbeats 8000000
variable {W0 w:World}{K:Know}{L:List Res}
theorem ifs_0{b c e:Int}(h:(if (if (0:Int)≠0 then(0:Int)else b)≠0 then(if (0:Int)≠0 then(0:Int)else b)else c)=e):(if b≠0 then b else c)=e:=by
 have h1:(if (0:Int)≠0 then(0:Int)else b)=b:=if_neg (fun hh=>hh rfl);rw[h1]at h;exact h
structure CkP2 (x:PartR):Prop where
 len:x.l.length≤4398046511104
 bats:∀y∈x.l,CkB y
structure CkT2 (x:PTop):Prop where
 len:x.l.length≤4398046511104
 parts:∀y∈x.l,CkP2 y
theorem rck_r0(dd:Bs)(ac tm v:Int)(l:List PTop)(q:Option Addr)(cap:Nat)(hf:∀x∈l,CkT2 x)(hfew:zBh l)(hll:l.length≤3518437208780)(hne:dd≠[])(hk:K.has (Know.ptops (.slice q l.length cap) l))(h:St W0 w K L):
 Calls Tryz.prog 10 #[.agg #[.bool true,.string (bb dd),.int .i64 ac,.int .i64 tm,.slice q l.length cap],.int .i64 v] w fun en w'=>en=.returned (.int .i64 4)∧St W0 w' K L:=by
 obtain⟨rb,hrb⟩:∃b,w.heap.size=b:=⟨_,rfl⟩;have g1:=h.allocRaw #[.bool true,.string (bb dd),.int .i64 ac,.int .i64 tm,.slice q l.length cap] 40;rw[hrb]at g1;obtain⟨z0,z1,z2,z3,z4⟩:=uR5 g1;simp at z0 z1 z2 z3 z4;have H:=hQd g1;have HK:=hQd hk;have HF:=hQd hf;have HFW:=hQd hfew;have HLL:=hQd hll;have k1:(dd==[])=false:=by cases dd with|nil=>exact absurd rfl hne|cons _ _=>rfl
 have k2:(dd !=[])=true:=by simp[bne,k1]
 have k3:¬dd=[]:=hne;have k4:([]==dd)=false:=by cases dd with|nil=>exact absurd rfl hne|cons _ _=>rfl
 clear h g1 hk hf hfew hne;clear hll;go_enter Tryz.func10,Tryz.ntmps10;go_wp2_with (fail);go_ret;exact⟨rfl,H.out.drop⟩
theorem rck_k0(ac tm v:Int)(l:List PTop)(q:Option Addr)(cap:Nat)(hf:∀x∈l,CkT2 x)(hfew:zBh l)(hll:l.length≤3518437208780)(hk:K.has (Know.ptops (.slice q l.length cap) l))(h:St W0 w K L):
 Calls Tryz.prog 10 #[.agg #[.bool false,.string ⟨#[]⟩,.int .i64 ac,.int .i64 tm,.slice q l.length cap],.int .i64 v] w fun en w'=>en=.returned (.int .i64 4)∧St W0 w' K L:=by
 obtain⟨rb,hrb⟩:∃b,w.heap.size=b:=⟨_,rfl⟩;have g1:=h.allocRaw #[.bool false,.string ⟨#[]⟩,.int .i64 ac,.int .i64 tm,.slice q l.length cap] 40;rw[hrb]at g1;obtain⟨z0,z1,z2,z3,z4⟩:=uR5 g1;simp at z0 z1 z2 z3 z4;have H:=hQd g1;have HK:=hQd hk;have HF:=hQd hf;have HFW:=hQd hfew;have HLL:=hQd hll;clear h g1 hk hf hfew;clear hll;go_enter Tryz.func10,Tryz.ntmps10;go_wp2_with (fail);go_ret;exact⟨rfl,H.out.drop⟩
theorem rck_k1(dd:Bs)(ac tm v:Int)(l:List PTop)(q:Option Addr)(cap:Nat)(hf:∀x∈l,CkT2 x)(hfew:zBh l)(hll:l.length≤3518437208780)(hlen:32767<dd.length)(hk:K.has (Know.ptops (.slice q l.length cap) l))(h:St W0 w K L):
 Calls Tryz.prog 10 #[.agg #[.bool false,.string (bb dd),.int .i64 ac,.int .i64 tm,.slice q l.length cap],.int .i64 v] w fun en w'=>en=.returned (.int .i64 4)∧St W0 w' K L:=by
 obtain⟨rb,hrb⟩:∃b,w.heap.size=b:=⟨_,rfl⟩;have g1:=h.allocRaw #[.bool false,.string (bb dd),.int .i64 ac,.int .i64 tm,.slice q l.length cap] 40;rw[hrb]at g1;obtain⟨z0,z1,z2,z3,z4⟩:=uR5 g1;simp at z0 z1 z2 z3 z4;have H:=hQd g1;have HK:=hQd hk;have HF:=hQd hf;have HFW:=hQd hfew;have HLL:=hQd hll;have k5:¬(dd.length:Int)<1:=by omega
 have k6:32767<(dd.length:Int):=by omega
 have k7:decide ((dd.length:Int)<1)=false:=decide_eq_false k5;have k8:decide (32767<(dd.length:Int))=true:=decide_eq_true k6;clear h g1 hk hf hfew hlen;clear hll;go_enter Tryz.func10,Tryz.ntmps10;go_wp2_with (fail);go_ret;exact⟨rfl,H.out.drop⟩
theorem zLJ(ac tm v:Int)(l:List PTop)(q:Option Addr)(cap:Nat)(hf:∀x∈l,CkT2 x)(hfew:zBh l)(hll:l.length≤3518437208780)(n1:ac< -1)(hk:K.has (Know.ptops (.slice q l.length cap) l))(h:St W0 w K L):
 Calls Tryz.prog 10 #[.agg #[.bool true,.string ⟨#[]⟩,.int .i64 ac,.int .i64 tm,.slice q l.length cap],.int .i64 v] w fun en w'=>en=.returned (.int .i64 11)∧St W0 w' K L:=by
 obtain⟨rb,hrb⟩:∃b,w.heap.size=b:=⟨_,rfl⟩;have g1:=h.allocRaw #[.bool true,.string ⟨#[]⟩,.int .i64 ac,.int .i64 tm,.slice q l.length cap] 40;rw[hrb]at g1;obtain⟨z0,z1,z2,z3,z4⟩:=uR5 g1;simp at z0 z1 z2 z3 z4;have H:=hQd g1;have HK:=hQd hk;have HF:=hQd hf;have HFW:=hQd hfew;have HLL:=hQd hll;have d1:decide (ac< -1)=true:=decide_eq_true n1;clear h g1 hk hf hfew n1;clear hll;go_enter Tryz.func10,Tryz.ntmps10;go_wp2_with (fail);go_ret;exact⟨rfl,H.out.drop⟩
theorem zLI(ac tm v:Int)(l:List PTop)(q:Option Addr)(cap:Nat)(hf:∀x∈l,CkT2 x)(hfew:zBh l)(hll:l.length≤3518437208780)(n1:¬ac< -1)(n2:1<ac)(hk:K.has (Know.ptops (.slice q l.length cap) l))(h:St W0 w K L):
 Calls Tryz.prog 10 #[.agg #[.bool true,.string ⟨#[]⟩,.int .i64 ac,.int .i64 tm,.slice q l.length cap],.int .i64 v] w fun en w'=>en=.returned (.int .i64 11)∧St W0 w' K L:=by
 obtain⟨rb,hrb⟩:∃b,w.heap.size=b:=⟨_,rfl⟩;have g1:=h.allocRaw #[.bool true,.string ⟨#[]⟩,.int .i64 ac,.int .i64 tm,.slice q l.length cap] 40;rw[hrb]at g1;obtain⟨z0,z1,z2,z3,z4⟩:=uR5 g1;simp at z0 z1 z2 z3 z4;have H:=hQd g1;have HK:=hQd hk;have HF:=hQd hf;have HFW:=hQd hfew;have HLL:=hQd hll;have d1:decide (ac< -1)=false:=decide_eq_false n1;have d2:decide (1<ac)=true:=decide_eq_true n2;clear h g1 hk hf hfew n1 n2;clear hll;go_enter Tryz.func10,Tryz.ntmps10;go_wp2_with (fail);go_ret;exact⟨rfl,H.out.drop⟩
theorem zLH(ac tm v:Int)(l:List PTop)(q:Option Addr)(cap:Nat)(hf:∀x∈l,CkT2 x)(hfew:zBh l)(hll:l.length≤3518437208780)(n1:¬ac< -1)(n2:¬1<ac)(n3:tm<0)(hk:K.has (Know.ptops (.slice q l.length cap) l))(h:St W0 w K L):
 Calls Tryz.prog 10 #[.agg #[.bool true,.string ⟨#[]⟩,.int .i64 ac,.int .i64 tm,.slice q l.length cap],.int .i64 v] w fun en w'=>en=.returned (.int .i64 11)∧St W0 w' K L:=by
 obtain⟨rb,hrb⟩:∃b,w.heap.size=b:=⟨_,rfl⟩;have g1:=h.allocRaw #[.bool true,.string ⟨#[]⟩,.int .i64 ac,.int .i64 tm,.slice q l.length cap] 40;rw[hrb]at g1;obtain⟨z0,z1,z2,z3,z4⟩:=uR5 g1;simp at z0 z1 z2 z3 z4;have H:=hQd g1;have HK:=hQd hk;have HF:=hQd hf;have HFW:=hQd hfew;have HLL:=hQd hll;have d1:decide (ac< -1)=false:=decide_eq_false n1;have d2:decide (1<ac)=false:=decide_eq_false n2;have d3:decide (tm<0)=true:=decide_eq_true n3;clear h g1 hk hf hfew n1 n2 n3;clear hll;go_enter Tryz.func10,Tryz.ntmps10;go_wp2_with (fail);go_ret;exact⟨rfl,H.out.drop⟩
theorem zLG(ac tm v:Int)(l:List PTop)(q:Option Addr)(cap:Nat)(hf:∀x∈l,CkT2 x)(hfew:zBh l)(hll:l.length≤3518437208780)(n1:¬ac< -1)(n2:¬1<ac)(n3:¬tm<0)(n4:2147483647<tm)(hk:K.has (Know.ptops (.slice q l.length cap) l))(h:St W0 w K L):
 Calls Tryz.prog 10 #[.agg #[.bool true,.string ⟨#[]⟩,.int .i64 ac,.int .i64 tm,.slice q l.length cap],.int .i64 v] w fun en w'=>en=.returned (.int .i64 11)∧St W0 w' K L:=by
 obtain⟨rb,hrb⟩:∃b,w.heap.size=b:=⟨_,rfl⟩;have g1:=h.allocRaw #[.bool true,.string ⟨#[]⟩,.int .i64 ac,.int .i64 tm,.slice q l.length cap] 40;rw[hrb]at g1;obtain⟨z0,z1,z2,z3,z4⟩:=uR5 g1;simp at z0 z1 z2 z3 z4;have H:=hQd g1;have HK:=hQd hk;have HF:=hQd hf;have HFW:=hQd hfew;have HLL:=hQd hll;have d1:decide (ac< -1)=false:=decide_eq_false n1;have d2:decide (1<ac)=false:=decide_eq_false n2;have d3:decide (tm<0)=false:=decide_eq_false n3;have d4:decide (2147483647<tm)=true:=decide_eq_true n4;clear h g1 hk hf hfew n1 n2 n3 n4;clear hll;go_enter Tryz.func10,Tryz.ntmps10;go_wp2_with (fail);go_ret;exact⟨rfl,H.out.drop⟩
theorem zND(ac tm v:Int)(l:List PTop)(q:Option Addr)(cap:Nat)(hf:∀x∈l,CkT2 x)(hfew:zBh l)(hll:l.length≤3518437208780)(n1:¬ac< -1)(n2:¬1<ac)(n3:¬tm<0)(n4:¬2147483647<tm)(e:Int)(het:zAP l=e)(h0:e≠0)(hk:K.has (Know.ptops (.slice q l.length cap) l))(h:St W0 w K L):
 Calls Tryz.prog 10 #[.agg #[.bool true,.string ⟨#[]⟩,.int .i64 ac,.int .i64 tm,.slice q l.length cap],.int .i64 v] w fun en w'=>en=.returned (.int .i64 e)∧St W0 w' K L:=by
 obtain⟨rb,hrb⟩:∃b,w.heap.size=b:=⟨_,rfl⟩;have g1:=h.allocRaw #[.bool true,.string ⟨#[]⟩,.int .i64 ac,.int .i64 tm,.slice q l.length cap] 40;rw[hrb]at g1;obtain⟨z0,z1,z2,z3,z4⟩:=uR5 g1;simp at z0 z1 z2 z3 z4;have H:=hQd g1;have HK:=hQd hk;have HF:=hQd hf;have HFW:=hQd hfew;have HLL:=hQd hll;have d1:decide (ac< -1)=false:=decide_eq_false n1;have d2:decide (1<ac)=false:=decide_eq_false n2;have d3:decide (tm<0)=false:=decide_eq_false n3;have d4:decide (2147483647<tm)=false:=decide_eq_false n4;have HET:=hQd het;have e1:(e==0)=false:=by rw[beq_eq_false_iff_ne];exact h0
 have e3:(e !=0)=true:=by simp[bne,e1]
 clear h g1 hk hf hfew n1 n2 n3 n4 het h0;clear hll;go_enter Tryz.func10,Tryz.ntmps10
 go_wp2_with (first
  |(go_at_call 35;clear z0 z1 z2 z3 z4;(with_reducible refine(zMB l q cap e HET.out HLL.out HFW.out HK.out H.out).mono ?_);rintro e_ wn ⟨rfl,h⟩;obtain⟨z0,z1,z2,z3,z4⟩:=uR5 h;simp at z0 z1 z2 z3 z4;replace H:=hQd h;clear h))
 go_ret;exact⟨rfl,H.out.drop⟩
theorem zq28{p:Prop}(h:p:=by
 try simp only[Act.put,sA,sB,sC]
 refine tR 16 ?_;refine wpAnyH_done (by kernel_rfl) ?_ _;clear hHeld;go_wp2_with fail;go_roundw
 case rel=>exact⟨j+1,hjt,by go_num,HC3,hs⟩
 case measure=>first|(simp[intOf];done)|(simp[intOf];omega)):p:=h
theorem zq36{p:Prop}(h:p:=by
 try simp only[Act.put,sA,sB,sC]
 refine tR 16 ?_;refine wpAnyH_done (by kernel_rfl) ?_ _;clear hHeld;go_wp2_with fail;go_ret;exact⟨rfl,hs.drop⟩):p:=h
theorem zq49{p:Prop}(h:p:=by
 obtain rfl:k=l.length:=by omega
 have hc:=HC.out;rw[List.drop_length]at hc;have hc:0=e:=hc;subst hc;go_wp2;go_ret;exact⟨rfl,H.out.drop⟩):p:=h
theorem zNE(ac tm v:Int)(l:List PTop)(q:Option Addr)(cap:Nat)(hf:∀x∈l,CkT2 x)(hfew:zBh l)(hll:l.length≤3518437208780)(n1:¬ac< -1)(n2:¬1<ac)(n3:¬tm<0)(n4:¬2147483647<tm)(het:zAP l=0)(e:Int)(hep:zBO false v l=e)(hk:K.has (Know.ptops (.slice q l.length cap) l))(h:St W0 w K L):
 Calls Tryz.prog 10 #[.agg #[.bool true,.string ⟨#[]⟩,.int .i64 ac,.int .i64 tm,.slice q l.length cap],.int .i64 v] w fun en w'=>en=.returned (.int .i64 e)∧St W0 w' K L:=by
 obtain⟨rb,hrb⟩:∃b,w.heap.size=b:=⟨_,rfl⟩;have g1:=h.allocRaw #[.bool true,.string ⟨#[]⟩,.int .i64 ac,.int .i64 tm,.slice q l.length cap] 40;rw[hrb]at g1;obtain⟨z0,z1,z2,z3,z4⟩:=uR5 g1;simp at z0 z1 z2 z3 z4;have H:=hQd g1;have HK:=hQd hk;have HF:=hQd hf;have HFW:=hQd hfew;have HLL:=hQd hll;have d1:decide (ac< -1)=false:=decide_eq_false n1;have d2:decide (1<ac)=false:=decide_eq_false n2;have d3:decide (tm<0)=false:=decide_eq_false n3;have d4:decide (2147483647<tm)=false:=decide_eq_false n4;have HET:=hQd het;clear h g1 hk hf hfew n1 n2 n3 n4 het;have HR:=hQd (show zBO false v (l.drop 0)=e by rw[List.drop_zero];exact hep);have hni:(l.length:Int)≤3518437208780:=by omega
 clear hep hll;go_enter Tryz.func10,Tryz.ntmps10;go_wp2_with (go_at_call 35;clear z0 z1 z2 z3 z4;(with_reducible refine(zMB l q cap 0 HET.out HLL.out HFW.out HK.out H.out).mono ?_);rintro e_ wn ⟨rfl,h⟩;obtain⟨z0,z1,z2,z3,z4⟩:=uR5 h;simp at z0 z1 z2 z3 z4;replace H:=hQd h;clear h);clear z0 z1 z2 z3 z4;go_loopw [6] (fun iv wr=>∃(k:Nat),k≤l.length∧iv=.int .i64 k∧Hid (zBO false v (l.drop k)=e)∧St W0 wr K (.raw rb #[.bool true,.string ⟨#[]⟩,.int .i64 ac,.int .i64 tm,.slice q l.length cap] 40::L)) (fun iv _=>l.length - (intOf iv).toNat)
 case atStart=>exact⟨0,Nat.zero_le _,rfl,HR,H.out⟩
 case round=>
  obtain⟨k,hkl,rfl,HC,hst⟩:=hrel;clear H HR;have H:=hQd hst;clear hst;have z4:=H.out.rawCell 4;simp at z4
  by_cases hlt:k<l.length
  ·obtain⟨bk,off,hqq⟩:=zB9 HK.out H.out oM;obtain⟨x,hx⟩:∃x,l[k]=x:=⟨_,rfl⟩;have hmem:x∈l:=hx ▸ List.getElem_mem hlt;have hck:=HF.out x hmem;have HXK0:=zA5 HK.out hmem;have hc:=HC.out;rw[List.drop_eq_getElem_cons hlt,hx,zCt]at hc;have hkn:(k:Int)<(l.length:Int):=by omega
   have HX:=hQd hx;subst hqq;obtain⟨nm,xl,xq,xcap⟩:=x;simp only at hc HXK0;have HXK:=hQd HXK0;have HXF:=hQd (show ∀y∈xl,CkP2 y from hck.parts);have hxl:xl.length≤4398046511104:=hck.len;have hxi:(xl.length:Int)≤4398046511104:=by omega
   have HC2:=hQd (show(if zBz false v (xl.drop 0)≠0 then zBz false v (xl.drop 0)else zBO false v (l.drop (k+1)))=e by rw[List.drop_zero];exact hc);clear hx hmem hck HXK0 hxl hc;go_wp2_with fail;clear z4;go_loopw [7] (fun jv wr=>∃(j:Nat),j≤xl.length∧jv=.int .i64 j∧Hid ((if zBz false v (xl.drop j)≠0 then zBz false v (xl.drop j)else zBO false v (l.drop (k+1)))=e)∧St W0 wr K (.raw rb #[.bool true,.string ⟨#[]⟩,.int .i64 ac,.int .i64 tm,.slice (some ⟨bk,off,none⟩) l.length cap] 40::L)) (fun jv _=>xl.length - (intOf jv).toNat)
   case atStart=>exact⟨0,Nat.zero_le _,rfl,HC2,H.out⟩
   case round=>
    obtain⟨j,hjl,rfl,HD,hst⟩:=hrel;clear H HC2;have H:=hQd hst;clear hst;have z4:=H.out.rawCell 4;simp at z4;obtain⟨_,c1⟩:=zAZ HK.out H.out k hlt _ HX.out;simp only at c1
    by_cases hjt:j<xl.length
    ·obtain⟨pk,poff,hpq⟩:=zBB HXK.out H.out oM;subst hpq;obtain⟨y,hy⟩:∃y,xl[j]=y:=⟨_,rfl⟩;have hmem:y∈xl:=hy ▸ List.getElem_mem hjt;have hcy:=HXF.out y hmem;have HYK0:=zBp HXK.out hmem;have hd:=HD.out;rw[List.drop_eq_getElem_cons hjt,hy,zKB]at hd;have hjn:(j:Int)<(xl.length:Int):=by omega
     have HY:=hQd hy;obtain⟨yi,yl,yq,ycap⟩:=y;simp only at hd HYK0;have HYK:=hQd HYK0;have HYF:=hQd (show ∀z∈yl,CkB z from hcy.bats);have HYN:=hQd (show yl.length≤4398046511104 from hcy.len);obtain⟨be,hbe⟩:∃n,zHd false v yl=n:=⟨_,rfl⟩;have HBE:=hQd hbe;rw[hbe]at hd
     have HKP:=hQd (show ∀(w':World),St W0 w' K (.raw rb #[.bool true,.string ⟨#[]⟩,.int .i64 ac,.int .i64 tm,.slice (some ⟨bk,off,none⟩) l.length cap] 40::L)→(w'.cell? ⟨rb,0,none⟩=some (.bool true)∧w'.cell? ⟨rb,4,none⟩=some (.slice (some ⟨bk,off,none⟩) l.length cap)∧w'.cell? ⟨bk,off+k*2+1,none⟩=some (.slice (some ⟨pk,poff,none⟩) xl.length xcap)∧w'.cell? ⟨pk,poff+j*2+1,none⟩=some (.slice yq yl.length ycap))from fun w' hs=>by
      have a0:=hs.rawCell 0;have a4:=hs.rawCell 4;obtain⟨_,b1⟩:=zAZ HK.out hs k hlt _ HX.out;obtain⟨_,d1⟩:=zAW HXK.out hs j hjt _ HY.out;simp at a0 a4
      exact⟨a0,a4,b1,d1⟩)
     clear hy hmem hcy HYK0 hbe
     by_cases b0:be=0
     ·subst b0;have HC3:=hQd (ifs_0 hd);clear hd;go_wp2;have hs:=H.out.drew;refine wp_region_held_drew (S:=fun w'=>w'.cell? ⟨rb,0,none⟩=some (.bool true)∧w'.cell? ⟨rb,4,none⟩=some (.slice (some ⟨bk,off,none⟩) l.length cap)∧w'.cell? ⟨bk,off+k*2+1,none⟩=some (.slice (some ⟨pk,poff,none⟩) xl.length xcap)∧w'.cell? ⟨pk,poff+j*2+1,none⟩=some (.slice yq yl.length ycap)) (by kernel_rfl) (HKP.out _ hs) (fun hHeld=> ?_);refine tR 0 ?_;refine tR 1 ?_;refine tR 2 ?_;refine tR 3 ?_;refine tR 4 ?_;refine tR 5 ?_;refine tR 6 ?_;refine tR 7 ?_;refine tR 8 ?_;refine tR 9 ?_;refine tR 10 ?_;refine tR 11 ?_;refine tR 12 ?_;refine tR 13 ?_;refine tR 14 ?_;refine wR [15] (rC rfl (fun KK hK=> ?_) rN);go_simp;go_at_call 36;with_reducible refine(zEL false v yl yq ycap _ HBE.out HYF.out HYN.out HYK.out hs).mono ?_;rintro e wq ⟨rfl,hs⟩;refine hK.out _ _ (HKP.out _ hs) (fun hHeld=> ?_);clear hK KK
      exact zq28
     ·rw[if_pos b0,if_pos b0]at hd;subst hd;have g1:(be==0)=false:=by rw[beq_eq_false_iff_ne];exact b0
      have g2:(be !=0)=true:=by simp[bne,g1]
      have g3:¬be=0:=b0;clear b0;go_wp2;have hs:=H.out.drew;refine wp_region_held_drew (S:=fun w'=>w'.cell? ⟨rb,0,none⟩=some (.bool true)∧w'.cell? ⟨rb,4,none⟩=some (.slice (some ⟨bk,off,none⟩) l.length cap)∧w'.cell? ⟨bk,off+k*2+1,none⟩=some (.slice (some ⟨pk,poff,none⟩) xl.length xcap)∧w'.cell? ⟨pk,poff+j*2+1,none⟩=some (.slice yq yl.length ycap)) (by kernel_rfl) (HKP.out _ hs) (fun hHeld=> ?_);refine tR 0 ?_;refine tR 1 ?_;refine tR 2 ?_;refine tR 3 ?_;refine tR 4 ?_;refine tR 5 ?_;refine tR 6 ?_;refine tR 7 ?_;refine tR 8 ?_;refine tR 9 ?_;refine tR 10 ?_;refine tR 11 ?_;refine tR 12 ?_;refine tR 13 ?_;refine tR 14 ?_;refine wR [15] (rC rfl (fun KK hK=> ?_) rN);go_simp;go_at_call 36;with_reducible refine(zEL false v yl yq ycap _ HBE.out HYF.out HYN.out HYK.out hs).mono ?_;rintro e wq ⟨rfl,hs⟩;refine hK.out _ _ (HKP.out _ hs) (fun hHeld=> ?_);clear hK KK
      exact zq36
    ·obtain rfl:j=xl.length:=by omega
     have hd:=HD.out;rw[List.drop_length]at hd;have hd:zBO false v (l.drop (k+1))=e:=hd;have HC4:=hQd hd;clear hd;go_wp2;go_roundw
     case rel=>exact⟨k+1,hlt,by go_num,HC4,H.out⟩
     case measure=>first|(simp[intOf];done)|(simp[intOf];omega)
  ·exact zq49
theorem zKb(dd:Bs)(ac tm v:Int)(l:List PTop)(q:Option Addr)(cap:Nat)(hf:∀x∈l,CkT2 x)(hfew:zBh l)(hll:l.length≤3518437208780)(h1:1≤dd.length)(h2:dd.length≤32767)(n1:ac< -1)(hk:K.has (Know.ptops (.slice q l.length cap) l))(h:St W0 w K L):
 Calls Tryz.prog 10 #[.agg #[.bool false,.string (bb dd),.int .i64 ac,.int .i64 tm,.slice q l.length cap],.int .i64 v] w fun en w'=>en=.returned (.int .i64 11)∧St W0 w' K L:=by
 obtain⟨rb,hrb⟩:∃b,w.heap.size=b:=⟨_,rfl⟩;have g1:=h.allocRaw #[.bool false,.string (bb dd),.int .i64 ac,.int .i64 tm,.slice q l.length cap] 40;rw[hrb]at g1;obtain⟨z0,z1,z2,z3,z4⟩:=uR5 g1;simp at z0 z1 z2 z3 z4;have H:=hQd g1;have HK:=hQd hk;have HF:=hQd hf;have HFW:=hQd hfew;have HLL:=hQd hll;have k5:¬(dd.length:Int)<1:=by omega
 have k6:¬32767<(dd.length:Int):=by omega
 have k7:decide ((dd.length:Int)<1)=false:=decide_eq_false k5;have k8:decide (32767<(dd.length:Int))=false:=decide_eq_false k6;have d1:decide (ac< -1)=true:=decide_eq_true n1;clear h g1 hk hf hfew h1 h2 n1;clear hll;go_enter Tryz.func10,Tryz.ntmps10;go_wp2_with (fail);go_ret;exact⟨rfl,H.out.drop⟩
theorem zKa(dd:Bs)(ac tm v:Int)(l:List PTop)(q:Option Addr)(cap:Nat)(hf:∀x∈l,CkT2 x)(hfew:zBh l)(hll:l.length≤3518437208780)(h1:1≤dd.length)(h2:dd.length≤32767)(n1:¬ac< -1)(n2:1<ac)(hk:K.has (Know.ptops (.slice q l.length cap) l))(h:St W0 w K L):
 Calls Tryz.prog 10 #[.agg #[.bool false,.string (bb dd),.int .i64 ac,.int .i64 tm,.slice q l.length cap],.int .i64 v] w fun en w'=>en=.returned (.int .i64 11)∧St W0 w' K L:=by
 obtain⟨rb,hrb⟩:∃b,w.heap.size=b:=⟨_,rfl⟩;have g1:=h.allocRaw #[.bool false,.string (bb dd),.int .i64 ac,.int .i64 tm,.slice q l.length cap] 40;rw[hrb]at g1;obtain⟨z0,z1,z2,z3,z4⟩:=uR5 g1;simp at z0 z1 z2 z3 z4;have H:=hQd g1;have HK:=hQd hk;have HF:=hQd hf;have HFW:=hQd hfew;have HLL:=hQd hll;have k5:¬(dd.length:Int)<1:=by omega
 have k6:¬32767<(dd.length:Int):=by omega
 have k7:decide ((dd.length:Int)<1)=false:=decide_eq_false k5;have k8:decide (32767<(dd.length:Int))=false:=decide_eq_false k6;have d1:decide (ac< -1)=false:=decide_eq_false n1;have d2:decide (1<ac)=true:=decide_eq_true n2;clear h g1 hk hf hfew h1 h2 n1 n2;clear hll;go_enter Tryz.func10,Tryz.ntmps10;go_wp2_with (fail);go_ret;exact⟨rfl,H.out.drop⟩
theorem zJ9(dd:Bs)(ac tm v:Int)(l:List PTop)(q:Option Addr)(cap:Nat)(hf:∀x∈l,CkT2 x)(hfew:zBh l)(hll:l.length≤3518437208780)(h1:1≤dd.length)(h2:dd.length≤32767)(n1:¬ac< -1)(n2:¬1<ac)(n3:tm<0)(hk:K.has (Know.ptops (.slice q l.length cap) l))(h:St W0 w K L):
 Calls Tryz.prog 10 #[.agg #[.bool false,.string (bb dd),.int .i64 ac,.int .i64 tm,.slice q l.length cap],.int .i64 v] w fun en w'=>en=.returned (.int .i64 11)∧St W0 w' K L:=by
 obtain⟨rb,hrb⟩:∃b,w.heap.size=b:=⟨_,rfl⟩;have g1:=h.allocRaw #[.bool false,.string (bb dd),.int .i64 ac,.int .i64 tm,.slice q l.length cap] 40;rw[hrb]at g1;obtain⟨z0,z1,z2,z3,z4⟩:=uR5 g1;simp at z0 z1 z2 z3 z4;have H:=hQd g1;have HK:=hQd hk;have HF:=hQd hf;have HFW:=hQd hfew;have HLL:=hQd hll;have k5:¬(dd.length:Int)<1:=by omega
 have k6:¬32767<(dd.length:Int):=by omega
 have k7:decide ((dd.length:Int)<1)=false:=decide_eq_false k5;have k8:decide (32767<(dd.length:Int))=false:=decide_eq_false k6;have d1:decide (ac< -1)=false:=decide_eq_false n1;have d2:decide (1<ac)=false:=decide_eq_false n2;have d3:decide (tm<0)=true:=decide_eq_true n3;clear h g1 hk hf hfew h1 h2 n1 n2 n3;clear hll;go_enter Tryz.func10,Tryz.ntmps10;go_wp2_with (fail);go_ret;exact⟨rfl,H.out.drop⟩
theorem zJ8(dd:Bs)(ac tm v:Int)(l:List PTop)(q:Option Addr)(cap:Nat)(hf:∀x∈l,CkT2 x)(hfew:zBh l)(hll:l.length≤3518437208780)(h1:1≤dd.length)(h2:dd.length≤32767)(n1:¬ac< -1)(n2:¬1<ac)(n3:¬tm<0)(n4:2147483647<tm)(hk:K.has (Know.ptops (.slice q l.length cap) l))(h:St W0 w K L):
 Calls Tryz.prog 10 #[.agg #[.bool false,.string (bb dd),.int .i64 ac,.int .i64 tm,.slice q l.length cap],.int .i64 v] w fun en w'=>en=.returned (.int .i64 11)∧St W0 w' K L:=by
 obtain⟨rb,hrb⟩:∃b,w.heap.size=b:=⟨_,rfl⟩;have g1:=h.allocRaw #[.bool false,.string (bb dd),.int .i64 ac,.int .i64 tm,.slice q l.length cap] 40;rw[hrb]at g1;obtain⟨z0,z1,z2,z3,z4⟩:=uR5 g1;simp at z0 z1 z2 z3 z4;have H:=hQd g1;have HK:=hQd hk;have HF:=hQd hf;have HFW:=hQd hfew;have HLL:=hQd hll;have k5:¬(dd.length:Int)<1:=by omega
 have k6:¬32767<(dd.length:Int):=by omega
 have k7:decide ((dd.length:Int)<1)=false:=decide_eq_false k5;have k8:decide (32767<(dd.length:Int))=false:=decide_eq_false k6;have d1:decide (ac< -1)=false:=decide_eq_false n1;have d2:decide (1<ac)=false:=decide_eq_false n2;have d3:decide (tm<0)=false:=decide_eq_false n3;have d4:decide (2147483647<tm)=true:=decide_eq_true n4;clear h g1 hk hf hfew h1 h2 n1 n2 n3 n4;clear hll;go_enter Tryz.func10,Tryz.ntmps10;go_wp2_with (fail);go_ret;exact⟨rfl,H.out.drop⟩
theorem zLE(dd:Bs)(ac tm v:Int)(l:List PTop)(q:Option Addr)(cap:Nat)(hf:∀x∈l,CkT2 x)(hfew:zBh l)(hll:l.length≤3518437208780)(h1:1≤dd.length)(h2:dd.length≤32767)(n1:¬ac< -1)(n2:¬1<ac)(n3:¬tm<0)(n4:¬2147483647<tm)(e:Int)(het:zAP l=e)(h0:e≠0)(hk:K.has (Know.ptops (.slice q l.length cap) l))(h:St W0 w K L):
 Calls Tryz.prog 10 #[.agg #[.bool false,.string (bb dd),.int .i64 ac,.int .i64 tm,.slice q l.length cap],.int .i64 v] w fun en w'=>en=.returned (.int .i64 e)∧St W0 w' K L:=by
 obtain⟨rb,hrb⟩:∃b,w.heap.size=b:=⟨_,rfl⟩;have g1:=h.allocRaw #[.bool false,.string (bb dd),.int .i64 ac,.int .i64 tm,.slice q l.length cap] 40;rw[hrb]at g1;obtain⟨z0,z1,z2,z3,z4⟩:=uR5 g1;simp at z0 z1 z2 z3 z4;have H:=hQd g1;have HK:=hQd hk;have HF:=hQd hf;have HFW:=hQd hfew;have HLL:=hQd hll;have k5:¬(dd.length:Int)<1:=by omega
 have k6:¬32767<(dd.length:Int):=by omega
 have k7:decide ((dd.length:Int)<1)=false:=decide_eq_false k5;have k8:decide (32767<(dd.length:Int))=false:=decide_eq_false k6;have d1:decide (ac< -1)=false:=decide_eq_false n1;have d2:decide (1<ac)=false:=decide_eq_false n2;have d3:decide (tm<0)=false:=decide_eq_false n3;have d4:decide (2147483647<tm)=false:=decide_eq_false n4;have HET:=hQd het;have e1:(e==0)=false:=by rw[beq_eq_false_iff_ne];exact h0
 have e3:(e !=0)=true:=by simp[bne,e1]
 clear h g1 hk hf hfew h1 h2 n1 n2 n3 n4 het h0;clear hll;go_enter Tryz.func10,Tryz.ntmps10
 go_wp2_with (first
  |(go_at_call 35;clear z0 z1 z2 z3 z4;(with_reducible refine(zMB l q cap e HET.out HLL.out HFW.out HK.out H.out).mono ?_);rintro e_ wn ⟨rfl,h⟩;obtain⟨z0,z1,z2,z3,z4⟩:=uR5 h;simp at z0 z1 z2 z3 z4;replace H:=hQd h;clear h))
 go_ret;exact⟨rfl,H.out.drop⟩
theorem zLF(dd:Bs)(ac tm v:Int)(l:List PTop)(q:Option Addr)(cap:Nat)(hf:∀x∈l,CkT2 x)(hfew:zBh l)(hll:l.length≤3518437208780)(h1:1≤dd.length)(h2:dd.length≤32767)(n1:¬ac< -1)(n2:¬1<ac)(n3:¬tm<0)(n4:¬2147483647<tm)(het:zAP l=0)(e:Int)(hep:zBO true v l=e)(hk:K.has (Know.ptops (.slice q l.length cap) l))(h:St W0 w K L):
 Calls Tryz.prog 10 #[.agg #[.bool false,.string (bb dd),.int .i64 ac,.int .i64 tm,.slice q l.length cap],.int .i64 v] w fun en w'=>en=.returned (.int .i64 e)∧St W0 w' K L:=by
 obtain⟨rb,hrb⟩:∃b,w.heap.size=b:=⟨_,rfl⟩;have g1:=h.allocRaw #[.bool false,.string (bb dd),.int .i64 ac,.int .i64 tm,.slice q l.length cap] 40;rw[hrb]at g1;obtain⟨z0,z1,z2,z3,z4⟩:=uR5 g1;simp at z0 z1 z2 z3 z4;have H:=hQd g1;have HK:=hQd hk;have HF:=hQd hf;have HFW:=hQd hfew;have HLL:=hQd hll;have k5:¬(dd.length:Int)<1:=by omega
 have k6:¬32767<(dd.length:Int):=by omega
 have k7:decide ((dd.length:Int)<1)=false:=decide_eq_false k5;have k8:decide (32767<(dd.length:Int))=false:=decide_eq_false k6;have d1:decide (ac< -1)=false:=decide_eq_false n1;have d2:decide (1<ac)=false:=decide_eq_false n2;have d3:decide (tm<0)=false:=decide_eq_false n3;have d4:decide (2147483647<tm)=false:=decide_eq_false n4;have HET:=hQd het;clear h g1 hk hf hfew h1 h2 n1 n2 n3 n4 het;have HR:=hQd (show zBO true v (l.drop 0)=e by rw[List.drop_zero];exact hep);have hni:(l.length:Int)≤3518437208780:=by omega
 clear hep hll;go_enter Tryz.func10,Tryz.ntmps10;go_wp2_with (go_at_call 35;clear z0 z1 z2 z3 z4;(with_reducible refine(zMB l q cap 0 HET.out HLL.out HFW.out HK.out H.out).mono ?_);rintro e_ wn ⟨rfl,h⟩;obtain⟨z0,z1,z2,z3,z4⟩:=uR5 h;simp at z0 z1 z2 z3 z4;replace H:=hQd h;clear h);clear z0 z1 z2 z3 z4;go_loopw [6] (fun iv wr=>∃(k:Nat),k≤l.length∧iv=.int .i64 k∧Hid (zBO true v (l.drop k)=e)∧St W0 wr K (.raw rb #[.bool false,.string (bb dd),.int .i64 ac,.int .i64 tm,.slice q l.length cap] 40::L)) (fun iv _=>l.length - (intOf iv).toNat)
 case atStart=>exact⟨0,Nat.zero_le _,rfl,HR,H.out⟩
 case round=>
  obtain⟨k,hkl,rfl,HC,hst⟩:=hrel;clear H HR;have H:=hQd hst;clear hst;have z4:=H.out.rawCell 4;simp at z4
  by_cases hlt:k<l.length
  ·obtain⟨bk,off,hqq⟩:=zB9 HK.out H.out oM;obtain⟨x,hx⟩:∃x,l[k]=x:=⟨_,rfl⟩;have hmem:x∈l:=hx ▸ List.getElem_mem hlt;have hck:=HF.out x hmem;have HXK0:=zA5 HK.out hmem;have hc:=HC.out;rw[List.drop_eq_getElem_cons hlt,hx,zCt]at hc;have hkn:(k:Int)<(l.length:Int):=by omega
   have HX:=hQd hx;subst hqq;obtain⟨nm,xl,xq,xcap⟩:=x;simp only at hc HXK0;have HXK:=hQd HXK0;have HXF:=hQd (show ∀y∈xl,CkP2 y from hck.parts);have hxl:xl.length≤4398046511104:=hck.len;have hxi:(xl.length:Int)≤4398046511104:=by omega
   have HC2:=hQd (show(if zBz true v (xl.drop 0)≠0 then zBz true v (xl.drop 0)else zBO true v (l.drop (k+1)))=e by rw[List.drop_zero];exact hc);clear hx hmem hck HXK0 hxl hc;go_wp2_with fail;clear z4;go_loopw [7] (fun jv wr=>∃(j:Nat),j≤xl.length∧jv=.int .i64 j∧Hid ((if zBz true v (xl.drop j)≠0 then zBz true v (xl.drop j)else zBO true v (l.drop (k+1)))=e)∧St W0 wr K (.raw rb #[.bool false,.string (bb dd),.int .i64 ac,.int .i64 tm,.slice (some ⟨bk,off,none⟩) l.length cap] 40::L)) (fun jv _=>xl.length - (intOf jv).toNat)
   case atStart=>exact⟨0,Nat.zero_le _,rfl,HC2,H.out⟩
   case round=>
    obtain⟨j,hjl,rfl,HD,hst⟩:=hrel;clear H HC2;have H:=hQd hst;clear hst;have z4:=H.out.rawCell 4;simp at z4;obtain⟨_,c1⟩:=zAZ HK.out H.out k hlt _ HX.out;simp only at c1
    by_cases hjt:j<xl.length
    ·obtain⟨pk,poff,hpq⟩:=zBB HXK.out H.out oM;subst hpq;obtain⟨y,hy⟩:∃y,xl[j]=y:=⟨_,rfl⟩;have hmem:y∈xl:=hy ▸ List.getElem_mem hjt;have hcy:=HXF.out y hmem;have HYK0:=zBp HXK.out hmem;have hd:=HD.out;rw[List.drop_eq_getElem_cons hjt,hy,zKB]at hd;have hjn:(j:Int)<(xl.length:Int):=by omega
     have HY:=hQd hy;obtain⟨yi,yl,yq,ycap⟩:=y;simp only at hd HYK0;have HYK:=hQd HYK0;have HYF:=hQd (show ∀z∈yl,CkB z from hcy.bats);have HYN:=hQd (show yl.length≤4398046511104 from hcy.len);obtain⟨be,hbe⟩:∃n,zHd true v yl=n:=⟨_,rfl⟩;have HBE:=hQd hbe;rw[hbe]at hd
     have HKP:=hQd (show ∀(w':World),St W0 w' K (.raw rb #[.bool false,.string (bb dd),.int .i64 ac,.int .i64 tm,.slice (some ⟨bk,off,none⟩) l.length cap] 40::L)→(w'.cell? ⟨rb,0,none⟩=some (.bool false)∧w'.cell? ⟨rb,4,none⟩=some (.slice (some ⟨bk,off,none⟩) l.length cap)∧w'.cell? ⟨bk,off+k*2+1,none⟩=some (.slice (some ⟨pk,poff,none⟩) xl.length xcap)∧w'.cell? ⟨pk,poff+j*2+1,none⟩=some (.slice yq yl.length ycap))from fun w' hs=>by
      have a0:=hs.rawCell 0;have a4:=hs.rawCell 4;obtain⟨_,b1⟩:=zAZ HK.out hs k hlt _ HX.out;obtain⟨_,d1⟩:=zAW HXK.out hs j hjt _ HY.out;simp at a0 a4
      exact⟨a0,a4,b1,d1⟩)
     clear hy hmem hcy HYK0 hbe
     by_cases b0:be=0
     ·subst b0;have HC3:=hQd (ifs_0 hd);clear hd;go_wp2;have hs:=H.out.drew;refine wp_region_held_drew (S:=fun w'=>w'.cell? ⟨rb,0,none⟩=some (.bool false)∧w'.cell? ⟨rb,4,none⟩=some (.slice (some ⟨bk,off,none⟩) l.length cap)∧w'.cell? ⟨bk,off+k*2+1,none⟩=some (.slice (some ⟨pk,poff,none⟩) xl.length xcap)∧w'.cell? ⟨pk,poff+j*2+1,none⟩=some (.slice yq yl.length ycap)) (by kernel_rfl) (HKP.out _ hs) (fun hHeld=> ?_);refine tR 0 ?_;refine tR 1 ?_;refine tR 2 ?_;refine tR 3 ?_;refine tR 4 ?_;refine tR 5 ?_;refine tR 6 ?_;refine tR 7 ?_;refine tR 8 ?_;refine tR 9 ?_;refine tR 10 ?_;refine tR 11 ?_;refine tR 12 ?_;refine tR 13 ?_;refine tR 14 ?_;refine wR [15] (rC rfl (fun KK hK=> ?_) rN);go_simp;go_at_call 36;with_reducible refine(zEL true v yl yq ycap _ HBE.out HYF.out HYN.out HYK.out hs).mono ?_;rintro e wq ⟨rfl,hs⟩;refine hK.out _ _ (HKP.out _ hs) (fun hHeld=> ?_);clear hK KK
      exact zq28
     ·rw[if_pos b0,if_pos b0]at hd;subst hd;have g1:(be==0)=false:=by rw[beq_eq_false_iff_ne];exact b0
      have g2:(be !=0)=true:=by simp[bne,g1]
      have g3:¬be=0:=b0;clear b0;go_wp2;have hs:=H.out.drew;refine wp_region_held_drew (S:=fun w'=>w'.cell? ⟨rb,0,none⟩=some (.bool false)∧w'.cell? ⟨rb,4,none⟩=some (.slice (some ⟨bk,off,none⟩) l.length cap)∧w'.cell? ⟨bk,off+k*2+1,none⟩=some (.slice (some ⟨pk,poff,none⟩) xl.length xcap)∧w'.cell? ⟨pk,poff+j*2+1,none⟩=some (.slice yq yl.length ycap)) (by kernel_rfl) (HKP.out _ hs) (fun hHeld=> ?_);refine tR 0 ?_;refine tR 1 ?_;refine tR 2 ?_;refine tR 3 ?_;refine tR 4 ?_;refine tR 5 ?_;refine tR 6 ?_;refine tR 7 ?_;refine tR 8 ?_;refine tR 9 ?_;refine tR 10 ?_;refine tR 11 ?_;refine tR 12 ?_;refine tR 13 ?_;refine tR 14 ?_;refine wR [15] (rC rfl (fun KK hK=> ?_) rN);go_simp;go_at_call 36;with_reducible refine(zEL true v yl yq ycap _ HBE.out HYF.out HYN.out HYK.out hs).mono ?_;rintro e wq ⟨rfl,hs⟩;refine hK.out _ _ (HKP.out _ hs) (fun hHeld=> ?_);clear hK KK
      exact zq36
    ·obtain rfl:j=xl.length:=by omega
     have hd:=HD.out;rw[List.drop_length]at hd;have hd:zBO true v (l.drop (k+1))=e:=hd;have HC4:=hQd hd;clear hd;go_wp2;go_roundw
     case rel=>exact⟨k+1,hlt,by go_num,HC4,H.out⟩
     case measure=>first|(simp[intOf];done)|(simp[intOf];omega)
  ·exact zq49
theorem zGj(nl:Bool)(dd:Bs)(ac tm v:Int)(l:List PTop)(q:Option Addr)(cap:Nat)(hf:∀x∈l,CkT2 x)(hfew:zBh l)(hll:l.length≤3518437208780)(e:Int)(he:zAC ⟨nl,dd⟩ ac tm v l=e)(hk:K.has (Know.ptops (.slice q l.length cap) l))(h:St W0 w K L):
 Calls Tryz.prog 10 #[.agg #[.bool nl,.string (bb dd),.int .i64 ac,.int .i64 tm,.slice q l.length cap],.int .i64 v] w fun en w'=>en=.returned (.int .i64 e)∧St W0 w' K L:=by
 unfold zAC at he
 cases nl with
 |true=>
  by_cases hd:dd=[]
  ·subst hd;rw[if_neg (by simp[BlobS.right])]at he
   by_cases n1:ac< -1
   ·rw[if_pos (.inl n1)]at he;subst he;exact zLJ ac tm v l q cap hf hfew hll n1 hk h
   by_cases n2:1<ac
   ·rw[if_pos (.inr (.inl n2))]at he;subst he;exact zLI ac tm v l q cap hf hfew hll n1 n2 hk h
   by_cases n3:tm<0
   ·rw[if_pos (.inr (.inr (.inl n3)))]at he;subst he;exact zLH ac tm v l q cap hf hfew hll n1 n2 n3 hk h
   by_cases n4:2147483647<tm
   ·rw[if_pos (.inr (.inr (.inr n4)))]at he;subst he;exact zLG ac tm v l q cap hf hfew hll n1 n2 n3 n4 hk h
   rw[if_neg oM]at he
   by_cases ht:zAP l=0
   ·rw[if_neg (by simp[ht])]at he;exact zNE ac tm v l q cap hf hfew hll n1 n2 n3 n4 ht e he hk h
   ·rw[if_pos ht]at he;exact zND ac tm v l q cap hf hfew hll n1 n2 n3 n4 e he (by rw[←he];exact ht) hk h
  ·rw[if_pos (.inl (by unfold BlobS.right;cases dd with|nil=>exact absurd rfl hd|cons _ _=>rfl))]at he;subst he;exact rck_r0 dd ac tm v l q cap hf hfew hll hd hk h
 |false=>
  by_cases hd:dd=[]
  ·subst hd;rw[if_pos (.inr ⟨rfl,rfl⟩)]at he;subst he;exact rck_k0 ac tm v l q cap hf hfew hll hk h
  ·have h1:1≤dd.length:=List.length_pos_iff.2 hd
   by_cases h2:dd.length≤32767
   ·have hkr:zAv dd=true:=by
     unfold zAv;rw[decide_eq_true h2]
     cases dd with
     |nil=>exact absurd rfl hd
     |cons _ _=>rfl
    rw[if_neg (by simp[BlobS.right,hkr])]at he
    by_cases n1:ac< -1
    ·rw[if_pos (.inl n1)]at he;subst he;exact zKb dd ac tm v l q cap hf hfew hll h1 h2 n1 hk h
    by_cases n2:1<ac
    ·rw[if_pos (.inr (.inl n2))]at he;subst he;exact zKa dd ac tm v l q cap hf hfew hll h1 h2 n1 n2 hk h
    by_cases n3:tm<0
    ·rw[if_pos (.inr (.inr (.inl n3)))]at he;subst he;exact zJ9 dd ac tm v l q cap hf hfew hll h1 h2 n1 n2 n3 hk h
    by_cases n4:2147483647<tm
    ·rw[if_pos (.inr (.inr (.inr n4)))]at he;subst he;exact zJ8 dd ac tm v l q cap hf hfew hll h1 h2 n1 n2 n3 n4 hk h
    rw[if_neg oM]at he
    by_cases ht:zAP l=0
    ·rw[if_neg (by simp[ht])]at he;exact zLF dd ac tm v l q cap hf hfew hll h1 h2 n1 n2 n3 n4 ht e he hk h
    ·rw[if_pos ht]at he;exact zLE dd ac tm v l q cap hf hfew hll h1 h2 n1 n2 n3 n4 e he (by rw[←he];exact ht) hk h
   ·have hkr:zAv dd=false:=by
     unfold zAv;rw[decide_eq_false h2,Bool.and_false]
    rw[if_pos (.inr ⟨rfl,hkr⟩)]at he;subst he;exact rck_k1 dd ac tm v l q cap hf hfew hll oM hk h
def PTop.nl (x:PTop):Bs×List PartR:=(x.name,x.l)
theorem nl_pt{l m:List PTop}(h:l.map PTop.nl=m.map PTop.nl):l.map PTop.pt=m.map PTop.pt:=by
 have e:PTop.pt=(fun p:Bs×List PartR=>(p.1,p.2.map PartR.pb))∘PTop.nl:=rfl;rw[e,←List.map_map,h,List.map_map]
theorem zQZ{l m:List PTop}(h:l.map PTop.nl=m.map PTop.nl):l.length=m.length:=by have:=congrArg List.length h;simpa using this
theorem zQY{l m:List PTop}(h:l.map PTop.nl=m.map PTop.nl){x:PTop}(hx:x∈l):∃y∈m,y.name=x.name∧y.l=x.l:=by
 have h1:x.nl∈m.map PTop.nl:=h ▸ List.mem_map_of_mem hx;obtain⟨y,hy,e⟩:=List.mem_map.1 h1;exact⟨y,hy,congrArg Prod.fst e,congrArg Prod.snd e⟩
theorem zKN:zEd Tryz.prog 85 (.agg #[.int .i64 0,.slice none 0 0]) 2 32:=zBT (by kernel_rfl) rfl dD
theorem zKM:zEd Tryz.prog 83 (.agg #[.string ⟨#[]⟩,.slice none 0 0]) 2 40:=zBT (by kernel_rfl) rfl dD
theorem zOl{α:Type}(f:α→List Value)(l:List α)(k:Nat)(h:k<l.length)(x:α)(hx:l[k]=x):(l.take (k+1)).flatMap f=(l.take k).flatMap f++f x:=by
 rw[List.take_succ_eq_append_getElem h,hx,List.flatMap_append]
 simp
theorem zMA:∀(l m:List PartR),l.map PartR.pb=m.map PartR.pb→∀a,zBL a l=zBL a m
 |[],[],_,_=>rfl
 |[],_::_,h,_=>by cases h
 | _::_,[],h,_=>by cases h
 |x::t,y::u,h,a=>by
  simp only[List.map_cons,List.cons.injEq]at h;have e:x.idx=y.idx:=congrArg Prod.fst h.1;rw[zDK,zDK,e,zMA t u h.2]
theorem zPk(txn:Bool):∀(l m:List BatR),l.map BatR.b=m.map BatR.b→zB5 txn l=zB5 txn m
 |[],[],_=>rfl
 |[],_::_,h=>by cases h
 | _::_,[],h=>by cases h
 |x::t,y::u,h=>by
  simp only[List.map_cons,List.cons.injEq]at h;rw[zC1,zC1,h.1,zPk txn t u h.2]
theorem pb_len{l m:List BatR}(h:l.map BatR.b=m.map BatR.b):l.length=m.length:=by have:=congrArg List.length h;simpa using this
theorem zMR(txn:Bool)(v:Int):∀(l m:List PartR),l.map PartR.pb=m.map PartR.pb→zBz txn v l=zBz txn v m
 |[],[],_=>rfl
 |[],_::_,h=>by cases h
 | _::_,[],h=>by cases h
 |x::t,y::u,h=>by
  simp only[List.map_cons,List.cons.injEq]at h;have e:x.l.map BatR.b=y.l.map BatR.b:=congrArg Prod.snd h.1;rw[zB4,zB4,pb_len e,zPk txn _ _ e,zMR txn v t u h.2]
theorem zOW{l m:List PartR}(h:l.map PartR.pb=m.map PartR.pb):l.length=m.length:=by have:=congrArg List.length h;simpa using this
theorem zPi:∀(l m:List PTop),l.map PTop.pt=m.map PTop.pt→∀a,errT a l=errT a m
 |[],[],_,_=>rfl
 |[],_::_,h,_=>by cases h
 | _::_,[],h,_=>by cases h
 |x::t,y::u,h,a=>by
  simp only[List.map_cons,List.cons.injEq]at h;have e1:x.name=y.name:=congrArg Prod.fst h.1;have e2:x.l.map PartR.pb=y.l.map PartR.pb:=congrArg Prod.snd h.1;rw[zDD,zDD,e1,zOW e2,zMA _ _ e2,zPi t u h.2]
theorem zMS(txn:Bool)(v:Int):∀(l m:List PTop),l.map PTop.pt=m.map PTop.pt→zBO txn v l=zBO txn v m
 |[],[],_=>rfl
 |[],_::_,h=>by cases h
 | _::_,[],h=>by cases h
 |x::t,y::u,h=>by
  simp only[List.map_cons,List.cons.injEq]at h;have e2:x.l.map PartR.pb=y.l.map PartR.pb:=congrArg Prod.snd h.1;rw[zCt,zCt,zMR txn v _ _ e2,zMS txn v t u h.2]
theorem zOV{l m:List PTop}(h:l.map PTop.pt=m.map PTop.pt):l.length=m.length:=by have:=congrArg List.length h;simpa using this
theorem zPj(id:BlobS)(ac tm v:Int){l m:List PTop}(h:l.map PTop.pt=m.map PTop.pt):zAC id ac tm v l=zAC id ac tm v m:=by
 unfold zAC zAP;rw[zPi l m h,zMS _ v l m h,zOV h]
theorem zQ2:∀(l m:List BatR),l.map BatR.b=m.map BatR.b→encB l=encB m
 |[],[],_=>rfl
 |[],_::_,h=>by cases h
 | _::_,[],h=>by cases h
 |x::t,y::u,h=>by
  simp only[List.map_cons,List.cons.injEq]at h;rw[zEz,zEz,h.1,zQ2 t u h.2]
theorem zHe:∀(l m:List PartR),l.map PartR.pb=m.map PartR.pb→l.flatMap zAL=m.flatMap zAL
 |[],[],_=>rfl
 |[],_::_,h=>by cases h
 | _::_,[],h=>by cases h
 |x::t,y::u,h=>by
  simp only[List.map_cons,List.cons.injEq]at h;have e1:x.idx=y.idx:=congrArg Prod.fst h.1;have e2:x.l.map BatR.b=y.l.map BatR.b:=congrArg Prod.snd h.1;rw[List.flatMap_cons,List.flatMap_cons,zHe t u h.2];unfold zAL;rw[e1,zQ2 _ _ e2]
theorem zHg:∀(l m:List PTop),l.map PTop.pt=m.map PTop.pt→l.flatMap zAJ=m.flatMap zAJ
 |[],[],_=>rfl
 |[],_::_,h=>by cases h
 | _::_,[],h=>by cases h
 |x::t,y::u,h=>by
  simp only[List.map_cons,List.cons.injEq]at h;have e1:x.name=y.name:=congrArg Prod.fst h.1;have e2:x.l.map PartR.pb=y.l.map PartR.pb:=congrArg Prod.snd h.1;rw[List.flatMap_cons,List.flatMap_cons,zHg t u h.2];unfold zAJ;rw[e1,zOW e2,zHe _ _ e2]
theorem zNY(nl:Bool)(dd:Bs)(ac tm:Int){l m:List PTop}(h:l.map PTop.pt=m.map PTop.pt):zCi nl dd ac tm l=zCi nl dd ac tm m:=by
 unfold zCi;rw[zOV h,zHg l m h]
theorem wrT_nl{l m:List PTop}(h:m.map PTop.nl=l.map PTop.nl)(hf:∀x∈l,WrT x):∀x∈m,WrT x:=by
 intro x hx;obtain⟨y,hy,e1,e⟩:=zQY h hx;have c:=hf y hy;exact⟨by rw[←e1];exact c.name,fun v hv=>c.parts v (by rw[e];exact hv)⟩
theorem zJw:∀(l:List PTop) (x:PTop),x∈l→x.name.length+10+zCV x.l≤zCh l
 |[],_,h=>by cases h
 |y::t,x,h=>by
  simp only[zCh]
  rcases List.mem_cons.1 h with rfl|h
  ·omega
  ·have:=zJw t x h;omega
theorem zJz:∀(l:List PartR) (y:PartR),y∈l→10+100*y.l.length≤zCV l
 |[],_,h=>by cases h
 |z::t,y,h=>by
  simp only[zCV]
  rcases List.mem_cons.1 h with rfl|h
  ·omega
  ·have:=zJz t y h;omega
theorem zJx:∀(l:List PTop),10*l.length≤zCh l
 |[]=>by simp[zCh]
 |x::t=>by have:=zJx t;simp only[zCh,List.length_cons];omega
theorem zJA:∀(l:List PartR),10*l.length≤zCV l
 |[]=>by simp[zCV]
 |x::t=>by have:=zJA t;simp only[zCV,List.length_cons];omega
theorem zMQ:∀(l:List PTop) (a:Bs),errT a l=0→∀x∈l,x.l.length≠0∧zAv x.name=true∧zBL (-1) x.l=true
 |[],_,_,_,hx=>by cases hx
 |y::t,a,h,x,hx=>by
  rw[zDD]at h
  by_cases h0:y.l.length=0
  ·rw[if_pos h0]at h;cases h
  rw[if_neg h0]at h
  by_cases hb:(zAv y.name && Op.bytesLess a y.name && zBL (-1) y.l)=true
  ·rw[if_pos hb]at h;simp only[Bool.and_eq_true]at hb
   rcases List.mem_cons.1 hx with rfl|hx
   ·exact⟨h0,hb.1.1,hb.2⟩
   ·exact zMQ t y.name h x hx
  ·rw[if_neg hb]at h;cases h
theorem zJK:∀(l:List PartR) (a:Int),zBL a l=true→∀y∈l,a<y.idx∧y.idx≤2147483647
 |[],_,_,_,hy=>by cases hy
 |z::t,a,h,y,hy=>by
  rw[zDK]at h;simp only[Bool.and_eq_true,decide_eq_true_eq]at h
  rcases List.mem_cons.1 hy with rfl|hy
  ·exact h.1
  ·have:=zJK t z.idx h.2 y hy;omega
theorem zKE(txn:Bool):∀(l:List BatR),zB5 txn l=0→∀z∈l,zAl z.b=0
 |[],_,_,hz=>by cases hz
 |y::t,h,z,hz=>by
  rw[zC1]at h;obtain⟨be,hbe⟩:∃n,zAl y.b=n:=⟨_,rfl⟩;rw[hbe]at h
  by_cases h0:be=0
  ·rw[if_neg (fun hh=>hh h0)]at h
   by_cases h1:y.b.ctl=true
   ·rw[if_pos h1]at h;exact absurd h dD
   rw[if_neg h1]at h
   by_cases h2:y.b.txn≠txn
   ·rw[if_pos h2]at h;exact absurd h dD
   rw[if_neg h2]at h
   rcases List.mem_cons.1 hz with hz|hz
   ·rw[hz];exact hbe.trans h0
   ·exact zKE txn t h z hz
  ·rw[if_pos h0]at h;exact absurd h h0
theorem zKC(txn:Bool)(v:Int):∀(l:List PartR),zBz txn v l=0→∀y∈l,zB5 txn y.l=0
 |[],_,_,hx=>by cases hx
 |y::t,h,x,hx=>by
  rw[zB4]at h
  by_cases h0:y.l.length=0∨(v=3∧1<y.l.length)
  ·rw[if_pos h0]at h;cases h
  rw[if_neg h0]at h
  by_cases h1:zB5 txn y.l=0
  ·rw[if_neg (by simp[h1])]at h
   rcases List.mem_cons.1 hx with rfl|hx
   ·exact h1
   ·exact zKC txn v t h x hx
  ·rw[if_pos h1]at h;exact absurd h h1
theorem zKD(txn:Bool)(v:Int):∀(l:List PTop),zBO txn v l=0→∀x∈l,zBz txn v x.l=0
 |[],_,_,hx=>by cases hx
 |y::t,h,x,hx=>by
  rw[zCt]at h
  by_cases h1:zBz txn v y.l=0
  ·rw[if_neg (by simp[h1])]at h
   rcases List.mem_cons.1 hx with rfl|hx
   ·exact h1
   ·exact zKD txn v t h x hx
  ·rw[if_pos h1]at h;exact absurd h h1
theorem zKF:∀(l:List BatR),(∀z∈l,zAl z.b=0)→errB l=0
 |[],_=>rfl
 |x::t,h=>by
  show(if zAl x.b=0 then errB t else zAl x.b)=0
  rw[if_pos (h x (by simp))];exact zKF t (fun z hz=>h z (by simp[hz]))
theorem zHf:∀(l:List PartR),(∀y∈l,(encB y.l).length≤14000*y.l.length)→(l.flatMap zAL).length≤140*zCV l
 |[],_=>by simp[zCV]
 |x::t,h=>by
  have h1:=zHf t (fun y hy=>h y (by simp[hy]));have h2:=h x (by simp)
  have h3:(zAL x).length=8+(encB x.l).length:=by
   unfold zAL encF;simp only[List.length_append];have g1:(zAd x.idx (4:Int).toNat).length=4:=zAg _ _;have g2:∀n,(zAd n 4).length=4:=fun n=>zAg _ _
   rw[g1,g2]
   omega
  rw[List.flatMap_cons,List.length_append,h3];simp only[zCV]
  omega
theorem zHh:∀(l:List PTop),(∀x∈l,∀y∈x.l,(encB y.l).length≤14000*y.l.length)→(l.flatMap zAJ).length≤140*zCh l
 |[],_=>by simp[zCh]
 |x::t,h=>by
  have h1:=zHh t (fun y hy=>h y (by simp[hy]));have h2:=zHf x.l (h x (by simp))
  have h3:(zAJ x).length=6+x.name.length+(x.l.flatMap zAL).length:=by
   unfold zAJ encF;simp only[List.length_append];have g1:(zAd (x.l.length:Int) (4:Int).toNat).length=4:=zAg _ _;have g2:∀n,(zAd n 2).length=2:=fun n=>zAg _ _
   rw[g1,g2]
   omega
  rw[List.flatMap_cons,List.length_append,h3];simp only[zCh]
  omega
theorem zKI:∀(l:List BatR),(∀x∈l,x.b.enc.length≤14000)→(encB l).length≤14000*l.length
 |[],_=>by simp[encB]
 |x::t,h=>by
  have h1:=zKI t (fun y hy=>h y (by simp[hy]));have h2:=h x (by simp);rw[zEz,List.length_append,List.length_cons]
  omega
structure GoodReq (nl:Bool) (dd:Bs) (ac tm:Int) (l:List PTop):Prop where
 right:(⟨nl,dd⟩:BlobS).right=true
 id:dd.length≤32767
 hac: -1≤ac∧ac≤1
 htm:0≤tm∧tm<2147483648
 few:l.length≤1000000
 put:∀x∈l,PutT x
 wr:∀x∈l,WrT x
 bk:∀x∈l,BkT x
 len:(zCi nl dd ac tm l).length≤300000
theorem GoodReq.of{nl:Bool}{dd:Bs}{ac tm v:Int}{l:List PTop}(he:zAC ⟨nl,dd⟩ ac tm v l=0)(hf:∀x∈l,FewT20 x)(hs:∀x∈l,SmT x)(hz:∀j,j≤l.length→AllP (l.take j)→j=0∨dd.length+zCh (l.take j)≤2000):GoodReq nl dd ac tm l:=by
 unfold zAC at he
 by_cases h1:(⟨nl,dd⟩:BlobS).right=false∨((⟨nl,dd⟩:BlobS).null=false∧zAv (⟨nl,dd⟩:BlobS).data=false)
 ·rw[if_pos h1]at he;cases he
 rw[if_neg h1]at he
 by_cases h2:ac< -1∨1<ac∨tm<0∨2147483647<tm
 ·rw[if_pos h2]at he;cases he
 rw[if_neg h2]at he
 by_cases h3:zAP l=0
 rotate_left
 ·rw[if_pos h3]at he;exact absurd he h3
 rw[if_neg (by simp[h3])]at he;have hr:(⟨nl,dd⟩:BlobS).right=true:=by cases hh:(⟨nl,dd⟩:BlobS).right with|true=>rfl|false=>exact absurd (.inl hh) h1
 have h0:l.length≠0:=fun hh=>by unfold zAP at h3;rw[if_pos hh]at h3;cases h3
 have ht:errT [] l=0:=by unfold zAP at h3;rw[if_neg h0]at h3;exact h3
 have hT:=zMQ l [] ht
 have hsz:dd.length+zCh l≤2000:=by
  rcases hz l.length (Nat.le_refl _) (by rw[List.take_length];exact fun x hx=>(hT x hx).1)with h|h
  ·exact absurd h h0
  ·rwa [List.take_length]at h
 have hP:=zKD (!nl) v l he;have hbat:∀x∈l,∀y∈x.l,∀z∈y.l,zAl z.b=0:=fun x hx y hy z hz=>zKE _ y.l (zKC _ _ x.l (hP x hx) y hy) z hz
 have hfit:∀x∈l,∀y∈x.l,∀z∈y.l,z.Fit:=fun x hx y hy z hz=>((hf x hx).parts y hy).fit z hz
 have hlen:∀x∈l,x.name.length≤2000∧x.l.length≤200∧∀y∈x.l,y.l.length≤20:=fun x hx=>by
  have g1:=zJw l x hx;have g2:=zJA x.l;refine⟨oM,oM,fun y hy=> ?_⟩;have g3:=zJz x.l y hy
  omega
 have hput:∀x∈l,PutT x:=fun x hx=>⟨by have:=(hlen x hx).1;omega,by have:=(hlen x hx).2.1;omega,fun y hy=>
  ⟨(hlen x hx).2.2 y hy,hfit x hx y hy,fun z hz=>hs x hx y hy z hz,zKF y.l (hbat x hx y hy),by have:=zJK x.l (-1) (hT x hx).2.2 y hy;omega⟩⟩
 have hso:∀x∈l,∀y∈x.l,∀z∈y.l,SmallOk z.b:=fun x hx y hy z hz=>BatR.small (hfit x hx y hy z hz) (hs x hx y hy z hz) (hbat x hx y hy z hz)
 have hl14:=zHh l (fun x hx y hy=>zKI y.l (fun z hz=>BatR.elen (hfit x hx y hy z hz) (hs x hx y hy z hz)));have hl10:=zJx l;refine⟨hr,oM,oM,oM,oM,hput,fun x hx=>⟨by have:=(hlen x hx).1;omega,fun y hy=>⟨by have:=((hput x hx).parts y hy).idx;omega,fun z hz=>⟨(hfit x hx y hy z hz).2.2,EncOk.small (hso x hx y hy z hz)⟩⟩⟩,fun x hx=>⟨by have:=(hlen x hx).1;omega,by have:=(hlen x hx).2.1;omega,fun y hy=>⟨by have:=((hput x hx).parts y hy).idx;omega,by have:=((hput x hx).parts y hy).len;omega,hso x hx y hy⟩⟩,?_⟩
 have e:(zCi nl dd ac tm l).length=12+dd.length+(l.flatMap zAJ).length:=by
  unfold zCi encF;simp only[List.length_append];have g1:(zAd (l.length:Int) (4:Int).toNat).length=4:=zAg _ _;have g2:∀n,(zAd n 2).length=2:=fun n=>zAg _ _
  have g3:(zAd tm (4:Int).toNat).length=4:=zAg _ _;have g4:(zAd ac (2:Int).toNat).length=2:=zAg _ _;rw[g1,g2,g3,g4]
  omega
 rw[e]
 omega
end Go.Proofs.YtnnnglklgofabaaGreat
