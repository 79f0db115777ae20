/- A text. -/
import Derived.Test.YtnnnglklgofabaaGreatGProduceReads10
import Derived.RegionTactic
import Derived.Deep.RegionHeld3
import Derived.Deep.DeepCutAuto
import Derived.WalkMore
import Derived.Test.YtnnnglklgofabaaGreatGProduceReads12
import Derived.Test.YtnnnglklgofabaaGreatGProduceReads8
import Derived.Test.YtnnnglklgofabaaGreatGProduceReads4
import Derived.Test.YtnnnglklgofabaaGreatGProduceReads6
import Derived.Test.YtnnnglklgofabaaGreatGProduceReads5
import Derived.Test.YtnnnglklgofabaaGreatGProduceReads13
import Derived.Test.YtnnnglklgofabaaGreatGProduceReads2
import Derived.Test.YtnnnglklgofabaaGreatGProduceReads7
/- A text. -/
namespace Go.Proofs.YtnnnglklgofabaaGreat
open Go.RowKit
set_option maxHeartbeats 8000000
set_option maxRecDepth 100000
variable {W0 w:World}{K:Know}{L:List Res}
theorem zHo(b:BatS)(sl:Value)(w:World):(Instr.buildSlice 66 1 #[(0,.agg #[.int .i64 b.base,.int .i64 b.leader,.bool b.app,.bool b.txn,.bool b.ctl,.int .i64 b.last,.int .i64 b.first,.int .i64 b.maxt,.int .i64 b.prod,.int .i64 b.epoch,.int .i64 b.seq,sl])]).run Tryz.prog w=.ok (.slice (some ⟨w.heap.size,0,none⟩) 1 1) (w.alloc (.cells #[.int .i64 b.base,.int .i64 b.leader,.bool b.app,.bool b.txn,.bool b.ctl,.int .i64 b.last,.int .i64 b.first,.int .i64 b.maxt,.int .i64 b.prod,.int .i64 b.epoch,.int .i64 b.seq,sl] 58 (0,0))):=by go_simp
theorem zHn(w:World):(Instr.buildSlice 66 1 #[(0,.agg #[.int .i64 0,.int .i64 0,.bool false,.bool false,.bool false,.int .i64 0,.int .i64 0,.int .i64 0,.int .i64 0,.int .i64 0,.int .i64 0,.slice none 0 0])]).run Tryz.prog w=.ok (.slice (some ⟨w.heap.size,0,none⟩) 1 1) (w.alloc (.cells #[.int .i64 0,.int .i64 0,.bool false,.bool false,.bool false,.int .i64 0,.int .i64 0,.int .i64 0,.int .i64 0,.int .i64 0,.int .i64 0,.slice none 0 0] 58 (0,0))):=by go_simp
theorem zB3{o:Oper}{ρ:Operand→Value}(ps:Array (Nat×Value))(v:Value)(w w':World)(ho:execOp ρ o=(do pure (Next.value (←Instr.buildSlice 66 1 ps))))(hb:(Instr.buildSlice 66 1 ps).run Tryz.prog w=.ok v w'):(execOp ρ o).run Tryz.prog w=.ok (.value v) w':=by
 rw[ho];simp[hb]
theorem zq0{p:Prop}(h:p:=by
  obtain⟨v,n,xs,pos,er,K2,HKK,HPJ,hst⟩:=hrel;clear H;obtain⟨qv0,cv0,hv0⟩:=hst.rowAny;subst hv0;have HMS:=hQd (pinM (n:=d.length) hst.p2);have H:=hQd hst;clear hst;obtain⟨lf,hlf⟩:∃lf,(⟨d,pos,er⟩:InS).left=lf:=⟨_,rfl⟩;have HLF:=hQd hlf
  rcases HPJ.out with ⟨er0,hpd,hnb,acc,hn,hxs,hpre,hrec,hmp⟩|⟨he0,hbe⟩
  · subst er0;subst hxs;have hlf2:d.length - pos=lf:=hlf;have HREC:=hQd hrec;have HMP:=hQd hmp;have HPD:=hQd hpd;have HNB:=hQd (show n≤1000000 by omega)
    by_cases hz:lf=0
    · subst hz;have hR:d.drop pos=[]:=List.drop_of_length_le oM;rw[hR,zC7]at hpre;have hpre:Except.ok (acc.map BatR.b++[])=zBk d:=hpre
      have HB:=hQd (show acc.map BatR.b=l∧i3=j by
       have hj:=HJ.out;rw[←hpre]at hj;simp only[List.append_nil,Prod.mk.injEq,true_and]at hj
       exact hj)
      have HN:=hQd hn;clear hlf hlf2 hpd hnb hn hpre hrec hmp hR
      go_wp2_with (first
  |(go_at_call 52;(with_reducible refine(zKn bi _ _ HLF.out H.out.p2).mono ?_);rintro e_ wn ⟨rfl,h⟩;have h:=h.p2.p2;replace H:=hQd h;clear h)
  |(go_at_call 20;(try clear y0 y1 w0 w1 v0 v1);(with_reducible refine(zDW bi _ 0 rfl H.out.p2).mono ?_);rintro e_ wn ⟨rfl,h⟩;have h:=h.p2.p2;obtain⟨y0,y1⟩:=uR2 h.p1;obtain⟨w0,w1⟩:=uS2 h.p3;obtain⟨v0,v1⟩:=uR2 h.p3;simp at y0 y1 v0 v1;replace H:=hQd h;clear h))
      have hz:St W0 _ _ (.raw rb #[.int .i64 a,.slice qv0 n cv0] 68::_):=((H.out.p3.rawSet 0 (.int .i64 a)).rawSet 1 (.slice qv0 n cv0));refine bodyPost_ret (zAy rfl _ _ rb [.int .i64 a,.slice qv0 n cv0] _ rfl (zAr hz) Tryz.underlying68 rfl (by kernel_rfl)) rfl ?_;have hr:=hz.drop;have hn:=HN.out;subst hn;have hf:=hr.freezeBatsP HREC.out;obtain⟨hl9,hj9⟩:=HB.out;subst hj9;exact⟨qv0,_,cv0,acc,K2.and (Know.bats (.slice qv0 acc.length cv0) acc),rfl,Know.has_trans (Know.has_left (Know.has_refl _)) HKK.out,fun _=>⟨rfl,hl9,Know.has_right (Know.has_refl _),HMP.out⟩,hf.drop.drop⟩
    · have hlp:(0:Int)<(lf:Int):=by omega
      have hR0:d.drop pos≠[]:=by intro hh;have:=congrArg List.length hh;rw[List.length_drop,List.length_nil]at this;omega
      cases hrb2:zBd (d.drop pos)with
      |error e=>
       have HRB:=hQd hrb2;have HE0:=hQd (zFU hrb2);have HBE:=hQd (show zBk d=.error e by rw[←hpre,zHr hR0 hrb2];rfl);clear hlf hlf2 hpd hnb hn hpre hrec hmp hR0 hrb2 hz
       go_wp2_with (first
  |(go_at_call 52;(with_reducible refine(zKn bi _ _ HLF.out H.out.p2).mono ?_);rintro e_ wn ⟨rfl,h⟩;have h:=h.p2.p2;replace H:=hQd h;clear h)
  |(go_at_call 20;(try clear y0 y1 w0 w1 v0 v1);(with_reducible refine(zDW bi _ 0 rfl H.out.p2).mono ?_);rintro e_ wn ⟨rfl,h⟩;have h:=h.p2.p2;obtain⟨y0,y1⟩:=uR2 h.p1;obtain⟨w0,w1⟩:=uS2 h.p3;obtain⟨v0,v1⟩:=uR2 h.p3;simp at y0 y1 v0 v1;replace H:=hQd h;clear h))
       have hs:=H.out.drew;refine wp_region_held_drew (S:=fun _=>True) (by kernel_rfl) trivial (fun hHeld=> ?_);refine tR 0 ?_;refine tR 2 ?_;refine wR [1,3] (rC rfl (fun KK hK=> ?_) (rC rfl (fun KK hK=> ?_) rN))
       focus
        have z1:=hs.p1.rawCell 1;simp at z1;go_simp;refine zK hK (trivial) (fun hHeld=> ?_);clear hK KK
        clear z1;refine wR [3] (rC rfl (fun KK hK=> ?_) rN);go_simp;go_at_call 109;with_reducible refine(zFE bi d pos HDL.out HPD.out e HRB.out hs.p2).mono ?_;rintro e wq ⟨rfl,pq,hpq,hs⟩;refine zK hK (trivial) (fun hHeld=> ?_);clear hK KK
        have hs:=hs.p2.p2;clear hpq;refine wR [4] (rC rfl (fun KK hK=> ?_) rN);rw[if_pos (by rfl)];refine zAM (zB3 _ _ _ _ (by kernel_rfl) (zHn _)) ?_;obtain⟨wy,b2,ey,eb,hs⟩:=hs.allocEx #[.int .i64 0,.int .i64 0,.bool false,.bool false,.bool false,.int .i64 0,.int .i64 0,.int .i64 0,.int .i64 0,.int .i64 0,.int .i64 0,.slice none 0 0] 58;rw[ey,eb];clear ey eb;refine zK hK (trivial) (fun hHeld=> ?_);clear hK KK
       rotate_left
       focus
        go_simp;go_at_call 109;with_reducible refine(zFE bi d pos HDL.out HPD.out e HRB.out hs.p2).mono ?_;rintro e wq ⟨rfl,pq,hpq,hs⟩;refine zK hK (trivial) (fun hHeld=> ?_);clear hK KK
        have hs:=hs.p2.p2;clear hpq;refine wR [1,4] (rC rfl (fun KK hK=> ?_) (rC rfl (fun KK hK=> ?_) rN))
        focus
         have z1:=hs.p1.rawCell 1;simp at z1;go_simp;refine zK hK (trivial) (fun hHeld=> ?_);clear hK KK
         clear z1;refine wR [4] (rC rfl (fun KK hK=> ?_) rN);rw[if_pos (by rfl)];refine zAM (zB3 _ _ _ _ (by kernel_rfl) (zHn _)) ?_;obtain⟨wy,b2,ey,eb,hs⟩:=hs.allocEx #[.int .i64 0,.int .i64 0,.bool false,.bool false,.bool false,.int .i64 0,.int .i64 0,.int .i64 0,.int .i64 0,.int .i64 0,.int .i64 0,.slice none 0 0] 58;rw[ey,eb];clear ey eb;refine zK hK (trivial) (fun hHeld=> ?_);clear hK KK
        rotate_left
        focus
         rw[if_pos (by rfl)];refine zAM (zB3 _ _ _ _ (by kernel_rfl) (zHn _)) ?_;obtain⟨wy,b2,ey,eb,hs⟩:=hs.allocEx #[.int .i64 0,.int .i64 0,.bool false,.bool false,.bool false,.int .i64 0,.int .i64 0,.int .i64 0,.int .i64 0,.int .i64 0,.int .i64 0,.slice none 0 0] 58;rw[ey,eb];clear ey eb;refine zK hK (trivial) (fun hHeld=> ?_);clear hK KK
         refine wR [1] (rC rfl (fun KK hK=> ?_) rN);have z1:=hs.p2.rawCell 1;simp at z1;go_simp;refine zK hK (trivial) (fun hHeld=> ?_);clear hK KK
         clear z1
       all_goals
        refine wR [5] (rC rfl (fun KK hK=> ?_) rN);rw[if_pos (by rfl)];refine zD5 (.tmp 28) (.tmp 31) 66 rfl 58 Tryz.underlying66 zEA _ _ _ (by rfl) b2 #[.int .i64 0,.int .i64 0,.bool false,.bool false,.bool false,.int .i64 0,.int .i64 0,.int .i64 0,.int .i64 0,.int .i64 0,.int .i64 0,.slice none 0 0] 58 hs (by rfl) rfl (by simp[Value.oneCell']) (by have:=HNB.out;unfold maxLen;omega) (by have:=HNB.out;omega) (fun v' w' h=> ?_);have hs:=h;clear h;obtain⟨qv,cv,hv⟩:=hs.rowAny;subst hv;refine zK hK (trivial) (fun hHeld=> ?_);clear hK KK
        refine tR 6 ?_;refine wR [7] (rC rfl (fun KK hK=> ?_) rN);have hs:=hs.p1;have q1:=hs.rawFree 1;have z1:=hs.rawCell 1;simp at z1;rw[if_pos (by rfl)];refine zDx (w':=w'.setCell ⟨pb,1,none⟩ (.slice qv (n+1) cv)) (by go_simp) ?_;obtain⟨wz,ez,hs⟩:=hs.setExP 1 (.slice qv (n+1) cv);rw[ez];clear ez q1 z1;have hs:=hs.p1;refine hK.out _ _ (trivial) (fun hHeld=> ?_);clear hK KK
        try simp only[Act.put]
        refine wpAnyH_done (by kernel_rfl) ?_ _;clear hHeld;go_wp2_with fail;go_roundw
        case rel=>
         refine⟨.slice qv (n+1) cv,n+1,acc.flatMap zDf++[.int .i64 0,.int .i64 0,.bool false,.bool false,.bool false,.int .i64 0,.int .i64 0,.int .i64 0,.int .i64 0,.int .i64 0,.int .i64 0,.slice none 0 0],pq,e,K2,?_,?_,?_⟩
         · exact HKK
         · exact hQd (.inr ⟨HE0.out,HBE.out⟩)
         · exact hs
        case measure=>
         rw[pinM hs.p2,HMS.out];have:=HPD.out
         show(if e≠0 then 0 else d.length+1 - pq)<if (0:Int)≠0 then 0 else d.length+1 - pos
         rw[if_pos HE0.out,if_neg (by simp)]
         omega
      |ok y=>
       obtain⟨b,n2⟩:=y;obtain⟨xp,_,hn61,hnl,_⟩:=zBI hrb2;rw[List.length_drop]at hnl;have HRB:=hQd hrb2;have HN2:=hQd (show 61≤n2 by omega);have HPN:=hQd (show pos+n2≤d.length by omega)
       have HNX:=hQd (show ∀(q:Option Addr) (l:List (RecS×Value)) (cap:Nat),l.map (·.1)=b.recs→zR6 (K2.and (Know.recs (.slice q l.length cap) l)) d (n+1) (acc.flatMap zDf++[.int .i64 b.base,.int .i64 b.leader,.bool b.app,.bool b.txn,.bool b.ctl,.int .i64 b.last,.int .i64 b.first,.int .i64 b.maxt,.int .i64 b.prod,.int .i64 b.epoch,.int .i64 b.seq,.slice q l.length cap]) (pos+n2) 0 from fun q l cap hl=> .inl ⟨rfl,oM,oM,acc++[⟨b,l,q,cap⟩],by rw[List.length_append,hn];rfl,by rw[List.flatMap_append];rfl,by
        rw[List.map_append]
        show preB (acc.map BatR.b++[b]) _=_
        rw[zG0,←List.drop_drop,←zJh hR0 hrb2]
        exact hpre,fun x hx=>by
        rcases List.mem_append.1 hx with hx|hx
        · exact Know.has_left (hrec x hx)
        · rw[List.mem_singleton.1 hx];exact Know.has_right (Know.has_refl _),fun x hx=>by
        rcases List.mem_append.1 hx with hx|hx
        · exact hmp x hx
        · rw[List.mem_singleton.1 hx];exact hl⟩)
       clear hlf hlf2 hpd hnb hn hpre hrec hmp hR0 hrb2 hz hn61 hnl
       go_wp2_with (first
  |(go_at_call 52;(with_reducible refine(zKn bi _ _ HLF.out H.out.p2).mono ?_);rintro e_ wn ⟨rfl,h⟩;have h:=h.p2.p2;replace H:=hQd h;clear h)
  |(go_at_call 20;(try clear y0 y1 w0 w1 v0 v1);(with_reducible refine(zDW bi _ 0 rfl H.out.p2).mono ?_);rintro e_ wn ⟨rfl,h⟩;have h:=h.p2.p2;obtain⟨y0,y1⟩:=uR2 h.p1;obtain⟨w0,w1⟩:=uS2 h.p3;obtain⟨v0,v1⟩:=uR2 h.p3;simp at y0 y1 v0 v1;replace H:=hQd h;clear h))
       have hs:=H.out.drew;refine wp_region_held_drew (S:=fun _=>True) (by kernel_rfl) trivial (fun hHeld=> ?_);refine tR 0 ?_;refine tR 2 ?_;refine wR [1,3] (rC rfl (fun KK hK=> ?_) (rC rfl (fun KK hK=> ?_) rN))
       focus
        have z1:=hs.p1.rawCell 1;simp at z1;go_simp;refine zK hK (trivial) (fun hHeld=> ?_);clear hK KK
        clear z1;refine wR [3] (rC rfl (fun KK hK=> ?_) rN);go_simp;go_at_call 109;with_reducible refine(zEN bi d pos HDL.out HPD.out b n2 HRB.out hs.p2).mono ?_;rintro e wq ⟨q,l,cap,rfl,hlr,hs⟩;refine zK hK (trivial) (fun hHeld=> ?_);clear hK KK
        have hs:=hs.p2.p2;have HLR:=hQd hlr;clear hlr;refine wR [4] (rC rfl (fun KK hK=> ?_) rN);rw[if_pos (by rfl)];refine zAM (zB3 _ _ _ _ (by kernel_rfl) (zHo b (.slice q l.length cap) _)) ?_;obtain⟨wy,b2,ey,eb,hs⟩:=hs.allocEx #[.int .i64 b.base,.int .i64 b.leader,.bool b.app,.bool b.txn,.bool b.ctl,.int .i64 b.last,.int .i64 b.first,.int .i64 b.maxt,.int .i64 b.prod,.int .i64 b.epoch,.int .i64 b.seq,.slice q l.length cap] 58;rw[ey,eb];clear ey eb;refine zK hK (trivial) (fun hHeld=> ?_);clear hK KK
       rotate_left
       focus
        go_simp;go_at_call 109;with_reducible refine(zEN bi d pos HDL.out HPD.out b n2 HRB.out hs.p2).mono ?_;rintro e wq ⟨q,l,cap,rfl,hlr,hs⟩;refine zK hK (trivial) (fun hHeld=> ?_);clear hK KK
        have hs:=hs.p2.p2;have HLR:=hQd hlr;clear hlr;refine wR [1,4] (rC rfl (fun KK hK=> ?_) (rC rfl (fun KK hK=> ?_) rN))
        focus
         have z1:=hs.p1.rawCell 1;simp at z1;go_simp;refine zK hK (trivial) (fun hHeld=> ?_);clear hK KK
         clear z1;refine wR [4] (rC rfl (fun KK hK=> ?_) rN);rw[if_pos (by rfl)];refine zAM (zB3 _ _ _ _ (by kernel_rfl) (zHo b (.slice q l.length cap) _)) ?_;obtain⟨wy,b2,ey,eb,hs⟩:=hs.allocEx #[.int .i64 b.base,.int .i64 b.leader,.bool b.app,.bool b.txn,.bool b.ctl,.int .i64 b.last,.int .i64 b.first,.int .i64 b.maxt,.int .i64 b.prod,.int .i64 b.epoch,.int .i64 b.seq,.slice q l.length cap] 58;rw[ey,eb];clear ey eb;refine zK hK (trivial) (fun hHeld=> ?_);clear hK KK
        rotate_left
        focus
         rw[if_pos (by rfl)];refine zAM (zB3 _ _ _ _ (by kernel_rfl) (zHo b (.slice q l.length cap) _)) ?_;obtain⟨wy,b2,ey,eb,hs⟩:=hs.allocEx #[.int .i64 b.base,.int .i64 b.leader,.bool b.app,.bool b.txn,.bool b.ctl,.int .i64 b.last,.int .i64 b.first,.int .i64 b.maxt,.int .i64 b.prod,.int .i64 b.epoch,.int .i64 b.seq,.slice q l.length cap] 58;rw[ey,eb];clear ey eb;refine zK hK (trivial) (fun hHeld=> ?_);clear hK KK
         refine wR [1] (rC rfl (fun KK hK=> ?_) rN);have z1:=hs.p2.rawCell 1;simp at z1;go_simp;refine zK hK (trivial) (fun hHeld=> ?_);clear hK KK
         clear z1
       all_goals
        refine wR [5] (rC rfl (fun KK hK=> ?_) rN);rw[if_pos (by rfl)];refine zD5 (.tmp 28) (.tmp 31) 66 rfl 58 Tryz.underlying66 zEA _ _ _ (by rfl) b2 #[.int .i64 b.base,.int .i64 b.leader,.bool b.app,.bool b.txn,.bool b.ctl,.int .i64 b.last,.int .i64 b.first,.int .i64 b.maxt,.int .i64 b.prod,.int .i64 b.epoch,.int .i64 b.seq,.slice q l.length cap] 58 hs (by rfl) rfl (by simp[Value.oneCell']) (by have:=HNB.out;unfold maxLen;omega) (by have:=HNB.out;omega) (fun v' w' h=> ?_);have hs:=h;clear h;obtain⟨qv,cv,hv⟩:=hs.rowAny;subst hv;refine zK hK (trivial) (fun hHeld=> ?_);clear hK KK
        refine tR 6 ?_;refine wR [7] (rC rfl (fun KK hK=> ?_) rN);have hs:=hs.p1;have q1:=hs.rawFree 1;have z1:=hs.rawCell 1;simp at z1;rw[if_pos (by rfl)];refine zDx (w':=w'.setCell ⟨pb,1,none⟩ (.slice qv (n+1) cv)) (by go_simp) ?_;obtain⟨wz,ez,hs⟩:=hs.setExP 1 (.slice qv (n+1) cv);rw[ez];clear ez q1 z1;have hs:=hs.p1;refine hK.out _ _ (trivial) (fun hHeld=> ?_);clear hK KK
        try simp only[Act.put]
        refine wpAnyH_done (by kernel_rfl) ?_ _;clear hHeld;go_wp2_with fail;go_roundw
        case rel=>
         refine⟨.slice qv (n+1) cv,n+1,acc.flatMap zDf++[.int .i64 b.base,.int .i64 b.leader,.bool b.app,.bool b.txn,.bool b.ctl,.int .i64 b.last,.int .i64 b.first,.int .i64 b.maxt,.int .i64 b.prod,.int .i64 b.epoch,.int .i64 b.seq,.slice q l.length cap],pos+n2,0,K2.and (Know.recs (.slice q l.length cap) l),?_,?_,?_⟩
         · exact hQd (Know.has_trans (Know.has_left (Know.has_refl _)) HKK.out)
         · exact hQd (HNX.out q l cap HLR.out)
         · exact hs
        case measure=>
         rw[pinM hs.p2,HMS.out];have:=HN2.out;have:=HPN.out
         show(if (0:Int)≠0 then 0 else d.length+1 - (pos+n2))<if (0:Int)≠0 then 0 else d.length+1 - pos
         rw[if_neg (by simp),if_neg (by simp)]
         omega
  · have HB:=hQd (show([]:List BatS)=l∧i3.fail er=j by
      have hj:=HJ.out;rw[hbe]at hj;simp only[Prod.mk.injEq,true_and]at hj
      exact hj)
    have HE0:=hQd he0;have g1:(er==0)=false:=by rw[beq_eq_false_iff_ne];exact he0
    have g2:(er !=0)=true:=by simp[bne,g1]
    clear hbe he0
    by_cases hz:lf=0
    · subst hz;clear hlf
      go_wp2_with (first
  |(go_at_call 52;(with_reducible refine(zKn bi _ _ HLF.out H.out.p2).mono ?_);rintro e_ wn ⟨rfl,h⟩;have h:=h.p2.p2;replace H:=hQd h;clear h)
  |(go_at_call 20;(try clear y0 y1 w0 w1 v0 v1);(with_reducible refine(zDW bi _ er rfl H.out.p2).mono ?_);rintro e_ wn ⟨rfl,h⟩;have h:=h.p2.p2;obtain⟨y0,y1⟩:=uR2 h.p1;obtain⟨w0,w1⟩:=uS2 h.p3;obtain⟨v0,v1⟩:=uR2 h.p3;simp at y0 y1 v0 v1;replace H:=hQd h;clear h)
  |(go_at_call 47;(try clear y0 y1 w0 w1 v0 v1);(with_reducible refine(zKo p i3 j er HB.out.2 H.out.p4).mono ?_);rintro e_ wn ⟨rfl,h⟩;have h:=h.p4.p4.p4.p4;obtain⟨y0,y1⟩:=uR2 h.p1;obtain⟨w0,w1⟩:=uS2 h.p3;obtain⟨v0,v1⟩:=uR2 h.p3;simp at y0 y1 v0 v1;replace H:=hQd h;clear h))
      have hz:St W0 _ _ (.raw rb #[.int .i64 a,.slice qv0 n cv0] 68::_):=((H.out.p3.rawSet 0 (.int .i64 a)).rawSet 1 (.slice qv0 n cv0));refine bodyPost_ret (zAy rfl _ _ rb [.int .i64 a,.slice qv0 n cv0] _ rfl (zAr hz) Tryz.underlying68 rfl (by kernel_rfl)) rfl ?_;exact⟨qv0,n,cv0,[],K2,rfl,HKK.out,fun hj=>absurd hj (zPf HB.out.2 HE0.out),hz.drop.drop.drop.drop⟩
    · have hlp:(0:Int)<(lf:Int):=by omega
      clear hlf hz
      go_wp2_with (first
  |(go_at_call 52;(with_reducible refine(zKn bi _ _ HLF.out H.out.p2).mono ?_);rintro e_ wn ⟨rfl,h⟩;have h:=h.p2.p2;replace H:=hQd h;clear h)
  |(go_at_call 20;(try clear y0 y1 w0 w1 v0 v1);(with_reducible refine(zDW bi _ er rfl H.out.p2).mono ?_);rintro e_ wn ⟨rfl,h⟩;have h:=h.p2.p2;obtain⟨y0,y1⟩:=uR2 h.p1;obtain⟨w0,w1⟩:=uS2 h.p3;obtain⟨v0,v1⟩:=uR2 h.p3;simp at y0 y1 v0 v1;replace H:=hQd h;clear h)
  |(go_at_call 47;(try clear y0 y1 w0 w1 v0 v1);(with_reducible refine(zKo p i3 j er HB.out.2 H.out.p4).mono ?_);rintro e_ wn ⟨rfl,h⟩;have h:=h.p4.p4.p4.p4;obtain⟨y0,y1⟩:=uR2 h.p1;obtain⟨w0,w1⟩:=uS2 h.p3;obtain⟨v0,v1⟩:=uR2 h.p3;simp at y0 y1 v0 v1;replace H:=hQd h;clear h))
      have hz:St W0 _ _ (.raw rb #[.int .i64 a,.slice qv0 n cv0] 68::_):=((H.out.p3.rawSet 0 (.int .i64 a)).rawSet 1 (.slice qv0 n cv0));refine bodyPost_ret (zAy rfl _ _ rb [.int .i64 a,.slice qv0 n cv0] _ rfl (zAr hz) Tryz.underlying68 rfl (by kernel_rfl)) rfl ?_;exact⟨qv0,n,cv0,[],K2,rfl,HKK.out,fun hj=>absurd hj (zPf HB.out.2 HE0.out),hz.drop.drop.drop.drop⟩):p:=h
theorem zq33{p:Prop}(h:p:=by refine⟨.slice none 0 0,0,[],0,0,K,hQd (Know.has_refl _),hQd (.inl ⟨rfl,Nat.zero_le _,oM,[],rfl,rfl,by rw[List.drop_zero];exact zMJ _,fun x hx=>(by cases hx),fun x hx=>(by cases hx)⟩),?_⟩;have h9:=H.out;exact(h9.p1.p3.p2.p3.nilRow 58 12)):p:=h
theorem zGK(p:Nat)(i i1 i2 i3 j:InS)(a:Int)(d:Bs)(l:List BatS)(h1:i.int 4=(a,i1))(h2:i1.fixed 4=(⟨false,d⟩,i2))(h3:i2=i3)(hj:(match zBk d with| .ok l=>((a,l),i3)| .error e=>((a,[]),i3.fail e))=((a,l),j))(hd:d.length≤1000000)(h:St W0 w K (.inp p i::L)):
 Calls Tryz.prog 79 #[zAu p] w fun en w'=>∃(q:Option Addr) (n cap:Nat) (lr:List BatR) (K2:Know),en=.returned (.agg #[.int .i64 a,.slice q n cap])∧K2.has K∧(j.err=0→n=lr.length∧lr.map BatR.b=l∧K2.has (Know.bats (.slice q n cap) lr)∧∀x∈lr,x.l.map (·.1)=x.b.recs)∧St W0 w' K2 (.inp p j::L):=by
 obtain⟨rb,hrb⟩:∃b,w.heap.size=b:=⟨_,rfl⟩;obtain⟨pb,hpb⟩:∃b,rb+1=b:=⟨_,rfl⟩;have g1:=((h.allocRaw #[.int .i64 0,.slice none 0 0] 68).allocRaw #[.int .i64 0,.slice none 0 0] 68).p2;simp only[World.size_alloc,hrb,hpb]at g1;have H:=hQd g1;have H1:=hQd h1;have H2:=hQd h2;have H3:=hQd h3;have HJ:=hQd hj;have HDL:=hQd hd;have HDM:=hQd (show d.length≤140737488355328 by omega);have hdi:(d.length:Int)≤1000000:=by omega
 clear h g1 h1 h2 h3 hj hd;go_enter Tryz.func79,Tryz.ntmps79
 go_wp2_with (first
  |(go_at_call 44;(with_reducible refine(zNM p i i1 a 4 H1.out H.out).mono ?_);rintro e_ wn ⟨rfl,h⟩;have h:=h.p1;have x0:=h.rawFree 0;have x1:=h.rawCell 0;simp at x1;have h:=(show St W0 (wn.setCell ⟨pb,0,none⟩ (.int .i64 a)) K (.inp p i1::.raw pb #[.int .i64 a,.slice none 0 0] 68::.raw rb #[.int .i64 0,.slice none 0 0] 68::L)from(h.rawSet 0 (.int .i64 a)).p1);replace H:=hQd h;clear h)
  |(go_at_call 43;(with_reducible refine(zIP p i1 i2 4 false d H2.out H.out).mono ?_);rintro e_ wn ⟨rfl,h⟩;obtain⟨qb,hqb⟩:∃b,wn.heap.size=b:=⟨_,rfl⟩;have h:=h.allocRaw #[.bool false,.string (bb d)] 23;rw[hqb]at h;obtain⟨x2,x3⟩:=uR2 h;simp at x2 x3;replace H:=hQd h;clear h)
  |(go_at_call 14;clear x2 x3;(with_reducible refine(zEi d HDM.out H.out.drop).mono ?_);rintro e_ wn ⟨bi,rfl,h⟩;rw[H3.out]at h;replace H:=hQd h;clear h))
 go_loopw [19] (fun _ wr=>∃(v:Value) (n:Nat) (xs:List Value) (pos:Nat) (er:Int) (K2:Know),Hid (K2.has K)∧Hid (zR6 K2 d n xs pos er)∧St W0 wr K2 (.row v 58 12 n xs::.raw pb #[.int .i64 a,v] 68::.inp bi ⟨d,pos,er⟩::.raw rb #[.int .i64 0,.slice none 0 0] 68::.inp p i3::L)) (fun _ wr=>PInM bi d.length wr)
 case atStart=>
  exact zq33
 case round=>
  exact zq0
theorem zHC(p:Nat)(i i1 i2 i3 j:InS)(a:Int)(d:Bs)(l:List BatS)(h1:i.int 4=(a,i1))(h2:i1.fixed 4=(⟨true,d⟩,i2))(h3:(i2.fail 4)=i3)(hj:(match zBk d with| .ok l=>((a,l),i3)| .error e=>((a,[]),i3.fail e))=((a,l),j))(hd:d.length≤1000000)(h:St W0 w K (.inp p i::L)):
 Calls Tryz.prog 79 #[zAu p] w fun en w'=>∃(q:Option Addr) (n cap:Nat) (lr:List BatR) (K2:Know),en=.returned (.agg #[.int .i64 a,.slice q n cap])∧K2.has K∧(j.err=0→n=lr.length∧lr.map BatR.b=l∧K2.has (Know.bats (.slice q n cap) lr)∧∀x∈lr,x.l.map (·.1)=x.b.recs)∧St W0 w' K2 (.inp p j::L):=by
 obtain⟨rb,hrb⟩:∃b,w.heap.size=b:=⟨_,rfl⟩;obtain⟨pb,hpb⟩:∃b,rb+1=b:=⟨_,rfl⟩;have g1:=((h.allocRaw #[.int .i64 0,.slice none 0 0] 68).allocRaw #[.int .i64 0,.slice none 0 0] 68).p2;simp only[World.size_alloc,hrb,hpb]at g1;have H:=hQd g1;have H1:=hQd h1;have H2:=hQd h2;have H3:=hQd h3;have HJ:=hQd hj;have HDL:=hQd hd;have HDM:=hQd (show d.length≤140737488355328 by omega);have hdi:(d.length:Int)≤1000000:=by omega
 clear h g1 h1 h2 h3 hj hd;go_enter Tryz.func79,Tryz.ntmps79
 go_wp2_with (first
  |(go_at_call 44;(with_reducible refine(zNM p i i1 a 4 H1.out H.out).mono ?_);rintro e_ wn ⟨rfl,h⟩;have h:=h.p1;have x0:=h.rawFree 0;have x1:=h.rawCell 0;simp at x1;have h:=(show St W0 (wn.setCell ⟨pb,0,none⟩ (.int .i64 a)) K (.inp p i1::.raw pb #[.int .i64 a,.slice none 0 0] 68::.raw rb #[.int .i64 0,.slice none 0 0] 68::L)from(h.rawSet 0 (.int .i64 a)).p1);replace H:=hQd h;clear h)
  |(go_at_call 43;(with_reducible refine(zIP p i1 i2 4 true d H2.out H.out).mono ?_);rintro e_ wn ⟨rfl,h⟩;obtain⟨qb,hqb⟩:∃b,wn.heap.size=b:=⟨_,rfl⟩;have h:=h.allocRaw #[.bool true,.string (bb d)] 23;rw[hqb]at h;obtain⟨x2,x3⟩:=uR2 h;simp at x2 x3;replace H:=hQd h;clear h)
  |(go_at_call 47;clear x2 x3;(with_reducible refine(zKo p i2 i3 4 H3.out H.out.p1).mono ?_);rintro e_ wn ⟨rfl,h⟩;have h:=h.p1;have x3:=h.rawCell 1;simp at x3;replace H:=hQd h;clear h)
  |(go_at_call 14;clear x3;(with_reducible refine(zEi d HDM.out H.out.drop).mono ?_);rintro e_ wn ⟨bi,rfl,h⟩;replace H:=hQd h;clear h))
 go_loopw [19] (fun _ wr=>∃(v:Value) (n:Nat) (xs:List Value) (pos:Nat) (er:Int) (K2:Know),Hid (K2.has K)∧Hid (zR6 K2 d n xs pos er)∧St W0 wr K2 (.row v 58 12 n xs::.raw pb #[.int .i64 a,v] 68::.inp bi ⟨d,pos,er⟩::.raw rb #[.int .i64 0,.slice none 0 0] 68::.inp p i3::L)) (fun _ wr=>PInM bi d.length wr)
 case atStart=>
  exact zq33
 case round=>
  exact zq0
theorem zEn(p:Nat)(i j:InS)(a:Int)(l:List BatS)(hx:i.ppart=((a,l),j))(hd:(((i.int 4).2.fixed 4).1.data).length≤1000000)(h:St W0 w K (.inp p i::L)):
 Calls Tryz.prog 79 #[zAu p] w fun en w'=>∃(q:Option Addr) (n cap:Nat) (lr:List BatR) (K2:Know),en=.returned (.agg #[.int .i64 a,.slice q n cap])∧K2.has K∧(j.err=0→n=lr.length∧lr.map BatR.b=l∧K2.has (Know.bats (.slice q n cap) lr)∧∀x∈lr,x.l.map (·.1)=x.b.recs)∧St W0 w' K2 (.inp p j::L):=by
 obtain⟨⟨a1,i1⟩,h1⟩:∃r,i.int 4=r:=⟨_,rfl⟩;obtain⟨⟨⟨nu,d⟩,i2⟩,h2⟩:∃r,i1.fixed 4=r:=⟨_,rfl⟩;unfold InS.ppart at hx;rw[h1]at hx hd;simp only at hx hd;rw[h2]at hx hd;simp only at hx hd
 have ha:a1=a:=by
  revert hx
  cases zBk d<;>intro hx<;>simp only[Prod.mk.injEq]at hx<;>exact hx.1.1
 subst ha
 cases nu with
 |true=>exact zHC p i i1 i2 _ j a1 d l h1 h2 rfl (by rw[if_pos rfl]at hx;exact hx) hd h
 |false=>exact zGK p i i1 i2 _ j a1 d l h1 h2 rfl (by rw[if_neg (by simp)]at hx;exact hx) hd h
theorem zC4(a:Int)(sl:Value)(w:World):(Instr.buildSlice 63 1 #[(0,.agg #[.int .i64 a,sl])]).run Tryz.prog w=.ok (.slice (some ⟨w.heap.size,0,none⟩) 1 1) (w.alloc (.cells #[.int .i64 a,sl] 68 (0,0))):=by go_simp
theorem zBw{o:Oper}{ρ:Operand→Value}(ps:Array (Nat×Value))(v:Value)(w w':World)(ho:execOp ρ o=(do pure (Next.value (←Instr.buildSlice 63 1 ps))))(hb:(Instr.buildSlice 63 1 ps).run Tryz.prog w=.ok v w'):(execOp ρ o).run Tryz.prog w=.ok (.value v) w':=by
 rw[ho];simp[hb]
theorem zq56{p:Prop}(h:p:=by
  exact hQd (fun x hx=>by
  rcases List.mem_append.1 hx with hx|hx
  · exact⟨Know.has_trans HK3.out (HALL.out x hx).1,(HALL.out x hx).2⟩
  · rw[List.mem_singleton.1 hx];exact⟨hkb,hmb⟩)):p:=h
theorem zFT(p:Nat)(i j:InS)(nm:Bs)(ps:List (Int×List BatS))(hx:i.ptop=((nm,ps),j))(hd:i.s.length≤1000000){W0 w:World}{K:Know}{L:List Res}(h:St W0 w K (.inp p i::L)):
 Calls Tryz.prog 46 #[zAu p] w fun en w'=>∃(q:Option Addr) (n cap:Nat) (lr:List PartR) (K2:Know),en=.returned (.agg #[.string (bb nm),.slice q n cap])∧K2.has K∧(j.err=0→n=lr.length∧lr.map PartR.pb=ps∧K2.has (Know.pparts (.slice q n cap) lr)∧∀x∈lr,∀y∈x.l,y.l.map (·.1)=y.b.recs)∧St W0 w' K2 (.inp p j::L):=by
 obtain⟨⟨n1,i1⟩,h1⟩:∃r,i.text=r:=⟨_,rfl⟩;obtain⟨⟨n,c⟩,h2⟩:∃r,i1.cnt 8=r:=⟨_,rfl⟩;have hs0:c.s=i.s:=by have:=zFj i1 8;rw[h2]at this;rw[this];have:=zIj i;rw[h1]at this;exact this
 have hnl:=zKS i1 8;rw[h2]at hnl
 have hx2:n1=nm∧InS.ppartsN n [] c=(ps,j):=by
  unfold InS.ptop at hx;rw[h1]at hx;simp only at hx;rw[h2]at hx;simp only[Prod.mk.injEq]at hx;exact⟨hx.1.1,Prod.ext hx.1.2 hx.2⟩
 obtain⟨rfl,hx2⟩:=hx2;obtain⟨rb,hrb⟩:∃b,w.heap.size=b:=⟨_,rfl⟩;obtain⟨tb,htb⟩:∃b,rb+1=b:=⟨_,rfl⟩;have g1:=((h.allocRaw #[.string ⟨#[]⟩,.slice none 0 0] 65).allocRaw #[.string ⟨#[]⟩,.slice none 0 0] 65).p2;simp only[World.size_alloc,hrb,htb]at g1;have H:=hQd g1;have H1:=hQd h1;have H2:=hQd h2;have HX0:=hQd hx2;have HS0:=hQd hs0;have HDL:=hQd hd;have HNL:=hQd (show n≤2147483647 from hnl.2);have hni:(n:Int)≤2147483647:=by have:=HNL.out;omega
 clear h g1 h1 h2 hx hx2 hd hnl hs0;go_enter Tryz.func46,Tryz.ntmps46
 go_wp2_with (first
  |(go_at_call 78;(with_reducible refine(p_text p i i1 _ H1.out H.out).mono ?_);rintro e_ wn ⟨rfl,h⟩;have h:=h.p1;have x0:=h.rawFree 0;have x1:=h.rawCell 0;simp at x1;have h:=(show St W0 (wn.setCell ⟨tb,0,none⟩ (.string (bb n1))) K (.inp p i1::.raw tb #[.string (bb n1),.slice none 0 0] 65::.raw rb #[.string ⟨#[]⟩,.slice none 0 0] 65::L)from(h.rawSet 0 (.string (bb n1))).p1);replace H:=hQd h;clear h)
  |(go_at_call 45;(with_reducible refine(zRy p i1 c 8 n 8 rfl H2.out H.out).zM ?_);clear H;intro wn H))
 go_loopw [9] (fun iv wr=>∃(k:Nat) (v:Value) (xs:List Value) (i2:InS) (acc:List PartR) (K2:Know),k≤n∧iv=.int .i64 k∧Hid (k=acc.length)∧Hid (xs=acc.flatMap zG4)∧Hid (InS.ppartsN (n - k) (acc.map PartR.pb) i2=(ps,j))∧Hid (K2.has K)∧Hid (∀x∈acc,K2.has (Know.bats (.slice x.q x.l.length x.cap) x.l)∧∀y∈x.l,y.l.map (·.1)=y.b.recs)∧Hid (i2.s=i.s)∧St W0 wr K2 (.row v 68 2 k xs::.raw tb #[.string (bb n1),v] 65::.inp p i2::.raw rb #[.string ⟨#[]⟩,.slice none 0 0] 65::L)) (fun iv _=>n - (intOf iv).toNat)
 case atStart=>
  refine⟨0,.slice none 0 0,[],c,[],K,Nat.zero_le _,rfl,hQd rfl,hQd rfl,hQd HX0.out,hQd (Know.has_refl _),hQd (fun x hx=>by cases hx),hQd HS0.out,?_⟩;exact(H.out.p1.nilRow 68 2)
 case round=>
  obtain⟨k,v,xs,i2,acc,K2,hk,rfl,HAL,HXS,HP,HKK,HALL,HS,hst⟩:=hrel;clear H;obtain⟨qv0,cv0,hv0⟩:=hst.rowAny;subst hv0;obtain⟨y0,y1⟩:=uR2 hst.p1;obtain⟨w0,w1⟩:=uS2 hst.p3;obtain⟨v0,v1⟩:=uR2 hst.p3;simp at y0 y1 v0 v1;have H:=hQd hst;clear hst
  by_cases hlt:k<n
  ·clear y0 y1 w0 w1 v0 v1;obtain⟨⟨⟨a,bl⟩,i3⟩,hi3⟩:∃r,i2.ppart=r:=⟨_,rfl⟩;obtain⟨er,her⟩:∃er,i3.err=er:=⟨_,rfl⟩;have HX:=hQd hi3;have HS3:=hQd (show i3.s=i.s by have:=zEs i2;rw[hi3]at this;rw[this];exact HS.out)
   have hstep:(if er=0 then InS.ppartsN (n - (k+1)) (acc.map PartR.pb++[(a,bl)]) i3 else([],i3))=(ps,j):=by
    have h1:=HP.out;rw[show n - k=(n - (k+1))+1 by omega]at h1;have h2:(if i2.ppart.2.err=0 then InS.ppartsN (n - (k+1)) (acc.map PartR.pb++[i2.ppart.1]) i2.ppart.2 else([],i2.ppart.2))=(ps,j):=h1;rw[hi3]at h2;simp only at h2;rw[her]at h2;exact h2
   have HKN:=hQd (show k≤2147483647 by have:=HNL.out;omega);have hkn:(k:Int)<(n:Int):=by omega
   have HER:=hQd her;clear hi3
   by_cases he0:er=0
   ·rw[if_pos he0]at hstep;have HP2:=hQd hstep;subst he0;clear hstep her;go_wp2_with fail;have hs:=H.out.drew;refine wp_region_held_drew (S:=fun _=>True) (by kernel_rfl) trivial (fun hHeld=> ?_);refine tR 0 ?_;refine tR 2 ?_;refine wR [1,3] (rC rfl (fun KK hK=> ?_) (rC rfl (fun KK hK=> ?_) rN))
    focus
     have z1:=hs.p1.rawCell 1;simp at z1;go_simp;refine zK hK (trivial) (fun hHeld=> ?_);clear hK KK
     clear z1;refine wR [3] (rC rfl (fun KK hK=> ?_) rN);go_simp;go_at_call 79;with_reducible refine(zEn p i2 i3 a bl HX.out (Nat.le_trans (zCY _) (by rw[HS.out];exact HDL.out)) hs.p2).mono ?_;rintro e wq ⟨q,n2,cap,lr,K3,rfl,hk3,hgd,hs⟩;refine zK hK (trivial) (fun hHeld=> ?_);clear hK KK
     have hs:=hs.p2.p2;refine wR [4] (rC rfl (fun KK hK=> ?_) rN);rw[if_pos (by rfl)];refine zAM (zBw _ _ _ _ (by kernel_rfl) (zC4 a (.slice q n2 cap) _)) ?_;obtain⟨wy,b2,ey,eb,hs⟩:=hs.allocEx #[.int .i64 a,.slice q n2 cap] 68;rw[ey,eb];clear ey eb;refine zK hK (trivial) (fun hHeld=> ?_);clear hK KK
    rotate_left
    focus
     go_simp;go_at_call 79;with_reducible refine(zEn p i2 i3 a bl HX.out (Nat.le_trans (zCY _) (by rw[HS.out];exact HDL.out)) hs.p2).mono ?_;rintro e wq ⟨q,n2,cap,lr,K3,rfl,hk3,hgd,hs⟩;refine zK hK (trivial) (fun hHeld=> ?_);clear hK KK
     have hs:=hs.p2.p2;refine wR [1,4] (rC rfl (fun KK hK=> ?_) (rC rfl (fun KK hK=> ?_) rN))
     focus
      have z1:=hs.p1.rawCell 1;simp at z1;go_simp;refine zK hK (trivial) (fun hHeld=> ?_);clear hK KK
      clear z1;refine wR [4] (rC rfl (fun KK hK=> ?_) rN);rw[if_pos (by rfl)];refine zAM (zBw _ _ _ _ (by kernel_rfl) (zC4 a (.slice q n2 cap) _)) ?_;obtain⟨wy,b2,ey,eb,hs⟩:=hs.allocEx #[.int .i64 a,.slice q n2 cap] 68;rw[ey,eb];clear ey eb;refine zK hK (trivial) (fun hHeld=> ?_);clear hK KK
     rotate_left
     focus
      rw[if_pos (by rfl)];refine zAM (zBw _ _ _ _ (by kernel_rfl) (zC4 a (.slice q n2 cap) _)) ?_;obtain⟨wy,b2,ey,eb,hs⟩:=hs.allocEx #[.int .i64 a,.slice q n2 cap] 68;rw[ey,eb];clear ey eb;refine zK hK (trivial) (fun hHeld=> ?_);clear hK KK
      refine wR [1] (rC rfl (fun KK hK=> ?_) rN);have z1:=hs.p2.rawCell 1;simp at z1;go_simp;refine zK hK (trivial) (fun hHeld=> ?_);clear hK KK
      clear z1
    all_goals
     refine wR [5] (rC rfl (fun KK hK=> ?_) rN);rw[if_pos (by rfl)];refine zD5 (.tmp 12) (.tmp 15) 63 rfl 68 Tryz.underlying63 zH8 _ _ _ (by rfl) b2 #[.int .i64 a,.slice q n2 cap] 68 hs (by rfl) rfl (by simp[Value.oneCell']) zq64 (by have:=HKN.out;omega) (fun v' w' h=> ?_);have hs:=h;clear h;obtain⟨qv,cv,hv⟩:=hs.rowAny;subst hv;refine zK hK (trivial) (fun hHeld=> ?_);clear hK KK
     refine tR 6 ?_;refine wR [7] (rC rfl (fun KK hK=> ?_) rN);have hs:=hs.p1;have q1:=hs.rawFree 1;have z1:=hs.rawCell 1;simp at z1;rw[if_pos (by rfl)];refine zDx (w':=w'.setCell ⟨tb,1,none⟩ (.slice qv (k+1) cv)) (by go_simp) ?_;obtain⟨wz,ez,hs⟩:=hs.setExP 1 (.slice qv (k+1) cv);rw[ez];clear ez q1 z1;have hs:=hs.p1;refine hK.out _ _ (trivial) (fun hHeld=> ?_);clear hK KK
     try simp only[Act.put]
     refine wpAnyH_done (by kernel_rfl) ?_ _;clear hHeld;have HK3:=hQd hk3;clear hk3;replace H:=hQd hs;clear hs;go_wp2_with (go_at_call 20;(try clear y0 y1 w0 w1 v0 v1);(with_reducible refine(zDW p i3 0 HER.out H.out.p2).mono ?_);rintro e_ wn ⟨rfl,h⟩;have h:=h.p2.p2;obtain⟨y0,y1⟩:=uR2 h.p1;obtain⟨w0,w1⟩:=uS2 h.p3;obtain⟨v0,v1⟩:=uR2 h.p3;simp at y0 y1 v0 v1;replace H:=hQd h;clear h);go_roundw
     case rel=>
      obtain⟨hn2,hlb,hkb,hmb⟩:=hgd HER.out;subst hn2;refine⟨k+1,.slice qv (k+1) cv,xs++[.int .i64 a,.slice q lr.length cap],i3,acc++[⟨a,lr,q,cap⟩],K3,hlt,by go_num,?_,?_,?_,?_,?_,?_,?_⟩
      ·exact hQd (by rw[List.length_append,←HAL.out];rfl)
      ·exact hQd (by rw[List.flatMap_append,HXS.out];rfl)
      ·exact hQd (by rw[List.map_append];have:=HP2.out;rw[←hlb]at this;exact this)
      ·exact hQd (Know.has_trans HK3.out HKK.out)
      ·exact zq56
      ·exact hQd HS3.out
      ·exact H.out
     case measure=>first|(simp[intOf];done)|(simp[intOf];omega)
   ·rw[if_neg he0]at hstep;simp only[Prod.mk.injEq]at hstep;obtain⟨rfl,rfl⟩:=hstep;have gz:(er==0)=false:=by rw[beq_eq_false_iff_ne];exact he0
    have gz3:(er !=0)=true:=by simp[bne,gz]
    have HE0:=hQd he0;clear he0 her;go_wp2_with fail;have hs:=H.out.drew;refine wp_region_held_drew (S:=fun _=>True) (by kernel_rfl) trivial (fun hHeld=> ?_);refine tR 0 ?_;refine tR 2 ?_;refine wR [1,3] (rC rfl (fun KK hK=> ?_) (rC rfl (fun KK hK=> ?_) rN))
    focus
     have z1:=hs.p1.rawCell 1;simp at z1;go_simp;refine zK hK (trivial) (fun hHeld=> ?_);clear hK KK
     clear z1;refine wR [3] (rC rfl (fun KK hK=> ?_) rN);go_simp;go_at_call 79;with_reducible refine(zEn p i2 i3 a bl HX.out (Nat.le_trans (zCY _) (by rw[HS.out];exact HDL.out)) hs.p2).mono ?_;rintro e wq ⟨q,n2,cap,lr,K3,rfl,hk3,hgd,hs⟩;refine zK hK (trivial) (fun hHeld=> ?_);clear hK KK
     have hs:=hs.p2.p2;refine wR [4] (rC rfl (fun KK hK=> ?_) rN);rw[if_pos (by rfl)];refine zAM (zBw _ _ _ _ (by kernel_rfl) (zC4 a (.slice q n2 cap) _)) ?_;obtain⟨wy,b2,ey,eb,hs⟩:=hs.allocEx #[.int .i64 a,.slice q n2 cap] 68;rw[ey,eb];clear ey eb;refine zK hK (trivial) (fun hHeld=> ?_);clear hK KK
    rotate_left
    focus
     go_simp;go_at_call 79;with_reducible refine(zEn p i2 i3 a bl HX.out (Nat.le_trans (zCY _) (by rw[HS.out];exact HDL.out)) hs.p2).mono ?_;rintro e wq ⟨q,n2,cap,lr,K3,rfl,hk3,hgd,hs⟩;refine zK hK (trivial) (fun hHeld=> ?_);clear hK KK
     have hs:=hs.p2.p2;refine wR [1,4] (rC rfl (fun KK hK=> ?_) (rC rfl (fun KK hK=> ?_) rN))
     focus
      have z1:=hs.p1.rawCell 1;simp at z1;go_simp;refine zK hK (trivial) (fun hHeld=> ?_);clear hK KK
      clear z1;refine wR [4] (rC rfl (fun KK hK=> ?_) rN);rw[if_pos (by rfl)];refine zAM (zBw _ _ _ _ (by kernel_rfl) (zC4 a (.slice q n2 cap) _)) ?_;obtain⟨wy,b2,ey,eb,hs⟩:=hs.allocEx #[.int .i64 a,.slice q n2 cap] 68;rw[ey,eb];clear ey eb;refine zK hK (trivial) (fun hHeld=> ?_);clear hK KK
     rotate_left
     focus
      rw[if_pos (by rfl)];refine zAM (zBw _ _ _ _ (by kernel_rfl) (zC4 a (.slice q n2 cap) _)) ?_;obtain⟨wy,b2,ey,eb,hs⟩:=hs.allocEx #[.int .i64 a,.slice q n2 cap] 68;rw[ey,eb];clear ey eb;refine zK hK (trivial) (fun hHeld=> ?_);clear hK KK
      refine wR [1] (rC rfl (fun KK hK=> ?_) rN);have z1:=hs.p2.rawCell 1;simp at z1;go_simp;refine zK hK (trivial) (fun hHeld=> ?_);clear hK KK
      clear z1
    all_goals
     refine wR [5] (rC rfl (fun KK hK=> ?_) rN);rw[if_pos (by rfl)];refine zD5 (.tmp 12) (.tmp 15) 63 rfl 68 Tryz.underlying63 zH8 _ _ _ (by rfl) b2 #[.int .i64 a,.slice q n2 cap] 68 hs (by rfl) rfl (by simp[Value.oneCell']) zq64 (by have:=HKN.out;omega) (fun v' w' h=> ?_);have hs:=h;clear h;obtain⟨qv,cv,hv⟩:=hs.rowAny;subst hv;refine zK hK (trivial) (fun hHeld=> ?_);clear hK KK
     refine tR 6 ?_;refine wR [7] (rC rfl (fun KK hK=> ?_) rN);have hs:=hs.p1;have q1:=hs.rawFree 1;have z1:=hs.rawCell 1;simp at z1;rw[if_pos (by rfl)];refine zDx (w':=w'.setCell ⟨tb,1,none⟩ (.slice qv (k+1) cv)) (by go_simp) ?_;obtain⟨wz,ez,hs⟩:=hs.setExP 1 (.slice qv (k+1) cv);rw[ez];clear ez q1 z1;have hs:=hs.p1;refine hK.out _ _ (trivial) (fun hHeld=> ?_);clear hK KK
     try simp only[Act.put]
     refine wpAnyH_done (by kernel_rfl) ?_ _;clear hHeld hgd;have HK3:=hQd hk3;clear hk3;replace H:=hQd hs;clear hs;go_wp2_with (go_at_call 20;(try clear y0 y1 w0 w1 v0 v1);(with_reducible refine(zDW p i3 er HER.out H.out.p2).mono ?_);rintro e_ wn ⟨rfl,h⟩;have h:=h.p2.p2;obtain⟨y0,y1⟩:=uR2 h.p1;obtain⟨w0,w1⟩:=uS2 h.p3;obtain⟨v0,v1⟩:=uR2 h.p3;simp at y0 y1 v0 v1;replace H:=hQd h;clear h);have hz:St W0 _ _ (.raw rb #[.string (bb n1),.slice qv (k+1) cv] 65::_):=((H.out.p3.rawSet 0 (.string (bb n1))).rawSet 1 (.slice qv (k+1) cv));refine bodyPost_ret (zAy rfl _ _ rb [.string (bb n1),.slice qv (k+1) cv] _ rfl (zAr hz) Tryz.underlying65 rfl (by kernel_rfl)) rfl ?_;exact⟨qv,k+1,cv,[],K3,rfl,Know.has_trans HK3.out HKK.out,fun hj=>absurd (HER.out.symm.trans hj) HE0.out,hz.drop.drop.drop⟩
  ·obtain rfl:k=n:=by omega
   have hp:=HP.out;rw[Nat.sub_self]at hp;have hp:(acc.map PartR.pb,i2)=(ps,j):=hp;simp only[Prod.mk.injEq]at hp;obtain⟨hpl,rfl⟩:=hp;have HPL:=hQd hpl;clear hpl;go_wp2;have hz:St W0 _ _ (.raw rb #[.string (bb n1),.slice qv0 k cv0] 65::_):=((H.out.p3.rawSet 0 (.string (bb n1))).rawSet 1 (.slice qv0 k cv0));refine bodyPost_ret (zAy rfl _ _ rb [.string (bb n1),.slice qv0 k cv0] _ rfl (zAr hz) Tryz.underlying65 rfl (by kernel_rfl)) rfl ?_;have hr:=hz.drop;have hn:=HAL.out;have hxs:=HXS.out;subst hn;subst hxs;have hf:=hr.freezeParts (fun x hx=>(HALL.out x hx).1);exact⟨qv0,_,cv0,acc,K2.and (Know.pparts (.slice qv0 acc.length cv0) acc),rfl,Know.has_trans (Know.has_left (Know.has_refl _)) HKK.out,fun _=>⟨rfl,HPL.out,Know.has_right (Know.has_refl _),fun x hx=>(HALL.out x hx).2⟩,hf.drop⟩
variable {W0 w:World}{K:Know}{L:List Res}
theorem zq4{p:Prop}(h:p:=by
  obtain⟨⟨⟨nm,pl⟩,i3⟩,hi3⟩:∃r,i2.ptop=r:=⟨_,rfl⟩;obtain⟨er,her⟩:∃er,i3.err=er:=⟨_,rfl⟩;have HX:=hQd hi3;have HS3:=hQd (show i3.s=i.s by have:=zMH i2;rw[hi3]at this;rw[this];exact HS.out)
  have hstep:(if er=0 then InS.ptopsN (n - (k+1)) (acc.map PTop.pt++[(nm,pl)]) i3 else([],i3))=(ts,j):=by
    have h1:=HP.out;rw[show n - k=(n - (k+1))+1 by omega]at h1;have h2:(if i2.ptop.2.err=0 then InS.ptopsN (n - (k+1)) (acc.map PTop.pt++[i2.ptop.1]) i2.ptop.2 else([],i2.ptop.2))=(ts,j):=h1;rw[hi3]at h2;simp only at h2;rw[her]at h2;exact h2
  have HKN:=hQd (show k≤2147483647 by have:=HNL.out;omega);have hkn:(k:Int)<(n:Int):=by omega
  have HER:=hQd her;clear hi3
  by_cases he0:er=0
  · rw[if_pos he0]at hstep;have HP2:=hQd hstep;subst he0;clear hstep her;go_wp2_with fail;have hs:=H.out.drew;refine wp_region_held_drew (S:=fun _=>True) (by kernel_rfl) trivial (fun hHeld=> ?_);refine tR 0 ?_;refine tR 2 ?_;refine wR [1,3] (rC rfl (fun KK hK=> ?_) (rC rfl (fun KK hK=> ?_) rN))
    focus
      have z1:=hs.p1.rawCell 4;simp at z1;go_simp;refine zK hK (trivial) (fun hHeld=> ?_);clear hK KK
      clear z1;refine wR [3] (rC rfl (fun KK hK=> ?_) rN);go_simp;go_at_call 46;with_reducible refine(zFT p i2 i3 nm pl HX.out (by rw[HS.out];exact HDL.out) hs.p2).mono ?_;rintro e wq ⟨q,n2,cap,lr,K3,rfl,hk3,hgd,hs⟩;refine zK hK (trivial) (fun hHeld=> ?_);clear hK KK
      have hs:=hs.p2.p2;refine wR [4] (rC rfl (fun KK hK=> ?_) rN);rw[if_pos (by rfl)];refine zAM (zBv _ _ _ _ (by kernel_rfl) (zC3 (.string (bb nm)) (.slice q n2 cap) _)) ?_;obtain⟨wy,b2,ey,eb,hs⟩:=hs.allocEx #[.string (bb nm),.slice q n2 cap] 65;rw[ey,eb];clear ey eb;refine zK hK (trivial) (fun hHeld=> ?_);clear hK KK
    rotate_left
    focus
      go_simp;go_at_call 46;with_reducible refine(zFT p i2 i3 nm pl HX.out (by rw[HS.out];exact HDL.out) hs.p2).mono ?_;rintro e wq ⟨q,n2,cap,lr,K3,rfl,hk3,hgd,hs⟩;refine zK hK (trivial) (fun hHeld=> ?_);clear hK KK
      have hs:=hs.p2.p2;refine wR [1,4] (rC rfl (fun KK hK=> ?_) (rC rfl (fun KK hK=> ?_) rN))
      focus
       have z1:=hs.p1.rawCell 4;simp at z1;go_simp;refine zK hK (trivial) (fun hHeld=> ?_);clear hK KK
       clear z1;refine wR [4] (rC rfl (fun KK hK=> ?_) rN);rw[if_pos (by rfl)];refine zAM (zBv _ _ _ _ (by kernel_rfl) (zC3 (.string (bb nm)) (.slice q n2 cap) _)) ?_;obtain⟨wy,b2,ey,eb,hs⟩:=hs.allocEx #[.string (bb nm),.slice q n2 cap] 65;rw[ey,eb];clear ey eb;refine zK hK (trivial) (fun hHeld=> ?_);clear hK KK
      rotate_left
      focus
       rw[if_pos (by rfl)];refine zAM (zBv _ _ _ _ (by kernel_rfl) (zC3 (.string (bb nm)) (.slice q n2 cap) _)) ?_;obtain⟨wy,b2,ey,eb,hs⟩:=hs.allocEx #[.string (bb nm),.slice q n2 cap] 65;rw[ey,eb];clear ey eb;refine zK hK (trivial) (fun hHeld=> ?_);clear hK KK
       refine wR [1] (rC rfl (fun KK hK=> ?_) rN);have z1:=hs.p2.rawCell 4;simp at z1;go_simp;refine zK hK (trivial) (fun hHeld=> ?_);clear hK KK
       clear z1
    all_goals
      refine wR [5] (rC rfl (fun KK hK=> ?_) rN);rw[if_pos (by rfl)];refine zD5 (.tmp 21) (.tmp 24) 24 rfl 65 Tryz.underlying24 zKL _ _ _ (by rfl) b2 #[.string (bb nm),.slice q n2 cap] 65 hs (by rfl) rfl (by simp[Value.oneCell']) zq64 (by have:=HKN.out;omega) (fun v' w' h=> ?_);have hs:=h;clear h;obtain⟨qv,cv,hv⟩:=hs.rowAny;subst hv;refine zK hK (trivial) (fun hHeld=> ?_);clear hK KK
      refine tR 6 ?_;refine wR [7] (rC rfl (fun KK hK=> ?_) rN);have hs:=hs.p1;have q1:=hs.rawFree 4;have z1:=hs.rawCell 4;simp at z1;rw[if_pos (by rfl)];refine zDx (w':=w'.setCell ⟨tb,4,none⟩ (.slice qv (k+1) cv)) (by go_simp) ?_;obtain⟨wz,ez,hs⟩:=hs.setExP 4 (.slice qv (k+1) cv);rw[ez];clear ez q1 z1;have hs:=hs.p1;refine hK.out _ _ (trivial) (fun hHeld=> ?_);clear hK KK
      try simp only[Act.put]
      refine wpAnyH_done (by kernel_rfl) ?_ _;clear hHeld;have HK3:=hQd hk3;clear hk3;replace H:=hQd hs;clear hs;go_wp2_with (go_at_call 20;(try clear y0 y1 y2 y3 y4 w0 w1 w2 w3 w4 v0 v1 v2 v3 v4);(with_reducible refine(zDW p i3 0 HER.out H.out.p2).mono ?_);rintro e_ wn ⟨rfl,h⟩;have h:=h.p2.p2;obtain⟨y0,y1,y2,y3,y4⟩:=uR5 h.p1;obtain⟨w0,w1,w2,w3,w4⟩:=uS5 h.p3;obtain⟨v0,v1,v2,v3,v4⟩:=uR5 h.p3;simp at y0 y1 y2 y3 y4 v0 v1 v2 v3 v4;replace H:=hQd h;clear h);go_roundw
      case rel=>
       obtain⟨hn2,hlb,hkb,hmb⟩:=hgd HER.out;subst hn2;refine⟨k+1,.slice qv (k+1) cv,xs++[.string (bb nm),.slice q lr.length cap],i3,acc++[⟨nm,lr,q,cap⟩],K3,hlt,by go_num,?_,?_,?_,?_,?_,?_,?_⟩
       · exact hQd (by rw[List.length_append,←HAL.out];rfl)
       · exact hQd (by rw[List.flatMap_append,HXS.out];rfl)
       · exact hQd (by rw[List.map_append];have:=HP2.out;rw[←hlb]at this;exact this)
       · exact hQd (Know.has_trans HK3.out HKK.out)
       · exact zq56
       · exact hQd HS3.out
       · exact H.out
      case measure=>first|(simp[intOf];done)|(simp[intOf];omega)
  · rw[if_neg he0]at hstep;simp only[Prod.mk.injEq]at hstep;obtain⟨rfl,rfl⟩:=hstep;have gz:(er==0)=false:=by rw[beq_eq_false_iff_ne];exact he0
    have gz3:(er !=0)=true:=by simp[bne,gz]
    have HE0:=hQd he0;clear he0 her;go_wp2_with fail;have hs:=H.out.drew;refine wp_region_held_drew (S:=fun _=>True) (by kernel_rfl) trivial (fun hHeld=> ?_);refine tR 0 ?_;refine tR 2 ?_;refine wR [1,3] (rC rfl (fun KK hK=> ?_) (rC rfl (fun KK hK=> ?_) rN))
    focus
      have z1:=hs.p1.rawCell 4;simp at z1;go_simp;refine zK hK (trivial) (fun hHeld=> ?_);clear hK KK
      clear z1;refine wR [3] (rC rfl (fun KK hK=> ?_) rN);go_simp;go_at_call 46;with_reducible refine(zFT p i2 i3 nm pl HX.out (by rw[HS.out];exact HDL.out) hs.p2).mono ?_;rintro e wq ⟨q,n2,cap,lr,K3,rfl,hk3,hgd,hs⟩;refine zK hK (trivial) (fun hHeld=> ?_);clear hK KK
      have hs:=hs.p2.p2;refine wR [4] (rC rfl (fun KK hK=> ?_) rN);rw[if_pos (by rfl)];refine zAM (zBv _ _ _ _ (by kernel_rfl) (zC3 (.string (bb nm)) (.slice q n2 cap) _)) ?_;obtain⟨wy,b2,ey,eb,hs⟩:=hs.allocEx #[.string (bb nm),.slice q n2 cap] 65;rw[ey,eb];clear ey eb;refine zK hK (trivial) (fun hHeld=> ?_);clear hK KK
    rotate_left
    focus
      go_simp;go_at_call 46;with_reducible refine(zFT p i2 i3 nm pl HX.out (by rw[HS.out];exact HDL.out) hs.p2).mono ?_;rintro e wq ⟨q,n2,cap,lr,K3,rfl,hk3,hgd,hs⟩;refine zK hK (trivial) (fun hHeld=> ?_);clear hK KK
      have hs:=hs.p2.p2;refine wR [1,4] (rC rfl (fun KK hK=> ?_) (rC rfl (fun KK hK=> ?_) rN))
      focus
       have z1:=hs.p1.rawCell 4;simp at z1;go_simp;refine zK hK (trivial) (fun hHeld=> ?_);clear hK KK
       clear z1;refine wR [4] (rC rfl (fun KK hK=> ?_) rN);rw[if_pos (by rfl)];refine zAM (zBv _ _ _ _ (by kernel_rfl) (zC3 (.string (bb nm)) (.slice q n2 cap) _)) ?_;obtain⟨wy,b2,ey,eb,hs⟩:=hs.allocEx #[.string (bb nm),.slice q n2 cap] 65;rw[ey,eb];clear ey eb;refine zK hK (trivial) (fun hHeld=> ?_);clear hK KK
      rotate_left
      focus
       rw[if_pos (by rfl)];refine zAM (zBv _ _ _ _ (by kernel_rfl) (zC3 (.string (bb nm)) (.slice q n2 cap) _)) ?_;obtain⟨wy,b2,ey,eb,hs⟩:=hs.allocEx #[.string (bb nm),.slice q n2 cap] 65;rw[ey,eb];clear ey eb;refine zK hK (trivial) (fun hHeld=> ?_);clear hK KK
       refine wR [1] (rC rfl (fun KK hK=> ?_) rN);have z1:=hs.p2.rawCell 4;simp at z1;go_simp;refine zK hK (trivial) (fun hHeld=> ?_);clear hK KK
       clear z1
    all_goals
      refine wR [5] (rC rfl (fun KK hK=> ?_) rN);rw[if_pos (by rfl)];refine zD5 (.tmp 21) (.tmp 24) 24 rfl 65 Tryz.underlying24 zKL _ _ _ (by rfl) b2 #[.string (bb nm),.slice q n2 cap] 65 hs (by rfl) rfl (by simp[Value.oneCell']) zq64 (by have:=HKN.out;omega) (fun v' w' h=> ?_);have hs:=h;clear h;obtain⟨qv,cv,hv⟩:=hs.rowAny;subst hv;refine zK hK (trivial) (fun hHeld=> ?_);clear hK KK
      refine tR 6 ?_;refine wR [7] (rC rfl (fun KK hK=> ?_) rN);have hs:=hs.p1;have q1:=hs.rawFree 4;have z1:=hs.rawCell 4;simp at z1;rw[if_pos (by rfl)];refine zDx (w':=w'.setCell ⟨tb,4,none⟩ (.slice qv (k+1) cv)) (by go_simp) ?_;obtain⟨wz,ez,hs⟩:=hs.setExP 4 (.slice qv (k+1) cv);rw[ez];clear ez q1 z1;have hs:=hs.p1;refine hK.out _ _ (trivial) (fun hHeld=> ?_);clear hK KK
      try simp only[Act.put]
      refine wpAnyH_done (by kernel_rfl) ?_ _;clear hHeld hgd;have HK3:=hQd hk3;clear hk3;replace H:=hQd hs;clear hs;go_wp2_with (go_at_call 20;(try clear y0 y1 y2 y3 y4 w0 w1 w2 w3 w4 v0 v1 v2 v3 v4);(with_reducible refine(zDW p i3 er HER.out H.out.p2).mono ?_);rintro e_ wn ⟨rfl,h⟩;have h:=h.p2.p2;obtain⟨y0,y1,y2,y3,y4⟩:=uR5 h.p1;obtain⟨w0,w1,w2,w3,w4⟩:=uS5 h.p3;obtain⟨v0,v1,v2,v3,v4⟩:=uR5 h.p3;simp at y0 y1 y2 y3 y4 v0 v1 v2 v3 v4;replace H:=hQd h;clear h);have hz:St W0 _ _ (.raw rb #[.bool false,.string ⟨#[]⟩,.int .i64 0,.int .i64 0,.slice none 0 0] 26::_):=St.sets5P _ _ _ _ _ H.out.p3;refine bodyPost_ret (zAy rfl _ _ rb [.bool false,.string ⟨#[]⟩,.int .i64 0,.int .i64 0,.slice none 0 0] _ rfl (zAr hz) Tryz.underlying26 rfl (by kernel_rfl)) rfl ?_;exact .inl ⟨by rw[HER.out];exact HE0.out,K3,rfl,Know.has_trans HK3.out HKK.out,hz.drop.drop.drop⟩):p:=h
theorem zq12{p:Prop}(h:p:=by
 have gz:(er==0)=false:=by rw[beq_eq_false_iff_ne];exact he0
 have gz3:(er !=0)=true:=by simp[bne,gz]
 have HE0:=hQd he0;clear he0 her;go_wp2_with (go_at_call 20;(try clear y0 y1 y2 y3 y4 w0 w1 w2 w3 w4 v0 v1 v2 v3 v4);(with_reducible refine(zDW p i2 er HER.out H.out.p2).mono ?_);rintro e_ wn ⟨rfl,h⟩;have h:=h.p2.p2;obtain⟨y0,y1,y2,y3,y4⟩:=uR5 h.p1;obtain⟨w0,w1,w2,w3,w4⟩:=uS5 h.p3;obtain⟨v0,v1,v2,v3,v4⟩:=uR5 h.p3;simp at y0 y1 y2 y3 y4 v0 v1 v2 v3 v4;replace H:=hQd h;clear h);have hz:St W0 _ _ (.raw rb #[.bool false,.string ⟨#[]⟩,.int .i64 0,.int .i64 0,.slice none 0 0] 26::_):=St.sets5P _ _ _ _ _ H.out.p3;refine bodyPost_ret (zAy rfl _ _ rb [.bool false,.string ⟨#[]⟩,.int .i64 0,.int .i64 0,.slice none 0 0] _ rfl (zAr hz) Tryz.underlying26 rfl (by kernel_rfl)) rfl ?_;exact .inl ⟨by rw[HER.out];exact HE0.out,K2,rfl,HKK.out,hz.drop.drop.drop⟩):p:=h
theorem zq39{p:Prop}(h:p:=by refine⟨0,.slice none 0 0,[],c,[],K,Nat.zero_le _,rfl,hQd rfl,hQd rfl,hQd HX0.out,hQd (Know.has_refl _),hQd (fun x hx=>by cases hx),hQd HS0.out,?_⟩;exact(H.out.p1.nilRow 65 2)):p:=h
theorem zq44{p:Prop}(h:p:=by have h9:=zEp (M:=i.s.length) n [] c (by rw[hs0];exact Nat.le_refl _) (fun x hx=>by cases hx);rw[h5,List.length_nil]at h9;exact⟨Nat.le_trans h9.1 oM,h9.2⟩):p:=h
theorem zHB(p:Nat)(v:Int)(i i1 i2 i3 c j:InS)(dd:Bs)(ac tm:Int)(n:Nat)(ts:List (Bs×List (Int×List BatS)))(h1:i.fixed 2=(⟨false,dd⟩,i1))(h2:i1.int 2=(ac,i2))(h3:i2.int 4=(tm,i3))(h4:i3.cnt 6=(n,c))(h5:InS.ptopsN n [] c=(ts,j))(hd:i.s.length≤1000000)(h:St W0 w K (.inp p i::L)):
 Calls Tryz.prog 15 #[zAu p,.int .i64 v] w fun en w'=>(j.err≠0∧∃K2:Know,en=.returned (.agg #[.bool false,.string ⟨#[]⟩,.int .i64 0,.int .i64 0,.slice none 0 0])∧K2.has K∧St W0 w' K2 (.inp p j::L))∨(j.err=0∧∃(q:Option Addr) (cap:Nat) (lr:List PTop) (K2:Know),K2.has K∧lr.map PTop.pt=ts∧(∀x∈lr,CkT x)∧lr.length≤1000000∧(∀x∈lr,PtOk i.s.length x.pt∧∀y∈x.l,∀z∈y.l,z.l.map (·.1)=z.b.recs)∧((zAC ⟨false,dd⟩ ac tm v lr=0∧en=.returned (.agg #[.bool false,.string (bb dd),.int .i64 ac,.int .i64 tm,.slice q lr.length cap])∧K2.has (Know.ptops (.slice q lr.length cap) lr)∧St W0 w' K2 (.inp p j::L))∨(zAC ⟨false,dd⟩ ac tm v lr≠0∧en=.returned (.agg #[.bool false,.string ⟨#[]⟩,.int .i64 0,.int .i64 0,.slice none 0 0])∧St W0 w' K2 (.inp p (j.fail (zAC ⟨false,dd⟩ ac tm v lr))::L)))):=by
 have s1:i1.s=i.s:=by have:=(zBr i 2).1;rw[h1]at this;exact this
 have s2:i2.s=i1.s:=by have:=zB2 i1 2;rw[h2]at this;exact this
 have s3:i3.s=i2.s:=by have:=zB2 i2 4;rw[h3]at this;exact this
 have s4:c.s=i3.s:=by have:=zFj i3 6;rw[h4]at this;exact this
 have hs0:c.s=i.s:=by rw[s4,s3,s2,s1]
 have hn9:n≤1000000:=by have h9:=zJa i3 6 dD;rw[h4,s3,s2,s1]at h9;exact Nat.le_trans h9 hd
 have hok:ts.length≤1000000∧∀x∈ts,PtOk i.s.length x:=by
  exact zq44
 have hdd:dd.length≤140737488355328:=by have h9:=(zBr i 2).2;rw[h1]at h9;have h9:dd.length≤i.s.length:=h9;omega
 obtain⟨rb,hrb⟩:∃b,w.heap.size=b:=⟨_,rfl⟩;obtain⟨tb,htb⟩:∃b,rb+1=b:=⟨_,rfl⟩;have g1:=((h.allocRaw #[.bool false,.string ⟨#[]⟩,.int .i64 0,.int .i64 0,.slice none 0 0] 26).allocRaw #[.bool false,.string ⟨#[]⟩,.int .i64 0,.int .i64 0,.slice none 0 0] 26).p2;simp only[World.size_alloc,hrb,htb]at g1;have H:=hQd g1;have H1:=hQd h1;have H2:=hQd h2;have H3:=hQd h3;have H4:=hQd h4;have HX0:=hQd h5;have HS0:=hQd hs0;have HDL:=hQd hd;have HOK:=hQd hok;have HDD:=hQd hdd;have HNL:=hQd hn9;have hni:(n:Int)≤1000000:=by omega
 clear h g1 h1 h2 h3 h4 h5 hd hs0 hok hdd hn9 s1 s2 s3 s4;go_enter Tryz.func15,Tryz.ntmps15
 go_wp2_with (first
  |(go_at_call 43;(try clear x0 x1 x2 x3);(with_reducible refine(zIP p i i1 2 false dd H1.out H.out).mono ?_);rintro e_ wn ⟨rfl,h⟩;have h:=h.p1;have x0:=h.rawFree 0;have x1:=h.rawCell 0;have x2:=h.rawFree 1;have x3:=h.rawCell 1;simp at x1 x3;have h:=(show St W0 ((wn.setCell ⟨tb,0,none⟩ (.bool false)).setCell ⟨tb,1,none⟩ (.string (bb dd))) K (.inp p i1::.raw tb #[.bool false,.string (bb dd),.int .i64 0,.int .i64 0,.slice none 0 0] 26::.raw rb #[.bool false,.string ⟨#[]⟩,.int .i64 0,.int .i64 0,.slice none 0 0] 26::L)from((h.rawSet 0 (.bool false)).rawSet 1 (.string (bb dd))).p1);replace H:=hQd h;clear h)
  |(go_at_call 44;(try clear x0 x1 x2 x3);(with_reducible refine(zNM p i1 i2 ac 2 H2.out H.out).mono ?_);rintro e_ wn ⟨rfl,h⟩;have h:=h.p1;have x0:=h.rawFree 2;have x1:=h.rawCell 2;simp at x1;have h:=(show St W0 (wn.setCell ⟨tb,2,none⟩ (.int .i64 ac)) K (.inp p i2::.raw tb #[.bool false,.string (bb dd),.int .i64 ac,.int .i64 0,.slice none 0 0] 26::.raw rb #[.bool false,.string ⟨#[]⟩,.int .i64 0,.int .i64 0,.slice none 0 0] 26::L)from(h.rawSet 2 (.int .i64 ac)).p1);replace H:=hQd h;clear h)
  |(go_at_call 44;(try clear x0 x1 x2 x3);(with_reducible refine(zNM p i2 i3 tm 4 H3.out H.out).mono ?_);rintro e_ wn ⟨rfl,h⟩;have h:=h.p1;have x0:=h.rawFree 3;have x1:=h.rawCell 3;simp at x1;have h:=(show St W0 (wn.setCell ⟨tb,3,none⟩ (.int .i64 tm)) K (.inp p i3::.raw tb #[.bool false,.string (bb dd),.int .i64 ac,.int .i64 tm,.slice none 0 0] 26::.raw rb #[.bool false,.string ⟨#[]⟩,.int .i64 0,.int .i64 0,.slice none 0 0] 26::L)from(h.rawSet 3 (.int .i64 tm)).p1);replace H:=hQd h;clear h)
  |(go_at_call 45;(try clear x0 x1 x2 x3);(with_reducible refine(zRy p i3 c 6 n 6 rfl H4.out H.out).zM ?_);clear H;intro wn H))
 go_loopw [18] (fun iv wr=>∃(k:Nat) (v:Value) (xs:List Value) (i2:InS) (acc:List PTop) (K2:Know),k≤n∧iv=.int .i64 k∧Hid (k=acc.length)∧Hid (xs=acc.flatMap zCE)∧Hid (InS.ptopsN (n - k) (acc.map PTop.pt) i2=(ts,j))∧Hid (K2.has K)∧Hid (∀x∈acc,K2.has (Know.pparts (.slice x.q x.l.length x.cap) x.l)∧∀y∈x.l,∀z∈y.l,z.l.map (·.1)=z.b.recs)∧Hid (i2.s=i.s)∧St W0 wr K2 (.row v 65 2 k xs::.raw tb #[.bool false,.string (bb dd),.int .i64 ac,.int .i64 tm,v] 26::.inp p i2::.raw rb #[.bool false,.string ⟨#[]⟩,.int .i64 0,.int .i64 0,.slice none 0 0] 26::L)) (fun iv _=>n - (intOf iv).toNat)
 case atStart=>
  exact zq39
 case round=>
  obtain⟨k,v9,xs,i2,acc,K2,hk,rfl,HAL,HXS,HP,HKK,HALL,HS,hst⟩:=hrel;clear H;obtain⟨qv0,cv0,hv0⟩:=hst.rowAny;subst hv0;have H:=hQd hst;clear hst
  by_cases hlt:k<n
  ·exact zq4
  ·obtain rfl:k=n:=by omega
   have hp:=HP.out;rw[Nat.sub_self]at hp;have hp:(acc.map PTop.pt,i2)=(ts,j):=hp;simp only[Prod.mk.injEq]at hp;obtain⟨hpl,rfl⟩:=hp;have HPL:=hQd hpl;have HLL:=hQd (show acc.length≤1000000 by have h9:=HOK.out.1;rw[←hpl,List.length_map]at h9;exact h9);have HCK:=hQd (show ∀x∈acc,CkT x from fun x hx=>zPw HDL.out x (HOK.out.2 x.pt (by rw[←hpl];exact List.mem_map_of_mem hx)) (HALL.out x hx).2);have HOT:=hQd (show ∀x∈acc,PtOk i.s.length x.pt∧∀y∈x.l,∀z∈y.l,z.l.map (·.1)=z.b.recs from fun x hx=>⟨HOK.out.2 x.pt (by rw[←hpl];exact List.mem_map_of_mem hx),(HALL.out x hx).2⟩);clear hpl;obtain⟨er,her⟩:∃er,i2.err=er:=⟨_,rfl⟩;have HER:=hQd her
   by_cases he0:er=0
   ·subst he0;clear her;have hf:=H.out.freezeTopsK HAL.out HXS.out (fun x hx=>(HALL.out x hx).1);have HK9:=hQd (show(K2.and (Know.ptops (.slice qv0 k cv0) acc)).has (Know.ptops (.slice qv0 k cv0) acc)from Know.has_right (Know.has_refl _));have HK8:=hQd (show(K2.and (Know.ptops (.slice qv0 k cv0) acc)).has K from Know.has_trans (Know.has_left (Know.has_refl _)) HKK.out);clear H;have H:=hQd hf;clear hf;obtain⟨e,he⟩:∃e,zAC ⟨false,dd⟩ ac tm v acc=e:=⟨_,rfl⟩;have HE:=hQd he
    by_cases h0:e=0
    ·subst h0;clear he
     go_wp2_with (first
  |(go_at_call 20;(try clear y0 y1 y2 y3 y4 w0 w1 w2 w3 w4 v0 v1 v2 v3 v4);(with_reducible refine(zDW p i2 0 HER.out H.out.p1).mono ?_);rintro e_ wn ⟨rfl,h⟩;have h:=h.p1;obtain⟨y0,y1,y2,y3,y4⟩:=uR5 h;obtain⟨w0,w1,w2,w3,w4⟩:=uS5 h.p2;obtain⟨v0,v1,v2,v3,v4⟩:=uR5 h.p2;simp at y0 y1 y2 y3 y4 v0 v1 v2 v3 v4;replace H:=hQd h;clear h)
  |(go_at_call 12;(try clear y0 y1 y2 y3 y4 w0 w1 w2 w3 w4 v0 v1 v2 v3 v4);(with_reducible refine(zDe false dd ac tm v acc qv0 cv0 k HAL.out HDD.out HCK.out (Nat.le_trans HLL.out dD) 0 HE.out HK9.out H.out).mono ?_);rintro e_ wn ⟨rfl,h⟩;obtain⟨y0,y1,y2,y3,y4⟩:=uR5 h;obtain⟨w0,w1,w2,w3,w4⟩:=uS5 h.p2;obtain⟨v0,v1,v2,v3,v4⟩:=uR5 h.p2;simp at y0 y1 y2 y3 y4 v0 v1 v2 v3 v4;replace H:=hQd h;clear h))
     have hz:St W0 _ _ (.raw rb #[.bool false,.string (bb dd),.int .i64 ac,.int .i64 tm,.slice qv0 k cv0] 26::_):=St.sets5P _ _ _ _ _ H.out.p2;refine bodyPost_ret (zAy rfl _ _ rb [.bool false,.string (bb dd),.int .i64 ac,.int .i64 tm,.slice qv0 k cv0] _ rfl (zAr hz) Tryz.underlying26 rfl (by kernel_rfl)) rfl ?_;have hn:=HAL.out;subst hn;exact .inr ⟨HER.out,qv0,cv0,acc,_,HK8.out,HPL.out,HCK.out,HLL.out,HOT.out,.inl ⟨HE.out,rfl,HK9.out,hz.drop.drop⟩⟩
    ·have gz:(e==0)=false:=by rw[beq_eq_false_iff_ne];exact h0
     have gz3:(e !=0)=true:=by simp[bne,gz]
     have HE0:=hQd h0;obtain⟨j2,hj2⟩:∃j2,i2.fail e=j2:=⟨_,rfl⟩;have HF:=hQd hj2;have HER2:=hQd (show j2.err=e by rw[←hj2];unfold InS.fail;rw[if_pos HER.out]);clear h0 he hj2
     go_wp2_with (first
  |(go_at_call 20;(try clear y0 y1 y2 y3 y4 w0 w1 w2 w3 w4 v0 v1 v2 v3 v4);(with_reducible refine(zDW p i2 0 HER.out H.out.p1).mono ?_);rintro e_ wn ⟨rfl,h⟩;have h:=h.p1;obtain⟨y0,y1,y2,y3,y4⟩:=uR5 h;obtain⟨w0,w1,w2,w3,w4⟩:=uS5 h.p2;obtain⟨v0,v1,v2,v3,v4⟩:=uR5 h.p2;simp at y0 y1 y2 y3 y4 v0 v1 v2 v3 v4;replace H:=hQd h;clear h)
  |(go_at_call 12;(try clear y0 y1 y2 y3 y4 w0 w1 w2 w3 w4 v0 v1 v2 v3 v4);(with_reducible refine(zDe false dd ac tm v acc qv0 cv0 k HAL.out HDD.out HCK.out (Nat.le_trans HLL.out dD) e HE.out HK9.out H.out).mono ?_);rintro e_ wn ⟨rfl,h⟩;obtain⟨y0,y1,y2,y3,y4⟩:=uR5 h;obtain⟨w0,w1,w2,w3,w4⟩:=uS5 h.p2;obtain⟨v0,v1,v2,v3,v4⟩:=uR5 h.p2;simp at y0 y1 y2 y3 y4 v0 v1 v2 v3 v4;replace H:=hQd h;clear h)
  |(go_at_call 47;(try clear y0 y1 y2 y3 y4 w0 w1 w2 w3 w4 v0 v1 v2 v3 v4);(with_reducible refine(zKo p i2 j2 e HF.out H.out.p1).mono ?_);rintro e_ wn ⟨rfl,h⟩;have h:=h.p1;obtain⟨y0,y1,y2,y3,y4⟩:=uR5 h;obtain⟨w0,w1,w2,w3,w4⟩:=uS5 h.p2;obtain⟨v0,v1,v2,v3,v4⟩:=uR5 h.p2;simp at y0 y1 y2 y3 y4 v0 v1 v2 v3 v4;replace H:=hQd h;clear h)
  |(go_at_call 20;(try clear y0 y1 y2 y3 y4 w0 w1 w2 w3 w4 v0 v1 v2 v3 v4);(with_reducible refine(zDW p j2 e HER2.out H.out.p1).mono ?_);rintro e_ wn ⟨rfl,h⟩;have h:=h.p1;obtain⟨y0,y1,y2,y3,y4⟩:=uR5 h;obtain⟨w0,w1,w2,w3,w4⟩:=uS5 h.p2;obtain⟨v0,v1,v2,v3,v4⟩:=uR5 h.p2;simp at y0 y1 y2 y3 y4 v0 v1 v2 v3 v4;replace H:=hQd h;clear h))
     have hz:St W0 _ _ (.raw rb #[.bool false,.string ⟨#[]⟩,.int .i64 0,.int .i64 0,.slice none 0 0] 26::_):=St.sets5P _ _ _ _ _ H.out.p2;refine bodyPost_ret (zAy rfl _ _ rb [.bool false,.string ⟨#[]⟩,.int .i64 0,.int .i64 0,.slice none 0 0] _ rfl (zAr hz) Tryz.underlying26 rfl (by kernel_rfl)) rfl ?_;exact .inr ⟨HER.out,qv0,cv0,acc,_,HK8.out,HPL.out,HCK.out,HLL.out,HOT.out,.inr ⟨by rw[HE.out];exact HE0.out,rfl,by rw[HE.out,HF.out];exact hz.drop.drop⟩⟩
   ·exact zq12
theorem zIG(p:Nat)(v:Int)(i i1 i2 i3 c j:InS)(dd:Bs)(ac tm:Int)(n:Nat)(ts:List (Bs×List (Int×List BatS)))(h1:i.fixed 2=(⟨true,dd⟩,i1))(h2:i1.int 2=(ac,i2))(h3:i2.int 4=(tm,i3))(h4:i3.cnt 6=(n,c))(h5:InS.ptopsN n [] c=(ts,j))(hd:i.s.length≤1000000)(h:St W0 w K (.inp p i::L)):
 Calls Tryz.prog 15 #[zAu p,.int .i64 v] w fun en w'=>(j.err≠0∧∃K2:Know,en=.returned (.agg #[.bool false,.string ⟨#[]⟩,.int .i64 0,.int .i64 0,.slice none 0 0])∧K2.has K∧St W0 w' K2 (.inp p j::L))∨(j.err=0∧∃(q:Option Addr) (cap:Nat) (lr:List PTop) (K2:Know),K2.has K∧lr.map PTop.pt=ts∧(∀x∈lr,CkT x)∧lr.length≤1000000∧(∀x∈lr,PtOk i.s.length x.pt∧∀y∈x.l,∀z∈y.l,z.l.map (·.1)=z.b.recs)∧((zAC ⟨true,dd⟩ ac tm v lr=0∧en=.returned (.agg #[.bool true,.string (bb dd),.int .i64 ac,.int .i64 tm,.slice q lr.length cap])∧K2.has (Know.ptops (.slice q lr.length cap) lr)∧St W0 w' K2 (.inp p j::L))∨(zAC ⟨true,dd⟩ ac tm v lr≠0∧en=.returned (.agg #[.bool false,.string ⟨#[]⟩,.int .i64 0,.int .i64 0,.slice none 0 0])∧St W0 w' K2 (.inp p (j.fail (zAC ⟨true,dd⟩ ac tm v lr))::L)))):=by
 have s1:i1.s=i.s:=by have:=(zBr i 2).1;rw[h1]at this;exact this
 have s2:i2.s=i1.s:=by have:=zB2 i1 2;rw[h2]at this;exact this
 have s3:i3.s=i2.s:=by have:=zB2 i2 4;rw[h3]at this;exact this
 have s4:c.s=i3.s:=by have:=zFj i3 6;rw[h4]at this;exact this
 have hs0:c.s=i.s:=by rw[s4,s3,s2,s1]
 have hn9:n≤1000000:=by have h9:=zJa i3 6 dD;rw[h4,s3,s2,s1]at h9;exact Nat.le_trans h9 hd
 have hok:ts.length≤1000000∧∀x∈ts,PtOk i.s.length x:=by
  exact zq44
 have hdd:dd.length≤140737488355328:=by have h9:=(zBr i 2).2;rw[h1]at h9;have h9:dd.length≤i.s.length:=h9;omega
 obtain⟨rb,hrb⟩:∃b,w.heap.size=b:=⟨_,rfl⟩;obtain⟨tb,htb⟩:∃b,rb+1=b:=⟨_,rfl⟩;have g1:=((h.allocRaw #[.bool false,.string ⟨#[]⟩,.int .i64 0,.int .i64 0,.slice none 0 0] 26).allocRaw #[.bool false,.string ⟨#[]⟩,.int .i64 0,.int .i64 0,.slice none 0 0] 26).p2;simp only[World.size_alloc,hrb,htb]at g1;have H:=hQd g1;have H1:=hQd h1;have H2:=hQd h2;have H3:=hQd h3;have H4:=hQd h4;have HX0:=hQd h5;have HS0:=hQd hs0;have HDL:=hQd hd;have HOK:=hQd hok;have HDD:=hQd hdd;have HNL:=hQd hn9;have hni:(n:Int)≤1000000:=by omega
 clear h g1 h1 h2 h3 h4 h5 hd hs0 hok hdd hn9 s1 s2 s3 s4;go_enter Tryz.func15,Tryz.ntmps15
 go_wp2_with (first
  |(go_at_call 43;(try clear x0 x1 x2 x3);(with_reducible refine(zIP p i i1 2 true dd H1.out H.out).mono ?_);rintro e_ wn ⟨rfl,h⟩;have h:=h.p1;have x0:=h.rawFree 0;have x1:=h.rawCell 0;have x2:=h.rawFree 1;have x3:=h.rawCell 1;simp at x1 x3;have h:=(show St W0 ((wn.setCell ⟨tb,0,none⟩ (.bool true)).setCell ⟨tb,1,none⟩ (.string (bb dd))) K (.inp p i1::.raw tb #[.bool true,.string (bb dd),.int .i64 0,.int .i64 0,.slice none 0 0] 26::.raw rb #[.bool false,.string ⟨#[]⟩,.int .i64 0,.int .i64 0,.slice none 0 0] 26::L)from((h.rawSet 0 (.bool true)).rawSet 1 (.string (bb dd))).p1);replace H:=hQd h;clear h)
  |(go_at_call 44;(try clear x0 x1 x2 x3);(with_reducible refine(zNM p i1 i2 ac 2 H2.out H.out).mono ?_);rintro e_ wn ⟨rfl,h⟩;have h:=h.p1;have x0:=h.rawFree 2;have x1:=h.rawCell 2;simp at x1;have h:=(show St W0 (wn.setCell ⟨tb,2,none⟩ (.int .i64 ac)) K (.inp p i2::.raw tb #[.bool true,.string (bb dd),.int .i64 ac,.int .i64 0,.slice none 0 0] 26::.raw rb #[.bool false,.string ⟨#[]⟩,.int .i64 0,.int .i64 0,.slice none 0 0] 26::L)from(h.rawSet 2 (.int .i64 ac)).p1);replace H:=hQd h;clear h)
  |(go_at_call 44;(try clear x0 x1 x2 x3);(with_reducible refine(zNM p i2 i3 tm 4 H3.out H.out).mono ?_);rintro e_ wn ⟨rfl,h⟩;have h:=h.p1;have x0:=h.rawFree 3;have x1:=h.rawCell 3;simp at x1;have h:=(show St W0 (wn.setCell ⟨tb,3,none⟩ (.int .i64 tm)) K (.inp p i3::.raw tb #[.bool true,.string (bb dd),.int .i64 ac,.int .i64 tm,.slice none 0 0] 26::.raw rb #[.bool false,.string ⟨#[]⟩,.int .i64 0,.int .i64 0,.slice none 0 0] 26::L)from(h.rawSet 3 (.int .i64 tm)).p1);replace H:=hQd h;clear h)
  |(go_at_call 45;(try clear x0 x1 x2 x3);(with_reducible refine(zRy p i3 c 6 n 6 rfl H4.out H.out).zM ?_);clear H;intro wn H))
 go_loopw [18] (fun iv wr=>∃(k:Nat) (v:Value) (xs:List Value) (i2:InS) (acc:List PTop) (K2:Know),k≤n∧iv=.int .i64 k∧Hid (k=acc.length)∧Hid (xs=acc.flatMap zCE)∧Hid (InS.ptopsN (n - k) (acc.map PTop.pt) i2=(ts,j))∧Hid (K2.has K)∧Hid (∀x∈acc,K2.has (Know.pparts (.slice x.q x.l.length x.cap) x.l)∧∀y∈x.l,∀z∈y.l,z.l.map (·.1)=z.b.recs)∧Hid (i2.s=i.s)∧St W0 wr K2 (.row v 65 2 k xs::.raw tb #[.bool true,.string (bb dd),.int .i64 ac,.int .i64 tm,v] 26::.inp p i2::.raw rb #[.bool false,.string ⟨#[]⟩,.int .i64 0,.int .i64 0,.slice none 0 0] 26::L)) (fun iv _=>n - (intOf iv).toNat)
 case atStart=>
  exact zq39
 case round=>
  obtain⟨k,v9,xs,i2,acc,K2,hk,rfl,HAL,HXS,HP,HKK,HALL,HS,hst⟩:=hrel;clear H;obtain⟨qv0,cv0,hv0⟩:=hst.rowAny;subst hv0;have H:=hQd hst;clear hst
  by_cases hlt:k<n
  ·exact zq4
  ·obtain rfl:k=n:=by omega
   have hp:=HP.out;rw[Nat.sub_self]at hp;have hp:(acc.map PTop.pt,i2)=(ts,j):=hp;simp only[Prod.mk.injEq]at hp;obtain⟨hpl,rfl⟩:=hp;have HPL:=hQd hpl;have HLL:=hQd (show acc.length≤1000000 by have h9:=HOK.out.1;rw[←hpl,List.length_map]at h9;exact h9);have HCK:=hQd (show ∀x∈acc,CkT x from fun x hx=>zPw HDL.out x (HOK.out.2 x.pt (by rw[←hpl];exact List.mem_map_of_mem hx)) (HALL.out x hx).2);have HOT:=hQd (show ∀x∈acc,PtOk i.s.length x.pt∧∀y∈x.l,∀z∈y.l,z.l.map (·.1)=z.b.recs from fun x hx=>⟨HOK.out.2 x.pt (by rw[←hpl];exact List.mem_map_of_mem hx),(HALL.out x hx).2⟩);clear hpl;obtain⟨er,her⟩:∃er,i2.err=er:=⟨_,rfl⟩;have HER:=hQd her
   by_cases he0:er=0
   ·subst he0;clear her;have hf:=H.out.freezeTopsK HAL.out HXS.out (fun x hx=>(HALL.out x hx).1);have HK9:=hQd (show(K2.and (Know.ptops (.slice qv0 k cv0) acc)).has (Know.ptops (.slice qv0 k cv0) acc)from Know.has_right (Know.has_refl _));have HK8:=hQd (show(K2.and (Know.ptops (.slice qv0 k cv0) acc)).has K from Know.has_trans (Know.has_left (Know.has_refl _)) HKK.out);clear H;have H:=hQd hf;clear hf;obtain⟨e,he⟩:∃e,zAC ⟨true,dd⟩ ac tm v acc=e:=⟨_,rfl⟩;have HE:=hQd he
    by_cases h0:e=0
    ·subst h0;clear he
     go_wp2_with (first
  |(go_at_call 20;(try clear y0 y1 y2 y3 y4 w0 w1 w2 w3 w4 v0 v1 v2 v3 v4);(with_reducible refine(zDW p i2 0 HER.out H.out.p1).mono ?_);rintro e_ wn ⟨rfl,h⟩;have h:=h.p1;obtain⟨y0,y1,y2,y3,y4⟩:=uR5 h;obtain⟨w0,w1,w2,w3,w4⟩:=uS5 h.p2;obtain⟨v0,v1,v2,v3,v4⟩:=uR5 h.p2;simp at y0 y1 y2 y3 y4 v0 v1 v2 v3 v4;replace H:=hQd h;clear h)
  |(go_at_call 12;(try clear y0 y1 y2 y3 y4 w0 w1 w2 w3 w4 v0 v1 v2 v3 v4);(with_reducible refine(zDe true dd ac tm v acc qv0 cv0 k HAL.out HDD.out HCK.out (Nat.le_trans HLL.out dD) 0 HE.out HK9.out H.out).mono ?_);rintro e_ wn ⟨rfl,h⟩;obtain⟨y0,y1,y2,y3,y4⟩:=uR5 h;obtain⟨w0,w1,w2,w3,w4⟩:=uS5 h.p2;obtain⟨v0,v1,v2,v3,v4⟩:=uR5 h.p2;simp at y0 y1 y2 y3 y4 v0 v1 v2 v3 v4;replace H:=hQd h;clear h))
     have hz:St W0 _ _ (.raw rb #[.bool true,.string (bb dd),.int .i64 ac,.int .i64 tm,.slice qv0 k cv0] 26::_):=St.sets5P _ _ _ _ _ H.out.p2;refine bodyPost_ret (zAy rfl _ _ rb [.bool true,.string (bb dd),.int .i64 ac,.int .i64 tm,.slice qv0 k cv0] _ rfl (zAr hz) Tryz.underlying26 rfl (by kernel_rfl)) rfl ?_;have hn:=HAL.out;subst hn;exact .inr ⟨HER.out,qv0,cv0,acc,_,HK8.out,HPL.out,HCK.out,HLL.out,HOT.out,.inl ⟨HE.out,rfl,HK9.out,hz.drop.drop⟩⟩
    ·have gz:(e==0)=false:=by rw[beq_eq_false_iff_ne];exact h0
     have gz3:(e !=0)=true:=by simp[bne,gz]
     have HE0:=hQd h0;obtain⟨j2,hj2⟩:∃j2,i2.fail e=j2:=⟨_,rfl⟩;have HF:=hQd hj2;have HER2:=hQd (show j2.err=e by rw[←hj2];unfold InS.fail;rw[if_pos HER.out]);clear h0 he hj2
     go_wp2_with (first
  |(go_at_call 20;(try clear y0 y1 y2 y3 y4 w0 w1 w2 w3 w4 v0 v1 v2 v3 v4);(with_reducible refine(zDW p i2 0 HER.out H.out.p1).mono ?_);rintro e_ wn ⟨rfl,h⟩;have h:=h.p1;obtain⟨y0,y1,y2,y3,y4⟩:=uR5 h;obtain⟨w0,w1,w2,w3,w4⟩:=uS5 h.p2;obtain⟨v0,v1,v2,v3,v4⟩:=uR5 h.p2;simp at y0 y1 y2 y3 y4 v0 v1 v2 v3 v4;replace H:=hQd h;clear h)
  |(go_at_call 12;(try clear y0 y1 y2 y3 y4 w0 w1 w2 w3 w4 v0 v1 v2 v3 v4);(with_reducible refine(zDe true dd ac tm v acc qv0 cv0 k HAL.out HDD.out HCK.out (Nat.le_trans HLL.out dD) e HE.out HK9.out H.out).mono ?_);rintro e_ wn ⟨rfl,h⟩;obtain⟨y0,y1,y2,y3,y4⟩:=uR5 h;obtain⟨w0,w1,w2,w3,w4⟩:=uS5 h.p2;obtain⟨v0,v1,v2,v3,v4⟩:=uR5 h.p2;simp at y0 y1 y2 y3 y4 v0 v1 v2 v3 v4;replace H:=hQd h;clear h)
  |(go_at_call 47;(try clear y0 y1 y2 y3 y4 w0 w1 w2 w3 w4 v0 v1 v2 v3 v4);(with_reducible refine(zKo p i2 j2 e HF.out H.out.p1).mono ?_);rintro e_ wn ⟨rfl,h⟩;have h:=h.p1;obtain⟨y0,y1,y2,y3,y4⟩:=uR5 h;obtain⟨w0,w1,w2,w3,w4⟩:=uS5 h.p2;obtain⟨v0,v1,v2,v3,v4⟩:=uR5 h.p2;simp at y0 y1 y2 y3 y4 v0 v1 v2 v3 v4;replace H:=hQd h;clear h)
  |(go_at_call 20;(try clear y0 y1 y2 y3 y4 w0 w1 w2 w3 w4 v0 v1 v2 v3 v4);(with_reducible refine(zDW p j2 e HER2.out H.out.p1).mono ?_);rintro e_ wn ⟨rfl,h⟩;have h:=h.p1;obtain⟨y0,y1,y2,y3,y4⟩:=uR5 h;obtain⟨w0,w1,w2,w3,w4⟩:=uS5 h.p2;obtain⟨v0,v1,v2,v3,v4⟩:=uR5 h.p2;simp at y0 y1 y2 y3 y4 v0 v1 v2 v3 v4;replace H:=hQd h;clear h))
     have hz:St W0 _ _ (.raw rb #[.bool false,.string ⟨#[]⟩,.int .i64 0,.int .i64 0,.slice none 0 0] 26::_):=St.sets5P _ _ _ _ _ H.out.p2;refine bodyPost_ret (zAy rfl _ _ rb [.bool false,.string ⟨#[]⟩,.int .i64 0,.int .i64 0,.slice none 0 0] _ rfl (zAr hz) Tryz.underlying26 rfl (by kernel_rfl)) rfl ?_;exact .inr ⟨HER.out,qv0,cv0,acc,_,HK8.out,HPL.out,HCK.out,HLL.out,HOT.out,.inr ⟨by rw[HE.out];exact HE0.out,rfl,by rw[HE.out,HF.out];exact hz.drop.drop⟩⟩
   ·exact zq12
theorem zB8{a b:BatS}(h:¬a=b){r:Bool}(hr:decide (a=b)=r):r=false:=by rw[←hr];exact decide_eq_false h
theorem zK7(base1:Int)(leader1:Int)(app1:Bool)(txn1:Bool)(ctl1:Bool)(last1:Int)(first1:Int)(maxt1:Int)(prod1:Int)(epoch1:Int)(seq1:Int)(base2:Int)(leader2:Int)(app2:Bool)(txn2:Bool)(ctl2:Bool)(last2:Int)(first2:Int)(maxt2:Int)(prod2:Int)(epoch2:Int)(seq2:Int)(l1 l2:List RecS)(h:l1≠l2):((⟨base1,leader1,app1,txn1,ctl1,last1,first1,maxt1,prod1,epoch1,seq1,l1⟩:BatS))≠(⟨base2,leader2,app2,txn2,ctl2,last2,first2,maxt2,prod2,epoch2,seq2,l2⟩:BatS):=by intro hh;injection hh;contradiction
theorem zEu(l:List (RecS×Value))(k:Nat)(h:k<l.length)(x:RecS)(hx:l[k].1=x):(l.map (·.1)).take (k+1)=(l.map (·.1)).take k++[x]:=by
 subst hx;rw[List.take_succ_eq_append_getElem (by simpa using h)]
 simp
theorem zIU(l m:List (RecS×Value))(k:Nat)(h1:k<l.length)(h2:k<m.length)(x y:RecS)(hx:l[k].1=x)(hy:m[k].1=y)(h:x≠y):l.map (·.1)≠m.map (·.1):=by
 intro hh;have e1:(l.map (·.1))[k]? =(m.map (·.1))[k]? :=by rw[hh]
 rw[List.getElem?_map,List.getElem?_map,List.getElem?_eq_getElem h1,List.getElem?_eq_getElem h2]at e1;simp at e1;exact h (hx ▸ hy ▸ e1)
theorem zNR(l m:List (RecS×Value))(h:l.length≠m.length):l.map (·.1)≠m.map (·.1):=fun hh=>h (by have:=congrArg List.length hh;simpa using this)
structure EqP (x:PartR):Prop where
 len:x.l.length≤4398046511104
 bats:∀z∈x.l,EqR z
structure EqT (x:PTop):Prop where
 len:x.l.length≤4398046511104
 parts:∀y∈x.l,EqP y
theorem zQ1{l:List PTop}(h:∀x∈l,CkT x):∀x∈l,EqT x:=fun x hx=>
  ⟨(h x hx).len,fun y hy=>⟨((h x hx).parts y hy).len,fun z hz=>by
    have c:=((h x hx).parts y hy).bats z hz
    exact⟨c.len,c.recs,fun v hv=>by have:=zIm (c.fit v hv).2.2;omega⟩⟩⟩
theorem zGJ(p:Nat)(v:Int)(s:Bs)(nl:Bool)(dd:Bs)(ac tm:Int)(ts:List TopV)(j:InS)(hI:ReqI ⟨s,0,0⟩ ⟨nl,dd⟩ ac tm ts j)(hs:s.length≤1000000){W0 w:World}{K:Know}{L:List Res}(h:St W0 w K (.inp p ⟨s,0,0⟩::L)):
 Calls Tryz.prog 15 #[zAu p,.int .i64 v] w fun en w'=>(j.err≠0∧∃K2:Know,en=.returned (.agg #[.bool false,.string ⟨#[]⟩,.int .i64 0,.int .i64 0,.slice none 0 0])∧K2.has K∧St W0 w' K2 (.inp p j::L))∨(j.err=0∧∃(q:Option Addr) (cap:Nat) (lr:List PTop) (K2:Know),K2.has K∧lr.map PTop.pt=ts∧(∀x∈lr,CkT x)∧lr.length≤1000000∧(∀x∈lr,PtOk s.length x.pt∧∀y∈x.l,∀z∈y.l,z.l.map (·.1)=z.b.recs)∧((zAC ⟨nl,dd⟩ ac tm v lr=0∧en=.returned (.agg #[.bool nl,.string (bb dd),.int .i64 ac,.int .i64 tm,.slice q lr.length cap])∧K2.has (Know.ptops (.slice q lr.length cap) lr)∧St W0 w' K2 (.inp p j::L))∨(zAC ⟨nl,dd⟩ ac tm v lr≠0∧en=.returned (.agg #[.bool false,.string ⟨#[]⟩,.int .i64 0,.int .i64 0,.slice none 0 0])∧St W0 w' K2 (.inp p (j.fail (zAC ⟨nl,dd⟩ ac tm v lr))::L)))):=by
 obtain⟨i1,i2,i3,c,n,h1,h2,h3,h4,h5⟩:=hI
 cases nl with
 |false=>exact zHB p v _ i1 i2 i3 c j dd ac tm n ts h1 h2 h3 h4 h5 hs h
 |true=>exact zIG p v _ i1 i2 i3 c j dd ac tm n ts h1 h2 h3 h4 h5 hs h
variable {W0 w:World}{K:Know}{L:List Res}
theorem zAG{b:Nat}{T:TypeId}{v0 v1 v2 v3 v4 v5 v6 v7 v8 v9 v10 v11 v12 v13:Value}(h:St W0 w K (.raw b #[v0,v1,v2,v3,v4,v5,v6,v7,v8,v9,v10,v11,v12,v13] T::L)):
 w.cell? ⟨b,0,none⟩=some v0∧w.cell? ⟨b,1,none⟩=some v1∧w.cell? ⟨b,2,none⟩=some v2∧w.cell? ⟨b,3,none⟩=some v3∧w.cell? ⟨b,4,none⟩=some v4∧w.cell? ⟨b,5,none⟩=some v5∧w.cell? ⟨b,6,none⟩=some v6∧w.cell? ⟨b,7,none⟩=some v7∧w.cell? ⟨b,8,none⟩=some v8∧w.cell? ⟨b,9,none⟩=some v9∧w.cell? ⟨b,10,none⟩=some v10∧w.cell? ⟨b,11,none⟩=some v11∧w.cell? ⟨b,12,none⟩=some v12∧w.cell? ⟨b,13,none⟩=some v13∧
 w.frozen? ⟨b,0,none⟩=false∧w.frozen? ⟨b,1,none⟩=false∧w.frozen? ⟨b,2,none⟩=false∧w.frozen? ⟨b,3,none⟩=false∧w.frozen? ⟨b,4,none⟩=false∧w.frozen? ⟨b,5,none⟩=false∧w.frozen? ⟨b,6,none⟩=false∧w.frozen? ⟨b,7,none⟩=false∧w.frozen? ⟨b,8,none⟩=false∧w.frozen? ⟨b,9,none⟩=false∧w.frozen? ⟨b,10,none⟩=false∧w.frozen? ⟨b,11,none⟩=false∧w.frozen? ⟨b,12,none⟩=false∧w.frozen? ⟨b,13,none⟩=false:=
 ⟨h.rawCell 0,h.rawCell 1,h.rawCell 2,h.rawCell 3,h.rawCell 4,h.rawCell 5,h.rawCell 6,h.rawCell 7,h.rawCell 8,h.rawCell 9,h.rawCell 10,h.rawCell 11,h.rawCell 12,h.rawCell 13,h.rawFree 0,h.rawFree 1,h.rawFree 2,h.rawFree 3,h.rawFree 4,h.rawFree 5,h.rawFree 6,h.rawFree 7,h.rawFree 8,h.rawFree 9,h.rawFree 10,h.rawFree 11,h.rawFree 12,h.rawFree 13⟩
theorem St.sets14{b:Nat}{T:TypeId}{a0 a1 a2 a3 a4 a5 a6 a7 a8 a9 a10 a11 a12 a13:Value}(v0 v1 v2 v3 v4 v5 v6 v7 v8 v9 v10 v11 v12 v13:Value)(h:St W0 w K (.raw b #[a0,a1,a2,a3,a4,a5,a6,a7,a8,a9,a10,a11,a12,a13] T::L)):St W0 ((((((((((((((w.setCell ⟨b,0,none⟩ v0).setCell ⟨b,1,none⟩ v1).setCell ⟨b,2,none⟩ v2).setCell ⟨b,3,none⟩ v3).setCell ⟨b,4,none⟩ v4).setCell ⟨b,5,none⟩ v5).setCell ⟨b,6,none⟩ v6).setCell ⟨b,7,none⟩ v7).setCell ⟨b,8,none⟩ v8).setCell ⟨b,9,none⟩ v9).setCell ⟨b,10,none⟩ v10).setCell ⟨b,11,none⟩ v11).setCell ⟨b,12,none⟩ v12).setCell ⟨b,13,none⟩ v13) K (.raw b #[v0,v1,v2,v3,v4,v5,v6,v7,v8,v9,v10,v11,v12,v13] T::L):=by
 have h:St W0 _ K (.raw b #[v0,a1,a2,a3,a4,a5,a6,a7,a8,a9,a10,a11,a12,a13] T::L):=h.rawSet 0 v0;have h:St W0 _ K (.raw b #[v0,v1,a2,a3,a4,a5,a6,a7,a8,a9,a10,a11,a12,a13] T::L):=h.rawSet 1 v1;have h:St W0 _ K (.raw b #[v0,v1,v2,a3,a4,a5,a6,a7,a8,a9,a10,a11,a12,a13] T::L):=h.rawSet 2 v2;have h:St W0 _ K (.raw b #[v0,v1,v2,v3,a4,a5,a6,a7,a8,a9,a10,a11,a12,a13] T::L):=h.rawSet 3 v3;have h:St W0 _ K (.raw b #[v0,v1,v2,v3,v4,a5,a6,a7,a8,a9,a10,a11,a12,a13] T::L):=h.rawSet 4 v4;have h:St W0 _ K (.raw b #[v0,v1,v2,v3,v4,v5,a6,a7,a8,a9,a10,a11,a12,a13] T::L):=h.rawSet 5 v5;have h:St W0 _ K (.raw b #[v0,v1,v2,v3,v4,v5,v6,a7,a8,a9,a10,a11,a12,a13] T::L):=h.rawSet 6 v6;have h:St W0 _ K (.raw b #[v0,v1,v2,v3,v4,v5,v6,v7,a8,a9,a10,a11,a12,a13] T::L):=h.rawSet 7 v7;have h:St W0 _ K (.raw b #[v0,v1,v2,v3,v4,v5,v6,v7,v8,a9,a10,a11,a12,a13] T::L):=h.rawSet 8 v8;have h:St W0 _ K (.raw b #[v0,v1,v2,v3,v4,v5,v6,v7,v8,v9,a10,a11,a12,a13] T::L):=h.rawSet 9 v9;have h:St W0 _ K (.raw b #[v0,v1,v2,v3,v4,v5,v6,v7,v8,v9,v10,a11,a12,a13] T::L):=h.rawSet 10 v10;have h:St W0 _ K (.raw b #[v0,v1,v2,v3,v4,v5,v6,v7,v8,v9,v10,v11,a12,a13] T::L):=h.rawSet 11 v11;have h:St W0 _ K (.raw b #[v0,v1,v2,v3,v4,v5,v6,v7,v8,v9,v10,v11,v12,a13] T::L):=h.rawSet 12 v12;have h:St W0 _ K (.raw b #[v0,v1,v2,v3,v4,v5,v6,v7,v8,v9,v10,v11,v12,v13] T::L):=h.rawSet 13 v13;exact h
def unpT:Nat→Bs→Except Int (List RecS)
 |0,s=>if s=[]then .ok []else .error 10
 |n+1,s=>if s=[]then .error 10 else match zCj s with
  | .error e=> .error e
  | .ok y=>zEF y.1 (unpT n (s.drop y.2))
theorem zFP:∀(n:Nat) (rows:Bs) (pos:Nat),pos≤rows.length→unp n ⟨rows,pos,0⟩=unpT n (rows.drop pos)
 |0,rows,pos,hp=>by
  show(if (⟨rows,pos,0⟩:InS).left=0 then Except.ok []else Except.error (10:Int))=if rows.drop pos=[]then Except.ok []else Except.error (10:Int)
  have e:(⟨rows,pos,0⟩:InS).left=rows.length - pos:=rfl
  by_cases c:rows.length - pos=0
  ·rw[if_pos (by rw[e];exact c),if_pos (List.drop_of_length_le oM)]
  ·have hne:rows.drop pos≠[]:=by
    intro hh;have:=congrArg List.length hh;rw[List.length_drop,List.length_nil]at this;exact c this
   rw[if_neg (by rw[e];exact c),if_neg hne]
 |n+1,rows,pos,hp=>by
  show(if (⟨rows,pos,0⟩:InS).left=0 then Except.error (10:Int)else if (⟨rows,pos,0⟩:InS).record.2.err=0 then zEF (⟨rows,pos,0⟩:InS).record.1 (unp n (⟨rows,pos,0⟩:InS).record.2)else .error (⟨rows,pos,0⟩:InS).record.2.err)=if rows.drop pos=[]then Except.error (10:Int)else match zCj (rows.drop pos)with
   | .error e=>Except.error e
   | .ok y=>zEF y.1 (unpT n ((rows.drop pos).drop y.2))
  have e:(⟨rows,pos,0⟩:InS).left=rows.length - pos:=rfl
  by_cases c:rows.length - pos=0
  ·rw[if_pos (by rw[e];exact c),if_pos (List.drop_of_length_le oM)]
  have hne:rows.drop pos≠[]:=by
   intro hh;have:=congrArg List.length hh;rw[List.length_drop,List.length_nil]at this;exact c this
  rw[if_neg (by rw[e];exact c),if_neg hne]
  cases hr:zCj (rows.drop pos)with
  |error e=>
   obtain⟨he,q,_,hf⟩:=zDu.err rows pos e hp hr;rw[hf];simp only;rw[if_neg he]
  |ok y=>
   obtain⟨x,m⟩:=y;obtain⟨hpm,hf⟩:=zDu.ok rows pos x m hp hr;rw[hf];simp only[if_true];rw[zFP n rows (pos+m) hpm,List.drop_drop]
theorem zFQ(n:Nat):unpT (n+1) []=.error 10:=rfl
theorem zq46{p:Prop}(h:p:=by
  show(if s=[]then Except.error (10:Int)else match zCj s with
   | .error e=>Except.error e
   | .ok y=>zEF y.1 (unpT n (s.drop y.2)))=_
  rw[if_neg h0,h]):p:=h
theorem zFR{n:Nat}{s:Bs}{e:Int}(h0:s≠[])(h:zCj s=.error e):unpT (n+1) s=.error e:=by
 exact zq46
theorem zIi{n:Nat}{s:Bs}{x:RecS}{m:Nat}(h0:s≠[])(h:zCj s=.ok (x,m)):unpT (n+1) s=zEF x (unpT n (s.drop m)):=by
 exact zq46
theorem zEf(s:Bs):unpT 0 s=if s=[]then .ok []else .error 10:=rfl
theorem zM0(n:Int):chk n=9↔¬n % 8=0:=by
 unfold chk zAf
 constructor
 ·intro h hh;rw[if_neg (by simp;omega)]at h
  split at h<;>cases h
 ·intro h;rw[if_pos (by simp;omega)]
theorem zJb(n:Int)(h8:n % 8=0):chk n=if n<0∨63<n∨(32≤n∧n % 32<16)then 8 else 0:=by
 unfold chk;rw[if_neg (by unfold zAf;simp;omega)]
 by_cases c:n<0∨63<n
 ·rw[if_pos (by simp only[Bool.or_eq_true,decide_eq_true_eq];exact .inl c),if_pos oM]
 ·have h1:(decide (n<0)||decide (63<n))=false:=by simp;omega
  rw[h1,Bool.false_or]
  by_cases d:32≤n∧n % 32<16
  ·rw[if_pos (by unfold zAf;simp;omega),if_pos oM]
  ·rw[if_neg (by unfold zAf;simp;omega),if_neg oM]
theorem zCv(n:Int):∃c0 c1:UInt8,zAd n 2=[c0,c1]∧(c1.toNat:Int)=n % 256:=by
 have hl:=zAg n 2;have h1:=zHq n 2 1 dD
 rcases hb:zAd n 2 with _|⟨c0,_|⟨c1,t⟩⟩
 ·rw[hb]at hl;cases hl
 ·rw[hb]at hl;cases hl
 ·rw[hb]at hl;obtain rfl:t=[]:=by simp at hl;exact hl
  refine⟨c0,c1,rfl,?_⟩;simp only[hb]at h1
  simpa using h1.symm
variable {W0 w:World}{K:Know}{L:List Res}
theorem zAV(e:Int)(h:St W0 w K L):
 Calls Tryz.prog 118 #[.int .i64 e] w fun en w'=>en=.returned (.agg #[.int .i64 0,.int .i64 0,.bool false,.bool false,.bool false,.int .i64 0,.int .i64 0,.int .i64 0,.int .i64 0,.int .i64 0,.int .i64 0,.slice none 0 0,.int .i64 0,.int .i64 e])∧St W0 w' K L:=by
 obtain⟨rb,hrb⟩:∃b,w.heap.size=b:=⟨_,rfl⟩;have g1:=h.allocRaw #[.int .i64 0,.int .i64 0,.bool false,.bool false,.bool false,.int .i64 0,.int .i64 0,.int .i64 0,.int .i64 0,.int .i64 0,.int .i64 0,.slice none 0 0,.int .i64 0,.int .i64 0] 149;rw[hrb]at g1;obtain⟨z0,z1,z2,z3,z4,z5,z6,z7,z8,z9,z10,z11,z12,z13,zf0,zf1,zf2,zf3,zf4,zf5,zf6,zf7,zf8,zf9,zf10,zf11,zf12,zf13⟩:=zAG (b:=rb) (g1);have g2:=h.allocRaw #[.int .i64 0,.int .i64 0,.bool false,.bool false,.bool false,.int .i64 0,.int .i64 0,.int .i64 0,.int .i64 0,.int .i64 0,.int .i64 0,.slice none 0 0,.int .i64 0,.int .i64 e] 149;rw[hrb]at g2;have H:=hQd g2;clear h g1 g2;go_enter Tryz.func118,Tryz.ntmps118;go_wp2;have hz:=H.out;refine bodyPost_ret (zAs rfl _ _ rb [.int .i64 0,.int .i64 0,.bool false,.bool false,.bool false,.int .i64 0,.int .i64 0,.int .i64 0,.int .i64 0,.int .i64 0,.int .i64 0,.slice none 0 0,.int .i64 0,.int .i64 e] _ rfl (zAE hz) Tryz.underlying149 rfl (by kernel_rfl)) rfl ?_;exact⟨rfl,hz.drop⟩
theorem zBW(n:Int)(hn: -9223372036854775808≤n∧n<9223372036854775808)(c0 c1:UInt8)(hb:zAd n 2=[c0,c1])(h:St W0 w K L):
 Calls Tryz.prog 49 #[.int .i64 n,.int .i64 2] w fun en w'=>en=.returned (.string (bb [c0,c1]))∧St W0 w' K L:=by
 rw[←hb];exact zCI n 2 dD hn h
variable {W0 w:World}{K:Know}{L:List Res}
theorem zEl(s:Bs)(hs:s.length<61)(h:St W0 w K L):
 Calls Tryz.prog 117 #[.string (bb s)] w fun en w'=>en=.returned (.tuple #[.slice none 0 0,.int .i64 1])∧St W0 w' K L:=by
 have H:=hQd h;have hd:decide ((s.length:Int)<61)=true:=decide_eq_true oM;clear h hs;go_enter Tryz.func117,Tryz.ntmps117;go_wp2;go_ret2;exact⟨rfl,H.out⟩
theorem zGX(s:Bs):(preX s).1.len=sInt ((s.drop 8).take 4)∧(preX s).1.count=sInt ((s.drop 57).take 4)∧(preX s).2=sInt ((s.drop 16).take 1):=by
 rw[zGY];exact⟨rfl,rfl,rfl⟩
theorem zFH(s:Bs)(e:Int)(he:zBu s=.error e)(hl:s.length≤140737488355328)(h:St W0 w K L):
 Calls Tryz.prog 117 #[.string (bb s)] w fun en w'=>en=.returned (.tuple #[.slice none 0 0,.int .i64 e])∧St W0 w' K L:=by
 unfold zBu at he
 by_cases h1:s.length<61
 ·rw[if_pos h1]at he
  cases he
  exact zEl s h1 h
 rw[if_neg h1]at he;obtain⟨g1,g2,g3⟩:=zGX s;rw[g1,g2,g3]at he;have h4:=(zBX ((s.drop 17).take 4) (by rw[List.length_take];omega)).1
 by_cases hm:sInt ((s.drop 16).take 1)=2
 ·rw[if_pos hm]at he
  by_cases hq:sInt ((s.drop 8).take 4)<49
  ·rw[if_pos hq]at he
   cases he
   by_cases h0:sInt ((s.drop 17).take 4)<0
   ·exact zGr s (sInt ((s.drop 0).take 8)) (sInt ((s.drop 8).take 4)) (sInt ((s.drop 12).take 4)) (sInt ((s.drop 16).take 1)) (sInt ((s.drop 17).take 4)) (sInt ((s.drop 21).take 2)) (sInt ((s.drop 23).take 4)) (sInt ((s.drop 27).take 8)) (sInt ((s.drop 35).take 8)) (sInt ((s.drop 43).take 8)) (sInt ((s.drop 51).take 2)) (sInt ((s.drop 53).take 4)) (sInt ((s.drop 57).take 4)) rfl rfl rfl rfl rfl rfl rfl rfl rfl rfl rfl rfl rfl oM hl h4 h0 (by simpa using hm) hq h
   ·exact zGs s (sInt ((s.drop 0).take 8)) (sInt ((s.drop 8).take 4)) (sInt ((s.drop 12).take 4)) (sInt ((s.drop 16).take 1)) (sInt ((s.drop 17).take 4)) (sInt ((s.drop 21).take 2)) (sInt ((s.drop 23).take 4)) (sInt ((s.drop 27).take 8)) (sInt ((s.drop 35).take 8)) (sInt ((s.drop 43).take 8)) (sInt ((s.drop 51).take 2)) (sInt ((s.drop 53).take 4)) (sInt ((s.drop 57).take 4)) rfl rfl rfl rfl rfl rfl rfl rfl rfl rfl rfl rfl rfl oM hl h4 h0 (by simpa using hm) hq h
  ·rw[if_neg hq]at he
   by_cases hc:sInt ((s.drop 57).take 4)<0
   ·rw[if_pos hc]at he
    cases he
    by_cases h0:sInt ((s.drop 17).take 4)<0
    ·exact zGt s (sInt ((s.drop 0).take 8)) (sInt ((s.drop 8).take 4)) (sInt ((s.drop 12).take 4)) (sInt ((s.drop 16).take 1)) (sInt ((s.drop 17).take 4)) (sInt ((s.drop 21).take 2)) (sInt ((s.drop 23).take 4)) (sInt ((s.drop 27).take 8)) (sInt ((s.drop 35).take 8)) (sInt ((s.drop 43).take 8)) (sInt ((s.drop 51).take 2)) (sInt ((s.drop 53).take 4)) (sInt ((s.drop 57).take 4)) rfl rfl rfl rfl rfl rfl rfl rfl rfl rfl rfl rfl rfl oM hl h4 h0 (by simpa using hm) hq hc h
    ·exact zGu s (sInt ((s.drop 0).take 8)) (sInt ((s.drop 8).take 4)) (sInt ((s.drop 12).take 4)) (sInt ((s.drop 16).take 1)) (sInt ((s.drop 17).take 4)) (sInt ((s.drop 21).take 2)) (sInt ((s.drop 23).take 4)) (sInt ((s.drop 27).take 8)) (sInt ((s.drop 35).take 8)) (sInt ((s.drop 43).take 8)) (sInt ((s.drop 51).take 2)) (sInt ((s.drop 53).take 4)) (sInt ((s.drop 57).take 4)) rfl rfl rfl rfl rfl rfl rfl rfl rfl rfl rfl rfl rfl oM hl h4 h0 (by simpa using hm) hq hc h
   ·rw[if_neg hc]at he
    cases he
 ·rw[if_neg hm]at he
  cases he
  by_cases h0:sInt ((s.drop 17).take 4)<0
  ·exact zGp s (sInt ((s.drop 0).take 8)) (sInt ((s.drop 8).take 4)) (sInt ((s.drop 12).take 4)) (sInt ((s.drop 16).take 1)) (sInt ((s.drop 17).take 4)) (sInt ((s.drop 21).take 2)) (sInt ((s.drop 23).take 4)) (sInt ((s.drop 27).take 8)) (sInt ((s.drop 35).take 8)) (sInt ((s.drop 43).take 8)) (sInt ((s.drop 51).take 2)) (sInt ((s.drop 53).take 4)) (sInt ((s.drop 57).take 4)) rfl rfl rfl rfl rfl rfl rfl rfl rfl rfl rfl rfl rfl oM hl h4 h0 (by simpa using hm) h
  ·exact zGq s (sInt ((s.drop 0).take 8)) (sInt ((s.drop 8).take 4)) (sInt ((s.drop 12).take 4)) (sInt ((s.drop 16).take 1)) (sInt ((s.drop 17).take 4)) (sInt ((s.drop 21).take 2)) (sInt ((s.drop 23).take 4)) (sInt ((s.drop 27).take 8)) (sInt ((s.drop 35).take 8)) (sInt ((s.drop 43).take 8)) (sInt ((s.drop 51).take 2)) (sInt ((s.drop 53).take 4)) (sInt ((s.drop 57).take 4)) rfl rfl rfl rfl rfl rfl rfl rfl rfl rfl rfl rfl rfl oM hl h4 h0 (by simpa using hm) h
theorem zAD(s:Bs)(x:PreS)(he:zBu s=.ok x)(hl:s.length≤140737488355328)(h:St W0 w K L):
 Calls Tryz.prog 117 #[.string (bb s)] w fun en w'=>∃bl,en=.returned (.tuple #[.slice (some ⟨bl,0,none⟩) 12 12,.int .i64 0])∧St W0 w' K (.raw bl #[.int .i64 x.base,.int .i64 x.len,.int .i64 x.leader,.int .i64 x.sum,.int .i64 x.attr,.int .i64 x.last,.int .i64 x.first,.int .i64 x.maxt,.int .i64 x.prod,.int .i64 x.epoch,.int .i64 x.seq,.int .i64 x.count] 3::L):=by
 obtain⟨h1,hx,h2,h3,h5⟩:=zDM he;obtain⟨g1,g2,g3⟩:=zGX s;subst hx;rw[g3]at h2;rw[g1]at h3;rw[g2]at h5;have h4:=(zBX ((s.drop 17).take 4) (by rw[List.length_take];omega));rw[zGY];simp only
 by_cases h0:sInt ((s.drop 17).take 4)<0
 ·have:=zFF s (sInt ((s.drop 0).take 8)) (sInt ((s.drop 8).take 4)) (sInt ((s.drop 12).take 4)) (sInt ((s.drop 16).take 1)) (sInt ((s.drop 17).take 4)) (sInt ((s.drop 21).take 2)) (sInt ((s.drop 23).take 4)) (sInt ((s.drop 27).take 8)) (sInt ((s.drop 35).take 8)) (sInt ((s.drop 43).take 8)) (sInt ((s.drop 51).take 2)) (sInt ((s.drop 53).take 4)) (sInt ((s.drop 57).take 4)) rfl rfl rfl rfl rfl rfl rfl rfl rfl rfl rfl rfl rfl oM hl h4.1 h0 (by simpa using h2) oM oM h;rw[show sInt ((s.drop 17).take 4)+4294967296=sInt ((s.drop 17).take 4) % 4294967296 by omega]at this;exact this
 ·have:=zFG s (sInt ((s.drop 0).take 8)) (sInt ((s.drop 8).take 4)) (sInt ((s.drop 12).take 4)) (sInt ((s.drop 16).take 1)) (sInt ((s.drop 17).take 4)) (sInt ((s.drop 21).take 2)) (sInt ((s.drop 23).take 4)) (sInt ((s.drop 27).take 8)) (sInt ((s.drop 35).take 8)) (sInt ((s.drop 43).take 8)) (sInt ((s.drop 51).take 2)) (sInt ((s.drop 53).take 4)) (sInt ((s.drop 57).take 4)) rfl rfl rfl rfl rfl rfl rfl rfl rfl rfl rfl rfl rfl oM hl h4.1 h0 (by simpa using h2) oM oM h;rw[show(.int .i64 (sInt ((s.drop 17).take 4)):Value)=.int .i64 (sInt ((s.drop 17).take 4) % 4294967296) by rw[show sInt ((s.drop 17).take 4) % 4294967296=sInt ((s.drop 17).take 4) by omega]]at this;exact this
theorem zGd:∀(vs:List Value) (o:Nat) (c:Array Value) (i:Nat),(zEh c o vs)[i]? =if o≤i∧i<o+vs.length∧i<c.size then vs[i - o]? else c[i]?
 |[],o,c,i=>by
  show c[i]? =_
  rw[if_neg (by simp;omega)]
 |v::r,o,c,i=>by
  show(zEh (c.setIfInBounds o v) (o+1) r)[i]? =_
  rw[zGd r (o+1) _ i];simp only[Array.size_setIfInBounds,List.length_cons]
  by_cases h1:o+1≤i∧i<o+1+r.length∧i<c.size
  ·exact zq42
  ·exact zq32
theorem zLh(c cs:Array Value)(h:c.size=cs.size):zEh c 0 cs.toList=cs:=by
 refine Array.ext_getElem? fun i=> ?_
 rw[zGd]
 exact zq41
end Go.Proofs.YtnnnglklgofabaaGreat
