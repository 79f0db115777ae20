/- A text. -/
import Derived.Test.YteldcbljedeeiaaGreatDoorGWholeStrictCard10
import Derived.RegionTactic
import Derived.Deep.RegionHeld3
import Derived.Deep.DeepCutAuto
import Derived.WalkMore
import Derived.Test.YteldcbljedeeiaaGreatDoorGWholeStrictCard12
/- A text. -/
namespace Go.Proofs.YteldcbljedeeiaaGreatDoor
open Go.RowKit
set_option maxRecDepth 100000
set_option maxHeartbeats 8000000

theorem buildBatV (b:BatS) (sl:Value) (w:World):(Instr.buildSlice 179 1 #[(0,.agg #[.int .i64 b.base,.int .i64 b.leader,.bool b.app,.bool b.txn,.bool b.ctl,.int .i64 b.last,.int .i64 b.first,.int .i64 b.maxt,.int .i64 b.prod,.int .i64 b.epoch,.int .i64 b.seq,sl])]).run Tryz.prog w=.ok (.slice (some ⟨w.heap.size,0,none⟩) 1 1) (w.alloc (.cells #[.int .i64 b.base,.int .i64 b.leader,.bool b.app,.bool b.txn,.bool b.ctl,.int .i64 b.last,.int .i64 b.first,.int .i64 b.maxt,.int .i64 b.prod,.int .i64 b.epoch,.int .i64 b.seq,sl] 101 (0,0))):=by go_simp
theorem buildBatZ (w:World):(Instr.buildSlice 179 1 #[(0,.agg #[.int .i64 0,.int .i64 0,.bool false,.bool false,.bool false,.int .i64 0,.int .i64 0,.int .i64 0,.int .i64 0,.int .i64 0,.int .i64 0,.slice none 0 0])]).run Tryz.prog w=.ok (.slice (some ⟨w.heap.size,0,none⟩) 1 1) (w.alloc (.cells #[.int .i64 0,.int .i64 0,.bool false,.bool false,.bool false,.int .i64 0,.int .i64 0,.int .i64 0,.int .i64 0,.int .i64 0,.int .i64 0,.slice none 0 0] 101 (0,0))):=by go_simp
theorem exec_buildB {o:Oper}{ρ:Operand→Value}(ps:Array (Nat×Value)) (v:Value) (w w':World) (ho:execOp ρ o=(do pure (Next.value (←Instr.buildSlice 179 1 ps)))) (hb:(Instr.buildSlice 179 1 ps).run Tryz.prog w=.ok v w'):(execOp ρ o).run Tryz.prog w=.ok (.value v) w':=by
 rw[ho];simp[hb]

theorem zq0 {p:Prop}(h:p:=by
  obtain⟨v,n,xs,pos,er,K2,HKK,HPJ,hst⟩:=hrel;clear H;obtain⟨qv0,cv0,hv0⟩:=hst.rowAny;subst hv0;have HMS:=Lib.hid (pinM (n:=d.length) hst.p2);have H:=Lib.hid hst;clear hst;obtain⟨lf,hlf⟩:∃lf,(⟨d,pos,er⟩:InS).left=lf:=⟨_,rfl⟩;have HLF:=Lib.hid hlf
  rcases HPJ.out with ⟨er0,hpd,hnb,acc,hn,hxs,hpre,hrec,hmp⟩|⟨he0,hbe⟩
  · subst er0;subst hxs;have hlf2:d.length - pos=lf:=hlf;have HREC:=Lib.hid hrec;have HMP:=Lib.hid hmp;have HPD:=Lib.hid hpd;have HNB:=Lib.hid (show n≤1000000 by omega)
    by_cases hz:lf=0
    · subst hz;have hR:d.drop pos=[]:=List.drop_of_length_le (by omega);rw[hR,batsS_nil]at hpre;have hpre:Except.ok (acc.map BatR.b++[])=batsS d:=hpre
      have HB:=Lib.hid (show acc.map BatR.b=l∧i3=j by
       have hj:=HJ.out;rw[←hpre]at hj;simp only[List.append_nil,Prod.mk.injEq,true_and]at hj
       exact hj)
      have HN:=Lib.hid hn;clear hlf hlf2 hpd hnb hn hpre hrec hmp hR
      go_wp2_with (first
  |(go_at_call 75;(with_reducible refine(p_left bi _ _ HLF.out H.out.p2).mono ?_);rintro e_ wn ⟨rfl,h⟩;have h:=h.p2.p2;replace H:=Lib.hid h;clear h)
  |(go_at_call 22;(try clear y0 y1 w0 w1 v0 v1);(with_reducible refine(p_err bi _ 0 rfl H.out.p2).mono ?_);rintro e_ wn ⟨rfl,h⟩;have h:=h.p2.p2;have y0:=h.p1.rawCell 0;have y1:=h.p1.rawCell 1;have w0:=h.p3.rawFree 0;have w1:=h.p3.rawFree 1;have v0:=h.p3.rawCell 0;have v1:=h.p3.rawCell 1;simp at y0 y1 v0 v1;replace H:=Lib.hid h;clear h))
      have hz:St W0 _ _ (.raw rb #[.int .i64 a,.slice qv0 n cv0] 181::_):=((H.out.p3.rawSet 0 (.int .i64 a)).rawSet 1 (.slice qv0 n cv0));refine bodyPost_ret (rc_cell_onlyP rfl _ _ rb [.int .i64 a,.slice qv0 n cv0] _ rfl (rc_rangeP hz) Tryz.underlying181 rfl (by kernel_rfl)) rfl ?_;have hr:=hz.drop;have hn:=HN.out;subst hn;have hf:=hr.freezeBatsP HREC.out;obtain⟨hl9,hj9⟩:=HB.out;subst hj9;exact⟨qv0,_,cv0,acc,K2.and (Know.bats (.slice qv0 acc.length cv0) acc),rfl,Know.has_trans (Know.has_left (Know.has_refl _)) HKK.out,fun _=>⟨rfl,hl9,Know.has_right (Know.has_refl _),HMP.out⟩,hf.drop.drop⟩
    · have hlp:(0:Int)<(lf:Int):=by omega
      have hR0:d.drop pos≠[]:=by intro hh;have:=congrArg List.length hh;rw[List.length_drop,List.length_nil]at this;omega
      cases hrb2:reBat (d.drop pos)with
      |error e=>
       have HRB:=Lib.hid hrb2;have HE0:=Lib.hid (reBat_ne hrb2);have HBE:=Lib.hid (show batsS d=.error e by rw[←hpre,batsS_err hR0 hrb2];rfl);clear hlf hlf2 hpd hnb hn hpre hrec hmp hR0 hrb2 hz
       go_wp2_with (first
  |(go_at_call 75;(with_reducible refine(p_left bi _ _ HLF.out H.out.p2).mono ?_);rintro e_ wn ⟨rfl,h⟩;have h:=h.p2.p2;replace H:=Lib.hid h;clear h)
  |(go_at_call 22;(try clear y0 y1 w0 w1 v0 v1);(with_reducible refine(p_err bi _ 0 rfl H.out.p2).mono ?_);rintro e_ wn ⟨rfl,h⟩;have h:=h.p2.p2;have y0:=h.p1.rawCell 0;have y1:=h.p1.rawCell 1;have w0:=h.p3.rawFree 0;have w1:=h.p3.rawFree 1;have v0:=h.p3.rawCell 0;have v1:=h.p3.rawCell 1;simp at y0 y1 v0 v1;replace H:=Lib.hid h;clear h))
       have hs:=H.out.drew;refine wp_region_held_drew (S:=fun _=>True) (by kernel_rfl) trivial (fun hHeld=> ?_);refine tQ 0 ⟨some 27,.fieldAddr 181 (.tmp 3) 1,0,_,_,none⟩ ?_;simp only[Act.put,sA,sB,sC];refine tQ 2 ⟨some 29,.move (.tmp 5),60,_,_,none⟩ ?_;simp only[Act.put,sA,sB,sC];refine wpAnyH_ready (rs:=[1,3]) (by kernel_rfl) (by simp) (AllReadyH.cons (o:=⟨some 28,.load 179 (.tmp 27),179,_,_,none⟩) rfl (fun KK hK=> ?_) (AllReadyH.cons (o:=⟨some 30,.call {callee:=.value (.func 81),args:= #[.tmp 29],argTypes:= #[60]},101,_,_,none⟩) rfl (fun KK hK=> ?_) AllReadyH.nil))
       focus
        have z1:=hs.p1.rawCell 1;simp at z1;go_simp;refine hK.out _ _ (trivial) (fun hHeld=> ?_);clear hK KK
        try simp only[Act.put,sA,sB,sC]
        clear z1;refine wpAnyH_ready (rs:=[3]) (by kernel_rfl) (by simp) (AllReadyH.cons (o:=⟨some 30,.call {callee:=.value (.func 81),args:= #[.tmp 29],argTypes:= #[60]},101,_,_,none⟩) rfl (fun KK hK=> ?_) AllReadyH.nil);go_simp;go_at_call 81;with_reducible refine(bat_read_bad bi d pos HDL.out HPD.out e HRB.out hs.p2).mono ?_;rintro e wq ⟨rfl,pq,hpq,hs⟩;refine hK.out _ _ (trivial) (fun hHeld=> ?_);clear hK KK
        try simp only[Act.put,sA,sB,sC]
        have hs:=hs.p2.p2;clear hpq;refine wpAnyH_ready (rs:=[4]) (by kernel_rfl) (by simp) (AllReadyH.cons (o:=⟨some 31,.buildSlice 179 1 #[(0,.tmp 30)],179,_,_,none⟩) rfl (fun KK hK=> ?_) AllReadyH.nil);rw[if_pos (by rfl)];refine op_value (exec_buildB _ _ _ _ (by kernel_rfl) (buildBatZ _)) ?_;obtain⟨wy,b2,ey,eb,hs⟩:=hs.allocEx #[.int .i64 0,.int .i64 0,.bool false,.bool false,.bool false,.int .i64 0,.int .i64 0,.int .i64 0,.int .i64 0,.int .i64 0,.int .i64 0,.slice none 0 0] 101;rw[ey,eb];clear ey eb;refine hK.out _ _ (trivial) (fun hHeld=> ?_);clear hK KK
        try simp only[Act.put,sA,sB,sC]
       rotate_left
       focus
        go_simp;go_at_call 81;with_reducible refine(bat_read_bad bi d pos HDL.out HPD.out e HRB.out hs.p2).mono ?_;rintro e wq ⟨rfl,pq,hpq,hs⟩;refine hK.out _ _ (trivial) (fun hHeld=> ?_);clear hK KK
        try simp only[Act.put,sA,sB,sC]
        have hs:=hs.p2.p2;clear hpq;refine wpAnyH_ready (rs:=[1,4]) (by kernel_rfl) (by simp) (AllReadyH.cons (o:=⟨some 28,.load 179 (.tmp 27),179,_,_,none⟩) rfl (fun KK hK=> ?_) (AllReadyH.cons (o:=⟨some 31,.buildSlice 179 1 #[(0,.tmp 30)],179,_,_,none⟩) rfl (fun KK hK=> ?_) AllReadyH.nil))
        focus
         have z1:=hs.p1.rawCell 1;simp at z1;go_simp;refine hK.out _ _ (trivial) (fun hHeld=> ?_);clear hK KK
         try simp only[Act.put,sA,sB,sC]
         clear z1;refine wpAnyH_ready (rs:=[4]) (by kernel_rfl) (by simp) (AllReadyH.cons (o:=⟨some 31,.buildSlice 179 1 #[(0,.tmp 30)],179,_,_,none⟩) rfl (fun KK hK=> ?_) AllReadyH.nil);rw[if_pos (by rfl)];refine op_value (exec_buildB _ _ _ _ (by kernel_rfl) (buildBatZ _)) ?_;obtain⟨wy,b2,ey,eb,hs⟩:=hs.allocEx #[.int .i64 0,.int .i64 0,.bool false,.bool false,.bool false,.int .i64 0,.int .i64 0,.int .i64 0,.int .i64 0,.int .i64 0,.int .i64 0,.slice none 0 0] 101;rw[ey,eb];clear ey eb;refine hK.out _ _ (trivial) (fun hHeld=> ?_);clear hK KK
         try simp only[Act.put,sA,sB,sC]
        rotate_left
        focus
         rw[if_pos (by rfl)];refine op_value (exec_buildB _ _ _ _ (by kernel_rfl) (buildBatZ _)) ?_;obtain⟨wy,b2,ey,eb,hs⟩:=hs.allocEx #[.int .i64 0,.int .i64 0,.bool false,.bool false,.bool false,.int .i64 0,.int .i64 0,.int .i64 0,.int .i64 0,.int .i64 0,.int .i64 0,.slice none 0 0] 101;rw[ey,eb];clear ey eb;refine hK.out _ _ (trivial) (fun hHeld=> ?_);clear hK KK
         try simp only[Act.put,sA,sB,sC]
         refine wpAnyH_ready (rs:=[1]) (by kernel_rfl) (by simp) (AllReadyH.cons (o:=⟨some 28,.load 179 (.tmp 27),179,_,_,none⟩) rfl (fun KK hK=> ?_) AllReadyH.nil);have z1:=hs.p2.rawCell 1;simp at z1;go_simp;refine hK.out _ _ (trivial) (fun hHeld=> ?_);clear hK KK
         try simp only[Act.put,sA,sB,sC]
         clear z1
       all_goals
        refine wpAnyH_ready (rs:=[5]) (by kernel_rfl) (by simp) (AllReadyH.cons (o:=⟨some 32,.call {callee:=.builtin .append,args:= #[.tmp 28,.tmp 31],argTypes:= #[179,179]},179,_,_,none⟩) rfl (fun KK hK=> ?_) AllReadyH.nil);rw[if_pos (by rfl)];refine op_app1 (.tmp 28) (.tmp 31) 179 rfl 101 Tryz.underlying179 elem_batP _ _ _ (by rfl) b2 #[.int .i64 0,.int .i64 0,.bool false,.bool false,.bool false,.int .i64 0,.int .i64 0,.int .i64 0,.int .i64 0,.int .i64 0,.int .i64 0,.slice none 0 0] 101 hs (by rfl) rfl (by simp[Value.oneCell']) (by have:=HNB.out;unfold maxLen;omega) (by have:=HNB.out;omega) (fun v' w' h=> ?_);have hs:=h;clear h;obtain⟨qv,cv,hv⟩:=hs.rowAny;subst hv;refine hK.out _ _ (trivial) (fun hHeld=> ?_);clear hK KK
        try simp only[Act.put,sA,sB,sC]
        refine tQ 6 ⟨some 33,.fieldAddr 181 (.tmp 3) 1,0,_,_,none⟩ ?_;simp only[Act.put,sA,sB,sC];refine wpAnyH_ready (rs:=[7]) (by kernel_rfl) (by simp) (AllReadyH.cons (o:=⟨none,.store 179 (.tmp 33) (.tmp 32),0,_,_,none⟩) rfl (fun KK hK=> ?_) AllReadyH.nil);have hs:=hs.p1;have q1:=hs.rawFree 1;have z1:=hs.rawCell 1;simp at z1;rw[if_pos (by rfl)];refine op_skip (w':=w'.setCell ⟨pb,1,none⟩ (.slice qv (n+1) cv)) (by go_simp) ?_;obtain⟨wz,ez,hs⟩:=hs.setExP 1 (.slice qv (n+1) cv);rw[ez];clear ez q1 z1;have hs:=hs.p1;refine hK.out _ _ (trivial) (fun hHeld=> ?_);clear hK KK
        try simp only[Act.put]
        refine wpAnyH_done (by kernel_rfl) ?_ _;clear hHeld;go_wp2_with fail;go_roundw
        case rel=>
         refine⟨.slice qv (n+1) cv,n+1,acc.flatMap pbcells++[.int .i64 0,.int .i64 0,.bool false,.bool false,.bool false,.int .i64 0,.int .i64 0,.int .i64 0,.int .i64 0,.int .i64 0,.int .i64 0,.slice none 0 0],pq,e,K2,?_,?_,?_⟩
         · exact HKK
         · exact Lib.hid (.inr ⟨HE0.out,HBE.out⟩)
         · exact hs
        case measure=>
         rw[pinM hs.p2,HMS.out];have:=HPD.out
         show(if e≠0 then 0 else d.length+1 - pq)<if (0:Int)≠0 then 0 else d.length+1 - pos
         rw[if_pos HE0.out,if_neg (by simp)]
         omega
      |ok y=>
       obtain⟨b,n2⟩:=y;obtain⟨xp,_,hn61,hnl,_⟩:=reBat_ok hrb2;rw[List.length_drop]at hnl;have HRB:=Lib.hid hrb2;have HN2:=Lib.hid (show 61≤n2 by omega);have HPN:=Lib.hid (show pos+n2≤d.length by omega)
       have HNX:=Lib.hid (show ∀(q:Option Addr) (l:List (RecS×Value)) (cap:Nat),l.map (·.1)=b.recs→PartJ (K2.and (Know.recs (.slice q l.length cap) l)) d (n+1) (acc.flatMap pbcells++[.int .i64 b.base,.int .i64 b.leader,.bool b.app,.bool b.txn,.bool b.ctl,.int .i64 b.last,.int .i64 b.first,.int .i64 b.maxt,.int .i64 b.prod,.int .i64 b.epoch,.int .i64 b.seq,.slice q l.length cap]) (pos+n2) 0 from fun q l cap hl=> .inl ⟨rfl,by omega,by omega,acc++[⟨b,l,q,cap⟩],by rw[List.length_append,hn];rfl,by rw[List.flatMap_append];rfl,by
        rw[List.map_append]
        show preB (acc.map BatR.b++[b]) _=_
        rw[preB_snoc,←List.drop_drop,←batsS_ok hR0 hrb2]
        exact hpre,fun x hx=>by
        rcases List.mem_append.1 hx with hx|hx
        · exact Know.has_left (hrec x hx)
        · rw[List.mem_singleton.1 hx];exact Know.has_right (Know.has_refl _),fun x hx=>by
        rcases List.mem_append.1 hx with hx|hx
        · exact hmp x hx
        · rw[List.mem_singleton.1 hx];exact hl⟩)
       clear hlf hlf2 hpd hnb hn hpre hrec hmp hR0 hrb2 hz hn61 hnl
       go_wp2_with (first
  |(go_at_call 75;(with_reducible refine(p_left bi _ _ HLF.out H.out.p2).mono ?_);rintro e_ wn ⟨rfl,h⟩;have h:=h.p2.p2;replace H:=Lib.hid h;clear h)
  |(go_at_call 22;(try clear y0 y1 w0 w1 v0 v1);(with_reducible refine(p_err bi _ 0 rfl H.out.p2).mono ?_);rintro e_ wn ⟨rfl,h⟩;have h:=h.p2.p2;have y0:=h.p1.rawCell 0;have y1:=h.p1.rawCell 1;have w0:=h.p3.rawFree 0;have w1:=h.p3.rawFree 1;have v0:=h.p3.rawCell 0;have v1:=h.p3.rawCell 1;simp at y0 y1 v0 v1;replace H:=Lib.hid h;clear h))
       have hs:=H.out.drew;refine wp_region_held_drew (S:=fun _=>True) (by kernel_rfl) trivial (fun hHeld=> ?_);refine tQ 0 ⟨some 27,.fieldAddr 181 (.tmp 3) 1,0,_,_,none⟩ ?_;simp only[Act.put,sA,sB,sC];refine tQ 2 ⟨some 29,.move (.tmp 5),60,_,_,none⟩ ?_;simp only[Act.put,sA,sB,sC];refine wpAnyH_ready (rs:=[1,3]) (by kernel_rfl) (by simp) (AllReadyH.cons (o:=⟨some 28,.load 179 (.tmp 27),179,_,_,none⟩) rfl (fun KK hK=> ?_) (AllReadyH.cons (o:=⟨some 30,.call {callee:=.value (.func 81),args:= #[.tmp 29],argTypes:= #[60]},101,_,_,none⟩) rfl (fun KK hK=> ?_) AllReadyH.nil))
       focus
        have z1:=hs.p1.rawCell 1;simp at z1;go_simp;refine hK.out _ _ (trivial) (fun hHeld=> ?_);clear hK KK
        try simp only[Act.put,sA,sB,sC]
        clear z1;refine wpAnyH_ready (rs:=[3]) (by kernel_rfl) (by simp) (AllReadyH.cons (o:=⟨some 30,.call {callee:=.value (.func 81),args:= #[.tmp 29],argTypes:= #[60]},101,_,_,none⟩) rfl (fun KK hK=> ?_) AllReadyH.nil);go_simp;go_at_call 81;with_reducible refine(bat_read_good bi d pos HDL.out HPD.out b n2 HRB.out hs.p2).mono ?_;rintro e wq ⟨q,l,cap,rfl,hlr,hs⟩;refine hK.out _ _ (trivial) (fun hHeld=> ?_);clear hK KK
        try simp only[Act.put,sA,sB,sC]
        have hs:=hs.p2.p2;have HLR:=Lib.hid hlr;clear hlr;refine wpAnyH_ready (rs:=[4]) (by kernel_rfl) (by simp) (AllReadyH.cons (o:=⟨some 31,.buildSlice 179 1 #[(0,.tmp 30)],179,_,_,none⟩) rfl (fun KK hK=> ?_) AllReadyH.nil);rw[if_pos (by rfl)];refine op_value (exec_buildB _ _ _ _ (by kernel_rfl) (buildBatV b (.slice q l.length cap) _)) ?_;obtain⟨wy,b2,ey,eb,hs⟩:=hs.allocEx #[.int .i64 b.base,.int .i64 b.leader,.bool b.app,.bool b.txn,.bool b.ctl,.int .i64 b.last,.int .i64 b.first,.int .i64 b.maxt,.int .i64 b.prod,.int .i64 b.epoch,.int .i64 b.seq,.slice q l.length cap] 101;rw[ey,eb];clear ey eb;refine hK.out _ _ (trivial) (fun hHeld=> ?_);clear hK KK
        try simp only[Act.put,sA,sB,sC]
       rotate_left
       focus
        go_simp;go_at_call 81;with_reducible refine(bat_read_good bi d pos HDL.out HPD.out b n2 HRB.out hs.p2).mono ?_;rintro e wq ⟨q,l,cap,rfl,hlr,hs⟩;refine hK.out _ _ (trivial) (fun hHeld=> ?_);clear hK KK
        try simp only[Act.put,sA,sB,sC]
        have hs:=hs.p2.p2;have HLR:=Lib.hid hlr;clear hlr;refine wpAnyH_ready (rs:=[1,4]) (by kernel_rfl) (by simp) (AllReadyH.cons (o:=⟨some 28,.load 179 (.tmp 27),179,_,_,none⟩) rfl (fun KK hK=> ?_) (AllReadyH.cons (o:=⟨some 31,.buildSlice 179 1 #[(0,.tmp 30)],179,_,_,none⟩) rfl (fun KK hK=> ?_) AllReadyH.nil))
        focus
         have z1:=hs.p1.rawCell 1;simp at z1;go_simp;refine hK.out _ _ (trivial) (fun hHeld=> ?_);clear hK KK
         try simp only[Act.put,sA,sB,sC]
         clear z1;refine wpAnyH_ready (rs:=[4]) (by kernel_rfl) (by simp) (AllReadyH.cons (o:=⟨some 31,.buildSlice 179 1 #[(0,.tmp 30)],179,_,_,none⟩) rfl (fun KK hK=> ?_) AllReadyH.nil);rw[if_pos (by rfl)];refine op_value (exec_buildB _ _ _ _ (by kernel_rfl) (buildBatV b (.slice q l.length cap) _)) ?_;obtain⟨wy,b2,ey,eb,hs⟩:=hs.allocEx #[.int .i64 b.base,.int .i64 b.leader,.bool b.app,.bool b.txn,.bool b.ctl,.int .i64 b.last,.int .i64 b.first,.int .i64 b.maxt,.int .i64 b.prod,.int .i64 b.epoch,.int .i64 b.seq,.slice q l.length cap] 101;rw[ey,eb];clear ey eb;refine hK.out _ _ (trivial) (fun hHeld=> ?_);clear hK KK
         try simp only[Act.put,sA,sB,sC]
        rotate_left
        focus
         rw[if_pos (by rfl)];refine op_value (exec_buildB _ _ _ _ (by kernel_rfl) (buildBatV b (.slice q l.length cap) _)) ?_;obtain⟨wy,b2,ey,eb,hs⟩:=hs.allocEx #[.int .i64 b.base,.int .i64 b.leader,.bool b.app,.bool b.txn,.bool b.ctl,.int .i64 b.last,.int .i64 b.first,.int .i64 b.maxt,.int .i64 b.prod,.int .i64 b.epoch,.int .i64 b.seq,.slice q l.length cap] 101;rw[ey,eb];clear ey eb;refine hK.out _ _ (trivial) (fun hHeld=> ?_);clear hK KK
         try simp only[Act.put,sA,sB,sC]
         refine wpAnyH_ready (rs:=[1]) (by kernel_rfl) (by simp) (AllReadyH.cons (o:=⟨some 28,.load 179 (.tmp 27),179,_,_,none⟩) rfl (fun KK hK=> ?_) AllReadyH.nil);have z1:=hs.p2.rawCell 1;simp at z1;go_simp;refine hK.out _ _ (trivial) (fun hHeld=> ?_);clear hK KK
         try simp only[Act.put,sA,sB,sC]
         clear z1
       all_goals
        refine wpAnyH_ready (rs:=[5]) (by kernel_rfl) (by simp) (AllReadyH.cons (o:=⟨some 32,.call {callee:=.builtin .append,args:= #[.tmp 28,.tmp 31],argTypes:= #[179,179]},179,_,_,none⟩) rfl (fun KK hK=> ?_) AllReadyH.nil);rw[if_pos (by rfl)];refine op_app1 (.tmp 28) (.tmp 31) 179 rfl 101 Tryz.underlying179 elem_batP _ _ _ (by rfl) b2 #[.int .i64 b.base,.int .i64 b.leader,.bool b.app,.bool b.txn,.bool b.ctl,.int .i64 b.last,.int .i64 b.first,.int .i64 b.maxt,.int .i64 b.prod,.int .i64 b.epoch,.int .i64 b.seq,.slice q l.length cap] 101 hs (by rfl) rfl (by simp[Value.oneCell']) (by have:=HNB.out;unfold maxLen;omega) (by have:=HNB.out;omega) (fun v' w' h=> ?_);have hs:=h;clear h;obtain⟨qv,cv,hv⟩:=hs.rowAny;subst hv;refine hK.out _ _ (trivial) (fun hHeld=> ?_);clear hK KK
        try simp only[Act.put,sA,sB,sC]
        refine tQ 6 ⟨some 33,.fieldAddr 181 (.tmp 3) 1,0,_,_,none⟩ ?_;simp only[Act.put,sA,sB,sC];refine wpAnyH_ready (rs:=[7]) (by kernel_rfl) (by simp) (AllReadyH.cons (o:=⟨none,.store 179 (.tmp 33) (.tmp 32),0,_,_,none⟩) rfl (fun KK hK=> ?_) AllReadyH.nil);have hs:=hs.p1;have q1:=hs.rawFree 1;have z1:=hs.rawCell 1;simp at z1;rw[if_pos (by rfl)];refine op_skip (w':=w'.setCell ⟨pb,1,none⟩ (.slice qv (n+1) cv)) (by go_simp) ?_;obtain⟨wz,ez,hs⟩:=hs.setExP 1 (.slice qv (n+1) cv);rw[ez];clear ez q1 z1;have hs:=hs.p1;refine hK.out _ _ (trivial) (fun hHeld=> ?_);clear hK KK
        try simp only[Act.put]
        refine wpAnyH_done (by kernel_rfl) ?_ _;clear hHeld;go_wp2_with fail;go_roundw
        case rel=>
         refine⟨.slice qv (n+1) cv,n+1,acc.flatMap pbcells++[.int .i64 b.base,.int .i64 b.leader,.bool b.app,.bool b.txn,.bool b.ctl,.int .i64 b.last,.int .i64 b.first,.int .i64 b.maxt,.int .i64 b.prod,.int .i64 b.epoch,.int .i64 b.seq,.slice q l.length cap],pos+n2,0,K2.and (Know.recs (.slice q l.length cap) l),?_,?_,?_⟩
         · exact Lib.hid (Know.has_trans (Know.has_left (Know.has_refl _)) HKK.out)
         · exact Lib.hid (HNX.out q l cap HLR.out)
         · exact hs
        case measure=>
         rw[pinM hs.p2,HMS.out];have:=HN2.out;have:=HPN.out
         show(if (0:Int)≠0 then 0 else d.length+1 - (pos+n2))<if (0:Int)≠0 then 0 else d.length+1 - pos
         rw[if_neg (by simp),if_neg (by simp)]
         omega
  · have HB:=Lib.hid (show([]:List BatS)=l∧i3.fail er=j by
      have hj:=HJ.out;rw[hbe]at hj;simp only[Prod.mk.injEq,true_and]at hj
      exact hj)
    have HE0:=Lib.hid he0;have g1:(er==0)=false:=by rw[beq_eq_false_iff_ne];exact he0
    have g2:(er !=0)=true:=by simp[bne,g1]
    clear hbe he0
    by_cases hz:lf=0
    · subst hz;clear hlf
      go_wp2_with (first
  |(go_at_call 75;(with_reducible refine(p_left bi _ _ HLF.out H.out.p2).mono ?_);rintro e_ wn ⟨rfl,h⟩;have h:=h.p2.p2;replace H:=Lib.hid h;clear h)
  |(go_at_call 22;(try clear y0 y1 w0 w1 v0 v1);(with_reducible refine(p_err bi _ er rfl H.out.p2).mono ?_);rintro e_ wn ⟨rfl,h⟩;have h:=h.p2.p2;have y0:=h.p1.rawCell 0;have y1:=h.p1.rawCell 1;have w0:=h.p3.rawFree 0;have w1:=h.p3.rawFree 1;have v0:=h.p3.rawCell 0;have v1:=h.p3.rawCell 1;simp at y0 y1 v0 v1;replace H:=Lib.hid h;clear h)
  |(go_at_call 70;(try clear y0 y1 w0 w1 v0 v1);(with_reducible refine(p_fail p i3 j er HB.out.2 H.out.p4).mono ?_);rintro e_ wn ⟨rfl,h⟩;have h:=h.p4.p4.p4.p4;have y0:=h.p1.rawCell 0;have y1:=h.p1.rawCell 1;have w0:=h.p3.rawFree 0;have w1:=h.p3.rawFree 1;have v0:=h.p3.rawCell 0;have v1:=h.p3.rawCell 1;simp at y0 y1 v0 v1;replace H:=Lib.hid h;clear h))
      have hz:St W0 _ _ (.raw rb #[.int .i64 a,.slice qv0 n cv0] 181::_):=((H.out.p3.rawSet 0 (.int .i64 a)).rawSet 1 (.slice qv0 n cv0));refine bodyPost_ret (rc_cell_onlyP rfl _ _ rb [.int .i64 a,.slice qv0 n cv0] _ rfl (rc_rangeP hz) Tryz.underlying181 rfl (by kernel_rfl)) rfl ?_;exact⟨qv0,n,cv0,[],K2,rfl,HKK.out,fun hj=>absurd hj (fail_ne HB.out.2 HE0.out),hz.drop.drop.drop.drop⟩
    · have hlp:(0:Int)<(lf:Int):=by omega
      clear hlf hz
      go_wp2_with (first
  |(go_at_call 75;(with_reducible refine(p_left bi _ _ HLF.out H.out.p2).mono ?_);rintro e_ wn ⟨rfl,h⟩;have h:=h.p2.p2;replace H:=Lib.hid h;clear h)
  |(go_at_call 22;(try clear y0 y1 w0 w1 v0 v1);(with_reducible refine(p_err bi _ er rfl H.out.p2).mono ?_);rintro e_ wn ⟨rfl,h⟩;have h:=h.p2.p2;have y0:=h.p1.rawCell 0;have y1:=h.p1.rawCell 1;have w0:=h.p3.rawFree 0;have w1:=h.p3.rawFree 1;have v0:=h.p3.rawCell 0;have v1:=h.p3.rawCell 1;simp at y0 y1 v0 v1;replace H:=Lib.hid h;clear h)
  |(go_at_call 70;(try clear y0 y1 w0 w1 v0 v1);(with_reducible refine(p_fail p i3 j er HB.out.2 H.out.p4).mono ?_);rintro e_ wn ⟨rfl,h⟩;have h:=h.p4.p4.p4.p4;have y0:=h.p1.rawCell 0;have y1:=h.p1.rawCell 1;have w0:=h.p3.rawFree 0;have w1:=h.p3.rawFree 1;have v0:=h.p3.rawCell 0;have v1:=h.p3.rawCell 1;simp at y0 y1 v0 v1;replace H:=Lib.hid h;clear h))
      have hz:St W0 _ _ (.raw rb #[.int .i64 a,.slice qv0 n cv0] 181::_):=((H.out.p3.rawSet 0 (.int .i64 a)).rawSet 1 (.slice qv0 n cv0));refine bodyPost_ret (rc_cell_onlyP rfl _ _ rb [.int .i64 a,.slice qv0 n cv0] _ rfl (rc_rangeP hz) Tryz.underlying181 rfl (by kernel_rfl)) rfl ?_;exact⟨qv0,n,cv0,[],K2,rfl,HKK.out,fun hj=>absurd hj (fail_ne HB.out.2 HE0.out),hz.drop.drop.drop.drop⟩):p:=h
theorem zq19 {p:Prop}(h:p:=by refine⟨.slice none 0 0,0,[],0,0,K,Lib.hid (Know.has_refl _),Lib.hid (.inl ⟨rfl,Nat.zero_le _,by omega,[],rfl,rfl,by rw[List.drop_zero];exact preB_nil _,fun x hx=>(by cases hx),fun x hx=>(by cases hx)⟩),?_⟩;have h9:=H.out;exact(h9.p1.p3.p2.p3.nilRow 101 12)):p:=h
set_option maxHeartbeats 8000000 in
set_option maxRecDepth 100000 in
theorem read_part_false (p:Nat) (i i1 i2 i3 j:InS) (a:Int) (d:Bs) (l:List BatS) (h1:i.int 4=(a,i1)) (h2:i1.fixed 4=(⟨false,d⟩,i2)) (h3:i2=i3) (hj:(match batsS d with| .ok l=>((a,l),i3)| .error e=>((a,[]),i3.fail e))=((a,l),j)) (hd:d.length≤1000000){W0 w:World}{K:Know}{L:List Res}(h:St W0 w K (.inp p i::L)):
  Calls Tryz.prog 226 #[inPtr p] w fun en w'=>∃(q:Option Addr) (n cap:Nat) (lr:List BatR) (K2:Know),en=.returned (.agg #[.int .i64 a,.slice q n cap])∧K2.has K∧(j.err=0→n=lr.length∧lr.map BatR.b=l∧K2.has (Know.bats (.slice q n cap) lr)∧∀x∈lr,x.l.map (·.1)=x.b.recs)∧St W0 w' K2 (.inp p j::L):=by
 obtain⟨rb,hrb⟩:∃b,w.heap.size=b:=⟨_,rfl⟩;obtain⟨pb,hpb⟩:∃b,rb+1=b:=⟨_,rfl⟩;have g1:=((h.allocRaw #[.int .i64 0,.slice none 0 0] 181).allocRaw #[.int .i64 0,.slice none 0 0] 181).p2;simp only[World.size_alloc,hrb,hpb]at g1;have H:=Lib.hid g1;have H1:=Lib.hid h1;have H2:=Lib.hid h2;have H3:=Lib.hid h3;have HJ:=Lib.hid hj;have HDL:=Lib.hid hd;have HDM:=Lib.hid (show d.length≤140737488355328 by omega);have hdi:(d.length:Int)≤1000000:=by omega
 clear h g1 h1 h2 h3 hj hd;go_enter Tryz.func226,Tryz.ntmps226
 go_wp2_with (first
  |(go_at_call 66;(with_reducible refine(p_int p i i1 a 4 H1.out H.out).mono ?_);rintro e_ wn ⟨rfl,h⟩;have h:=h.p1;have x0:=h.rawFree 0;have x1:=h.rawCell 0;simp at x1;have h:=(show St W0 (wn.setCell ⟨pb,0,none⟩ (.int .i64 a)) K (.inp p i1::.raw pb #[.int .i64 a,.slice none 0 0] 181::.raw rb #[.int .i64 0,.slice none 0 0] 181::L)from(h.rawSet 0 (.int .i64 a)).p1);replace H:=Lib.hid h;clear h)
  |(go_at_call 117;(with_reducible refine(p_fixed p i1 i2 4 false d H2.out H.out).mono ?_);rintro e_ wn ⟨rfl,h⟩;obtain⟨qb,hqb⟩:∃b,wn.heap.size=b:=⟨_,rfl⟩;have h:=h.allocRaw #[.bool false,.string (bb d)] 23;rw[hqb]at h;have x2:=h.rawCell 0;have x3:=h.rawCell 1;simp at x2 x3;replace H:=Lib.hid h;clear h)
  |(go_at_call 19;clear x2 x3;(with_reducible refine(s_new d HDM.out H.out.drop).mono ?_);rintro e_ wn ⟨bi,rfl,h⟩;rw[H3.out]at h;replace H:=Lib.hid h;clear h))
 go_loopw [19] (fun _ wr=>∃(v:Value) (n:Nat) (xs:List Value) (pos:Nat) (er:Int) (K2:Know),Hid (K2.has K)∧Hid (PartJ K2 d n xs pos er)∧St W0 wr K2 (.row v 101 12 n xs::.raw pb #[.int .i64 a,v] 181::.inp bi ⟨d,pos,er⟩::.raw rb #[.int .i64 0,.slice none 0 0] 181::.inp p i3::L)) (fun _ wr=>PInM bi d.length wr)
 case atStart=>
  exact zq19
 case round=>
  exact zq0

set_option maxHeartbeats 8000000 in
set_option maxRecDepth 100000 in
theorem read_part_true (p:Nat) (i i1 i2 i3 j:InS) (a:Int) (d:Bs) (l:List BatS) (h1:i.int 4=(a,i1)) (h2:i1.fixed 4=(⟨true,d⟩,i2)) (h3:(i2.fail 4)=i3) (hj:(match batsS d with| .ok l=>((a,l),i3)| .error e=>((a,[]),i3.fail e))=((a,l),j)) (hd:d.length≤1000000){W0 w:World}{K:Know}{L:List Res}(h:St W0 w K (.inp p i::L)):
  Calls Tryz.prog 226 #[inPtr p] w fun en w'=>∃(q:Option Addr) (n cap:Nat) (lr:List BatR) (K2:Know),en=.returned (.agg #[.int .i64 a,.slice q n cap])∧K2.has K∧(j.err=0→n=lr.length∧lr.map BatR.b=l∧K2.has (Know.bats (.slice q n cap) lr)∧∀x∈lr,x.l.map (·.1)=x.b.recs)∧St W0 w' K2 (.inp p j::L):=by
 obtain⟨rb,hrb⟩:∃b,w.heap.size=b:=⟨_,rfl⟩;obtain⟨pb,hpb⟩:∃b,rb+1=b:=⟨_,rfl⟩;have g1:=((h.allocRaw #[.int .i64 0,.slice none 0 0] 181).allocRaw #[.int .i64 0,.slice none 0 0] 181).p2;simp only[World.size_alloc,hrb,hpb]at g1;have H:=Lib.hid g1;have H1:=Lib.hid h1;have H2:=Lib.hid h2;have H3:=Lib.hid h3;have HJ:=Lib.hid hj;have HDL:=Lib.hid hd;have HDM:=Lib.hid (show d.length≤140737488355328 by omega);have hdi:(d.length:Int)≤1000000:=by omega
 clear h g1 h1 h2 h3 hj hd;go_enter Tryz.func226,Tryz.ntmps226
 go_wp2_with (first
  |(go_at_call 66;(with_reducible refine(p_int p i i1 a 4 H1.out H.out).mono ?_);rintro e_ wn ⟨rfl,h⟩;have h:=h.p1;have x0:=h.rawFree 0;have x1:=h.rawCell 0;simp at x1;have h:=(show St W0 (wn.setCell ⟨pb,0,none⟩ (.int .i64 a)) K (.inp p i1::.raw pb #[.int .i64 a,.slice none 0 0] 181::.raw rb #[.int .i64 0,.slice none 0 0] 181::L)from(h.rawSet 0 (.int .i64 a)).p1);replace H:=Lib.hid h;clear h)
  |(go_at_call 117;(with_reducible refine(p_fixed p i1 i2 4 true d H2.out H.out).mono ?_);rintro e_ wn ⟨rfl,h⟩;obtain⟨qb,hqb⟩:∃b,wn.heap.size=b:=⟨_,rfl⟩;have h:=h.allocRaw #[.bool true,.string (bb d)] 23;rw[hqb]at h;have x2:=h.rawCell 0;have x3:=h.rawCell 1;simp at x2 x3;replace H:=Lib.hid h;clear h)
  |(go_at_call 70;clear x2 x3;(with_reducible refine(p_fail p i2 i3 4 H3.out H.out.p1).mono ?_);rintro e_ wn ⟨rfl,h⟩;have h:=h.p1;have x3:=h.rawCell 1;simp at x3;replace H:=Lib.hid h;clear h)
  |(go_at_call 19;clear x3;(with_reducible refine(s_new d HDM.out H.out.drop).mono ?_);rintro e_ wn ⟨bi,rfl,h⟩;replace H:=Lib.hid h;clear h))
 go_loopw [19] (fun _ wr=>∃(v:Value) (n:Nat) (xs:List Value) (pos:Nat) (er:Int) (K2:Know),Hid (K2.has K)∧Hid (PartJ K2 d n xs pos er)∧St W0 wr K2 (.row v 101 12 n xs::.raw pb #[.int .i64 a,v] 181::.inp bi ⟨d,pos,er⟩::.raw rb #[.int .i64 0,.slice none 0 0] 181::.inp p i3::L)) (fun _ wr=>PInM bi d.length wr)
 case atStart=>
  exact zq19
 case round=>
  exact zq0

theorem read_part (p:Nat) (i j:InS) (a:Int) (l:List BatS) (hx:i.ppart=((a,l),j)) (hd:(((i.int 4).2.fixed 4).1.data).length≤1000000){W0 w:World}{K:Know}{L:List Res}(h:St W0 w K (.inp p i::L)):
  Calls Tryz.prog 226 #[inPtr p] w fun en w'=>∃(q:Option Addr) (n cap:Nat) (lr:List BatR) (K2:Know),en=.returned (.agg #[.int .i64 a,.slice q n cap])∧K2.has K∧(j.err=0→n=lr.length∧lr.map BatR.b=l∧K2.has (Know.bats (.slice q n cap) lr)∧∀x∈lr,x.l.map (·.1)=x.b.recs)∧St W0 w' K2 (.inp p j::L):=by
 obtain⟨⟨a1,i1⟩,h1⟩:∃r,i.int 4=r:=⟨_,rfl⟩;obtain⟨⟨⟨nu,d⟩,i2⟩,h2⟩:∃r,i1.fixed 4=r:=⟨_,rfl⟩;unfold InS.ppart at hx;rw[h1]at hx hd;simp only at hx hd;rw[h2]at hx hd;simp only at hx hd
 have ha:a1=a:=by
  revert hx
  cases batsS d<;>intro hx<;>simp only[Prod.mk.injEq]at hx<;>exact hx.1.1
 subst ha
 cases nu with
 |true=>exact read_part_true p i i1 i2 _ j a1 d l h1 h2 rfl (by rw[if_pos rfl]at hx;exact hx) hd h
 |false=>exact read_part_false p i i1 i2 _ j a1 d l h1 h2 rfl (by rw[if_neg (by simp)]at hx;exact hx) hd h
theorem buildPV12 (a:Int) (sl:Value) (w:World):(Instr.buildSlice 176 1 #[(0,.agg #[.int .i64 a,sl])]).run Tryz.prog w=.ok (.slice (some ⟨w.heap.size,0,none⟩) 1 1) (w.alloc (.cells #[.int .i64 a,sl] 181 (0,0))):=by go_simp
theorem exec_buildP12 {o:Oper}{ρ:Operand→Value}(ps:Array (Nat×Value)) (v:Value) (w w':World) (ho:execOp ρ o=(do pure (Next.value (←Instr.buildSlice 176 1 ps)))) (hb:(Instr.buildSlice 176 1 ps).run Tryz.prog w=.ok v w'):(execOp ρ o).run Tryz.prog w=.ok (.value v) w':=by
 rw[ho];simp[hb]
theorem zq27 {p:Prop}(h:p:=by
  exact Lib.hid (fun x hx=>by
  rcases List.mem_append.1 hx with hx|hx
  · exact⟨Know.has_trans HK3.out (HALL.out x hx).1,(HALL.out x hx).2⟩
  · rw[List.mem_singleton.1 hx];exact⟨hkb,hmb⟩)):p:=h
set_option maxHeartbeats 8000000 in
set_option maxRecDepth 100000 in
theorem read_top (p:Nat) (i j:InS) (nm:Bs) (ps:List (Int×List BatS)) (hx:i.ptop=((nm,ps),j)) (hd:i.s.length≤1000000){W0 w:World}{K:Know}{L:List Res}(h:St W0 w K (.inp p i::L)):
  Calls Tryz.prog 175 #[inPtr p] w fun en w'=>∃(q:Option Addr) (n cap:Nat) (lr:List PartR) (K2:Know),en=.returned (.agg #[.string (bb nm),.slice q n cap])∧K2.has K∧(j.err=0→n=lr.length∧lr.map PartR.pb=ps∧K2.has (Know.pparts (.slice q n cap) lr)∧∀x∈lr,∀y∈x.l,y.l.map (·.1)=y.b.recs)∧St W0 w' K2 (.inp p j::L):=by
 obtain⟨⟨n1,i1⟩,h1⟩:∃r,i.text=r:=⟨_,rfl⟩;obtain⟨⟨n,c⟩,h2⟩:∃r,i1.cnt 8=r:=⟨_,rfl⟩;have hs0:c.s=i.s:=by have:=cnt_s12 i1 8;rw[h2]at this;rw[this];have:=text_s12 i;rw[h1]at this;exact this
 have hnl:=cnt_nat12 i1 8;rw[h2]at hnl
 have hx2:n1=nm∧InS.ppartsN n [] c=(ps,j):=by
  unfold InS.ptop at hx;rw[h1]at hx;simp only at hx;rw[h2]at hx;simp only[Prod.mk.injEq]at hx;exact⟨hx.1.1,Prod.ext hx.1.2 hx.2⟩
 obtain⟨rfl,hx2⟩:=hx2;obtain⟨rb,hrb⟩:∃b,w.heap.size=b:=⟨_,rfl⟩;obtain⟨tb,htb⟩:∃b,rb+1=b:=⟨_,rfl⟩;have g1:=((h.allocRaw #[.string ⟨#[]⟩,.slice none 0 0] 178).allocRaw #[.string ⟨#[]⟩,.slice none 0 0] 178).p2;simp only[World.size_alloc,hrb,htb]at g1;have H:=Lib.hid g1;have H1:=Lib.hid h1;have H2:=Lib.hid h2;have HX0:=Lib.hid hx2;have HS0:=Lib.hid hs0;have HDL:=Lib.hid hd;have HNL:=Lib.hid (show n≤2147483647 from hnl.2);have hni:(n:Int)≤2147483647:=by have:=HNL.out;omega
 clear h g1 h1 h2 hx hx2 hd hnl hs0;go_enter Tryz.func175,Tryz.ntmps175
 go_wp2_with (first
  |(go_at_call 87;(with_reducible refine(p_text p i i1 _ H1.out H.out).mono ?_);rintro e_ wn ⟨rfl,h⟩;have h:=h.p1;have x0:=h.rawFree 0;have x1:=h.rawCell 0;simp at x1;have h:=(show St W0 (wn.setCell ⟨tb,0,none⟩ (.string (bb n1))) K (.inp p i1::.raw tb #[.string (bb n1),.slice none 0 0] 178::.raw rb #[.string ⟨#[]⟩,.slice none 0 0] 178::L)from(h.rawSet 0 (.string (bb n1))).p1);replace H:=Lib.hid h;clear h)
  |(go_at_call 174;(with_reducible refine(p_cnt p i1 c 8 n 8 rfl H2.out H.out).mono ?_);rintro e_ wn ⟨rfl,h⟩;replace H:=Lib.hid h;clear h))
 go_loopw [9] (fun iv wr=>∃(k:Nat) (v:Value) (xs:List Value) (i2:InS) (acc:List PartR) (K2:Know),k≤n∧iv=.int .i64 k∧Hid (k=acc.length)∧Hid (xs=acc.flatMap pcells)∧Hid (InS.ppartsN (n - k) (acc.map PartR.pb) i2=(ps,j))∧Hid (K2.has K)∧Hid (∀x∈acc,K2.has (Know.bats (.slice x.q x.l.length x.cap) x.l)∧∀y∈x.l,y.l.map (·.1)=y.b.recs)∧Hid (i2.s=i.s)∧St W0 wr K2 (.row v 181 2 k xs::.raw tb #[.string (bb n1),v] 178::.inp p i2::.raw rb #[.string ⟨#[]⟩,.slice none 0 0] 178::L)) (fun iv _=>n - (intOf iv).toNat)
 case atStart=>
  refine⟨0,.slice none 0 0,[],c,[],K,Nat.zero_le _,rfl,Lib.hid rfl,Lib.hid rfl,Lib.hid HX0.out,Lib.hid (Know.has_refl _),Lib.hid (fun x hx=>by cases hx),Lib.hid HS0.out,?_⟩;exact(H.out.p1.nilRow 181 2)
 case round=>
  obtain⟨k,v,xs,i2,acc,K2,hk,rfl,HAL,HXS,HP,HKK,HALL,HS,hst⟩:=hrel;clear H;obtain⟨qv0,cv0,hv0⟩:=hst.rowAny;subst hv0;have y0:=hst.p1.rawCell 0;have y1:=hst.p1.rawCell 1;have w0:=hst.p3.rawFree 0;have w1:=hst.p3.rawFree 1;have v0:=hst.p3.rawCell 0;have v1:=hst.p3.rawCell 1;simp at y0 y1 v0 v1;have H:=Lib.hid hst;clear hst
  by_cases hlt:k<n
  · clear y0 y1 w0 w1 v0 v1;obtain⟨⟨⟨a,bl⟩,i3⟩,hi3⟩:∃r,i2.ppart=r:=⟨_,rfl⟩;obtain⟨er,her⟩:∃er,i3.err=er:=⟨_,rfl⟩;have HX:=Lib.hid hi3;have HS3:=Lib.hid (show i3.s=i.s by have:=ppart_s12 i2;rw[hi3]at this;rw[this];exact HS.out)
    have hstep:(if er=0 then InS.ppartsN (n - (k+1)) (acc.map PartR.pb++[(a,bl)]) i3 else([],i3))=(ps,j):=by
      have h1:=HP.out;rw[show n - k=(n - (k+1))+1 by omega]at h1;have h2:(if i2.ppart.2.err=0 then InS.ppartsN (n - (k+1)) (acc.map PartR.pb++[i2.ppart.1]) i2.ppart.2 else([],i2.ppart.2))=(ps,j):=h1;rw[hi3]at h2;simp only at h2;rw[her]at h2;exact h2
    have HKN:=Lib.hid (show k≤2147483647 by have:=HNL.out;omega);have hkn:(k:Int)<(n:Int):=by omega
    have HER:=Lib.hid her;clear hi3
    by_cases he0:er=0
    · rw[if_pos he0]at hstep;have HP2:=Lib.hid hstep;subst he0;clear hstep her;go_wp2_with fail;have hs:=H.out.drew;refine wp_region_held_drew (S:=fun _=>True) (by kernel_rfl) trivial (fun hHeld=> ?_);refine tQ 0 ⟨some 11,.fieldAddr 178 (.tmp 3) 1,0,_,_,none⟩ ?_;simp only[Act.put,sA,sB,sC];refine tQ 2 ⟨some 13,.move (.tmp 0),60,_,_,none⟩ ?_;simp only[Act.put,sA,sB,sC];refine wpAnyH_ready (rs:=[1,3]) (by kernel_rfl) (by simp) (AllReadyH.cons (o:=⟨some 12,.load 176 (.tmp 11),176,_,_,none⟩) rfl (fun KK hK=> ?_) (AllReadyH.cons (o:=⟨some 14,.call {callee:=.value (.func 226),args:= #[.tmp 13],argTypes:= #[60]},181,_,_,none⟩) rfl (fun KK hK=> ?_) AllReadyH.nil))
      focus
       have z1:=hs.p1.rawCell 1;simp at z1;go_simp;refine hK.out _ _ (trivial) (fun hHeld=> ?_);clear hK KK
       try simp only[Act.put,sA,sB,sC]
       clear z1;refine wpAnyH_ready (rs:=[3]) (by kernel_rfl) (by simp) (AllReadyH.cons (o:=⟨some 14,.call {callee:=.value (.func 226),args:= #[.tmp 13],argTypes:= #[60]},181,_,_,none⟩) rfl (fun KK hK=> ?_) AllReadyH.nil);go_simp;go_at_call 226;with_reducible refine(read_part p i2 i3 a bl HX.out (Nat.le_trans (part_len12 _) (by rw[HS.out];exact HDL.out)) hs.p2).mono ?_;rintro e wq ⟨q,n2,cap,lr,K3,rfl,hk3,hgd,hs⟩;refine hK.out _ _ (trivial) (fun hHeld=> ?_);clear hK KK
       try simp only[Act.put,sA,sB,sC]
       have hs:=hs.p2.p2;refine wpAnyH_ready (rs:=[4]) (by kernel_rfl) (by simp) (AllReadyH.cons (o:=⟨some 15,.buildSlice 176 1 #[(0,.tmp 14)],176,_,_,none⟩) rfl (fun KK hK=> ?_) AllReadyH.nil);rw[if_pos (by rfl)];refine op_value (exec_buildP12 _ _ _ _ (by kernel_rfl) (buildPV12 a (.slice q n2 cap) _)) ?_;obtain⟨wy,b2,ey,eb,hs⟩:=hs.allocEx #[.int .i64 a,.slice q n2 cap] 181;rw[ey,eb];clear ey eb;refine hK.out _ _ (trivial) (fun hHeld=> ?_);clear hK KK
       try simp only[Act.put,sA,sB,sC]
      rotate_left
      focus
       go_simp;go_at_call 226;with_reducible refine(read_part p i2 i3 a bl HX.out (Nat.le_trans (part_len12 _) (by rw[HS.out];exact HDL.out)) hs.p2).mono ?_;rintro e wq ⟨q,n2,cap,lr,K3,rfl,hk3,hgd,hs⟩;refine hK.out _ _ (trivial) (fun hHeld=> ?_);clear hK KK
       try simp only[Act.put,sA,sB,sC]
       have hs:=hs.p2.p2;refine wpAnyH_ready (rs:=[1,4]) (by kernel_rfl) (by simp) (AllReadyH.cons (o:=⟨some 12,.load 176 (.tmp 11),176,_,_,none⟩) rfl (fun KK hK=> ?_) (AllReadyH.cons (o:=⟨some 15,.buildSlice 176 1 #[(0,.tmp 14)],176,_,_,none⟩) rfl (fun KK hK=> ?_) AllReadyH.nil))
       focus
        have z1:=hs.p1.rawCell 1;simp at z1;go_simp;refine hK.out _ _ (trivial) (fun hHeld=> ?_);clear hK KK
        try simp only[Act.put,sA,sB,sC]
        clear z1;refine wpAnyH_ready (rs:=[4]) (by kernel_rfl) (by simp) (AllReadyH.cons (o:=⟨some 15,.buildSlice 176 1 #[(0,.tmp 14)],176,_,_,none⟩) rfl (fun KK hK=> ?_) AllReadyH.nil);rw[if_pos (by rfl)];refine op_value (exec_buildP12 _ _ _ _ (by kernel_rfl) (buildPV12 a (.slice q n2 cap) _)) ?_;obtain⟨wy,b2,ey,eb,hs⟩:=hs.allocEx #[.int .i64 a,.slice q n2 cap] 181;rw[ey,eb];clear ey eb;refine hK.out _ _ (trivial) (fun hHeld=> ?_);clear hK KK
        try simp only[Act.put,sA,sB,sC]
       rotate_left
       focus
        rw[if_pos (by rfl)];refine op_value (exec_buildP12 _ _ _ _ (by kernel_rfl) (buildPV12 a (.slice q n2 cap) _)) ?_;obtain⟨wy,b2,ey,eb,hs⟩:=hs.allocEx #[.int .i64 a,.slice q n2 cap] 181;rw[ey,eb];clear ey eb;refine hK.out _ _ (trivial) (fun hHeld=> ?_);clear hK KK
        try simp only[Act.put,sA,sB,sC]
        refine wpAnyH_ready (rs:=[1]) (by kernel_rfl) (by simp) (AllReadyH.cons (o:=⟨some 12,.load 176 (.tmp 11),176,_,_,none⟩) rfl (fun KK hK=> ?_) AllReadyH.nil);have z1:=hs.p2.rawCell 1;simp at z1;go_simp;refine hK.out _ _ (trivial) (fun hHeld=> ?_);clear hK KK
        try simp only[Act.put,sA,sB,sC]
        clear z1
      all_goals
       refine wpAnyH_ready (rs:=[5]) (by kernel_rfl) (by simp) (AllReadyH.cons (o:=⟨some 16,.call {callee:=.builtin .append,args:= #[.tmp 12,.tmp 15],argTypes:= #[176,176]},176,_,_,none⟩) rfl (fun KK hK=> ?_) AllReadyH.nil);rw[if_pos (by rfl)];refine op_app1 (.tmp 12) (.tmp 15) 176 rfl 181 Tryz.underlying176 elem_partP _ _ _ (by rfl) b2 #[.int .i64 a,.slice q n2 cap] 181 hs (by rfl) rfl (by simp[Value.oneCell']) (by have:=HKN.out;unfold maxLen;omega) (by have:=HKN.out;omega) (fun v' w' h=> ?_);have hs:=h;clear h;obtain⟨qv,cv,hv⟩:=hs.rowAny;subst hv;refine hK.out _ _ (trivial) (fun hHeld=> ?_);clear hK KK
       try simp only[Act.put,sA,sB,sC]
       refine tQ 6 ⟨some 17,.fieldAddr 178 (.tmp 3) 1,0,_,_,none⟩ ?_;simp only[Act.put,sA,sB,sC];refine wpAnyH_ready (rs:=[7]) (by kernel_rfl) (by simp) (AllReadyH.cons (o:=⟨none,.store 176 (.tmp 17) (.tmp 16),0,_,_,none⟩) rfl (fun KK hK=> ?_) AllReadyH.nil);have hs:=hs.p1;have q1:=hs.rawFree 1;have z1:=hs.rawCell 1;simp at z1;rw[if_pos (by rfl)];refine op_skip (w':=w'.setCell ⟨tb,1,none⟩ (.slice qv (k+1) cv)) (by go_simp) ?_;obtain⟨wz,ez,hs⟩:=hs.setExP 1 (.slice qv (k+1) cv);rw[ez];clear ez q1 z1;have hs:=hs.p1;refine hK.out _ _ (trivial) (fun hHeld=> ?_);clear hK KK
       try simp only[Act.put]
       refine wpAnyH_done (by kernel_rfl) ?_ _;clear hHeld;have HK3:=Lib.hid hk3;clear hk3;replace H:=Lib.hid hs;clear hs;go_wp2_with (go_at_call 22;(try clear y0 y1 w0 w1 v0 v1);(with_reducible refine(p_err p i3 0 HER.out H.out.p2).mono ?_);rintro e_ wn ⟨rfl,h⟩;have h:=h.p2.p2;have y0:=h.p1.rawCell 0;have y1:=h.p1.rawCell 1;have w0:=h.p3.rawFree 0;have w1:=h.p3.rawFree 1;have v0:=h.p3.rawCell 0;have v1:=h.p3.rawCell 1;simp at y0 y1 v0 v1;replace H:=Lib.hid h;clear h);go_roundw
       case rel=>
        obtain⟨hn2,hlb,hkb,hmb⟩:=hgd HER.out;subst hn2;refine⟨k+1,.slice qv (k+1) cv,xs++[.int .i64 a,.slice q lr.length cap],i3,acc++[⟨a,lr,q,cap⟩],K3,hlt,by go_num,?_,?_,?_,?_,?_,?_,?_⟩
        · exact Lib.hid (by rw[List.length_append,←HAL.out];rfl)
        · exact Lib.hid (by rw[List.flatMap_append,HXS.out];rfl)
        · exact Lib.hid (by rw[List.map_append];have:=HP2.out;rw[←hlb]at this;exact this)
        · exact Lib.hid (Know.has_trans HK3.out HKK.out)
        · exact zq27
        · exact Lib.hid HS3.out
        · exact H.out
       case measure=>first|(simp[intOf];done)|(simp[intOf];omega)
    · rw[if_neg he0]at hstep;simp only[Prod.mk.injEq]at hstep;obtain⟨rfl,rfl⟩:=hstep;have gz:(er==0)=false:=by rw[beq_eq_false_iff_ne];exact he0
      have gz3:(er !=0)=true:=by simp[bne,gz]
      have HE0:=Lib.hid he0;clear he0 her;go_wp2_with fail;have hs:=H.out.drew;refine wp_region_held_drew (S:=fun _=>True) (by kernel_rfl) trivial (fun hHeld=> ?_);refine tQ 0 ⟨some 11,.fieldAddr 178 (.tmp 3) 1,0,_,_,none⟩ ?_;simp only[Act.put,sA,sB,sC];refine tQ 2 ⟨some 13,.move (.tmp 0),60,_,_,none⟩ ?_;simp only[Act.put,sA,sB,sC];refine wpAnyH_ready (rs:=[1,3]) (by kernel_rfl) (by simp) (AllReadyH.cons (o:=⟨some 12,.load 176 (.tmp 11),176,_,_,none⟩) rfl (fun KK hK=> ?_) (AllReadyH.cons (o:=⟨some 14,.call {callee:=.value (.func 226),args:= #[.tmp 13],argTypes:= #[60]},181,_,_,none⟩) rfl (fun KK hK=> ?_) AllReadyH.nil))
      focus
       have z1:=hs.p1.rawCell 1;simp at z1;go_simp;refine hK.out _ _ (trivial) (fun hHeld=> ?_);clear hK KK
       try simp only[Act.put,sA,sB,sC]
       clear z1;refine wpAnyH_ready (rs:=[3]) (by kernel_rfl) (by simp) (AllReadyH.cons (o:=⟨some 14,.call {callee:=.value (.func 226),args:= #[.tmp 13],argTypes:= #[60]},181,_,_,none⟩) rfl (fun KK hK=> ?_) AllReadyH.nil);go_simp;go_at_call 226;with_reducible refine(read_part p i2 i3 a bl HX.out (Nat.le_trans (part_len12 _) (by rw[HS.out];exact HDL.out)) hs.p2).mono ?_;rintro e wq ⟨q,n2,cap,lr,K3,rfl,hk3,hgd,hs⟩;refine hK.out _ _ (trivial) (fun hHeld=> ?_);clear hK KK
       try simp only[Act.put,sA,sB,sC]
       have hs:=hs.p2.p2;refine wpAnyH_ready (rs:=[4]) (by kernel_rfl) (by simp) (AllReadyH.cons (o:=⟨some 15,.buildSlice 176 1 #[(0,.tmp 14)],176,_,_,none⟩) rfl (fun KK hK=> ?_) AllReadyH.nil);rw[if_pos (by rfl)];refine op_value (exec_buildP12 _ _ _ _ (by kernel_rfl) (buildPV12 a (.slice q n2 cap) _)) ?_;obtain⟨wy,b2,ey,eb,hs⟩:=hs.allocEx #[.int .i64 a,.slice q n2 cap] 181;rw[ey,eb];clear ey eb;refine hK.out _ _ (trivial) (fun hHeld=> ?_);clear hK KK
       try simp only[Act.put,sA,sB,sC]
      rotate_left
      focus
       go_simp;go_at_call 226;with_reducible refine(read_part p i2 i3 a bl HX.out (Nat.le_trans (part_len12 _) (by rw[HS.out];exact HDL.out)) hs.p2).mono ?_;rintro e wq ⟨q,n2,cap,lr,K3,rfl,hk3,hgd,hs⟩;refine hK.out _ _ (trivial) (fun hHeld=> ?_);clear hK KK
       try simp only[Act.put,sA,sB,sC]
       have hs:=hs.p2.p2;refine wpAnyH_ready (rs:=[1,4]) (by kernel_rfl) (by simp) (AllReadyH.cons (o:=⟨some 12,.load 176 (.tmp 11),176,_,_,none⟩) rfl (fun KK hK=> ?_) (AllReadyH.cons (o:=⟨some 15,.buildSlice 176 1 #[(0,.tmp 14)],176,_,_,none⟩) rfl (fun KK hK=> ?_) AllReadyH.nil))
       focus
        have z1:=hs.p1.rawCell 1;simp at z1;go_simp;refine hK.out _ _ (trivial) (fun hHeld=> ?_);clear hK KK
        try simp only[Act.put,sA,sB,sC]
        clear z1;refine wpAnyH_ready (rs:=[4]) (by kernel_rfl) (by simp) (AllReadyH.cons (o:=⟨some 15,.buildSlice 176 1 #[(0,.tmp 14)],176,_,_,none⟩) rfl (fun KK hK=> ?_) AllReadyH.nil);rw[if_pos (by rfl)];refine op_value (exec_buildP12 _ _ _ _ (by kernel_rfl) (buildPV12 a (.slice q n2 cap) _)) ?_;obtain⟨wy,b2,ey,eb,hs⟩:=hs.allocEx #[.int .i64 a,.slice q n2 cap] 181;rw[ey,eb];clear ey eb;refine hK.out _ _ (trivial) (fun hHeld=> ?_);clear hK KK
        try simp only[Act.put,sA,sB,sC]
       rotate_left
       focus
        rw[if_pos (by rfl)];refine op_value (exec_buildP12 _ _ _ _ (by kernel_rfl) (buildPV12 a (.slice q n2 cap) _)) ?_;obtain⟨wy,b2,ey,eb,hs⟩:=hs.allocEx #[.int .i64 a,.slice q n2 cap] 181;rw[ey,eb];clear ey eb;refine hK.out _ _ (trivial) (fun hHeld=> ?_);clear hK KK
        try simp only[Act.put,sA,sB,sC]
        refine wpAnyH_ready (rs:=[1]) (by kernel_rfl) (by simp) (AllReadyH.cons (o:=⟨some 12,.load 176 (.tmp 11),176,_,_,none⟩) rfl (fun KK hK=> ?_) AllReadyH.nil);have z1:=hs.p2.rawCell 1;simp at z1;go_simp;refine hK.out _ _ (trivial) (fun hHeld=> ?_);clear hK KK
        try simp only[Act.put,sA,sB,sC]
        clear z1
      all_goals
       refine wpAnyH_ready (rs:=[5]) (by kernel_rfl) (by simp) (AllReadyH.cons (o:=⟨some 16,.call {callee:=.builtin .append,args:= #[.tmp 12,.tmp 15],argTypes:= #[176,176]},176,_,_,none⟩) rfl (fun KK hK=> ?_) AllReadyH.nil);rw[if_pos (by rfl)];refine op_app1 (.tmp 12) (.tmp 15) 176 rfl 181 Tryz.underlying176 elem_partP _ _ _ (by rfl) b2 #[.int .i64 a,.slice q n2 cap] 181 hs (by rfl) rfl (by simp[Value.oneCell']) (by have:=HKN.out;unfold maxLen;omega) (by have:=HKN.out;omega) (fun v' w' h=> ?_);have hs:=h;clear h;obtain⟨qv,cv,hv⟩:=hs.rowAny;subst hv;refine hK.out _ _ (trivial) (fun hHeld=> ?_);clear hK KK
       try simp only[Act.put,sA,sB,sC]
       refine tQ 6 ⟨some 17,.fieldAddr 178 (.tmp 3) 1,0,_,_,none⟩ ?_;simp only[Act.put,sA,sB,sC];refine wpAnyH_ready (rs:=[7]) (by kernel_rfl) (by simp) (AllReadyH.cons (o:=⟨none,.store 176 (.tmp 17) (.tmp 16),0,_,_,none⟩) rfl (fun KK hK=> ?_) AllReadyH.nil);have hs:=hs.p1;have q1:=hs.rawFree 1;have z1:=hs.rawCell 1;simp at z1;rw[if_pos (by rfl)];refine op_skip (w':=w'.setCell ⟨tb,1,none⟩ (.slice qv (k+1) cv)) (by go_simp) ?_;obtain⟨wz,ez,hs⟩:=hs.setExP 1 (.slice qv (k+1) cv);rw[ez];clear ez q1 z1;have hs:=hs.p1;refine hK.out _ _ (trivial) (fun hHeld=> ?_);clear hK KK
       try simp only[Act.put]
       refine wpAnyH_done (by kernel_rfl) ?_ _;clear hHeld hgd;have HK3:=Lib.hid hk3;clear hk3;replace H:=Lib.hid hs;clear hs;go_wp2_with (go_at_call 22;(try clear y0 y1 w0 w1 v0 v1);(with_reducible refine(p_err p i3 er HER.out H.out.p2).mono ?_);rintro e_ wn ⟨rfl,h⟩;have h:=h.p2.p2;have y0:=h.p1.rawCell 0;have y1:=h.p1.rawCell 1;have w0:=h.p3.rawFree 0;have w1:=h.p3.rawFree 1;have v0:=h.p3.rawCell 0;have v1:=h.p3.rawCell 1;simp at y0 y1 v0 v1;replace H:=Lib.hid h;clear h);have hz:St W0 _ _ (.raw rb #[.string (bb n1),.slice qv (k+1) cv] 178::_):=((H.out.p3.rawSet 0 (.string (bb n1))).rawSet 1 (.slice qv (k+1) cv));refine bodyPost_ret (rc_cell_onlyP rfl _ _ rb [.string (bb n1),.slice qv (k+1) cv] _ rfl (rc_rangeP hz) Tryz.underlying178 rfl (by kernel_rfl)) rfl ?_;exact⟨qv,k+1,cv,[],K3,rfl,Know.has_trans HK3.out HKK.out,fun hj=>absurd (HER.out.symm.trans hj) HE0.out,hz.drop.drop.drop⟩
  · obtain rfl:k=n:=by omega
    have hp:=HP.out;rw[Nat.sub_self]at hp;have hp:(acc.map PartR.pb,i2)=(ps,j):=hp;simp only[Prod.mk.injEq]at hp;obtain⟨hpl,rfl⟩:=hp;have HPL:=Lib.hid hpl;clear hpl;go_wp2;have hz:St W0 _ _ (.raw rb #[.string (bb n1),.slice qv0 k cv0] 178::_):=((H.out.p3.rawSet 0 (.string (bb n1))).rawSet 1 (.slice qv0 k cv0));refine bodyPost_ret (rc_cell_onlyP rfl _ _ rb [.string (bb n1),.slice qv0 k cv0] _ rfl (rc_rangeP hz) Tryz.underlying178 rfl (by kernel_rfl)) rfl ?_;have hr:=hz.drop;have hn:=HAL.out;have hxs:=HXS.out;subst hn;subst hxs;have hf:=hr.freezeParts (fun x hx=>(HALL.out x hx).1);exact⟨qv0,_,cv0,acc,K2.and (Know.pparts (.slice qv0 acc.length cv0) acc),rfl,Know.has_trans (Know.has_left (Know.has_refl _)) HKK.out,fun _=>⟨rfl,HPL.out,Know.has_right (Know.has_refl _),fun x hx=>(HALL.out x hx).2⟩,hf.drop⟩
theorem zq3 {p:Prop}(h:p:=by
  obtain⟨⟨⟨nm,pl⟩,i3⟩,hi3⟩:∃r,i2.ptop=r:=⟨_,rfl⟩;obtain⟨er,her⟩:∃er,i3.err=er:=⟨_,rfl⟩;have HX:=Lib.hid hi3;have HS3:=Lib.hid (show i3.s=i.s by have:=ptop_s12 i2;rw[hi3]at this;rw[this];exact HS.out)
  have hstep:(if er=0 then InS.ptopsN (n - (k+1)) (acc.map PTop.pt++[(nm,pl)]) i3 else([],i3))=(ts,j):=by
    have h1:=HP.out;rw[show n - k=(n - (k+1))+1 by omega]at h1;have h2:(if i2.ptop.2.err=0 then InS.ptopsN (n - (k+1)) (acc.map PTop.pt++[i2.ptop.1]) i2.ptop.2 else([],i2.ptop.2))=(ts,j):=h1;rw[hi3]at h2;simp only at h2;rw[her]at h2;exact h2
  have HKN:=Lib.hid (show k≤2147483647 by have:=HNL.out;omega);have hkn:(k:Int)<(n:Int):=by omega
  have HER:=Lib.hid her;clear hi3
  by_cases he0:er=0
  · rw[if_pos he0]at hstep;have HP2:=Lib.hid hstep;subst he0;clear hstep her;go_wp2_with fail;have hs:=H.out.drew;refine wp_region_held_drew (S:=fun _=>True) (by kernel_rfl) trivial (fun hHeld=> ?_);refine tQ 0 ⟨some 20,.fieldAddr 36 (.tmp 5) 3,0,_,_,none⟩ ?_;simp only[Act.put,sA,sB,sC];refine tQ 2 ⟨some 22,.move (.tmp 0),60,_,_,none⟩ ?_;simp only[Act.put,sA,sB,sC];refine wpAnyH_ready (rs:=[1,3]) (by kernel_rfl) (by simp) (AllReadyH.cons (o:=⟨some 21,.load 34 (.tmp 20),34,_,_,none⟩) rfl (fun KK hK=> ?_) (AllReadyH.cons (o:=⟨some 23,.call {callee:=.value (.func 175),args:= #[.tmp 22],argTypes:= #[60]},178,_,_,none⟩) rfl (fun KK hK=> ?_) AllReadyH.nil))
    focus
      have z1:=hs.p1.rawCell 4;simp at z1;go_simp;refine hK.out _ _ (trivial) (fun hHeld=> ?_);clear hK KK
      try simp only[Act.put,sA,sB,sC]
      clear z1;refine wpAnyH_ready (rs:=[3]) (by kernel_rfl) (by simp) (AllReadyH.cons (o:=⟨some 23,.call {callee:=.value (.func 175),args:= #[.tmp 22],argTypes:= #[60]},178,_,_,none⟩) rfl (fun KK hK=> ?_) AllReadyH.nil);go_simp;go_at_call 175;with_reducible refine(read_top p i2 i3 nm pl HX.out (by rw[HS.out];exact HDL.out) hs.p2).mono ?_;rintro e wq ⟨q,n2,cap,lr,K3,rfl,hk3,hgd,hs⟩;refine hK.out _ _ (trivial) (fun hHeld=> ?_);clear hK KK
      try simp only[Act.put,sA,sB,sC]
      have hs:=hs.p2.p2;refine wpAnyH_ready (rs:=[4]) (by kernel_rfl) (by simp) (AllReadyH.cons (o:=⟨some 24,.buildSlice 34 1 #[(0,.tmp 23)],34,_,_,none⟩) rfl (fun KK hK=> ?_) AllReadyH.nil);rw[if_pos (by rfl)];refine op_value (exec_buildT13 _ _ _ _ (by kernel_rfl) (buildTV13 (.string (bb nm)) (.slice q n2 cap) _)) ?_;obtain⟨wy,b2,ey,eb,hs⟩:=hs.allocEx #[.string (bb nm),.slice q n2 cap] 178;rw[ey,eb];clear ey eb;refine hK.out _ _ (trivial) (fun hHeld=> ?_);clear hK KK
      try simp only[Act.put,sA,sB,sC]
    rotate_left
    focus
      go_simp;go_at_call 175;with_reducible refine(read_top p i2 i3 nm pl HX.out (by rw[HS.out];exact HDL.out) hs.p2).mono ?_;rintro e wq ⟨q,n2,cap,lr,K3,rfl,hk3,hgd,hs⟩;refine hK.out _ _ (trivial) (fun hHeld=> ?_);clear hK KK
      try simp only[Act.put,sA,sB,sC]
      have hs:=hs.p2.p2;refine wpAnyH_ready (rs:=[1,4]) (by kernel_rfl) (by simp) (AllReadyH.cons (o:=⟨some 21,.load 34 (.tmp 20),34,_,_,none⟩) rfl (fun KK hK=> ?_) (AllReadyH.cons (o:=⟨some 24,.buildSlice 34 1 #[(0,.tmp 23)],34,_,_,none⟩) rfl (fun KK hK=> ?_) AllReadyH.nil))
      focus
       have z1:=hs.p1.rawCell 4;simp at z1;go_simp;refine hK.out _ _ (trivial) (fun hHeld=> ?_);clear hK KK
       try simp only[Act.put,sA,sB,sC]
       clear z1;refine wpAnyH_ready (rs:=[4]) (by kernel_rfl) (by simp) (AllReadyH.cons (o:=⟨some 24,.buildSlice 34 1 #[(0,.tmp 23)],34,_,_,none⟩) rfl (fun KK hK=> ?_) AllReadyH.nil);rw[if_pos (by rfl)];refine op_value (exec_buildT13 _ _ _ _ (by kernel_rfl) (buildTV13 (.string (bb nm)) (.slice q n2 cap) _)) ?_;obtain⟨wy,b2,ey,eb,hs⟩:=hs.allocEx #[.string (bb nm),.slice q n2 cap] 178;rw[ey,eb];clear ey eb;refine hK.out _ _ (trivial) (fun hHeld=> ?_);clear hK KK
       try simp only[Act.put,sA,sB,sC]
      rotate_left
      focus
       rw[if_pos (by rfl)];refine op_value (exec_buildT13 _ _ _ _ (by kernel_rfl) (buildTV13 (.string (bb nm)) (.slice q n2 cap) _)) ?_;obtain⟨wy,b2,ey,eb,hs⟩:=hs.allocEx #[.string (bb nm),.slice q n2 cap] 178;rw[ey,eb];clear ey eb;refine hK.out _ _ (trivial) (fun hHeld=> ?_);clear hK KK
       try simp only[Act.put,sA,sB,sC]
       refine wpAnyH_ready (rs:=[1]) (by kernel_rfl) (by simp) (AllReadyH.cons (o:=⟨some 21,.load 34 (.tmp 20),34,_,_,none⟩) rfl (fun KK hK=> ?_) AllReadyH.nil);have z1:=hs.p2.rawCell 4;simp at z1;go_simp;refine hK.out _ _ (trivial) (fun hHeld=> ?_);clear hK KK
       try simp only[Act.put,sA,sB,sC]
       clear z1
    all_goals
      refine wpAnyH_ready (rs:=[5]) (by kernel_rfl) (by simp) (AllReadyH.cons (o:=⟨some 25,.call {callee:=.builtin .append,args:= #[.tmp 21,.tmp 24],argTypes:= #[34,34]},34,_,_,none⟩) rfl (fun KK hK=> ?_) AllReadyH.nil);rw[if_pos (by rfl)];refine op_app1 (.tmp 21) (.tmp 24) 34 rfl 178 Tryz.underlying34 elem_topP _ _ _ (by rfl) b2 #[.string (bb nm),.slice q n2 cap] 178 hs (by rfl) rfl (by simp[Value.oneCell']) (by have:=HKN.out;unfold maxLen;omega) (by have:=HKN.out;omega) (fun v' w' h=> ?_);have hs:=h;clear h;obtain⟨qv,cv,hv⟩:=hs.rowAny;subst hv;refine hK.out _ _ (trivial) (fun hHeld=> ?_);clear hK KK
      try simp only[Act.put,sA,sB,sC]
      refine tQ 6 ⟨some 26,.fieldAddr 36 (.tmp 5) 3,0,_,_,none⟩ ?_;simp only[Act.put,sA,sB,sC];refine wpAnyH_ready (rs:=[7]) (by kernel_rfl) (by simp) (AllReadyH.cons (o:=⟨none,.store 34 (.tmp 26) (.tmp 25),0,_,_,none⟩) rfl (fun KK hK=> ?_) AllReadyH.nil);have hs:=hs.p1;have q1:=hs.rawFree 4;have z1:=hs.rawCell 4;simp at z1;rw[if_pos (by rfl)];refine op_skip (w':=w'.setCell ⟨tb,4,none⟩ (.slice qv (k+1) cv)) (by go_simp) ?_;obtain⟨wz,ez,hs⟩:=hs.setExP 4 (.slice qv (k+1) cv);rw[ez];clear ez q1 z1;have hs:=hs.p1;refine hK.out _ _ (trivial) (fun hHeld=> ?_);clear hK KK
      try simp only[Act.put]
      refine wpAnyH_done (by kernel_rfl) ?_ _;clear hHeld;have HK3:=Lib.hid hk3;clear hk3;replace H:=Lib.hid hs;clear hs;go_wp2_with (go_at_call 22;(try clear y0 y1 y2 y3 y4 w0 w1 w2 w3 w4 v0 v1 v2 v3 v4);(with_reducible refine(p_err p i3 0 HER.out H.out.p2).mono ?_);rintro e_ wn ⟨rfl,h⟩;have h:=h.p2.p2;have y0:=h.p1.rawCell 0;have y1:=h.p1.rawCell 1;have y2:=h.p1.rawCell 2;have y3:=h.p1.rawCell 3;have y4:=h.p1.rawCell 4;have w0:=h.p3.rawFree 0;have w1:=h.p3.rawFree 1;have w2:=h.p3.rawFree 2;have w3:=h.p3.rawFree 3;have w4:=h.p3.rawFree 4;have v0:=h.p3.rawCell 0;have v1:=h.p3.rawCell 1;have v2:=h.p3.rawCell 2;have v3:=h.p3.rawCell 3;have v4:=h.p3.rawCell 4;simp at y0 y1 y2 y3 y4 v0 v1 v2 v3 v4;replace H:=Lib.hid h;clear h);go_roundw
      case rel=>
       obtain⟨hn2,hlb,hkb,hmb⟩:=hgd HER.out;subst hn2;refine⟨k+1,.slice qv (k+1) cv,xs++[.string (bb nm),.slice q lr.length cap],i3,acc++[⟨nm,lr,q,cap⟩],K3,hlt,by go_num,?_,?_,?_,?_,?_,?_,?_⟩
       · exact Lib.hid (by rw[List.length_append,←HAL.out];rfl)
       · exact Lib.hid (by rw[List.flatMap_append,HXS.out];rfl)
       · exact Lib.hid (by rw[List.map_append];have:=HP2.out;rw[←hlb]at this;exact this)
       · exact Lib.hid (Know.has_trans HK3.out HKK.out)
       · exact zq27
       · exact Lib.hid HS3.out
       · exact H.out
      case measure=>first|(simp[intOf];done)|(simp[intOf];omega)
  · rw[if_neg he0]at hstep;simp only[Prod.mk.injEq]at hstep;obtain⟨rfl,rfl⟩:=hstep;have gz:(er==0)=false:=by rw[beq_eq_false_iff_ne];exact he0
    have gz3:(er !=0)=true:=by simp[bne,gz]
    have HE0:=Lib.hid he0;clear he0 her;go_wp2_with fail;have hs:=H.out.drew;refine wp_region_held_drew (S:=fun _=>True) (by kernel_rfl) trivial (fun hHeld=> ?_);refine tQ 0 ⟨some 20,.fieldAddr 36 (.tmp 5) 3,0,_,_,none⟩ ?_;simp only[Act.put,sA,sB,sC];refine tQ 2 ⟨some 22,.move (.tmp 0),60,_,_,none⟩ ?_;simp only[Act.put,sA,sB,sC];refine wpAnyH_ready (rs:=[1,3]) (by kernel_rfl) (by simp) (AllReadyH.cons (o:=⟨some 21,.load 34 (.tmp 20),34,_,_,none⟩) rfl (fun KK hK=> ?_) (AllReadyH.cons (o:=⟨some 23,.call {callee:=.value (.func 175),args:= #[.tmp 22],argTypes:= #[60]},178,_,_,none⟩) rfl (fun KK hK=> ?_) AllReadyH.nil))
    focus
      have z1:=hs.p1.rawCell 4;simp at z1;go_simp;refine hK.out _ _ (trivial) (fun hHeld=> ?_);clear hK KK
      try simp only[Act.put,sA,sB,sC]
      clear z1;refine wpAnyH_ready (rs:=[3]) (by kernel_rfl) (by simp) (AllReadyH.cons (o:=⟨some 23,.call {callee:=.value (.func 175),args:= #[.tmp 22],argTypes:= #[60]},178,_,_,none⟩) rfl (fun KK hK=> ?_) AllReadyH.nil);go_simp;go_at_call 175;with_reducible refine(read_top p i2 i3 nm pl HX.out (by rw[HS.out];exact HDL.out) hs.p2).mono ?_;rintro e wq ⟨q,n2,cap,lr,K3,rfl,hk3,hgd,hs⟩;refine hK.out _ _ (trivial) (fun hHeld=> ?_);clear hK KK
      try simp only[Act.put,sA,sB,sC]
      have hs:=hs.p2.p2;refine wpAnyH_ready (rs:=[4]) (by kernel_rfl) (by simp) (AllReadyH.cons (o:=⟨some 24,.buildSlice 34 1 #[(0,.tmp 23)],34,_,_,none⟩) rfl (fun KK hK=> ?_) AllReadyH.nil);rw[if_pos (by rfl)];refine op_value (exec_buildT13 _ _ _ _ (by kernel_rfl) (buildTV13 (.string (bb nm)) (.slice q n2 cap) _)) ?_;obtain⟨wy,b2,ey,eb,hs⟩:=hs.allocEx #[.string (bb nm),.slice q n2 cap] 178;rw[ey,eb];clear ey eb;refine hK.out _ _ (trivial) (fun hHeld=> ?_);clear hK KK
      try simp only[Act.put,sA,sB,sC]
    rotate_left
    focus
      go_simp;go_at_call 175;with_reducible refine(read_top p i2 i3 nm pl HX.out (by rw[HS.out];exact HDL.out) hs.p2).mono ?_;rintro e wq ⟨q,n2,cap,lr,K3,rfl,hk3,hgd,hs⟩;refine hK.out _ _ (trivial) (fun hHeld=> ?_);clear hK KK
      try simp only[Act.put,sA,sB,sC]
      have hs:=hs.p2.p2;refine wpAnyH_ready (rs:=[1,4]) (by kernel_rfl) (by simp) (AllReadyH.cons (o:=⟨some 21,.load 34 (.tmp 20),34,_,_,none⟩) rfl (fun KK hK=> ?_) (AllReadyH.cons (o:=⟨some 24,.buildSlice 34 1 #[(0,.tmp 23)],34,_,_,none⟩) rfl (fun KK hK=> ?_) AllReadyH.nil))
      focus
       have z1:=hs.p1.rawCell 4;simp at z1;go_simp;refine hK.out _ _ (trivial) (fun hHeld=> ?_);clear hK KK
       try simp only[Act.put,sA,sB,sC]
       clear z1;refine wpAnyH_ready (rs:=[4]) (by kernel_rfl) (by simp) (AllReadyH.cons (o:=⟨some 24,.buildSlice 34 1 #[(0,.tmp 23)],34,_,_,none⟩) rfl (fun KK hK=> ?_) AllReadyH.nil);rw[if_pos (by rfl)];refine op_value (exec_buildT13 _ _ _ _ (by kernel_rfl) (buildTV13 (.string (bb nm)) (.slice q n2 cap) _)) ?_;obtain⟨wy,b2,ey,eb,hs⟩:=hs.allocEx #[.string (bb nm),.slice q n2 cap] 178;rw[ey,eb];clear ey eb;refine hK.out _ _ (trivial) (fun hHeld=> ?_);clear hK KK
       try simp only[Act.put,sA,sB,sC]
      rotate_left
      focus
       rw[if_pos (by rfl)];refine op_value (exec_buildT13 _ _ _ _ (by kernel_rfl) (buildTV13 (.string (bb nm)) (.slice q n2 cap) _)) ?_;obtain⟨wy,b2,ey,eb,hs⟩:=hs.allocEx #[.string (bb nm),.slice q n2 cap] 178;rw[ey,eb];clear ey eb;refine hK.out _ _ (trivial) (fun hHeld=> ?_);clear hK KK
       try simp only[Act.put,sA,sB,sC]
       refine wpAnyH_ready (rs:=[1]) (by kernel_rfl) (by simp) (AllReadyH.cons (o:=⟨some 21,.load 34 (.tmp 20),34,_,_,none⟩) rfl (fun KK hK=> ?_) AllReadyH.nil);have z1:=hs.p2.rawCell 4;simp at z1;go_simp;refine hK.out _ _ (trivial) (fun hHeld=> ?_);clear hK KK
       try simp only[Act.put,sA,sB,sC]
       clear z1
    all_goals
      refine wpAnyH_ready (rs:=[5]) (by kernel_rfl) (by simp) (AllReadyH.cons (o:=⟨some 25,.call {callee:=.builtin .append,args:= #[.tmp 21,.tmp 24],argTypes:= #[34,34]},34,_,_,none⟩) rfl (fun KK hK=> ?_) AllReadyH.nil);rw[if_pos (by rfl)];refine op_app1 (.tmp 21) (.tmp 24) 34 rfl 178 Tryz.underlying34 elem_topP _ _ _ (by rfl) b2 #[.string (bb nm),.slice q n2 cap] 178 hs (by rfl) rfl (by simp[Value.oneCell']) (by have:=HKN.out;unfold maxLen;omega) (by have:=HKN.out;omega) (fun v' w' h=> ?_);have hs:=h;clear h;obtain⟨qv,cv,hv⟩:=hs.rowAny;subst hv;refine hK.out _ _ (trivial) (fun hHeld=> ?_);clear hK KK
      try simp only[Act.put,sA,sB,sC]
      refine tQ 6 ⟨some 26,.fieldAddr 36 (.tmp 5) 3,0,_,_,none⟩ ?_;simp only[Act.put,sA,sB,sC];refine wpAnyH_ready (rs:=[7]) (by kernel_rfl) (by simp) (AllReadyH.cons (o:=⟨none,.store 34 (.tmp 26) (.tmp 25),0,_,_,none⟩) rfl (fun KK hK=> ?_) AllReadyH.nil);have hs:=hs.p1;have q1:=hs.rawFree 4;have z1:=hs.rawCell 4;simp at z1;rw[if_pos (by rfl)];refine op_skip (w':=w'.setCell ⟨tb,4,none⟩ (.slice qv (k+1) cv)) (by go_simp) ?_;obtain⟨wz,ez,hs⟩:=hs.setExP 4 (.slice qv (k+1) cv);rw[ez];clear ez q1 z1;have hs:=hs.p1;refine hK.out _ _ (trivial) (fun hHeld=> ?_);clear hK KK
      try simp only[Act.put]
      refine wpAnyH_done (by kernel_rfl) ?_ _;clear hHeld hgd;have HK3:=Lib.hid hk3;clear hk3;replace H:=Lib.hid hs;clear hs;go_wp2_with (go_at_call 22;(try clear y0 y1 y2 y3 y4 w0 w1 w2 w3 w4 v0 v1 v2 v3 v4);(with_reducible refine(p_err p i3 er HER.out H.out.p2).mono ?_);rintro e_ wn ⟨rfl,h⟩;have h:=h.p2.p2;have y0:=h.p1.rawCell 0;have y1:=h.p1.rawCell 1;have y2:=h.p1.rawCell 2;have y3:=h.p1.rawCell 3;have y4:=h.p1.rawCell 4;have w0:=h.p3.rawFree 0;have w1:=h.p3.rawFree 1;have w2:=h.p3.rawFree 2;have w3:=h.p3.rawFree 3;have w4:=h.p3.rawFree 4;have v0:=h.p3.rawCell 0;have v1:=h.p3.rawCell 1;have v2:=h.p3.rawCell 2;have v3:=h.p3.rawCell 3;have v4:=h.p3.rawCell 4;simp at y0 y1 y2 y3 y4 v0 v1 v2 v3 v4;replace H:=Lib.hid h;clear h);have hz:St W0 _ _ (.raw rb #[.bool false,.string ⟨#[]⟩,.int .i64 0,.int .i64 0,.slice none 0 0] 36::_):=St.sets5P _ _ _ _ _ H.out.p3;refine bodyPost_ret (rc_cell_onlyP rfl _ _ rb [.bool false,.string ⟨#[]⟩,.int .i64 0,.int .i64 0,.slice none 0 0] _ rfl (rc_rangeP hz) Tryz.underlying36 rfl (by kernel_rfl)) rfl ?_;exact .inl ⟨by rw[HER.out];exact HE0.out,K3,rfl,Know.has_trans HK3.out HKK.out,hz.drop.drop.drop⟩):p:=h
theorem zq8 {p:Prop}(h:p:=by
  have gz:(er==0)=false:=by rw[beq_eq_false_iff_ne];exact he0
  have gz3:(er !=0)=true:=by simp[bne,gz]
  have HE0:=Lib.hid he0;clear he0 her;go_wp2_with (go_at_call 22;(try clear y0 y1 y2 y3 y4 w0 w1 w2 w3 w4 v0 v1 v2 v3 v4);(with_reducible refine(p_err p i2 er HER.out H.out.p2).mono ?_);rintro e_ wn ⟨rfl,h⟩;have h:=h.p2.p2;have y0:=h.p1.rawCell 0;have y1:=h.p1.rawCell 1;have y2:=h.p1.rawCell 2;have y3:=h.p1.rawCell 3;have y4:=h.p1.rawCell 4;have w0:=h.p3.rawFree 0;have w1:=h.p3.rawFree 1;have w2:=h.p3.rawFree 2;have w3:=h.p3.rawFree 3;have w4:=h.p3.rawFree 4;have v0:=h.p3.rawCell 0;have v1:=h.p3.rawCell 1;have v2:=h.p3.rawCell 2;have v3:=h.p3.rawCell 3;have v4:=h.p3.rawCell 4;simp at y0 y1 y2 y3 y4 v0 v1 v2 v3 v4;replace H:=Lib.hid h;clear h);have hz:St W0 _ _ (.raw rb #[.bool false,.string ⟨#[]⟩,.int .i64 0,.int .i64 0,.slice none 0 0] 36::_):=St.sets5P _ _ _ _ _ H.out.p3;refine bodyPost_ret (rc_cell_onlyP rfl _ _ rb [.bool false,.string ⟨#[]⟩,.int .i64 0,.int .i64 0,.slice none 0 0] _ rfl (rc_rangeP hz) Tryz.underlying36 rfl (by kernel_rfl)) rfl ?_;exact .inl ⟨by rw[HER.out];exact HE0.out,K2,rfl,HKK.out,hz.drop.drop.drop⟩):p:=h
theorem zq20 {p:Prop}(h:p:=by refine⟨0,.slice none 0 0,[],c,[],K,Nat.zero_le _,rfl,Lib.hid rfl,Lib.hid rfl,Lib.hid HX0.out,Lib.hid (Know.has_refl _),Lib.hid (fun x hx=>by cases hx),Lib.hid HS0.out,?_⟩;exact(H.out.p1.nilRow 178 2)):p:=h
theorem zq24 {p:Prop}(h:p:=by have h9:=ptopsN_ok (M:=i.s.length) n [] c (by rw[hs0];exact Nat.le_refl _) (fun x hx=>by cases hx);rw[h5,List.length_nil]at h9;exact⟨Nat.le_trans h9.1 (by omega),h9.2⟩):p:=h
set_option maxHeartbeats 8000000 in
set_option maxRecDepth 100000 in
theorem read_req_false (p:Nat) (v:Int) (i i1 i2 i3 c j:InS) (dd:Bs) (ac tm:Int) (n:Nat) (ts:List (Bs×List (Int×List BatS))) (h1:i.fixed 2=(⟨false,dd⟩,i1)) (h2:i1.int 2=(ac,i2)) (h3:i2.int 4=(tm,i3)) (h4:i3.cnt 6=(n,c)) (h5:InS.ptopsN n [] c=(ts,j)) (hd:i.s.length≤1000000){W0 w:World}{K:Know}{L:List Res}(h:St W0 w K (.inp p i::L)):
  Calls Tryz.prog 118 #[inPtr p,.int .i64 v] w fun en w'=>(j.err≠0∧∃K2:Know,en=.returned (.agg #[.bool false,.string ⟨#[]⟩,.int .i64 0,.int .i64 0,.slice none 0 0])∧K2.has K∧St W0 w' K2 (.inp p j::L))∨(j.err=0∧∃(q:Option Addr) (cap:Nat) (lr:List PTop) (K2:Know),K2.has K∧lr.map PTop.pt=ts∧(∀x∈lr,CkT x)∧lr.length≤1000000∧(∀x∈lr,PtOk i.s.length x.pt∧∀y∈x.l,∀z∈y.l,z.l.map (·.1)=z.b.recs)∧((errReq ⟨false,dd⟩ ac tm v lr=0∧en=.returned (.agg #[.bool false,.string (bb dd),.int .i64 ac,.int .i64 tm,.slice q lr.length cap])∧K2.has (Know.ptops (.slice q lr.length cap) lr)∧St W0 w' K2 (.inp p j::L))∨(errReq ⟨false,dd⟩ ac tm v lr≠0∧en=.returned (.agg #[.bool false,.string ⟨#[]⟩,.int .i64 0,.int .i64 0,.slice none 0 0])∧St W0 w' K2 (.inp p (j.fail (errReq ⟨false,dd⟩ ac tm v lr))::L)))):=by
 have s1:i1.s=i.s:=by have:=(fixed_s12 i 2).1;rw[h1]at this;exact this
 have s2:i2.s=i1.s:=by have:=int_s12 i1 2;rw[h2]at this;exact this
 have s3:i3.s=i2.s:=by have:=int_s12 i2 4;rw[h3]at this;exact this
 have s4:c.s=i3.s:=by have:=cnt_s12 i3 6;rw[h4]at this;exact this
 have hs0:c.s=i.s:=by rw[s4,s3,s2,s1]
 have hn9:n≤1000000:=by have h9:=cnt_le13 i3 6 (by decide);rw[h4,s3,s2,s1]at h9;exact Nat.le_trans h9 hd
 have hok:ts.length≤1000000∧∀x∈ts,PtOk i.s.length x:=by
  exact zq24
 have hdd:dd.length≤140737488355328:=by have h9:=(fixed_s12 i 2).2;rw[h1]at h9;have h9:dd.length≤i.s.length:=h9;omega
 obtain⟨rb,hrb⟩:∃b,w.heap.size=b:=⟨_,rfl⟩;obtain⟨tb,htb⟩:∃b,rb+1=b:=⟨_,rfl⟩;have g1:=((h.allocRaw #[.bool false,.string ⟨#[]⟩,.int .i64 0,.int .i64 0,.slice none 0 0] 36).allocRaw #[.bool false,.string ⟨#[]⟩,.int .i64 0,.int .i64 0,.slice none 0 0] 36).p2;simp only[World.size_alloc,hrb,htb]at g1;have H:=Lib.hid g1;have H1:=Lib.hid h1;have H2:=Lib.hid h2;have H3:=Lib.hid h3;have H4:=Lib.hid h4;have HX0:=Lib.hid h5;have HS0:=Lib.hid hs0;have HDL:=Lib.hid hd;have HOK:=Lib.hid hok;have HDD:=Lib.hid hdd;have HNL:=Lib.hid hn9;have hni:(n:Int)≤1000000:=by omega
 clear h g1 h1 h2 h3 h4 h5 hd hs0 hok hdd hn9 s1 s2 s3 s4;go_enter Tryz.func118,Tryz.ntmps118
 go_wp2_with (first
  |(go_at_call 117;(try clear x0 x1 x2 x3);(with_reducible refine(p_fixed p i i1 2 false dd H1.out H.out).mono ?_);rintro e_ wn ⟨rfl,h⟩;have h:=h.p1;have x0:=h.rawFree 0;have x1:=h.rawCell 0;have x2:=h.rawFree 1;have x3:=h.rawCell 1;simp at x1 x3;have h:=(show St W0 ((wn.setCell ⟨tb,0,none⟩ (.bool false)).setCell ⟨tb,1,none⟩ (.string (bb dd))) K (.inp p i1::.raw tb #[.bool false,.string (bb dd),.int .i64 0,.int .i64 0,.slice none 0 0] 36::.raw rb #[.bool false,.string ⟨#[]⟩,.int .i64 0,.int .i64 0,.slice none 0 0] 36::L)from((h.rawSet 0 (.bool false)).rawSet 1 (.string (bb dd))).p1);replace H:=Lib.hid h;clear h)
  |(go_at_call 66;(try clear x0 x1 x2 x3);(with_reducible refine(p_int p i1 i2 ac 2 H2.out H.out).mono ?_);rintro e_ wn ⟨rfl,h⟩;have h:=h.p1;have x0:=h.rawFree 2;have x1:=h.rawCell 2;simp at x1;have h:=(show St W0 (wn.setCell ⟨tb,2,none⟩ (.int .i64 ac)) K (.inp p i2::.raw tb #[.bool false,.string (bb dd),.int .i64 ac,.int .i64 0,.slice none 0 0] 36::.raw rb #[.bool false,.string ⟨#[]⟩,.int .i64 0,.int .i64 0,.slice none 0 0] 36::L)from(h.rawSet 2 (.int .i64 ac)).p1);replace H:=Lib.hid h;clear h)
  |(go_at_call 66;(try clear x0 x1 x2 x3);(with_reducible refine(p_int p i2 i3 tm 4 H3.out H.out).mono ?_);rintro e_ wn ⟨rfl,h⟩;have h:=h.p1;have x0:=h.rawFree 3;have x1:=h.rawCell 3;simp at x1;have h:=(show St W0 (wn.setCell ⟨tb,3,none⟩ (.int .i64 tm)) K (.inp p i3::.raw tb #[.bool false,.string (bb dd),.int .i64 ac,.int .i64 tm,.slice none 0 0] 36::.raw rb #[.bool false,.string ⟨#[]⟩,.int .i64 0,.int .i64 0,.slice none 0 0] 36::L)from(h.rawSet 3 (.int .i64 tm)).p1);replace H:=Lib.hid h;clear h)
  |(go_at_call 174;(try clear x0 x1 x2 x3);(with_reducible refine(p_cnt p i3 c 6 n 6 rfl H4.out H.out).mono ?_);rintro e_ wn ⟨rfl,h⟩;replace H:=Lib.hid h;clear h))
 go_loopw [18] (fun iv wr=>∃(k:Nat) (v:Value) (xs:List Value) (i2:InS) (acc:List PTop) (K2:Know),k≤n∧iv=.int .i64 k∧Hid (k=acc.length)∧Hid (xs=acc.flatMap ptcells)∧Hid (InS.ptopsN (n - k) (acc.map PTop.pt) i2=(ts,j))∧Hid (K2.has K)∧Hid (∀x∈acc,K2.has (Know.pparts (.slice x.q x.l.length x.cap) x.l)∧∀y∈x.l,∀z∈y.l,z.l.map (·.1)=z.b.recs)∧Hid (i2.s=i.s)∧St W0 wr K2 (.row v 178 2 k xs::.raw tb #[.bool false,.string (bb dd),.int .i64 ac,.int .i64 tm,v] 36::.inp p i2::.raw rb #[.bool false,.string ⟨#[]⟩,.int .i64 0,.int .i64 0,.slice none 0 0] 36::L)) (fun iv _=>n - (intOf iv).toNat)
 case atStart=>
  exact zq20
 case round=>
  obtain⟨k,v9,xs,i2,acc,K2,hk,rfl,HAL,HXS,HP,HKK,HALL,HS,hst⟩:=hrel;clear H;obtain⟨qv0,cv0,hv0⟩:=hst.rowAny;subst hv0;have H:=Lib.hid hst;clear hst
  by_cases hlt:k<n
  · exact zq3
  · obtain rfl:k=n:=by omega
    have hp:=HP.out;rw[Nat.sub_self]at hp;have hp:(acc.map PTop.pt,i2)=(ts,j):=hp;simp only[Prod.mk.injEq]at hp;obtain⟨hpl,rfl⟩:=hp;have HPL:=Lib.hid hpl;have HLL:=Lib.hid (show acc.length≤1000000 by have h9:=HOK.out.1;rw[←hpl,List.length_map]at h9;exact h9);have HCK:=Lib.hid (show ∀x∈acc,CkT x from fun x hx=>ck_top HDL.out x (HOK.out.2 x.pt (by rw[←hpl];exact List.mem_map_of_mem hx)) (HALL.out x hx).2);have HOT:=Lib.hid (show ∀x∈acc,PtOk i.s.length x.pt∧∀y∈x.l,∀z∈y.l,z.l.map (·.1)=z.b.recs from fun x hx=>⟨HOK.out.2 x.pt (by rw[←hpl];exact List.mem_map_of_mem hx),(HALL.out x hx).2⟩);clear hpl;obtain⟨er,her⟩:∃er,i2.err=er:=⟨_,rfl⟩;have HER:=Lib.hid her
    by_cases he0:er=0
    · subst he0;clear her;have hf:=H.out.freezeTopsK HAL.out HXS.out (fun x hx=>(HALL.out x hx).1);have HK9:=Lib.hid (show(K2.and (Know.ptops (.slice qv0 k cv0) acc)).has (Know.ptops (.slice qv0 k cv0) acc)from Know.has_right (Know.has_refl _));have HK8:=Lib.hid (show(K2.and (Know.ptops (.slice qv0 k cv0) acc)).has K from Know.has_trans (Know.has_left (Know.has_refl _)) HKK.out);clear H;have H:=Lib.hid hf;clear hf;obtain⟨e,he⟩:∃e,errReq ⟨false,dd⟩ ac tm v acc=e:=⟨_,rfl⟩;have HE:=Lib.hid he
      by_cases h0:e=0
      · subst h0;clear he
        go_wp2_with (first
  |(go_at_call 22;(try clear y0 y1 y2 y3 y4 w0 w1 w2 w3 w4 v0 v1 v2 v3 v4);(with_reducible refine(p_err p i2 0 HER.out H.out.p1).mono ?_);rintro e_ wn ⟨rfl,h⟩;have h:=h.p1;have y0:=h.rawCell 0;have y1:=h.rawCell 1;have y2:=h.rawCell 2;have y3:=h.rawCell 3;have y4:=h.rawCell 4;have w0:=h.p2.rawFree 0;have w1:=h.p2.rawFree 1;have w2:=h.p2.rawFree 2;have w3:=h.p2.rawFree 3;have w4:=h.p2.rawFree 4;have v0:=h.p2.rawCell 0;have v1:=h.p2.rawCell 1;have v2:=h.p2.rawCell 2;have v3:=h.p2.rawCell 3;have v4:=h.p2.rawCell 4;simp at y0 y1 y2 y3 y4 v0 v1 v2 v3 v4;replace H:=Lib.hid h;clear h)
  |(go_at_call 152;(try clear y0 y1 y2 y3 y4 w0 w1 w2 w3 w4 v0 v1 v2 v3 v4);(with_reducible refine(preq_checkK false dd ac tm v acc qv0 cv0 k HAL.out HDD.out HCK.out (Nat.le_trans HLL.out (by decide)) 0 HE.out HK9.out H.out).mono ?_);rintro e_ wn ⟨rfl,h⟩;have y0:=h.rawCell 0;have y1:=h.rawCell 1;have y2:=h.rawCell 2;have y3:=h.rawCell 3;have y4:=h.rawCell 4;have w0:=h.p2.rawFree 0;have w1:=h.p2.rawFree 1;have w2:=h.p2.rawFree 2;have w3:=h.p2.rawFree 3;have w4:=h.p2.rawFree 4;have v0:=h.p2.rawCell 0;have v1:=h.p2.rawCell 1;have v2:=h.p2.rawCell 2;have v3:=h.p2.rawCell 3;have v4:=h.p2.rawCell 4;simp at y0 y1 y2 y3 y4 v0 v1 v2 v3 v4;replace H:=Lib.hid h;clear h))
        have hz:St W0 _ _ (.raw rb #[.bool false,.string (bb dd),.int .i64 ac,.int .i64 tm,.slice qv0 k cv0] 36::_):=St.sets5P _ _ _ _ _ H.out.p2;refine bodyPost_ret (rc_cell_onlyP rfl _ _ rb [.bool false,.string (bb dd),.int .i64 ac,.int .i64 tm,.slice qv0 k cv0] _ rfl (rc_rangeP hz) Tryz.underlying36 rfl (by kernel_rfl)) rfl ?_;have hn:=HAL.out;subst hn;exact .inr ⟨HER.out,qv0,cv0,acc,_,HK8.out,HPL.out,HCK.out,HLL.out,HOT.out,.inl ⟨HE.out,rfl,HK9.out,hz.drop.drop⟩⟩
      · have gz:(e==0)=false:=by rw[beq_eq_false_iff_ne];exact h0
        have gz3:(e !=0)=true:=by simp[bne,gz]
        have HE0:=Lib.hid h0;obtain⟨j2,hj2⟩:∃j2,i2.fail e=j2:=⟨_,rfl⟩;have HF:=Lib.hid hj2;have HER2:=Lib.hid (show j2.err=e by rw[←hj2];unfold InS.fail;rw[if_pos HER.out]);clear h0 he hj2
        go_wp2_with (first
  |(go_at_call 22;(try clear y0 y1 y2 y3 y4 w0 w1 w2 w3 w4 v0 v1 v2 v3 v4);(with_reducible refine(p_err p i2 0 HER.out H.out.p1).mono ?_);rintro e_ wn ⟨rfl,h⟩;have h:=h.p1;have y0:=h.rawCell 0;have y1:=h.rawCell 1;have y2:=h.rawCell 2;have y3:=h.rawCell 3;have y4:=h.rawCell 4;have w0:=h.p2.rawFree 0;have w1:=h.p2.rawFree 1;have w2:=h.p2.rawFree 2;have w3:=h.p2.rawFree 3;have w4:=h.p2.rawFree 4;have v0:=h.p2.rawCell 0;have v1:=h.p2.rawCell 1;have v2:=h.p2.rawCell 2;have v3:=h.p2.rawCell 3;have v4:=h.p2.rawCell 4;simp at y0 y1 y2 y3 y4 v0 v1 v2 v3 v4;replace H:=Lib.hid h;clear h)
  |(go_at_call 152;(try clear y0 y1 y2 y3 y4 w0 w1 w2 w3 w4 v0 v1 v2 v3 v4);(with_reducible refine(preq_checkK false dd ac tm v acc qv0 cv0 k HAL.out HDD.out HCK.out (Nat.le_trans HLL.out (by decide)) e HE.out HK9.out H.out).mono ?_);rintro e_ wn ⟨rfl,h⟩;have y0:=h.rawCell 0;have y1:=h.rawCell 1;have y2:=h.rawCell 2;have y3:=h.rawCell 3;have y4:=h.rawCell 4;have w0:=h.p2.rawFree 0;have w1:=h.p2.rawFree 1;have w2:=h.p2.rawFree 2;have w3:=h.p2.rawFree 3;have w4:=h.p2.rawFree 4;have v0:=h.p2.rawCell 0;have v1:=h.p2.rawCell 1;have v2:=h.p2.rawCell 2;have v3:=h.p2.rawCell 3;have v4:=h.p2.rawCell 4;simp at y0 y1 y2 y3 y4 v0 v1 v2 v3 v4;replace H:=Lib.hid h;clear h)
  |(go_at_call 70;(try clear y0 y1 y2 y3 y4 w0 w1 w2 w3 w4 v0 v1 v2 v3 v4);(with_reducible refine(p_fail p i2 j2 e HF.out H.out.p1).mono ?_);rintro e_ wn ⟨rfl,h⟩;have h:=h.p1;have y0:=h.rawCell 0;have y1:=h.rawCell 1;have y2:=h.rawCell 2;have y3:=h.rawCell 3;have y4:=h.rawCell 4;have w0:=h.p2.rawFree 0;have w1:=h.p2.rawFree 1;have w2:=h.p2.rawFree 2;have w3:=h.p2.rawFree 3;have w4:=h.p2.rawFree 4;have v0:=h.p2.rawCell 0;have v1:=h.p2.rawCell 1;have v2:=h.p2.rawCell 2;have v3:=h.p2.rawCell 3;have v4:=h.p2.rawCell 4;simp at y0 y1 y2 y3 y4 v0 v1 v2 v3 v4;replace H:=Lib.hid h;clear h)
  |(go_at_call 22;(try clear y0 y1 y2 y3 y4 w0 w1 w2 w3 w4 v0 v1 v2 v3 v4);(with_reducible refine(p_err p j2 e HER2.out H.out.p1).mono ?_);rintro e_ wn ⟨rfl,h⟩;have h:=h.p1;have y0:=h.rawCell 0;have y1:=h.rawCell 1;have y2:=h.rawCell 2;have y3:=h.rawCell 3;have y4:=h.rawCell 4;have w0:=h.p2.rawFree 0;have w1:=h.p2.rawFree 1;have w2:=h.p2.rawFree 2;have w3:=h.p2.rawFree 3;have w4:=h.p2.rawFree 4;have v0:=h.p2.rawCell 0;have v1:=h.p2.rawCell 1;have v2:=h.p2.rawCell 2;have v3:=h.p2.rawCell 3;have v4:=h.p2.rawCell 4;simp at y0 y1 y2 y3 y4 v0 v1 v2 v3 v4;replace H:=Lib.hid h;clear h))
        have hz:St W0 _ _ (.raw rb #[.bool false,.string ⟨#[]⟩,.int .i64 0,.int .i64 0,.slice none 0 0] 36::_):=St.sets5P _ _ _ _ _ H.out.p2;refine bodyPost_ret (rc_cell_onlyP rfl _ _ rb [.bool false,.string ⟨#[]⟩,.int .i64 0,.int .i64 0,.slice none 0 0] _ rfl (rc_rangeP hz) Tryz.underlying36 rfl (by kernel_rfl)) rfl ?_;exact .inr ⟨HER.out,qv0,cv0,acc,_,HK8.out,HPL.out,HCK.out,HLL.out,HOT.out,.inr ⟨by rw[HE.out];exact HE0.out,rfl,by rw[HE.out,HF.out];exact hz.drop.drop⟩⟩
    · exact zq8

set_option maxHeartbeats 8000000 in
set_option maxRecDepth 100000 in
theorem read_req_true (p:Nat) (v:Int) (i i1 i2 i3 c j:InS) (dd:Bs) (ac tm:Int) (n:Nat) (ts:List (Bs×List (Int×List BatS))) (h1:i.fixed 2=(⟨true,dd⟩,i1)) (h2:i1.int 2=(ac,i2)) (h3:i2.int 4=(tm,i3)) (h4:i3.cnt 6=(n,c)) (h5:InS.ptopsN n [] c=(ts,j)) (hd:i.s.length≤1000000){W0 w:World}{K:Know}{L:List Res}(h:St W0 w K (.inp p i::L)):
  Calls Tryz.prog 118 #[inPtr p,.int .i64 v] w fun en w'=>(j.err≠0∧∃K2:Know,en=.returned (.agg #[.bool false,.string ⟨#[]⟩,.int .i64 0,.int .i64 0,.slice none 0 0])∧K2.has K∧St W0 w' K2 (.inp p j::L))∨(j.err=0∧∃(q:Option Addr) (cap:Nat) (lr:List PTop) (K2:Know),K2.has K∧lr.map PTop.pt=ts∧(∀x∈lr,CkT x)∧lr.length≤1000000∧(∀x∈lr,PtOk i.s.length x.pt∧∀y∈x.l,∀z∈y.l,z.l.map (·.1)=z.b.recs)∧((errReq ⟨true,dd⟩ ac tm v lr=0∧en=.returned (.agg #[.bool true,.string (bb dd),.int .i64 ac,.int .i64 tm,.slice q lr.length cap])∧K2.has (Know.ptops (.slice q lr.length cap) lr)∧St W0 w' K2 (.inp p j::L))∨(errReq ⟨true,dd⟩ ac tm v lr≠0∧en=.returned (.agg #[.bool false,.string ⟨#[]⟩,.int .i64 0,.int .i64 0,.slice none 0 0])∧St W0 w' K2 (.inp p (j.fail (errReq ⟨true,dd⟩ ac tm v lr))::L)))):=by
 have s1:i1.s=i.s:=by have:=(fixed_s12 i 2).1;rw[h1]at this;exact this
 have s2:i2.s=i1.s:=by have:=int_s12 i1 2;rw[h2]at this;exact this
 have s3:i3.s=i2.s:=by have:=int_s12 i2 4;rw[h3]at this;exact this
 have s4:c.s=i3.s:=by have:=cnt_s12 i3 6;rw[h4]at this;exact this
 have hs0:c.s=i.s:=by rw[s4,s3,s2,s1]
 have hn9:n≤1000000:=by have h9:=cnt_le13 i3 6 (by decide);rw[h4,s3,s2,s1]at h9;exact Nat.le_trans h9 hd
 have hok:ts.length≤1000000∧∀x∈ts,PtOk i.s.length x:=by
  exact zq24
 have hdd:dd.length≤140737488355328:=by have h9:=(fixed_s12 i 2).2;rw[h1]at h9;have h9:dd.length≤i.s.length:=h9;omega
 obtain⟨rb,hrb⟩:∃b,w.heap.size=b:=⟨_,rfl⟩;obtain⟨tb,htb⟩:∃b,rb+1=b:=⟨_,rfl⟩;have g1:=((h.allocRaw #[.bool false,.string ⟨#[]⟩,.int .i64 0,.int .i64 0,.slice none 0 0] 36).allocRaw #[.bool false,.string ⟨#[]⟩,.int .i64 0,.int .i64 0,.slice none 0 0] 36).p2;simp only[World.size_alloc,hrb,htb]at g1;have H:=Lib.hid g1;have H1:=Lib.hid h1;have H2:=Lib.hid h2;have H3:=Lib.hid h3;have H4:=Lib.hid h4;have HX0:=Lib.hid h5;have HS0:=Lib.hid hs0;have HDL:=Lib.hid hd;have HOK:=Lib.hid hok;have HDD:=Lib.hid hdd;have HNL:=Lib.hid hn9;have hni:(n:Int)≤1000000:=by omega
 clear h g1 h1 h2 h3 h4 h5 hd hs0 hok hdd hn9 s1 s2 s3 s4;go_enter Tryz.func118,Tryz.ntmps118
 go_wp2_with (first
  |(go_at_call 117;(try clear x0 x1 x2 x3);(with_reducible refine(p_fixed p i i1 2 true dd H1.out H.out).mono ?_);rintro e_ wn ⟨rfl,h⟩;have h:=h.p1;have x0:=h.rawFree 0;have x1:=h.rawCell 0;have x2:=h.rawFree 1;have x3:=h.rawCell 1;simp at x1 x3;have h:=(show St W0 ((wn.setCell ⟨tb,0,none⟩ (.bool true)).setCell ⟨tb,1,none⟩ (.string (bb dd))) K (.inp p i1::.raw tb #[.bool true,.string (bb dd),.int .i64 0,.int .i64 0,.slice none 0 0] 36::.raw rb #[.bool false,.string ⟨#[]⟩,.int .i64 0,.int .i64 0,.slice none 0 0] 36::L)from((h.rawSet 0 (.bool true)).rawSet 1 (.string (bb dd))).p1);replace H:=Lib.hid h;clear h)
  |(go_at_call 66;(try clear x0 x1 x2 x3);(with_reducible refine(p_int p i1 i2 ac 2 H2.out H.out).mono ?_);rintro e_ wn ⟨rfl,h⟩;have h:=h.p1;have x0:=h.rawFree 2;have x1:=h.rawCell 2;simp at x1;have h:=(show St W0 (wn.setCell ⟨tb,2,none⟩ (.int .i64 ac)) K (.inp p i2::.raw tb #[.bool true,.string (bb dd),.int .i64 ac,.int .i64 0,.slice none 0 0] 36::.raw rb #[.bool false,.string ⟨#[]⟩,.int .i64 0,.int .i64 0,.slice none 0 0] 36::L)from(h.rawSet 2 (.int .i64 ac)).p1);replace H:=Lib.hid h;clear h)
  |(go_at_call 66;(try clear x0 x1 x2 x3);(with_reducible refine(p_int p i2 i3 tm 4 H3.out H.out).mono ?_);rintro e_ wn ⟨rfl,h⟩;have h:=h.p1;have x0:=h.rawFree 3;have x1:=h.rawCell 3;simp at x1;have h:=(show St W0 (wn.setCell ⟨tb,3,none⟩ (.int .i64 tm)) K (.inp p i3::.raw tb #[.bool true,.string (bb dd),.int .i64 ac,.int .i64 tm,.slice none 0 0] 36::.raw rb #[.bool false,.string ⟨#[]⟩,.int .i64 0,.int .i64 0,.slice none 0 0] 36::L)from(h.rawSet 3 (.int .i64 tm)).p1);replace H:=Lib.hid h;clear h)
  |(go_at_call 174;(try clear x0 x1 x2 x3);(with_reducible refine(p_cnt p i3 c 6 n 6 rfl H4.out H.out).mono ?_);rintro e_ wn ⟨rfl,h⟩;replace H:=Lib.hid h;clear h))
 go_loopw [18] (fun iv wr=>∃(k:Nat) (v:Value) (xs:List Value) (i2:InS) (acc:List PTop) (K2:Know),k≤n∧iv=.int .i64 k∧Hid (k=acc.length)∧Hid (xs=acc.flatMap ptcells)∧Hid (InS.ptopsN (n - k) (acc.map PTop.pt) i2=(ts,j))∧Hid (K2.has K)∧Hid (∀x∈acc,K2.has (Know.pparts (.slice x.q x.l.length x.cap) x.l)∧∀y∈x.l,∀z∈y.l,z.l.map (·.1)=z.b.recs)∧Hid (i2.s=i.s)∧St W0 wr K2 (.row v 178 2 k xs::.raw tb #[.bool true,.string (bb dd),.int .i64 ac,.int .i64 tm,v] 36::.inp p i2::.raw rb #[.bool false,.string ⟨#[]⟩,.int .i64 0,.int .i64 0,.slice none 0 0] 36::L)) (fun iv _=>n - (intOf iv).toNat)
 case atStart=>
  exact zq20
 case round=>
  obtain⟨k,v9,xs,i2,acc,K2,hk,rfl,HAL,HXS,HP,HKK,HALL,HS,hst⟩:=hrel;clear H;obtain⟨qv0,cv0,hv0⟩:=hst.rowAny;subst hv0;have H:=Lib.hid hst;clear hst
  by_cases hlt:k<n
  · exact zq3
  · obtain rfl:k=n:=by omega
    have hp:=HP.out;rw[Nat.sub_self]at hp;have hp:(acc.map PTop.pt,i2)=(ts,j):=hp;simp only[Prod.mk.injEq]at hp;obtain⟨hpl,rfl⟩:=hp;have HPL:=Lib.hid hpl;have HLL:=Lib.hid (show acc.length≤1000000 by have h9:=HOK.out.1;rw[←hpl,List.length_map]at h9;exact h9);have HCK:=Lib.hid (show ∀x∈acc,CkT x from fun x hx=>ck_top HDL.out x (HOK.out.2 x.pt (by rw[←hpl];exact List.mem_map_of_mem hx)) (HALL.out x hx).2);have HOT:=Lib.hid (show ∀x∈acc,PtOk i.s.length x.pt∧∀y∈x.l,∀z∈y.l,z.l.map (·.1)=z.b.recs from fun x hx=>⟨HOK.out.2 x.pt (by rw[←hpl];exact List.mem_map_of_mem hx),(HALL.out x hx).2⟩);clear hpl;obtain⟨er,her⟩:∃er,i2.err=er:=⟨_,rfl⟩;have HER:=Lib.hid her
    by_cases he0:er=0
    · subst he0;clear her;have hf:=H.out.freezeTopsK HAL.out HXS.out (fun x hx=>(HALL.out x hx).1);have HK9:=Lib.hid (show(K2.and (Know.ptops (.slice qv0 k cv0) acc)).has (Know.ptops (.slice qv0 k cv0) acc)from Know.has_right (Know.has_refl _));have HK8:=Lib.hid (show(K2.and (Know.ptops (.slice qv0 k cv0) acc)).has K from Know.has_trans (Know.has_left (Know.has_refl _)) HKK.out);clear H;have H:=Lib.hid hf;clear hf;obtain⟨e,he⟩:∃e,errReq ⟨true,dd⟩ ac tm v acc=e:=⟨_,rfl⟩;have HE:=Lib.hid he
      by_cases h0:e=0
      · subst h0;clear he
        go_wp2_with (first
  |(go_at_call 22;(try clear y0 y1 y2 y3 y4 w0 w1 w2 w3 w4 v0 v1 v2 v3 v4);(with_reducible refine(p_err p i2 0 HER.out H.out.p1).mono ?_);rintro e_ wn ⟨rfl,h⟩;have h:=h.p1;have y0:=h.rawCell 0;have y1:=h.rawCell 1;have y2:=h.rawCell 2;have y3:=h.rawCell 3;have y4:=h.rawCell 4;have w0:=h.p2.rawFree 0;have w1:=h.p2.rawFree 1;have w2:=h.p2.rawFree 2;have w3:=h.p2.rawFree 3;have w4:=h.p2.rawFree 4;have v0:=h.p2.rawCell 0;have v1:=h.p2.rawCell 1;have v2:=h.p2.rawCell 2;have v3:=h.p2.rawCell 3;have v4:=h.p2.rawCell 4;simp at y0 y1 y2 y3 y4 v0 v1 v2 v3 v4;replace H:=Lib.hid h;clear h)
  |(go_at_call 152;(try clear y0 y1 y2 y3 y4 w0 w1 w2 w3 w4 v0 v1 v2 v3 v4);(with_reducible refine(preq_checkK true dd ac tm v acc qv0 cv0 k HAL.out HDD.out HCK.out (Nat.le_trans HLL.out (by decide)) 0 HE.out HK9.out H.out).mono ?_);rintro e_ wn ⟨rfl,h⟩;have y0:=h.rawCell 0;have y1:=h.rawCell 1;have y2:=h.rawCell 2;have y3:=h.rawCell 3;have y4:=h.rawCell 4;have w0:=h.p2.rawFree 0;have w1:=h.p2.rawFree 1;have w2:=h.p2.rawFree 2;have w3:=h.p2.rawFree 3;have w4:=h.p2.rawFree 4;have v0:=h.p2.rawCell 0;have v1:=h.p2.rawCell 1;have v2:=h.p2.rawCell 2;have v3:=h.p2.rawCell 3;have v4:=h.p2.rawCell 4;simp at y0 y1 y2 y3 y4 v0 v1 v2 v3 v4;replace H:=Lib.hid h;clear h))
        have hz:St W0 _ _ (.raw rb #[.bool true,.string (bb dd),.int .i64 ac,.int .i64 tm,.slice qv0 k cv0] 36::_):=St.sets5P _ _ _ _ _ H.out.p2;refine bodyPost_ret (rc_cell_onlyP rfl _ _ rb [.bool true,.string (bb dd),.int .i64 ac,.int .i64 tm,.slice qv0 k cv0] _ rfl (rc_rangeP hz) Tryz.underlying36 rfl (by kernel_rfl)) rfl ?_;have hn:=HAL.out;subst hn;exact .inr ⟨HER.out,qv0,cv0,acc,_,HK8.out,HPL.out,HCK.out,HLL.out,HOT.out,.inl ⟨HE.out,rfl,HK9.out,hz.drop.drop⟩⟩
      · have gz:(e==0)=false:=by rw[beq_eq_false_iff_ne];exact h0
        have gz3:(e !=0)=true:=by simp[bne,gz]
        have HE0:=Lib.hid h0;obtain⟨j2,hj2⟩:∃j2,i2.fail e=j2:=⟨_,rfl⟩;have HF:=Lib.hid hj2;have HER2:=Lib.hid (show j2.err=e by rw[←hj2];unfold InS.fail;rw[if_pos HER.out]);clear h0 he hj2
        go_wp2_with (first
  |(go_at_call 22;(try clear y0 y1 y2 y3 y4 w0 w1 w2 w3 w4 v0 v1 v2 v3 v4);(with_reducible refine(p_err p i2 0 HER.out H.out.p1).mono ?_);rintro e_ wn ⟨rfl,h⟩;have h:=h.p1;have y0:=h.rawCell 0;have y1:=h.rawCell 1;have y2:=h.rawCell 2;have y3:=h.rawCell 3;have y4:=h.rawCell 4;have w0:=h.p2.rawFree 0;have w1:=h.p2.rawFree 1;have w2:=h.p2.rawFree 2;have w3:=h.p2.rawFree 3;have w4:=h.p2.rawFree 4;have v0:=h.p2.rawCell 0;have v1:=h.p2.rawCell 1;have v2:=h.p2.rawCell 2;have v3:=h.p2.rawCell 3;have v4:=h.p2.rawCell 4;simp at y0 y1 y2 y3 y4 v0 v1 v2 v3 v4;replace H:=Lib.hid h;clear h)
  |(go_at_call 152;(try clear y0 y1 y2 y3 y4 w0 w1 w2 w3 w4 v0 v1 v2 v3 v4);(with_reducible refine(preq_checkK true dd ac tm v acc qv0 cv0 k HAL.out HDD.out HCK.out (Nat.le_trans HLL.out (by decide)) e HE.out HK9.out H.out).mono ?_);rintro e_ wn ⟨rfl,h⟩;have y0:=h.rawCell 0;have y1:=h.rawCell 1;have y2:=h.rawCell 2;have y3:=h.rawCell 3;have y4:=h.rawCell 4;have w0:=h.p2.rawFree 0;have w1:=h.p2.rawFree 1;have w2:=h.p2.rawFree 2;have w3:=h.p2.rawFree 3;have w4:=h.p2.rawFree 4;have v0:=h.p2.rawCell 0;have v1:=h.p2.rawCell 1;have v2:=h.p2.rawCell 2;have v3:=h.p2.rawCell 3;have v4:=h.p2.rawCell 4;simp at y0 y1 y2 y3 y4 v0 v1 v2 v3 v4;replace H:=Lib.hid h;clear h)
  |(go_at_call 70;(try clear y0 y1 y2 y3 y4 w0 w1 w2 w3 w4 v0 v1 v2 v3 v4);(with_reducible refine(p_fail p i2 j2 e HF.out H.out.p1).mono ?_);rintro e_ wn ⟨rfl,h⟩;have h:=h.p1;have y0:=h.rawCell 0;have y1:=h.rawCell 1;have y2:=h.rawCell 2;have y3:=h.rawCell 3;have y4:=h.rawCell 4;have w0:=h.p2.rawFree 0;have w1:=h.p2.rawFree 1;have w2:=h.p2.rawFree 2;have w3:=h.p2.rawFree 3;have w4:=h.p2.rawFree 4;have v0:=h.p2.rawCell 0;have v1:=h.p2.rawCell 1;have v2:=h.p2.rawCell 2;have v3:=h.p2.rawCell 3;have v4:=h.p2.rawCell 4;simp at y0 y1 y2 y3 y4 v0 v1 v2 v3 v4;replace H:=Lib.hid h;clear h)
  |(go_at_call 22;(try clear y0 y1 y2 y3 y4 w0 w1 w2 w3 w4 v0 v1 v2 v3 v4);(with_reducible refine(p_err p j2 e HER2.out H.out.p1).mono ?_);rintro e_ wn ⟨rfl,h⟩;have h:=h.p1;have y0:=h.rawCell 0;have y1:=h.rawCell 1;have y2:=h.rawCell 2;have y3:=h.rawCell 3;have y4:=h.rawCell 4;have w0:=h.p2.rawFree 0;have w1:=h.p2.rawFree 1;have w2:=h.p2.rawFree 2;have w3:=h.p2.rawFree 3;have w4:=h.p2.rawFree 4;have v0:=h.p2.rawCell 0;have v1:=h.p2.rawCell 1;have v2:=h.p2.rawCell 2;have v3:=h.p2.rawCell 3;have v4:=h.p2.rawCell 4;simp at y0 y1 y2 y3 y4 v0 v1 v2 v3 v4;replace H:=Lib.hid h;clear h))
        have hz:St W0 _ _ (.raw rb #[.bool false,.string ⟨#[]⟩,.int .i64 0,.int .i64 0,.slice none 0 0] 36::_):=St.sets5P _ _ _ _ _ H.out.p2;refine bodyPost_ret (rc_cell_onlyP rfl _ _ rb [.bool false,.string ⟨#[]⟩,.int .i64 0,.int .i64 0,.slice none 0 0] _ rfl (rc_rangeP hz) Tryz.underlying36 rfl (by kernel_rfl)) rfl ?_;exact .inr ⟨HER.out,qv0,cv0,acc,_,HK8.out,HPL.out,HCK.out,HLL.out,HOT.out,.inr ⟨by rw[HE.out];exact HE0.out,rfl,by rw[HE.out,HF.out];exact hz.drop.drop⟩⟩
    · exact zq8

end Go.Proofs.YteldcbljedeeiaaGreatDoor
