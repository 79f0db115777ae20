/- A text. -/
import Derived.Test.YteldcbljedeeiaaGreatDoorGWholeStrictCard4
import Derived.Test.YteldcbljedeeiaaGreatDoorGWholeStrictCard2
import Derived.Test.YteldcbljedeeiaaGreatDoorGWholeStrictCard3
/- A text. -/
namespace Go.Proofs.YteldcbljedeeiaaGreatDoor
open Go.RowKit

theorem val_topicsRise0 (q:Option Addr) (cap:Nat) (r:Bool) (hr:tRise (([]:List (TopS×Value)).map (·.1))=r) (hf:FewT []){W0 w:World}{K:Know}{L:List Res}(hk:K.has (Know.tops (.slice q 0 cap) [])) (h:St W0 w K L):
 Calls Tryz.prog 148 #[.slice q 0 cap] w fun en w'=>en=.returned (.bool r)∧St W0 w' K L:=val_topicsRise [] q cap r hr hf hk h

set_option maxHeartbeats 2000000 in
set_option maxRecDepth 100000 in
theorem val_check_10e (p e t s u st:Int) (q:Option Addr) (cap:Nat) (hrg:(decide (0≤p) && (decide (0≤e) && (decide (e≤32767) && (decide (0≤t) && (decide (t≤2147483647) && (decide (0≤u) && decide (-1≤st)))))))=true) (hs1:0≤s) (hs2:s<7) (hi:idle s=false) (hf:FewT []){W0 w:World}{K:Know}{L:List Res}(hk:K.has (Know.tops (.slice q 0 cap) [])) (h:St W0 w K L):
    Calls Tryz.prog 91 #[.agg #[.int .i64 p,.int .i64 e,.int .i64 t,.int .i64 s,.slice q 0 cap,.int .i64 u,.int .i64 st]] w fun en w'=>en=.returned (.int .i64 10)∧St W0 w' K L:=by
  have HK:=Lib.hid hk;have HF:=Lib.hid hf;obtain⟨vb,hvb⟩:∃b,w.heap.size=b:=⟨_,rfl⟩;have h1:=h.allocRaw #[.int .i64 p,.int .i64 e,.int .i64 t,.int .i64 s,.slice q 0 cap,.int .i64 u,.int .i64 st] 107;rw[hvb]at h1;have c0:=(h1).rawCell 0;have c1:=(h1).rawCell 1;have c2:=(h1).rawCell 2;have c3:=(h1).rawCell 3;have c4:=(h1).rawCell 4;have c5:=(h1).rawCell 5;have c6:=(h1).rawCell 6;simp at c0 c1 c2 c3 c4 c5 c6;have H:=Lib.hid h1;clear h h1 hk hf;have HRG:=Lib.hid hrg;have HI:=Lib.hid hi;have g1:¬s<0:=by omega
  have g2:¬7≤s:=by omega
  clear hrg hi

  go_enter Tryz.func91,Tryz.ntmps91;go_wp2_with (go_at_call 146;(with_reducible refine(val_ranged _ _ _ _ _ _ _ true HRG.out H.out).mono ?_);rintro e_ wn ⟨rfl,h⟩;have c0:=(h).rawCell 0;have c1:=(h).rawCell 1;have c2:=(h).rawCell 2;have c3:=(h).rawCell 3;have c4:=(h).rawCell 4;have c5:=(h).rawCell 5;have c6:=(h).rawCell 6;simp at c0 c1 c2 c3 c4 c5 c6;replace H:=Lib.hid h;clear h);have hs:=H.out.drew;have HKP:=Lib.hid (show ∀w',St W0 w' K (.raw vb #[.int .i64 p,.int .i64 e,.int .i64 t,.int .i64 s,.slice q 0 cap,.int .i64 u,.int .i64 st] 107::L)→(w'.cell? ⟨vb,3,none⟩=some (.int .i64 s)∧w'.cell? ⟨vb,4,none⟩=some (.slice q 0 cap)∧w'.cell? ⟨vb,6,none⟩=some (.int .i64 st))from fun w' hs=>⟨hs.rawCell 3,hs.rawCell 4,hs.rawCell 6⟩);refine wp_region_held_drew (S:=fun w'=>w'.cell? ⟨vb,3,none⟩=some (.int .i64 s)∧w'.cell? ⟨vb,4,none⟩=some (.slice q 0 cap)∧w'.cell? ⟨vb,6,none⟩=some (.int .i64 st)) (by kernel_rfl) (HKP.out _ hs) (fun hHeld=> ?_);refine tQ 0 ⟨some 14,.fieldAddr 107 (.tmp 1) 3,0,_,_,none⟩ ?_;simp only[Act.put,sA,sB,sC];refine tQ 1 ⟨some 15,.load 3 (.tmp 14),3,_,_,none⟩ ?_;simp only[Act.put,sA,sB,sC];refine tQ 3 ⟨some 17,.fieldAddr 107 (.tmp 1) 4,0,_,_,none⟩ ?_;simp only[Act.put,sA,sB,sC];refine tQ 4 ⟨some 18,.load 28 (.tmp 17),28,_,_,none⟩ ?_;simp only[Act.put,sA,sB,sC];refine tQ 5 ⟨some 19,.call {callee:=.builtin .len,args:= #[.tmp 18],argTypes:= #[28]},3,_,_,none⟩ ?_;simp only[Act.put,sA,sB,sC];refine tQ 6 ⟨some 20,.binOp .eql 3 (.tmp 19) (.const (Value.int IntKind.i64 0)) 3,4,_,_,none⟩ ?_;simp only[Act.put,sA,sB,sC];refine wpAnyH_ready (rs:=[2]) (by kernel_rfl) (by simp) (AllReadyH.cons (o:=⟨some 16,.call {callee:=.value (.func 147),args:= #[.tmp 15],argTypes:= #[3]},4,_,_,none⟩) rfl (fun KK hK=> ?_) AllReadyH.nil);go_simp;go_at_call 147;with_reducible refine(val_idle _ _ HI.out hs).mono ?_;rintro e wq ⟨rfl,hs⟩;refine hK.out _ _ (HKP.out _ hs) (fun hHeld=> ?_);clear hK KK
  try simp only[Act.put,sA,sB,sC]
  refine tQ 7 ⟨some 21,.binOp .neq 4 (.tmp 16) (.tmp 20) 4,4,_,_,none⟩ ?_;simp only[Act.put,sA,sB,sC];refine tQ 8 ⟨some 22,.move (.tmp 21),4,_,_,none⟩ ?_;simp only[Act.put,sA,sB,sC];refine wpAnyH_take (i:=9) (oi:=⟨some 23,.fieldAddr 107 (.tmp 1) 3,0,_,_,some (8,false)⟩) (v:=undef) rfl (by kernel_rfl) (by kernel_rfl) (by kernel_rfl) (fun _ _ _ h=>h) (Or.inr ⟨by rfl,rfl⟩) (by assumption) ?_;simp only[Act.put,sA,sB,sC];refine wpAnyH_take (i:=10) (oi:=⟨some 24,.load 3 (.tmp 23),3,_,_,some (8,false)⟩) (v:=undef) rfl (by kernel_rfl) (by kernel_rfl) (by kernel_rfl) (fun _ _ _ h=>h) (Or.inr ⟨by rfl,rfl⟩) (by assumption) ?_;simp only[Act.put,sA,sB,sC];refine wpAnyH_take (i:=11) (oi:=⟨some 25,.binOp .eql 3 (.tmp 24) (.const (Value.int IntKind.i64 0)) 3,4,_,_,some (8,false)⟩) (v:=undef) rfl (by kernel_rfl) (by kernel_rfl) (by kernel_rfl) (fun _ _ _ h=>h) (Or.inr ⟨by rfl,rfl⟩) (by assumption) ?_;simp only[Act.put,sA,sB,sC];refine wpAnyH_take (i:=12) (oi:=⟨some 26,.fieldAddr 107 (.tmp 1) 6,0,_,_,some (8,false)⟩) (v:=undef) rfl (by kernel_rfl) (by kernel_rfl) (by kernel_rfl) (fun _ _ _ h=>h) (Or.inr ⟨by rfl,rfl⟩) (by assumption) ?_;simp only[Act.put,sA,sB,sC];refine wpAnyH_take (i:=13) (oi:=⟨some 27,.load 3 (.tmp 26),3,_,_,some (8,false)⟩) (v:=undef) rfl (by kernel_rfl) (by kernel_rfl) (by kernel_rfl) (fun _ _ _ h=>h) (Or.inr ⟨by rfl,rfl⟩) (by assumption) ?_;simp only[Act.put,sA,sB,sC];refine wpAnyH_take (i:=14) (oi:=⟨some 28,.binOp .eql 3 (.tmp 27) (.const (Value.int IntKind.i64 (-1))) 3,4,_,_,some (8,false)⟩) (v:=undef) rfl (by kernel_rfl) (by kernel_rfl) (by kernel_rfl) (fun _ _ _ h=>h) (Or.inr ⟨by rfl,rfl⟩) (by assumption) ?_;simp only[Act.put,sA,sB,sC];refine wpAnyH_take (i:=15) (oi:=⟨some 29,.binOp .neq 4 (.tmp 25) (.tmp 28) 4,4,_,_,some (8,false)⟩) (v:=undef) rfl (by kernel_rfl) (by kernel_rfl) (by kernel_rfl) (fun _ _ _ h=>h) (Or.inr ⟨by rfl,rfl⟩) (by assumption) ?_;simp only[Act.put,sA,sB,sC];refine tQ 16 ⟨some 30,.pick (.tmp 22) (.const (Value.bool true)) (.tmp 29),4,_,_,none⟩ ?_;simp only[Act.put,sA,sB,sC];refine wpAnyH_done (by kernel_rfl) ?_ _;go_wp2_with fail;go_ret;exact⟨rfl,hs.drop⟩

set_option maxHeartbeats 2000000 in
set_option maxRecDepth 100000 in
theorem val_check_10f (p e t s u st:Int) (l:List (TopS×Value)) (q:Option Addr) (cap:Nat) (hrg:(decide (0≤p) && (decide (0≤e) && (decide (e≤32767) && (decide (0≤t) && (decide (t≤2147483647) && (decide (0≤u) && decide (-1≤st)))))))=true) (hs1:0≤s) (hs2:s<7) (hi:idle s=true) (hem:¬l=[]) (hf:FewT l){W0 w:World}{K:Know}{L:List Res}(hk:K.has (Know.tops (.slice q l.length cap) l)) (h:St W0 w K L):
  Calls Tryz.prog 91 #[.agg #[.int .i64 p,.int .i64 e,.int .i64 t,.int .i64 s,.slice q l.length cap,.int .i64 u,.int .i64 st]] w fun en w'=>en=.returned (.int .i64 10)∧St W0 w' K L:=by
 have HK:=Lib.hid hk;have HF:=Lib.hid hf;obtain⟨vb,hvb⟩:∃b,w.heap.size=b:=⟨_,rfl⟩;have h1:=h.allocRaw #[.int .i64 p,.int .i64 e,.int .i64 t,.int .i64 s,.slice q l.length cap,.int .i64 u,.int .i64 st] 107;rw[hvb]at h1;have c0:=(h1).rawCell 0;have c1:=(h1).rawCell 1;have c2:=(h1).rawCell 2;have c3:=(h1).rawCell 3;have c4:=(h1).rawCell 4;have c5:=(h1).rawCell 5;have c6:=(h1).rawCell 6;simp at c0 c1 c2 c3 c4 c5 c6;have H:=Lib.hid h1;clear h h1 hk hf;have HRG:=Lib.hid hrg;have HI:=Lib.hid hi;have g1:¬s<0:=by omega
 have g2:¬7≤s:=by omega
 clear hrg hi;have hl0:((l.length:Int)==0)=false:=by rw[beq_eq_false_iff_ne];intro h;exact hem (List.length_eq_zero_iff.1 (by omega))
 go_enter Tryz.func91,Tryz.ntmps91;go_wp2_with (go_at_call 146;(with_reducible refine(val_ranged _ _ _ _ _ _ _ true HRG.out H.out).mono ?_);rintro e_ wn ⟨rfl,h⟩;have c0:=(h).rawCell 0;have c1:=(h).rawCell 1;have c2:=(h).rawCell 2;have c3:=(h).rawCell 3;have c4:=(h).rawCell 4;have c5:=(h).rawCell 5;have c6:=(h).rawCell 6;simp at c0 c1 c2 c3 c4 c5 c6;replace H:=Lib.hid h;clear h);have hs:=H.out.drew;have HKP:=Lib.hid (show ∀w',St W0 w' K (.raw vb #[.int .i64 p,.int .i64 e,.int .i64 t,.int .i64 s,.slice q l.length cap,.int .i64 u,.int .i64 st] 107::L)→(w'.cell? ⟨vb,3,none⟩=some (.int .i64 s)∧w'.cell? ⟨vb,4,none⟩=some (.slice q l.length cap)∧w'.cell? ⟨vb,6,none⟩=some (.int .i64 st))from fun w' hs=>⟨hs.rawCell 3,hs.rawCell 4,hs.rawCell 6⟩);refine wp_region_held_drew (S:=fun w'=>w'.cell? ⟨vb,3,none⟩=some (.int .i64 s)∧w'.cell? ⟨vb,4,none⟩=some (.slice q l.length cap)∧w'.cell? ⟨vb,6,none⟩=some (.int .i64 st)) (by kernel_rfl) (HKP.out _ hs) (fun hHeld=> ?_);refine tQ 0 ⟨some 14,.fieldAddr 107 (.tmp 1) 3,0,_,_,none⟩ ?_;simp only[Act.put,sA,sB,sC];refine tQ 1 ⟨some 15,.load 3 (.tmp 14),3,_,_,none⟩ ?_;simp only[Act.put,sA,sB,sC];refine tQ 3 ⟨some 17,.fieldAddr 107 (.tmp 1) 4,0,_,_,none⟩ ?_;simp only[Act.put,sA,sB,sC];refine tQ 4 ⟨some 18,.load 28 (.tmp 17),28,_,_,none⟩ ?_;simp only[Act.put,sA,sB,sC];refine tQ 5 ⟨some 19,.call {callee:=.builtin .len,args:= #[.tmp 18],argTypes:= #[28]},3,_,_,none⟩ ?_;simp only[Act.put,sA,sB,sC];refine tQ 6 ⟨some 20,.binOp .eql 3 (.tmp 19) (.const (Value.int IntKind.i64 0)) 3,4,_,_,none⟩ ?_;simp only[Act.put,sA,sB,sC];refine wpAnyH_ready (rs:=[2]) (by kernel_rfl) (by simp) (AllReadyH.cons (o:=⟨some 16,.call {callee:=.value (.func 147),args:= #[.tmp 15],argTypes:= #[3]},4,_,_,none⟩) rfl (fun KK hK=> ?_) AllReadyH.nil);go_simp;go_at_call 147;with_reducible refine(val_idle _ _ HI.out hs).mono ?_;rintro e wq ⟨rfl,hs⟩;refine hK.out _ _ (HKP.out _ hs) (fun hHeld=> ?_);clear hK KK
 try simp only[Act.put,sA,sB,sC]
 refine tQ 7 ⟨some 21,.binOp .neq 4 (.tmp 16) (.tmp 20) 4,4,_,_,none⟩ ?_;simp only[Act.put,sA,sB,sC];refine tQ 8 ⟨some 22,.move (.tmp 21),4,_,_,none⟩ ?_;simp only[Act.put,sA,sB,sC];refine wpAnyH_take (i:=9) (oi:=⟨some 23,.fieldAddr 107 (.tmp 1) 3,0,_,_,some (8,false)⟩) (v:=undef) rfl (by kernel_rfl) (by kernel_rfl) (by kernel_rfl) (fun _ _ _ h=>h) (Or.inr ⟨by rfl,rfl⟩) (by assumption) ?_;simp only[Act.put,sA,sB,sC];refine wpAnyH_take (i:=10) (oi:=⟨some 24,.load 3 (.tmp 23),3,_,_,some (8,false)⟩) (v:=undef) rfl (by kernel_rfl) (by kernel_rfl) (by kernel_rfl) (fun _ _ _ h=>h) (Or.inr ⟨by rfl,rfl⟩) (by assumption) ?_;simp only[Act.put,sA,sB,sC];refine wpAnyH_take (i:=11) (oi:=⟨some 25,.binOp .eql 3 (.tmp 24) (.const (Value.int IntKind.i64 0)) 3,4,_,_,some (8,false)⟩) (v:=undef) rfl (by kernel_rfl) (by kernel_rfl) (by kernel_rfl) (fun _ _ _ h=>h) (Or.inr ⟨by rfl,rfl⟩) (by assumption) ?_;simp only[Act.put,sA,sB,sC];refine wpAnyH_take (i:=12) (oi:=⟨some 26,.fieldAddr 107 (.tmp 1) 6,0,_,_,some (8,false)⟩) (v:=undef) rfl (by kernel_rfl) (by kernel_rfl) (by kernel_rfl) (fun _ _ _ h=>h) (Or.inr ⟨by rfl,rfl⟩) (by assumption) ?_;simp only[Act.put,sA,sB,sC];refine wpAnyH_take (i:=13) (oi:=⟨some 27,.load 3 (.tmp 26),3,_,_,some (8,false)⟩) (v:=undef) rfl (by kernel_rfl) (by kernel_rfl) (by kernel_rfl) (fun _ _ _ h=>h) (Or.inr ⟨by rfl,rfl⟩) (by assumption) ?_;simp only[Act.put,sA,sB,sC];refine wpAnyH_take (i:=14) (oi:=⟨some 28,.binOp .eql 3 (.tmp 27) (.const (Value.int IntKind.i64 (-1))) 3,4,_,_,some (8,false)⟩) (v:=undef) rfl (by kernel_rfl) (by kernel_rfl) (by kernel_rfl) (fun _ _ _ h=>h) (Or.inr ⟨by rfl,rfl⟩) (by assumption) ?_;simp only[Act.put,sA,sB,sC];refine wpAnyH_take (i:=15) (oi:=⟨some 29,.binOp .neq 4 (.tmp 25) (.tmp 28) 4,4,_,_,some (8,false)⟩) (v:=undef) rfl (by kernel_rfl) (by kernel_rfl) (by kernel_rfl) (fun _ _ _ h=>h) (Or.inr ⟨by rfl,rfl⟩) (by assumption) ?_;simp only[Act.put,sA,sB,sC];refine tQ 16 ⟨some 30,.pick (.tmp 22) (.const (Value.bool true)) (.tmp 29),4,_,_,none⟩ ?_;simp only[Act.put,sA,sB,sC];refine wpAnyH_done (by kernel_rfl) ?_ _;go_wp2_with fail;go_ret;exact⟨rfl,hs.drop⟩

set_option maxHeartbeats 2000000 in
set_option maxRecDepth 100000 in
theorem val_check_e11t (p e t s u st:Int) (q:Option Addr) (cap:Nat) (hrg:(decide (0≤p) && (decide (0≤e) && (decide (e≤32767) && (decide (0≤t) && (decide (t≤2147483647) && (decide (0≤u) && decide (-1≤st)))))))=true) (hs1:0≤s) (hs2:s<7) (hi:idle s=true) (h1:s=0) (h2:st= -1) (htr:tRise (([]:List (TopS×Value)).map (·.1))=true) (hf:FewT []){W0 w:World}{K:Know}{L:List Res}(hk:K.has (Know.tops (.slice q 0 cap) [])) (h:St W0 w K L):
    Calls Tryz.prog 91 #[.agg #[.int .i64 p,.int .i64 e,.int .i64 t,.int .i64 s,.slice q 0 cap,.int .i64 u,.int .i64 st]] w fun en w'=>en=.returned (.int .i64 0)∧St W0 w' K L:=by
  have HK:=Lib.hid hk;have HF:=Lib.hid hf;obtain⟨vb,hvb⟩:∃b,w.heap.size=b:=⟨_,rfl⟩;have h1:=h.allocRaw #[.int .i64 p,.int .i64 e,.int .i64 t,.int .i64 s,.slice q 0 cap,.int .i64 u,.int .i64 st] 107;rw[hvb]at h1;have c0:=(h1).rawCell 0;have c1:=(h1).rawCell 1;have c2:=(h1).rawCell 2;have c3:=(h1).rawCell 3;have c4:=(h1).rawCell 4;have c5:=(h1).rawCell 5;have c6:=(h1).rawCell 6;simp at c0 c1 c2 c3 c4 c5 c6;have H:=Lib.hid h1;clear h h1 hk hf;have HTR:=Lib.hid htr;clear htr;have HRG:=Lib.hid hrg;have HI:=Lib.hid hi;have g1:¬s<0:=by omega
  have g2:¬7≤s:=by omega
  clear hrg hi

  subst h1;subst h2;go_enter Tryz.func91,Tryz.ntmps91;go_wp2_with (go_at_call 146;(with_reducible refine(val_ranged _ _ _ _ _ _ _ true HRG.out H.out).mono ?_);rintro e_ wn ⟨rfl,h⟩;have c0:=(h).rawCell 0;have c1:=(h).rawCell 1;have c2:=(h).rawCell 2;have c3:=(h).rawCell 3;have c4:=(h).rawCell 4;have c5:=(h).rawCell 5;have c6:=(h).rawCell 6;simp at c0 c1 c2 c3 c4 c5 c6;replace H:=Lib.hid h;clear h);have hs:=H.out.drew;have HKP:=Lib.hid (show ∀w',St W0 w' K (.raw vb #[.int .i64 p,.int .i64 e,.int .i64 t,.int .i64 0,.slice q 0 cap,.int .i64 u,.int .i64 (-1)] 107::L)→(w'.cell? ⟨vb,3,none⟩=some (.int .i64 0)∧w'.cell? ⟨vb,4,none⟩=some (.slice q 0 cap)∧w'.cell? ⟨vb,6,none⟩=some (.int .i64 (-1)))from fun w' hs=>⟨hs.rawCell 3,hs.rawCell 4,hs.rawCell 6⟩);refine wp_region_held_drew (S:=fun w'=>w'.cell? ⟨vb,3,none⟩=some (.int .i64 0)∧w'.cell? ⟨vb,4,none⟩=some (.slice q 0 cap)∧w'.cell? ⟨vb,6,none⟩=some (.int .i64 (-1))) (by kernel_rfl) (HKP.out _ hs) (fun hHeld=> ?_);refine tQ 0 ⟨some 14,.fieldAddr 107 (.tmp 1) 3,0,_,_,none⟩ ?_;simp only[Act.put,sA,sB,sC];refine tQ 1 ⟨some 15,.load 3 (.tmp 14),3,_,_,none⟩ ?_;simp only[Act.put,sA,sB,sC];refine tQ 3 ⟨some 17,.fieldAddr 107 (.tmp 1) 4,0,_,_,none⟩ ?_;simp only[Act.put,sA,sB,sC];refine tQ 4 ⟨some 18,.load 28 (.tmp 17),28,_,_,none⟩ ?_;simp only[Act.put,sA,sB,sC];refine tQ 5 ⟨some 19,.call {callee:=.builtin .len,args:= #[.tmp 18],argTypes:= #[28]},3,_,_,none⟩ ?_;simp only[Act.put,sA,sB,sC];refine tQ 6 ⟨some 20,.binOp .eql 3 (.tmp 19) (.const (Value.int IntKind.i64 0)) 3,4,_,_,none⟩ ?_;simp only[Act.put,sA,sB,sC];refine wpAnyH_ready (rs:=[2]) (by kernel_rfl) (by simp) (AllReadyH.cons (o:=⟨some 16,.call {callee:=.value (.func 147),args:= #[.tmp 15],argTypes:= #[3]},4,_,_,none⟩) rfl (fun KK hK=> ?_) AllReadyH.nil);go_simp;go_at_call 147;with_reducible refine(val_idle _ _ HI.out hs).mono ?_;rintro e wq ⟨rfl,hs⟩;refine hK.out _ _ (HKP.out _ hs) (fun hHeld=> ?_);clear hK KK
  try simp only[Act.put,sA,sB,sC]
  refine tQ 7 ⟨some 21,.binOp .neq 4 (.tmp 16) (.tmp 20) 4,4,_,_,none⟩ ?_;simp only[Act.put,sA,sB,sC];refine tQ 8 ⟨some 22,.move (.tmp 21),4,_,_,none⟩ ?_;simp only[Act.put,sA,sB,sC];refine tQ 9 ⟨some 23,.fieldAddr 107 (.tmp 1) 3,0,_,_,some (8,false)⟩ ?_;simp only[Act.put,sA,sB,sC];refine tQ 10 ⟨some 24,.load 3 (.tmp 23),3,_,_,some (8,false)⟩ ?_;simp only[Act.put,sA,sB,sC];refine tQ 11 ⟨some 25,.binOp .eql 3 (.tmp 24) (.const (Value.int IntKind.i64 0)) 3,4,_,_,some (8,false)⟩ ?_;simp only[Act.put,sA,sB,sC];refine tQ 12 ⟨some 26,.fieldAddr 107 (.tmp 1) 6,0,_,_,some (8,false)⟩ ?_;simp only[Act.put,sA,sB,sC];refine tQ 13 ⟨some 27,.load 3 (.tmp 26),3,_,_,some (8,false)⟩ ?_;simp only[Act.put,sA,sB,sC];refine tQ 14 ⟨some 28,.binOp .eql 3 (.tmp 27) (.const (Value.int IntKind.i64 (-1))) 3,4,_,_,some (8,false)⟩ ?_;simp only[Act.put,sA,sB,sC];refine tQ 15 ⟨some 29,.binOp .neq 4 (.tmp 25) (.tmp 28) 4,4,_,_,some (8,false)⟩ ?_;simp only[Act.put,sA,sB,sC];refine tQ 16 ⟨some 30,.pick (.tmp 22) (.const (Value.bool true)) (.tmp 29),4,_,_,none⟩ ?_;simp only[Act.put,sA,sB,sC];refine wpAnyH_done (by kernel_rfl) ?_ _;clear H;have c4:=hs.rawCell 4;simp at c4;have H:=Lib.hid hs;clear hs;go_wp2_with (go_at_call 148;(with_reducible refine(val_topicsRise0 _ _ true HTR.out HF.out HK.out H.out).mono ?_);rintro e_ wn ⟨rfl,h⟩;replace H:=Lib.hid h;clear h);go_ret;exact⟨rfl,H.out.drop⟩

set_option maxHeartbeats 2000000 in
set_option maxRecDepth 100000 in
theorem val_check_e10 (p e t s u st:Int) (q:Option Addr) (cap:Nat) (hrg:(decide (0≤p) && (decide (0≤e) && (decide (e≤32767) && (decide (0≤t) && (decide (t≤2147483647) && (decide (0≤u) && decide (-1≤st)))))))=true) (hs1:0≤s) (hs2:s<7) (hi:idle s=true) (h1:s=0) (h2:¬st= -1) (hf:FewT []){W0 w:World}{K:Know}{L:List Res}(hk:K.has (Know.tops (.slice q 0 cap) [])) (h:St W0 w K L):
    Calls Tryz.prog 91 #[.agg #[.int .i64 p,.int .i64 e,.int .i64 t,.int .i64 s,.slice q 0 cap,.int .i64 u,.int .i64 st]] w fun en w'=>en=.returned (.int .i64 10)∧St W0 w' K L:=by
  have HK:=Lib.hid hk;have HF:=Lib.hid hf;obtain⟨vb,hvb⟩:∃b,w.heap.size=b:=⟨_,rfl⟩;have h1:=h.allocRaw #[.int .i64 p,.int .i64 e,.int .i64 t,.int .i64 s,.slice q 0 cap,.int .i64 u,.int .i64 st] 107;rw[hvb]at h1;have c0:=(h1).rawCell 0;have c1:=(h1).rawCell 1;have c2:=(h1).rawCell 2;have c3:=(h1).rawCell 3;have c4:=(h1).rawCell 4;have c5:=(h1).rawCell 5;have c6:=(h1).rawCell 6;simp at c0 c1 c2 c3 c4 c5 c6;have H:=Lib.hid h1;clear h h1 hk hf;have HRG:=Lib.hid hrg;have HI:=Lib.hid hi;have g1:¬s<0:=by omega
  have g2:¬7≤s:=by omega
  clear hrg hi

  subst h1;have k2:(st== -1)=false:=by rw[beq_eq_false_iff_ne];exact h2
  go_enter Tryz.func91,Tryz.ntmps91;go_wp2_with (go_at_call 146;(with_reducible refine(val_ranged _ _ _ _ _ _ _ true HRG.out H.out).mono ?_);rintro e_ wn ⟨rfl,h⟩;have c0:=(h).rawCell 0;have c1:=(h).rawCell 1;have c2:=(h).rawCell 2;have c3:=(h).rawCell 3;have c4:=(h).rawCell 4;have c5:=(h).rawCell 5;have c6:=(h).rawCell 6;simp at c0 c1 c2 c3 c4 c5 c6;replace H:=Lib.hid h;clear h);have hs:=H.out.drew;have HKP:=Lib.hid (show ∀w',St W0 w' K (.raw vb #[.int .i64 p,.int .i64 e,.int .i64 t,.int .i64 0,.slice q 0 cap,.int .i64 u,.int .i64 st] 107::L)→(w'.cell? ⟨vb,3,none⟩=some (.int .i64 0)∧w'.cell? ⟨vb,4,none⟩=some (.slice q 0 cap)∧w'.cell? ⟨vb,6,none⟩=some (.int .i64 st))from fun w' hs=>⟨hs.rawCell 3,hs.rawCell 4,hs.rawCell 6⟩);refine wp_region_held_drew (S:=fun w'=>w'.cell? ⟨vb,3,none⟩=some (.int .i64 0)∧w'.cell? ⟨vb,4,none⟩=some (.slice q 0 cap)∧w'.cell? ⟨vb,6,none⟩=some (.int .i64 st)) (by kernel_rfl) (HKP.out _ hs) (fun hHeld=> ?_);refine tQ 0 ⟨some 14,.fieldAddr 107 (.tmp 1) 3,0,_,_,none⟩ ?_;simp only[Act.put,sA,sB,sC];refine tQ 1 ⟨some 15,.load 3 (.tmp 14),3,_,_,none⟩ ?_;simp only[Act.put,sA,sB,sC];refine tQ 3 ⟨some 17,.fieldAddr 107 (.tmp 1) 4,0,_,_,none⟩ ?_;simp only[Act.put,sA,sB,sC];refine tQ 4 ⟨some 18,.load 28 (.tmp 17),28,_,_,none⟩ ?_;simp only[Act.put,sA,sB,sC];refine tQ 5 ⟨some 19,.call {callee:=.builtin .len,args:= #[.tmp 18],argTypes:= #[28]},3,_,_,none⟩ ?_;simp only[Act.put,sA,sB,sC];refine tQ 6 ⟨some 20,.binOp .eql 3 (.tmp 19) (.const (Value.int IntKind.i64 0)) 3,4,_,_,none⟩ ?_;simp only[Act.put,sA,sB,sC];refine wpAnyH_ready (rs:=[2]) (by kernel_rfl) (by simp) (AllReadyH.cons (o:=⟨some 16,.call {callee:=.value (.func 147),args:= #[.tmp 15],argTypes:= #[3]},4,_,_,none⟩) rfl (fun KK hK=> ?_) AllReadyH.nil);go_simp;go_at_call 147;with_reducible refine(val_idle _ _ HI.out hs).mono ?_;rintro e wq ⟨rfl,hs⟩;refine hK.out _ _ (HKP.out _ hs) (fun hHeld=> ?_);clear hK KK
  try simp only[Act.put,sA,sB,sC]
  refine tQ 7 ⟨some 21,.binOp .neq 4 (.tmp 16) (.tmp 20) 4,4,_,_,none⟩ ?_;simp only[Act.put,sA,sB,sC];refine tQ 8 ⟨some 22,.move (.tmp 21),4,_,_,none⟩ ?_;simp only[Act.put,sA,sB,sC];refine tQ 9 ⟨some 23,.fieldAddr 107 (.tmp 1) 3,0,_,_,some (8,false)⟩ ?_;simp only[Act.put,sA,sB,sC];refine tQ 10 ⟨some 24,.load 3 (.tmp 23),3,_,_,some (8,false)⟩ ?_;simp only[Act.put,sA,sB,sC];refine tQ 11 ⟨some 25,.binOp .eql 3 (.tmp 24) (.const (Value.int IntKind.i64 0)) 3,4,_,_,some (8,false)⟩ ?_;simp only[Act.put,sA,sB,sC];refine tQ 12 ⟨some 26,.fieldAddr 107 (.tmp 1) 6,0,_,_,some (8,false)⟩ ?_;simp only[Act.put,sA,sB,sC];refine tQ 13 ⟨some 27,.load 3 (.tmp 26),3,_,_,some (8,false)⟩ ?_;simp only[Act.put,sA,sB,sC];refine tQ 14 ⟨some 28,.binOp .eql 3 (.tmp 27) (.const (Value.int IntKind.i64 (-1))) 3,4,_,_,some (8,false)⟩ ?_;simp only[Act.put,sA,sB,sC];refine tQ 15 ⟨some 29,.binOp .neq 4 (.tmp 25) (.tmp 28) 4,4,_,_,some (8,false)⟩ ?_;simp only[Act.put,sA,sB,sC];refine tQ 16 ⟨some 30,.pick (.tmp 22) (.const (Value.bool true)) (.tmp 29),4,_,_,none⟩ ?_;simp only[Act.put,sA,sB,sC];refine wpAnyH_done (by kernel_rfl) ?_ _;go_wp2_with fail;go_ret;exact⟨rfl,hs.drop⟩

set_option maxHeartbeats 2000000 in
set_option maxRecDepth 100000 in
theorem val_check_e01 (p e t s u st:Int) (q:Option Addr) (cap:Nat) (hrg:(decide (0≤p) && (decide (0≤e) && (decide (e≤32767) && (decide (0≤t) && (decide (t≤2147483647) && (decide (0≤u) && decide (-1≤st)))))))=true) (hs1:0≤s) (hs2:s<7) (hi:idle s=true) (h1:¬s=0) (h2:st= -1) (hf:FewT []){W0 w:World}{K:Know}{L:List Res}(hk:K.has (Know.tops (.slice q 0 cap) [])) (h:St W0 w K L):
    Calls Tryz.prog 91 #[.agg #[.int .i64 p,.int .i64 e,.int .i64 t,.int .i64 s,.slice q 0 cap,.int .i64 u,.int .i64 st]] w fun en w'=>en=.returned (.int .i64 10)∧St W0 w' K L:=by
  have HK:=Lib.hid hk;have HF:=Lib.hid hf;obtain⟨vb,hvb⟩:∃b,w.heap.size=b:=⟨_,rfl⟩;have h1:=h.allocRaw #[.int .i64 p,.int .i64 e,.int .i64 t,.int .i64 s,.slice q 0 cap,.int .i64 u,.int .i64 st] 107;rw[hvb]at h1;have c0:=(h1).rawCell 0;have c1:=(h1).rawCell 1;have c2:=(h1).rawCell 2;have c3:=(h1).rawCell 3;have c4:=(h1).rawCell 4;have c5:=(h1).rawCell 5;have c6:=(h1).rawCell 6;simp at c0 c1 c2 c3 c4 c5 c6;have H:=Lib.hid h1;clear h h1 hk hf;have HRG:=Lib.hid hrg;have HI:=Lib.hid hi;have g1:¬s<0:=by omega
  have g2:¬7≤s:=by omega
  clear hrg hi

  have k1:(s==0)=false:=by rw[beq_eq_false_iff_ne];exact h1
  subst h2;go_enter Tryz.func91,Tryz.ntmps91;go_wp2_with (go_at_call 146;(with_reducible refine(val_ranged _ _ _ _ _ _ _ true HRG.out H.out).mono ?_);rintro e_ wn ⟨rfl,h⟩;have c0:=(h).rawCell 0;have c1:=(h).rawCell 1;have c2:=(h).rawCell 2;have c3:=(h).rawCell 3;have c4:=(h).rawCell 4;have c5:=(h).rawCell 5;have c6:=(h).rawCell 6;simp at c0 c1 c2 c3 c4 c5 c6;replace H:=Lib.hid h;clear h);have hs:=H.out.drew;have HKP:=Lib.hid (show ∀w',St W0 w' K (.raw vb #[.int .i64 p,.int .i64 e,.int .i64 t,.int .i64 s,.slice q 0 cap,.int .i64 u,.int .i64 (-1)] 107::L)→(w'.cell? ⟨vb,3,none⟩=some (.int .i64 s)∧w'.cell? ⟨vb,4,none⟩=some (.slice q 0 cap)∧w'.cell? ⟨vb,6,none⟩=some (.int .i64 (-1)))from fun w' hs=>⟨hs.rawCell 3,hs.rawCell 4,hs.rawCell 6⟩);refine wp_region_held_drew (S:=fun w'=>w'.cell? ⟨vb,3,none⟩=some (.int .i64 s)∧w'.cell? ⟨vb,4,none⟩=some (.slice q 0 cap)∧w'.cell? ⟨vb,6,none⟩=some (.int .i64 (-1))) (by kernel_rfl) (HKP.out _ hs) (fun hHeld=> ?_);refine tQ 0 ⟨some 14,.fieldAddr 107 (.tmp 1) 3,0,_,_,none⟩ ?_;simp only[Act.put,sA,sB,sC];refine tQ 1 ⟨some 15,.load 3 (.tmp 14),3,_,_,none⟩ ?_;simp only[Act.put,sA,sB,sC];refine tQ 3 ⟨some 17,.fieldAddr 107 (.tmp 1) 4,0,_,_,none⟩ ?_;simp only[Act.put,sA,sB,sC];refine tQ 4 ⟨some 18,.load 28 (.tmp 17),28,_,_,none⟩ ?_;simp only[Act.put,sA,sB,sC];refine tQ 5 ⟨some 19,.call {callee:=.builtin .len,args:= #[.tmp 18],argTypes:= #[28]},3,_,_,none⟩ ?_;simp only[Act.put,sA,sB,sC];refine tQ 6 ⟨some 20,.binOp .eql 3 (.tmp 19) (.const (Value.int IntKind.i64 0)) 3,4,_,_,none⟩ ?_;simp only[Act.put,sA,sB,sC];refine wpAnyH_ready (rs:=[2]) (by kernel_rfl) (by simp) (AllReadyH.cons (o:=⟨some 16,.call {callee:=.value (.func 147),args:= #[.tmp 15],argTypes:= #[3]},4,_,_,none⟩) rfl (fun KK hK=> ?_) AllReadyH.nil);go_simp;go_at_call 147;with_reducible refine(val_idle _ _ HI.out hs).mono ?_;rintro e wq ⟨rfl,hs⟩;refine hK.out _ _ (HKP.out _ hs) (fun hHeld=> ?_);clear hK KK
  try simp only[Act.put,sA,sB,sC]
  refine tQ 7 ⟨some 21,.binOp .neq 4 (.tmp 16) (.tmp 20) 4,4,_,_,none⟩ ?_;simp only[Act.put,sA,sB,sC];refine tQ 8 ⟨some 22,.move (.tmp 21),4,_,_,none⟩ ?_;simp only[Act.put,sA,sB,sC];refine tQ 9 ⟨some 23,.fieldAddr 107 (.tmp 1) 3,0,_,_,some (8,false)⟩ ?_;simp only[Act.put,sA,sB,sC];refine tQ 10 ⟨some 24,.load 3 (.tmp 23),3,_,_,some (8,false)⟩ ?_;simp only[Act.put,sA,sB,sC];refine tQ 11 ⟨some 25,.binOp .eql 3 (.tmp 24) (.const (Value.int IntKind.i64 0)) 3,4,_,_,some (8,false)⟩ ?_;simp only[Act.put,sA,sB,sC];refine tQ 12 ⟨some 26,.fieldAddr 107 (.tmp 1) 6,0,_,_,some (8,false)⟩ ?_;simp only[Act.put,sA,sB,sC];refine tQ 13 ⟨some 27,.load 3 (.tmp 26),3,_,_,some (8,false)⟩ ?_;simp only[Act.put,sA,sB,sC];refine tQ 14 ⟨some 28,.binOp .eql 3 (.tmp 27) (.const (Value.int IntKind.i64 (-1))) 3,4,_,_,some (8,false)⟩ ?_;simp only[Act.put,sA,sB,sC];refine tQ 15 ⟨some 29,.binOp .neq 4 (.tmp 25) (.tmp 28) 4,4,_,_,some (8,false)⟩ ?_;simp only[Act.put,sA,sB,sC];refine tQ 16 ⟨some 30,.pick (.tmp 22) (.const (Value.bool true)) (.tmp 29),4,_,_,none⟩ ?_;simp only[Act.put,sA,sB,sC];refine wpAnyH_done (by kernel_rfl) ?_ _;go_wp2_with fail;go_ret;exact⟨rfl,hs.drop⟩

set_option maxHeartbeats 2000000 in
set_option maxRecDepth 100000 in
theorem val_check_e00t (p e t s u st:Int) (q:Option Addr) (cap:Nat) (hrg:(decide (0≤p) && (decide (0≤e) && (decide (e≤32767) && (decide (0≤t) && (decide (t≤2147483647) && (decide (0≤u) && decide (-1≤st)))))))=true) (hs1:0≤s) (hs2:s<7) (hi:idle s=true) (h1:¬s=0) (h2:¬st= -1) (htr:tRise (([]:List (TopS×Value)).map (·.1))=true) (hf:FewT []){W0 w:World}{K:Know}{L:List Res}(hk:K.has (Know.tops (.slice q 0 cap) [])) (h:St W0 w K L):
    Calls Tryz.prog 91 #[.agg #[.int .i64 p,.int .i64 e,.int .i64 t,.int .i64 s,.slice q 0 cap,.int .i64 u,.int .i64 st]] w fun en w'=>en=.returned (.int .i64 0)∧St W0 w' K L:=by
  have HK:=Lib.hid hk;have HF:=Lib.hid hf;obtain⟨vb,hvb⟩:∃b,w.heap.size=b:=⟨_,rfl⟩;have h1:=h.allocRaw #[.int .i64 p,.int .i64 e,.int .i64 t,.int .i64 s,.slice q 0 cap,.int .i64 u,.int .i64 st] 107;rw[hvb]at h1;have c0:=(h1).rawCell 0;have c1:=(h1).rawCell 1;have c2:=(h1).rawCell 2;have c3:=(h1).rawCell 3;have c4:=(h1).rawCell 4;have c5:=(h1).rawCell 5;have c6:=(h1).rawCell 6;simp at c0 c1 c2 c3 c4 c5 c6;have H:=Lib.hid h1;clear h h1 hk hf;have HTR:=Lib.hid htr;clear htr;have HRG:=Lib.hid hrg;have HI:=Lib.hid hi;have g1:¬s<0:=by omega
  have g2:¬7≤s:=by omega
  clear hrg hi

  have k1:(s==0)=false:=by rw[beq_eq_false_iff_ne];exact h1
  have k2:(st== -1)=false:=by rw[beq_eq_false_iff_ne];exact h2
  go_enter Tryz.func91,Tryz.ntmps91;go_wp2_with (go_at_call 146;(with_reducible refine(val_ranged _ _ _ _ _ _ _ true HRG.out H.out).mono ?_);rintro e_ wn ⟨rfl,h⟩;have c0:=(h).rawCell 0;have c1:=(h).rawCell 1;have c2:=(h).rawCell 2;have c3:=(h).rawCell 3;have c4:=(h).rawCell 4;have c5:=(h).rawCell 5;have c6:=(h).rawCell 6;simp at c0 c1 c2 c3 c4 c5 c6;replace H:=Lib.hid h;clear h);have hs:=H.out.drew;have HKP:=Lib.hid (show ∀w',St W0 w' K (.raw vb #[.int .i64 p,.int .i64 e,.int .i64 t,.int .i64 s,.slice q 0 cap,.int .i64 u,.int .i64 st] 107::L)→(w'.cell? ⟨vb,3,none⟩=some (.int .i64 s)∧w'.cell? ⟨vb,4,none⟩=some (.slice q 0 cap)∧w'.cell? ⟨vb,6,none⟩=some (.int .i64 st))from fun w' hs=>⟨hs.rawCell 3,hs.rawCell 4,hs.rawCell 6⟩);refine wp_region_held_drew (S:=fun w'=>w'.cell? ⟨vb,3,none⟩=some (.int .i64 s)∧w'.cell? ⟨vb,4,none⟩=some (.slice q 0 cap)∧w'.cell? ⟨vb,6,none⟩=some (.int .i64 st)) (by kernel_rfl) (HKP.out _ hs) (fun hHeld=> ?_);refine tQ 0 ⟨some 14,.fieldAddr 107 (.tmp 1) 3,0,_,_,none⟩ ?_;simp only[Act.put,sA,sB,sC];refine tQ 1 ⟨some 15,.load 3 (.tmp 14),3,_,_,none⟩ ?_;simp only[Act.put,sA,sB,sC];refine tQ 3 ⟨some 17,.fieldAddr 107 (.tmp 1) 4,0,_,_,none⟩ ?_;simp only[Act.put,sA,sB,sC];refine tQ 4 ⟨some 18,.load 28 (.tmp 17),28,_,_,none⟩ ?_;simp only[Act.put,sA,sB,sC];refine tQ 5 ⟨some 19,.call {callee:=.builtin .len,args:= #[.tmp 18],argTypes:= #[28]},3,_,_,none⟩ ?_;simp only[Act.put,sA,sB,sC];refine tQ 6 ⟨some 20,.binOp .eql 3 (.tmp 19) (.const (Value.int IntKind.i64 0)) 3,4,_,_,none⟩ ?_;simp only[Act.put,sA,sB,sC];refine wpAnyH_ready (rs:=[2]) (by kernel_rfl) (by simp) (AllReadyH.cons (o:=⟨some 16,.call {callee:=.value (.func 147),args:= #[.tmp 15],argTypes:= #[3]},4,_,_,none⟩) rfl (fun KK hK=> ?_) AllReadyH.nil);go_simp;go_at_call 147;with_reducible refine(val_idle _ _ HI.out hs).mono ?_;rintro e wq ⟨rfl,hs⟩;refine hK.out _ _ (HKP.out _ hs) (fun hHeld=> ?_);clear hK KK
  try simp only[Act.put,sA,sB,sC]
  refine tQ 7 ⟨some 21,.binOp .neq 4 (.tmp 16) (.tmp 20) 4,4,_,_,none⟩ ?_;simp only[Act.put,sA,sB,sC];refine tQ 8 ⟨some 22,.move (.tmp 21),4,_,_,none⟩ ?_;simp only[Act.put,sA,sB,sC];refine tQ 9 ⟨some 23,.fieldAddr 107 (.tmp 1) 3,0,_,_,some (8,false)⟩ ?_;simp only[Act.put,sA,sB,sC];refine tQ 10 ⟨some 24,.load 3 (.tmp 23),3,_,_,some (8,false)⟩ ?_;simp only[Act.put,sA,sB,sC];refine tQ 11 ⟨some 25,.binOp .eql 3 (.tmp 24) (.const (Value.int IntKind.i64 0)) 3,4,_,_,some (8,false)⟩ ?_;simp only[Act.put,sA,sB,sC];refine tQ 12 ⟨some 26,.fieldAddr 107 (.tmp 1) 6,0,_,_,some (8,false)⟩ ?_;simp only[Act.put,sA,sB,sC];refine tQ 13 ⟨some 27,.load 3 (.tmp 26),3,_,_,some (8,false)⟩ ?_;simp only[Act.put,sA,sB,sC];refine tQ 14 ⟨some 28,.binOp .eql 3 (.tmp 27) (.const (Value.int IntKind.i64 (-1))) 3,4,_,_,some (8,false)⟩ ?_;simp only[Act.put,sA,sB,sC];refine tQ 15 ⟨some 29,.binOp .neq 4 (.tmp 25) (.tmp 28) 4,4,_,_,some (8,false)⟩ ?_;simp only[Act.put,sA,sB,sC];refine tQ 16 ⟨some 30,.pick (.tmp 22) (.const (Value.bool true)) (.tmp 29),4,_,_,none⟩ ?_;simp only[Act.put,sA,sB,sC];refine wpAnyH_done (by kernel_rfl) ?_ _;clear H;have c4:=hs.rawCell 4;simp at c4;have H:=Lib.hid hs;clear hs;go_wp2_with (go_at_call 148;(with_reducible refine(val_topicsRise0 _ _ true HTR.out HF.out HK.out H.out).mono ?_);rintro e_ wn ⟨rfl,h⟩;replace H:=Lib.hid h;clear h);go_ret;exact⟨rfl,H.out.drop⟩

set_option maxHeartbeats 2000000 in
set_option maxRecDepth 100000 in
theorem val_check_f01 (p e t s u st:Int) (l:List (TopS×Value)) (q:Option Addr) (cap:Nat) (hrg:(decide (0≤p) && (decide (0≤e) && (decide (e≤32767) && (decide (0≤t) && (decide (t≤2147483647) && (decide (0≤u) && decide (-1≤st)))))))=true) (hs1:0≤s) (hs2:s<7) (hi:idle s=false) (hem:¬l=[]) (h1:¬s=0) (h2:st= -1) (hf:FewT l){W0 w:World}{K:Know}{L:List Res}(hk:K.has (Know.tops (.slice q l.length cap) l)) (h:St W0 w K L):
  Calls Tryz.prog 91 #[.agg #[.int .i64 p,.int .i64 e,.int .i64 t,.int .i64 s,.slice q l.length cap,.int .i64 u,.int .i64 st]] w fun en w'=>en=.returned (.int .i64 10)∧St W0 w' K L:=by
 have HK:=Lib.hid hk;have HF:=Lib.hid hf;obtain⟨vb,hvb⟩:∃b,w.heap.size=b:=⟨_,rfl⟩;have h1:=h.allocRaw #[.int .i64 p,.int .i64 e,.int .i64 t,.int .i64 s,.slice q l.length cap,.int .i64 u,.int .i64 st] 107;rw[hvb]at h1;have c0:=(h1).rawCell 0;have c1:=(h1).rawCell 1;have c2:=(h1).rawCell 2;have c3:=(h1).rawCell 3;have c4:=(h1).rawCell 4;have c5:=(h1).rawCell 5;have c6:=(h1).rawCell 6;simp at c0 c1 c2 c3 c4 c5 c6;have H:=Lib.hid h1;clear h h1 hk hf;have HRG:=Lib.hid hrg;have HI:=Lib.hid hi;have g1:¬s<0:=by omega
 have g2:¬7≤s:=by omega
 clear hrg hi;have hl0:((l.length:Int)==0)=false:=by rw[beq_eq_false_iff_ne];intro h;exact hem (List.length_eq_zero_iff.1 (by omega))
 have k1:(s==0)=false:=by rw[beq_eq_false_iff_ne];exact h1
 subst h2;go_enter Tryz.func91,Tryz.ntmps91;go_wp2_with (go_at_call 146;(with_reducible refine(val_ranged _ _ _ _ _ _ _ true HRG.out H.out).mono ?_);rintro e_ wn ⟨rfl,h⟩;have c0:=(h).rawCell 0;have c1:=(h).rawCell 1;have c2:=(h).rawCell 2;have c3:=(h).rawCell 3;have c4:=(h).rawCell 4;have c5:=(h).rawCell 5;have c6:=(h).rawCell 6;simp at c0 c1 c2 c3 c4 c5 c6;replace H:=Lib.hid h;clear h);have hs:=H.out.drew;have HKP:=Lib.hid (show ∀w',St W0 w' K (.raw vb #[.int .i64 p,.int .i64 e,.int .i64 t,.int .i64 s,.slice q l.length cap,.int .i64 u,.int .i64 (-1)] 107::L)→(w'.cell? ⟨vb,3,none⟩=some (.int .i64 s)∧w'.cell? ⟨vb,4,none⟩=some (.slice q l.length cap)∧w'.cell? ⟨vb,6,none⟩=some (.int .i64 (-1)))from fun w' hs=>⟨hs.rawCell 3,hs.rawCell 4,hs.rawCell 6⟩);refine wp_region_held_drew (S:=fun w'=>w'.cell? ⟨vb,3,none⟩=some (.int .i64 s)∧w'.cell? ⟨vb,4,none⟩=some (.slice q l.length cap)∧w'.cell? ⟨vb,6,none⟩=some (.int .i64 (-1))) (by kernel_rfl) (HKP.out _ hs) (fun hHeld=> ?_);refine tQ 0 ⟨some 14,.fieldAddr 107 (.tmp 1) 3,0,_,_,none⟩ ?_;simp only[Act.put,sA,sB,sC];refine tQ 1 ⟨some 15,.load 3 (.tmp 14),3,_,_,none⟩ ?_;simp only[Act.put,sA,sB,sC];refine tQ 3 ⟨some 17,.fieldAddr 107 (.tmp 1) 4,0,_,_,none⟩ ?_;simp only[Act.put,sA,sB,sC];refine tQ 4 ⟨some 18,.load 28 (.tmp 17),28,_,_,none⟩ ?_;simp only[Act.put,sA,sB,sC];refine tQ 5 ⟨some 19,.call {callee:=.builtin .len,args:= #[.tmp 18],argTypes:= #[28]},3,_,_,none⟩ ?_;simp only[Act.put,sA,sB,sC];refine tQ 6 ⟨some 20,.binOp .eql 3 (.tmp 19) (.const (Value.int IntKind.i64 0)) 3,4,_,_,none⟩ ?_;simp only[Act.put,sA,sB,sC];refine wpAnyH_ready (rs:=[2]) (by kernel_rfl) (by simp) (AllReadyH.cons (o:=⟨some 16,.call {callee:=.value (.func 147),args:= #[.tmp 15],argTypes:= #[3]},4,_,_,none⟩) rfl (fun KK hK=> ?_) AllReadyH.nil);go_simp;go_at_call 147;with_reducible refine(val_idle _ _ HI.out hs).mono ?_;rintro e wq ⟨rfl,hs⟩;refine hK.out _ _ (HKP.out _ hs) (fun hHeld=> ?_);clear hK KK
 try simp only[Act.put,sA,sB,sC]
 refine tQ 7 ⟨some 21,.binOp .neq 4 (.tmp 16) (.tmp 20) 4,4,_,_,none⟩ ?_;simp only[Act.put,sA,sB,sC];refine tQ 8 ⟨some 22,.move (.tmp 21),4,_,_,none⟩ ?_;simp only[Act.put,sA,sB,sC];refine tQ 9 ⟨some 23,.fieldAddr 107 (.tmp 1) 3,0,_,_,some (8,false)⟩ ?_;simp only[Act.put,sA,sB,sC];refine tQ 10 ⟨some 24,.load 3 (.tmp 23),3,_,_,some (8,false)⟩ ?_;simp only[Act.put,sA,sB,sC];refine tQ 11 ⟨some 25,.binOp .eql 3 (.tmp 24) (.const (Value.int IntKind.i64 0)) 3,4,_,_,some (8,false)⟩ ?_;simp only[Act.put,sA,sB,sC];refine tQ 12 ⟨some 26,.fieldAddr 107 (.tmp 1) 6,0,_,_,some (8,false)⟩ ?_;simp only[Act.put,sA,sB,sC];refine tQ 13 ⟨some 27,.load 3 (.tmp 26),3,_,_,some (8,false)⟩ ?_;simp only[Act.put,sA,sB,sC];refine tQ 14 ⟨some 28,.binOp .eql 3 (.tmp 27) (.const (Value.int IntKind.i64 (-1))) 3,4,_,_,some (8,false)⟩ ?_;simp only[Act.put,sA,sB,sC];refine tQ 15 ⟨some 29,.binOp .neq 4 (.tmp 25) (.tmp 28) 4,4,_,_,some (8,false)⟩ ?_;simp only[Act.put,sA,sB,sC];refine tQ 16 ⟨some 30,.pick (.tmp 22) (.const (Value.bool true)) (.tmp 29),4,_,_,none⟩ ?_;simp only[Act.put,sA,sB,sC];refine wpAnyH_done (by kernel_rfl) ?_ _;go_wp2_with fail;go_ret;exact⟨rfl,hs.drop⟩

set_option maxHeartbeats 2000000 in
set_option maxRecDepth 100000 in
theorem val_check_f00t (p e t s u st:Int) (l:List (TopS×Value)) (q:Option Addr) (cap:Nat) (hrg:(decide (0≤p) && (decide (0≤e) && (decide (e≤32767) && (decide (0≤t) && (decide (t≤2147483647) && (decide (0≤u) && decide (-1≤st)))))))=true) (hs1:0≤s) (hs2:s<7) (hi:idle s=false) (hem:¬l=[]) (h1:¬s=0) (h2:¬st= -1) (htr:tRise (l.map (·.1))=true) (hf:FewT l){W0 w:World}{K:Know}{L:List Res}(hk:K.has (Know.tops (.slice q l.length cap) l)) (h:St W0 w K L):
  Calls Tryz.prog 91 #[.agg #[.int .i64 p,.int .i64 e,.int .i64 t,.int .i64 s,.slice q l.length cap,.int .i64 u,.int .i64 st]] w fun en w'=>en=.returned (.int .i64 0)∧St W0 w' K L:=by
 have HK:=Lib.hid hk;have HF:=Lib.hid hf;obtain⟨vb,hvb⟩:∃b,w.heap.size=b:=⟨_,rfl⟩;have h1:=h.allocRaw #[.int .i64 p,.int .i64 e,.int .i64 t,.int .i64 s,.slice q l.length cap,.int .i64 u,.int .i64 st] 107;rw[hvb]at h1;have c0:=(h1).rawCell 0;have c1:=(h1).rawCell 1;have c2:=(h1).rawCell 2;have c3:=(h1).rawCell 3;have c4:=(h1).rawCell 4;have c5:=(h1).rawCell 5;have c6:=(h1).rawCell 6;simp at c0 c1 c2 c3 c4 c5 c6;have H:=Lib.hid h1;clear h h1 hk hf;have HTR:=Lib.hid htr;clear htr;have HRG:=Lib.hid hrg;have HI:=Lib.hid hi;have g1:¬s<0:=by omega
 have g2:¬7≤s:=by omega
 clear hrg hi;have hl0:((l.length:Int)==0)=false:=by rw[beq_eq_false_iff_ne];intro h;exact hem (List.length_eq_zero_iff.1 (by omega))
 have k1:(s==0)=false:=by rw[beq_eq_false_iff_ne];exact h1
 have k2:(st== -1)=false:=by rw[beq_eq_false_iff_ne];exact h2
 go_enter Tryz.func91,Tryz.ntmps91;go_wp2_with (go_at_call 146;(with_reducible refine(val_ranged _ _ _ _ _ _ _ true HRG.out H.out).mono ?_);rintro e_ wn ⟨rfl,h⟩;have c0:=(h).rawCell 0;have c1:=(h).rawCell 1;have c2:=(h).rawCell 2;have c3:=(h).rawCell 3;have c4:=(h).rawCell 4;have c5:=(h).rawCell 5;have c6:=(h).rawCell 6;simp at c0 c1 c2 c3 c4 c5 c6;replace H:=Lib.hid h;clear h);have hs:=H.out.drew;have HKP:=Lib.hid (show ∀w',St W0 w' K (.raw vb #[.int .i64 p,.int .i64 e,.int .i64 t,.int .i64 s,.slice q l.length cap,.int .i64 u,.int .i64 st] 107::L)→(w'.cell? ⟨vb,3,none⟩=some (.int .i64 s)∧w'.cell? ⟨vb,4,none⟩=some (.slice q l.length cap)∧w'.cell? ⟨vb,6,none⟩=some (.int .i64 st))from fun w' hs=>⟨hs.rawCell 3,hs.rawCell 4,hs.rawCell 6⟩);refine wp_region_held_drew (S:=fun w'=>w'.cell? ⟨vb,3,none⟩=some (.int .i64 s)∧w'.cell? ⟨vb,4,none⟩=some (.slice q l.length cap)∧w'.cell? ⟨vb,6,none⟩=some (.int .i64 st)) (by kernel_rfl) (HKP.out _ hs) (fun hHeld=> ?_);refine tQ 0 ⟨some 14,.fieldAddr 107 (.tmp 1) 3,0,_,_,none⟩ ?_;simp only[Act.put,sA,sB,sC];refine tQ 1 ⟨some 15,.load 3 (.tmp 14),3,_,_,none⟩ ?_;simp only[Act.put,sA,sB,sC];refine tQ 3 ⟨some 17,.fieldAddr 107 (.tmp 1) 4,0,_,_,none⟩ ?_;simp only[Act.put,sA,sB,sC];refine tQ 4 ⟨some 18,.load 28 (.tmp 17),28,_,_,none⟩ ?_;simp only[Act.put,sA,sB,sC];refine tQ 5 ⟨some 19,.call {callee:=.builtin .len,args:= #[.tmp 18],argTypes:= #[28]},3,_,_,none⟩ ?_;simp only[Act.put,sA,sB,sC];refine tQ 6 ⟨some 20,.binOp .eql 3 (.tmp 19) (.const (Value.int IntKind.i64 0)) 3,4,_,_,none⟩ ?_;simp only[Act.put,sA,sB,sC];refine wpAnyH_ready (rs:=[2]) (by kernel_rfl) (by simp) (AllReadyH.cons (o:=⟨some 16,.call {callee:=.value (.func 147),args:= #[.tmp 15],argTypes:= #[3]},4,_,_,none⟩) rfl (fun KK hK=> ?_) AllReadyH.nil);go_simp;go_at_call 147;with_reducible refine(val_idle _ _ HI.out hs).mono ?_;rintro e wq ⟨rfl,hs⟩;refine hK.out _ _ (HKP.out _ hs) (fun hHeld=> ?_);clear hK KK
 try simp only[Act.put,sA,sB,sC]
 refine tQ 7 ⟨some 21,.binOp .neq 4 (.tmp 16) (.tmp 20) 4,4,_,_,none⟩ ?_;simp only[Act.put,sA,sB,sC];refine tQ 8 ⟨some 22,.move (.tmp 21),4,_,_,none⟩ ?_;simp only[Act.put,sA,sB,sC];refine tQ 9 ⟨some 23,.fieldAddr 107 (.tmp 1) 3,0,_,_,some (8,false)⟩ ?_;simp only[Act.put,sA,sB,sC];refine tQ 10 ⟨some 24,.load 3 (.tmp 23),3,_,_,some (8,false)⟩ ?_;simp only[Act.put,sA,sB,sC];refine tQ 11 ⟨some 25,.binOp .eql 3 (.tmp 24) (.const (Value.int IntKind.i64 0)) 3,4,_,_,some (8,false)⟩ ?_;simp only[Act.put,sA,sB,sC];refine tQ 12 ⟨some 26,.fieldAddr 107 (.tmp 1) 6,0,_,_,some (8,false)⟩ ?_;simp only[Act.put,sA,sB,sC];refine tQ 13 ⟨some 27,.load 3 (.tmp 26),3,_,_,some (8,false)⟩ ?_;simp only[Act.put,sA,sB,sC];refine tQ 14 ⟨some 28,.binOp .eql 3 (.tmp 27) (.const (Value.int IntKind.i64 (-1))) 3,4,_,_,some (8,false)⟩ ?_;simp only[Act.put,sA,sB,sC];refine tQ 15 ⟨some 29,.binOp .neq 4 (.tmp 25) (.tmp 28) 4,4,_,_,some (8,false)⟩ ?_;simp only[Act.put,sA,sB,sC];refine tQ 16 ⟨some 30,.pick (.tmp 22) (.const (Value.bool true)) (.tmp 29),4,_,_,none⟩ ?_;simp only[Act.put,sA,sB,sC];refine wpAnyH_done (by kernel_rfl) ?_ _;clear H;have c4:=hs.rawCell 4;simp at c4;have H:=Lib.hid hs;clear hs;go_wp2_with (go_at_call 148;(with_reducible refine(val_topicsRise l _ _ true HTR.out HF.out HK.out H.out).mono ?_);rintro e_ wn ⟨rfl,h⟩;replace H:=Lib.hid h;clear h);go_ret;exact⟨rfl,H.out.drop⟩

set_option maxHeartbeats 2000000 in
set_option maxRecDepth 100000 in
theorem val_check_f00b (p e t s u st:Int) (l:List (TopS×Value)) (q:Option Addr) (cap:Nat) (hrg:(decide (0≤p) && (decide (0≤e) && (decide (e≤32767) && (decide (0≤t) && (decide (t≤2147483647) && (decide (0≤u) && decide (-1≤st)))))))=true) (hs1:0≤s) (hs2:s<7) (hi:idle s=false) (hem:¬l=[]) (h1:¬s=0) (h2:¬st= -1) (htr:tRise (l.map (·.1))=false) (hf:FewT l){W0 w:World}{K:Know}{L:List Res}(hk:K.has (Know.tops (.slice q l.length cap) l)) (h:St W0 w K L):
  Calls Tryz.prog 91 #[.agg #[.int .i64 p,.int .i64 e,.int .i64 t,.int .i64 s,.slice q l.length cap,.int .i64 u,.int .i64 st]] w fun en w'=>en=.returned (.int .i64 13)∧St W0 w' K L:=by
 have HK:=Lib.hid hk;have HF:=Lib.hid hf;obtain⟨vb,hvb⟩:∃b,w.heap.size=b:=⟨_,rfl⟩;have h1:=h.allocRaw #[.int .i64 p,.int .i64 e,.int .i64 t,.int .i64 s,.slice q l.length cap,.int .i64 u,.int .i64 st] 107;rw[hvb]at h1;have c0:=(h1).rawCell 0;have c1:=(h1).rawCell 1;have c2:=(h1).rawCell 2;have c3:=(h1).rawCell 3;have c4:=(h1).rawCell 4;have c5:=(h1).rawCell 5;have c6:=(h1).rawCell 6;simp at c0 c1 c2 c3 c4 c5 c6;have H:=Lib.hid h1;clear h h1 hk hf;have HTR:=Lib.hid htr;clear htr;have HRG:=Lib.hid hrg;have HI:=Lib.hid hi;have g1:¬s<0:=by omega
 have g2:¬7≤s:=by omega
 clear hrg hi;have hl0:((l.length:Int)==0)=false:=by rw[beq_eq_false_iff_ne];intro h;exact hem (List.length_eq_zero_iff.1 (by omega))
 have k1:(s==0)=false:=by rw[beq_eq_false_iff_ne];exact h1
 have k2:(st== -1)=false:=by rw[beq_eq_false_iff_ne];exact h2
 go_enter Tryz.func91,Tryz.ntmps91;go_wp2_with (go_at_call 146;(with_reducible refine(val_ranged _ _ _ _ _ _ _ true HRG.out H.out).mono ?_);rintro e_ wn ⟨rfl,h⟩;have c0:=(h).rawCell 0;have c1:=(h).rawCell 1;have c2:=(h).rawCell 2;have c3:=(h).rawCell 3;have c4:=(h).rawCell 4;have c5:=(h).rawCell 5;have c6:=(h).rawCell 6;simp at c0 c1 c2 c3 c4 c5 c6;replace H:=Lib.hid h;clear h);have hs:=H.out.drew;have HKP:=Lib.hid (show ∀w',St W0 w' K (.raw vb #[.int .i64 p,.int .i64 e,.int .i64 t,.int .i64 s,.slice q l.length cap,.int .i64 u,.int .i64 st] 107::L)→(w'.cell? ⟨vb,3,none⟩=some (.int .i64 s)∧w'.cell? ⟨vb,4,none⟩=some (.slice q l.length cap)∧w'.cell? ⟨vb,6,none⟩=some (.int .i64 st))from fun w' hs=>⟨hs.rawCell 3,hs.rawCell 4,hs.rawCell 6⟩);refine wp_region_held_drew (S:=fun w'=>w'.cell? ⟨vb,3,none⟩=some (.int .i64 s)∧w'.cell? ⟨vb,4,none⟩=some (.slice q l.length cap)∧w'.cell? ⟨vb,6,none⟩=some (.int .i64 st)) (by kernel_rfl) (HKP.out _ hs) (fun hHeld=> ?_);refine tQ 0 ⟨some 14,.fieldAddr 107 (.tmp 1) 3,0,_,_,none⟩ ?_;simp only[Act.put,sA,sB,sC];refine tQ 1 ⟨some 15,.load 3 (.tmp 14),3,_,_,none⟩ ?_;simp only[Act.put,sA,sB,sC];refine tQ 3 ⟨some 17,.fieldAddr 107 (.tmp 1) 4,0,_,_,none⟩ ?_;simp only[Act.put,sA,sB,sC];refine tQ 4 ⟨some 18,.load 28 (.tmp 17),28,_,_,none⟩ ?_;simp only[Act.put,sA,sB,sC];refine tQ 5 ⟨some 19,.call {callee:=.builtin .len,args:= #[.tmp 18],argTypes:= #[28]},3,_,_,none⟩ ?_;simp only[Act.put,sA,sB,sC];refine tQ 6 ⟨some 20,.binOp .eql 3 (.tmp 19) (.const (Value.int IntKind.i64 0)) 3,4,_,_,none⟩ ?_;simp only[Act.put,sA,sB,sC];refine wpAnyH_ready (rs:=[2]) (by kernel_rfl) (by simp) (AllReadyH.cons (o:=⟨some 16,.call {callee:=.value (.func 147),args:= #[.tmp 15],argTypes:= #[3]},4,_,_,none⟩) rfl (fun KK hK=> ?_) AllReadyH.nil);go_simp;go_at_call 147;with_reducible refine(val_idle _ _ HI.out hs).mono ?_;rintro e wq ⟨rfl,hs⟩;refine hK.out _ _ (HKP.out _ hs) (fun hHeld=> ?_);clear hK KK
 try simp only[Act.put,sA,sB,sC]
 refine tQ 7 ⟨some 21,.binOp .neq 4 (.tmp 16) (.tmp 20) 4,4,_,_,none⟩ ?_;simp only[Act.put,sA,sB,sC];refine tQ 8 ⟨some 22,.move (.tmp 21),4,_,_,none⟩ ?_;simp only[Act.put,sA,sB,sC];refine tQ 9 ⟨some 23,.fieldAddr 107 (.tmp 1) 3,0,_,_,some (8,false)⟩ ?_;simp only[Act.put,sA,sB,sC];refine tQ 10 ⟨some 24,.load 3 (.tmp 23),3,_,_,some (8,false)⟩ ?_;simp only[Act.put,sA,sB,sC];refine tQ 11 ⟨some 25,.binOp .eql 3 (.tmp 24) (.const (Value.int IntKind.i64 0)) 3,4,_,_,some (8,false)⟩ ?_;simp only[Act.put,sA,sB,sC];refine tQ 12 ⟨some 26,.fieldAddr 107 (.tmp 1) 6,0,_,_,some (8,false)⟩ ?_;simp only[Act.put,sA,sB,sC];refine tQ 13 ⟨some 27,.load 3 (.tmp 26),3,_,_,some (8,false)⟩ ?_;simp only[Act.put,sA,sB,sC];refine tQ 14 ⟨some 28,.binOp .eql 3 (.tmp 27) (.const (Value.int IntKind.i64 (-1))) 3,4,_,_,some (8,false)⟩ ?_;simp only[Act.put,sA,sB,sC];refine tQ 15 ⟨some 29,.binOp .neq 4 (.tmp 25) (.tmp 28) 4,4,_,_,some (8,false)⟩ ?_;simp only[Act.put,sA,sB,sC];refine tQ 16 ⟨some 30,.pick (.tmp 22) (.const (Value.bool true)) (.tmp 29),4,_,_,none⟩ ?_;simp only[Act.put,sA,sB,sC];refine wpAnyH_done (by kernel_rfl) ?_ _;clear H;have c4:=hs.rawCell 4;simp at c4;have H:=Lib.hid hs;clear hs;go_wp2_with (go_at_call 148;(with_reducible refine(val_topicsRise l _ _ false HTR.out HF.out HK.out H.out).mono ?_);rintro e_ wn ⟨rfl,h⟩;replace H:=Lib.hid h;clear h);go_ret;exact⟨rfl,H.out.drop⟩
theorem idle_0:idle 0=true:=rfl
theorem val_check (v:ValS) (l:List (TopS×Value)) (q:Option Addr) (cap:Nat) (hl:l.map (·.1)=v.tops) (E:Int) (he:v.err=E) (hf:FewT l){W0 w:World}{K:Know}{L:List Res}(hk:K.has (Know.tops (.slice q l.length cap) l)) (h:St W0 w K L):
  Calls Tryz.prog 91 #[.agg #[.int .i64 v.prod,.int .i64 v.epoch,.int .i64 v.timeout,.int .i64 v.state,.slice q l.length cap,.int .i64 v.upd,.int .i64 v.started]] w fun en w'=>en=.returned (.int .i64 E)∧St W0 w' K L:=by
 obtain⟨p,e,t,s,tops,u,st⟩:=v;simp only at hl ⊢;subst hl;unfold ValS.err ValS.ranged at he;simp only at he
 cases hrg:(decide (0≤p) && (decide (0≤e) && (decide (e≤32767) && (decide (0≤t) && (decide (t≤2147483647) && (decide (0≤u) && decide (-1≤st)))))))with
 |false=>
  rw[if_pos hrg]at he;subst he;exact val_check_11 p e t s u st l q cap hrg hf hk h
 |true=>
  rw[if_neg (by rw[hrg];decide)]at he
  by_cases hs:s<0∨7≤s
  · rw[if_pos hs]at he;subst he;exact val_check_12 p e t s u st l q cap hrg hs hf hk h
  · rw[if_neg hs]at he;have s1:0≤s:=by omega
    have s2:s<7:=by omega
    have hemp:(l.map (·.1)).isEmpty=decide (l=[]):=by cases l<;>simp
    rw[hemp]at he
    by_cases hem:l=[]
    · rw[decide_eq_true hem]at he
      cases hi:idle s with
      |false=>
       rw[if_pos (.inl (by rw[hi];rfl))]at he;subst he;subst hem;exact val_check_10e p e t s u st q cap hrg s1 s2 hi hf hk h
      |true=>
       by_cases h1:s=0
       · by_cases h2:st= -1
         · rw[if_neg (by rw[hi,h1,h2];decide)]at he;have htr:tRise (l.map (·.1))=true:=by rw[hem];rfl
           rw[if_neg (by rw[htr];decide)]at he;subst he;subst hem;exact val_check_e11t p e t s u st q cap hrg s1 s2 hi h1 h2 htr hf hk h
         · rw[if_pos (.inr (by rw[h1,beq_eq_false_iff_ne.2 h2];rfl))]at he;subst he;subst hem;exact val_check_e10 p e t s u st q cap hrg s1 s2 hi h1 h2 hf hk h
       · by_cases h2:st= -1
         · rw[if_pos (.inr (by rw[h2,beq_eq_false_iff_ne.2 h1];rfl))]at he;subst he;subst hem;exact val_check_e01 p e t s u st q cap hrg s1 s2 hi h1 h2 hf hk h
         · rw[if_neg (by rw[hi,beq_eq_false_iff_ne.2 h1,beq_eq_false_iff_ne.2 h2];decide)]at he;have htr:tRise (l.map (·.1))=true:=by rw[hem];rfl
           rw[if_neg (by rw[htr];decide)]at he;subst he;subst hem;exact val_check_e00t p e t s u st q cap hrg s1 s2 hi h1 h2 htr hf hk h
    · rw[decide_eq_false hem]at he
      cases hi:idle s with
      |true=>
       rw[if_pos (.inl (by rw[hi];rfl))]at he;subst he;exact val_check_10f p e t s u st l q cap hrg s1 s2 hi hem hf hk h
      |false=>
       have h1:¬s=0:=by rintro rfl;rw[idle_0]at hi;cases hi
       by_cases h2:st= -1
       · rw[if_pos (.inr (by rw[h2,beq_eq_false_iff_ne.2 h1];rfl))]at he;subst he;exact val_check_f01 p e t s u st l q cap hrg s1 s2 hi hem h1 h2 hf hk h
       · rw[if_neg (by rw[hi,beq_eq_false_iff_ne.2 h1,beq_eq_false_iff_ne.2 h2];decide)]at he
         cases htr:tRise (l.map (·.1))with
         |true=>
           rw[if_neg (by rw[htr];decide)]at he;subst he;exact val_check_f00t p e t s u st l q cap hrg s1 s2 hi hem h1 h2 htr hf hk h
         |false=>
           rw[if_pos htr]at he;subst he;exact val_check_f00b p e t s u st l q cap hrg s1 s2 hi hem h1 h2 htr hf hk h
theorem fits_rng (n size:Int) (h:fits n size): -9223372036854775808≤n∧n<9223372036854775808:=by
 obtain⟨h1,h2,h3,h4⟩:=h;unfold half at h3 h4
 rcases(by omega:size.toNat - 1=0∨size.toNat - 1=1∨size.toNat - 1=2∨size.toNat - 1=3∨size.toNat - 1=4∨size.toNat - 1=5∨size.toNat - 1=6∨size.toNat - 1=7)with h|h|h|h|h|h|h|h<;>rw[h]at h3 h4<;>omega
theorem zq30 {p:Prop}(h:p:=by unfold OutS.ok;simp only;omega):p:=h
theorem so_intV (p:Nat) (e e2:Bs) (n size:Int) (he:e++beBytes n size.toNat=e2) (hf:fits n size) (hl:e.length≤100000000000000){W0 w:World}{K:Know}{L:List Res}(h:St W0 w K (.out p ⟨e,0⟩::L)):
  Calls Tryz.prog 50 #[outPtr p,.int .i64 n,.int .i64 size] w fun en w'=>en=.returned (.tuple #[])∧St W0 w' K (.out p ⟨e2,0⟩::L):=by
 have h2:=so_int p ⟨e,0⟩ n size (fits_rng n size hf) h zq30;have e3:(⟨e,0⟩:OutS).int n size=⟨e2,0⟩:=by unfold OutS.int;rw[if_pos hf,←he];rfl
 rw[e3]at h2;exact h2
theorem zq18 {p:Prop}(h:p:=by
  show(⟨(e++beBytes (⟨false,s⟩:BlobS).len 2)++s,0⟩:OutS)=_
  rw[List.append_assoc]
  rfl):p:=h
theorem zq28 {p:Prop}(h:p:=by
  show((⟨e,0⟩:OutS).int (⟨false,s⟩:BlobS).len 2).putData ⟨false,s⟩=_
  unfold OutS.int;rw[if_pos hf,←he]
  exact zq18):p:=h
theorem zq36 {p:Prop}(h:p:=by show -32768≤(s.length:Int)∧(s.length:Int)<32768;omega):p:=h
theorem blob_putTextV (p:Nat) (e e2 s:Bs) (he:e++encF 2 ⟨false,s⟩=e2) (hs:s.length≤32767) (hl:e.length≤100000000000000){W0 w:World}{K:Know}{L:List Res}(h:St W0 w K (.out p ⟨e,0⟩::L)):
  Calls Tryz.prog 89 #[outPtr p,.string (bb s)] w fun en w'=>en=.returned (.tuple #[])∧St W0 w' K (.out p ⟨e2,0⟩::L):=by
 have h2:=blob_putText p ⟨e,0⟩ s h zq30;have hf:fits (⟨false,s⟩:BlobS).len 2:=vfits2 _ zq36
 have e3:(⟨e,0⟩:OutS).putText s=⟨e2,0⟩:=by
  exact zq28
 rw[e3]at h2;exact h2
set_option maxHeartbeats 2000000 in
set_option maxRecDepth 100000 in
theorem val_putTopics (po:Nat) (e e2:Bs) (l:List (TopS×Value)) (q:Option Addr) (cap:Nat) (he:e++encTs (l.map (·.1))=e2) (hel:e.length≤1000000) (hf:FitTs (l.map (·.1))){W0 w:World}{K:Know}{L:List Res}(hk:K.has (Know.tops (.slice q l.length cap) l)) (h:St W0 w K (.out po ⟨e,0⟩::L)):
  Calls Tryz.prog 92 #[outPtr po,.slice q l.length cap] w fun en w'=>en=.returned (.tuple #[])∧St W0 w' K (.out po ⟨e2,0⟩::L):=by
 have H:=Lib.hid h;have HK:=Lib.hid hk;have HE:=Lib.hid he;have HEL:=Lib.hid hel;have HF:=Lib.hid hf;have hni:(l.length:Int)≤1000000:=by have:=hf.1;rw[List.length_map]at this;omega
 obtain⟨A,hA⟩:∃A,e++preT (l.map (·.1)) 0=A:=⟨_,rfl⟩;have HA:=Lib.hid (show e++beBytes (l.length:Int) (4:Int).toNat=A by rw[←hA,preT_zero,List.length_map];rfl);have HFL:=Lib.hid (vfits4 (l.length:Int) (by omega));have HR0:=Lib.hid (show e.length≤100000000000000 by omega);clear h hk he hel hf;go_enter Tryz.func92,Tryz.ntmps92;go_wp2_with (go_at_call 50;(with_reducible refine(so_intV po _ _ _ _ HA.out HFL.out HR0.out H.out).mono ?_);rintro e_ wn ⟨rfl,h⟩;replace H:=Lib.hid h;clear h);go_loopw [5,7,14,30] (fun _ _ iv _ wr=>∃k:Nat,k≤l.length∧iv=.int .i64 k∧St W0 wr K (.out po ⟨e++preT (l.map (·.1)) k,0⟩::L)) (fun _ _ iv _ _=>l.length - (intOf iv).toNat)
 case atStart=>exact⟨0,Nat.zero_le _,rfl,by rw[hA];exact H.out⟩
 case round=>
  obtain⟨k,hkl,rfl,hst⟩:=hrel;clear H hA;have H:=Lib.hid hst;clear hst
  by_cases hlt:k<l.length
  · as_aux_lemma=>
    obtain⟨b,off,hqq⟩:=tops_at HK.out H.out (by omega);subst hqq;obtain⟨⟨⟨nm,ps⟩,vx⟩,hx⟩:∃x,l[k]=x:=⟨_,rfl⟩;obtain⟨c0,c1⟩:wr.cell? ⟨b,off+k*2,none⟩=some (.string (bb nm))∧wr.cell? ⟨b,off+k*2+1,none⟩=some vx:=tops_cell HK.out H.out k hlt _ hx;have hmem:((⟨nm,ps⟩:TopS),vx)∈l:=hx ▸ List.getElem_mem hlt;have hxk:K.has (Know.flat RI vx 1 ps):=tops_parts HK.out hmem;obtain⟨qx,capx,hvx⟩:=flat_form hxk H.out;subst hvx;have HXK:=Lib.hid hxk;have hmk:k<(l.map (·.1)).length:=by rw[List.length_map];exact hlt
    have hmg:(l.map (·.1))[k]=⟨nm,ps⟩:=by rw[List.getElem_map,hx]
    have hfx:(⟨nm,ps⟩:TopS).Fit:=HF.out.2 _ (hmg ▸ List.getElem_mem hmk);have HNM:=Lib.hid hfx.1;have HPL:=Lib.hid hfx.2.1;have HPS:=Lib.hid hfx.2.2;have hkn:(k:Int)<(l.length:Int):=by omega
    have hnl:(nm.length:Int)≤32767:=by have:=hfx.1;simp only at this;omega
    have hpl:(ps.length:Int)≤1000000:=by have:=hfx.2.1;simp only at this;omega
    have hst1:=preT_step (l.map (·.1)) k hmk _ hmg;have hle1:=preT_le (l.map (·.1)) HF.out (k+1) hmk;have hln:(l.map (·.1)).length≤1000000:=HF.out.1;simp only at hst1;have hel:=HEL.out;obtain⟨tb,htb⟩:∃b,wr.heap.size=b:=⟨_,rfl⟩;have h:=(H.out.allocRaw #[.string (bb nm),.slice qx ps.length capx] 173).p1;rw[htb]at h;have t0:=h.p1.rawCell 0;have t1:=h.p1.rawCell 1;simp at t0 t1;obtain⟨B0,hB0⟩:∃B,e++preT (l.map (·.1)) k=B:=⟨_,rfl⟩;obtain⟨B1,hB1⟩:∃B,B0++encF 2 ⟨false,nm⟩=B:=⟨_,rfl⟩;obtain⟨B2,hB2⟩:∃B,B1++beBytes (ps.length:Int) 4=B:=⟨_,rfl⟩;have HB3:=Lib.hid (show e++preT (l.map (·.1)) (k+1)=B2++be4s ps by rw[hst1,←hB2,←hB1,←hB0];simp only[List.append_assoc])
    have hlen:(B2++be4s ps).length≤100000000000000:=by
     rw[←HB3.out,List.length_append]
     omega
    have hl0:B0.length≤100000000000000∧B1.length≤100000000000000∧B2.length+4*ps.length≤100000000000000:=by
     rw[List.length_append,be4s_len]at hlen;rw[←hB2,List.length_append]at hlen ⊢;rw[←hB1,List.length_append]at hlen ⊢
     omega
    rw[hB0]at h;have HB1:=Lib.hid hB1;have HB2:=Lib.hid (show B1++beBytes (ps.length:Int) (4:Int).toNat=B2 from hB2);have HL0:=Lib.hid hl0;have HFP:=Lib.hid (vfits4 (ps.length:Int) (by omega))
    have hp0:ps=[]∨∃pb poff,qx=some ⟨pb,poff,none⟩:=by
     by_cases hps:ps=[]
     · exact .inl hps
     · exact .inr (flat_at HXK.out H.out (List.length_pos_iff.2 hps))
    have HP0:=Lib.hid hp0;clear H;have H:=Lib.hid h;clear h hx hmem hxk hmk hmg hfx hst1 hle1 hln hel hB0 hB1 hB2 hlen hl0 hp0
    go_wp2_with (first
  |(go_at_call 89;(with_reducible refine(blob_putTextV po B0 B1 nm HB1.out HNM.out HL0.out.1 H.out).mono ?_);rintro e_ wn ⟨rfl,h⟩;have t0:=h.p1.rawCell 0;have t1:=h.p1.rawCell 1;simp at t0 t1;replace H:=Lib.hid h;clear h)
  |(go_at_call 50;(with_reducible refine(so_intV po B1 B2 _ _ HB2.out HFP.out HL0.out.2.1 H.out).mono ?_);rintro e_ wn ⟨rfl,h⟩;have t0:=h.p1.rawCell 0;have t1:=h.p1.rawCell 1;simp at t0 t1;replace H:=Lib.hid h;clear h))
    clear t0 t1;go_loopw [7,30] (fun _ jv wr=>∃j:Nat,j≤ps.length∧jv=.int .i64 j∧St W0 wr K (.out po ⟨B2++be4s (ps.take j),0⟩::.raw tb #[.string (bb nm),.slice qx ps.length capx] 173::L)) (fun _ jv _=>ps.length - (intOf jv).toNat)
    case atStart=>exact⟨0,Nat.zero_le _,rfl,by rw[List.take_zero];show St W0 _ K (.out po ⟨B2++[],0⟩::_);rw[List.append_nil];exact H.out⟩
    case round=>
     obtain⟨j,hjl,rfl,hst⟩:=hrel;clear H;have H:=Lib.hid hst;clear hst
     by_cases hlj:j<ps.length
     · have hps:¬ps=[]:=by rintro rfl;simp at hlj
       rcases HP0.out with hps2|⟨pb,poff,hq⟩
       · exact absurd hps2 hps
       subst hq;have d0:=int_cell HXK.out H.out j hlj;obtain⟨x,hx⟩:∃x,ps.getD j 0=x:=⟨_,rfl⟩;rw[hx]at d0;have hxr:=HPS.out x (hx ▸ getD_mem ps j hlj);have hst:=be4s_step ps j hlj x hx;obtain⟨C,hC⟩:∃C,B2++be4s (ps.take j)=C:=⟨_,rfl⟩;have h:=H.out;rw[hC]at h;have HC2:=Lib.hid (show C++beBytes x (4:Int).toNat=B2++be4s (ps.take (j+1)) by rw[hst,←hC,List.append_assoc];rfl)
       have HCL:=Lib.hid (show C.length≤100000000000000 by
        rw[←hC,List.length_append,be4s_len,List.length_take];have:=HL0.out.2.2
        omega)
       have HFX:=Lib.hid (vfits4 x hxr);have hji:(j:Int)<(ps.length:Int):=by omega
       clear H;have H:=Lib.hid h;clear h hC hst hx hps hxr;go_wp2_with (go_at_call 50;(with_reducible refine(so_intV po C _ x _ HC2.out HFX.out HCL.out H.out).mono ?_);rintro e_ wn ⟨rfl,h⟩;replace H:=Lib.hid h;clear h);go_roundw
       case rel=>exact⟨j+1,hlj,by go_num,H.out⟩
       case measure=>first|(simp[intOf];done)|(simp[intOf];omega)
     · obtain rfl:j=ps.length:=by omega
       have h:=H.out;rw[List.take_length,←HB3.out]at h;clear H;have H:=Lib.hid h;clear h;go_wp2;go_roundw
       case rel=>exact⟨k+1,hlt,by go_num,H.out.p1.drop⟩
       case measure=>first|(simp[intOf];done)|(simp[intOf];omega)
  · obtain rfl:k=l.length:=by omega
    have h:=H.out;rw[show preT (l.map (·.1)) l.length=encTs (l.map (·.1)) by rw[←preT_all,List.length_map],HE.out]at h;clear H;have H:=Lib.hid h;clear h;go_wp2;go_end0;exact⟨rfl,H.out⟩
theorem ValS.ok_parts (v:ValS) (h:v.err=0):v.ranged=true∧(0≤v.state∧v.state<7)∧idle v.state=v.tops.isEmpty∧(v.state==0)=(v.started== -1)∧tRise v.tops=true:=by
 unfold ValS.err at h
 by_cases h1:v.ranged=false
 · rw[if_pos h1]at h;cases h
 · rw[if_neg h1]at h
   by_cases h2:v.state<0∨7≤v.state
   · rw[if_pos h2]at h;cases h
   · rw[if_neg h2]at h
     by_cases h3:(idle v.state !=v.tops.isEmpty)=true∨((v.state==0) !=(v.started== -1))=true
     · rw[if_pos h3]at h;cases h
     · rw[if_neg h3]at h
       by_cases h4:tRise v.tops=false
       · rw[if_pos h4]at h;cases h
       · refine⟨by cases hh:v.ranged with
           |true=>rfl
           |false=>exact absurd hh h1,by omega,?_,?_,by cases hh:tRise v.tops with
           |true=>rfl
           |false=>exact absurd hh h4⟩
         · have:=fun h=>h3 (.inl h)
           simpa using this
         · have:=fun h=>h3 (.inr h)
           simpa using this
theorem ranged_parts (v:ValS) (h:v.ranged=true):0≤v.prod∧(0≤v.epoch∧v.epoch≤32767)∧(0≤v.timeout∧v.timeout≤2147483647)∧0≤v.upd∧ -1≤v.started:=by
 unfold ValS.ranged at h;simp only[Bool.and_eq_true,decide_eq_true_eq]at h
 omega
theorem pRise_rng (l:List Int) (h:pRise l=true):∀n∈l,0≤n∧n≤2147483647:=by
 intro n hn;obtain⟨i,hi,rfl⟩:=List.mem_iff_getElem.1 hn;have hne:l≠[]:=by rintro rfl;simp at hi
 rw[pRise_pk l hne]at h;have h2:=allN_at h i hi;unfold pk at h2;rw[Bool.and_eq_true]at h2;have h3:=of_decide_eq_true h2.1;rw[List.getD_eq_getElem?_getD,List.getElem?_eq_getElem hi]at h3;exact h3
theorem fit_of_rise (l:List (TopS×Value)) (hf:FewT l) (h:tRise (l.map (·.1))=true):FitTs (l.map (·.1)):=by
 unfold tRise at h;rw[Bool.and_eq_true]at h;refine⟨by rw[List.length_map];exact hf.1,fun t ht=> ?_⟩;have h2:=List.all_eq_true.1 h.1 t ht;unfold tOk at h2;simp only[Bool.and_eq_true,decide_eq_true_eq]at h2;obtain⟨x,hx,rfl⟩:=List.mem_map.1 ht;have h3:=pRise_rng _ h2.2;exact⟨h2.1.2,(hf.2 x hx).2,fun n hn=>by have:=h3 n hn;omega⟩
def ValS.R (v:ValS):Prop:=(-9223372036854775808≤v.prod∧v.prod<9223372036854775808)∧(-9223372036854775808≤v.epoch∧v.epoch<9223372036854775808)∧(-9223372036854775808≤v.timeout∧v.timeout<9223372036854775808)∧(-9223372036854775808≤v.state∧v.state<9223372036854775808)∧(-9223372036854775808≤v.upd∧v.upd<9223372036854775808)∧(-9223372036854775808≤v.started∧v.started<9223372036854775808)
theorem so_textV (p:Nat) (e:Bs){W0 w:World}{K:Know}{L:List Res}(h:St W0 w K (.out p ⟨e,0⟩::L)):
 Calls Tryz.prog 49 #[outPtr p] w fun en w'=>en=.returned (.tuple #[.string (bb e),.int .i64 0])∧St W0 w' K (.out p ⟨e,0⟩::L):=so_text p ⟨e,0⟩ h
theorem val_checkV (p e t s u st:Int) (l:List (TopS×Value)) (q:Option Addr) (cap:Nat) (E:Int) (he:ValS.err ⟨p,e,t,s,l.map (·.1),u,st⟩=E) (hf:FewT l){W0 w:World}{K:Know}{L:List Res}(hk:K.has (Know.tops (.slice q l.length cap) l)) (h:St W0 w K L):
 Calls Tryz.prog 91 #[.agg #[.int .i64 p,.int .i64 e,.int .i64 t,.int .i64 s,.slice q l.length cap,.int .i64 u,.int .i64 st]] w fun en w'=>en=.returned (.int .i64 E)∧St W0 w' K L:=val_check ⟨p,e,t,s,l.map (·.1),u,st⟩ l q cap rfl E he hf hk h
def ValS.z:ValS:=⟨0,0,0,0,[],0,0⟩
def InS.valF (i:InS):ValS×InS:=
  let a:=i.int 8
  let b:=a.2.int 2
  let c:=b.2.int 4
  let d:=c.2.int 1
  let e:=d.2.tops
  let f:=e.2.int 8
  let g:=f.2.int 8
  (⟨a.1,b.1,c.1,d.1,e.1,f.1,g.1⟩,g.2)
theorem valF_eq {i i1 i2 i3 i4 i5 i6 i7:InS}{p e t s u st:Int}{l:List TopS}(h1:i.int 8=(p,i1)) (h2:i1.int 2=(e,i2)) (h3:i2.int 4=(t,i3)) (h4:i3.int 1=(s,i4)) (h5:i4.tops=(l,i5)) (h6:i5.int 8=(u,i6)) (h7:i6.int 8=(st,i7)):i.valF=(⟨p,e,t,s,l,u,st⟩,i7):=by
 unfold InS.valF;simp only[h1,h2,h3,h4,h5,h6,h7]
def decI (s:Bs):InS:=if ((⟨s,0,0⟩:InS).int 2).1=0 then((⟨s,0,0⟩:InS).int 2).2 else((⟨s,0,0⟩:InS).int 2).2.fail 7
def decE (s:Bs):Int:=(decI s).valF.2.close.err
def valDec (s:Bs):ValS×Int:=if decE s≠0 then(ValS.z,decE s)else if (decI s).valF.1.err≠0 then(ValS.z,(decI s).valF.1.err)else((decI s).valF.1,0)
def InS.At (s:Bs) (i:InS):Prop:=i.s=s∧i.pos≤s.length
theorem At.int {s:Bs}{i:InS}(h:i.At s) (k:Int):(i.int k).2.At s:=by
 obtain⟨rfl,h⟩:=h;unfold InS.int
 split
 · unfold InS.fail;split
   · exact⟨rfl,h⟩
   · exact⟨rfl,h⟩
 · unfold InS.take
   split
   · exact⟨rfl,h⟩
   · split
     · exact⟨rfl,h⟩
     · split
       · exact⟨rfl,h⟩
       · rename_i h1 h2 h3
         refine⟨rfl,?_⟩;simp only[InS.left]at h3
         show i.pos+k.toNat≤i.s.length
         omega
theorem At.fail {s:Bs}{i:InS}(h:i.At s) (e:Int):(i.fail e).At s:=by
 unfold InS.fail
 split
 · exact⟨h.1,h.2⟩
 · exact h
theorem intsB_len:∀(n:Nat) (s:Bs),(intsB n s).length=n
  |0,_=>rfl
  |n+1,s=>by show(intsB n (s.drop 4)).length+1=_;rw[intsB_len n]
def FewL (l:List TopS):Prop:=l.length≤1000000∧∀t∈l,t.name.length≤140737488355328∧t.parts.length≤1000000
theorem partsP_few {s:Bs}{l:List Int}{n:Nat}(h:partsP s=.ok (l,n)) (hs:s.length≤1000000):l.length≤1000000:=by
 unfold partsP at h
 cases h1:cntP 4 s with
 |error e=>rw[h1]at h;cases h
 |ok x=>
  rw[h1]at h
  cases h
  have h2:=(cntP_ok (n:=x.1) (k:=x.2) (by decide) h1).2.1;rw[intsB_len]
  omega
theorem textP_few {s:Bs}{d:Bs}{n:Nat}(h:textP s=.ok (d,n)):d.length≤s.length:=by
 unfold textP at h
 cases h1:refixed 2 s with
 |error e=>rw[h1]at h;cases h
 |ok x=>
  rw[h1]at h;simp only at h
  split at h
  · cases h
  · cases h
    unfold refixed gotS at h1
    split at h1
    · cases h1
    · split at h1
      · cases h1;simp[BlobS.none]
      · split at h1
        · cases h1
        · split at h1
          · cases h1
          · cases h1
            simp only[List.length_take,List.length_drop]
            omega
theorem topN_few:∀(n:Nat) (s:Bs) (l:List TopS) (k:Nat),topN n s=.ok (l,k)→s.length≤1000000→l.length=n∧∀t∈l,t.name.length≤140737488355328∧t.parts.length≤1000000
  |0,s,l,k,h,_=>by cases h;exact⟨rfl,fun t ht=>by cases ht⟩
  |n+1,s,l,k,h,hs=>by
    unfold topN at h
    cases h1:topP s with
    |error e=>rw[h1]at h;cases h
    |ok x=>
      rw[h1]at h;simp only at h
      cases h2:topN n (s.drop x.2)with
      |error e=>rw[h2]at h;cases h
      |ok y=>
        rw[h2]at h
        cases h
        have ih:=topN_few n (s.drop x.2) y.1 y.2 h2 (by rw[List.length_drop];omega);refine⟨by rw[List.length_cons,ih.1],fun t ht=> ?_⟩
        rcases List.mem_cons.1 ht with rfl|ht
        · unfold topP at h1
          cases h3:textP s with
          |error e=>rw[h3]at h1;cases h1
          |ok a=>
            rw[h3]at h1;simp only at h1
            cases h4:partsP (s.drop a.2)with
            |error e=>rw[h4]at h1;cases h1
            |ok b=>
              rw[h4]at h1
              cases h1
              have h5:=textP_few (d:=a.1) (n:=a.2) h3;have h6:=partsP_few (l:=b.1) (n:=b.2) h4 (by rw[List.length_drop];omega);exact⟨by simp only;omega,h6⟩
        · exact ih.2 t ht
theorem topsP_few {s:Bs}{l:List TopS}{n:Nat}(h:topsP s=.ok (l,n)) (hs:s.length≤1000000):FewL l:=by
 unfold topsP at h
 cases h1:cntP 6 s with
 |error e=>rw[h1]at h;cases h
 |ok x=>
  rw[h1]at h;simp only at h
  cases h2:topN x.1 (s.drop 4)with
  |error e=>rw[h2]at h;cases h
  |ok y=>
   rw[h2]at h
   cases h
   have h3:=(cntP_ok (n:=x.1) (k:=x.2) (by decide) h1).2.1;have h4:=topN_few x.1 (s.drop 4) y.1 y.2 h2 (by rw[List.length_drop];omega);exact⟨by rw[h4.1];omega,h4.2⟩
theorem tops_few {s:Bs}{i:InS}(ha:i.At s) (hs:s.length≤1000000):FewL i.tops.1:=by
 have hn:FewL []:=⟨by decide,fun t ht=>by cases ht⟩;obtain⟨s',pos,er⟩:=i;obtain⟨h1,h2⟩:=ha;simp only at h1 h2;subst h1
 by_cases he:er=0
 · subst he
   cases h3:topsP (s'.drop pos)with
   |error e=>
    obtain⟨_,q,_,h4⟩:=rds_tops.err s' pos e h2 h3;rw[h4];exact hn
   |ok x=>
    obtain⟨_,h4⟩:=rds_tops.ok s' pos x.1 x.2 h2 h3;rw[h4];exact topsP_few (l:=x.1) (n:=x.2) h3 (by rw[List.length_drop];omega)
 · rw[rds_tops.stuck ⟨s',pos,er⟩ he];exact hn
theorem decI_at (s:Bs):(decI s).At s:=by
 have h0:(⟨s,0,0⟩:InS).At s:=⟨rfl,Nat.zero_le _⟩;unfold decI
 split
 · exact At.int h0 2
 · exact At.fail (At.int h0 2) 7
theorem valF_few {s:Bs}{i:InS}(h:i.At s) (hs:s.length≤1000000):FewL i.valF.1.tops:=tops_few (At.int (At.int (At.int (At.int h 8) 2) 4) 1) hs
theorem fewT_of {lr:List (TopS×Value)}(h:FewL (lr.map (·.1))):FewT lr:=⟨by have:=h.1;rw[List.length_map]at this;exact this,fun x hx=>h.2 x.1 (List.mem_map_of_mem hx)⟩
def who (p e:Int):Bool:=decide (0≤p) && (decide (0≤e) && decide (e≤32767))
theorem who_t {p e:Int}(h:who p e=true):0≤p∧0≤e∧e≤32767:=by
 unfold who at h;simpa only[Bool.and_eq_true,decide_eq_true_eq]using h
theorem who_f {p e:Int}(h:who p e=false):p<0∨e<0∨32767<e:=by
 unfold who at h
 by_cases h1:p<0
 · exact .inl h1
 · by_cases h2:e<0
   · exact .inr (.inl h2)
   · by_cases h3:32767<e
     · exact .inr (.inr h3)
     · rw[decide_eq_true (show 0≤p by omega),decide_eq_true (show 0≤e by omega),decide_eq_true (show e≤32767 by omega)]at h
       cases h
def chkW (id:Bs) (p e:Int):Int:=if keyRight id=false then 4 else if who p e=false then 11 else 0
def InS.boolP (i:InS):Bool×InS:=((i.int 1).1==1,if (i.int 1).1≠0∧(i.int 1).1≠1 then(i.int 1).2.fail 11 else(i.int 1).2)
def encO (c:Bool):Bs:=[if c then 1 else 0]
def riseE (l:List TopS):Int:=if l=[]then 10 else if tRise l=false then 13 else 0
theorem riseE_eq (l:List TopS):ValS.err ⟨0,0,0,1,l,0,0⟩=riseE l:=by
 have h1:ValS.ranged ⟨0,0,0,1,l,0,0⟩=true:=by rfl
 unfold ValS.err riseE;rw[h1]
 cases l with
 |nil=>rfl
 |cons a t=>
  have e0:¬(true=false):=by decide
  have e1:¬((1:Int)<0∨7≤(1:Int)):=by decide
  have e2:¬((idle 1 !=false)=true∨(((1:Int)==0) !=((0:Int)== -1))=true):=by decide
  exact(if_neg e0).trans ((if_neg e1).trans ((if_neg e2).trans (if_neg (List.cons_ne_nil a t)).symm))
set_option maxHeartbeats 1000000 in
set_option maxRecDepth 100000 in
theorem key_right (s:Bs) (hs:s.length≤140737488355328){W0 w:World}{K:Know}{L:List Res}(h:St W0 w K L):
  Calls Tryz.prog 88 #[.string (bb s)] w fun en w'=>en=.returned (.bool (keyRight s))∧St W0 w' K L:=by
 have H:=Lib.hid h;clear h
 cases s with
 |nil=>
  go_enter Tryz.func88,Tryz.ntmps88;go_wp2;go_ret;exact⟨rfl,H.out⟩
 |cons c t=>
  have HS:=Lib.hid hs;clear hs;go_enter Tryz.func88,Tryz.ntmps88;go_wp2;go_ret;refine⟨ret_bool ?_,H.out⟩;unfold keyRight;rw[Bool.eq_iff_iff]
  simp
  omega

set_option maxHeartbeats 1000000 in
set_option maxRecDepth 100000 in
theorem key_encode (s:Bs) (hs:s.length≤40000){W0 w:World}{K:Know}{L:List Res}(h:St W0 w K L):
   Calls Tryz.prog 41 #[.string (bb s)] w fun en w'=>en=.returned (.tuple #[.string (bb (keyEnc s).1),.int .i64 (keyEnc s).2])∧St W0 w' K L:=by
 have H:=Lib.hid h;have HS:=Lib.hid (show s.length≤140737488355328 by omega);have HS2:=Lib.hid hs;clear h hs
 cases hr:keyRight s
 · have e:keyEnc s=([],4):=by unfold keyEnc;rw[hr];rfl
   rw[e];have ER:=Lib.hid hr;clear e hr;go_enter Tryz.func41,Tryz.ntmps41;go_wp2_with (go_at_call 88;refine(key_right s HS.out stQ).mono ?_;(repeat first|rw[ER.out]);rintro e wn ⟨rfl,h⟩;replace H:=Lib.hid h;clear h);go_ret2;exact⟨rfl,H.out⟩
 · have e:keyEnc s=(keyBytes s,0):=by unfold keyEnc;rw[hr];rfl
   rw[e];have hle:s.length≤32767:=by unfold keyRight at hr;simp at hr;exact hr.2
   have ER:=Lib.hid hr;have E1:=Lib.hid (show(⟨[],0⟩:OutS).int 0 2=⟨beBytes 0 2,0⟩from by decide+kernel)
   have E2:=Lib.hid (show(⟨beBytes 0 2,0⟩:OutS).putText s=⟨keyBytes s,0⟩from by
    unfold OutS.putText OutS.putFixed OutS.int OutS.putData;rw[if_pos (fits_len2 s hle)]
    show(((⟨beBytes 0 2,0⟩:OutS).put _).put s)=_
    rw[OutS.put_put];unfold keyBytes;rw[List.append_assoc]
    rfl)
   have E3:=Lib.hid (show(⟨keyBytes s,0⟩:OutS).text=(keyBytes s,0)from rfl);clear e hr hle;go_enter Tryz.func41,Tryz.ntmps41
   go_wp2_with (first
    |(go_at_call 88;refine(key_right s HS.out stQ).mono ?_;(repeat first|rw[ER.out]);rintro e wn ⟨rfl,h⟩;replace H:=Lib.hid h;clear h;replace H:=Lib.hid H.out.allocOut)
    |(go_at_call 50;refine(so_int _ _ 0 2 (by decide) stQ (by simp[OutS.ok])).mono ?_;(repeat first|rw[E1.out]);rintro e wn ⟨rfl,h⟩;replace H:=Lib.hid h;clear h)
    |(go_at_call 89;refine(blob_putText _ _ s stQ (by have:=HS2.out;simp only[OutS.ok,beBytes_length];omega)).mono ?_;(repeat first|rw[E2.out]);rintro e wn ⟨rfl,h⟩;replace H:=Lib.hid h;clear h)
    |(go_at_call 49;refine(so_text _ _ stQ).mono ?_;(repeat first|rw[E3.out]);rintro e wn ⟨rfl,h⟩;replace H:=Lib.hid h;clear h))
   go_ret2;exact⟨rfl,H.out.drop⟩

theorem keyDec_tuple (s:Bs):Value.tuple #[.string (bb (keyDec s).1),.int .i64 (keyDec s).2]=if (keyJ s).close.err=0 then .tuple #[.string (bb (keyI s).text.1),.int .i64 0]else .tuple #[.string (bb []),.int .i64 (keyJ s).close.err]:=by
 unfold keyDec;split<;>rfl
set_option maxHeartbeats 1000000 in
set_option maxRecDepth 100000 in
theorem key_decode (s:Bs) (hs:s.length≤40100){W0 w:World}{K:Know}{L:List Res}(h:St W0 w K L):
  Calls Tryz.prog 40 #[.string (bb s)] w fun en w'=>en=.returned (.tuple #[.string (bb (keyDec s).1),.int .i64 (keyDec s).2])∧St W0 w' K L:=by
 have H:=Lib.hid h;have HS:=Lib.hid (show s.length≤140737488355328 by omega);clear h hs;rw[keyDec_tuple];obtain⟨a,ha⟩:∃a,keyA s=a:=⟨_,rfl⟩;have hI:keyI s=if a.1=0 then a.2 else a.2.fail 7:=by unfold keyI;rw[ha]
 obtain⟨i,hi⟩:∃i,keyI s=i:=⟨_,rfl⟩;rw[hi]at hI;obtain⟨t,ht⟩:∃t,i.text=t:=⟨_,rfl⟩;have hJ:keyJ s=if t.1=[]then t.2.fail 4 else t.2:=by unfold keyJ;rw[hi,ht]
 obtain⟨j,hj⟩:∃j,keyJ s=j:=⟨_,rfl⟩;rw[hj]at hJ;obtain⟨c,hc⟩:∃c,j.close=c:=⟨_,rfl⟩;rw[hj,hc,hi,ht];have EA:=Lib.hid (show(⟨s,0,0⟩:InS).int 2=a from ha);have ET:=Lib.hid ht;have EC:=Lib.hid hc;clear ha hi ht hj hc
 by_cases h1:a.1=0<;>by_cases h2:t.1=[]<;>by_cases h3:c.err=0
 all_goals
  first|rw[if_pos h1]at hI|rw[if_neg h1]at hI
  first|rw[if_pos h2]at hJ|rw[if_neg h2]at hJ
  first|rw[if_pos h3]|rw[if_neg h3]
  have b1:(a.1 !=0)=decide (a.1≠0):=by by_cases h:a.1=0<;>simp[h]
  have b2:t.1.isEmpty=decide (t.1=[]):=by cases t.1<;>simp
  have b3:(c.err !=0)=decide (c.err≠0):=by by_cases h:c.err=0<;>simp[h]
  first|rw[decide_eq_true h1]at b1|rw[decide_eq_false (not_not_intro h1)]at b1
  first|rw[decide_eq_true h2]at b2|rw[decide_eq_false h2]at b2
  first|rw[decide_eq_true h3]at b3|rw[decide_eq_false (not_not_intro h3)]at b3
  have EI:=Lib.hid hI.symm;have EJ:=Lib.hid hJ.symm;clear h1 h2 h3 hI hJ;go_enter Tryz.func40,Tryz.ntmps40
  go_wp2_with (first
   |(go_at_call 19;refine(s_new s HS.out stQ).mono ?_;rintro e wn ⟨bi,rfl,h⟩;replace H:=Lib.hid h;clear h)
   |(go_at_call 66;refine(s_int _ _ 2 stQ).mono ?_;(repeat first|rw[EA.out]);rintro e wn ⟨rfl,h⟩;replace H:=Lib.hid h;clear h;(try rw[EI.out]at H))
   |(go_at_call 70;refine(s_fail _ _ _ stQ).mono ?_;(repeat first|rw[EI.out]|rw[EJ.out]);rintro e wn ⟨rfl,h⟩;replace H:=Lib.hid h;clear h)
   |(go_at_call 87;refine(blob_text _ _ stQ).mono ?_;(repeat first|rw[ET.out]);rintro e wn ⟨rfl,h⟩;replace H:=Lib.hid h;clear h;(try rw[EJ.out]at H))
   |(go_at_call 25;refine(s_close _ _ stQ).mono ?_;(repeat first|rw[EC.out]);rintro e wn ⟨rfl,h⟩;replace H:=Lib.hid h;clear h))
  go_ret2;exact⟨rfl,H.out.drop⟩
theorem key_right' (s:Bs) (r:Bool) (hs:s.length≤140737488355328) (hr:keyRight s=r){W0 w:World}{K:Know}{L:List Res}(h:St W0 w K L):
 Calls Tryz.prog 88 #[.string (bb s)] w fun en w'=>en=.returned (.bool r)∧St W0 w' K L:=hr ▸ key_right s hs h
theorem keyRight_iff (s:Bs):keyRight s=true↔1≤s.length∧s.length≤32767:=by
 unfold keyRight
 cases s<;>simp
def idOk (nl:Bool) (d:Bs):Bool:=if nl then d.isEmpty else keyRight d
def was (v p e:Int):Bool:=(p== -1 && e== -1)||(v==1 && who p e)
def begE (v:Int) (nl:Bool) (d:Bs) (tm p e:Int):Int:=if idOk nl d=false then 4 else if tm<0∨2147483647<tm then 11 else if was v p e=false then 11 else 0
def addE (d:Bs) (p e:Int) (l:List TopS):Int:=if chkW d p e≠0 then chkW d p e else riseE l
theorem keyRight_t {d:Bs}(h:keyRight d=true):(1:Int)≤d.length∧(d.length:Int)≤32767:=by
 obtain⟨h1,h2⟩:=(keyRight_iff d).1 h
 omega
theorem begE_ok {v:Int}{nl:Bool}{d:Bs}{tm p e:Int}(h:begE v nl d tm p e=0):idOk nl d=true∧(0≤tm∧tm≤2147483647)∧was v p e=true:=by
 unfold begE at h
 by_cases h1:idOk nl d=false
 · rw[if_pos h1]at h;cases h
 · rw[if_neg h1]at h
   by_cases h2:tm<0∨2147483647<tm
   · rw[if_pos h2]at h;cases h
   · rw[if_neg h2]at h
     by_cases h3:was v p e=false
     · rw[if_pos h3]at h;cases h
     · exact⟨by simpa using h1,by omega,by simpa using h3⟩
theorem idOk_len {nl:Bool}{d:Bs}(h:idOk nl d=true):d.length≤32767∧(⟨nl,d⟩:BlobS).right=true∧fits (⟨nl,d⟩:BlobS).len 2:=by
 unfold idOk at h
 cases nl with
 |true=>
  have h2:d=[]:=by simpa using h
  subst h2;exact⟨by decide,rfl,vfits2 _ (by decide)⟩
 |false=>
  obtain⟨h1,h2⟩:=(keyRight_iff d).1 h;exact⟨h2,rfl,vfits2 _ (by show -32768≤(d.length:Int)∧(d.length:Int)<32768;omega)⟩
theorem was_rng {v p e:Int}(h:was v p e=true): -1≤p∧ -1≤e∧e≤32767:=by
 unfold was at h;rw[Bool.or_eq_true,Bool.and_eq_true,Bool.and_eq_true,beq_iff_eq,beq_iff_eq]at h
 rcases h with ⟨h1,h2⟩|⟨_,h2⟩
 · omega
 · have:=who_t h2;omega
theorem addE_ok {d:Bs}{p e:Int}{l:List TopS}(h:addE d p e l=0):chkW d p e=0∧riseE l=0:=by
 unfold addE at h
 by_cases h1:chkW d p e≠0
 · rw[if_pos h1]at h;exact absurd h h1
 · rw[if_neg h1]at h;exact⟨by simpa using h1,h⟩
theorem riseE_ok {l:List TopS}(h:riseE l=0):tRise l=true:=by
 unfold riseE at h
 by_cases h1:l=[]
 · rw[if_pos h1]at h;cases h
 · rw[if_neg h1]at h
   by_cases h2:tRise l=false
   · rw[if_pos h2]at h;cases h
   · simpa using h2
theorem sInt_back (n:Int) (k:Nat) (h1:1≤k) (hf:fits n k) (R:Bs):getIntN k (beBytes n k++R)=.ok (n,k):=by
 unfold getIntN;have h4:=beBytes_length n k;have hfit:=hf.2.2;rw[Int.toNat_natCast]at hfit;have h5:=(sInt_beBytes_iff n k h1).2 hfit;rw[if_neg zq32,List.take_append_of_le_length (by omega),List.take_of_length_le (by omega),h5]
theorem cntP_back (each n:Nat) (X:Bs) (he:0<each) (hn:n<2147483648) (hl:each*n≤X.length):cntP each (beBytes n 4++X)=.ok (n,4):=by
 have h4:=beBytes_length (n:Int) 4;have h5:sInt (beBytes (n:Int) 4)=n:=(sInt_beBytes_iff n 4 (by decide)).2 (vfits4 n (by omega)).2.2;have h6:(beBytes (n:Int) 4++X).take 4=beBytes (n:Int) 4:=by rw[List.take_append_of_le_length (by omega),List.take_of_length_le (by omega)]
 unfold cntP
 rw[h6,h5,if_neg zq32,if_neg (by omega),if_neg (by
  rw[List.length_append,h4];have e:((4+X.length:Nat):Int) - 4=(X.length:Int):=by omega
  rw[e]
  have h7:(n:Int)≤(X.length:Int) / (each:Int):=by
   rw[Int.le_ediv_iff_mul_le (by omega)];have h8:(n:Int)*(each:Int)=((each*n:Nat):Int):=by rw[Nat.mul_comm];exact(Int.natCast_mul _ _).symm
   omega
  omega)]
 simp
theorem intsB_back:∀(l:List Int) (R:Bs),(∀n∈l,-2147483648≤n∧n<2147483648)→intsB l.length (be4s l++R)=l
  |[],R,_=>rfl
  |n::l,R,h=>by
    have h4:=beBytes_length n 4;have h5:sInt (beBytes n 4)=n:=(sInt_beBytes_iff n 4 (by decide)).2 (vfits4 n (h n (by simp))).2.2
    have e:be4s (n::l)++R=beBytes n 4++(be4s l++R):=by
      show(List.flatMap _ (n::l))++R=_
      rw[List.flatMap_cons,List.append_assoc]
      rfl
    show sInt ((be4s (n::l)++R).take 4)::intsB l.length ((be4s (n::l)++R).drop 4)=n::l
    rw[e,List.take_append_of_le_length (by omega),List.take_of_length_le (by omega),h5,List.drop_append_of_le_length (by omega),List.drop_of_length_le (by omega),List.nil_append,intsB_back l R (fun m hm=>h m (by simp[hm]))]
theorem partsP_back (l:List Int) (hn:l.length≤1000000) (h:∀n∈l,-2147483648≤n∧n<2147483648) (R:Bs):partsP (beBytes l.length 4++be4s l++R)=.ok (l,(beBytes l.length 4++be4s l).length):=by
 unfold partsP;rw[List.append_assoc,cntP_back 4 l.length _ (by decide) (by omega) (by rw[List.length_append,be4s_len];omega)];simp only;have h4:=beBytes_length (l.length:Int) 4;rw[List.drop_append_of_le_length (by omega),List.drop_of_length_le (by omega),List.nil_append,intsB_back l R h,List.length_append,h4,be4s_len]
theorem textP_back (d:Bs) (hd:d.length≤32767) (R:Bs):textP (encF 2 ⟨false,d⟩++R)=.ok (d,(encF 2 ⟨false,d⟩).length):=by
 unfold textP;rw[refixed_back 2 ⟨false,d⟩ (by simp[BlobS.right]) (vfits2 _ (by simp[BlobS.len];omega)) R]
 simp
theorem topP_back (t:TopS) (h:t.Fit) (R:Bs):topP (encT t++R)=.ok (t,(encT t).length):=by
 obtain⟨nm,ps⟩:=t;obtain⟨h1,h2,h3⟩:=h;unfold topP encT;simp only;rw[List.append_assoc,textP_back nm h1];simp only;rw[List.drop_append_of_le_length (by omega),List.drop_of_length_le (by omega),List.nil_append,partsP_back ps h2 h3];simp only[List.length_append]
theorem topN_back:∀(l:List TopS) (R:Bs),(∀t∈l,t.Fit)→topN l.length (l.flatMap encT++R)=.ok (l,(l.flatMap encT).length)
  |[],R,_=>rfl
  |t::l,R,h=>by
    have e:(t::l).flatMap encT++R=encT t++(l.flatMap encT++R):=by rw[List.flatMap_cons,List.append_assoc]
    rw[e]
    show topN (l.length+1) (encT t++(l.flatMap encT++R))=_
    unfold topN;rw[topP_back t (h t (by simp))];simp only;rw[List.drop_append_of_le_length (by omega),List.drop_of_length_le (by omega),List.nil_append,topN_back l R (fun m hm=>h m (by simp[hm]))];simp only[List.flatMap_cons,List.length_append]
theorem flat_least (l:List TopS):6*l.length≤(l.flatMap encT).length:=by
 induction l with
 |nil=>simp
 |cons x m ih=>rw[List.flatMap_cons,List.length_append,List.length_cons,encT_len];omega
theorem topsP_back (l:List TopS) (h:FitTs l) (R:Bs):topsP (encTs l++R)=.ok (l,(encTs l).length):=by
 have h4:=beBytes_length (l.length:Int) 4;have hn:=h.1;have hl:=flat_least l;unfold topsP encTs;rw[List.append_assoc,cntP_back 6 l.length _ (by decide) (by omega) zq32];simp only;rw[List.drop_append_of_le_length (by omega),List.drop_of_length_le (by omega),List.nil_append,topN_back l R h.2];simp only[List.length_append,h4]
theorem step_back {α:Type}{f:InS→α×InS}{p:Bs→Except Int (α×Nat)}{d:α}(h:Rds f p d) (S A X R:Bs) (hS:S=A++X++R) (a:α) (k:Nat) (hk:X.length=k) (hp:p (X++R)=.ok (a,k)):f ⟨S,A.length,0⟩=(a,⟨S,(A++X).length,0⟩):=by
 subst hS;have h2:=(h.ok (A++X++R) A.length a k (by simp) (by rw[List.append_assoc,List.drop_append_of_le_length (by omega),List.drop_of_length_le (by omega),List.nil_append];exact hp)).2;rw[h2,List.length_append,hk]
theorem int_stepV (S A R:Bs) (n:Int) (k:Nat) (h1:1≤k) (h8:k≤8) (hf:fits n k) (hS:S=A++beBytes n k++R):(⟨S,A.length,0⟩:InS).int k=(n,⟨S,(A++beBytes n k).length,0⟩):=
 step_back (rds_intN k h1 h8) S A _ R hS n k (beBytes_length n k) (sInt_back n k h1 hf R)
def topW (t:TopS):Nat:=t.name.length+4*t.parts.length+6
def topWs (l:List TopS):Nat:=(l.map topW).sum
def few (l:List TopS):Int:=if topWs l≤1000 then 1 else 0
theorem sInt_of_take (s:Bs) (k:Nat) (h:k≤s.length):beBytes (sInt (s.take k)) k=s.take k:=by
 have h1:=beBytes_sInt (s.take k);rw[List.length_take,Nat.min_eq_left h]at h1;exact h1
theorem getIntN_one {k:Nat}{s:Bs}{n:Int}{m:Nat}(h:getIntN k s=.ok (n,m)):m=k∧k≤s.length∧s.take k=beBytes n k:=by
 unfold getIntN at h
 by_cases h1:s.length<k
 · rw[if_pos h1]at h;cases h
 · rw[if_neg h1]at h
   cases h
   exact⟨rfl,by omega,(sInt_of_take s k (by omega)).symm⟩
theorem cntP_one {each:Nat}{s:Bs}{n k:Nat}(he:0<each) (h:cntP each s=.ok (n,k)):k=4∧4+each*n≤s.length∧s.take 4=beBytes n 4:=by
 obtain⟨h1,h2,h3,_⟩:=cntP_ok he h;refine⟨h1,h2,?_⟩;rw[h3];exact(sInt_of_take s 4 (by omega)).symm
theorem intsB_one:∀(n:Nat) (s:Bs),4*n≤s.length→be4s (intsB n s)=s.take (4*n)
  |0,s,_=>rfl
  |n+1,s,h=>by
    have ih:=intsB_one n (s.drop 4) (by rw[List.length_drop];omega)
    show be4s (sInt (s.take 4)::intsB n (s.drop 4))=_
    have e:be4s (sInt (s.take 4)::intsB n (s.drop 4))=beBytes (sInt (s.take 4)) 4++be4s (intsB n (s.drop 4)):=by
      unfold be4s;rw[List.flatMap_cons]
    rw[e,ih,sInt_of_take s 4 (by omega),show 4*(n+1)=4+4*n by omega,List.take_add]
theorem partsP_one {s:Bs}{l:List Int}{k:Nat}(h:partsP s=.ok (l,k)):k≤s.length∧s.take k=beBytes l.length 4++be4s l:=by
 unfold partsP at h
 cases h1:cntP 4 s with
 |error e=>rw[h1]at h;cases h
 |ok x=>
  rw[h1]at h
  cases h
  obtain⟨c1,c2,c3⟩:=cntP_one (n:=x.1) (k:=x.2) (by decide) h1;refine⟨by omega,?_⟩;rw[intsB_len,intsB_one x.1 (s.drop 4) (by rw[List.length_drop];omega),List.take_add,c3]
theorem textP_one {s:Bs}{d:Bs}{k:Nat}(h:textP s=.ok (d,k)):k≤s.length∧s.take k=encF 2 ⟨false,d⟩:=by
 unfold textP at h
 cases h1:refixed 2 s with
 |error e=>rw[h1]at h;cases h
 |ok x=>
  rw[h1]at h;simp only at h
  by_cases hn:x.1.null=true
  · rw[if_pos hn]at h;cases h
  · rw[if_neg hn]at h
    cases h
    unfold refixed at h1
    by_cases h2:s.length<2
    · rw[if_pos h2]at h1;cases h1
    rw[if_neg h2]at h1;unfold gotS at h1
    by_cases h3:sInt (s.take 2)= -1
    · rw[if_pos h3]at h1;cases h1;exact absurd rfl hn
    rw[if_neg h3]at h1
    by_cases h4:sInt (s.take 2)<0
    · rw[if_pos h4]at h1;cases h1
    rw[if_neg h4]at h1
    by_cases h5:(s.length:Int) - (2:Nat)<sInt (s.take 2)
    · rw[if_pos h5]at h1;cases h1
    rw[if_neg h5]at h1
    cases h1
    simp only
    have hl:((s.drop 2).take (sInt (s.take 2)).toNat).length=(sInt (s.take 2)).toNat:=by
     rw[List.length_take,List.length_drop];omega
    refine⟨by omega,?_⟩;unfold encF
    have hL:(⟨false,(s.drop 2).take (sInt (s.take 2)).toNat⟩:BlobS).len=sInt (s.take 2):=by
     show(((s.drop 2).take (sInt (s.take 2)).toNat).length:Int)=_
     rw[hl];omega
    rw[hL,sInt_of_take s 2 (by omega),List.take_add]
theorem topP_one {s:Bs}{t:TopS}{k:Nat}(h:topP s=.ok (t,k)):k≤s.length∧s.take k=encT t:=by
 unfold topP at h
 cases h1:textP s with
 |error e=>rw[h1]at h;cases h
 |ok x=>
  rw[h1]at h;simp only at h
  cases h2:partsP (s.drop x.2)with
  |error e=>rw[h2]at h;cases h
  |ok y=>
   rw[h2]at h
   cases h
   obtain⟨a1,a2⟩:=textP_one (d:=x.1) (k:=x.2) h1;obtain⟨b1,b2⟩:=partsP_one (l:=y.1) (k:=y.2) h2;rw[List.length_drop]at b1;refine⟨by omega,?_⟩;unfold encT;rw[List.take_add,a2,b2]
theorem topN_one:∀(n:Nat) (s:Bs) (l:List TopS) (k:Nat),topN n s=.ok (l,k)→l.length=n∧k≤s.length∧s.take k=l.flatMap encT
  |0,s,l,k,h=>by cases h;exact⟨rfl,Nat.zero_le _,rfl⟩
  |n+1,s,l,k,h=>by
    unfold topN at h
    cases h1:topP s with
    |error e=>rw[h1]at h;cases h
    |ok x=>
      rw[h1]at h;simp only at h
      cases h2:topN n (s.drop x.2)with
      |error e=>rw[h2]at h;cases h
      |ok y=>
        rw[h2]at h
        cases h
        obtain⟨a1,a2⟩:=topP_one (t:=x.1) (k:=x.2) h1;obtain⟨b0,b1,b2⟩:=topN_one n (s.drop x.2) y.1 y.2 h2;rw[List.length_drop]at b1;refine⟨by rw[List.length_cons,b0],by omega,?_⟩;rw[List.take_add,a2,b2,List.flatMap_cons]
theorem topsP_one {s:Bs}{l:List TopS}{k:Nat}(h:topsP s=.ok (l,k)):k≤s.length∧s.take k=encTs l:=by
 unfold topsP at h
 cases h1:cntP 6 s with
 |error e=>rw[h1]at h;cases h
 |ok x=>
  rw[h1]at h;simp only at h
  cases h2:topN x.1 (s.drop 4)with
  |error e=>rw[h2]at h;cases h
  |ok y=>
   rw[h2]at h
   cases h
   obtain⟨c1,c2,c3⟩:=cntP_one (n:=x.1) (k:=x.2) (by decide) h1;obtain⟨b0,b1,b2⟩:=topN_one _ _ y.1 y.2 h2;rw[List.length_drop]at b1;refine⟨by omega,?_⟩;unfold encTs;rw[List.take_add,c3,b2,b0]
theorem Rds.inv {α:Type}{f:InS→α×InS}{p:Bs→Except Int (α×Nat)}{d:α}(h:Rds f p d){i j:InS}{a:α}(hf:f i=(a,j)) (he:j.err=0) (hp:i.pos≤i.s.length):i.err=0∧∃k,p (i.s.drop i.pos)=.ok (a,k)∧j=⟨i.s,i.pos+k,0⟩∧i.pos+k≤i.s.length:=by
 by_cases h0:i.err=0
 · refine⟨h0,?_⟩;obtain⟨s,pos,er⟩:=i;simp only at h0 hp ⊢;subst h0
   cases hq:p (s.drop pos)with
   |error e=>
    obtain⟨e0,q,_,g⟩:=h.err s pos e hp hq;rw[g]at hf
    cases hf
    exact absurd he e0
   |ok x=>
    obtain⟨g1,g2⟩:=h.ok s pos x.1 x.2 hp hq;rw[g2]at hf
    cases hf
    exact⟨x.2,rfl,rfl,g1⟩
 · exfalso
   rw[h.stuck i h0]at hf
   cases hf
   exact h0 he
theorem int_inv {i j:InS}{n:Int}(k:Nat) (h1:1≤k) (h8:k≤8) (hf:i.int k=(n,j)) (he:j.err=0) (hp:i.pos≤i.s.length):i.err=0∧j=⟨i.s,i.pos+k,0⟩∧i.pos+k≤i.s.length∧i.s.take (i.pos+k)=i.s.take i.pos++beBytes n k:=by
 obtain⟨a,m,b,c,d⟩:=(rds_intN k h1 h8).inv hf he hp;obtain⟨e1,e2,e3⟩:=getIntN_one b;subst e1;exact⟨a,c,d,by rw[List.take_add,e3]⟩
theorem tops_inv {i j:InS}{l:List TopS}(hf:i.tops=(l,j)) (he:j.err=0) (hp:i.pos≤i.s.length):i.err=0∧∃k,j=⟨i.s,i.pos+k,0⟩∧i.pos+k≤i.s.length∧i.s.take (i.pos+k)=i.s.take i.pos++encTs l:=by
 obtain⟨a,m,b,c,d⟩:=rds_tops.inv hf he hp;exact⟨a,m,c,d,by rw[List.take_add,(topsP_one b).2]⟩
def topsR (s:Bs):List TopS×Nat×Int:=match topsP s with
  | .ok x=>(x.1,x.2,0)
  | .error e=>([],0,e)
end Go.Proofs.YteldcbljedeeiaaGreatDoor
