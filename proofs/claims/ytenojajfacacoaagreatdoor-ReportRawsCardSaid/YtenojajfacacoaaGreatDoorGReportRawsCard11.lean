/- A text. -/
import Derived.Test.YtenojajfacacoaaGreatDoorGReportRawsCard4
import Derived.Deep.RegionHeld3
import Derived.Deep.DeepCutAuto
import Derived.Test.YtenojajfacacoaaGreatDoorGReportRawsCard10
import Derived.Test.YtenojajfacacoaaGreatDoorGReportRawsCard7
import Derived.Test.YtenojajfacacoaaGreatDoorGReportRawsCard6
import Derived.IntWalk
import Derived.Test.YtenojajfacacoaaGreatDoorGReportRawsCard8
import Derived.Test.YtenojajfacacoaaGreatDoorGReportRawsCard5
/- A text. -/
namespace Go.Proofs.YtenojajfacacoaaGreatDoor
open Go.RowKit
set_option maxHeartbeats 1000000
set_option maxRecDepth 100000
variable {W0 w:World}{K:Know}{L:List Res}
theorem zAz(n:Int)(r:Bs)(hr:encI n=r)(hn: -9223372036854775808≤n∧n<9223372036854775808)(h:St W0 w K L):
  Calls Tryz.prog 59 #[.int .i64 n] w fun en w'=>en=.returned (.string (bb r))∧St W0 w' K L:=by
 subst hr;exact zID n hn h
theorem zAg(v:Value)(l:List HdrS)(r:Bs)(hr:zCE l=r)(hs:hsize l≤70368744177664)(hk:K.has (Know.flat RHdr v 3 l))(h:St W0 w K L):
  Calls Tryz.prog 61 #[v] w fun en w'=>en=.returned (.string (bb r))∧St W0 w' K L:=by
 subst hr;exact zJQ v l hs hk h
theorem zPF{b:Nat}{T:TypeId}{v0 v1 v2 v3 v4 v5 v6:Value}(h:St W0 w K (.raw b #[v0,v1,v2,v3,v4,v5,v6] T::L)):
  (w.cell? ⟨b,0,none⟩=some v0∧w.cell? ⟨b,1,none⟩=some v1∧w.cell? ⟨b,2,none⟩=some v2∧w.cell? ⟨b,3,none⟩=some v3∧w.cell? ⟨b,4,none⟩=some v4∧w.cell? ⟨b,5,none⟩=some v5∧w.cell? ⟨b,6,none⟩=some v6)∧St W0 w K (.raw b #[v0,v1,v2,v3,v4,v5,v6] T::L):=
 ⟨⟨h.rawCell 0,h.rawCell 1,h.rawCell 2,h.rawCell 3,h.rawCell 4,h.rawCell 5,h.rawCell 6⟩,h⟩
theorem zAa{b:Nat}{T:TypeId}(h:St W0 w K (.raw b #[.int .u8 0] T::L)):
  (convert 57 9 (.slice (some ⟨b,0,none⟩) 1 1)).run Tryz.prog w=.ok (.string ⟨#[0]⟩) w:=by
 refine run_convert_bytes_back (P:=Tryz.prog) w 57 9 5 ⟨b,0,none⟩ 1 [0] Tryz.underlying57 Tryz.underlying5 Tryz.underlying9 (fun j hj=> ?_);have hj:j=0:=by simp at hj;exact hj
 subst hj;exact h.rawCell 0
theorem zq34{p:Prop}(h:p:=by(try dsimp only);exact(zPF (show St W0 _ K (.raw wA _ _::L) by assumption))):p:=h
theorem zJO(x:RecS)(v:Value)(s:Bs)(hss:encR x=s)(hx:x.R)(hs:x.sum≤1000000)(hk:K.has (Know.flat RHdr v 3 x.hdrs))(h:St W0 w K L):
  Calls Tryz.prog 28 #[.agg #[.int .i64 x.time,.int .i64 x.off,.bool x.key.null,.string (bb x.key.data),.bool x.val.null,.string (bb x.val.data),v]] w fun en w'=>en=.returned (.string (bb s))∧St W0 w' K L:=by
 obtain⟨wA,hwA⟩:∃b,w.heap.size=b:=⟨_,rfl⟩;have h0:=h.allocRaw #[.int .i64 x.time,.int .i64 x.off,.bool x.key.null,.string (bb x.key.data),.bool x.val.null,.string (bb x.val.data),v] 54;rw[hwA]at h0;have hle:=zEm x hx hs;have hsm:=hs;unfold RecS.sum at hsm;have hsl:=zCe x.hdrs;obtain⟨f,hf⟩:∃f,recF x=f:=⟨_,rfl⟩;obtain⟨a1,e1⟩:∃a,encI x.time=a:=⟨_,rfl⟩;obtain⟨a2,e2⟩:∃a,encI x.off=a:=⟨_,rfl⟩;obtain⟨a3,e3⟩:∃a,encV ⟨x.key.null,x.key.data⟩=a:=⟨_,rfl⟩;obtain⟨a4,e4⟩:∃a,encV ⟨x.val.null,x.val.data⟩=a:=⟨_,rfl⟩;obtain⟨a5,e5⟩:∃a,zCE x.hdrs=a:=⟨_,rfl⟩
 have hfe:f=[0]++(a1++(a2++(a3++(a4++a5)))):=by
  rw[←hf,←e1,←e2,←e3,←e4,←e5];rfl
 have hl:=congrArg List.length hfe;simp only[List.length_append,List.length_cons,List.length_nil]at hl;rw[hf]at hle;have hfl:f.length≤40000000:=by omega
 obtain⟨a6,e6⟩:∃a,encI f.length=a:=⟨_,rfl⟩;have h6:a6.length≤10:=by rw[←e6];exact zDr _ (by omega)
 have hse:s=a6++f:=by
  rw[←hss];unfold encR encV;rw[hf,←e6];rfl
 have hz1:¬(9223372036854775807<1+a1.length):=by omega
 have hy1:¬(9223372036854775807<a1.length+1):=by omega
 have hz2:¬(9223372036854775807<1+a1.length+a2.length):=by omega
 have hy2:¬(9223372036854775807<a1.length+1+a2.length):=by omega
 have hz3:¬(9223372036854775807<1+a1.length+a2.length+a3.length):=by omega
 have hy3:¬(9223372036854775807<a1.length+1+a2.length+a3.length):=by omega
 have hz4:¬(9223372036854775807<1+a1.length+a2.length+a3.length+a4.length):=by omega
 have hy4:¬(9223372036854775807<a1.length+1+a2.length+a3.length+a4.length):=by omega
 have hz5:¬(9223372036854775807<1+a1.length+a2.length+a3.length+a4.length+a5.length):=by omega
 have hy5:¬(9223372036854775807<a1.length+1+a2.length+a3.length+a4.length+a5.length):=by omega
 have hz6:¬(9223372036854775807<a6.length+f.length):=by omega
 have hw3:¬(9223372036854775807<a1.length+a2.length+1+a3.length):=by omega
 have hw4:¬(9223372036854775807<a1.length+a2.length+a3.length+1+a4.length):=by omega
 have hw5:¬(9223372036854775807<a1.length+a2.length+a3.length+a4.length+1+a5.length):=by omega
 have hv4:¬(9223372036854775807<a1.length+(a2.length+a3.length)+1+a4.length):=by omega
 have hv5:¬(9223372036854775807<a1.length+(a2.length+(a3.length+a4.length))+1+a5.length):=by omega
 have E1:=hQd e1;have E2:=hQd e2;have E3:=hQd e3;have E4:=hQd e4;have E5:=hQd e5;have E6:=hQd e6;have R1:=hQd hx.1;have R2:=hQd hx.2;have R6:=hQd (show -9223372036854775808≤(f.length:Int)∧(f.length:Int)<9223372036854775808 by omega);have B3:=hQd (show x.key.data.length≤70368744177664 by omega);have B4:=hQd (show x.val.data.length≤70368744177664 by omega);have B5:=hQd (show hsize x.hdrs≤70368744177664 by omega);have HK:=hQd hk;have HF:=hQd hfe;have HSE:=hQd hse;have H:=hQd h0;have hcat:∀B:Bs,(⟨#[0]⟩:ByteArray)++bb B=bb (0::B):=fun B=>zAh [0] B
 clear h hk h0 hss hx hs hle hsm hsl hf hfl h6 hse hfe hl e1 e2 e3 e4 e5 e6;go_enter Tryz.func28,Tryz.ntmps28;go_wp2_with fail;have hst:=H.out;have ⟨⟨c0,c1,c2,c3,c4,c5,c6⟩,_⟩:=zPF H.out.drew;have hst:=H.out.drew;have hst2:=(H.out.allocRaw #[.int .u8 0] 5).drew;rw[World.size_alloc,hwA]at hst2;have cb:=zAa hst2;have hst3:=hst2.drop;go_cut [3] (fun s3 wx=>s3=.string (bb f)∧St W0 wx K (.raw wA #[.int .i64 x.time,.int .i64 x.off,.bool x.key.null,.string (bb x.key.data),.bool x.val.null,.string (bb x.val.data),v] 54::L))
 case first=>
  refine wp_region_held_drew (S:=(fun w'=>(w'.cell? ⟨wA,0,none⟩=some (.int .i64 x.time)∧w'.cell? ⟨wA,1,none⟩=some (.int .i64 x.off)∧w'.cell? ⟨wA,2,none⟩=some (.bool x.key.null)∧w'.cell? ⟨wA,3,none⟩=some (.string (bb x.key.data))∧w'.cell? ⟨wA,4,none⟩=some (.bool x.val.null)∧w'.cell? ⟨wA,5,none⟩=some (.string (bb x.val.data))∧w'.cell? ⟨wA,6,none⟩=some (v))∧St W0 w' K (.raw wA #[.int .i64 x.time,.int .i64 x.off,.bool x.key.null,.string (bb x.key.data),.bool x.val.null,.string (bb x.val.data),v] 54::L))) (by kernel_rfl) (zPF (show St W0 _ K (.raw wA _ _::L) by assumption)) (fun hHeld=> ?_);refine tQ 2 ⟨some 6,.fieldAddr 54 (.tmp 1) 0,0,_,_,none⟩ ?_;simp only[Act.put,sA,sB,sC];refine tQ 3 ⟨some 7,.load 3 (.tmp 6),3,_,_,none⟩ ?_;simp only[Act.put,sA,sB,sC];refine tQ 6 ⟨some 10,.fieldAddr 54 (.tmp 1) 1,0,_,_,none⟩ ?_;simp only[Act.put,sA,sB,sC];refine tQ 7 ⟨some 11,.load 3 (.tmp 10),3,_,_,none⟩ ?_;simp only[Act.put,sA,sB,sC];refine tQ 10 ⟨some 14,.fieldAddr 54 (.tmp 1) 2,0,_,_,none⟩ ?_;simp only[Act.put,sA,sB,sC];refine tQ 11 ⟨some 15,.load 51 (.tmp 14),51,_,_,none⟩ ?_;simp only[Act.put,sA,sB,sC];refine tQ 14 ⟨some 18,.fieldAddr 54 (.tmp 1) 3,0,_,_,none⟩ ?_;simp only[Act.put,sA,sB,sC];refine tQ 15 ⟨some 19,.load 51 (.tmp 18),51,_,_,none⟩ ?_;simp only[Act.put,sA,sB,sC];refine tQ 18 ⟨some 22,.fieldAddr 54 (.tmp 1) 4,0,_,_,none⟩ ?_;simp only[Act.put,sA,sB,sC];refine tQ 19 ⟨some 23,.load 52 (.tmp 22),52,_,_,none⟩ ?_;simp only[Act.put,sA,sB,sC];refine wpAnyH_ready (rs:=[0,4]) (by kernel_rfl) (by simp) (AllReadyH.cons (o:=⟨some 4,.buildSlice 57 1 #[(0,.const (Value.int IntKind.u8 0))],57,_,_,none⟩) rfl (fun KK hK=> ?_) (AllReadyH.cons (o:=⟨some 8,.call {callee:=.value (.func 59),args:= #[.tmp 7],argTypes:= #[3]},9,_,_,none⟩) rfl (fun KK hK=> ?_) AllReadyH.nil))
  focus
   go_simp;refine hK.out _ _ zq34 (fun hHeld=> ?_);clear hK KK
   try simp only[Act.put,sA,sB,sC]
   refine wpAnyH_ready (rs:=[1,4]) (by kernel_rfl) (by simp) (AllReadyH.cons (o:=⟨some 5,.convert 57 9 (.tmp 4),9,_,_,none⟩) rfl (fun KK hK=> ?_) (AllReadyH.cons (o:=⟨some 8,.call {callee:=.value (.func 59),args:= #[.tmp 7],argTypes:= #[3]},9,_,_,none⟩) rfl (fun KK hK=> ?_) AllReadyH.nil))
   focus
    go_simp;refine hK.out _ _ zq34 (fun hHeld=> ?_);clear hK KK
    try simp only[Act.put,sA,sB,sC]
    refine wpAnyH_ready (rs:=[4]) (by kernel_rfl) (by simp) (AllReadyH.cons (o:=⟨some 8,.call {callee:=.value (.func 59),args:= #[.tmp 7],argTypes:= #[3]},9,_,_,none⟩) rfl (fun KK hK=> ?_) AllReadyH.nil);go_simp
    (go_at_call 59;first|(with_reducible refine(zAz x.time a1 E1.out R1.out (show St W0 _ K (.raw _ #[.int .u8 0] _::.raw wA _ _::L) by assumption)).mono ?_;rintro e wn ⟨rfl,h⟩;have cb:=zAa h;have hd:=h.drop)|(with_reducible refine(zAz x.time a1 E1.out R1.out (show St W0 _ K (.raw wA _ _::L) by assumption)).mono ?_;rintro e wn ⟨rfl,h⟩;have hal:=h.allocRaw #[.int .u8 0] 5;have cb:=zAa hal;have hd:=hal.drop))
    refine hK.out _ _ zq34 (fun hHeld=> ?_);clear hK KK
    try simp only[Act.put,sA,sB,sC]
    refine tQ 5 ⟨some 9,.binOp .add 9 (.tmp 5) (.tmp 8) 9,9,_,_,none⟩ ?_;simp only[Act.put,sA,sB,sC];refine wpAnyH_ready (rs:=[8]) (by kernel_rfl) (by simp) (AllReadyH.cons (o:=⟨some 12,.call {callee:=.value (.func 59),args:= #[.tmp 11],argTypes:= #[3]},9,_,_,none⟩) rfl (fun KK hK=> ?_) AllReadyH.nil);go_simp
    (go_at_call 59;first|(with_reducible refine(zAz x.off a2 E2.out R2.out (show St W0 _ K (.raw _ #[.int .u8 0] _::.raw wA _ _::L) by assumption)).mono ?_;rintro e wn ⟨rfl,h⟩;have cb:=zAa h;have hd:=h.drop)|(with_reducible refine(zAz x.off a2 E2.out R2.out (show St W0 _ K (.raw wA _ _::L) by assumption)).mono ?_;rintro e wn ⟨rfl,h⟩;have hal:=h.allocRaw #[.int .u8 0] 5;have cb:=zAa hal;have hd:=hal.drop))
    refine hK.out _ _ zq34 (fun hHeld=> ?_);clear hK KK
    try simp only[Act.put,sA,sB,sC]
    refine tQ 9 ⟨some 13,.binOp .add 9 (.tmp 9) (.tmp 12) 9,9,_,_,none⟩ ?_;simp only[Act.put,sA,sB,sC];refine wpAnyH_ready (rs:=[12]) (by kernel_rfl) (by simp) (AllReadyH.cons (o:=⟨some 16,.call {callee:=.value (.func 60),args:= #[.tmp 15],argTypes:= #[51]},9,_,_,none⟩) rfl (fun KK hK=> ?_) AllReadyH.nil);go_simp
    (go_at_call 60;first|(with_reducible refine(zAb x.key.null x.key.data a3 E3.out B3.out (show St W0 _ K (.raw _ #[.int .u8 0] _::.raw wA _ _::L) by assumption)).mono ?_;rintro e wn ⟨rfl,h⟩;have cb:=zAa h;have hd:=h.drop)|(with_reducible refine(zAb x.key.null x.key.data a3 E3.out B3.out (show St W0 _ K (.raw wA _ _::L) by assumption)).mono ?_;rintro e wn ⟨rfl,h⟩;have hal:=h.allocRaw #[.int .u8 0] 5;have cb:=zAa hal;have hd:=hal.drop))
    refine hK.out _ _ zq34 (fun hHeld=> ?_);clear hK KK
    try simp only[Act.put,sA,sB,sC]
    refine tQ 13 ⟨some 17,.binOp .add 9 (.tmp 13) (.tmp 16) 9,9,_,_,none⟩ ?_;simp only[Act.put,sA,sB,sC];refine wpAnyH_ready (rs:=[16]) (by kernel_rfl) (by simp) (AllReadyH.cons (o:=⟨some 20,.call {callee:=.value (.func 60),args:= #[.tmp 19],argTypes:= #[51]},9,_,_,none⟩) rfl (fun KK hK=> ?_) AllReadyH.nil);go_simp
    (go_at_call 60;first|(with_reducible refine(zAb x.val.null x.val.data a4 E4.out B4.out (show St W0 _ K (.raw _ #[.int .u8 0] _::.raw wA _ _::L) by assumption)).mono ?_;rintro e wn ⟨rfl,h⟩;have cb:=zAa h;have hd:=h.drop)|(with_reducible refine(zAb x.val.null x.val.data a4 E4.out B4.out (show St W0 _ K (.raw wA _ _::L) by assumption)).mono ?_;rintro e wn ⟨rfl,h⟩;have hal:=h.allocRaw #[.int .u8 0] 5;have cb:=zAa hal;have hd:=hal.drop))
    refine hK.out _ _ zq34 (fun hHeld=> ?_);clear hK KK
    try simp only[Act.put,sA,sB,sC]
    refine tQ 17 ⟨some 21,.binOp .add 9 (.tmp 17) (.tmp 20) 9,9,_,_,none⟩ ?_;simp only[Act.put,sA,sB,sC];refine wpAnyH_ready (rs:=[20]) (by kernel_rfl) (by simp) (AllReadyH.cons (o:=⟨some 24,.call {callee:=.value (.func 61),args:= #[.tmp 23],argTypes:= #[52]},9,_,_,none⟩) rfl (fun KK hK=> ?_) AllReadyH.nil);go_simp
    (go_at_call 61;first|(with_reducible refine(zAg v x.hdrs a5 E5.out B5.out HK.out (show St W0 _ K (.raw _ #[.int .u8 0] _::.raw wA _ _::L) by assumption)).mono ?_;rintro e wn ⟨rfl,h⟩;have cb:=zAa h;have hd:=h.drop)|(with_reducible refine(zAg v x.hdrs a5 E5.out B5.out HK.out (show St W0 _ K (.raw wA _ _::L) by assumption)).mono ?_;rintro e wn ⟨rfl,h⟩;have hal:=h.allocRaw #[.int .u8 0] 5;have cb:=zAa hal;have hd:=hal.drop))
    refine hK.out _ _ zq34 (fun hHeld=> ?_);clear hK KK
    try simp only[Act.put,sA,sB,sC]
   rotate_left
   focus
    go_simp
    (go_at_call 59;first|(with_reducible refine(zAz x.time a1 E1.out R1.out (show St W0 _ K (.raw _ #[.int .u8 0] _::.raw wA _ _::L) by assumption)).mono ?_;rintro e wn ⟨rfl,h⟩;have cb:=zAa h;have hd:=h.drop)|(with_reducible refine(zAz x.time a1 E1.out R1.out (show St W0 _ K (.raw wA _ _::L) by assumption)).mono ?_;rintro e wn ⟨rfl,h⟩;have hal:=h.allocRaw #[.int .u8 0] 5;have cb:=zAa hal;have hd:=hal.drop))
    refine hK.out _ _ zq34 (fun hHeld=> ?_);clear hK KK
    try simp only[Act.put,sA,sB,sC]
    refine wpAnyH_ready (rs:=[1,8]) (by kernel_rfl) (by simp) (AllReadyH.cons (o:=⟨some 5,.convert 57 9 (.tmp 4),9,_,_,none⟩) rfl (fun KK hK=> ?_) (AllReadyH.cons (o:=⟨some 12,.call {callee:=.value (.func 59),args:= #[.tmp 11],argTypes:= #[3]},9,_,_,none⟩) rfl (fun KK hK=> ?_) AllReadyH.nil))
    focus
     go_simp;refine hK.out _ _ zq34 (fun hHeld=> ?_);clear hK KK
     try simp only[Act.put,sA,sB,sC]
     refine tQ 5 ⟨some 9,.binOp .add 9 (.tmp 5) (.tmp 8) 9,9,_,_,none⟩ ?_;simp only[Act.put,sA,sB,sC];refine wpAnyH_ready (rs:=[8]) (by kernel_rfl) (by simp) (AllReadyH.cons (o:=⟨some 12,.call {callee:=.value (.func 59),args:= #[.tmp 11],argTypes:= #[3]},9,_,_,none⟩) rfl (fun KK hK=> ?_) AllReadyH.nil);go_simp
     (go_at_call 59;first|(with_reducible refine(zAz x.off a2 E2.out R2.out (show St W0 _ K (.raw _ #[.int .u8 0] _::.raw wA _ _::L) by assumption)).mono ?_;rintro e wn ⟨rfl,h⟩;have cb:=zAa h;have hd:=h.drop)|(with_reducible refine(zAz x.off a2 E2.out R2.out (show St W0 _ K (.raw wA _ _::L) by assumption)).mono ?_;rintro e wn ⟨rfl,h⟩;have hal:=h.allocRaw #[.int .u8 0] 5;have cb:=zAa hal;have hd:=hal.drop))
     refine hK.out _ _ zq34 (fun hHeld=> ?_);clear hK KK
     try simp only[Act.put,sA,sB,sC]
     refine tQ 9 ⟨some 13,.binOp .add 9 (.tmp 9) (.tmp 12) 9,9,_,_,none⟩ ?_;simp only[Act.put,sA,sB,sC];refine wpAnyH_ready (rs:=[12]) (by kernel_rfl) (by simp) (AllReadyH.cons (o:=⟨some 16,.call {callee:=.value (.func 60),args:= #[.tmp 15],argTypes:= #[51]},9,_,_,none⟩) rfl (fun KK hK=> ?_) AllReadyH.nil);go_simp
     (go_at_call 60;first|(with_reducible refine(zAb x.key.null x.key.data a3 E3.out B3.out (show St W0 _ K (.raw _ #[.int .u8 0] _::.raw wA _ _::L) by assumption)).mono ?_;rintro e wn ⟨rfl,h⟩;have cb:=zAa h;have hd:=h.drop)|(with_reducible refine(zAb x.key.null x.key.data a3 E3.out B3.out (show St W0 _ K (.raw wA _ _::L) by assumption)).mono ?_;rintro e wn ⟨rfl,h⟩;have hal:=h.allocRaw #[.int .u8 0] 5;have cb:=zAa hal;have hd:=hal.drop))
     refine hK.out _ _ zq34 (fun hHeld=> ?_);clear hK KK
     try simp only[Act.put,sA,sB,sC]
     refine tQ 13 ⟨some 17,.binOp .add 9 (.tmp 13) (.tmp 16) 9,9,_,_,none⟩ ?_;simp only[Act.put,sA,sB,sC];refine wpAnyH_ready (rs:=[16]) (by kernel_rfl) (by simp) (AllReadyH.cons (o:=⟨some 20,.call {callee:=.value (.func 60),args:= #[.tmp 19],argTypes:= #[51]},9,_,_,none⟩) rfl (fun KK hK=> ?_) AllReadyH.nil);go_simp
     (go_at_call 60;first|(with_reducible refine(zAb x.val.null x.val.data a4 E4.out B4.out (show St W0 _ K (.raw _ #[.int .u8 0] _::.raw wA _ _::L) by assumption)).mono ?_;rintro e wn ⟨rfl,h⟩;have cb:=zAa h;have hd:=h.drop)|(with_reducible refine(zAb x.val.null x.val.data a4 E4.out B4.out (show St W0 _ K (.raw wA _ _::L) by assumption)).mono ?_;rintro e wn ⟨rfl,h⟩;have hal:=h.allocRaw #[.int .u8 0] 5;have cb:=zAa hal;have hd:=hal.drop))
     refine hK.out _ _ zq34 (fun hHeld=> ?_);clear hK KK
     try simp only[Act.put,sA,sB,sC]
     refine tQ 17 ⟨some 21,.binOp .add 9 (.tmp 17) (.tmp 20) 9,9,_,_,none⟩ ?_;simp only[Act.put,sA,sB,sC];refine wpAnyH_ready (rs:=[20]) (by kernel_rfl) (by simp) (AllReadyH.cons (o:=⟨some 24,.call {callee:=.value (.func 61),args:= #[.tmp 23],argTypes:= #[52]},9,_,_,none⟩) rfl (fun KK hK=> ?_) AllReadyH.nil);go_simp
     (go_at_call 61;first|(with_reducible refine(zAg v x.hdrs a5 E5.out B5.out HK.out (show St W0 _ K (.raw _ #[.int .u8 0] _::.raw wA _ _::L) by assumption)).mono ?_;rintro e wn ⟨rfl,h⟩;have cb:=zAa h;have hd:=h.drop)|(with_reducible refine(zAg v x.hdrs a5 E5.out B5.out HK.out (show St W0 _ K (.raw wA _ _::L) by assumption)).mono ?_;rintro e wn ⟨rfl,h⟩;have hal:=h.allocRaw #[.int .u8 0] 5;have cb:=zAa hal;have hd:=hal.drop))
     refine hK.out _ _ zq34 (fun hHeld=> ?_);clear hK KK
     try simp only[Act.put,sA,sB,sC]
    rotate_left
    focus
     go_simp
     (go_at_call 59;first|(with_reducible refine(zAz x.off a2 E2.out R2.out (show St W0 _ K (.raw _ #[.int .u8 0] _::.raw wA _ _::L) by assumption)).mono ?_;rintro e wn ⟨rfl,h⟩;have cb:=zAa h;have hd:=h.drop)|(with_reducible refine(zAz x.off a2 E2.out R2.out (show St W0 _ K (.raw wA _ _::L) by assumption)).mono ?_;rintro e wn ⟨rfl,h⟩;have hal:=h.allocRaw #[.int .u8 0] 5;have cb:=zAa hal;have hd:=hal.drop))
     refine hK.out _ _ zq34 (fun hHeld=> ?_);clear hK KK
     try simp only[Act.put,sA,sB,sC]
     refine wpAnyH_ready (rs:=[1,12]) (by kernel_rfl) (by simp) (AllReadyH.cons (o:=⟨some 5,.convert 57 9 (.tmp 4),9,_,_,none⟩) rfl (fun KK hK=> ?_) (AllReadyH.cons (o:=⟨some 16,.call {callee:=.value (.func 60),args:= #[.tmp 15],argTypes:= #[51]},9,_,_,none⟩) rfl (fun KK hK=> ?_) AllReadyH.nil))
     focus
      go_simp;refine hK.out _ _ zq34 (fun hHeld=> ?_);clear hK KK
      try simp only[Act.put,sA,sB,sC]
      refine tQ 5 ⟨some 9,.binOp .add 9 (.tmp 5) (.tmp 8) 9,9,_,_,none⟩ ?_;simp only[Act.put,sA,sB,sC];refine tQ 9 ⟨some 13,.binOp .add 9 (.tmp 9) (.tmp 12) 9,9,_,_,none⟩ ?_;simp only[Act.put,sA,sB,sC];refine wpAnyH_ready (rs:=[12]) (by kernel_rfl) (by simp) (AllReadyH.cons (o:=⟨some 16,.call {callee:=.value (.func 60),args:= #[.tmp 15],argTypes:= #[51]},9,_,_,none⟩) rfl (fun KK hK=> ?_) AllReadyH.nil);go_simp
      (go_at_call 60;first|(with_reducible refine(zAb x.key.null x.key.data a3 E3.out B3.out (show St W0 _ K (.raw _ #[.int .u8 0] _::.raw wA _ _::L) by assumption)).mono ?_;rintro e wn ⟨rfl,h⟩;have cb:=zAa h;have hd:=h.drop)|(with_reducible refine(zAb x.key.null x.key.data a3 E3.out B3.out (show St W0 _ K (.raw wA _ _::L) by assumption)).mono ?_;rintro e wn ⟨rfl,h⟩;have hal:=h.allocRaw #[.int .u8 0] 5;have cb:=zAa hal;have hd:=hal.drop))
      refine hK.out _ _ zq34 (fun hHeld=> ?_);clear hK KK
      try simp only[Act.put,sA,sB,sC]
      refine tQ 13 ⟨some 17,.binOp .add 9 (.tmp 13) (.tmp 16) 9,9,_,_,none⟩ ?_;simp only[Act.put,sA,sB,sC];refine wpAnyH_ready (rs:=[16]) (by kernel_rfl) (by simp) (AllReadyH.cons (o:=⟨some 20,.call {callee:=.value (.func 60),args:= #[.tmp 19],argTypes:= #[51]},9,_,_,none⟩) rfl (fun KK hK=> ?_) AllReadyH.nil);go_simp
      (go_at_call 60;first|(with_reducible refine(zAb x.val.null x.val.data a4 E4.out B4.out (show St W0 _ K (.raw _ #[.int .u8 0] _::.raw wA _ _::L) by assumption)).mono ?_;rintro e wn ⟨rfl,h⟩;have cb:=zAa h;have hd:=h.drop)|(with_reducible refine(zAb x.val.null x.val.data a4 E4.out B4.out (show St W0 _ K (.raw wA _ _::L) by assumption)).mono ?_;rintro e wn ⟨rfl,h⟩;have hal:=h.allocRaw #[.int .u8 0] 5;have cb:=zAa hal;have hd:=hal.drop))
      refine hK.out _ _ zq34 (fun hHeld=> ?_);clear hK KK
      try simp only[Act.put,sA,sB,sC]
      refine tQ 17 ⟨some 21,.binOp .add 9 (.tmp 17) (.tmp 20) 9,9,_,_,none⟩ ?_;simp only[Act.put,sA,sB,sC];refine wpAnyH_ready (rs:=[20]) (by kernel_rfl) (by simp) (AllReadyH.cons (o:=⟨some 24,.call {callee:=.value (.func 61),args:= #[.tmp 23],argTypes:= #[52]},9,_,_,none⟩) rfl (fun KK hK=> ?_) AllReadyH.nil);go_simp
      (go_at_call 61;first|(with_reducible refine(zAg v x.hdrs a5 E5.out B5.out HK.out (show St W0 _ K (.raw _ #[.int .u8 0] _::.raw wA _ _::L) by assumption)).mono ?_;rintro e wn ⟨rfl,h⟩;have cb:=zAa h;have hd:=h.drop)|(with_reducible refine(zAg v x.hdrs a5 E5.out B5.out HK.out (show St W0 _ K (.raw wA _ _::L) by assumption)).mono ?_;rintro e wn ⟨rfl,h⟩;have hal:=h.allocRaw #[.int .u8 0] 5;have cb:=zAa hal;have hd:=hal.drop))
      refine hK.out _ _ zq34 (fun hHeld=> ?_);clear hK KK
      try simp only[Act.put,sA,sB,sC]
     rotate_left
     focus
      go_simp
      (go_at_call 60;first|(with_reducible refine(zAb x.key.null x.key.data a3 E3.out B3.out (show St W0 _ K (.raw _ #[.int .u8 0] _::.raw wA _ _::L) by assumption)).mono ?_;rintro e wn ⟨rfl,h⟩;have cb:=zAa h;have hd:=h.drop)|(with_reducible refine(zAb x.key.null x.key.data a3 E3.out B3.out (show St W0 _ K (.raw wA _ _::L) by assumption)).mono ?_;rintro e wn ⟨rfl,h⟩;have hal:=h.allocRaw #[.int .u8 0] 5;have cb:=zAa hal;have hd:=hal.drop))
      refine hK.out _ _ zq34 (fun hHeld=> ?_);clear hK KK
      try simp only[Act.put,sA,sB,sC]
      refine wpAnyH_ready (rs:=[1,16]) (by kernel_rfl) (by simp) (AllReadyH.cons (o:=⟨some 5,.convert 57 9 (.tmp 4),9,_,_,none⟩) rfl (fun KK hK=> ?_) (AllReadyH.cons (o:=⟨some 20,.call {callee:=.value (.func 60),args:= #[.tmp 19],argTypes:= #[51]},9,_,_,none⟩) rfl (fun KK hK=> ?_) AllReadyH.nil))
      focus
       go_simp;refine hK.out _ _ zq34 (fun hHeld=> ?_);clear hK KK
       try simp only[Act.put,sA,sB,sC]
       refine tQ 5 ⟨some 9,.binOp .add 9 (.tmp 5) (.tmp 8) 9,9,_,_,none⟩ ?_;simp only[Act.put,sA,sB,sC];refine tQ 9 ⟨some 13,.binOp .add 9 (.tmp 9) (.tmp 12) 9,9,_,_,none⟩ ?_;simp only[Act.put,sA,sB,sC];refine tQ 13 ⟨some 17,.binOp .add 9 (.tmp 13) (.tmp 16) 9,9,_,_,none⟩ ?_;simp only[Act.put,sA,sB,sC];refine wpAnyH_ready (rs:=[16]) (by kernel_rfl) (by simp) (AllReadyH.cons (o:=⟨some 20,.call {callee:=.value (.func 60),args:= #[.tmp 19],argTypes:= #[51]},9,_,_,none⟩) rfl (fun KK hK=> ?_) AllReadyH.nil);go_simp
       (go_at_call 60;first|(with_reducible refine(zAb x.val.null x.val.data a4 E4.out B4.out (show St W0 _ K (.raw _ #[.int .u8 0] _::.raw wA _ _::L) by assumption)).mono ?_;rintro e wn ⟨rfl,h⟩;have cb:=zAa h;have hd:=h.drop)|(with_reducible refine(zAb x.val.null x.val.data a4 E4.out B4.out (show St W0 _ K (.raw wA _ _::L) by assumption)).mono ?_;rintro e wn ⟨rfl,h⟩;have hal:=h.allocRaw #[.int .u8 0] 5;have cb:=zAa hal;have hd:=hal.drop))
       refine hK.out _ _ zq34 (fun hHeld=> ?_);clear hK KK
       try simp only[Act.put,sA,sB,sC]
       refine tQ 17 ⟨some 21,.binOp .add 9 (.tmp 17) (.tmp 20) 9,9,_,_,none⟩ ?_;simp only[Act.put,sA,sB,sC];refine wpAnyH_ready (rs:=[20]) (by kernel_rfl) (by simp) (AllReadyH.cons (o:=⟨some 24,.call {callee:=.value (.func 61),args:= #[.tmp 23],argTypes:= #[52]},9,_,_,none⟩) rfl (fun KK hK=> ?_) AllReadyH.nil);go_simp
       (go_at_call 61;first|(with_reducible refine(zAg v x.hdrs a5 E5.out B5.out HK.out (show St W0 _ K (.raw _ #[.int .u8 0] _::.raw wA _ _::L) by assumption)).mono ?_;rintro e wn ⟨rfl,h⟩;have cb:=zAa h;have hd:=h.drop)|(with_reducible refine(zAg v x.hdrs a5 E5.out B5.out HK.out (show St W0 _ K (.raw wA _ _::L) by assumption)).mono ?_;rintro e wn ⟨rfl,h⟩;have hal:=h.allocRaw #[.int .u8 0] 5;have cb:=zAa hal;have hd:=hal.drop))
       refine hK.out _ _ zq34 (fun hHeld=> ?_);clear hK KK
       try simp only[Act.put,sA,sB,sC]
      rotate_left
      focus
       go_simp
       (go_at_call 60;first|(with_reducible refine(zAb x.val.null x.val.data a4 E4.out B4.out (show St W0 _ K (.raw _ #[.int .u8 0] _::.raw wA _ _::L) by assumption)).mono ?_;rintro e wn ⟨rfl,h⟩;have cb:=zAa h;have hd:=h.drop)|(with_reducible refine(zAb x.val.null x.val.data a4 E4.out B4.out (show St W0 _ K (.raw wA _ _::L) by assumption)).mono ?_;rintro e wn ⟨rfl,h⟩;have hal:=h.allocRaw #[.int .u8 0] 5;have cb:=zAa hal;have hd:=hal.drop))
       refine hK.out _ _ zq34 (fun hHeld=> ?_);clear hK KK
       try simp only[Act.put,sA,sB,sC]
       refine wpAnyH_ready (rs:=[1,20]) (by kernel_rfl) (by simp) (AllReadyH.cons (o:=⟨some 5,.convert 57 9 (.tmp 4),9,_,_,none⟩) rfl (fun KK hK=> ?_) (AllReadyH.cons (o:=⟨some 24,.call {callee:=.value (.func 61),args:= #[.tmp 23],argTypes:= #[52]},9,_,_,none⟩) rfl (fun KK hK=> ?_) AllReadyH.nil))
       focus
        go_simp;refine hK.out _ _ zq34 (fun hHeld=> ?_);clear hK KK
        try simp only[Act.put,sA,sB,sC]
        refine tQ 5 ⟨some 9,.binOp .add 9 (.tmp 5) (.tmp 8) 9,9,_,_,none⟩ ?_;simp only[Act.put,sA,sB,sC];refine tQ 9 ⟨some 13,.binOp .add 9 (.tmp 9) (.tmp 12) 9,9,_,_,none⟩ ?_;simp only[Act.put,sA,sB,sC];refine tQ 13 ⟨some 17,.binOp .add 9 (.tmp 13) (.tmp 16) 9,9,_,_,none⟩ ?_;simp only[Act.put,sA,sB,sC];refine tQ 17 ⟨some 21,.binOp .add 9 (.tmp 17) (.tmp 20) 9,9,_,_,none⟩ ?_;simp only[Act.put,sA,sB,sC];refine wpAnyH_ready (rs:=[20]) (by kernel_rfl) (by simp) (AllReadyH.cons (o:=⟨some 24,.call {callee:=.value (.func 61),args:= #[.tmp 23],argTypes:= #[52]},9,_,_,none⟩) rfl (fun KK hK=> ?_) AllReadyH.nil);go_simp
        (go_at_call 61;first|(with_reducible refine(zAg v x.hdrs a5 E5.out B5.out HK.out (show St W0 _ K (.raw _ #[.int .u8 0] _::.raw wA _ _::L) by assumption)).mono ?_;rintro e wn ⟨rfl,h⟩;have cb:=zAa h;have hd:=h.drop)|(with_reducible refine(zAg v x.hdrs a5 E5.out B5.out HK.out (show St W0 _ K (.raw wA _ _::L) by assumption)).mono ?_;rintro e wn ⟨rfl,h⟩;have hal:=h.allocRaw #[.int .u8 0] 5;have cb:=zAa hal;have hd:=hal.drop))
        refine hK.out _ _ zq34 (fun hHeld=> ?_);clear hK KK
        try simp only[Act.put,sA,sB,sC]
       rotate_left
       focus
        go_simp
        (go_at_call 61;first|(with_reducible refine(zAg v x.hdrs a5 E5.out B5.out HK.out (show St W0 _ K (.raw _ #[.int .u8 0] _::.raw wA _ _::L) by assumption)).mono ?_;rintro e wn ⟨rfl,h⟩;have cb:=zAa h;have hd:=h.drop)|(with_reducible refine(zAg v x.hdrs a5 E5.out B5.out HK.out (show St W0 _ K (.raw wA _ _::L) by assumption)).mono ?_;rintro e wn ⟨rfl,h⟩;have hal:=h.allocRaw #[.int .u8 0] 5;have cb:=zAa hal;have hd:=hal.drop))
        refine hK.out _ _ zq34 (fun hHeld=> ?_);clear hK KK
        try simp only[Act.put,sA,sB,sC]
        refine wpAnyH_ready (rs:=[1]) (by kernel_rfl) (by simp) (AllReadyH.cons (o:=⟨some 5,.convert 57 9 (.tmp 4),9,_,_,none⟩) rfl (fun KK hK=> ?_) AllReadyH.nil);go_simp;refine hK.out _ _ zq34 (fun hHeld=> ?_);clear hK KK
        try simp only[Act.put,sA,sB,sC]
        refine tQ 5 ⟨some 9,.binOp .add 9 (.tmp 5) (.tmp 8) 9,9,_,_,none⟩ ?_;simp only[Act.put,sA,sB,sC];refine tQ 9 ⟨some 13,.binOp .add 9 (.tmp 9) (.tmp 12) 9,9,_,_,none⟩ ?_;simp only[Act.put,sA,sB,sC];refine tQ 13 ⟨some 17,.binOp .add 9 (.tmp 13) (.tmp 16) 9,9,_,_,none⟩ ?_;simp only[Act.put,sA,sB,sC];refine tQ 17 ⟨some 21,.binOp .add 9 (.tmp 17) (.tmp 20) 9,9,_,_,none⟩ ?_;simp only[Act.put,sA,sB,sC]
  rotate_left 6
  focus
   go_simp
   (go_at_call 59;first|(with_reducible refine(zAz x.time a1 E1.out R1.out (show St W0 _ K (.raw _ #[.int .u8 0] _::.raw wA _ _::L) by assumption)).mono ?_;rintro e wn ⟨rfl,h⟩;have cb:=zAa h;have hd:=h.drop)|(with_reducible refine(zAz x.time a1 E1.out R1.out (show St W0 _ K (.raw wA _ _::L) by assumption)).mono ?_;rintro e wn ⟨rfl,h⟩;have hal:=h.allocRaw #[.int .u8 0] 5;have cb:=zAa hal;have hd:=hal.drop))
   refine hK.out _ _ zq34 (fun hHeld=> ?_);clear hK KK
   try simp only[Act.put,sA,sB,sC]
   refine wpAnyH_ready (rs:=[0,8]) (by kernel_rfl) (by simp) (AllReadyH.cons (o:=⟨some 4,.buildSlice 57 1 #[(0,.const (Value.int IntKind.u8 0))],57,_,_,none⟩) rfl (fun KK hK=> ?_) (AllReadyH.cons (o:=⟨some 12,.call {callee:=.value (.func 59),args:= #[.tmp 11],argTypes:= #[3]},9,_,_,none⟩) rfl (fun KK hK=> ?_) AllReadyH.nil))
   focus
    go_simp;refine hK.out _ _ zq34 (fun hHeld=> ?_);clear hK KK
    try simp only[Act.put,sA,sB,sC]
    refine wpAnyH_ready (rs:=[1,8]) (by kernel_rfl) (by simp) (AllReadyH.cons (o:=⟨some 5,.convert 57 9 (.tmp 4),9,_,_,none⟩) rfl (fun KK hK=> ?_) (AllReadyH.cons (o:=⟨some 12,.call {callee:=.value (.func 59),args:= #[.tmp 11],argTypes:= #[3]},9,_,_,none⟩) rfl (fun KK hK=> ?_) AllReadyH.nil))
    focus
     go_simp;refine hK.out _ _ zq34 (fun hHeld=> ?_);clear hK KK
     try simp only[Act.put,sA,sB,sC]
     refine tQ 5 ⟨some 9,.binOp .add 9 (.tmp 5) (.tmp 8) 9,9,_,_,none⟩ ?_;simp only[Act.put,sA,sB,sC];refine wpAnyH_ready (rs:=[8]) (by kernel_rfl) (by simp) (AllReadyH.cons (o:=⟨some 12,.call {callee:=.value (.func 59),args:= #[.tmp 11],argTypes:= #[3]},9,_,_,none⟩) rfl (fun KK hK=> ?_) AllReadyH.nil);go_simp
     (go_at_call 59;first|(with_reducible refine(zAz x.off a2 E2.out R2.out (show St W0 _ K (.raw _ #[.int .u8 0] _::.raw wA _ _::L) by assumption)).mono ?_;rintro e wn ⟨rfl,h⟩;have cb:=zAa h;have hd:=h.drop)|(with_reducible refine(zAz x.off a2 E2.out R2.out (show St W0 _ K (.raw wA _ _::L) by assumption)).mono ?_;rintro e wn ⟨rfl,h⟩;have hal:=h.allocRaw #[.int .u8 0] 5;have cb:=zAa hal;have hd:=hal.drop))
     refine hK.out _ _ zq34 (fun hHeld=> ?_);clear hK KK
     try simp only[Act.put,sA,sB,sC]
     refine tQ 9 ⟨some 13,.binOp .add 9 (.tmp 9) (.tmp 12) 9,9,_,_,none⟩ ?_;simp only[Act.put,sA,sB,sC];refine wpAnyH_ready (rs:=[12]) (by kernel_rfl) (by simp) (AllReadyH.cons (o:=⟨some 16,.call {callee:=.value (.func 60),args:= #[.tmp 15],argTypes:= #[51]},9,_,_,none⟩) rfl (fun KK hK=> ?_) AllReadyH.nil);go_simp
     (go_at_call 60;first|(with_reducible refine(zAb x.key.null x.key.data a3 E3.out B3.out (show St W0 _ K (.raw _ #[.int .u8 0] _::.raw wA _ _::L) by assumption)).mono ?_;rintro e wn ⟨rfl,h⟩;have cb:=zAa h;have hd:=h.drop)|(with_reducible refine(zAb x.key.null x.key.data a3 E3.out B3.out (show St W0 _ K (.raw wA _ _::L) by assumption)).mono ?_;rintro e wn ⟨rfl,h⟩;have hal:=h.allocRaw #[.int .u8 0] 5;have cb:=zAa hal;have hd:=hal.drop))
     refine hK.out _ _ zq34 (fun hHeld=> ?_);clear hK KK
     try simp only[Act.put,sA,sB,sC]
     refine tQ 13 ⟨some 17,.binOp .add 9 (.tmp 13) (.tmp 16) 9,9,_,_,none⟩ ?_;simp only[Act.put,sA,sB,sC];refine wpAnyH_ready (rs:=[16]) (by kernel_rfl) (by simp) (AllReadyH.cons (o:=⟨some 20,.call {callee:=.value (.func 60),args:= #[.tmp 19],argTypes:= #[51]},9,_,_,none⟩) rfl (fun KK hK=> ?_) AllReadyH.nil);go_simp
     (go_at_call 60;first|(with_reducible refine(zAb x.val.null x.val.data a4 E4.out B4.out (show St W0 _ K (.raw _ #[.int .u8 0] _::.raw wA _ _::L) by assumption)).mono ?_;rintro e wn ⟨rfl,h⟩;have cb:=zAa h;have hd:=h.drop)|(with_reducible refine(zAb x.val.null x.val.data a4 E4.out B4.out (show St W0 _ K (.raw wA _ _::L) by assumption)).mono ?_;rintro e wn ⟨rfl,h⟩;have hal:=h.allocRaw #[.int .u8 0] 5;have cb:=zAa hal;have hd:=hal.drop))
     refine hK.out _ _ zq34 (fun hHeld=> ?_);clear hK KK
     try simp only[Act.put,sA,sB,sC]
     refine tQ 17 ⟨some 21,.binOp .add 9 (.tmp 17) (.tmp 20) 9,9,_,_,none⟩ ?_;simp only[Act.put,sA,sB,sC];refine wpAnyH_ready (rs:=[20]) (by kernel_rfl) (by simp) (AllReadyH.cons (o:=⟨some 24,.call {callee:=.value (.func 61),args:= #[.tmp 23],argTypes:= #[52]},9,_,_,none⟩) rfl (fun KK hK=> ?_) AllReadyH.nil);go_simp
     (go_at_call 61;first|(with_reducible refine(zAg v x.hdrs a5 E5.out B5.out HK.out (show St W0 _ K (.raw _ #[.int .u8 0] _::.raw wA _ _::L) by assumption)).mono ?_;rintro e wn ⟨rfl,h⟩;have cb:=zAa h;have hd:=h.drop)|(with_reducible refine(zAg v x.hdrs a5 E5.out B5.out HK.out (show St W0 _ K (.raw wA _ _::L) by assumption)).mono ?_;rintro e wn ⟨rfl,h⟩;have hal:=h.allocRaw #[.int .u8 0] 5;have cb:=zAa hal;have hd:=hal.drop))
     refine hK.out _ _ zq34 (fun hHeld=> ?_);clear hK KK
     try simp only[Act.put,sA,sB,sC]
    rotate_left
    focus
     go_simp
     (go_at_call 59;first|(with_reducible refine(zAz x.off a2 E2.out R2.out (show St W0 _ K (.raw _ #[.int .u8 0] _::.raw wA _ _::L) by assumption)).mono ?_;rintro e wn ⟨rfl,h⟩;have cb:=zAa h;have hd:=h.drop)|(with_reducible refine(zAz x.off a2 E2.out R2.out (show St W0 _ K (.raw wA _ _::L) by assumption)).mono ?_;rintro e wn ⟨rfl,h⟩;have hal:=h.allocRaw #[.int .u8 0] 5;have cb:=zAa hal;have hd:=hal.drop))
     refine hK.out _ _ zq34 (fun hHeld=> ?_);clear hK KK
     try simp only[Act.put,sA,sB,sC]
     refine wpAnyH_ready (rs:=[1,12]) (by kernel_rfl) (by simp) (AllReadyH.cons (o:=⟨some 5,.convert 57 9 (.tmp 4),9,_,_,none⟩) rfl (fun KK hK=> ?_) (AllReadyH.cons (o:=⟨some 16,.call {callee:=.value (.func 60),args:= #[.tmp 15],argTypes:= #[51]},9,_,_,none⟩) rfl (fun KK hK=> ?_) AllReadyH.nil))
     focus
      go_simp;refine hK.out _ _ zq34 (fun hHeld=> ?_);clear hK KK
      try simp only[Act.put,sA,sB,sC]
      refine tQ 5 ⟨some 9,.binOp .add 9 (.tmp 5) (.tmp 8) 9,9,_,_,none⟩ ?_;simp only[Act.put,sA,sB,sC];refine tQ 9 ⟨some 13,.binOp .add 9 (.tmp 9) (.tmp 12) 9,9,_,_,none⟩ ?_;simp only[Act.put,sA,sB,sC];refine wpAnyH_ready (rs:=[12]) (by kernel_rfl) (by simp) (AllReadyH.cons (o:=⟨some 16,.call {callee:=.value (.func 60),args:= #[.tmp 15],argTypes:= #[51]},9,_,_,none⟩) rfl (fun KK hK=> ?_) AllReadyH.nil);go_simp
      (go_at_call 60;first|(with_reducible refine(zAb x.key.null x.key.data a3 E3.out B3.out (show St W0 _ K (.raw _ #[.int .u8 0] _::.raw wA _ _::L) by assumption)).mono ?_;rintro e wn ⟨rfl,h⟩;have cb:=zAa h;have hd:=h.drop)|(with_reducible refine(zAb x.key.null x.key.data a3 E3.out B3.out (show St W0 _ K (.raw wA _ _::L) by assumption)).mono ?_;rintro e wn ⟨rfl,h⟩;have hal:=h.allocRaw #[.int .u8 0] 5;have cb:=zAa hal;have hd:=hal.drop))
      refine hK.out _ _ zq34 (fun hHeld=> ?_);clear hK KK
      try simp only[Act.put,sA,sB,sC]
      refine tQ 13 ⟨some 17,.binOp .add 9 (.tmp 13) (.tmp 16) 9,9,_,_,none⟩ ?_;simp only[Act.put,sA,sB,sC];refine wpAnyH_ready (rs:=[16]) (by kernel_rfl) (by simp) (AllReadyH.cons (o:=⟨some 20,.call {callee:=.value (.func 60),args:= #[.tmp 19],argTypes:= #[51]},9,_,_,none⟩) rfl (fun KK hK=> ?_) AllReadyH.nil);go_simp
      (go_at_call 60;first|(with_reducible refine(zAb x.val.null x.val.data a4 E4.out B4.out (show St W0 _ K (.raw _ #[.int .u8 0] _::.raw wA _ _::L) by assumption)).mono ?_;rintro e wn ⟨rfl,h⟩;have cb:=zAa h;have hd:=h.drop)|(with_reducible refine(zAb x.val.null x.val.data a4 E4.out B4.out (show St W0 _ K (.raw wA _ _::L) by assumption)).mono ?_;rintro e wn ⟨rfl,h⟩;have hal:=h.allocRaw #[.int .u8 0] 5;have cb:=zAa hal;have hd:=hal.drop))
      refine hK.out _ _ zq34 (fun hHeld=> ?_);clear hK KK
      try simp only[Act.put,sA,sB,sC]
      refine tQ 17 ⟨some 21,.binOp .add 9 (.tmp 17) (.tmp 20) 9,9,_,_,none⟩ ?_;simp only[Act.put,sA,sB,sC];refine wpAnyH_ready (rs:=[20]) (by kernel_rfl) (by simp) (AllReadyH.cons (o:=⟨some 24,.call {callee:=.value (.func 61),args:= #[.tmp 23],argTypes:= #[52]},9,_,_,none⟩) rfl (fun KK hK=> ?_) AllReadyH.nil);go_simp
      (go_at_call 61;first|(with_reducible refine(zAg v x.hdrs a5 E5.out B5.out HK.out (show St W0 _ K (.raw _ #[.int .u8 0] _::.raw wA _ _::L) by assumption)).mono ?_;rintro e wn ⟨rfl,h⟩;have cb:=zAa h;have hd:=h.drop)|(with_reducible refine(zAg v x.hdrs a5 E5.out B5.out HK.out (show St W0 _ K (.raw wA _ _::L) by assumption)).mono ?_;rintro e wn ⟨rfl,h⟩;have hal:=h.allocRaw #[.int .u8 0] 5;have cb:=zAa hal;have hd:=hal.drop))
      refine hK.out _ _ zq34 (fun hHeld=> ?_);clear hK KK
      try simp only[Act.put,sA,sB,sC]
     rotate_left
     focus
      go_simp
      (go_at_call 60;first|(with_reducible refine(zAb x.key.null x.key.data a3 E3.out B3.out (show St W0 _ K (.raw _ #[.int .u8 0] _::.raw wA _ _::L) by assumption)).mono ?_;rintro e wn ⟨rfl,h⟩;have cb:=zAa h;have hd:=h.drop)|(with_reducible refine(zAb x.key.null x.key.data a3 E3.out B3.out (show St W0 _ K (.raw wA _ _::L) by assumption)).mono ?_;rintro e wn ⟨rfl,h⟩;have hal:=h.allocRaw #[.int .u8 0] 5;have cb:=zAa hal;have hd:=hal.drop))
      refine hK.out _ _ zq34 (fun hHeld=> ?_);clear hK KK
      try simp only[Act.put,sA,sB,sC]
      refine wpAnyH_ready (rs:=[1,16]) (by kernel_rfl) (by simp) (AllReadyH.cons (o:=⟨some 5,.convert 57 9 (.tmp 4),9,_,_,none⟩) rfl (fun KK hK=> ?_) (AllReadyH.cons (o:=⟨some 20,.call {callee:=.value (.func 60),args:= #[.tmp 19],argTypes:= #[51]},9,_,_,none⟩) rfl (fun KK hK=> ?_) AllReadyH.nil))
      focus
       go_simp;refine hK.out _ _ zq34 (fun hHeld=> ?_);clear hK KK
       try simp only[Act.put,sA,sB,sC]
       refine tQ 5 ⟨some 9,.binOp .add 9 (.tmp 5) (.tmp 8) 9,9,_,_,none⟩ ?_;simp only[Act.put,sA,sB,sC];refine tQ 9 ⟨some 13,.binOp .add 9 (.tmp 9) (.tmp 12) 9,9,_,_,none⟩ ?_;simp only[Act.put,sA,sB,sC];refine tQ 13 ⟨some 17,.binOp .add 9 (.tmp 13) (.tmp 16) 9,9,_,_,none⟩ ?_;simp only[Act.put,sA,sB,sC];refine wpAnyH_ready (rs:=[16]) (by kernel_rfl) (by simp) (AllReadyH.cons (o:=⟨some 20,.call {callee:=.value (.func 60),args:= #[.tmp 19],argTypes:= #[51]},9,_,_,none⟩) rfl (fun KK hK=> ?_) AllReadyH.nil);go_simp
       (go_at_call 60;first|(with_reducible refine(zAb x.val.null x.val.data a4 E4.out B4.out (show St W0 _ K (.raw _ #[.int .u8 0] _::.raw wA _ _::L) by assumption)).mono ?_;rintro e wn ⟨rfl,h⟩;have cb:=zAa h;have hd:=h.drop)|(with_reducible refine(zAb x.val.null x.val.data a4 E4.out B4.out (show St W0 _ K (.raw wA _ _::L) by assumption)).mono ?_;rintro e wn ⟨rfl,h⟩;have hal:=h.allocRaw #[.int .u8 0] 5;have cb:=zAa hal;have hd:=hal.drop))
       refine hK.out _ _ zq34 (fun hHeld=> ?_);clear hK KK
       try simp only[Act.put,sA,sB,sC]
       refine tQ 17 ⟨some 21,.binOp .add 9 (.tmp 17) (.tmp 20) 9,9,_,_,none⟩ ?_;simp only[Act.put,sA,sB,sC];refine wpAnyH_ready (rs:=[20]) (by kernel_rfl) (by simp) (AllReadyH.cons (o:=⟨some 24,.call {callee:=.value (.func 61),args:= #[.tmp 23],argTypes:= #[52]},9,_,_,none⟩) rfl (fun KK hK=> ?_) AllReadyH.nil);go_simp
       (go_at_call 61;first|(with_reducible refine(zAg v x.hdrs a5 E5.out B5.out HK.out (show St W0 _ K (.raw _ #[.int .u8 0] _::.raw wA _ _::L) by assumption)).mono ?_;rintro e wn ⟨rfl,h⟩;have cb:=zAa h;have hd:=h.drop)|(with_reducible refine(zAg v x.hdrs a5 E5.out B5.out HK.out (show St W0 _ K (.raw wA _ _::L) by assumption)).mono ?_;rintro e wn ⟨rfl,h⟩;have hal:=h.allocRaw #[.int .u8 0] 5;have cb:=zAa hal;have hd:=hal.drop))
       refine hK.out _ _ zq34 (fun hHeld=> ?_);clear hK KK
       try simp only[Act.put,sA,sB,sC]
      rotate_left
      focus
       go_simp
       (go_at_call 60;first|(with_reducible refine(zAb x.val.null x.val.data a4 E4.out B4.out (show St W0 _ K (.raw _ #[.int .u8 0] _::.raw wA _ _::L) by assumption)).mono ?_;rintro e wn ⟨rfl,h⟩;have cb:=zAa h;have hd:=h.drop)|(with_reducible refine(zAb x.val.null x.val.data a4 E4.out B4.out (show St W0 _ K (.raw wA _ _::L) by assumption)).mono ?_;rintro e wn ⟨rfl,h⟩;have hal:=h.allocRaw #[.int .u8 0] 5;have cb:=zAa hal;have hd:=hal.drop))
       refine hK.out _ _ zq34 (fun hHeld=> ?_);clear hK KK
       try simp only[Act.put,sA,sB,sC]
       refine wpAnyH_ready (rs:=[1,20]) (by kernel_rfl) (by simp) (AllReadyH.cons (o:=⟨some 5,.convert 57 9 (.tmp 4),9,_,_,none⟩) rfl (fun KK hK=> ?_) (AllReadyH.cons (o:=⟨some 24,.call {callee:=.value (.func 61),args:= #[.tmp 23],argTypes:= #[52]},9,_,_,none⟩) rfl (fun KK hK=> ?_) AllReadyH.nil))
       focus
        go_simp;refine hK.out _ _ zq34 (fun hHeld=> ?_);clear hK KK
        try simp only[Act.put,sA,sB,sC]
        refine tQ 5 ⟨some 9,.binOp .add 9 (.tmp 5) (.tmp 8) 9,9,_,_,none⟩ ?_;simp only[Act.put,sA,sB,sC];refine tQ 9 ⟨some 13,.binOp .add 9 (.tmp 9) (.tmp 12) 9,9,_,_,none⟩ ?_;simp only[Act.put,sA,sB,sC];refine tQ 13 ⟨some 17,.binOp .add 9 (.tmp 13) (.tmp 16) 9,9,_,_,none⟩ ?_;simp only[Act.put,sA,sB,sC];refine tQ 17 ⟨some 21,.binOp .add 9 (.tmp 17) (.tmp 20) 9,9,_,_,none⟩ ?_;simp only[Act.put,sA,sB,sC];refine wpAnyH_ready (rs:=[20]) (by kernel_rfl) (by simp) (AllReadyH.cons (o:=⟨some 24,.call {callee:=.value (.func 61),args:= #[.tmp 23],argTypes:= #[52]},9,_,_,none⟩) rfl (fun KK hK=> ?_) AllReadyH.nil);go_simp
        (go_at_call 61;first|(with_reducible refine(zAg v x.hdrs a5 E5.out B5.out HK.out (show St W0 _ K (.raw _ #[.int .u8 0] _::.raw wA _ _::L) by assumption)).mono ?_;rintro e wn ⟨rfl,h⟩;have cb:=zAa h;have hd:=h.drop)|(with_reducible refine(zAg v x.hdrs a5 E5.out B5.out HK.out (show St W0 _ K (.raw wA _ _::L) by assumption)).mono ?_;rintro e wn ⟨rfl,h⟩;have hal:=h.allocRaw #[.int .u8 0] 5;have cb:=zAa hal;have hd:=hal.drop))
        refine hK.out _ _ zq34 (fun hHeld=> ?_);clear hK KK
        try simp only[Act.put,sA,sB,sC]
       rotate_left
       focus
        go_simp
        (go_at_call 61;first|(with_reducible refine(zAg v x.hdrs a5 E5.out B5.out HK.out (show St W0 _ K (.raw _ #[.int .u8 0] _::.raw wA _ _::L) by assumption)).mono ?_;rintro e wn ⟨rfl,h⟩;have cb:=zAa h;have hd:=h.drop)|(with_reducible refine(zAg v x.hdrs a5 E5.out B5.out HK.out (show St W0 _ K (.raw wA _ _::L) by assumption)).mono ?_;rintro e wn ⟨rfl,h⟩;have hal:=h.allocRaw #[.int .u8 0] 5;have cb:=zAa hal;have hd:=hal.drop))
        refine hK.out _ _ zq34 (fun hHeld=> ?_);clear hK KK
        try simp only[Act.put,sA,sB,sC]
        refine wpAnyH_ready (rs:=[1]) (by kernel_rfl) (by simp) (AllReadyH.cons (o:=⟨some 5,.convert 57 9 (.tmp 4),9,_,_,none⟩) rfl (fun KK hK=> ?_) AllReadyH.nil);go_simp;refine hK.out _ _ zq34 (fun hHeld=> ?_);clear hK KK
        try simp only[Act.put,sA,sB,sC]
        refine tQ 5 ⟨some 9,.binOp .add 9 (.tmp 5) (.tmp 8) 9,9,_,_,none⟩ ?_;simp only[Act.put,sA,sB,sC];refine tQ 9 ⟨some 13,.binOp .add 9 (.tmp 9) (.tmp 12) 9,9,_,_,none⟩ ?_;simp only[Act.put,sA,sB,sC];refine tQ 13 ⟨some 17,.binOp .add 9 (.tmp 13) (.tmp 16) 9,9,_,_,none⟩ ?_;simp only[Act.put,sA,sB,sC];refine tQ 17 ⟨some 21,.binOp .add 9 (.tmp 17) (.tmp 20) 9,9,_,_,none⟩ ?_;simp only[Act.put,sA,sB,sC]
   rotate_left 5
   focus
    go_simp
    (go_at_call 59;first|(with_reducible refine(zAz x.off a2 E2.out R2.out (show St W0 _ K (.raw _ #[.int .u8 0] _::.raw wA _ _::L) by assumption)).mono ?_;rintro e wn ⟨rfl,h⟩;have cb:=zAa h;have hd:=h.drop)|(with_reducible refine(zAz x.off a2 E2.out R2.out (show St W0 _ K (.raw wA _ _::L) by assumption)).mono ?_;rintro e wn ⟨rfl,h⟩;have hal:=h.allocRaw #[.int .u8 0] 5;have cb:=zAa hal;have hd:=hal.drop))
    refine hK.out _ _ zq34 (fun hHeld=> ?_);clear hK KK
    try simp only[Act.put,sA,sB,sC]
    refine wpAnyH_ready (rs:=[0,12]) (by kernel_rfl) (by simp) (AllReadyH.cons (o:=⟨some 4,.buildSlice 57 1 #[(0,.const (Value.int IntKind.u8 0))],57,_,_,none⟩) rfl (fun KK hK=> ?_) (AllReadyH.cons (o:=⟨some 16,.call {callee:=.value (.func 60),args:= #[.tmp 15],argTypes:= #[51]},9,_,_,none⟩) rfl (fun KK hK=> ?_) AllReadyH.nil))
    focus
     go_simp;refine hK.out _ _ zq34 (fun hHeld=> ?_);clear hK KK
     try simp only[Act.put,sA,sB,sC]
     refine wpAnyH_ready (rs:=[1,12]) (by kernel_rfl) (by simp) (AllReadyH.cons (o:=⟨some 5,.convert 57 9 (.tmp 4),9,_,_,none⟩) rfl (fun KK hK=> ?_) (AllReadyH.cons (o:=⟨some 16,.call {callee:=.value (.func 60),args:= #[.tmp 15],argTypes:= #[51]},9,_,_,none⟩) rfl (fun KK hK=> ?_) AllReadyH.nil))
     focus
      go_simp;refine hK.out _ _ zq34 (fun hHeld=> ?_);clear hK KK
      try simp only[Act.put,sA,sB,sC]
      refine tQ 5 ⟨some 9,.binOp .add 9 (.tmp 5) (.tmp 8) 9,9,_,_,none⟩ ?_;simp only[Act.put,sA,sB,sC];refine tQ 9 ⟨some 13,.binOp .add 9 (.tmp 9) (.tmp 12) 9,9,_,_,none⟩ ?_;simp only[Act.put,sA,sB,sC];refine wpAnyH_ready (rs:=[12]) (by kernel_rfl) (by simp) (AllReadyH.cons (o:=⟨some 16,.call {callee:=.value (.func 60),args:= #[.tmp 15],argTypes:= #[51]},9,_,_,none⟩) rfl (fun KK hK=> ?_) AllReadyH.nil);go_simp
      (go_at_call 60;first|(with_reducible refine(zAb x.key.null x.key.data a3 E3.out B3.out (show St W0 _ K (.raw _ #[.int .u8 0] _::.raw wA _ _::L) by assumption)).mono ?_;rintro e wn ⟨rfl,h⟩;have cb:=zAa h;have hd:=h.drop)|(with_reducible refine(zAb x.key.null x.key.data a3 E3.out B3.out (show St W0 _ K (.raw wA _ _::L) by assumption)).mono ?_;rintro e wn ⟨rfl,h⟩;have hal:=h.allocRaw #[.int .u8 0] 5;have cb:=zAa hal;have hd:=hal.drop))
      refine hK.out _ _ zq34 (fun hHeld=> ?_);clear hK KK
      try simp only[Act.put,sA,sB,sC]
      refine tQ 13 ⟨some 17,.binOp .add 9 (.tmp 13) (.tmp 16) 9,9,_,_,none⟩ ?_;simp only[Act.put,sA,sB,sC];refine wpAnyH_ready (rs:=[16]) (by kernel_rfl) (by simp) (AllReadyH.cons (o:=⟨some 20,.call {callee:=.value (.func 60),args:= #[.tmp 19],argTypes:= #[51]},9,_,_,none⟩) rfl (fun KK hK=> ?_) AllReadyH.nil);go_simp
      (go_at_call 60;first|(with_reducible refine(zAb x.val.null x.val.data a4 E4.out B4.out (show St W0 _ K (.raw _ #[.int .u8 0] _::.raw wA _ _::L) by assumption)).mono ?_;rintro e wn ⟨rfl,h⟩;have cb:=zAa h;have hd:=h.drop)|(with_reducible refine(zAb x.val.null x.val.data a4 E4.out B4.out (show St W0 _ K (.raw wA _ _::L) by assumption)).mono ?_;rintro e wn ⟨rfl,h⟩;have hal:=h.allocRaw #[.int .u8 0] 5;have cb:=zAa hal;have hd:=hal.drop))
      refine hK.out _ _ zq34 (fun hHeld=> ?_);clear hK KK
      try simp only[Act.put,sA,sB,sC]
      refine tQ 17 ⟨some 21,.binOp .add 9 (.tmp 17) (.tmp 20) 9,9,_,_,none⟩ ?_;simp only[Act.put,sA,sB,sC];refine wpAnyH_ready (rs:=[20]) (by kernel_rfl) (by simp) (AllReadyH.cons (o:=⟨some 24,.call {callee:=.value (.func 61),args:= #[.tmp 23],argTypes:= #[52]},9,_,_,none⟩) rfl (fun KK hK=> ?_) AllReadyH.nil);go_simp
      (go_at_call 61;first|(with_reducible refine(zAg v x.hdrs a5 E5.out B5.out HK.out (show St W0 _ K (.raw _ #[.int .u8 0] _::.raw wA _ _::L) by assumption)).mono ?_;rintro e wn ⟨rfl,h⟩;have cb:=zAa h;have hd:=h.drop)|(with_reducible refine(zAg v x.hdrs a5 E5.out B5.out HK.out (show St W0 _ K (.raw wA _ _::L) by assumption)).mono ?_;rintro e wn ⟨rfl,h⟩;have hal:=h.allocRaw #[.int .u8 0] 5;have cb:=zAa hal;have hd:=hal.drop))
      refine hK.out _ _ zq34 (fun hHeld=> ?_);clear hK KK
      try simp only[Act.put,sA,sB,sC]
     rotate_left
     focus
      go_simp
      (go_at_call 60;first|(with_reducible refine(zAb x.key.null x.key.data a3 E3.out B3.out (show St W0 _ K (.raw _ #[.int .u8 0] _::.raw wA _ _::L) by assumption)).mono ?_;rintro e wn ⟨rfl,h⟩;have cb:=zAa h;have hd:=h.drop)|(with_reducible refine(zAb x.key.null x.key.data a3 E3.out B3.out (show St W0 _ K (.raw wA _ _::L) by assumption)).mono ?_;rintro e wn ⟨rfl,h⟩;have hal:=h.allocRaw #[.int .u8 0] 5;have cb:=zAa hal;have hd:=hal.drop))
      refine hK.out _ _ zq34 (fun hHeld=> ?_);clear hK KK
      try simp only[Act.put,sA,sB,sC]
      refine wpAnyH_ready (rs:=[1,16]) (by kernel_rfl) (by simp) (AllReadyH.cons (o:=⟨some 5,.convert 57 9 (.tmp 4),9,_,_,none⟩) rfl (fun KK hK=> ?_) (AllReadyH.cons (o:=⟨some 20,.call {callee:=.value (.func 60),args:= #[.tmp 19],argTypes:= #[51]},9,_,_,none⟩) rfl (fun KK hK=> ?_) AllReadyH.nil))
      focus
       go_simp;refine hK.out _ _ zq34 (fun hHeld=> ?_);clear hK KK
       try simp only[Act.put,sA,sB,sC]
       refine tQ 5 ⟨some 9,.binOp .add 9 (.tmp 5) (.tmp 8) 9,9,_,_,none⟩ ?_;simp only[Act.put,sA,sB,sC];refine tQ 9 ⟨some 13,.binOp .add 9 (.tmp 9) (.tmp 12) 9,9,_,_,none⟩ ?_;simp only[Act.put,sA,sB,sC];refine tQ 13 ⟨some 17,.binOp .add 9 (.tmp 13) (.tmp 16) 9,9,_,_,none⟩ ?_;simp only[Act.put,sA,sB,sC];refine wpAnyH_ready (rs:=[16]) (by kernel_rfl) (by simp) (AllReadyH.cons (o:=⟨some 20,.call {callee:=.value (.func 60),args:= #[.tmp 19],argTypes:= #[51]},9,_,_,none⟩) rfl (fun KK hK=> ?_) AllReadyH.nil);go_simp
       (go_at_call 60;first|(with_reducible refine(zAb x.val.null x.val.data a4 E4.out B4.out (show St W0 _ K (.raw _ #[.int .u8 0] _::.raw wA _ _::L) by assumption)).mono ?_;rintro e wn ⟨rfl,h⟩;have cb:=zAa h;have hd:=h.drop)|(with_reducible refine(zAb x.val.null x.val.data a4 E4.out B4.out (show St W0 _ K (.raw wA _ _::L) by assumption)).mono ?_;rintro e wn ⟨rfl,h⟩;have hal:=h.allocRaw #[.int .u8 0] 5;have cb:=zAa hal;have hd:=hal.drop))
       refine hK.out _ _ zq34 (fun hHeld=> ?_);clear hK KK
       try simp only[Act.put,sA,sB,sC]
       refine tQ 17 ⟨some 21,.binOp .add 9 (.tmp 17) (.tmp 20) 9,9,_,_,none⟩ ?_;simp only[Act.put,sA,sB,sC];refine wpAnyH_ready (rs:=[20]) (by kernel_rfl) (by simp) (AllReadyH.cons (o:=⟨some 24,.call {callee:=.value (.func 61),args:= #[.tmp 23],argTypes:= #[52]},9,_,_,none⟩) rfl (fun KK hK=> ?_) AllReadyH.nil);go_simp
       (go_at_call 61;first|(with_reducible refine(zAg v x.hdrs a5 E5.out B5.out HK.out (show St W0 _ K (.raw _ #[.int .u8 0] _::.raw wA _ _::L) by assumption)).mono ?_;rintro e wn ⟨rfl,h⟩;have cb:=zAa h;have hd:=h.drop)|(with_reducible refine(zAg v x.hdrs a5 E5.out B5.out HK.out (show St W0 _ K (.raw wA _ _::L) by assumption)).mono ?_;rintro e wn ⟨rfl,h⟩;have hal:=h.allocRaw #[.int .u8 0] 5;have cb:=zAa hal;have hd:=hal.drop))
       refine hK.out _ _ zq34 (fun hHeld=> ?_);clear hK KK
       try simp only[Act.put,sA,sB,sC]
      rotate_left
      focus
       go_simp
       (go_at_call 60;first|(with_reducible refine(zAb x.val.null x.val.data a4 E4.out B4.out (show St W0 _ K (.raw _ #[.int .u8 0] _::.raw wA _ _::L) by assumption)).mono ?_;rintro e wn ⟨rfl,h⟩;have cb:=zAa h;have hd:=h.drop)|(with_reducible refine(zAb x.val.null x.val.data a4 E4.out B4.out (show St W0 _ K (.raw wA _ _::L) by assumption)).mono ?_;rintro e wn ⟨rfl,h⟩;have hal:=h.allocRaw #[.int .u8 0] 5;have cb:=zAa hal;have hd:=hal.drop))
       refine hK.out _ _ zq34 (fun hHeld=> ?_);clear hK KK
       try simp only[Act.put,sA,sB,sC]
       refine wpAnyH_ready (rs:=[1,20]) (by kernel_rfl) (by simp) (AllReadyH.cons (o:=⟨some 5,.convert 57 9 (.tmp 4),9,_,_,none⟩) rfl (fun KK hK=> ?_) (AllReadyH.cons (o:=⟨some 24,.call {callee:=.value (.func 61),args:= #[.tmp 23],argTypes:= #[52]},9,_,_,none⟩) rfl (fun KK hK=> ?_) AllReadyH.nil))
       focus
        go_simp;refine hK.out _ _ zq34 (fun hHeld=> ?_);clear hK KK
        try simp only[Act.put,sA,sB,sC]
        refine tQ 5 ⟨some 9,.binOp .add 9 (.tmp 5) (.tmp 8) 9,9,_,_,none⟩ ?_;simp only[Act.put,sA,sB,sC];refine tQ 9 ⟨some 13,.binOp .add 9 (.tmp 9) (.tmp 12) 9,9,_,_,none⟩ ?_;simp only[Act.put,sA,sB,sC];refine tQ 13 ⟨some 17,.binOp .add 9 (.tmp 13) (.tmp 16) 9,9,_,_,none⟩ ?_;simp only[Act.put,sA,sB,sC];refine tQ 17 ⟨some 21,.binOp .add 9 (.tmp 17) (.tmp 20) 9,9,_,_,none⟩ ?_;simp only[Act.put,sA,sB,sC];refine wpAnyH_ready (rs:=[20]) (by kernel_rfl) (by simp) (AllReadyH.cons (o:=⟨some 24,.call {callee:=.value (.func 61),args:= #[.tmp 23],argTypes:= #[52]},9,_,_,none⟩) rfl (fun KK hK=> ?_) AllReadyH.nil);go_simp
        (go_at_call 61;first|(with_reducible refine(zAg v x.hdrs a5 E5.out B5.out HK.out (show St W0 _ K (.raw _ #[.int .u8 0] _::.raw wA _ _::L) by assumption)).mono ?_;rintro e wn ⟨rfl,h⟩;have cb:=zAa h;have hd:=h.drop)|(with_reducible refine(zAg v x.hdrs a5 E5.out B5.out HK.out (show St W0 _ K (.raw wA _ _::L) by assumption)).mono ?_;rintro e wn ⟨rfl,h⟩;have hal:=h.allocRaw #[.int .u8 0] 5;have cb:=zAa hal;have hd:=hal.drop))
        refine hK.out _ _ zq34 (fun hHeld=> ?_);clear hK KK
        try simp only[Act.put,sA,sB,sC]
       rotate_left
       focus
        go_simp
        (go_at_call 61;first|(with_reducible refine(zAg v x.hdrs a5 E5.out B5.out HK.out (show St W0 _ K (.raw _ #[.int .u8 0] _::.raw wA _ _::L) by assumption)).mono ?_;rintro e wn ⟨rfl,h⟩;have cb:=zAa h;have hd:=h.drop)|(with_reducible refine(zAg v x.hdrs a5 E5.out B5.out HK.out (show St W0 _ K (.raw wA _ _::L) by assumption)).mono ?_;rintro e wn ⟨rfl,h⟩;have hal:=h.allocRaw #[.int .u8 0] 5;have cb:=zAa hal;have hd:=hal.drop))
        refine hK.out _ _ zq34 (fun hHeld=> ?_);clear hK KK
        try simp only[Act.put,sA,sB,sC]
        refine wpAnyH_ready (rs:=[1]) (by kernel_rfl) (by simp) (AllReadyH.cons (o:=⟨some 5,.convert 57 9 (.tmp 4),9,_,_,none⟩) rfl (fun KK hK=> ?_) AllReadyH.nil);go_simp;refine hK.out _ _ zq34 (fun hHeld=> ?_);clear hK KK
        try simp only[Act.put,sA,sB,sC]
        refine tQ 5 ⟨some 9,.binOp .add 9 (.tmp 5) (.tmp 8) 9,9,_,_,none⟩ ?_;simp only[Act.put,sA,sB,sC];refine tQ 9 ⟨some 13,.binOp .add 9 (.tmp 9) (.tmp 12) 9,9,_,_,none⟩ ?_;simp only[Act.put,sA,sB,sC];refine tQ 13 ⟨some 17,.binOp .add 9 (.tmp 13) (.tmp 16) 9,9,_,_,none⟩ ?_;simp only[Act.put,sA,sB,sC];refine tQ 17 ⟨some 21,.binOp .add 9 (.tmp 17) (.tmp 20) 9,9,_,_,none⟩ ?_;simp only[Act.put,sA,sB,sC]
    rotate_left 4
    focus
     go_simp
     (go_at_call 60;first|(with_reducible refine(zAb x.key.null x.key.data a3 E3.out B3.out (show St W0 _ K (.raw _ #[.int .u8 0] _::.raw wA _ _::L) by assumption)).mono ?_;rintro e wn ⟨rfl,h⟩;have cb:=zAa h;have hd:=h.drop)|(with_reducible refine(zAb x.key.null x.key.data a3 E3.out B3.out (show St W0 _ K (.raw wA _ _::L) by assumption)).mono ?_;rintro e wn ⟨rfl,h⟩;have hal:=h.allocRaw #[.int .u8 0] 5;have cb:=zAa hal;have hd:=hal.drop))
     refine hK.out _ _ zq34 (fun hHeld=> ?_);clear hK KK
     try simp only[Act.put,sA,sB,sC]
     refine wpAnyH_ready (rs:=[0,16]) (by kernel_rfl) (by simp) (AllReadyH.cons (o:=⟨some 4,.buildSlice 57 1 #[(0,.const (Value.int IntKind.u8 0))],57,_,_,none⟩) rfl (fun KK hK=> ?_) (AllReadyH.cons (o:=⟨some 20,.call {callee:=.value (.func 60),args:= #[.tmp 19],argTypes:= #[51]},9,_,_,none⟩) rfl (fun KK hK=> ?_) AllReadyH.nil))
     focus
      go_simp;refine hK.out _ _ zq34 (fun hHeld=> ?_);clear hK KK
      try simp only[Act.put,sA,sB,sC]
      refine wpAnyH_ready (rs:=[1,16]) (by kernel_rfl) (by simp) (AllReadyH.cons (o:=⟨some 5,.convert 57 9 (.tmp 4),9,_,_,none⟩) rfl (fun KK hK=> ?_) (AllReadyH.cons (o:=⟨some 20,.call {callee:=.value (.func 60),args:= #[.tmp 19],argTypes:= #[51]},9,_,_,none⟩) rfl (fun KK hK=> ?_) AllReadyH.nil))
      focus
       go_simp;refine hK.out _ _ zq34 (fun hHeld=> ?_);clear hK KK
       try simp only[Act.put,sA,sB,sC]
       refine tQ 5 ⟨some 9,.binOp .add 9 (.tmp 5) (.tmp 8) 9,9,_,_,none⟩ ?_;simp only[Act.put,sA,sB,sC];refine tQ 9 ⟨some 13,.binOp .add 9 (.tmp 9) (.tmp 12) 9,9,_,_,none⟩ ?_;simp only[Act.put,sA,sB,sC];refine tQ 13 ⟨some 17,.binOp .add 9 (.tmp 13) (.tmp 16) 9,9,_,_,none⟩ ?_;simp only[Act.put,sA,sB,sC];refine wpAnyH_ready (rs:=[16]) (by kernel_rfl) (by simp) (AllReadyH.cons (o:=⟨some 20,.call {callee:=.value (.func 60),args:= #[.tmp 19],argTypes:= #[51]},9,_,_,none⟩) rfl (fun KK hK=> ?_) AllReadyH.nil);go_simp
       (go_at_call 60;first|(with_reducible refine(zAb x.val.null x.val.data a4 E4.out B4.out (show St W0 _ K (.raw _ #[.int .u8 0] _::.raw wA _ _::L) by assumption)).mono ?_;rintro e wn ⟨rfl,h⟩;have cb:=zAa h;have hd:=h.drop)|(with_reducible refine(zAb x.val.null x.val.data a4 E4.out B4.out (show St W0 _ K (.raw wA _ _::L) by assumption)).mono ?_;rintro e wn ⟨rfl,h⟩;have hal:=h.allocRaw #[.int .u8 0] 5;have cb:=zAa hal;have hd:=hal.drop))
       refine hK.out _ _ zq34 (fun hHeld=> ?_);clear hK KK
       try simp only[Act.put,sA,sB,sC]
       refine tQ 17 ⟨some 21,.binOp .add 9 (.tmp 17) (.tmp 20) 9,9,_,_,none⟩ ?_;simp only[Act.put,sA,sB,sC];refine wpAnyH_ready (rs:=[20]) (by kernel_rfl) (by simp) (AllReadyH.cons (o:=⟨some 24,.call {callee:=.value (.func 61),args:= #[.tmp 23],argTypes:= #[52]},9,_,_,none⟩) rfl (fun KK hK=> ?_) AllReadyH.nil);go_simp
       (go_at_call 61;first|(with_reducible refine(zAg v x.hdrs a5 E5.out B5.out HK.out (show St W0 _ K (.raw _ #[.int .u8 0] _::.raw wA _ _::L) by assumption)).mono ?_;rintro e wn ⟨rfl,h⟩;have cb:=zAa h;have hd:=h.drop)|(with_reducible refine(zAg v x.hdrs a5 E5.out B5.out HK.out (show St W0 _ K (.raw wA _ _::L) by assumption)).mono ?_;rintro e wn ⟨rfl,h⟩;have hal:=h.allocRaw #[.int .u8 0] 5;have cb:=zAa hal;have hd:=hal.drop))
       refine hK.out _ _ zq34 (fun hHeld=> ?_);clear hK KK
       try simp only[Act.put,sA,sB,sC]
      rotate_left
      focus
       go_simp
       (go_at_call 60;first|(with_reducible refine(zAb x.val.null x.val.data a4 E4.out B4.out (show St W0 _ K (.raw _ #[.int .u8 0] _::.raw wA _ _::L) by assumption)).mono ?_;rintro e wn ⟨rfl,h⟩;have cb:=zAa h;have hd:=h.drop)|(with_reducible refine(zAb x.val.null x.val.data a4 E4.out B4.out (show St W0 _ K (.raw wA _ _::L) by assumption)).mono ?_;rintro e wn ⟨rfl,h⟩;have hal:=h.allocRaw #[.int .u8 0] 5;have cb:=zAa hal;have hd:=hal.drop))
       refine hK.out _ _ zq34 (fun hHeld=> ?_);clear hK KK
       try simp only[Act.put,sA,sB,sC]
       refine wpAnyH_ready (rs:=[1,20]) (by kernel_rfl) (by simp) (AllReadyH.cons (o:=⟨some 5,.convert 57 9 (.tmp 4),9,_,_,none⟩) rfl (fun KK hK=> ?_) (AllReadyH.cons (o:=⟨some 24,.call {callee:=.value (.func 61),args:= #[.tmp 23],argTypes:= #[52]},9,_,_,none⟩) rfl (fun KK hK=> ?_) AllReadyH.nil))
       focus
        go_simp;refine hK.out _ _ zq34 (fun hHeld=> ?_);clear hK KK
        try simp only[Act.put,sA,sB,sC]
        refine tQ 5 ⟨some 9,.binOp .add 9 (.tmp 5) (.tmp 8) 9,9,_,_,none⟩ ?_;simp only[Act.put,sA,sB,sC];refine tQ 9 ⟨some 13,.binOp .add 9 (.tmp 9) (.tmp 12) 9,9,_,_,none⟩ ?_;simp only[Act.put,sA,sB,sC];refine tQ 13 ⟨some 17,.binOp .add 9 (.tmp 13) (.tmp 16) 9,9,_,_,none⟩ ?_;simp only[Act.put,sA,sB,sC];refine tQ 17 ⟨some 21,.binOp .add 9 (.tmp 17) (.tmp 20) 9,9,_,_,none⟩ ?_;simp only[Act.put,sA,sB,sC];refine wpAnyH_ready (rs:=[20]) (by kernel_rfl) (by simp) (AllReadyH.cons (o:=⟨some 24,.call {callee:=.value (.func 61),args:= #[.tmp 23],argTypes:= #[52]},9,_,_,none⟩) rfl (fun KK hK=> ?_) AllReadyH.nil);go_simp
        (go_at_call 61;first|(with_reducible refine(zAg v x.hdrs a5 E5.out B5.out HK.out (show St W0 _ K (.raw _ #[.int .u8 0] _::.raw wA _ _::L) by assumption)).mono ?_;rintro e wn ⟨rfl,h⟩;have cb:=zAa h;have hd:=h.drop)|(with_reducible refine(zAg v x.hdrs a5 E5.out B5.out HK.out (show St W0 _ K (.raw wA _ _::L) by assumption)).mono ?_;rintro e wn ⟨rfl,h⟩;have hal:=h.allocRaw #[.int .u8 0] 5;have cb:=zAa hal;have hd:=hal.drop))
        refine hK.out _ _ zq34 (fun hHeld=> ?_);clear hK KK
        try simp only[Act.put,sA,sB,sC]
       rotate_left
       focus
        go_simp
        (go_at_call 61;first|(with_reducible refine(zAg v x.hdrs a5 E5.out B5.out HK.out (show St W0 _ K (.raw _ #[.int .u8 0] _::.raw wA _ _::L) by assumption)).mono ?_;rintro e wn ⟨rfl,h⟩;have cb:=zAa h;have hd:=h.drop)|(with_reducible refine(zAg v x.hdrs a5 E5.out B5.out HK.out (show St W0 _ K (.raw wA _ _::L) by assumption)).mono ?_;rintro e wn ⟨rfl,h⟩;have hal:=h.allocRaw #[.int .u8 0] 5;have cb:=zAa hal;have hd:=hal.drop))
        refine hK.out _ _ zq34 (fun hHeld=> ?_);clear hK KK
        try simp only[Act.put,sA,sB,sC]
        refine wpAnyH_ready (rs:=[1]) (by kernel_rfl) (by simp) (AllReadyH.cons (o:=⟨some 5,.convert 57 9 (.tmp 4),9,_,_,none⟩) rfl (fun KK hK=> ?_) AllReadyH.nil);go_simp;refine hK.out _ _ zq34 (fun hHeld=> ?_);clear hK KK
        try simp only[Act.put,sA,sB,sC]
        refine tQ 5 ⟨some 9,.binOp .add 9 (.tmp 5) (.tmp 8) 9,9,_,_,none⟩ ?_;simp only[Act.put,sA,sB,sC];refine tQ 9 ⟨some 13,.binOp .add 9 (.tmp 9) (.tmp 12) 9,9,_,_,none⟩ ?_;simp only[Act.put,sA,sB,sC];refine tQ 13 ⟨some 17,.binOp .add 9 (.tmp 13) (.tmp 16) 9,9,_,_,none⟩ ?_;simp only[Act.put,sA,sB,sC];refine tQ 17 ⟨some 21,.binOp .add 9 (.tmp 17) (.tmp 20) 9,9,_,_,none⟩ ?_;simp only[Act.put,sA,sB,sC]
     rotate_left 3
     focus
      go_simp
      (go_at_call 60;first|(with_reducible refine(zAb x.val.null x.val.data a4 E4.out B4.out (show St W0 _ K (.raw _ #[.int .u8 0] _::.raw wA _ _::L) by assumption)).mono ?_;rintro e wn ⟨rfl,h⟩;have cb:=zAa h;have hd:=h.drop)|(with_reducible refine(zAb x.val.null x.val.data a4 E4.out B4.out (show St W0 _ K (.raw wA _ _::L) by assumption)).mono ?_;rintro e wn ⟨rfl,h⟩;have hal:=h.allocRaw #[.int .u8 0] 5;have cb:=zAa hal;have hd:=hal.drop))
      refine hK.out _ _ zq34 (fun hHeld=> ?_);clear hK KK
      try simp only[Act.put,sA,sB,sC]
      refine wpAnyH_ready (rs:=[0,20]) (by kernel_rfl) (by simp) (AllReadyH.cons (o:=⟨some 4,.buildSlice 57 1 #[(0,.const (Value.int IntKind.u8 0))],57,_,_,none⟩) rfl (fun KK hK=> ?_) (AllReadyH.cons (o:=⟨some 24,.call {callee:=.value (.func 61),args:= #[.tmp 23],argTypes:= #[52]},9,_,_,none⟩) rfl (fun KK hK=> ?_) AllReadyH.nil))
      focus
       go_simp;refine hK.out _ _ zq34 (fun hHeld=> ?_);clear hK KK
       try simp only[Act.put,sA,sB,sC]
       refine wpAnyH_ready (rs:=[1,20]) (by kernel_rfl) (by simp) (AllReadyH.cons (o:=⟨some 5,.convert 57 9 (.tmp 4),9,_,_,none⟩) rfl (fun KK hK=> ?_) (AllReadyH.cons (o:=⟨some 24,.call {callee:=.value (.func 61),args:= #[.tmp 23],argTypes:= #[52]},9,_,_,none⟩) rfl (fun KK hK=> ?_) AllReadyH.nil))
       focus
        go_simp;refine hK.out _ _ zq34 (fun hHeld=> ?_);clear hK KK
        try simp only[Act.put,sA,sB,sC]
        refine tQ 5 ⟨some 9,.binOp .add 9 (.tmp 5) (.tmp 8) 9,9,_,_,none⟩ ?_;simp only[Act.put,sA,sB,sC];refine tQ 9 ⟨some 13,.binOp .add 9 (.tmp 9) (.tmp 12) 9,9,_,_,none⟩ ?_;simp only[Act.put,sA,sB,sC];refine tQ 13 ⟨some 17,.binOp .add 9 (.tmp 13) (.tmp 16) 9,9,_,_,none⟩ ?_;simp only[Act.put,sA,sB,sC];refine tQ 17 ⟨some 21,.binOp .add 9 (.tmp 17) (.tmp 20) 9,9,_,_,none⟩ ?_;simp only[Act.put,sA,sB,sC];refine wpAnyH_ready (rs:=[20]) (by kernel_rfl) (by simp) (AllReadyH.cons (o:=⟨some 24,.call {callee:=.value (.func 61),args:= #[.tmp 23],argTypes:= #[52]},9,_,_,none⟩) rfl (fun KK hK=> ?_) AllReadyH.nil);go_simp
        (go_at_call 61;first|(with_reducible refine(zAg v x.hdrs a5 E5.out B5.out HK.out (show St W0 _ K (.raw _ #[.int .u8 0] _::.raw wA _ _::L) by assumption)).mono ?_;rintro e wn ⟨rfl,h⟩;have cb:=zAa h;have hd:=h.drop)|(with_reducible refine(zAg v x.hdrs a5 E5.out B5.out HK.out (show St W0 _ K (.raw wA _ _::L) by assumption)).mono ?_;rintro e wn ⟨rfl,h⟩;have hal:=h.allocRaw #[.int .u8 0] 5;have cb:=zAa hal;have hd:=hal.drop))
        refine hK.out _ _ zq34 (fun hHeld=> ?_);clear hK KK
        try simp only[Act.put,sA,sB,sC]
       rotate_left
       focus
        go_simp
        (go_at_call 61;first|(with_reducible refine(zAg v x.hdrs a5 E5.out B5.out HK.out (show St W0 _ K (.raw _ #[.int .u8 0] _::.raw wA _ _::L) by assumption)).mono ?_;rintro e wn ⟨rfl,h⟩;have cb:=zAa h;have hd:=h.drop)|(with_reducible refine(zAg v x.hdrs a5 E5.out B5.out HK.out (show St W0 _ K (.raw wA _ _::L) by assumption)).mono ?_;rintro e wn ⟨rfl,h⟩;have hal:=h.allocRaw #[.int .u8 0] 5;have cb:=zAa hal;have hd:=hal.drop))
        refine hK.out _ _ zq34 (fun hHeld=> ?_);clear hK KK
        try simp only[Act.put,sA,sB,sC]
        refine wpAnyH_ready (rs:=[1]) (by kernel_rfl) (by simp) (AllReadyH.cons (o:=⟨some 5,.convert 57 9 (.tmp 4),9,_,_,none⟩) rfl (fun KK hK=> ?_) AllReadyH.nil);go_simp;refine hK.out _ _ zq34 (fun hHeld=> ?_);clear hK KK
        try simp only[Act.put,sA,sB,sC]
        refine tQ 5 ⟨some 9,.binOp .add 9 (.tmp 5) (.tmp 8) 9,9,_,_,none⟩ ?_;simp only[Act.put,sA,sB,sC];refine tQ 9 ⟨some 13,.binOp .add 9 (.tmp 9) (.tmp 12) 9,9,_,_,none⟩ ?_;simp only[Act.put,sA,sB,sC];refine tQ 13 ⟨some 17,.binOp .add 9 (.tmp 13) (.tmp 16) 9,9,_,_,none⟩ ?_;simp only[Act.put,sA,sB,sC];refine tQ 17 ⟨some 21,.binOp .add 9 (.tmp 17) (.tmp 20) 9,9,_,_,none⟩ ?_;simp only[Act.put,sA,sB,sC]
      rotate_left 2
      focus
       go_simp
       (go_at_call 61;first|(with_reducible refine(zAg v x.hdrs a5 E5.out B5.out HK.out (show St W0 _ K (.raw _ #[.int .u8 0] _::.raw wA _ _::L) by assumption)).mono ?_;rintro e wn ⟨rfl,h⟩;have cb:=zAa h;have hd:=h.drop)|(with_reducible refine(zAg v x.hdrs a5 E5.out B5.out HK.out (show St W0 _ K (.raw wA _ _::L) by assumption)).mono ?_;rintro e wn ⟨rfl,h⟩;have hal:=h.allocRaw #[.int .u8 0] 5;have cb:=zAa hal;have hd:=hal.drop))
       refine hK.out _ _ zq34 (fun hHeld=> ?_);clear hK KK
       try simp only[Act.put,sA,sB,sC]
       refine wpAnyH_ready (rs:=[0]) (by kernel_rfl) (by simp) (AllReadyH.cons (o:=⟨some 4,.buildSlice 57 1 #[(0,.const (Value.int IntKind.u8 0))],57,_,_,none⟩) rfl (fun KK hK=> ?_) AllReadyH.nil);go_simp;refine hK.out _ _ zq34 (fun hHeld=> ?_);clear hK KK
       try simp only[Act.put,sA,sB,sC]
       refine wpAnyH_ready (rs:=[1]) (by kernel_rfl) (by simp) (AllReadyH.cons (o:=⟨some 5,.convert 57 9 (.tmp 4),9,_,_,none⟩) rfl (fun KK hK=> ?_) AllReadyH.nil);go_simp;refine hK.out _ _ zq34 (fun hHeld=> ?_);clear hK KK
       try simp only[Act.put,sA,sB,sC]
       refine tQ 5 ⟨some 9,.binOp .add 9 (.tmp 5) (.tmp 8) 9,9,_,_,none⟩ ?_;simp only[Act.put,sA,sB,sC];refine tQ 9 ⟨some 13,.binOp .add 9 (.tmp 9) (.tmp 12) 9,9,_,_,none⟩ ?_;simp only[Act.put,sA,sB,sC];refine tQ 13 ⟨some 17,.binOp .add 9 (.tmp 13) (.tmp 16) 9,9,_,_,none⟩ ?_;simp only[Act.put,sA,sB,sC];refine tQ 17 ⟨some 21,.binOp .add 9 (.tmp 17) (.tmp 20) 9,9,_,_,none⟩ ?_;simp only[Act.put,sA,sB,sC]
  all_goals
   refine tQ 21 ⟨some 25,.binOp .add 9 (.tmp 21) (.tmp 24) 9,9,_,_,none⟩ ?_;simp only[Act.put,sA,sB,sC];refine tQ 22 ⟨some 3,.assign (.tmp 25),9,_,_,none⟩ ?_;simp only[Act.put,sA,sB,sC];refine wpAnyH_done (by kernel_rfl) ?_ _;have h2:=(show St W0 _ K (.raw wA _ _::L) by assumption);go_wp2_with fail;go_meet;exact⟨by rw[HF.out];rfl,h2⟩
 case rest=>
  obtain⟨hu,h⟩:=hcut;subst hu;have H:=hQd h;clear h hst hst2 hst3 cb c0 c1 c2 c3 c4 c5 c6;go_wp2_with (go_at_call 59;refine(zAz _ a6 E6.out R6.out H.out).mono ?_;rintro e wn ⟨rfl,h⟩;replace H:=hQd h;clear h);go_ret;exact⟨by rw[HSE.out];first|rfl|simp,H.out.drop⟩
variable {W0 w:World}{K:Know}{L:List Res}
theorem zFi{P:Program}{o:Oper}{a:Act}{w w':World}{v:Value}{KK:Act→World→Prop}{Q:Exit→Act→World→Prop}(hr:(execOp a.eval o).run P w=.ok (.value v) w')(h:KK (a.put o.dst v) w'):o.wp P a w KK Q:=by
 unfold Oper.wp;rw[hr];exact h
theorem zNI(n0 n1 n2 n3 n4 n5 n6 n7 n8 n9 n10 n11:Int)(w:World):(Instr.buildSlice 23 12 #[(0,.int .i64 n0),(1,.int .i64 n1),(2,.int .i64 n2),(3,.int .i64 n3),(4,.int .i64 n4),(5,.int .i64 n5),(6,.int .i64 n6),(7,.int .i64 n7),(8,.int .i64 n8),(9,.int .i64 n9),(10,.int .i64 n10),(11,.int .i64 n11)]).run Tryz.prog w=.ok (.slice (some ⟨w.heap.size,0,none⟩) 12 12) (w.alloc (.cells #[.int .i64 n0,.int .i64 n1,.int .i64 n2,.int .i64 n3,.int .i64 n4,.int .i64 n5,.int .i64 n6,.int .i64 n7,.int .i64 n8,.int .i64 n9,.int .i64 n10,.int .i64 n11] 3 (0,0))):=by go_simp
theorem zOM{v:Value}{w w':World}(s:Sem Value)(hb:s.run Tryz.prog w=.ok v w'):(do pure (Next.value (←s)):Sem Next).run Tryz.prog w=.ok (.value v) w':=by go_simp
theorem zHe{o:Oper}{ρ:Operand→Value}(ps:Array (Nat×Value))(v:Value)(w w':World)(ho:execOp ρ o=(do pure (Next.value (←Instr.buildSlice 23 12 ps))))(hb:(Instr.buildSlice 23 12 ps).run Tryz.prog w=.ok v w'):(execOp ρ o).run Tryz.prog w=.ok (.value v) w':=by
 rw[ho];exact zOM _ hb
theorem zIz(bl:Nat)(b:BatS)(sm:Int)(rows:Bs)(hrw:b.rowsB=rows)(at_:Int)(hat:zAU b.app b.txn b.ctl 3=at_)(n:Nat)(hn:b.recs.length=n)(said:Bs)(hsaid:zAk (b.pre sm).items=said)(hfit:FitsAll (b.pre sm).items)(hR:(b.pre sm).R)(h:St W0 w K (.raw bl #[.int .i64 b.base,.int .i64 (49+rows.length),.int .i64 b.leader,.int .i64 sm,.int .i64 at_,.int .i64 b.last,.int .i64 b.first,.int .i64 b.maxt,.int .i64 b.prod,.int .i64 b.epoch,.int .i64 b.seq,.int .i64 n] 3::L)):
  Calls Tryz.prog 29 #[.slice (some ⟨bl,0,none⟩) 12 12] w fun en w'=>en=.returned (.tuple #[.string (bb said),.bool true])∧St W0 w' K (.raw bl #[.int .i64 b.base,.int .i64 (49+rows.length),.int .i64 b.leader,.int .i64 sm,.int .i64 at_,.int .i64 b.last,.int .i64 b.first,.int .i64 b.maxt,.int .i64 b.prod,.int .i64 b.epoch,.int .i64 b.seq,.int .i64 n] 3::L):=by
 subst hrw hat hn hsaid;have e:zBW (b.pre sm)=(zAk (b.pre sm).items,true):=if_pos hfit;have c:=zJN bl (b.pre sm) hR h;rw[e]at c;exact c
theorem zGT(base leader:Int)(app txn ctl:Bool)(last first maxt prod epoch sq:Int)(rv:Value)(r:Int)(hr:zAU app txn ctl 3=r)(h:St W0 w K L):
  Calls Tryz.prog 30 #[.agg #[.int .i64 base,.int .i64 leader,.bool app,.bool txn,.bool ctl,.int .i64 last,.int .i64 first,.int .i64 maxt,.int .i64 prod,.int .i64 epoch,.int .i64 sq,rv]] w fun en w'=>en=.returned (.int .i64 r)∧St W0 w' K L:=by
 obtain⟨hb,hhb⟩:∃b,w.heap.size=b:=⟨_,rfl⟩;have h1:=h.allocRaw #[.int .i64 base,.int .i64 leader,.bool app,.bool txn,.bool ctl,.int .i64 last,.int .i64 first,.int .i64 maxt,.int .i64 prod,.int .i64 epoch,.int .i64 sq,rv] 30;rw[hhb]at h1;obtain⟨x0,x1,x2,x3,x4,x5,x6,x7,x8,x9,x10,x11,y0,y1,y2,y3,y4,y5,y6,y7,y8,y9,y10,y11⟩:=zAd (b:=hb) (h1);have H:=hQd h1;subst hr;clear h h1
 cases app<;>cases txn<;>cases ctl
 all_goals
  go_enter Tryz.func30,Tryz.ntmps30;go_wp2;go_ret;exact⟨by kernel_rfl,H.out.drop⟩
theorem zEk(s:Bs)(hs:s.length≤1000000)(x:Nat)(hx:(zAj 0#32 s).toNat=x)(h:St W0 w K L):
  Calls Tryz.prog 31 #[.string (bb s)] w fun en w'=>en=.returned (.int .u32 x)∧St W0 w' K L:=by
 subst hx;exact zLv s hs h
def zAq (R:Bs):Except Int (Option (BatS×Nat)):=
  if R.length<61 then .ok none else match zAH R with
  | .error e=> .error e
  | .ok x=>if R.length<61+(x.len - 49).toNat then .ok none else match asmB x (R.take 61) ((R.drop 61).take (x.len - 49).toNat)with
    | .error e=> .error e
    | .ok b=> .ok (some (b,61+(x.len - 49).toNat))
theorem zFT(R M:Bs)(h:61≤R.length):zAH (R++M)=zAH R:=by
 rw[←zBr (R++M) (by rw[List.length_append];omega),←zBr R h,List.take_append_of_le_length h]
theorem zNk{R:Bs}(M:Bs)(h:zAq R≠.ok none):zAq (R++M)=zAq R:=by
 unfold zAq at h ⊢
 by_cases c1:R.length<61
 · rw[if_pos c1]at h;exact absurd rfl h
 rw[if_neg c1]at h ⊢;rw[if_neg (by rw[List.length_append];omega),zFT R M (by omega)]
 cases hp:zAH R with
 |error e2=>rfl
 |ok x=>
  rw[hp]at h;simp only at h ⊢
  by_cases c2:R.length<61+(x.len - 49).toNat
  · rw[if_pos c2]at h;exact absurd rfl h
  rw[if_neg c2];rw[if_neg (by rw[List.length_append];omega),List.take_append_of_le_length (by omega),List.drop_append_of_le_length (by omega),List.take_append_of_le_length (by rw[List.length_drop];omega)]
theorem zHc{R:Bs}{e:Int}(h:zAq R=.error e):e≠0:=by
 unfold zAq at h
 by_cases c1:R.length<61
 · rw[if_pos c1]at h;cases h
 rw[if_neg c1]at h
 cases hp:zAH R with
 |error e2=>rw[hp]at h;cases h;exact zCM hp
 |ok x=>
  rw[hp]at h;simp only at h
  by_cases c2:R.length<61+(x.len - 49).toNat
  · rw[if_pos c2]at h;cases h
  rw[if_neg c2]at h
  cases ha:asmB x (R.take 61) ((R.drop 61).take (x.len - 49).toNat)with
  |error e2=>rw[ha]at h;cases h;exact zIe ha
  |ok b=>rw[ha]at h;cases h
def zNY (N:Nat) (b:BatS):Prop:=b.recs.length≤N∧∀x∈b.recs,x.sum≤N
theorem zCw{R:Bs}{b:BatS}{n:Nat}(h:zAq R=.ok (some (b,n))):(61≤n∧n≤R.length)∧zNY R.length b:=by
 unfold zAq at h
 by_cases c1:R.length<61
 · rw[if_pos c1]at h;cases h
 rw[if_neg c1]at h
 cases hp:zAH R with
 |error e2=>rw[hp]at h;cases h
 |ok x=>
  rw[hp]at h;simp only at h
  by_cases c2:R.length<61+(x.len - 49).toNat
  · rw[if_pos c2]at h;cases h
  rw[if_neg c2]at h
  cases ha:asmB x (R.take 61) ((R.drop 61).take (x.len - 49).toNat)with
  |error e2=>rw[ha]at h;cases h
  |ok b2=>
   rw[ha]at h
   cases h
   refine⟨⟨by omega,by omega⟩,?_⟩;obtain⟨_,_,rs,hu,_,hb⟩:=zId ha;obtain⟨_,h2,h3⟩:=zD8 _ _ 0 rs (Nat.zero_le _) hu;rw[List.length_take,List.length_drop]at h2;have hr:b.recs=rs:=by rw[hb]
   refine⟨by rw[hr];omega,fun y hy=> ?_⟩;have:=(h3 y (by rw[←hr];exact hy)).2.2;rw[List.length_take,List.length_drop]at this
   omega
theorem zP4{R:Bs}{b:BatS}{n k:Nat}(h:zAq R=.ok (some (b,n)))(hk:n≤k):zAq (R.take k)=.ok (some (b,n)):=by
 by_cases hkl:R.length≤k
 · rw[List.take_of_length_le hkl];exact h
 by_cases hn:zAq (R.take k)=.ok none
 · exfalso
   have hs:=h;unfold zAq at hs hn
   by_cases c1:R.length<61
   · rw[if_pos c1]at hs;cases hs
   have h61:=(zCw h).1;have hl:(R.take k).length=k:=by rw[List.length_take];omega
   rw[if_neg c1]at hs;rw[if_neg (by rw[hl];omega)]at hn;have hpp:=zFT (R.take k) (R.drop k) (by rw[hl];omega);rw[List.take_append_drop]at hpp;rw[←hpp]at hn
   cases hp:zAH R with
   |error e2=>rw[hp]at hs;cases hs
   |ok x=>
    rw[hp]at hs hn;simp only at hs hn
    by_cases c2:R.length<61+(x.len - 49).toNat
    · rw[if_pos c2]at hs;cases hs
    rw[if_neg c2]at hs
    have hm:61+(x.len - 49).toNat=n:=by
     cases ha:asmB x (R.take 61) ((R.drop 61).take (x.len - 49).toNat)with
     |error e2=>rw[ha]at hs;cases hs
     |ok b2=>rw[ha]at hs;cases hs;rfl
    rw[if_neg (by rw[hl];omega)]at hn
    cases ha:asmB x ((R.take k).take 61) (((R.take k).drop 61).take (x.len - 49).toNat)with
    |error e2=>rw[ha]at hn;cases hn
    |ok b2=>rw[ha]at hn;cases hn
 · have:=zNk (R.drop k) hn;rw[List.take_append_drop]at this;rw[←this];exact h
def zEP:Nat→Bs→List BatS×Bs×Int
  |0,R=>([],R,0)
  |f+1,R=>match zAq R with
    | .error e=>([],R,e)
    | .ok none=>([],R,0)
    | .ok (some y)=>(y.1::(zEP f (R.drop y.2)).1,(zEP f (R.drop y.2)).2)
theorem zGS:∀(f g:Nat) (R:Bs),R.length≤f→R.length≤g→zEP f R=zEP g R:=by
 intro f
 induction f with
 |zero=>
  intro g R h1 _;have h0:zAq R=.ok none:=by unfold zAq;rw[if_pos (by omega)]
  cases g with
  |zero=>rfl
  |succ g=>unfold zEP;rw[h0]
 |succ f ih=>
  intro g R h1 h2
  cases g with
  |zero=>
   have h0:zAq R=.ok none:=by unfold zAq;rw[if_pos (by omega)]
   unfold zEP;rw[h0]
  |succ g=>
   unfold zEP
   cases hf:zAq R with
   |error e=>rfl
   |ok o=>
    cases o with
    |none=>rfl
    |some y=>
     obtain⟨b,n⟩:=y;have h3:=(zCw hf).1;simp only;rw[ih g (R.drop n) (by rw[List.length_drop];omega) (by rw[List.length_drop];omega)]
def zAr (R:Bs):List BatS×Bs×Int:=zEP R.length R
theorem zEc(R:Bs):zAr R=match zAq R with
    | .error e=>([],R,e)
    | .ok none=>([],R,0)
    | .ok (some y)=>(y.1::(zAr (R.drop y.2)).1,(zAr (R.drop y.2)).2):=by
  have h1:zAr R=zEP (R.length+1) R:=zGS _ _ R (Nat.le_refl _) (by omega);rw[h1]
  show(match zAq R with
    | .error e=>([],R,e)
    | .ok none=>([],R,0)
    | .ok (some y)=>(y.1::(zEP R.length (R.drop y.2)).1,(zEP R.length (R.drop y.2)).2))=_
  cases hf:zAq R with
  |error e=>rfl
  |ok o=>
    cases o with
    |none=>rfl
    |some y=>
      have:zEP R.length (R.drop y.2)=zAr (R.drop y.2):=zGS _ _ _ (by rw[List.length_drop];omega) (Nat.le_refl _);simp only;rw[this]
theorem zBh{R:Bs}{b:BatS}{n:Nat}(h:zAq R=.ok (some (b,n))):zAr R=(b::(zAr (R.drop n)).1,(zAr (R.drop n)).2):=by
 rw[zEc,h]
theorem zAB{R:Bs}(h:zAq R=.ok none):zAr R=([],R,0):=by rw[zEc,h]
theorem zBI{R:Bs}{e:Int}(h:zAq R=.error e):zAr R=([],R,e):=by rw[zEc,h]
theorem zKN(M:Bs):∀(f:Nat) (R:Bs),R.length≤f→zAr (R++M)=if (zAr R).2.2≠0 then((zAr R).1,(zAr R).2.1++M,(zAr R).2.2)else((zAr R).1++(zAr ((zAr R).2.1++M)).1,(zAr ((zAr R).2.1++M)).2):=by
 intro f
 induction f with
 |zero=>
  intro R h;have h0:zAq R=.ok none:=by unfold zAq;rw[if_pos (by omega)]
  rw[zAB h0]
  simp
 |succ f ih=>
  intro R h
  cases hf:zAq R with
  |error e=>
   have h1:=zNk M (by rw[hf];simp:zAq R≠.ok none);rw[hf]at h1;rw[zBI h1,zBI hf];simp only;rw[if_pos (zHc hf)]
  |ok o=>
   cases o with
   |none=>
    rw[zAB hf]
    simp
   |some y=>
    obtain⟨b,n⟩:=y;have h1:=zNk M (by rw[hf];simp:zAq R≠.ok none);rw[hf]at h1;have h3:=(zCw hf).1;rw[zBh h1,zBh hf,List.drop_append_of_le_length h3.2,ih (R.drop n) (by rw[List.length_drop];omega)];simp only
    by_cases c:(zAr (R.drop n)).2.2≠0
    · rw[if_pos c,if_pos c]
    · rw[if_neg c,if_neg c,List.cons_append]
theorem zB4:∀(f:Nat) (R:Bs),R.length≤f→∃k,k≤R.length∧(zAr R).2.1=R.drop k∧((zAr R).2.2=0→zAq (R.drop k)=.ok none)∧((zAr R).2.2≠0→zAq (R.drop k)=.error (zAr R).2.2)∧zAr (R.take k)=((zAr R).1,[],0)∧(∀b∈(zAr R).1,zNY R.length b)∧61*(zAr R).1.length≤k:=by
 intro f
 induction f with
 |zero=>
  intro R h;have h0:zAq R=.ok none:=by unfold zAq;rw[if_pos (by omega)]
  refine⟨0,Nat.zero_le _,?_⟩;rw[zAB h0,List.drop_zero,List.take_zero];exact⟨rfl,fun _=>h0,fun hh=>absurd rfl hh,zAB (by unfold zAq;rw[if_pos (by decide)]),(fun b hb=>by cases hb),by simp⟩
 |succ f ih=>
  intro R h
  cases hf:zAq R with
  |error e=>
   refine⟨0,Nat.zero_le _,?_⟩;rw[zBI hf,List.drop_zero,List.take_zero];exact⟨rfl,fun hh=>absurd hh (zHc hf),fun _=>hf,zAB (by unfold zAq;rw[if_pos (by decide)]),(fun b hb=>by cases hb),by simp⟩
  |ok o=>
   cases o with
   |none=>
    refine⟨0,Nat.zero_le _,?_⟩;rw[zAB hf,List.drop_zero,List.take_zero];exact⟨rfl,fun _=>hf,fun hh=>absurd rfl hh,zAB (by unfold zAq;rw[if_pos (by decide)]),(fun b hb=>by cases hb),by simp⟩
   |some y=>
    obtain⟨b,n⟩:=y;obtain⟨h3,hlb⟩:=zCw hf;obtain⟨k,a1,a2,a3,a4,a5,a6,a7⟩:=ih (R.drop n) (by rw[List.length_drop];omega);rw[List.length_drop]at a1;rw[List.drop_drop]at a2 a3 a4;refine⟨n+k,by omega,?_⟩;rw[zBh hf];refine⟨a2,a3,a4,?_,?_,by simp only[List.length_cons];omega⟩
    · have h4:zAq (R.take (n+k))=.ok (some (b,n)):=zP4 hf (by omega);have h5:(R.take (n+k)).drop n=(R.drop n).take k:=by rw[List.drop_take,Nat.add_sub_cancel_left]
      rw[zBh h4,h5,a5]
    · intro x hx
      rcases List.mem_cons.1 hx with rfl|hx
      · exact hlb
      · have:=a6 x hx;rw[List.length_drop]at this;exact⟨by have:=this.1;omega,fun z hz=>by have:=this.2 z hz;omega⟩
def finS (R:Bs):List BatS×Nat×Bs×Int:=((zAr R).1,R.length - (zAr R).2.1.length,(if (zAr R).2.2≠0 then[]else(zAr R).2.1),(zAr R).2.2)
theorem zKb:finS []=([],0,[],0):=by
 have h0:zAq []=.ok none:=by unfold zAq;rw[if_pos (by decide)]
 unfold finS;rw[zAB h0]
 rfl
theorem zP7(R c:Bs)(h:(finS R).2.2.2≠0):finS (R++c)=finS R:=by
 have h0:(zAr R).2.2≠0:=h;obtain⟨k,a1,a2,_⟩:=zB4 _ R (Nat.le_refl _);unfold finS;rw[zKN c _ R (Nat.le_refl _),if_pos h0];simp only;rw[if_pos h0,if_pos h0,List.length_append,List.length_append]
 congr 2
 rw[a2,List.length_drop]
 omega
theorem zOJ(R c:Bs)(h:(finS R).2.2.2=0):finS (R++c)=((finS R).1++(zAr ((finS R).2.2.1++c)).1,(finS R).2.1+(((finS R).2.2.1++c).length - (zAr ((finS R).2.2.1++c)).2.1.length),(if (zAr ((finS R).2.2.1++c)).2.2≠0 then[]else(zAr ((finS R).2.2.1++c)).2.1),(zAr ((finS R).2.2.1++c)).2.2):=by
 have h0:¬(zAr R).2.2≠0:=by
  have:(zAr R).2.2=0:=h;rw[this];simp
 obtain⟨k,a1,a2,_⟩:=zB4 _ R (Nat.le_refl _);have hr:(finS R).2.2.1=(zAr R).2.1:=by unfold finS;simp only;rw[if_neg h0]
 have hv:(finS R).2.1=R.length - (zAr R).2.1.length:=rfl;have hb:(finS R).1=(zAr R).1:=rfl;rw[hr,hv,hb];unfold finS;rw[zKN c _ R (Nat.le_refl _),if_neg h0];simp only
 congr 2
 obtain⟨k2,b1,b2,_⟩:=zB4 _ ((zAr R).2.1++c) (Nat.le_refl _);rw[List.length_append]at b1;have l2:=congrArg List.length b2;rw[List.length_drop,List.length_append]at l2;have l1:=congrArg List.length a2;rw[List.length_drop]at l1;rw[List.length_append,List.length_append]
 omega
def zBy (rest:Bs) (e:Int):Int:=if e≠0 then 2 else if rest≠[]then 1 else 0
theorem zOY(a:Int)(h:chk a=0):zAU (zAf a 3) (zAf a 4) (zAf a 5) 3=a∧(zAf a 5=true→zAf a 4=true):=by
 have hr:0≤a∧a≤63:=by
  unfold chk at h
  split at h
  · cases h
  · split at h
    · cases h
    · rename_i _ h2
      simp only[Bool.or_eq_true,decide_eq_true_eq,not_or]at h2
      omega
 have key:∀k:Fin 64,chk (k.val:Int)=0→zAU (zAf k.val 3) (zAf k.val 4) (zAf k.val 5) 3=k.val∧(zAf k.val 5=true→zAf k.val 4=true):=by decide
 have:=key ⟨a.toNat,by omega⟩;simp only at this;rw[show((a.toNat:Nat):Int)=a by omega]at this;exact this h
theorem zIo(v:Int)(h: -2147483648≤v∧v<2147483648):zAG (v % 4294967296)=v:=by
 unfold zAG;rw[if_neg (by omega)]
 split<;>omega
theorem zLE{s:Bs}(h:61≤s.length)(h2:(preX s).2=2):zAk (preX s).1.items=s.take 61:=by
 have e:=zHf zAV s h;have hs:zAV.sum=61:=rfl;rw[hs]at e;rw[←e];have h4:=zB5 ((s.drop 17).take 4) (by rw[List.length_take];omega);have h5:=zIo _ h4
 have e2:zBx zAV s=[sInt (s.take 8),sInt ((s.drop 8).take 4),sInt ((s.drop 12).take 4),sInt ((s.drop 16).take 1),sInt ((s.drop 17).take 4),sInt ((s.drop 21).take 2),sInt ((s.drop 23).take 4),sInt ((s.drop 27).take 8),sInt ((s.drop 35).take 8),sInt ((s.drop 43).take 8),sInt ((s.drop 51).take 2),sInt ((s.drop 53).take 4),sInt ((s.drop 57).take 4)]:=by
  unfold zAV;simp only[zBx,List.drop_drop,Nat.reduceAdd]
 unfold preX at h2 ⊢;rw[e2]at h2 ⊢;have h3:sInt ((s.drop 16).take 1)=2:=h2;rw[h3]
 show zAk (PreS.items ⟨_,_,_,sInt ((s.drop 17).take 4) % 4294967296,_,_,_,_,_,_,_,_⟩)=_
 unfold PreS.items;simp only[h5]
 rfl
theorem zMe:∀(n:Nat) (rows:Bs) (pos:Nat) (rs:List RecS),pos≤rows.length→unp n ⟨rows,pos,0⟩=.ok rs→rows.drop pos=rs.flatMap encR
  |0,rows,pos,rs,hp,h=>by
    have h:(if (⟨rows,pos,0⟩:InS).left=0 then Except.ok []else Except.error (10:Int))=Except.ok rs:=h
    by_cases c1:(⟨rows,pos,0⟩:InS).left=0
    · rw[if_pos c1]at h
      cases h
      have c2:rows.length - pos=0:=c1;rw[List.drop_of_length_le (by omega)]
      rfl
    · rw[if_neg c1]at h;cases h
  |n+1,rows,pos,rs,hp,h=>by
    have h:(if (⟨rows,pos,0⟩:InS).left=0 then .error 10 else if (⟨rows,pos,0⟩:InS).record.2.err=0 then zDt (⟨rows,pos,0⟩:InS).record.1 (unp n (⟨rows,pos,0⟩:InS).record.2)else .error (⟨rows,pos,0⟩:InS).record.2.err)=.ok rs:=h
    by_cases c1:(⟨rows,pos,0⟩:InS).left=0
    · rw[if_pos c1]at h;cases h
    rw[if_neg c1]at h
    cases hr:zBB (rows.drop pos)with
    |error e=>
      obtain⟨he,q,_,hf⟩:=zCN.err rows pos e hp hr;rw[hf]at h;simp only at h;rw[if_neg he]at h
      cases h
    |ok y=>
      obtain⟨x,m⟩:=y;obtain⟨hpm,hf⟩:=zCN.ok rows pos x m hp hr;rw[hf]at h;simp only[if_true]at h
      cases hu:unp n ⟨rows,pos+m,0⟩with
      |error e=>rw[hu]at h;cases h
      |ok t=>
        rw[hu]at h;have h:Except.ok (x::t)=Except.ok rs:=h;injection h with h;subst h;have i1:=zMe n rows (pos+m) t hpm hu;have j1:=(zCl hr).1;rw[List.flatMap_cons,←i1,j1,←List.drop_drop,List.take_append_drop]
theorem zIL{s:Bs}{b:BatS}{n:Nat}(h:zBv s=.ok (b,n)):b.enc=s.take n∧zAC b=0∧b.rowsB.length≤s.length∧b.recs.length≤s.length∧∀x∈b.recs,x.R∧zA3 x=0∧x.sum≤s.length:=by
 obtain⟨x,hp,hn,hns,ha⟩:=zE5 h;obtain⟨p1,p2,p3,p4,p5⟩:=zBF hp;obtain⟨a1,a2,rs,a3,a4,a5⟩:=zId ha;obtain⟨k,hk⟩:∃k,(x.len - 49).toNat=k:=⟨_,rfl⟩;rw[hk]at hn a1 a3;obtain⟨rows,hrw⟩:∃r,(s.drop 61).take k=r:=⟨_,rfl⟩;rw[hrw]at a1 a3;have hrl:rows.length=k:=by rw[←hrw,List.length_take,List.length_drop];omega
 have u1:=zMe _ _ _ _ (Nat.zero_le _) a3;obtain⟨u2,u3,u4⟩:=zD8 _ _ _ _ (Nat.zero_le _) a3;rw[List.drop_zero]at u1;have hrb:b.rowsB=rows:=by rw[u1,a5];rfl
 have hrc:b.recs=rs:=by rw[a5]
 obtain⟨at1,at2⟩:=zOY x.attr a2
 have hpre:b.pre x.sum=x:=by
   unfold BatS.pre;rw[hrb,hrc,hrl,u2];rw[a5];simp only;rw[at1,show 49+((k:Nat):Int)=x.len by omega,show((x.count.toNat:Nat):Int)=x.count by omega]
 have hby:=zLE p1 p3
 rw[p2]at hby
 have hbk:(s.take 61).drop 21=b.back:=by rw[←hby,←hpre,b.pre_drop]
 have hcr:(b.crc:Int)=x.sum:=by
   unfold BatS.crc;rw[←hbk,hrb];exact a1
 refine⟨?_,by rw[a5];exact a4,by rw[hrb,hrl];omega,by rw[hrc];omega,fun y hy=> ?_⟩
 · unfold BatS.enc;rw[hcr,hpre,hby,hrb,←hrw,hn,List.take_add]
 · rw[hrc]at hy;obtain⟨v1,v2,v3⟩:=u4 y hy;exact⟨v1,v2,by omega⟩
theorem zKW{R:Bs}{b:BatS}{n:Nat}(h:zAq R=.ok (some (b,n))):zBv R=.ok (b,n):=by
 unfold zAq at h
 by_cases c1:R.length<61
 · rw[if_pos c1]at h;cases h
 rw[if_neg c1]at h;unfold zBv
 cases hp:zAH R with
 |error e2=>rw[hp]at h;cases h
 |ok x=>
  rw[hp]at h;simp only at h ⊢
  by_cases c2:R.length<61+(x.len - 49).toNat
  · rw[if_pos c2]at h;cases h
  rw[if_neg c2]at h;rw[if_neg c2]
  cases ha:asmB x (R.take 61) ((R.drop 61).take (x.len - 49).toNat)with
  |error e2=>rw[ha]at h;cases h
  |ok b2=>rw[ha]at h;cases h;rfl
theorem zJ2{s:Bs}{x:PreS}(h:zAH s=.ok x):Rn x.base∧Rn x.leader∧Rn x.last∧Rn x.first∧Rn x.maxt∧Rn x.prod∧Rn x.epoch∧Rn x.seq:=by
 obtain⟨h1,h2,_,h3,h4⟩:=zBF h;rw[zF5]at h2;have h2:=h2.symm;subst h2;have r:∀(k m:Nat),m≤8→Rn (sInt ((s.drop k).take m)):=fun k m hm=>zCj _ (by rw[List.length_take];omega)
 exact⟨r 0 8 (by decide),r 12 4 (by decide),r 23 4 (by decide),r 27 8 (by decide),r 35 8 (by decide),r 43 8 (by decide),r 51 2 (by decide),r 53 4 (by decide)⟩
structure MidOk (b:BatS):Prop where
  fit:∀x∈b.recs,x.R∧zA3 x=0∧x.sum≤2000
  len:b.recs.length≤1000
  err:zAC b=0
  rng:b.R
  rows:b.rowsB.length≤2000
theorem zKR:∀(l:List RecS),2*l.length≤(l.flatMap encR).length
  |[]=>by simp
  |x::t=>by
    have h1:=zKR t
    have h2:2≤(encR x).length:=by
      have h3:=zHV x.key;have h4:2≤(recF x).length:=by unfold recF;simp only[List.length_append,List.length_cons,List.length_nil];omega
      show 2≤(putU _++recF x).length
      rw[List.length_append]
      omega
    rw[List.flatMap_cons,List.length_append,List.length_cons]
    omega
theorem MidOk.of{s:Bs}{b:BatS}{n:Nat}(h:zBv s=.ok (b,n))(hl:s.length≤1500):MidOk b:=by
 obtain⟨h1,h2,h3,h4,h5⟩:=zIL h;obtain⟨x,hp,_,_,ha⟩:=zE5 h;obtain⟨_,_,rs,_,_,hb⟩:=zId ha;have hr:=zJ2 hp;have h6:=zKR b.recs;have h7:(b.recs.flatMap encR).length=b.rowsB.length:=rfl;refine⟨fun y hy=> ?_,by omega,h2,?_,by omega⟩
 · obtain⟨v1,v2,v3⟩:=h5 y hy;exact⟨v1,v2,by omega⟩
 · rw[hb];exact hr
theorem zHb:zAq []=.ok none:=by unfold zAq;rw[if_pos (by decide)]
theorem zMr:∀(f:Nat) (R:Bs),R.length≤f→(zAr R).2.1=[]→(zAr R).1.flatMap BatS.enc=R:=by
 intro f
 induction f with
 |zero=>
  intro R h _;obtain rfl:R=[]:=List.eq_nil_of_length_eq_zero (by omega);rw[zAB zHb]
  rfl
 |succ f ih=>
  intro R h hr
  cases hf:zAq R with
  |error e=>
   rw[zBI hf]at hr;have hr:R=[]:=hr;rw[hr,zHb]at hf
   cases hf
  |ok o=>
   cases o with
   |none=>rw[zAB hf]at hr ⊢;exact(show R=[]from hr).symm
   |some y=>
    obtain⟨b,n⟩:=y;have h3:=(zCw hf).1;rw[zBh hf]at hr ⊢;have h4:=ih (R.drop n) (by rw[List.length_drop];omega) hr
    show(b::(zAr (R.drop n)).1).flatMap BatS.enc=R
    rw[List.flatMap_cons,h4,(zIL (zKW hf)).1,List.take_append_drop]
theorem zN9:∀(f:Nat) (R:Bs),R.length≤f→R.length≤1500→∀b∈(zAr R).1,MidOk b:=by
 intro f
 induction f with
 |zero=>
  intro R h _ b hb;obtain rfl:R=[]:=List.eq_nil_of_length_eq_zero (by omega);rw[zAB zHb]at hb
  cases hb
 |succ f ih=>
  intro R h hl b hb
  cases hf:zAq R with
  |error e=>rw[zBI hf]at hb;cases hb
  |ok o=>
   cases o with
   |none=>rw[zAB hf]at hb;cases hb
   |some y=>
    obtain⟨c,n⟩:=y;have h3:=(zCw hf).1;rw[zBh hf]at hb
    rcases List.mem_cons.1 hb with rfl|hb
    · exact MidOk.of (zKW hf) hl
    · exact ih (R.drop n) (by rw[List.length_drop];omega) (by rw[List.length_drop];omega) b hb
theorem zKA(s:Bs)(hl:s.length≤1500):∃(bs:List BatS) (V:Nat) (rest:Bs) (e:Int),finS s=(bs,V,rest,e)∧V≤s.length∧finS (s.take V)=(bs,V,[],0)∧bs.flatMap BatS.enc=s.take V∧(zBy rest e=0↔V=s.length)∧(zBy rest e=2↔e≠0)∧∀b∈bs,MidOk b:=by
 obtain⟨k,hk,h1,h2,h3,h4,_⟩:=zB4 s.length s (Nat.le_refl _);have hm:=zN9 s.length s (Nat.le_refl _) hl;have hkl:(s.take k).length=k:=by rw[List.length_take];omega
 have hb:=zMr k (s.take k) (by omega) (by rw[h4]);rw[h4]at hb;have hV:s.length - (zAr s).2.1.length=k:=by rw[h1,List.length_drop];omega
 have h6:finS (s.take k)=((zAr s).1,k,[],0):=by unfold finS;rw[h4,hkl];simp
 by_cases he:(zAr s).2.2=0
 · refine⟨(zAr s).1,k,s.drop k,0,by unfold finS;rw[hV,he,if_neg (by simp),h1],hk,h6,hb,?_,?_,hm⟩
   · unfold zBy;rw[if_neg (by simp)]
     by_cases c:k=s.length
     · rw[if_neg (by rw[c,List.drop_length];simp)];simp[c]
     · rw[if_pos (by intro hh;have:=congrArg List.length hh;rw[List.length_drop]at this;simp at this;omega)];simp[c]
   · unfold zBy;rw[if_neg (by simp)]
     by_cases c:s.drop k=[]
     · rw[if_neg (by simp[c])];simp
     · rw[if_pos c];simp
 · refine⟨(zAr s).1,k,[],(zAr s).2.2,by unfold finS;rw[hV,if_pos he],hk,h6,hb,?_,?_,hm⟩
   · unfold zBy;rw[if_pos he];have h5:=h3 he
     constructor
     · intro hh;exact absurd hh (by decide)
     · intro hh;rw[hh,List.drop_length,zHb]at h5;cases h5
   · unfold zBy;rw[if_pos he];simp[he]
end Go.Proofs.YtenojajfacacoaaGreatDoor
