/- WholeStrict, walked. -/
import Derived.Test.YteldcbljedeeiaaGreatDoorGWholeStrictCard16
import Derived.Test.YteldcbljedeeiaaGreatDoorGWholeStrictCard10
import Derived.Test.YteldcbljedeeiaaGreatDoorGWholeStrictCard5
import Derived.Deep.RegionHeld3
import Derived.Deep.DeepCutAuto
import Derived.Test.YteldcbljedeeiaaGreatDoorGWholeStrictCard4
import Derived.Test.YteldcbljedeeiaaGreatDoorGWholeStrictCard8
import Derived.Test.YteldcbljedeeiaaGreatDoorGWholeStrictCard3
import Derived.Test.YteldcbljedeeiaaGreatDoorGWholeStrictCard13
import Derived.Test.YteldcbljedeeiaaGreatDoorGWholeStrictCard12
import Derived.Test.YteldcbljedeeiaaGreatDoorGWholeStrictCard6
import Derived.Test.YteldcbljedeeiaaGreatDoorGWholeStrictCard15
import Derived.RegionTactic
import Derived.WalkMore
import Derived.Test.YteldcbljedeeiaaGreatDoorGWholeStrictCard1
import Derived.Test.YteldcbljedeeiaaGreatDoorGWholeStrictCard17
namespace Go.Proofs.YteldcbljedeeiaaGreatDoor
open Go.RowKit
set_option maxRecDepth 100000
set_option maxHeartbeats 8000000
theorem sem_rec0 {W0 w:World}{K:Know}{L:List Res}(h:St W0 w K L):
  Calls Tryz.prog 36 #[.string ⟨#[]⟩] w fun en w'=>∃(t o:Int) (n1:Bool) (d1:Bs) (n2:Bool) (d2:Bs) (q:Option Addr) (n cap:Nat) (K2:Know),en=.returned (.tuple #[.agg #[.int .i64 t,.int .i64 o,.bool n1,.string (bb d1),.bool n2,.string (bb d2),.slice q n cap],.int .i64 1])∧K2.has K∧St W0 w' K2 L:=by
 have e:recE []=1:=by kernel_rfl
 have h2:=sem_rec [] (by decide) h;rw[e]at h2;refine h2.mono ?_;rintro en w' ⟨t,o,n1,d1,n2,d2,q,n,cap,K2,rfl,hk,_,h⟩;exact⟨t,o,n1,d1,n2,d2,q,n,cap,K2,rfl,hk,h⟩
theorem conv_oneF (w:World) (c:UInt8):
  (convert 72 9 (.slice (some ⟨w.heap.size,0,none⟩) 1 1)).run Tryz.prog (w.alloc (.cells #[.int .u8 c.toNat] 5))=.ok (.string (bb [c])) (w.alloc (.cells #[.int .u8 c.toNat] 5)):=by
 have:=run_convert_bytes_back (P:=Tryz.prog) (w.alloc (.cells #[.int .u8 c.toNat] 5)) 72 9 5 ⟨w.heap.size,0,none⟩ 1 [c] Tryz.underlying72 Tryz.underlying5 Tryz.underlying9 (fun j hj=>by
  have:j=0:=by simpa using hj
  subst this
  simp[Addr.add])
 exact this
set_option maxHeartbeats 4000000 in
set_option maxRecDepth 100000 in
theorem ws_long (s:Bs) (c:UInt8) (hl:1500<s.length){W0 w:World}{K:Know}(h:St W0 w K []):
  Calls Tryz.prog 9 #[.string (bb s),.int .u8 c.toNat] w fun en w'=>en=.returned (.bool true)∧Below W0.heap.size W0 w':=by
 have H:=Lib.hid h;have hli:1500<(s.length:Int):=by omega
 clear h;go_enter Tryz.func9,Tryz.ntmps9;go_wp2_with (go_at_call 36;(with_reducible refine(sem_rec0 H.out).mono ?_);rintro e_ wn ⟨t_,o_,n1,d1,n2,d2,q_,n_,cap_,K2,rfl,hkk,h⟩;have h:=h.allocRaw #[.int .i64 t_,.int .i64 o_,.bool n1,.string (bb d1),.bool n2,.string (bb d2),.slice q_ n_ cap_] 95;replace H:=Lib.hid h.drop;clear h hkk);go_ret;exact⟨rfl,H.out.below⟩
set_option maxHeartbeats 4000000 in
set_option maxRecDepth 100000 in
theorem ws_main (s:Bs) (c:UInt8) (hl:s.length≤1500){W0 w:World}{K:Know}(hk:K.has Know.reqs) (h:St W0 w K []):
  Calls Tryz.prog 9 #[.string (bb s),.int .u8 c.toNat] w fun en w'=>en=.returned (.bool true)∧Below W0.heap.size W0 w':=by
 have H:=Lib.hid h;have HK:=Lib.hid hk;have HSL:=Lib.hid (show s.length≤1501 by omega);have HSM:=Lib.hid (show(s++[c]).length≤1501 by rw[List.length_append,List.length_singleton];omega);have hli:¬1500<(s.length:Int):=by omega
 clear h hk;go_enter Tryz.func9,Tryz.ntmps9
 go_upto_region 7 with (first
  |(go_at_call 36;(with_reducible refine(sem_rec0 H.out).mono ?_);rintro e_ wn ⟨t_,o_,n1,d1,n2,d2,q_,n_,cap_,K2,rfl,hkk,h⟩;have HK:=Lib.hid (Know.has_trans hkk HK.out);have h:=h.allocRaw #[.int .i64 t_,.int .i64 o_,.bool n1,.string (bb d1),.bool n2,.string (bb d2),.slice q_ n_ cap_] 95;have hcv:=conv_oneF (wn.alloc (.cells #[.int .i64 t_,.int .i64 o_,.bool n1,.string (bb d1),.bool n2,.string (bb d2),.slice q_ n_ cap_] 95)) c;simp only[World.size_alloc]at hcv;have h:=(h.allocRaw #[.int .u8 c.toNat] 5);replace H:=Lib.hid h.drop.drop;clear h hkk))
 -- stages
 obtain⟨e_rec,he_rec⟩:∃e,recE s=e:=⟨_,rfl⟩
 go_upto_if 58 with (go_at_call 36;(with_reducible refine(sem_rec s HSL.out H.out).mono ?_);rintro e_ wn ⟨t_,o_,n1,d1,n2,d2,q_,n_,cap_,K2,rfl,hkk,hp,h⟩;have HK:=Lib.hid (Know.has_trans hkk HK.out);have HP:=Lib.hid hp;obtain⟨xb,hxb⟩:∃b,wn.heap.size=b:=⟨_,rfl⟩;have h:=h.allocRaw #[.int .i64 t_,.int .i64 o_,.bool n1,.string (bb d1),.bool n2,.string (bb d2),.slice q_ n_ cap_] 95;rw[hxb]at h;have z0:=h.rawCell 0;have z1:=h.rawCell 1;have z2:=h.rawCell 2;have z3:=h.rawCell 3;have z4:=h.rawCell 4;have z5:=h.rawCell 5;have z6:=h.rawCell 6;simp at z0 z1 z2 z3 z4 z5 z6;replace H:=Lib.hid h;clear h hkk hp)
 (try rw[he_rec])
 rw[he_rec]at HP;go_cut [4] (fun v4 wx=>v4=.bool false∧∃K3:Know,Hid (K3.has Know.reqs)∧St W0 wx K3 [])
 case first=>
  as_aux_lemma=>
  by_cases h0:e_rec=0
  · subst h0;have HL:=Lib.hid (recE_longer HSL.out c he_rec)
    go_wp2_with (first
     |(go_at_call 37;clear z0 z1 z2 z3 z4 z5 z6;(with_reducible refine(HP.out rfl _ _ _ _ (Know.has_refl _) H.out).mono ?_);rintro e_ wn ⟨rfl,h⟩;replace H:=Lib.hid h;clear h)
     |(go_at_call 36;(with_reducible refine(sem_rec (s++[c]) HSM.out H.out).mono ?_);rw[HL.out];rintro e_ wn ⟨yt_,yo_,yn1,yd1,yn2,yd2,yq_,yn_,ycap_,K4,rfl,hkk,_,h⟩;have HK:=Lib.hid (Know.has_trans hkk HK.out);have h:=h.allocRaw #[.int .i64 yt_,.int .i64 yo_,.bool yn1,.string (bb yd1),.bool yn2,.string (bb yd2),.slice yq_ yn_ ycap_] 95;replace H:=Lib.hid h;clear h hkk))
    go_meet;exact⟨rfl,_,HK,H.out.drop.drop⟩
  · have gz:(e_rec==0)=false:=by rw[beq_eq_false_iff_ne];exact h0
    go_wp2;go_meet;exact⟨rfl,_,HK,H.out.drop⟩
 obtain⟨rfl,K3,HK,h⟩:=hcut;clear H HP he_rec;have H:=Lib.hid h;clear h;obtain⟨e_bat,he_bat⟩:∃e,batE s=e:=⟨_,rfl⟩
 go_upto_if 86 with (go_at_call 38;(with_reducible refine(sem_bat s HSL.out H.out).mono ?_);rintro e_ wn ⟨x0,x1,x2,x3,x4,x5,x6,x7,x8,x9,x10,q_,n_,cap_,K2,rfl,hkk,hp,h⟩;have HK:=Lib.hid (Know.has_trans hkk HK.out);have HP:=Lib.hid hp;obtain⟨xb,hxb⟩:∃b,wn.heap.size=b:=⟨_,rfl⟩;have h:=h.allocRaw #[.int .i64 x0,.int .i64 x1,.bool x2,.bool x3,.bool x4,.int .i64 x5,.int .i64 x6,.int .i64 x7,.int .i64 x8,.int .i64 x9,.int .i64 x10,.slice q_ n_ cap_] 101;rw[hxb]at h;have z0:=h.rawCell 0;have z1:=h.rawCell 1;have z2:=h.rawCell 2;have z3:=h.rawCell 3;have z4:=h.rawCell 4;have z5:=h.rawCell 5;have z6:=h.rawCell 6;have z7:=h.rawCell 7;have z8:=h.rawCell 8;have z9:=h.rawCell 9;have z10:=h.rawCell 10;have z11:=h.rawCell 11;simp at z0 z1 z2 z3 z4 z5 z6 z7 z8 z9 z10 z11;replace H:=Lib.hid h;clear h hkk hp)
 (try rw[he_bat])
 rw[he_bat]at HP;go_cut [4] (fun v4 wx=>v4=.bool false∧∃K3:Know,Hid (K3.has Know.reqs)∧St W0 wx K3 [])
 case first=>
  as_aux_lemma=>
  by_cases h0:e_bat=0
  · subst h0;have HL:=Lib.hid (batE_longer HSL.out c he_bat)
    go_wp2_with (first
     |(go_at_call 39;clear z0 z1 z2 z3 z4 z5 z6 z7 z8 z9 z10 z11;(with_reducible refine(HP.out rfl _ _ _ _ (Know.has_refl _) H.out).mono ?_);rintro e_ wn ⟨rfl,h⟩;replace H:=Lib.hid h;clear h)
     |(go_at_call 38;(with_reducible refine(sem_bat (s++[c]) HSM.out H.out).mono ?_);rw[HL.out];rintro e_ wn ⟨yx0,yx1,yx2,yx3,yx4,yx5,yx6,yx7,yx8,yx9,yx10,yq_,yn_,ycap_,K4,rfl,hkk,_,h⟩;have HK:=Lib.hid (Know.has_trans hkk HK.out);have h:=h.allocRaw #[.int .i64 yx0,.int .i64 yx1,.bool yx2,.bool yx3,.bool yx4,.int .i64 yx5,.int .i64 yx6,.int .i64 yx7,.int .i64 yx8,.int .i64 yx9,.int .i64 yx10,.slice yq_ yn_ ycap_] 101;replace H:=Lib.hid h;clear h hkk))
    go_meet;exact⟨rfl,_,HK,H.out.drop.drop⟩
  · have gz:(e_bat==0)=false:=by rw[beq_eq_false_iff_ne];exact h0
    go_wp2;go_meet;exact⟨rfl,_,HK,H.out.drop⟩
 obtain⟨rfl,K3,HK,h⟩:=hcut;clear H HP he_bat;have H:=Lib.hid h;clear h;obtain⟨e_key,he_key⟩:∃e,(keyRd s).2=e:=⟨_,rfl⟩
 go_upto_if 114 with (go_at_call 40;(with_reducible refine(sem_key s HSL.out H.out).mono ?_);rintro e_ wn ⟨x_,rfl,hp,h⟩;have HP:=Lib.hid hp;replace H:=Lib.hid h;clear h hp)
 (try rw[he_key])
 rw[he_key]at HP;go_cut [4] (fun v4 wx=>v4=.bool false∧∃K3:Know,Hid (K3.has Know.reqs)∧St W0 wx K3 [])
 case first=>
  as_aux_lemma=>
  by_cases h0:e_key=0
  · subst h0;have HL:=Lib.hid (keyE_longer c he_key)
    go_wp2_with (first
     |(go_at_call 41;(with_reducible refine(HP.out rfl _ _ _ _ H.out).mono ?_);rintro e_ wn ⟨rfl,h⟩;replace H:=Lib.hid h;clear h)
     |(go_at_call 40;(with_reducible refine(sem_key (s++[c]) HSM.out H.out).mono ?_);rw[HL.out];rintro e_ wn ⟨y_,rfl,_,h⟩;replace H:=Lib.hid h;clear h))
    go_meet;exact⟨rfl,_,HK,H.out⟩
  · have gz:(e_key==0)=false:=by rw[beq_eq_false_iff_ne];exact h0
    go_wp2;go_meet;exact⟨rfl,_,HK,H.out⟩
 obtain⟨rfl,K3,HK,h⟩:=hcut;clear H HP he_key;have H:=Lib.hid h;clear h;obtain⟨e_val,he_val⟩:∃e,valE s=e:=⟨_,rfl⟩
 go_upto_if 142 with (go_at_call 42;(with_reducible refine(sem_val s HSL.out H.out).mono ?_);rintro e_ wn ⟨x0,x1,x2,x3,q_,n_,cap_,x5,x6,K2,rfl,hkk,hp,h⟩;have HK:=Lib.hid (Know.has_trans hkk HK.out);have HP:=Lib.hid hp;obtain⟨xb,hxb⟩:∃b,wn.heap.size=b:=⟨_,rfl⟩;have h:=h.allocRaw #[.int .i64 x0,.int .i64 x1,.int .i64 x2,.int .i64 x3,.slice q_ n_ cap_,.int .i64 x5,.int .i64 x6] 107;rw[hxb]at h;have z0:=h.rawCell 0;have z1:=h.rawCell 1;have z2:=h.rawCell 2;have z3:=h.rawCell 3;have z4:=h.rawCell 4;have z5:=h.rawCell 5;have z6:=h.rawCell 6;simp at z0 z1 z2 z3 z4 z5 z6;replace H:=Lib.hid h;clear h hkk hp)
 (try rw[he_val])
 rw[he_val]at HP;go_cut [4] (fun v4 wx=>v4=.bool false∧∃K3:Know,Hid (K3.has Know.reqs)∧St W0 wx K3 [])
 case first=>
  as_aux_lemma=>
  by_cases h0:e_val=0
  · subst h0;have HL:=Lib.hid (valE_longer HSL.out c he_val)
    go_wp2_with (first
     |(go_at_call 43;clear z0 z1 z2 z3 z4 z5 z6;(with_reducible refine(HP.out rfl _ _ _ _ (Know.has_refl _) H.out).mono ?_);rintro e_ wn ⟨rfl,h⟩;replace H:=Lib.hid h;clear h)
     |(go_at_call 42;(with_reducible refine(sem_val (s++[c]) HSM.out H.out).mono ?_);rw[HL.out];rintro e_ wn ⟨yx0,yx1,yx2,yx3,yq_,yn_,ycap_,yx5,yx6,K4,rfl,hkk,_,h⟩;have HK:=Lib.hid (Know.has_trans hkk HK.out);have h:=h.allocRaw #[.int .i64 yx0,.int .i64 yx1,.int .i64 yx2,.int .i64 yx3,.slice yq_ yn_ ycap_,.int .i64 yx5,.int .i64 yx6] 107;replace H:=Lib.hid h;clear h hkk))
    go_meet;exact⟨rfl,_,HK,H.out.drop.drop⟩
  · have gz:(e_val==0)=false:=by rw[beq_eq_false_iff_ne];exact h0
    go_wp2;go_meet;exact⟨rfl,_,HK,H.out.drop⟩
 obtain⟨rfl,K3,HK,h⟩:=hcut;clear H HP he_val;have H:=Lib.hid h;clear h;obtain⟨e_frm,he_frm⟩:∃e,frE s=e:=⟨_,rfl⟩
 go_upto_if 170 with (first
  |(refine wpList_storeSt rfl 38 (Operand.tmp 32) (Operand.tmp 167) rfl xb #[x0,x1,x2,x3,x4,x5,x6,x7,x8,x9,x10,x11,x12,x13,x14,x15,x16,x17,x18,x19,x20,x21,x22,x23] rfl rfl H.out rfl (by kernel_rfl) HOO.out ?_;intro wz h;replace H:=Lib.hid h;clear h)
  |(go_at_call 15;(with_reducible refine(frame_decode s HSL.out HK.out H.out).mono ?_);rintro e_ wn ⟨x0,x1,x2,x3,x4,x5,x6,x7,x8,x9,x10,x11,x12,x13,x14,x15,x16,x17,x18,x19,x20,x21,x22,x23,K2,rfl,hkk,ho,hp,h⟩;have HK:=Lib.hid (Know.has_trans hkk HK.out);have HP:=Lib.hid hp;have HOO:=Lib.hid ho;obtain⟨xb,hxb⟩:∃b,wn.heap.size=b:=⟨_,rfl⟩;have h:=h.allocRaw #[.int .i64 0,.int .i64 0,.int .i64 0,.bool false,.string ⟨#[]⟩,.bool false,.string ⟨#[]⟩,.int .i64 0,.int .i64 0,.int .i64 0,.string ⟨#[]⟩,.int .i64 0,.int .i64 0,.slice none 0 0,.string ⟨#[]⟩,.int .i64 0,.int .i64 0,.bool false,.slice none 0 0,.bool false,.string ⟨#[]⟩,.int .i64 0,.int .i64 0,.slice none 0 0] 38;rw[hxb]at h;replace H:=Lib.hid h;clear h hkk hp ho))
 (try rw[he_frm])
 rw[he_frm]at HP;go_cut [4] (fun v4 wx=>v4=.bool false∧∃K3:Know,Hid (K3.has Know.reqs)∧St W0 wx K3 [])
 case first=>
  as_aux_lemma=>
  by_cases h0:e_frm=0
  · subst h0;have HL:=Lib.hid (frE_longer c he_frm)
    go_wp2_with (first
     |(refine wpList_load_mid rfl 38 (Operand.tmp 32) rfl xb 0 rfl [x0,x1,x2,x3,x4,x5,x6,x7,x8,x9,x10,x11,x12,x13,x14,x15,x16,x17,x18,x19,x20,x21,x22,x23] _ (St.range H.out) Tryz.underlying38 rfl (by kernel_rfl) ?_)
     |(go_at_call 12;(with_reducible refine(HP.out rfl _ _ _ _ (Know.has_refl _) H.out).mono ?_);rintro e_ wn ⟨rfl,h⟩;replace H:=Lib.hid h;clear h)
     |(go_at_call 15;(with_reducible refine(frame_decode (s++[c]) HSM.out HK.out H.out).mono ?_);rw[HL.out];rintro e_ wn ⟨y0,y1,y2,y3,y4,y5,y6,y7,y8,y9,y10,y11,y12,y13,y14,y15,y16,y17,y18,y19,y20,y21,y22,y23,K4,rfl,hkk,ho,_,h⟩;have HK:=Lib.hid (Know.has_trans hkk HK.out);have HOY:=Lib.hid ho;obtain⟨yb,hyb⟩:∃b,wn.heap.size=b:=⟨_,rfl⟩;have h:=h.allocRaw #[.int .i64 0,.int .i64 0,.int .i64 0,.bool false,.string ⟨#[]⟩,.bool false,.string ⟨#[]⟩,.int .i64 0,.int .i64 0,.int .i64 0,.string ⟨#[]⟩,.int .i64 0,.int .i64 0,.slice none 0 0,.string ⟨#[]⟩,.int .i64 0,.int .i64 0,.bool false,.slice none 0 0,.bool false,.string ⟨#[]⟩,.int .i64 0,.int .i64 0,.slice none 0 0] 38;rw[hyb]at h;replace H:=Lib.hid h;clear h hkk ho)
     |(refine wpList_storeSt rfl 38 (Operand.tmp 36) (Operand.tmp 179) rfl yb #[y0,y1,y2,y3,y4,y5,y6,y7,y8,y9,y10,y11,y12,y13,y14,y15,y16,y17,y18,y19,y20,y21,y22,y23] rfl rfl H.out rfl (by kernel_rfl) HOY.out ?_;intro wz h;replace H:=Lib.hid h;clear h))
    go_meet;exact⟨rfl,_,HK,H.out.drop.drop⟩
  · have gz:(e_frm==0)=false:=by rw[beq_eq_false_iff_ne];exact h0
    go_wp2;go_meet;exact⟨rfl,_,HK,H.out.drop⟩
 obtain⟨rfl,K3,HK,h⟩:=hcut;clear H HP he_frm;have H:=Lib.hid h;clear h;go_wp2;go_ret;exact⟨rfl,H.out.below⟩
theorem wholeStrict_any (s:Bs) (n:Int) (hn:0≤n∧n<256){W:World}{K:Know}(hk:K.has Know.reqs) (h:St W W K []):
  Calls Tryz.prog 9 #[.string (bb s),.int .u8 n] W fun en w'=>en=.returned (.bool true)∧Below W.heap.size W w':=by
 obtain⟨c,rfl⟩:∃c:UInt8,n=(c.toNat:Int):=⟨UInt8.ofNat n.toNat,by
  have e:(UInt8.ofNat n.toNat).toNat=n.toNat:=by rw[UInt8.toNat_ofNat'];omega
  rw[e]
  omega⟩
 by_cases hl:s.length≤1500
 · exact ws_main s c hl hk h
 · exact ws_long s c (by omega) h

end Go.Proofs.YteldcbljedeeiaaGreatDoor
