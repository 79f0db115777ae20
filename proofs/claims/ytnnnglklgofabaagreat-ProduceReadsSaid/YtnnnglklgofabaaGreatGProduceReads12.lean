/- A text. -/
import Derived.Test.YtnnnglklgofabaaGreatGProduceReads4
import Derived.Deep.RegionHeld3
import Derived.Deep.DeepCutAuto
import Derived.Test.YtnnnglklgofabaaGreatGProduceReads9
import Derived.Test.YtnnnglklgofabaaGreatGProduceReads8
import Derived.Test.YtnnnglklgofabaaGreatGProduceReads11
import Derived.Test.YtnnnglklgofabaaGreatGProduceReads6
import Derived.IntWalk
import Derived.Test.YtnnnglklgofabaaGreatGProduceReads5
import Derived.Test.YtnnnglklgofabaaGreatGProduceReads3
import Derived.Test.YtnnnglklgofabaaGreatGProduceReads10
import Derived.RegionTactic
import Derived.WalkMore
import Derived.Test.YtnnnglklgofabaaGreatGProduceReads2
/- A text. -/
namespace Go.Proofs.YtnnnglklgofabaaGreat
open Go.RowKit
set_option maxHeartbeats 8000000
set_option maxRecDepth 100000
variable {W0 w:World}{K:Know}{L:List Res}
theorem zAz(n:Int)(r:Bs)(hr:encI n=r)(hn: -9223372036854775808≤n∧n<9223372036854775808)(h:St W0 w K L):
 Calls Tryz.prog 110 #[.int .i64 n] w fun en w'=>en=.returned (.string (bb r))∧St W0 w' K L:=by
 subst hr;exact zJX n hn h
theorem zAi(v:Value)(l:List HdrS)(r:Bs)(hr:zDo l=r)(hs:hsize l≤70368744177664)(hk:K.has (Know.flat RHdr v 3 l))(h:St W0 w K L):
 Calls Tryz.prog 112 #[v] w fun en w'=>en=.returned (.string (bb r))∧St W0 w' K L:=by
 subst hr;exact zLw v l hs hk h
theorem zRl{b:Nat}{T:TypeId}{v0 v1 v2 v3 v4 v5 v6:Value}(h:St W0 w K (.raw b #[v0,v1,v2,v3,v4,v5,v6] T::L)):
 (w.cell? ⟨b,0,none⟩=some v0∧w.cell? ⟨b,1,none⟩=some v1∧w.cell? ⟨b,2,none⟩=some v2∧w.cell? ⟨b,3,none⟩=some v3∧w.cell? ⟨b,4,none⟩=some v4∧w.cell? ⟨b,5,none⟩=some v5∧w.cell? ⟨b,6,none⟩=some v6)∧St W0 w K (.raw b #[v0,v1,v2,v3,v4,v5,v6] T::L):=
 ⟨⟨h.rawCell 0,h.rawCell 1,h.rawCell 2,h.rawCell 3,h.rawCell 4,h.rawCell 5,h.rawCell 6⟩,h⟩
theorem zAa{b:Nat}{T:TypeId}(h:St W0 w K (.raw b #[.int .u8 0] T::L)):
 (convert 29 9 (.slice (some ⟨b,0,none⟩) 1 1)).run Tryz.prog w=.ok (.string ⟨#[0]⟩) w:=by
 refine run_convert_bytes_back (P:=Tryz.prog) w 29 9 5 ⟨b,0,none⟩ 1 [0] Tryz.underlying29 Tryz.underlying5 Tryz.underlying9 (fun j hj=> ?_);have hj:j=0:=by simp at hj;exact hj
 subst hj;exact h.rawCell 0
theorem tA7{f:FuncId}{x:Array Value}{X:Ending}{R:Ending→World→Prop}{W0 w:World}{K:Know}{L:List Res}{b:Nat}{T:TypeId}(c:St W0 w K (.raw b #[.int .u8 0] T::L)→Calls Tryz.prog f x w fun e w'=>e=X∧St W0 w' K (.raw b #[.int .u8 0] T::L))(k:∀w,St W0 w K (.raw b #[.int .u8 0] T::L)→(convert 29 9 (.slice (some ⟨b,0,none⟩) 1 1)).run Tryz.prog w=.ok (.string ⟨#[0]⟩) w→St W0 w K L→R X w)(h:St W0 w K (.raw b #[.int .u8 0] T::L):=by assumption):Calls Tryz.prog f x w R:=(c h).mono (by rintro e w' ⟨rfl,h⟩;exact k w' h (zAa h) h.drop)
theorem tB7{f:FuncId}{x:Array Value}{X:Ending}{R:Ending→World→Prop}{W0 w:World}{K:Know}{L:List Res}{b:Nat}{T:TypeId}{y:Array Value}(c:St W0 w K (.raw b y T::L)→Calls Tryz.prog f x w fun e w'=>e=X∧St W0 w' K (.raw b y T::L))(k:∀w,St W0 w K (.raw b y T::L)→St W0 (w.alloc (.cells #[.int .u8 0] 5 (0,0))) K (.raw w.heap.size #[.int .u8 0] 5::.raw b y T::L)→(convert 29 9 (.slice (some ⟨w.heap.size,0,none⟩) 1 1)).run Tryz.prog (w.alloc (.cells #[.int .u8 0] 5 (0,0)))=.ok (.string ⟨#[0]⟩) (w.alloc (.cells #[.int .u8 0] 5 (0,0)))→St W0 (w.alloc (.cells #[.int .u8 0] 5 (0,0))) K (.raw b y T::L)→R X w)(h:St W0 w K (.raw b y T::L):=by assumption):Calls Tryz.prog f x w R:=(c h).mono (by rintro e w' ⟨rfl,h⟩;have a:=h.allocRaw #[.int .u8 0] 5;exact k w' h a (zAa a) a.drop)
theorem zq57{p:Prop}(h:p:=by(try dsimp only);exact(zRl (show St W0 _ K (.raw wA _ _::L) by assumption))):p:=h
theorem zLu(x:RecS)(v:Value)(s:Bs)(hss:encR x=s)(hx:x.R)(hs:x.sum≤1000000)(hk:K.has (Know.flat RHdr v 3 x.hdrs))(h:St W0 w K L):
 Calls Tryz.prog 81 #[.agg #[.int .i64 x.time,.int .i64 x.off,.bool x.key.null,.string (bb x.key.data),.bool x.val.null,.string (bb x.val.data),v]] w fun en w'=>en=.returned (.string (bb s))∧St W0 w' K L:=by
 obtain⟨wA,hwA⟩:∃b,w.heap.size=b:=⟨_,rfl⟩;have h0:=h.allocRaw #[.int .i64 x.time,.int .i64 x.off,.bool x.key.null,.string (bb x.key.data),.bool x.val.null,.string (bb x.val.data),v] 119;rw[hwA]at h0;have hle:=zE7 x hx hs;have hsm:=hs;unfold RecS.sum at hsm;have hsl:=zCQ x.hdrs;obtain⟨f,hf⟩:∃f,recF x=f:=⟨_,rfl⟩;obtain⟨a1,e1⟩:∃a,encI x.time=a:=⟨_,rfl⟩;obtain⟨a2,e2⟩:∃a,encI x.off=a:=⟨_,rfl⟩;obtain⟨a3,e3⟩:∃a,encV ⟨x.key.null,x.key.data⟩=a:=⟨_,rfl⟩;obtain⟨a4,e4⟩:∃a,encV ⟨x.val.null,x.val.data⟩=a:=⟨_,rfl⟩;obtain⟨a5,e5⟩:∃a,zDo x.hdrs=a:=⟨_,rfl⟩
 have hfe:f=[0]++(a1++(a2++(a3++(a4++a5)))):=by
  rw[←hf,←e1,←e2,←e3,←e4,←e5];rfl
 have hl:=congrArg List.length hfe;simp only[List.length_append,List.length_cons,List.length_nil]at hl;rw[hf]at hle;have hfl:f.length≤40000000:=by omega
 obtain⟨a6,e6⟩:∃a,encI f.length=a:=⟨_,rfl⟩;have h6:a6.length≤10:=by rw[←e6];exact zD9 _ oM
 have hse:s=a6++f:=by
  rw[←hss];unfold encR encV;rw[hf,←e6];rfl
 have hz1:¬(9223372036854775807<1+a1.length):=by omega
 have hy1:¬(9223372036854775807<a1.length+1):=by omega
 have hz2:¬(9223372036854775807<1+a1.length+a2.length):=by omega
 have hy2:¬(9223372036854775807<a1.length+1+a2.length):=by omega
 have hz3:¬(9223372036854775807<1+a1.length+a2.length+a3.length):=by omega
 have hy3:¬(9223372036854775807<a1.length+1+a2.length+a3.length):=by omega
 have hz4:¬(9223372036854775807<1+a1.length+a2.length+a3.length+a4.length):=by omega
 have hy4:¬(9223372036854775807<a1.length+1+a2.length+a3.length+a4.length):=by omega
 have hz5:¬(9223372036854775807<1+a1.length+a2.length+a3.length+a4.length+a5.length):=by omega
 have hy5:¬(9223372036854775807<a1.length+1+a2.length+a3.length+a4.length+a5.length):=by omega
 have hz6:¬(9223372036854775807<a6.length+f.length):=by omega
 have hw3:¬(9223372036854775807<a1.length+a2.length+1+a3.length):=by omega
 have hw4:¬(9223372036854775807<a1.length+a2.length+a3.length+1+a4.length):=by omega
 have hw5:¬(9223372036854775807<a1.length+a2.length+a3.length+a4.length+1+a5.length):=by omega
 have hv4:¬(9223372036854775807<a1.length+(a2.length+a3.length)+1+a4.length):=by omega
 have hv5:¬(9223372036854775807<a1.length+(a2.length+(a3.length+a4.length))+1+a5.length):=by omega
 have E1:=hQd e1;have E2:=hQd e2;have E3:=hQd e3;have E4:=hQd e4;have E5:=hQd e5;have E6:=hQd e6;have R1:=hQd hx.1;have R2:=hQd hx.2;have R6:=hQd (show -9223372036854775808≤(f.length:Int)∧(f.length:Int)<9223372036854775808 by omega);have B3:=hQd (show x.key.data.length≤70368744177664 by omega);have B4:=hQd (show x.val.data.length≤70368744177664 by omega);have B5:=hQd (show hsize x.hdrs≤70368744177664 by omega);have HK:=hQd hk;have HF:=hQd hfe;have HSE:=hQd hse;have H:=hQd h0;have hcat:∀B:Bs,(⟨#[0]⟩:ByteArray)++bb B=bb (0::B):=fun B=>zBb [0] B
 clear h hk h0 hss hx hs hle hsm hsl hf hfl h6 hse hfe hl e1 e2 e3 e4 e5 e6;go_enter Tryz.func81,Tryz.ntmps81;go_wp2_with fail;have hst:=H.out;have ⟨⟨c0,c1,c2,c3,c4,c5,c6⟩,_⟩:=zRl H.out.drew;have hst:=H.out.drew;have hst2:=(H.out.allocRaw #[.int .u8 0] 5).drew;rw[World.size_alloc,hwA]at hst2;have cb:=zAa hst2;have hst3:=hst2.drop;go_cut [3] (fun s3 wx=>s3=.string (bb f)∧St W0 wx K (.raw wA #[.int .i64 x.time,.int .i64 x.off,.bool x.key.null,.string (bb x.key.data),.bool x.val.null,.string (bb x.val.data),v] 119::L))
 case first=>
  refine wp_region_held_drew (S:=(fun w'=>(w'.cell? ⟨wA,0,none⟩=some (.int .i64 x.time)∧w'.cell? ⟨wA,1,none⟩=some (.int .i64 x.off)∧w'.cell? ⟨wA,2,none⟩=some (.bool x.key.null)∧w'.cell? ⟨wA,3,none⟩=some (.string (bb x.key.data))∧w'.cell? ⟨wA,4,none⟩=some (.bool x.val.null)∧w'.cell? ⟨wA,5,none⟩=some (.string (bb x.val.data))∧w'.cell? ⟨wA,6,none⟩=some (v))∧St W0 w' K (.raw wA #[.int .i64 x.time,.int .i64 x.off,.bool x.key.null,.string (bb x.key.data),.bool x.val.null,.string (bb x.val.data),v] 119::L))) (by kernel_rfl) (zRl (show St W0 _ K (.raw wA _ _::L) by assumption)) (fun _=> ?_);refine tR 2 ?_;refine tR 3 ?_;refine tR 6 ?_;refine tR 7 ?_;refine tR 10 ?_;refine tR 11 ?_;refine tR 14 ?_;refine tR 15 ?_;refine tR 18 ?_;refine tR 19 ?_;refine wR [0,4] (rC rfl (fun KK hK=> ?_) (rC rfl (fun KK hK=> ?_) rN))
  focus
   go_simp;refine zK hK zq57 (fun _=> ?_);clear hK KK
   refine wR [1,4] (rC rfl (fun KK hK=> ?_) (rC rfl (fun KK hK=> ?_) rN))
   focus
    go_simp;refine zK hK zq57 (fun _=> ?_);clear hK KK
    refine wR [4] (rC rfl (fun KK hK=> ?_) rN);go_simp
    (go_at_call 110;first|(with_reducible refine tA7 (zAz x.time a1 E1.out R1.out) ?_;intro wn h cb hd)|(with_reducible refine tB7 (zAz x.time a1 E1.out R1.out) ?_;intro wn h hal cb hd))
    refine zK hK zq57 (fun _=> ?_);clear hK KK
    refine tR 5 ?_;refine wR [8] (rC rfl (fun KK hK=> ?_) rN);go_simp
    (go_at_call 110;first|(with_reducible refine tA7 (zAz x.off a2 E2.out R2.out) ?_;intro wn h cb hd)|(with_reducible refine tB7 (zAz x.off a2 E2.out R2.out) ?_;intro wn h hal cb hd))
    refine zK hK zq57 (fun _=> ?_);clear hK KK
    refine tR 9 ?_;refine wR [12] (rC rfl (fun KK hK=> ?_) rN);go_simp
    (go_at_call 111;first|(with_reducible refine tA7 (zAb x.key.null x.key.data a3 E3.out B3.out) ?_;intro wn h cb hd)|(with_reducible refine tB7 (zAb x.key.null x.key.data a3 E3.out B3.out) ?_;intro wn h hal cb hd))
    refine zK hK zq57 (fun _=> ?_);clear hK KK
    refine tR 13 ?_;refine wR [16] (rC rfl (fun KK hK=> ?_) rN);go_simp
    (go_at_call 111;first|(with_reducible refine tA7 (zAb x.val.null x.val.data a4 E4.out B4.out) ?_;intro wn h cb hd)|(with_reducible refine tB7 (zAb x.val.null x.val.data a4 E4.out B4.out) ?_;intro wn h hal cb hd))
    refine zK hK zq57 (fun _=> ?_);clear hK KK
    refine tR 17 ?_;refine wR [20] (rC rfl (fun KK hK=> ?_) rN);go_simp
    (go_at_call 112;first|(with_reducible refine tA7 (zAi v x.hdrs a5 E5.out B5.out HK.out) ?_;intro wn h cb hd)|(with_reducible refine tB7 (zAi v x.hdrs a5 E5.out B5.out HK.out) ?_;intro wn h hal cb hd))
    refine zK hK zq57 (fun _=> ?_);clear hK KK
   rotate_left
   focus
    go_simp
    (go_at_call 110;first|(with_reducible refine tA7 (zAz x.time a1 E1.out R1.out) ?_;intro wn h cb hd)|(with_reducible refine tB7 (zAz x.time a1 E1.out R1.out) ?_;intro wn h hal cb hd))
    refine zK hK zq57 (fun _=> ?_);clear hK KK
    refine wR [1,8] (rC rfl (fun KK hK=> ?_) (rC rfl (fun KK hK=> ?_) rN))
    focus
     go_simp;refine zK hK zq57 (fun _=> ?_);clear hK KK
     refine tR 5 ?_;refine wR [8] (rC rfl (fun KK hK=> ?_) rN);go_simp
     (go_at_call 110;first|(with_reducible refine tA7 (zAz x.off a2 E2.out R2.out) ?_;intro wn h cb hd)|(with_reducible refine tB7 (zAz x.off a2 E2.out R2.out) ?_;intro wn h hal cb hd))
     refine zK hK zq57 (fun _=> ?_);clear hK KK
     refine tR 9 ?_;refine wR [12] (rC rfl (fun KK hK=> ?_) rN);go_simp
     (go_at_call 111;first|(with_reducible refine tA7 (zAb x.key.null x.key.data a3 E3.out B3.out) ?_;intro wn h cb hd)|(with_reducible refine tB7 (zAb x.key.null x.key.data a3 E3.out B3.out) ?_;intro wn h hal cb hd))
     refine zK hK zq57 (fun _=> ?_);clear hK KK
     refine tR 13 ?_;refine wR [16] (rC rfl (fun KK hK=> ?_) rN);go_simp
     (go_at_call 111;first|(with_reducible refine tA7 (zAb x.val.null x.val.data a4 E4.out B4.out) ?_;intro wn h cb hd)|(with_reducible refine tB7 (zAb x.val.null x.val.data a4 E4.out B4.out) ?_;intro wn h hal cb hd))
     refine zK hK zq57 (fun _=> ?_);clear hK KK
     refine tR 17 ?_;refine wR [20] (rC rfl (fun KK hK=> ?_) rN);go_simp
     (go_at_call 112;first|(with_reducible refine tA7 (zAi v x.hdrs a5 E5.out B5.out HK.out) ?_;intro wn h cb hd)|(with_reducible refine tB7 (zAi v x.hdrs a5 E5.out B5.out HK.out) ?_;intro wn h hal cb hd))
     refine zK hK zq57 (fun _=> ?_);clear hK KK
    rotate_left
    focus
     go_simp
     (go_at_call 110;first|(with_reducible refine tA7 (zAz x.off a2 E2.out R2.out) ?_;intro wn h cb hd)|(with_reducible refine tB7 (zAz x.off a2 E2.out R2.out) ?_;intro wn h hal cb hd))
     refine zK hK zq57 (fun _=> ?_);clear hK KK
     refine wR [1,12] (rC rfl (fun KK hK=> ?_) (rC rfl (fun KK hK=> ?_) rN))
     focus
      go_simp;refine zK hK zq57 (fun _=> ?_);clear hK KK
      refine tR 5 ?_;refine tR 9 ?_;refine wR [12] (rC rfl (fun KK hK=> ?_) rN);go_simp
      (go_at_call 111;first|(with_reducible refine tA7 (zAb x.key.null x.key.data a3 E3.out B3.out) ?_;intro wn h cb hd)|(with_reducible refine tB7 (zAb x.key.null x.key.data a3 E3.out B3.out) ?_;intro wn h hal cb hd))
      refine zK hK zq57 (fun _=> ?_);clear hK KK
      refine tR 13 ?_;refine wR [16] (rC rfl (fun KK hK=> ?_) rN);go_simp
      (go_at_call 111;first|(with_reducible refine tA7 (zAb x.val.null x.val.data a4 E4.out B4.out) ?_;intro wn h cb hd)|(with_reducible refine tB7 (zAb x.val.null x.val.data a4 E4.out B4.out) ?_;intro wn h hal cb hd))
      refine zK hK zq57 (fun _=> ?_);clear hK KK
      refine tR 17 ?_;refine wR [20] (rC rfl (fun KK hK=> ?_) rN);go_simp
      (go_at_call 112;first|(with_reducible refine tA7 (zAi v x.hdrs a5 E5.out B5.out HK.out) ?_;intro wn h cb hd)|(with_reducible refine tB7 (zAi v x.hdrs a5 E5.out B5.out HK.out) ?_;intro wn h hal cb hd))
      refine zK hK zq57 (fun _=> ?_);clear hK KK
     rotate_left
     focus
      go_simp
      (go_at_call 111;first|(with_reducible refine tA7 (zAb x.key.null x.key.data a3 E3.out B3.out) ?_;intro wn h cb hd)|(with_reducible refine tB7 (zAb x.key.null x.key.data a3 E3.out B3.out) ?_;intro wn h hal cb hd))
      refine zK hK zq57 (fun _=> ?_);clear hK KK
      refine wR [1,16] (rC rfl (fun KK hK=> ?_) (rC rfl (fun KK hK=> ?_) rN))
      focus
       go_simp;refine zK hK zq57 (fun _=> ?_);clear hK KK
       refine tR 5 ?_;refine tR 9 ?_;refine tR 13 ?_;refine wR [16] (rC rfl (fun KK hK=> ?_) rN);go_simp
       (go_at_call 111;first|(with_reducible refine tA7 (zAb x.val.null x.val.data a4 E4.out B4.out) ?_;intro wn h cb hd)|(with_reducible refine tB7 (zAb x.val.null x.val.data a4 E4.out B4.out) ?_;intro wn h hal cb hd))
       refine zK hK zq57 (fun _=> ?_);clear hK KK
       refine tR 17 ?_;refine wR [20] (rC rfl (fun KK hK=> ?_) rN);go_simp
       (go_at_call 112;first|(with_reducible refine tA7 (zAi v x.hdrs a5 E5.out B5.out HK.out) ?_;intro wn h cb hd)|(with_reducible refine tB7 (zAi v x.hdrs a5 E5.out B5.out HK.out) ?_;intro wn h hal cb hd))
       refine zK hK zq57 (fun _=> ?_);clear hK KK
      rotate_left
      focus
       go_simp
       (go_at_call 111;first|(with_reducible refine tA7 (zAb x.val.null x.val.data a4 E4.out B4.out) ?_;intro wn h cb hd)|(with_reducible refine tB7 (zAb x.val.null x.val.data a4 E4.out B4.out) ?_;intro wn h hal cb hd))
       refine zK hK zq57 (fun _=> ?_);clear hK KK
       refine wR [1,20] (rC rfl (fun KK hK=> ?_) (rC rfl (fun KK hK=> ?_) rN))
       focus
        go_simp;refine zK hK zq57 (fun _=> ?_);clear hK KK
        refine tR 5 ?_;refine tR 9 ?_;refine tR 13 ?_;refine tR 17 ?_;refine wR [20] (rC rfl (fun KK hK=> ?_) rN);go_simp
        (go_at_call 112;first|(with_reducible refine tA7 (zAi v x.hdrs a5 E5.out B5.out HK.out) ?_;intro wn h cb hd)|(with_reducible refine tB7 (zAi v x.hdrs a5 E5.out B5.out HK.out) ?_;intro wn h hal cb hd))
        refine zK hK zq57 (fun _=> ?_);clear hK KK
       rotate_left
       focus
        go_simp
        (go_at_call 112;first|(with_reducible refine tA7 (zAi v x.hdrs a5 E5.out B5.out HK.out) ?_;intro wn h cb hd)|(with_reducible refine tB7 (zAi v x.hdrs a5 E5.out B5.out HK.out) ?_;intro wn h hal cb hd))
        refine zK hK zq57 (fun _=> ?_);clear hK KK
        refine wR [1] (rC rfl (fun KK hK=> ?_) rN);go_simp;refine zK hK zq57 (fun _=> ?_);clear hK KK
        refine tR 5 ?_;refine tR 9 ?_;refine tR 13 ?_;refine tR 17 ?_
  rotate_left 6
  focus
   go_simp
   (go_at_call 110;first|(with_reducible refine tA7 (zAz x.time a1 E1.out R1.out) ?_;intro wn h cb hd)|(with_reducible refine tB7 (zAz x.time a1 E1.out R1.out) ?_;intro wn h hal cb hd))
   refine zK hK zq57 (fun _=> ?_);clear hK KK
   refine wR [0,8] (rC rfl (fun KK hK=> ?_) (rC rfl (fun KK hK=> ?_) rN))
   focus
    go_simp;refine zK hK zq57 (fun _=> ?_);clear hK KK
    refine wR [1,8] (rC rfl (fun KK hK=> ?_) (rC rfl (fun KK hK=> ?_) rN))
    focus
     go_simp;refine zK hK zq57 (fun _=> ?_);clear hK KK
     refine tR 5 ?_;refine wR [8] (rC rfl (fun KK hK=> ?_) rN);go_simp
     (go_at_call 110;first|(with_reducible refine tA7 (zAz x.off a2 E2.out R2.out) ?_;intro wn h cb hd)|(with_reducible refine tB7 (zAz x.off a2 E2.out R2.out) ?_;intro wn h hal cb hd))
     refine zK hK zq57 (fun _=> ?_);clear hK KK
     refine tR 9 ?_;refine wR [12] (rC rfl (fun KK hK=> ?_) rN);go_simp
     (go_at_call 111;first|(with_reducible refine tA7 (zAb x.key.null x.key.data a3 E3.out B3.out) ?_;intro wn h cb hd)|(with_reducible refine tB7 (zAb x.key.null x.key.data a3 E3.out B3.out) ?_;intro wn h hal cb hd))
     refine zK hK zq57 (fun _=> ?_);clear hK KK
     refine tR 13 ?_;refine wR [16] (rC rfl (fun KK hK=> ?_) rN);go_simp
     (go_at_call 111;first|(with_reducible refine tA7 (zAb x.val.null x.val.data a4 E4.out B4.out) ?_;intro wn h cb hd)|(with_reducible refine tB7 (zAb x.val.null x.val.data a4 E4.out B4.out) ?_;intro wn h hal cb hd))
     refine zK hK zq57 (fun _=> ?_);clear hK KK
     refine tR 17 ?_;refine wR [20] (rC rfl (fun KK hK=> ?_) rN);go_simp
     (go_at_call 112;first|(with_reducible refine tA7 (zAi v x.hdrs a5 E5.out B5.out HK.out) ?_;intro wn h cb hd)|(with_reducible refine tB7 (zAi v x.hdrs a5 E5.out B5.out HK.out) ?_;intro wn h hal cb hd))
     refine zK hK zq57 (fun _=> ?_);clear hK KK
    rotate_left
    focus
     go_simp
     (go_at_call 110;first|(with_reducible refine tA7 (zAz x.off a2 E2.out R2.out) ?_;intro wn h cb hd)|(with_reducible refine tB7 (zAz x.off a2 E2.out R2.out) ?_;intro wn h hal cb hd))
     refine zK hK zq57 (fun _=> ?_);clear hK KK
     refine wR [1,12] (rC rfl (fun KK hK=> ?_) (rC rfl (fun KK hK=> ?_) rN))
     focus
      go_simp;refine zK hK zq57 (fun _=> ?_);clear hK KK
      refine tR 5 ?_;refine tR 9 ?_;refine wR [12] (rC rfl (fun KK hK=> ?_) rN);go_simp
      (go_at_call 111;first|(with_reducible refine tA7 (zAb x.key.null x.key.data a3 E3.out B3.out) ?_;intro wn h cb hd)|(with_reducible refine tB7 (zAb x.key.null x.key.data a3 E3.out B3.out) ?_;intro wn h hal cb hd))
      refine zK hK zq57 (fun _=> ?_);clear hK KK
      refine tR 13 ?_;refine wR [16] (rC rfl (fun KK hK=> ?_) rN);go_simp
      (go_at_call 111;first|(with_reducible refine tA7 (zAb x.val.null x.val.data a4 E4.out B4.out) ?_;intro wn h cb hd)|(with_reducible refine tB7 (zAb x.val.null x.val.data a4 E4.out B4.out) ?_;intro wn h hal cb hd))
      refine zK hK zq57 (fun _=> ?_);clear hK KK
      refine tR 17 ?_;refine wR [20] (rC rfl (fun KK hK=> ?_) rN);go_simp
      (go_at_call 112;first|(with_reducible refine tA7 (zAi v x.hdrs a5 E5.out B5.out HK.out) ?_;intro wn h cb hd)|(with_reducible refine tB7 (zAi v x.hdrs a5 E5.out B5.out HK.out) ?_;intro wn h hal cb hd))
      refine zK hK zq57 (fun _=> ?_);clear hK KK
     rotate_left
     focus
      go_simp
      (go_at_call 111;first|(with_reducible refine tA7 (zAb x.key.null x.key.data a3 E3.out B3.out) ?_;intro wn h cb hd)|(with_reducible refine tB7 (zAb x.key.null x.key.data a3 E3.out B3.out) ?_;intro wn h hal cb hd))
      refine zK hK zq57 (fun _=> ?_);clear hK KK
      refine wR [1,16] (rC rfl (fun KK hK=> ?_) (rC rfl (fun KK hK=> ?_) rN))
      focus
       go_simp;refine zK hK zq57 (fun _=> ?_);clear hK KK
       refine tR 5 ?_;refine tR 9 ?_;refine tR 13 ?_;refine wR [16] (rC rfl (fun KK hK=> ?_) rN);go_simp
       (go_at_call 111;first|(with_reducible refine tA7 (zAb x.val.null x.val.data a4 E4.out B4.out) ?_;intro wn h cb hd)|(with_reducible refine tB7 (zAb x.val.null x.val.data a4 E4.out B4.out) ?_;intro wn h hal cb hd))
       refine zK hK zq57 (fun _=> ?_);clear hK KK
       refine tR 17 ?_;refine wR [20] (rC rfl (fun KK hK=> ?_) rN);go_simp
       (go_at_call 112;first|(with_reducible refine tA7 (zAi v x.hdrs a5 E5.out B5.out HK.out) ?_;intro wn h cb hd)|(with_reducible refine tB7 (zAi v x.hdrs a5 E5.out B5.out HK.out) ?_;intro wn h hal cb hd))
       refine zK hK zq57 (fun _=> ?_);clear hK KK
      rotate_left
      focus
       go_simp
       (go_at_call 111;first|(with_reducible refine tA7 (zAb x.val.null x.val.data a4 E4.out B4.out) ?_;intro wn h cb hd)|(with_reducible refine tB7 (zAb x.val.null x.val.data a4 E4.out B4.out) ?_;intro wn h hal cb hd))
       refine zK hK zq57 (fun _=> ?_);clear hK KK
       refine wR [1,20] (rC rfl (fun KK hK=> ?_) (rC rfl (fun KK hK=> ?_) rN))
       focus
        go_simp;refine zK hK zq57 (fun _=> ?_);clear hK KK
        refine tR 5 ?_;refine tR 9 ?_;refine tR 13 ?_;refine tR 17 ?_;refine wR [20] (rC rfl (fun KK hK=> ?_) rN);go_simp
        (go_at_call 112;first|(with_reducible refine tA7 (zAi v x.hdrs a5 E5.out B5.out HK.out) ?_;intro wn h cb hd)|(with_reducible refine tB7 (zAi v x.hdrs a5 E5.out B5.out HK.out) ?_;intro wn h hal cb hd))
        refine zK hK zq57 (fun _=> ?_);clear hK KK
       rotate_left
       focus
        go_simp
        (go_at_call 112;first|(with_reducible refine tA7 (zAi v x.hdrs a5 E5.out B5.out HK.out) ?_;intro wn h cb hd)|(with_reducible refine tB7 (zAi v x.hdrs a5 E5.out B5.out HK.out) ?_;intro wn h hal cb hd))
        refine zK hK zq57 (fun _=> ?_);clear hK KK
        refine wR [1] (rC rfl (fun KK hK=> ?_) rN);go_simp;refine zK hK zq57 (fun _=> ?_);clear hK KK
        refine tR 5 ?_;refine tR 9 ?_;refine tR 13 ?_;refine tR 17 ?_
   rotate_left 5
   focus
    go_simp
    (go_at_call 110;first|(with_reducible refine tA7 (zAz x.off a2 E2.out R2.out) ?_;intro wn h cb hd)|(with_reducible refine tB7 (zAz x.off a2 E2.out R2.out) ?_;intro wn h hal cb hd))
    refine zK hK zq57 (fun _=> ?_);clear hK KK
    refine wR [0,12] (rC rfl (fun KK hK=> ?_) (rC rfl (fun KK hK=> ?_) rN))
    focus
     go_simp;refine zK hK zq57 (fun _=> ?_);clear hK KK
     refine wR [1,12] (rC rfl (fun KK hK=> ?_) (rC rfl (fun KK hK=> ?_) rN))
     focus
      go_simp;refine zK hK zq57 (fun _=> ?_);clear hK KK
      refine tR 5 ?_;refine tR 9 ?_;refine wR [12] (rC rfl (fun KK hK=> ?_) rN);go_simp
      (go_at_call 111;first|(with_reducible refine tA7 (zAb x.key.null x.key.data a3 E3.out B3.out) ?_;intro wn h cb hd)|(with_reducible refine tB7 (zAb x.key.null x.key.data a3 E3.out B3.out) ?_;intro wn h hal cb hd))
      refine zK hK zq57 (fun _=> ?_);clear hK KK
      refine tR 13 ?_;refine wR [16] (rC rfl (fun KK hK=> ?_) rN);go_simp
      (go_at_call 111;first|(with_reducible refine tA7 (zAb x.val.null x.val.data a4 E4.out B4.out) ?_;intro wn h cb hd)|(with_reducible refine tB7 (zAb x.val.null x.val.data a4 E4.out B4.out) ?_;intro wn h hal cb hd))
      refine zK hK zq57 (fun _=> ?_);clear hK KK
      refine tR 17 ?_;refine wR [20] (rC rfl (fun KK hK=> ?_) rN);go_simp
      (go_at_call 112;first|(with_reducible refine tA7 (zAi v x.hdrs a5 E5.out B5.out HK.out) ?_;intro wn h cb hd)|(with_reducible refine tB7 (zAi v x.hdrs a5 E5.out B5.out HK.out) ?_;intro wn h hal cb hd))
      refine zK hK zq57 (fun _=> ?_);clear hK KK
     rotate_left
     focus
      go_simp
      (go_at_call 111;first|(with_reducible refine tA7 (zAb x.key.null x.key.data a3 E3.out B3.out) ?_;intro wn h cb hd)|(with_reducible refine tB7 (zAb x.key.null x.key.data a3 E3.out B3.out) ?_;intro wn h hal cb hd))
      refine zK hK zq57 (fun _=> ?_);clear hK KK
      refine wR [1,16] (rC rfl (fun KK hK=> ?_) (rC rfl (fun KK hK=> ?_) rN))
      focus
       go_simp;refine zK hK zq57 (fun _=> ?_);clear hK KK
       refine tR 5 ?_;refine tR 9 ?_;refine tR 13 ?_;refine wR [16] (rC rfl (fun KK hK=> ?_) rN);go_simp
       (go_at_call 111;first|(with_reducible refine tA7 (zAb x.val.null x.val.data a4 E4.out B4.out) ?_;intro wn h cb hd)|(with_reducible refine tB7 (zAb x.val.null x.val.data a4 E4.out B4.out) ?_;intro wn h hal cb hd))
       refine zK hK zq57 (fun _=> ?_);clear hK KK
       refine tR 17 ?_;refine wR [20] (rC rfl (fun KK hK=> ?_) rN);go_simp
       (go_at_call 112;first|(with_reducible refine tA7 (zAi v x.hdrs a5 E5.out B5.out HK.out) ?_;intro wn h cb hd)|(with_reducible refine tB7 (zAi v x.hdrs a5 E5.out B5.out HK.out) ?_;intro wn h hal cb hd))
       refine zK hK zq57 (fun _=> ?_);clear hK KK
      rotate_left
      focus
       go_simp
       (go_at_call 111;first|(with_reducible refine tA7 (zAb x.val.null x.val.data a4 E4.out B4.out) ?_;intro wn h cb hd)|(with_reducible refine tB7 (zAb x.val.null x.val.data a4 E4.out B4.out) ?_;intro wn h hal cb hd))
       refine zK hK zq57 (fun _=> ?_);clear hK KK
       refine wR [1,20] (rC rfl (fun KK hK=> ?_) (rC rfl (fun KK hK=> ?_) rN))
       focus
        go_simp;refine zK hK zq57 (fun _=> ?_);clear hK KK
        refine tR 5 ?_;refine tR 9 ?_;refine tR 13 ?_;refine tR 17 ?_;refine wR [20] (rC rfl (fun KK hK=> ?_) rN);go_simp
        (go_at_call 112;first|(with_reducible refine tA7 (zAi v x.hdrs a5 E5.out B5.out HK.out) ?_;intro wn h cb hd)|(with_reducible refine tB7 (zAi v x.hdrs a5 E5.out B5.out HK.out) ?_;intro wn h hal cb hd))
        refine zK hK zq57 (fun _=> ?_);clear hK KK
       rotate_left
       focus
        go_simp
        (go_at_call 112;first|(with_reducible refine tA7 (zAi v x.hdrs a5 E5.out B5.out HK.out) ?_;intro wn h cb hd)|(with_reducible refine tB7 (zAi v x.hdrs a5 E5.out B5.out HK.out) ?_;intro wn h hal cb hd))
        refine zK hK zq57 (fun _=> ?_);clear hK KK
        refine wR [1] (rC rfl (fun KK hK=> ?_) rN);go_simp;refine zK hK zq57 (fun _=> ?_);clear hK KK
        refine tR 5 ?_;refine tR 9 ?_;refine tR 13 ?_;refine tR 17 ?_
    rotate_left 4
    focus
     go_simp
     (go_at_call 111;first|(with_reducible refine tA7 (zAb x.key.null x.key.data a3 E3.out B3.out) ?_;intro wn h cb hd)|(with_reducible refine tB7 (zAb x.key.null x.key.data a3 E3.out B3.out) ?_;intro wn h hal cb hd))
     refine zK hK zq57 (fun _=> ?_);clear hK KK
     refine wR [0,16] (rC rfl (fun KK hK=> ?_) (rC rfl (fun KK hK=> ?_) rN))
     focus
      go_simp;refine zK hK zq57 (fun _=> ?_);clear hK KK
      refine wR [1,16] (rC rfl (fun KK hK=> ?_) (rC rfl (fun KK hK=> ?_) rN))
      focus
       go_simp;refine zK hK zq57 (fun _=> ?_);clear hK KK
       refine tR 5 ?_;refine tR 9 ?_;refine tR 13 ?_;refine wR [16] (rC rfl (fun KK hK=> ?_) rN);go_simp
       (go_at_call 111;first|(with_reducible refine tA7 (zAb x.val.null x.val.data a4 E4.out B4.out) ?_;intro wn h cb hd)|(with_reducible refine tB7 (zAb x.val.null x.val.data a4 E4.out B4.out) ?_;intro wn h hal cb hd))
       refine zK hK zq57 (fun _=> ?_);clear hK KK
       refine tR 17 ?_;refine wR [20] (rC rfl (fun KK hK=> ?_) rN);go_simp
       (go_at_call 112;first|(with_reducible refine tA7 (zAi v x.hdrs a5 E5.out B5.out HK.out) ?_;intro wn h cb hd)|(with_reducible refine tB7 (zAi v x.hdrs a5 E5.out B5.out HK.out) ?_;intro wn h hal cb hd))
       refine zK hK zq57 (fun _=> ?_);clear hK KK
      rotate_left
      focus
       go_simp
       (go_at_call 111;first|(with_reducible refine tA7 (zAb x.val.null x.val.data a4 E4.out B4.out) ?_;intro wn h cb hd)|(with_reducible refine tB7 (zAb x.val.null x.val.data a4 E4.out B4.out) ?_;intro wn h hal cb hd))
       refine zK hK zq57 (fun _=> ?_);clear hK KK
       refine wR [1,20] (rC rfl (fun KK hK=> ?_) (rC rfl (fun KK hK=> ?_) rN))
       focus
        go_simp;refine zK hK zq57 (fun _=> ?_);clear hK KK
        refine tR 5 ?_;refine tR 9 ?_;refine tR 13 ?_;refine tR 17 ?_;refine wR [20] (rC rfl (fun KK hK=> ?_) rN);go_simp
        (go_at_call 112;first|(with_reducible refine tA7 (zAi v x.hdrs a5 E5.out B5.out HK.out) ?_;intro wn h cb hd)|(with_reducible refine tB7 (zAi v x.hdrs a5 E5.out B5.out HK.out) ?_;intro wn h hal cb hd))
        refine zK hK zq57 (fun _=> ?_);clear hK KK
       rotate_left
       focus
        go_simp
        (go_at_call 112;first|(with_reducible refine tA7 (zAi v x.hdrs a5 E5.out B5.out HK.out) ?_;intro wn h cb hd)|(with_reducible refine tB7 (zAi v x.hdrs a5 E5.out B5.out HK.out) ?_;intro wn h hal cb hd))
        refine zK hK zq57 (fun _=> ?_);clear hK KK
        refine wR [1] (rC rfl (fun KK hK=> ?_) rN);go_simp;refine zK hK zq57 (fun _=> ?_);clear hK KK
        refine tR 5 ?_;refine tR 9 ?_;refine tR 13 ?_;refine tR 17 ?_
     rotate_left 3
     focus
      go_simp
      (go_at_call 111;first|(with_reducible refine tA7 (zAb x.val.null x.val.data a4 E4.out B4.out) ?_;intro wn h cb hd)|(with_reducible refine tB7 (zAb x.val.null x.val.data a4 E4.out B4.out) ?_;intro wn h hal cb hd))
      refine zK hK zq57 (fun _=> ?_);clear hK KK
      refine wR [0,20] (rC rfl (fun KK hK=> ?_) (rC rfl (fun KK hK=> ?_) rN))
      focus
       go_simp;refine zK hK zq57 (fun _=> ?_);clear hK KK
       refine wR [1,20] (rC rfl (fun KK hK=> ?_) (rC rfl (fun KK hK=> ?_) rN))
       focus
        go_simp;refine zK hK zq57 (fun _=> ?_);clear hK KK
        refine tR 5 ?_;refine tR 9 ?_;refine tR 13 ?_;refine tR 17 ?_;refine wR [20] (rC rfl (fun KK hK=> ?_) rN);go_simp
        (go_at_call 112;first|(with_reducible refine tA7 (zAi v x.hdrs a5 E5.out B5.out HK.out) ?_;intro wn h cb hd)|(with_reducible refine tB7 (zAi v x.hdrs a5 E5.out B5.out HK.out) ?_;intro wn h hal cb hd))
        refine zK hK zq57 (fun _=> ?_);clear hK KK
       rotate_left
       focus
        go_simp
        (go_at_call 112;first|(with_reducible refine tA7 (zAi v x.hdrs a5 E5.out B5.out HK.out) ?_;intro wn h cb hd)|(with_reducible refine tB7 (zAi v x.hdrs a5 E5.out B5.out HK.out) ?_;intro wn h hal cb hd))
        refine zK hK zq57 (fun _=> ?_);clear hK KK
        refine wR [1] (rC rfl (fun KK hK=> ?_) rN);go_simp;refine zK hK zq57 (fun _=> ?_);clear hK KK
        refine tR 5 ?_;refine tR 9 ?_;refine tR 13 ?_;refine tR 17 ?_
      rotate_left 2
      focus
       go_simp
       (go_at_call 112;first|(with_reducible refine tA7 (zAi v x.hdrs a5 E5.out B5.out HK.out) ?_;intro wn h cb hd)|(with_reducible refine tB7 (zAi v x.hdrs a5 E5.out B5.out HK.out) ?_;intro wn h hal cb hd))
       refine zK hK zq57 (fun _=> ?_);clear hK KK
       refine wR [0] (rC rfl (fun KK hK=> ?_) rN);go_simp;refine zK hK zq57 (fun _=> ?_);clear hK KK
       refine wR [1] (rC rfl (fun KK hK=> ?_) rN);go_simp;refine zK hK zq57 (fun _=> ?_);clear hK KK
       refine tR 5 ?_;refine tR 9 ?_;refine tR 13 ?_;refine tR 17 ?_
  all_goals
   refine tR 21 ?_;refine tR 22 ?_;refine wpAnyH_done (by kernel_rfl) ?_ _;have h2:=(show St W0 _ K (.raw wA _ _::L) by assumption);go_wp2_with fail;go_meet;exact⟨by rw[HF.out];rfl,h2⟩
 case rest=>
  obtain⟨hu,h⟩:=hcut;subst hu;have H:=hQd h;clear h hst hst2 hst3 cb c0 c1 c2 c3 c4 c5 c6;go_wp2_with (go_at_call 110;refine(zAz _ a6 E6.out R6.out H.out).zM ?_;clear H;intro wn H);go_ret;exact⟨by rw[HSE.out];first|rfl|simp,H.out.drop⟩
variable {W0 w:World}{K:Know}{L:List Res}
theorem zF6{P:Program}{o:Oper}{a:Act}{w w':World}{v:Value}{KK:Act→World→Prop}{Q:Exit→Act→World→Prop}(hr:(execOp a.eval o).run P w=.ok (.value v) w')(h:KK (a.put o.dst v) w'):o.wp P a w KK Q:=by
 unfold Oper.wp;rw[hr];exact h
theorem zPA(n0 n1 n2 n3 n4 n5 n6 n7 n8 n9 n10 n11:Int)(w:World):(Instr.buildSlice 127 12 #[(0,.int .i64 n0),(1,.int .i64 n1),(2,.int .i64 n2),(3,.int .i64 n3),(4,.int .i64 n4),(5,.int .i64 n5),(6,.int .i64 n6),(7,.int .i64 n7),(8,.int .i64 n8),(9,.int .i64 n9),(10,.int .i64 n10),(11,.int .i64 n11)]).run Tryz.prog w=.ok (.slice (some ⟨w.heap.size,0,none⟩) 12 12) (w.alloc (.cells #[.int .i64 n0,.int .i64 n1,.int .i64 n2,.int .i64 n3,.int .i64 n4,.int .i64 n5,.int .i64 n6,.int .i64 n7,.int .i64 n8,.int .i64 n9,.int .i64 n10,.int .i64 n11] 3 (0,0))):=by go_simp
theorem zQy{v:Value}{w w':World}(s:Sem Value)(hb:s.run Tryz.prog w=.ok v w'):(do pure (Next.value (←s)):Sem Next).run Tryz.prog w=.ok (.value v) w':=by go_simp
theorem zH6{o:Oper}{ρ:Operand→Value}(ps:Array (Nat×Value))(v:Value)(w w':World)(ho:execOp ρ o=(do pure (Next.value (←Instr.buildSlice 127 12 ps))))(hb:(Instr.buildSlice 127 12 ps).run Tryz.prog w=.ok v w'):(execOp ρ o).run Tryz.prog w=.ok (.value v) w':=by
 rw[ho];exact zQy _ hb
theorem zJT(bl:Nat)(b:BatS)(sm:Int)(rows:Bs)(hrw:b.rowsB=rows)(at_:Int)(hat:zA7 b.app b.txn b.ctl 3=at_)(n:Nat)(hn:b.recs.length=n)(said:Bs)(hsaid:zAo (b.pre sm).items=said)(hfit:FitsAll (b.pre sm).items)(hR:(b.pre sm).R)(h:St W0 w K (.raw bl #[.int .i64 b.base,.int .i64 (49+rows.length),.int .i64 b.leader,.int .i64 sm,.int .i64 at_,.int .i64 b.last,.int .i64 b.first,.int .i64 b.maxt,.int .i64 b.prod,.int .i64 b.epoch,.int .i64 b.seq,.int .i64 n] 3::L)):
 Calls Tryz.prog 82 #[.slice (some ⟨bl,0,none⟩) 12 12] w fun en w'=>en=.returned (.tuple #[.string (bb said),.bool true])∧St W0 w' K (.raw bl #[.int .i64 b.base,.int .i64 (49+rows.length),.int .i64 b.leader,.int .i64 sm,.int .i64 at_,.int .i64 b.last,.int .i64 b.first,.int .i64 b.maxt,.int .i64 b.prod,.int .i64 b.epoch,.int .i64 b.seq,.int .i64 n] 3::L):=by
 subst hrw hat hn hsaid;have e:zCm (b.pre sm)=(zAo (b.pre sm).items,true):=if_pos hfit;have c:=zLt bl (b.pre sm) hR h;rw[e]at c;exact c
theorem zHO(base leader:Int)(app txn ctl:Bool)(last first maxt prod epoch sq:Int)(rv:Value)(r:Int)(hr:zA7 app txn ctl 3=r)(h:St W0 w K L):
 Calls Tryz.prog 83 #[.agg #[.int .i64 base,.int .i64 leader,.bool app,.bool txn,.bool ctl,.int .i64 last,.int .i64 first,.int .i64 maxt,.int .i64 prod,.int .i64 epoch,.int .i64 sq,rv]] w fun en w'=>en=.returned (.int .i64 r)∧St W0 w' K L:=by
 obtain⟨hb,hhb⟩:∃b,w.heap.size=b:=⟨_,rfl⟩;have h1:=h.allocRaw #[.int .i64 base,.int .i64 leader,.bool app,.bool txn,.bool ctl,.int .i64 last,.int .i64 first,.int .i64 maxt,.int .i64 prod,.int .i64 epoch,.int .i64 sq,rv] 58;rw[hhb]at h1;obtain⟨x0,x1,x2,x3,x4,x5,x6,x7,x8,x9,x10,x11,y0,y1,y2,y3,y4,y5,y6,y7,y8,y9,y10,y11⟩:=zAe (b:=hb) (h1);have H:=hQd h1;subst hr;clear h h1
 cases app<;>cases txn<;>cases ctl
 all_goals
  go_enter Tryz.func83,Tryz.ntmps83;go_wp2;go_ret;exact⟨by kernel_rfl,H.out.drop⟩
theorem zE5(s:Bs)(hs:s.length≤1000000)(x:Nat)(hx:(zAm 0#32 s).toNat=x)(h:St W0 w K L):
 Calls Tryz.prog 84 #[.string (bb s)] w fun en w'=>en=.returned (.int .u32 x)∧St W0 w' K L:=by
 subst hx;exact zNw s hs h
theorem zQK(a:Int)(h:chk a=0):zA7 (zAf a 3) (zAf a 4) (zAf a 5) 3=a∧(zAf a 5=true→zAf a 4=true):=by
 have hr:0≤a∧a≤63:=by
  unfold chk at h
  split at h
  ·cases h
  ·split at h
   ·cases h
   ·rename_i _ h2
    simp only[Bool.or_eq_true,decide_eq_true_eq,not_or]at h2
    omega
 have key:∀k:Fin 64,chk (k.val:Int)=0→zA7 (zAf k.val 3) (zAf k.val 4) (zAf k.val 5) 3=k.val∧(zAf k.val 5=true→zAf k.val 4=true):=by decide
 have:=key ⟨a.toNat,oM⟩;simp only at this;rw[show((a.toNat:Nat):Int)=a by omega]at this;exact this h
theorem zJv(v:Int)(h: -2147483648≤v∧v<2147483648):zAH (v % 4294967296)=v:=by
 unfold zAH;rw[if_neg oM]
 split<;>omega
theorem zNI{s:Bs}(h:61≤s.length)(h2:(preX s).2=2):zAo (preX s).1.items=s.take 61:=by
 have e:=zH7 zAX s h;have hs:zAX.sum=61:=rfl;rw[hs]at e;rw[←e];have h4:=zBX ((s.drop 17).take 4) (by rw[List.length_take];omega);have h5:=zJv _ h4
 have e2:zBV zAX s=[sInt (s.take 8),sInt ((s.drop 8).take 4),sInt ((s.drop 12).take 4),sInt ((s.drop 16).take 1),sInt ((s.drop 17).take 4),sInt ((s.drop 21).take 2),sInt ((s.drop 23).take 4),sInt ((s.drop 27).take 8),sInt ((s.drop 35).take 8),sInt ((s.drop 43).take 8),sInt ((s.drop 51).take 2),sInt ((s.drop 53).take 4),sInt ((s.drop 57).take 4)]:=by
  unfold zAX;simp only[zBV,List.drop_drop,Nat.reduceAdd]
 unfold preX at h2 ⊢;rw[e2]at h2 ⊢;have h3:sInt ((s.drop 16).take 1)=2:=h2;rw[h3]
 show zAo (PreS.items ⟨_,_,_,sInt ((s.drop 17).take 4) % 4294967296,_,_,_,_,_,_,_,_⟩)=_
 unfold PreS.items;simp only[h5]
 rfl
theorem zOf:∀(n:Nat) (rows:Bs) (pos:Nat) (rs:List RecS),pos≤rows.length→unp n ⟨rows,pos,0⟩=.ok rs→rows.drop pos=rs.flatMap encR
 |0,rows,pos,rs,hp,h=>by
  have h:(if (⟨rows,pos,0⟩:InS).left=0 then Except.ok []else Except.error (10:Int))=Except.ok rs:=h
  by_cases c1:(⟨rows,pos,0⟩:InS).left=0
  ·rw[if_pos c1]at h
   cases h
   have c2:rows.length - pos=0:=c1;rw[List.drop_of_length_le oM]
   rfl
  ·rw[if_neg c1]at h;cases h
 |n+1,rows,pos,rs,hp,h=>by
  have h:(if (⟨rows,pos,0⟩:InS).left=0 then .error 10 else if (⟨rows,pos,0⟩:InS).record.2.err=0 then zEF (⟨rows,pos,0⟩:InS).record.1 (unp n (⟨rows,pos,0⟩:InS).record.2)else .error (⟨rows,pos,0⟩:InS).record.2.err)=.ok rs:=h
  by_cases c1:(⟨rows,pos,0⟩:InS).left=0
  ·rw[if_pos c1]at h;cases h
  rw[if_neg c1]at h
  cases hr:zCj (rows.drop pos)with
  |error e=>
   obtain⟨he,q,_,hf⟩:=zDu.err rows pos e hp hr;rw[hf]at h;simp only at h;rw[if_neg he]at h
   cases h
  |ok y=>
   obtain⟨x,m⟩:=y;obtain⟨hpm,hf⟩:=zDu.ok rows pos x m hp hr;rw[hf]at h;simp only[if_true]at h
   cases hu:unp n ⟨rows,pos+m,0⟩with
   |error e=>rw[hu]at h;cases h
   |ok t=>
    rw[hu]at h;have h:Except.ok (x::t)=Except.ok rs:=h;injection h with h;subst h;have i1:=zOf n rows (pos+m) t hpm hu;have j1:=(zCX hr).1;rw[List.flatMap_cons,←i1,j1,←List.drop_drop,List.take_append_drop]
theorem zJ7{s:Bs}{b:BatS}{n:Nat}(h:zBd s=.ok (b,n)):b.enc=s.take n∧zAl b=0∧b.rowsB.length≤s.length∧b.recs.length≤s.length∧∀x∈b.recs,x.R∧zBc x=0∧x.sum≤s.length:=by
 obtain⟨x,hp,hn,hns,ha⟩:=zBI h;obtain⟨p1,p2,p3,p4,p5⟩:=zDM hp;obtain⟨a1,a2,rs,a3,a4,a5⟩:=zHu ha;obtain⟨k,hk⟩:∃k,(x.len - 49).toNat=k:=⟨_,rfl⟩;rw[hk]at hn a1 a3;obtain⟨rows,hrw⟩:∃r,(s.drop 61).take k=r:=⟨_,rfl⟩;rw[hrw]at a1 a3;have hrl:rows.length=k:=by rw[←hrw,List.length_take,List.length_drop];omega
 have u1:=zOf _ _ _ _ (Nat.zero_le _) a3;obtain⟨u2,u3,u4⟩:=zF9 _ _ _ _ (Nat.zero_le _) a3;rw[List.drop_zero]at u1;have hrb:b.rowsB=rows:=by rw[u1,a5];rfl
 have hrc:b.recs=rs:=by rw[a5]
 obtain⟨at1,at2⟩:=zQK x.attr a2
 have hpre:b.pre x.sum=x:=by
  unfold BatS.pre;rw[hrb,hrc,hrl,u2];rw[a5];simp only;rw[at1,show 49+((k:Nat):Int)=x.len by omega,show((x.count.toNat:Nat):Int)=x.count by omega]
 have hby:=zNI p1 p3
 rw[p2]at hby
 have hbk:(s.take 61).drop 21=b.back:=by rw[←hby,←hpre,b.pre_drop]
 have hcr:(b.crc:Int)=x.sum:=by
  unfold BatS.crc;rw[←hbk,hrb];exact a1
 refine⟨?_,by rw[a5];exact a4,by rw[hrb,hrl];omega,by rw[hrc];omega,fun y hy=> ?_⟩
 ·unfold BatS.enc;rw[hcr,hpre,hby,hrb,←hrw,hn,List.take_add]
 ·rw[hrc]at hy;obtain⟨v1,v2,v3⟩:=u4 y hy;exact⟨v1,v2,oM⟩
theorem zIN{s:Bs}{x:PreS}(h:zBu s=.ok x):Rn x.base∧Rn x.leader∧Rn x.last∧Rn x.first∧Rn x.maxt∧Rn x.prod∧Rn x.epoch∧Rn x.seq:=by
 obtain⟨h1,h2,_,h3,h4⟩:=zDM h;rw[zGY]at h2;have h2:=h2.symm;subst h2;have r:∀(k m:Nat),m≤8→Rn (sInt ((s.drop k).take m)):=fun k m hm=>zCq _ (by rw[List.length_take];omega)
 exact⟨r 0 8 dD,r 12 4 dD,r 23 4 dD,r 27 8 dD,r 35 8 dD,r 43 8 dD,r 51 2 dD,r 53 4 dD⟩
structure MidOk (b:BatS):Prop where
 fit:∀x∈b.recs,x.R∧zBc x=0∧x.sum≤2000
 len:b.recs.length≤1000
 err:zAl b=0
 rng:b.R
 rows:b.rowsB.length≤2000
theorem zMy:∀(l:List RecS),2*l.length≤(l.flatMap encR).length
 |[]=>by simp
 |x::t=>by
  have h1:=zMy t
  have h2:2≤(encR x).length:=by
   have h3:=zI3 x.key;have h4:2≤(recF x).length:=by unfold recF;simp only[List.length_append,List.length_cons,List.length_nil];omega
   show 2≤(putU _++recF x).length
   rw[List.length_append]
   omega
  rw[List.flatMap_cons,List.length_append,List.length_cons]
  omega
theorem zq24{p:Prop}(h:p:=by
  obtain⟨h1,h2,h3,h4,h5⟩:=zJ7 h;obtain⟨x,hp,_,_,ha⟩:=zBI h;obtain⟨_,_,rs,_,_,hb⟩:=zHu ha;have hr:=zIN hp;have h6:=zMy b.recs;have h7:(b.recs.flatMap encR).length=b.rowsB.length:=rfl;refine⟨fun y hy=> ?_,oM,h2,?_,oM⟩
  · obtain⟨v1,v2,v3⟩:=h5 y hy;exact⟨v1,v2,oM⟩
  · rw[hb];exact hr):p:=h
theorem MidOk.of{s:Bs}{b:BatS}{n:Nat}(h:zBd s=.ok (b,n))(hl:s.length≤1500):MidOk b:=by
 exact zq24
set_option maxRecDepth 1000000
structure EncOk (b:BatS):Prop where
 rows:b.rowsB.length≤400000
 len:b.recs.length≤1000
 err:zAl b=0
 rng:b.R
 recs:∀x∈b.recs,x.R∧zBc x=0∧x.sum≤1000000
theorem EncOk.mid{b:BatS}(h:MidOk b):EncOk b:=⟨by have:=h.rows;omega,h.len,h.err,h.rng,fun x hx=>⟨(h.fit x hx).1,(h.fit x hx).2.1,by have:=(h.fit x hx).2.2;omega⟩⟩
theorem EncOk.small{b:BatS}(h:SmallOk b):EncOk b:=⟨h.rows,by have:=h.len;omega,h.err,h.rng,h.recs⟩
theorem zIw(b:BatS)(s:Bs)(hs:b.enc=s)(l:List (RecS×Value))(q:Option Addr)(cap:Nat)(hl:l.map (·.1)=b.recs)(so:EncOk b){W0 w:World}{K:Know}{L:List Res}(hk:K.has (Know.recs (.slice q l.length cap) l))(h:St W0 w K L):
 Calls Tryz.prog 50 #[.agg #[.int .i64 b.base,.int .i64 b.leader,.bool b.app,.bool b.txn,.bool b.ctl,.int .i64 b.last,.int .i64 b.first,.int .i64 b.maxt,.int .i64 b.prod,.int .i64 b.epoch,.int .i64 b.seq,.slice q l.length cap]] w fun en w'=>en=.returned (.string (bb s))∧St W0 w' K L:=by
 obtain⟨hb,hhb⟩:∃b,w.heap.size=b:=⟨_,rfl⟩;have h1:=h.allocRaw #[.int .i64 b.base,.int .i64 b.leader,.bool b.app,.bool b.txn,.bool b.ctl,.int .i64 b.last,.int .i64 b.first,.int .i64 b.maxt,.int .i64 b.prod,.int .i64 b.epoch,.int .i64 b.seq,.slice q l.length cap] 58;rw[hhb]at h1;obtain⟨x0,x1,x2,x3,x4,x5,x6,x7,x8,x9,x10,x11,y0,y1,y2,y3,y4,y5,y6,y7,y8,y9,y10,y11⟩:=zAe (b:=hb) (h1);have H:=hQd h1;have HK:=hQd hk;have hrn:=so.rows;have hre:zBa l=b.rowsB:=by rw[zEa,hl];rfl
 obtain⟨rows,hrows⟩:∃r,b.rowsB=r:=⟨_,rfl⟩;have hcr:=b.crc_lt;have hln:=so.len;obtain⟨at_,hat⟩:∃a,zA7 b.app b.txn b.ctl 3=a:=⟨_,rfl⟩;obtain⟨x,hx⟩:∃x,b.crc=x:=⟨_,rfl⟩;obtain⟨said0,hs0⟩:∃t,zAo (b.pre 0).items=t:=⟨_,rfl⟩;obtain⟨said1,hs1⟩:∃t,zAo (b.pre x).items=t:=⟨_,rfl⟩;obtain⟨all0,ha0⟩:∃t,b.back++b.rowsB=t:=⟨_,rfl⟩;have hbl:b.back.length=40:=by unfold BatS.back;rw[zCa];rfl
 obtain⟨back,hbk⟩:∃t,b.back=t:=⟨_,rfl⟩;have hl0:said0.length=61:=by rw[←hs0];exact zBq _
 have hl1:said1.length=61:=by rw[←hs1];exact zBq _
 have HRW:=hQd hrows;have HN:=hQd (show b.recs.length=l.length by rw[←hl,List.length_map]);have AT:=hQd hat;have HS0:=hQd hs0;have HS1:=hQd hs1;have HF0:=hQd (BatS.fitsAll so.err so.rng 0 oM oM oM);have HR0:=hQd (BatS.pre_R so.err so.rng 0 oM oM oM);have HF1:=hQd (BatS.fitsAll so.err so.rng x oM oM oM);have HR1:=hQd (BatS.pre_R so.err so.rng x oM oM oM);have HX:=hQd (show(zAm 0#32 all0).toNat=x by rw[←ha0,←hx];rfl);have HA0:=hQd (show all0.length≤1000000 by rw[←ha0,List.length_append];omega)
 have hT:List.take (said0.length - 21) (List.drop 21 said0)=back:=by
  rw[List.take_of_length_le (by rw[List.length_drop];omega),←hs0,b.pre_drop,hbk]
 have hcat0:bb back++bb rows=bb all0:=by rw[←ha0,←hbk,←hrows];exact zBb _ _
 have hcat1:bb said1++bb rows=bb s:=by
  rw[←hs,←hs1,←hrows,←hx];exact zBb _ _
 have hrl:rows.length≤400000:=by rw[←hrows];exact hrn
 have hg0:¬(9223372036854775807<back.length+rows.length):=by rw[←hbk];omega
 have hg1:¬(9223372036854775807<said1.length+rows.length):=by omega
 have l21:(21:Int)≤(said0.length:Int):=by omega
 have l21':21≤said0.length:=by omega
 have hne:¬(said0=[]):=by intro hh;rw[hh]at hl0;simp at hl0
 have w1:IntKind.i64.wrap (49+(rows.length:Int))=49+(rows.length:Int):=IntWalk.i64_in _ oM;have w1':wrap64 (49+(rows.length:Int))=49+(rows.length:Int):=by unfold wrap64;omega
 have w2:IntKind.i64.wrap (x:Int)=(x:Int):=IntWalk.i64_in _ oM;have w2':wrap64 (x:Int)=(x:Int):=by unfold wrap64;omega
 have HRE:=hQd (hre.trans hrows)
 have HXS:=hQd (show ∀y∈l,y.1.R∧y.1.sum≤1000000 from fun y hy=>by
  have hm:y.1∈b.recs:=hl ▸ List.mem_map_of_mem hy;have:=so.recs y.1 hm
  exact⟨this.1,this.2.2⟩)
 have HLN:=hQd (show l.length≤1000 by have h9:=congrArg List.length hl;rw[List.length_map]at h9;omega);have HRN:=hQd hrl;clear h h1 hk hrn hre hrows hcr hln hat hx hs0 hs1 ha0 hbl hbk hl0 hl1 hl hs so;have HG0:=hQd (And.intro hT (And.intro hcat0 (And.intro hg0 (And.intro l21 (And.intro l21' hne)))));have HG1:=hQd (And.intro hcat1 hg1);have HW:=hQd (And.intro w1 (And.intro w1' (And.intro w2 w2')));clear hT hcat0 hg0 l21 l21' hne hcat1 hg1 w1 w1' w2 w2' hrl;go_enter Tryz.func50,Tryz.ntmps50;go_wp2;go_loopw [3,4] (fun sv iv wr=>∃k:Nat,k≤l.length∧iv=.int .i64 k∧sv=.string (bb (zBa (l.take k)))∧St W0 wr K (.raw hb #[.int .i64 b.base,.int .i64 b.leader,.bool b.app,.bool b.txn,.bool b.ctl,.int .i64 b.last,.int .i64 b.first,.int .i64 b.maxt,.int .i64 b.prod,.int .i64 b.epoch,.int .i64 b.seq,.slice q l.length cap] 58::L)) (fun _ iv _=>l.length - (intOf iv).toNat)
 case atStart=>exact⟨0,Nat.zero_le _,rfl,rfl,H.out⟩
 case round=>
  obtain⟨k,hkl,rfl,rfl,hst⟩:=hrel;clear H x0 x1 x2 x3 x4 x5 x6 x7 x8 x9 x10 x11 y0 y1 y2 y3 y4 y5 y6 y7 y8 y9 y10 y11;have H:=hQd hst;clear hst
  by_cases hlt:k<l.length
  ·as_aux_lemma=>
   have het:=zHi l k hlt
   have hpl:(zBa (l.take k)).length≤rows.length:=by
    rw[←HRE.out]
    conv=>rhs;rw[←List.take_append_drop k l]
    unfold zBa;rw[List.flatMap_append,List.length_append]
    omega
   have hpl2:(zBa (l.take (k+1))).length≤rows.length:=by
    rw[←HRE.out]
    conv=>rhs;rw[←List.take_append_drop (k+1) l]
    unfold zBa;rw[List.flatMap_append,List.length_append]
    omega
   obtain⟨b0,off,hqq⟩:=zCB HK.out H.out oM;subst hqq;obtain⟨⟨x,vx⟩,hx⟩:∃x,l[k]=x:=⟨_,rfl⟩;have cc:=zA2 HK.out H.out k hlt (x,vx) hx;have hmem:(x,vx)∈l:=hx ▸ List.getElem_mem hlt;have XF:=HXS.out (x,vx) hmem;have XF1:=hQd XF.1;have XF2:=hQd XF.2;clear XF;have xk:K.has (Know.flat RHdr vx 3 x.hdrs):=zBn HK.out hmem;obtain⟨qx,capx,hvx⟩:=zAq xk H.out;subst hvx;have XK:=hQd xk;simp only at cc;obtain⟨c0,c1,c2,c3,c4,c5,c6⟩:=cc;rw[←Nat.add_assoc]at c1 c2 c3 c4 c5 c6;obtain⟨sx,hsx⟩:∃t,encR x=t:=⟨_,rfl⟩;have HSX:=hQd hsx;rw[hx]at het;simp only[hsx]at het;obtain⟨pre,hpre⟩:∃t,zBa (l.take k)=t:=⟨_,rfl⟩;obtain⟨nxt,hnxt⟩:∃t,zBa (l.take (k+1))=t:=⟨_,rfl⟩;rw[hpre]at het hpl ⊢;rw[hnxt]at het hpl2;have HNXT:=hQd hnxt;have hcat:bb pre++bb sx=bb nxt:=by rw[het];exact zBb _ _
   have hg:¬(9223372036854775807<pre.length+sx.length):=by
    have h1:=HRN.out;have h2:=congrArg List.length het;rw[List.length_append]at h2
    omega
   have hki:(k:Int)<(l.length:Int):=by omega
   have hl12:(l.length:Int)≤1000:=by have:=HLN.out;omega
   obtain⟨x0,x1,x2,x3,x4,x5,x6,x7,x8,x9,x10,x11,y0,y1,y2,y3,y4,y5,y6,y7,y8,y9,y10,y11⟩:=zAe (b:=hb) (H.out);clear xk hmem hx hsx het hpl hpl2 hpre hnxt;go_wp2_with (go_at_call 81;(with_reducible refine(zLu x (.slice qx x.hdrs.length capx) sx HSX.out XF1.out XF2.out XK.out H.out).zM ?_);clear H;intro wn H);go_roundw
   case rel=>exact⟨k+1,hlt,by go_num,by rw[HNXT.out],H.out⟩
   case measure=>first|(simp[intOf];done)|(simp[intOf];omega)
  ·obtain rfl:k=l.length:=by omega
   rw[List.take_length,HRE.out];have w1:=HW.out.1;obtain⟨x0,x1,x2,x3,x4,x5,x6,x7,x8,x9,x10,x11,y0,y1,y2,y3,y4,y5,y6,y7,y8,y9,y10,y11⟩:=zAe (b:=hb) (H.out);go_upto_region 6 with (fail);clear x0 x1 x2 x3 x4 x5 x6 x7 x8 x9 x10 x11 y0 y1 y2 y3 y4 y5 y6 y7 y8 y9 y10 y11;go_cut [5] (fun s5 wx=>s5=.string (bb said0)∧St W0 wx K (.raw hb #[.int .i64 b.base,.int .i64 b.leader,.bool b.app,.bool b.txn,.bool b.ctl,.int .i64 b.last,.int .i64 b.first,.int .i64 b.maxt,.int .i64 b.prod,.int .i64 b.epoch,.int .i64 b.seq,.slice q l.length cap] 58::L))
   case first=>
    as_aux_lemma=>
    have hs:=H.out.drew;refine wp_region_held_drew (S:=fun w'=>w'.cell? ⟨hb,0,none⟩=some (.int .i64 b.base)∧w'.cell? ⟨hb,1,none⟩=some (.int .i64 b.leader)∧w'.cell? ⟨hb,2,none⟩=some (.bool b.app)∧w'.cell? ⟨hb,3,none⟩=some (.bool b.txn)∧w'.cell? ⟨hb,4,none⟩=some (.bool b.ctl)∧w'.cell? ⟨hb,5,none⟩=some (.int .i64 b.last)∧w'.cell? ⟨hb,6,none⟩=some (.int .i64 b.first)∧w'.cell? ⟨hb,7,none⟩=some (.int .i64 b.maxt)∧w'.cell? ⟨hb,8,none⟩=some (.int .i64 b.prod)∧w'.cell? ⟨hb,9,none⟩=some (.int .i64 b.epoch)∧w'.cell? ⟨hb,10,none⟩=some (.int .i64 b.seq)∧w'.cell? ⟨hb,11,none⟩=some (.slice q l.length cap)) (by kernel_rfl) (let ⟨x0,x1,x2,x3,x4,x5,x6,x7,x8,x9,x10,x11,_⟩:=zAe (b:=hb) (hs);⟨x0,x1,x2,x3,x4,x5,x6,x7,x8,x9,x10,x11⟩) (fun hHeld=> ?_);refine tR 0 ?_;refine tR 1 ?_;refine tR 2 ?_;refine tR 3 ?_;refine tR 4 ?_;refine tR 5 ?_;refine tR 6 ?_;refine tR 7 ?_;refine tR 9 ?_;refine tR 10 ?_;refine tR 11 ?_;refine tR 12 ?_;refine tR 13 ?_;refine tR 14 ?_;refine tR 15 ?_;refine tR 16 ?_;refine tR 17 ?_;refine tR 18 ?_;refine tR 19 ?_;refine tR 20 ?_;refine tR 21 ?_;refine tR 22 ?_;refine tR 23 ?_;refine wR [8] (rC rfl (fun KK hK=> ?_) rN);go_simp;go_at_call 83;with_reducible refine(zHO b.base b.leader b.app b.txn b.ctl b.last b.first b.maxt b.prod b.epoch b.seq (.slice q l.length cap) at_ AT.out hs).mono ?_;rintro e wq ⟨rfl,hs⟩;refine hK.out _ _ (let ⟨x0,x1,x2,x3,x4,x5,x6,x7,x8,x9,x10,x11,_⟩:=zAe (b:=hb) (hs);⟨x0,x1,x2,x3,x4,x5,x6,x7,x8,x9,x10,x11⟩) (fun hHeld=> ?_);clear hK KK
    try simp only[Act.put,sA,sB,sC]
    refine wR [24] (rC rfl (fun KK hK=> ?_) rN);rw[if_pos (by rfl)];refine zF6 (v:=.slice (some ⟨wq.heap.size,0,none⟩) 12 12) (w':=wq.alloc (.cells #[.int .i64 b.base,.int .i64 (49+rows.length),.int .i64 b.leader,.int .i64 0,.int .i64 at_,.int .i64 b.last,.int .i64 b.first,.int .i64 b.maxt,.int .i64 b.prod,.int .i64 b.epoch,.int .i64 b.seq,.int .i64 l.length] 3 (0,0))) (zH6 #[(0,.int .i64 b.base),(1,.int .i64 (49+rows.length)),(2,.int .i64 b.leader),(3,.int .i64 0),(4,.int .i64 at_),(5,.int .i64 b.last),(6,.int .i64 b.first),(7,.int .i64 b.maxt),(8,.int .i64 b.prod),(9,.int .i64 b.epoch),(10,.int .i64 b.seq),(11,.int .i64 l.length)] _ _ _ (by kernel_rfl) (zPA (b.base) ((49+rows.length)) (b.leader) (0) (at_) (b.last) (b.first) (b.maxt) (b.prod) (b.epoch) (b.seq) (l.length) wq)) ?_;obtain⟨wy,bS,ey,eb,hs⟩:=hs.allocEx #[.int .i64 b.base,.int .i64 (49+rows.length),.int .i64 b.leader,.int .i64 0,.int .i64 at_,.int .i64 b.last,.int .i64 b.first,.int .i64 b.maxt,.int .i64 b.prod,.int .i64 b.epoch,.int .i64 b.seq,.int .i64 l.length] 3;rw[ey,eb];clear ey eb;refine hK.out _ _ (let ⟨x0,x1,x2,x3,x4,x5,x6,x7,x8,x9,x10,x11,_⟩:=zAe (b:=hb) (hs.p1);⟨x0,x1,x2,x3,x4,x5,x6,x7,x8,x9,x10,x11⟩) (fun hHeld=> ?_);clear hK KK
    try simp only[Act.put,sA,sB,sC]
    refine wR [25] (rC rfl (fun KK hK=> ?_) rN);go_simp;go_at_call 82;with_reducible refine(zJT bS b 0 rows HRW.out at_ AT.out l.length HN.out said0 HS0.out HF0.out HR0.out hs).mono ?_;rintro e wq ⟨rfl,hs⟩;refine hK.out _ _ (let ⟨x0,x1,x2,x3,x4,x5,x6,x7,x8,x9,x10,x11,_⟩:=zAe (b:=hb) (hs.p1);⟨x0,x1,x2,x3,x4,x5,x6,x7,x8,x9,x10,x11⟩) (fun hHeld=> ?_);clear hK KK
    try simp only[Act.put,sA,sB,sC]
    have hs:=hs.drop;refine tR 26 ?_;refine tR 27 ?_;refine tR 28 ?_;refine tR 29 ?_;refine tR 30 ?_;refine wpAnyH_done (by kernel_rfl) ?_ _;clear hHeld;go_wp2_with fail;go_meet;exact⟨rfl,hs⟩
   case rest=>
    obtain⟨rfl,h⟩:=hcut;clear H;have H:=hQd h;clear h;obtain⟨hT,hcat0,hg0,l21,l21',hne⟩:=HG0.out;have w2:=HW.out.2.2.1;go_upto_region 8 with (go_at_call 84;(with_reducible refine(zE5 all0 HA0.out x HX.out H.out).zM ?_);clear H;intro wn H);clear w2 hT hcat0 hg0 l21 l21' hne;go_cut [8] (fun s8 wx=>s8=.string (bb said1)∧St W0 wx K (.raw hb #[.int .i64 b.base,.int .i64 b.leader,.bool b.app,.bool b.txn,.bool b.ctl,.int .i64 b.last,.int .i64 b.first,.int .i64 b.maxt,.int .i64 b.prod,.int .i64 b.epoch,.int .i64 b.seq,.slice q l.length cap] 58::L))
    case first=>
     have hs:=H.out.drew;refine wp_region_held_drew (S:=fun w'=>w'.cell? ⟨hb,0,none⟩=some (.int .i64 b.base)∧w'.cell? ⟨hb,1,none⟩=some (.int .i64 b.leader)∧w'.cell? ⟨hb,2,none⟩=some (.bool b.app)∧w'.cell? ⟨hb,3,none⟩=some (.bool b.txn)∧w'.cell? ⟨hb,4,none⟩=some (.bool b.ctl)∧w'.cell? ⟨hb,5,none⟩=some (.int .i64 b.last)∧w'.cell? ⟨hb,6,none⟩=some (.int .i64 b.first)∧w'.cell? ⟨hb,7,none⟩=some (.int .i64 b.maxt)∧w'.cell? ⟨hb,8,none⟩=some (.int .i64 b.prod)∧w'.cell? ⟨hb,9,none⟩=some (.int .i64 b.epoch)∧w'.cell? ⟨hb,10,none⟩=some (.int .i64 b.seq)∧w'.cell? ⟨hb,11,none⟩=some (.slice q l.length cap)) (by kernel_rfl) (let ⟨x0,x1,x2,x3,x4,x5,x6,x7,x8,x9,x10,x11,_⟩:=zAe (b:=hb) (hs);⟨x0,x1,x2,x3,x4,x5,x6,x7,x8,x9,x10,x11⟩) (fun hHeld=> ?_);refine tR 0 ?_;refine tR 1 ?_;refine tR 2 ?_;refine tR 3 ?_;refine tR 4 ?_;refine tR 5 ?_;refine tR 6 ?_;refine tR 7 ?_;refine tR 8 ?_;refine tR 10 ?_;refine tR 11 ?_;refine tR 12 ?_;refine tR 13 ?_;refine tR 14 ?_;refine tR 15 ?_;refine tR 16 ?_;refine tR 17 ?_;refine tR 18 ?_;refine tR 19 ?_;refine tR 20 ?_;refine tR 21 ?_;refine tR 22 ?_;refine tR 23 ?_;refine tR 24 ?_;refine wR [9] (rC rfl (fun KK hK=> ?_) rN);go_simp;go_at_call 83;with_reducible refine(zHO b.base b.leader b.app b.txn b.ctl b.last b.first b.maxt b.prod b.epoch b.seq (.slice q l.length cap) at_ AT.out hs).mono ?_;rintro e wq ⟨rfl,hs⟩;refine hK.out _ _ (let ⟨x0,x1,x2,x3,x4,x5,x6,x7,x8,x9,x10,x11,_⟩:=zAe (b:=hb) (hs);⟨x0,x1,x2,x3,x4,x5,x6,x7,x8,x9,x10,x11⟩) (fun hHeld=> ?_);clear hK KK
     try simp only[Act.put,sA,sB,sC]
     refine wR [25] (rC rfl (fun KK hK=> ?_) rN);rw[if_pos (by rfl)];refine zF6 (v:=.slice (some ⟨wq.heap.size,0,none⟩) 12 12) (w':=wq.alloc (.cells #[.int .i64 b.base,.int .i64 (49+rows.length),.int .i64 b.leader,.int .i64 (x:Int),.int .i64 at_,.int .i64 b.last,.int .i64 b.first,.int .i64 b.maxt,.int .i64 b.prod,.int .i64 b.epoch,.int .i64 b.seq,.int .i64 l.length] 3 (0,0))) (zH6 #[(0,.int .i64 b.base),(1,.int .i64 (49+rows.length)),(2,.int .i64 b.leader),(3,.int .i64 (x:Int)),(4,.int .i64 at_),(5,.int .i64 b.last),(6,.int .i64 b.first),(7,.int .i64 b.maxt),(8,.int .i64 b.prod),(9,.int .i64 b.epoch),(10,.int .i64 b.seq),(11,.int .i64 l.length)] _ _ _ (by kernel_rfl) (zPA (b.base) ((49+rows.length)) (b.leader) ((x:Int)) (at_) (b.last) (b.first) (b.maxt) (b.prod) (b.epoch) (b.seq) (l.length) wq)) ?_;obtain⟨wy,bS,ey,eb,hs⟩:=hs.allocEx #[.int .i64 b.base,.int .i64 (49+rows.length),.int .i64 b.leader,.int .i64 (x:Int),.int .i64 at_,.int .i64 b.last,.int .i64 b.first,.int .i64 b.maxt,.int .i64 b.prod,.int .i64 b.epoch,.int .i64 b.seq,.int .i64 l.length] 3;rw[ey,eb];clear ey eb;refine hK.out _ _ (let ⟨x0,x1,x2,x3,x4,x5,x6,x7,x8,x9,x10,x11,_⟩:=zAe (b:=hb) (hs.p1);⟨x0,x1,x2,x3,x4,x5,x6,x7,x8,x9,x10,x11⟩) (fun hHeld=> ?_);clear hK KK
     try simp only[Act.put,sA,sB,sC]
     refine wR [26] (rC rfl (fun KK hK=> ?_) rN);go_simp;go_at_call 82;with_reducible refine(zJT bS b (x:Int) rows HRW.out at_ AT.out l.length HN.out said1 HS1.out HF1.out HR1.out hs).mono ?_;rintro e wq ⟨rfl,hs⟩;refine hK.out _ _ (let ⟨x0,x1,x2,x3,x4,x5,x6,x7,x8,x9,x10,x11,_⟩:=zAe (b:=hb) (hs.p1);⟨x0,x1,x2,x3,x4,x5,x6,x7,x8,x9,x10,x11⟩) (fun hHeld=> ?_);clear hK KK
     try simp only[Act.put,sA,sB,sC]
     have hs:=hs.drop;refine tR 27 ?_;refine tR 28 ?_;refine tR 29 ?_;refine tR 30 ?_;refine tR 31 ?_;refine wpAnyH_done (by kernel_rfl) ?_ _;clear hHeld;go_wp2_with fail;go_meet;exact⟨rfl,hs⟩
    case rest=>
     obtain⟨rfl,h⟩:=hcut;clear H;have H:=hQd h;clear h;obtain⟨hcat1,hg1⟩:=HG1.out;go_wp2_with (fail);go_ret;exact⟨rfl,H.out.drop⟩
theorem zBi{α β:Type}(f:α→β)(l:List α)(k:Nat)(h:k<l.length)(x:β)(hx:f l[k]=x):(l.map f).take (k+1)=(l.map f).take k++[x]:=by
 have h2:k<(l.map f).length:=by simpa using h
 rw[List.take_succ_eq_append_getElem h2,List.getElem_map,hx]
theorem zCR{α β:Type}(f:α→β)(l m:List α)(k:Nat)(h1:k<l.length)(h2:k<m.length)(x y:β)(hx:f l[k]=x)(hy:f m[k]=y)(h:x≠y):l.map f≠m.map f:=by
 intro he
 apply h
 have e1:(l.map f)[k]? =some x:=by rw[List.getElem?_map,List.getElem?_eq_getElem h1];simp[hx]
 have e2:(m.map f)[k]? =some y:=by rw[List.getElem?_map,List.getElem?_eq_getElem h2];simp[hy]
 rw[he,e2]at e1
 simpa using e1.symm
theorem zD8{α β:Type}(f:α→β)(l m:List α)(h:l.length≠m.length):l.map f≠m.map f:=fun hh=>h (by have:=congrArg List.length hh;simpa using this)
structure EqR (x:BatR):Prop where
 len:x.l.length≤1000000
 recs:x.l.map (·.1)=x.b.recs
 hdrs:∀y∈x.l,y.1.hdrs.length≤9223372036854775807
def SmP (y:PartR):Prop:=∀z∈y.l,zCy (z.l.map (·.1))=true
def SmT (x:PTop):Prop:=∀y∈x.l,SmP y
def zCV:List PartR→Nat
 |[]=>0
 |y::t=>10+100*y.l.length+zCV t
def zCh:List PTop→Nat
 |[]=>0
 |x::t=>x.name.length+10+zCV x.l+zCh t
theorem zJB(l m:List PartR):zCV (l++m)=zCV l+zCV m:=by
 induction l with
 |nil=>simp[zCV]
 |cons x t ih=>simp only[List.cons_append,zCV,ih];omega
theorem zJy(l m:List PTop):zCh (l++m)=zCh l+zCh m:=by
 induction l with
 |nil=>simp[zCh]
 |cons x t ih=>simp only[List.cons_append,zCh,ih];omega
def AllP (l:List PTop):Prop:=∀x∈l,x.l.length≠0
def FewI20 (dl:Nat) (l:List PTop) (k:Nat) (z:Int):Prop:=
 (∀x∈l.take k,SmT x)∧(∀j,j≤k→AllP (l.take j)→j=0∨dl+zCh (l.take j)≤2000)∧(AllP (l.take k)→z=dl+zCh (l.take k))
def FewJ (dl:Nat) (l:List PTop) (k:Nat) (x:PTop) (j:Nat) (z:Int):Prop:=
 (∀y∈x.l.take j,SmP y)∧(AllP (l.take k)→z=dl+zCh (l.take k)+x.name.length+10+zCV (x.l.take j)∧(j=0∨z≤2000))
def FewR (dl:Nat) (l:List PTop) (r:Int):Prop:=
 r=0∨(r=1∧(∀x∈l,SmT x)∧(∀j,j≤l.length→AllP (l.take j)→j=0∨dl+zCh (l.take j)≤2000)∧(l=[]→dl≤2000))
theorem FewI20.zero(dl:Nat)(l:List PTop):FewI20 dl l 0 dl:=by
 refine⟨fun x hx=>by simp at hx,fun j hj _=> .inl oM,fun _=>by simp[zCh]⟩
theorem FewI20.bound{dl:Nat}{l:List PTop}{k:Nat}{z:Int}(h:FewI20 dl l k z)(hd:dl≤140737488351232)(ha:AllP (l.take k)):0≤z∧z≤140737488351232:=by
 have e:=h.2.2 ha
 rcases h.2.1 k (Nat.le_refl _) ha with h0|h0
 ·subst h0;simp[zCh]at e
  omega
 ·omega
theorem FewJ.zero{dl:Nat}{l:List PTop}{k:Nat}{z z2:Int}(x:PTop)(h:FewI20 dl l k z)(hd:dl≤140737488351232)(hn:x.name.length≤140737488351232)(hw: -9223372036854775808≤z+((x.name.length:Int)+10)→z+((x.name.length:Int)+10)<9223372036854775808→z2=z+((x.name.length:Int)+10)):FewJ dl l k x 0 z2:=by
 refine⟨fun y hy=>by simp at hy,fun ha=> ?_⟩;obtain⟨b1,b2⟩:=h.bound hd ha;have e:=h.2.2 ha;have e2:=hw oM oM;refine⟨?_,.inl rfl⟩;simp[zCV]
 omega
theorem FewJ.step{dl:Nat}{l:List PTop}{k:Nat}{z0 z z2:Int}{x:PTop}{j:Nat}(y:PartR)(hI:FewI20 dl l k z0)(h:FewJ dl l k x j z)(hj:j<x.l.length)(hy:x.l[j]=y)(hd:dl≤140737488351232)(hn:x.name.length≤140737488351232)(hb:y.l.length≤1466015503701)(hs:SmP y)(hw: -9223372036854775808≤z+(10+100*(y.l.length:Int))→z+(10+100*(y.l.length:Int))<9223372036854775808→z2=z+(10+100*(y.l.length:Int)))(h2:z2≤2000):FewJ dl l k x (j+1) z2:=by
 have et:x.l.take (j+1)=x.l.take j++[y]:=by rw[List.take_succ_eq_append_getElem hj,hy]
 refine⟨fun v hv=> ?_,fun ha=> ?_⟩
 ·rw[et]at hv
  rcases List.mem_append.1 hv with hv|hv
  ·exact h.1 v hv
  ·rw[List.mem_singleton.1 hv];exact hs
 ·obtain⟨e1,e2⟩:=h.2 ha;obtain⟨b1,b2⟩:=hI.bound hd ha;have e3:=hI.2.2 ha
  have hz:0≤z∧z≤300000000000000:=by
   rcases e2 with h0|h0
   ·subst h0;simp[zCV]at e1
    omega
   ·omega
  have e4:=hw oM oM;refine⟨?_,.inr h2⟩;rw[et,zJB];simp only[zCV]
  omega
theorem FewI20.step{dl:Nat}{l:List PTop}{k:Nat}{z0 z:Int}(x:PTop)(hI:FewI20 dl l k z0)(h:FewJ dl l k x x.l.length z)(hk:k<l.length)(hx:l[k]=x):FewI20 dl l (k+1) z:=by
 have et:l.take (k+1)=l.take k++[x]:=by rw[List.take_succ_eq_append_getElem hk,hx]
 have hs:=h.1;rw[List.take_length]at hs
 have hall:AllP (l.take (k+1))→z=dl+zCh (l.take (k+1))∧z≤2000:=by
  intro ha;rw[et]at ha;have ha1:AllP (l.take k):=fun v hv=>ha v (List.mem_append_left _ hv)
  have ha2:x.l.length≠0:=ha x (List.mem_append_right _ (List.mem_singleton.2 rfl));obtain⟨e1,e2⟩:=h.2 ha1;rw[List.take_length]at e1;refine⟨?_,by rcases e2 with h0|h0;exact absurd h0 ha2;exact h0⟩;rw[et,zJy];simp only[zCh]
  omega
 refine⟨fun v hv=> ?_,fun j hj ha=> ?_,fun ha=>(hall ha).1⟩
 ·rw[et]at hv
  rcases List.mem_append.1 hv with hv|hv
  ·exact hI.1 v hv
  ·rw[List.mem_singleton.1 hv];exact hs
 ·by_cases hjk:j≤k
  ·exact hI.2.1 j hjk ha
  ·obtain rfl:j=k+1:=by omega
   obtain⟨e1,e2⟩:=hall ha
   right;omega
theorem FewI20.done{dl:Nat}{l:List PTop}{z:Int}(h:FewI20 dl l l.length z)(hz:¬2000<z):FewR dl l 1:=by
 refine .inr ⟨rfl,by have:=h.1;rwa [List.take_length]at this,h.2.1,fun h0=> ?_⟩;subst h0;have e:=h.2.2 (by intro x hx;simp at hx);simp[zCh]at e
 omega
structure FewPt (y:PartR):Prop where
 len:y.l.length≤1466015503701
 fit:∀z∈y.l,z.Fit
structure FewT20 (x:PTop):Prop where
 name:x.name.length≤140737488351232
 len:x.l.length≤4398046511104
 parts:∀y∈x.l,FewPt y
theorem EqR.of{z:BatR}(hf:z.Fit)(hs:zCy (z.l.map (·.1))=true)(hh:∀y∈z.l,y.1.hdrs.length≤9223372036854775807):EqR z:=⟨by have:=zEW hs;omega,hf.2.2,hh⟩
def PTop.ts (x:PTop):TopS:=⟨x.name,x.l.map PartR.idx⟩
theorem zMz{α:Type}{R:List Value→α→Prop}{sz:Nat}(l:List α)(f:α→List Value)(hf:∀x∈l,(f x).length=sz∧R (f x) x){w:World}{v:Value}{T:TypeId}{n:Nat}{xs:List Value}(hn:n=l.length)(hx:xs=l.flatMap f)(S1:Nat→Prop)(h1:(Res.row v T sz n xs).holds w S1):(Know.flat R v sz l).p w S1:=by
 subst hn;subst hx;obtain⟨⟨g1,g2⟩,g3⟩:=h1
 rcases g2 with ⟨rfl,h0⟩|⟨g,cap,cur,rfl,_,hg,hn,hcm,hcs,htake⟩
 ·exact⟨none,0,by rw[h0],fun hh=>absurd hh oM⟩
 ·have hS:S1 g:=(g3 g).2 rfl;have hlt:=zBy hg;refine⟨_,cap,rfl,fun _=>⟨g,0,rfl,hS,hlt,fun i hi=> ?_⟩⟩;obtain⟨h2,h3⟩:=hf l[i] (List.getElem_mem hi);refine⟨f l[i],h2,h3,fun q u hu=> ?_⟩;rw[zAS hg,Nat.zero_add];have hq:q<sz:=by rw[←h2];exact(List.getElem?_eq_some_iff.1 hu).1
  exact zq31
theorem zCs{α:Type}(l m:List α)(d:α)(k:Nat)(h:k<l.length):(l++m).getD k d=l.getD k d:=by
 rw[List.getD_eq_getElem?_getD,List.getD_eq_getElem?_getD,List.getElem?_append_left h]
theorem zFd{α:Type}(l:List α)(x d:α)(k:Nat)(h:k=l.length):(l++[x]).getD k d=x:=by
 subst h;rw[List.getD_eq_getElem?_getD,List.getElem?_append_right (Nat.le_refl _),Nat.sub_self]
 rfl
theorem zPS{α:Type}{P:List α→Prop}(h0:P [])(h1:∀t x,P t→P (t++[x])):∀l,P l:=by
 intro l;rw[←List.reverse_reverse l]
 induction l.reverse with
 |nil=>exact h0
 |cons x t ih=>rw[List.reverse_cons];exact h1 _ _ ih
def zQ0 (n:Int):List Value:=[.int .i64 n]
theorem zKO:zEd Tryz.prog 129 (.agg #[.string ⟨#[]⟩,.slice none 0 0]) 2 40:=zBT (by kernel_rfl) rfl dD
theorem zPq:zEd Tryz.prog 3 (.int .i64 0) 1 8:=zBT (by kernel_rfl) rfl dD
theorem St.freezeInts{W0 w:World}{K:Know}{L:List Res}{v:Value}{T:TypeId}{k:Nat}{l:List Int}{xs:List Value}(h:St W0 w K (.row v T 1 k xs::L))(hk:k=l.length)(hx:xs=l.flatMap zQ0):St W0 w (K.and (Know.flat RI v 1 l)) L:=by
 subst hk;subst hx;exact h.freezeRow (R:=RI) (fun x _=>⟨rfl,rfl⟩)
theorem zK9{n:Nat}{p:Nat→Bool}:allN (n+1) p=(allN n p && p n):=by
 unfold allN;rw[List.range_succ,List.all_append]
 simp
theorem zNg(l:List TopS)(x:TopS):zEV (l++[x])=(zEV l && (tOk x && (l.isEmpty||Op.bytesLess ((l.map (·.name)).getD (l.length - 1) []) x.name))):=by
 unfold zEV zRc;rw[List.all_append,List.map_append,List.length_append,List.length_map,List.length_map]
 show((l.all tOk && [x].all tOk) && allN (l.length+1) (upS (l.map (·.name)++[x.name])))=_
 rw[zK9]
 have e1:allN l.length (upS (l.map (·.name)++[x.name]))=allN l.length (upS (l.map (·.name))):=by
  apply zJk
  intro k hk;unfold upS;rw[zCs _ _ _ _ (by rw[List.length_map];omega),zCs _ _ _ _ (by rw[List.length_map];omega)]
 have e2:upS (l.map (·.name)++[x.name]) l.length=(l.isEmpty||Op.bytesLess ((l.map (·.name)).getD (l.length - 1) []) x.name):=by
  unfold upS;rw[show(l.map (·.name)++[x.name]).getD l.length []=x.name from zFd _ _ _ _ (by rw[List.length_map])]
  cases l with
  |nil=>rfl
  |cons y t=>
   rw[zCs _ _ _ _ (by rw[List.length_map];simp)]
   rfl
 rw[e1,e2];simp only[List.all_cons,List.all_nil,Bool.and_true]
 cases l.all tOk<;>cases allN l.length (upS (l.map (·.name)))<;>cases tOk x<;>simp
theorem zNm(l:List PartR):∀(a:Int) (x:PartR),zBL a (l++[x])=(zBL a l && (decide (((l.map PartR.idx).getLast?.getD a)<x.idx) && decide (x.idx≤2147483647))):=by
 induction l with
 |nil=>intro a x;simp[zBL]
 |cons y t ih=>
  intro a x
  show(decide (a<y.idx) && decide (y.idx≤2147483647) && zBL y.idx (t++[x]))=_
  rw[ih]
  show _=((decide (a<y.idx) && decide (y.idx≤2147483647) && zBL y.idx t) && _)
  have e:(List.map PartR.idx (y::t)).getLast?.getD a=(List.map PartR.idx t).getLast?.getD y.idx:=by
   cases t with
   |nil=>rfl
   |cons z u=>simp[List.getLast?_cons]
  rw[e];simp only[Bool.and_assoc]
theorem zNn(l:List PartR):∀(a:Int),zBL a l=true→a≤(l.map PartR.idx).getLast?.getD a:=by
 induction l with
 |nil=>intro a _;exact Int.le_refl _
 |cons y t ih=>
  intro a h;have h:(decide (a<y.idx) && decide (y.idx≤2147483647) && zBL y.idx t)=true:=h;simp only[Bool.and_eq_true,decide_eq_true_eq]at h;have h2:=ih y.idx h.2
  have e:(List.map PartR.idx (y::t)).getLast?.getD a=(List.map PartR.idx t).getLast?.getD y.idx:=by
   cases t with
   |nil=>rfl
   |cons z u=>simp[List.getLast?_cons]
  rw[e]
  omega
theorem zPa(l:List Int)(h:l≠[])(a:Int):l.getD (l.length - 1) 0=l.getLast?.getD a:=by
 rw[List.getLast?_eq_getElem?,List.getD_eq_getElem?_getD];have:l.length - 1<l.length:=by have:=List.length_pos_iff.2 h;omega
 rw[List.getElem?_eq_getElem this]
 rfl
def zFz (l:List Int):Bool:=allN l.length (fun k=>decide (0≤l.getD k 0∧l.getD k 0≤2147483647) && upI l k)
theorem zLO(l:List Int)(x:Int):zFz (l++[x])=(zFz l && (decide (0≤x∧x≤2147483647) && (l.isEmpty||decide (l.getD (l.length - 1) 0<x)))):=by
 unfold zFz;rw[List.length_append]
 show allN (l.length+1) _=_
 rw[zK9]
 have e1:allN l.length (fun k=>decide (0≤(l++[x]).getD k 0∧(l++[x]).getD k 0≤2147483647) && upI (l++[x]) k)=allN l.length (fun k=>decide (0≤l.getD k 0∧l.getD k 0≤2147483647) && upI l k):=by
  apply zJk
  intro k hk;unfold upI;rw[zCs _ _ _ _ hk,zCs _ _ _ _ oM]
 have e2:(l++[x]).getD l.length 0=x:=zFd _ _ _ _ rfl
 have e3:upI (l++[x]) l.length=(l.isEmpty||decide (l.getD (l.length - 1) 0<x)):=by
  unfold upI;rw[e2]
  cases l with
  |nil=>rfl
  |cons y t=>
   rw[zCs _ _ _ _ (by simp)]
   rfl
 rw[e1,e3];simp only[e2]
theorem zJJ(l:List PartR):zBL (-1) l=zFz (l.map PartR.idx):=by
 refine zPS (P:=fun l=>zBL (-1) l=zFz (l.map PartR.idx)) rfl (fun t x ih=> ?_) l;rw[zNm,List.map_append]
 show _=zFz (t.map PartR.idx++[x.idx])
 rw[zLO,←ih]
 cases hr:zBL (-1) t with
 |false=>rfl
 |true=>
  have hl:=zNn t (-1) hr;simp only[Bool.true_and]
  by_cases h0:t=[]
  ·subst h0;simp only[List.map_nil,List.isEmpty_nil,Bool.true_or,Bool.and_true]
   show(decide ((-1:Int)<x.idx) && decide (x.idx≤2147483647))=decide (0≤x.idx∧x.idx≤2147483647)
   rw[Bool.eq_iff_iff];simp only[Bool.and_eq_true,decide_eq_true_eq]
   omega
  ·have hm:t.map PartR.idx≠[]:=by simpa using h0
   have hmE:(t.map PartR.idx).isEmpty=false:=by cases t with
    |nil=>exact absurd rfl h0
    |cons y u=>rfl
   rw[hmE,Bool.false_or,zPa _ hm (-1)];rw[Bool.eq_iff_iff];simp only[Bool.and_eq_true,decide_eq_true_eq]
   omega
theorem tOk_ts(x:PTop)(h:x.l.length≠0):tOk x.ts=(zAv x.name && zBL (-1) x.l):=by
 rw[zJJ];unfold tOk zAv PTop.ts;simp only
 have e:zNN (x.l.map PartR.idx)=zFz (x.l.map PartR.idx):=by
  unfold zNN zFz
  have:(x.l.map PartR.idx).isEmpty=false:=by
   cases hx:x.l with
   |nil=>rw[hx]at h;exact absurd rfl h
   |cons y t=>rfl
  rw[this]
  rfl
 rw[e]
def zHv (l:List TopS):Bs:=(l.map (·.name)).getD (l.length - 1) []
theorem zJc(s:Bs):Op.bytesLess [] s= !s.isEmpty:=by cases s<;>rfl
theorem zPP(l:List TopS)(x:PTop)(h:x.l.length≠0)(hl:zEV l=true):zEV (l++[x.ts])=(zAv x.name && Op.bytesLess (zHv l) x.name && zBL (-1) x.l):=by
 rw[zNg,hl,Bool.true_and,tOk_ts x h]
 show((zAv x.name && zBL (-1) x.l) && (l.isEmpty||Op.bytesLess (zHv l) x.name))=_
 cases l with
 |nil=>
  show((zAv x.name && zBL (-1) x.l) && true)=(zAv x.name && Op.bytesLess [] x.name && zBL (-1) x.l)
  rw[zJc];unfold zAv
  cases x.name.isEmpty<;>simp
 |cons y t=>
  simp only[List.isEmpty_cons,Bool.false_or]
  cases zAv x.name<;>cases zBL (-1) x.l<;>simp
theorem zMi(l:List TopS)(x:PTop):zHv (l++[x.ts])=x.name:=by
 unfold zHv;rw[List.map_append,List.length_append]
 show((l.map (·.name))++[x.ts.name]).getD (l.length+1 - 1) []=_
 exact zFd _ _ _ _ (by rw[List.length_map];omega)
theorem zC3(a sl:Value)(w:World):(Instr.buildSlice 24 1 #[(0,.agg #[a,sl])]).run Tryz.prog w=.ok (.slice (some ⟨w.heap.size,0,none⟩) 1 1) (w.alloc (.cells #[a,sl] 65 (0,0))):=by go_simp
theorem zBv{o:Oper}{ρ:Operand→Value}(ps:Array (Nat×Value))(v:Value)(w w':World)(ho:execOp ρ o=(do pure (Next.value (←Instr.buildSlice 24 1 ps))))(hb:(Instr.buildSlice 24 1 ps).run Tryz.prog w=.ok v w'):(execOp ρ o).run Tryz.prog w=.ok (.value v) w':=by
 rw[ho];simp[hb]
theorem St.sets5P{b:Nat}{T:TypeId}{a0 a1 a2 a3 a4:Value}(v0 v1 v2 v3 v4:Value)(h:St W0 w K (.raw b #[a0,a1,a2,a3,a4] T::L)):St W0 (((((w.setCell ⟨b,0,none⟩ v0).setCell ⟨b,1,none⟩ v1).setCell ⟨b,2,none⟩ v2).setCell ⟨b,3,none⟩ v3).setCell ⟨b,4,none⟩ v4) K (.raw b #[v0,v1,v2,v3,v4] T::L):=by
 have h:St W0 _ K (.raw b #[v0,a1,a2,a3,a4] T::L):=h.rawSet 0 v0;have h:St W0 _ K (.raw b #[v0,v1,a2,a3,a4] T::L):=h.rawSet 1 v1;have h:St W0 _ K (.raw b #[v0,v1,v2,a3,a4] T::L):=h.rawSet 2 v2;have h:St W0 _ K (.raw b #[v0,v1,v2,v3,a4] T::L):=h.rawSet 3 v3;have h:St W0 _ K (.raw b #[v0,v1,v2,v3,v4] T::L):=h.rawSet 4 v4;exact h
theorem St.freezeTopsK{v:Value}{T:TypeId}{l:List PTop}{k:Nat}{xs:List Value}(h:St W0 w K (.row v T 2 k xs::L))(hk:k=l.length)(hx:xs=l.flatMap zCE)(ht:∀x∈l,K.has (Know.pparts (.slice x.q x.l.length x.cap) x.l)):St W0 w (K.and (Know.ptops v l)) L:=by
 subst hk;subst hx;exact h.freezeTopsP ht
theorem zDe(nl:Bool)(dd:Bs)(ac tm v:Int)(l:List PTop)(q:Option Addr)(cap n:Nat)(hn:n=l.length)(hdd:dd.length≤140737488355328)(hf:∀x∈l,CkT x)(hll:l.length≤4398046511104)(e:Int)(he:zAC ⟨nl,dd⟩ ac tm v l=e)(hk:K.has (Know.ptops (.slice q n cap) l))(h:St W0 w K L):
 Calls Tryz.prog 12 #[.agg #[.bool nl,.string (bb dd),.int .i64 ac,.int .i64 tm,.slice q n cap],.int .i64 v] w fun en w'=>en=.returned (.int .i64 e)∧St W0 w' K L:=by
 subst hn;exact zDO nl dd ac tm v l q cap hdd hf hll e he hk h
theorem zM1(a:Int)(w:World):(Instr.buildSlice 127 1 #[(0,.int .i64 a)]).run Tryz.prog w=.ok (.slice (some ⟨w.heap.size,0,none⟩) 1 1) (w.alloc (.cells #[.int .i64 a] 3 (0,0))):=by go_simp
theorem zEy{o:Oper}{ρ:Operand→Value}(ps:Array (Nat×Value))(v:Value)(w w':World)(ho:execOp ρ o=(do pure (Next.value (←Instr.buildSlice 127 1 ps))))(hb:(Instr.buildSlice 127 1 ps).run Tryz.prog w=.ok v w'):(execOp ρ o).run Tryz.prog w=.ok (.value v) w':=by
 rw[ho];simp[hb]
theorem zq64{p:Prop}(h:p:=by have:=HKN.out;unfold maxLen;omega):p:=h
theorem zOX(nm:Bs)(pl:List PartR)(q:Option Addr)(cap:Nat)(hpl:pl.length≤1000000){W0 w:World}{K:Know}{L:List Res}(hk:K.has (Know.pparts (.slice q pl.length cap) pl))(h:St W0 w K L):
 Calls Tryz.prog 69 #[.agg #[.string (bb nm),.slice q pl.length cap]] w fun en w'=>∃(q2:Option Addr) (c2:Nat) (K2:Know),en=.returned (.agg #[.string (bb nm),.slice q2 pl.length c2])∧K2.has K∧K2.has (Know.flat RI (.slice q2 pl.length c2) 1 (pl.map PartR.idx))∧St W0 w' K2 L:=by
 obtain⟨ra,hra⟩:∃b,w.heap.size=b:=⟨_,rfl⟩;obtain⟨rb,hrb⟩:∃b,ra+1=b:=⟨_,rfl⟩;obtain⟨tb,htb⟩:∃b,rb+1=b:=⟨_,rfl⟩;have h0:=((h.allocRaw #[.string (bb nm),.slice q pl.length cap] 83).allocRaw #[.string ⟨#[]⟩,.slice none 0 0] 129).allocRaw #[.string (bb nm),.slice none 0 0] 129;simp only[World.size_alloc,hra,hrb,htb]at h0;have g0:=(h.allocRaw #[.string (bb nm),.slice q pl.length cap] 83).allocRaw #[.string ⟨#[]⟩,.slice none 0 0] 129;simp only[World.size_alloc,hra,hrb]at g0;have a0:=g0.p1.rawCell 0;have a1:=h0.p2.rawCell 1;simp at a0 a1;have H:=hQd h0;have HK:=hQd hk;have HN:=hQd hpl;have hni:(pl.length:Int)≤1000000:=by omega
 clear h h0 g0 hk hpl;go_enter Tryz.func69,Tryz.ntmps69;go_wp2;clear a0 a1;go_loopw [4] (fun iv wr=>∃(k:Nat) (v:Value),k≤pl.length∧iv=.int .i64 k∧St W0 wr K (.row v 3 1 k (((pl.take k).map PartR.idx).flatMap zQ0)::.raw tb #[.string (bb nm),v] 129::.raw rb #[.string ⟨#[]⟩,.slice none 0 0] 129::.raw ra #[.string (bb nm),.slice q pl.length cap] 83::L)) (fun iv _=>pl.length - (intOf iv).toNat)
 case atStart=>exact⟨0,.slice none 0 0,Nat.zero_le _,rfl,H.out.nilRow 3 1⟩
 case round=>
  obtain⟨k,v,hkl,rfl,hst⟩:=hrel;clear H;obtain⟨qv0,cv0,hv0⟩:=hst.rowAny;subst hv0;have x1:=hst.p3.rawCell 1;simp at x1;have H:=hQd hst;clear hst
  by_cases hlt:k<pl.length
  ·obtain⟨pk,poff,hpq⟩:=zBB HK.out H.out oM;subst hpq;obtain⟨y,hy⟩:∃y,pl[k]=y:=⟨_,rfl⟩;have hkn:(k:Int)<(pl.length:Int):=by omega
   have HY:=hQd hy;have HKN:=hQd (show k≤1000000 by have:=HN.out;omega);obtain⟨yi,yl,yq,ycap⟩:=y
   have HKA:=hQd (show ∀(w':World) (r1 r2 r3:Res),St W0 w' K (r1::r2::r3::.raw ra #[.string (bb nm),.slice (some ⟨pk,poff,none⟩) pl.length cap] 83::L)→(w'.cell? ⟨ra,1,none⟩=some (.slice (some ⟨pk,poff,none⟩) pl.length cap)∧w'.cell? ⟨pk,poff+k*2,none⟩=some (.int .i64 yi))from fun w' r1 r2 r3 hs=>by
    have a1:=hs.p3.rawCell 1;obtain⟨b1,_⟩:=zAW HK.out hs k hlt _ HY.out;simp at a1
    exact⟨a1,b1⟩)
   have HKB:=hQd (show ∀(w':World) (r0 r1 r2 r3:Res),St W0 w' K (r0::r1::r2::r3::.raw ra #[.string (bb nm),.slice (some ⟨pk,poff,none⟩) pl.length cap] 83::L)→(w'.cell? ⟨ra,1,none⟩=some (.slice (some ⟨pk,poff,none⟩) pl.length cap)∧w'.cell? ⟨pk,poff+k*2,none⟩=some (.int .i64 yi))from fun w' r0 r1 r2 r3 hs=>by
    have a1:=hs.p4.rawCell 1;obtain⟨b1,_⟩:=zAW HK.out hs k hlt _ HY.out;simp at a1
    exact⟨a1,b1⟩)
   clear hy;go_wp2;clear x1;have hs:=H.out.drew;refine wp_region_held_drew (S:=fun w'=>w'.cell? ⟨ra,1,none⟩=some (.slice (some ⟨pk,poff,none⟩) pl.length cap)∧w'.cell? ⟨pk,poff+k*2,none⟩=some (.int .i64 yi)) (by kernel_rfl) (HKA.out _ _ _ _ hs) (fun hHeld=> ?_);refine tR 0 ?_;refine tR 2 ?_;refine tR 3 ?_;refine tR 4 ?_;refine tR 5 ?_;refine tR 6 ?_;refine tR 7 ?_;refine wR [1,8] (rC rfl (fun KK hK=> ?_) (rC rfl (fun KK hK=> ?_) rN))
   focus
    have z1:=hs.p1.rawCell 1;simp at z1;go_simp;refine zK hK (HKA.out _ _ _ _ hs) (fun hHeld=> ?_);clear hK KK
    clear z1;refine wR [8] (rC rfl (fun KK hK=> ?_) rN);rw[if_pos (by rfl)];refine zAM (zEy _ _ _ _ (by kernel_rfl) (zM1 yi _)) ?_;obtain⟨wy,b2,ey,eb,hs⟩:=hs.allocEx #[.int .i64 yi] 3;rw[ey,eb];clear ey eb;refine zK hK (HKB.out _ _ _ _ _ hs) (fun hHeld=> ?_);clear hK KK
   rotate_left
   focus
    rw[if_pos (by rfl)];refine zAM (zEy _ _ _ _ (by kernel_rfl) (zM1 yi _)) ?_;obtain⟨wy,b2,ey,eb,hs⟩:=hs.allocEx #[.int .i64 yi] 3;rw[ey,eb];clear ey eb;refine zK hK (HKB.out _ _ _ _ _ hs) (fun hHeld=> ?_);clear hK KK
    refine wR [1] (rC rfl (fun KK hK=> ?_) rN);have z1:=hs.p2.rawCell 1;simp at z1;go_simp;refine zK hK (HKB.out _ _ _ _ _ hs) (fun hHeld=> ?_);clear hK KK
    clear z1
   all_goals
    refine wR [9] (rC rfl (fun KK hK=> ?_) rN);rw[if_pos (by rfl)];refine zD5 (.tmp 16) (.tmp 23) 127 rfl 3 Tryz.underlying127 zPq _ _ _ (by rfl) b2 #[.int .i64 yi] 3 hs (by rfl) rfl (by simp[Value.oneCell']) zq64 (by have:=HKN.out;omega) (fun v' w' h=> ?_);have hs:=h;clear h;obtain⟨qv,cv,hv⟩:=hs.rowAny;subst hv;refine zK hK (HKA.out _ _ _ _ hs) (fun hHeld=> ?_);clear hK KK
    refine tR 10 ?_;refine wR [11] (rC rfl (fun KK hK=> ?_) rN);have hs:=hs.p1;have q1:=hs.rawFree 1;have z1:=hs.rawCell 1;simp at z1;rw[if_pos (by rfl)];refine zDx (w':=w'.setCell ⟨tb,1,none⟩ (.slice qv (k+1) cv)) (by go_simp) ?_;obtain⟨wz,ez,hs⟩:=hs.setExP 1 (.slice qv (k+1) cv);rw[ez];clear ez q1 z1;have hs:=hs.p1;refine hK.out _ _ (HKA.out _ _ _ _ hs) (fun hHeld=> ?_);clear hK KK
    try simp only[Act.put]
    refine wpAnyH_done (by kernel_rfl) ?_ _;clear hHeld;go_wp2_with fail;go_roundw
    case rel=>
     refine⟨k+1,.slice qv (k+1) cv,hlt,by go_num,?_⟩;rw[List.take_succ_eq_append_getElem hlt,HY.out,List.map_append,List.flatMap_append];exact hs
    case measure=>first|(simp[intOf];done)|(simp[intOf];omega)
  ·obtain rfl:k=pl.length:=by omega
   obtain⟨y0,y1⟩:=uR2 H.out.p1;obtain⟨w0,w1⟩:=uS2 H.out.p2;obtain⟨v0,v1⟩:=uR2 H.out.p2;simp at y0 y1 v0 v1;go_wp2;have hz:St W0 _ _ (.raw rb #[.string (bb nm),.slice qv0 pl.length cv0] 129::_):=((H.out.p2.rawSet 0 (.string (bb nm))).rawSet 1 (.slice qv0 pl.length cv0));refine bodyPost_ret (zAy rfl _ _ rb [.string (bb nm),.slice qv0 pl.length cv0] _ rfl (zAr hz) Tryz.underlying129 rfl (by kernel_rfl)) rfl ?_;have hr:=hz.drop;rw[List.take_length]at hr;have hf:=hr.freezeInts (l:=pl.map PartR.idx) (by rw[List.length_map]) rfl;exact⟨qv0,cv0,_,rfl,Know.has_left (Know.has_refl _),Know.has_right (Know.has_refl _),hf.drop.drop⟩
theorem pfix2(u:Bool)(s r:Bs)(hr:encF 2 ⟨u,s⟩=r)(hs:s.length≤32767)(h:St W0 w K L):
 Calls Tryz.prog 48 #[.agg #[.bool u,.string (bb s)],.int .i64 2] w fun en w'=>en=.returned (.string (bb r))∧St W0 w' K L:=by
 subst hr;exact zGG ⟨u,s⟩ 2 (by simp only;omega) dD h
theorem pfix4(s r:Bs)(hr:encF 4 ⟨false,s⟩=r)(hs:s.length≤100000000)(h:St W0 w K L):
 Calls Tryz.prog 48 #[.agg #[.bool false,.string (bb s)],.int .i64 4] w fun en w'=>en=.returned (.string (bb r))∧St W0 w' K L:=by
 subst hr;exact zGG ⟨false,s⟩ 4 (by simp only;omega) dD h
theorem pby(n size:Int)(k:Nat)(hs:size=k)(hk:k≤8)(r:Bs)(hr:zAd n k=r)(hn: -9223372036854775808≤n∧n<9223372036854775808)(h:St W0 w K L):
 Calls Tryz.prog 49 #[.int .i64 n,.int .i64 size] w fun en w'=>en=.returned (.string (bb r))∧St W0 w' K L:=by
 subst hr hs;exact zCI n k oM hn h
structure WrP (x:PartR):Prop where
 idx: -9223372036854775808≤x.idx∧x.idx<9223372036854775808
 bats:∀z∈x.l,z.l.map (·.1)=z.b.recs∧EncOk z.b
structure WrT (x:PTop):Prop where
 name:x.name.length≤32767
 parts:∀y∈x.l,WrP y
theorem zKJ:∀(l:List BatR),61*l.length≤(encB l).length
 |[]=>by simp[encB]
 |x::t=>by
  have h:=zKJ t;have e:encB (x::t)=x.b.enc++encB t:=rfl;rw[e,List.length_append,List.length_cons,x.b.enc_len]
  omega
theorem zL0(x:PartR):8≤(zAL x).length:=by
 unfold zAL encF;simp only[List.length_append];have h1:(zAd x.idx (4:Int).toNat).length=4:=zAg _ _;have h2:∀n,(zAd n 4).length=4:=fun n=>zAg _ _
 rw[h1,h2]
 omega
theorem zFA:∀(l:List PartR),8*l.length≤(l.flatMap zAL).length
 |[]=>by simp
 |x::t=>by
  have h:=zFA t;have h2:=zL0 x;rw[List.flatMap_cons,List.length_append,List.length_cons]
  omega
end Go.Proofs.YtnnnglklgofabaaGreat
