/- A text. -/
import Derived.Shelf.Strings.OnBuilder
import Derived.Shelf.Small.Strs
import Derived.Shelf.LaysM
import Derived.Shelf.Strconv.Itoa3
import Derived.Shelf.LaysC
import Derived.Shelf.Strconv.AtoiAll
import Derived.Shelf.Strings.Search3
import Derived.Shelf.Strings.Cut
import Derived.Shelf.Strings.Split
import Derived.Test.YtenojajfacacoaaGreatDoorGReportRawsCard2
import Derived.Test.YtenojajfacacoaaGreatDoorGReportRawsCard7
import Derived.RegionTactic
import Derived.WalkMore
import Derived.Lib.AtoiErrMem
import Derived.Lib.AtoiAll
import Derived.Sort.Grow
import Derived.Deep.RegionHeld3
import Derived.Deep.DeepCutAuto
import Derived.Test.YtenojajfacacoaaGreatDoorGReportRawsCard6
import Derived.Deep.OwnRows
import Derived.Test.YtenojajfacacoaaGreatDoorGReportRawsCard4
import Derived.Test.YtenojajfacacoaaGreatDoorGReportRawsCard3
import Derived.Lib.Split
import Derived.Lib.SplitLaws
import Derived.Lib.ItoaMem
import Derived.Lib.ItoaLen
import Derived.Lib.Join
import Derived.Test.YtenojajfacacoaaGreatDoorGReportRawsCard8
/- A text. -/
namespace Go.Proofs
open Go.Shelf
def Tryz.lays156_ren:Go.Shelf.Ren:=⟨fun|156=>73|165=>103|166=>76|169=>47|240=>84|241=>132|276=>118|277=>160|n=>n,fun|31=>69|9=>9|3=>3|4=>4|0=>0|20=>20|72=>80|76=>115|70=>78|37=>57|75=>83|127=>127|164=>167|5=>5|80=>86|n=>n,fun|n=>n⟩
theorem Tryz.lays156:Go.Proofs.Lays.n156 Tryz.prog Tryz.lays156_ren:={
  mixed:=by kernel_rfl
  f156:=Tryz.func73.trans (congrArg some (by kernel_rfl))
  f165:=Tryz.func103.trans (congrArg some (by kernel_rfl))
  f166:=Tryz.func76.trans (congrArg some (by kernel_rfl))
  f169:=Tryz.func47.trans (congrArg some (by kernel_rfl))
  f240:=Tryz.func84.trans (congrArg some (by kernel_rfl))
  f241:=Tryz.func132.trans (congrArg some (by kernel_rfl))
  f276:=Tryz.func118.trans (congrArg some (by kernel_rfl))
  f277:=Tryz.func160.trans (congrArg some (by kernel_rfl))
  t0:=Tryz.underlying0
  a0:=Tryz.isAgg0
  z0:=Tryz.sizeOf0
  v0:=Tryz.zeroValue0
  t3:=Tryz.underlying3
  a3:=Tryz.isAgg3
  z3:=Tryz.sizeOf3
  v3:=Tryz.zeroValue3
  t4:=Tryz.underlying4
  a4:=Tryz.isAgg4
  z4:=Tryz.sizeOf4
  v4:=Tryz.zeroValue4
  t9:=Tryz.underlying9
  a9:=Tryz.isAgg9
  z9:=Tryz.sizeOf9
  v9:=Tryz.zeroValue9
  t20:=Tryz.underlying20
  a20:=Tryz.isAgg20
  z20:=Tryz.sizeOf20
  v20:=Tryz.zeroValue20
  t31:=Tryz.underlying69
  a31:=Tryz.isAgg69
  z31:=Tryz.sizeOf69
  v31:=Tryz.zeroValue69
  t37:=Tryz.underlying57
  a37:=Tryz.isAgg57
  z37:=Tryz.sizeOf57
  v37:=Tryz.zeroValue57
  t70:=Tryz.underlying78
  a70:=Tryz.isAgg78
  z70:=Tryz.sizeOf78
  v70:=Tryz.zeroValue78
  t72:=Tryz.underlying80
  a72:=Tryz.isAgg80
  z72:=Tryz.sizeOf80
  v72:=Tryz.zeroValue80
  t75:=Tryz.underlying83
  a75:=Tryz.isAgg83
  z75:=Tryz.sizeOf83
  v75:=Tryz.zeroValue83
  t76:=Tryz.underlying115
  a76:=Tryz.isAgg115
  z76:=Tryz.sizeOf115
  v76:=Tryz.zeroValue115
  t127:=Tryz.underlying127
  a127:=Tryz.isAgg127
  z127:=Tryz.sizeOf127
  v127:=Tryz.zeroValue127
  t164:=Tryz.underlying167
  a164:=Tryz.isAgg167
  z164:=Tryz.sizeOf167
  v164:=Tryz.zeroValue167}
theorem Tryz.Builder_Extra_156:Builder.Extra Tryz.prog Tryz.lays156_ren:={
  sizeBuilder:=by kernel_rfl
  liesBuilder:=by kernel_rfl
  t5:=Tryz.underlying5
  a5:=Tryz.isAgg5
  z5:=Tryz.sizeOf5
  v5:=Tryz.zeroValue5
  infoByte:=by kernel_rfl
  cellsByte:=by kernel_rfl
  sizeByte:=by kernel_rfl
  neB5:=by decide}
open Go.RowKit in
theorem Tryz.strings_Join_none(a:Option Addr)(c:Nat)(sep:ByteArray)(w:World):
 Calls Tryz.prog 73 #[.slice a 0 c,.string sep] w fun e w'=>e=.returned (.string ⟨#[]⟩)∧w'=w:=Any.strings_Join_none Tryz.lays156 Tryz.Builder_Extra_156 a c sep w
open Go.RowKit in
theorem Tryz.strings_Join(bk o c:Nat)(xs:List ByteArray)(sep:ByteArray)(w:World)(hcells:∀(j:Nat) x,xs[j]? =some x→w.cell? ⟨bk,o+j,none⟩=some (.string x))(hbk:bk<w.heap.size)(hN:xs.length≤140737488355328)(hcap:xs.length≤c)(hlen:(Lib.join (xs.map (·.data.toList)) sep.data.toList).length≤140737488355328):
 Calls Tryz.prog 73 #[.slice (some ⟨bk,o,none⟩) xs.length c,.string sep] w fun e w'=>e=.returned (.string ⟨(Lib.join (xs.map (·.data.toList)) sep.data.toList).toArray⟩)∧Below w.heap.size w w':=Any.strings_Join Tryz.lays156 Tryz.Builder_Extra_156 bk o c xs sep w hcells hbk hN hcap hlen
def Tryz.lays137_ren:Go.Shelf.Ren:=⟨fun|137=>45|217=>83|266=>117|n=>n,fun|9=>9|5=>5|3=>3|n=>n,fun|n=>n⟩
theorem Tryz.lays137:Go.Proofs.Lays.n137 Tryz.prog Tryz.lays137_ren:={
  mixed:=by kernel_rfl
  f137:=Tryz.func45.trans (congrArg some (by kernel_rfl))
  f217:=Tryz.func83.trans (congrArg some (by kernel_rfl))
  f266:=Tryz.func117.trans (congrArg some (by kernel_rfl))
  t3:=Tryz.underlying3
  a3:=Tryz.isAgg3
  z3:=Tryz.sizeOf3
  v3:=Tryz.zeroValue3
  t5:=Tryz.underlying5
  a5:=Tryz.isAgg5
  z5:=Tryz.sizeOf5
  v5:=Tryz.zeroValue5
  t9:=Tryz.underlying9
  a9:=Tryz.isAgg9
  z9:=Tryz.sizeOf9
  v9:=Tryz.zeroValue9}
open Go.RowKit in
theorem Tryz.strings_IndexByte(s:ByteArray)(c:Int)(w:World):
 Calls Tryz.prog 45 #[.string s,.int .u8 c] w fun e w'=>e=.returned (.int .i64 (Lib.indexByte s.data.toList c.toNat.toUInt8))∧w'=w:=Any.strings_IndexByte Tryz.lays137 s c w
def Tryz.laysM171_ren:Go.Shelf.Ren:=⟨fun|171=>37|243=>74|246=>104|283=>133|284=>134|285=>135|286=>136|129=>162|317=>161|318=>163|319=>164|320=>165|337=>186|338=>187|n=>n,fun|3=>3|9=>9|2=>2|4=>4|171=>181|0=>0|53=>140|37=>57|5=>5|173=>184|212=>219|51=>60|20=>20|213=>220|46=>85|232=>242|233=>243|n=>n,fun|17=>1|18=>2|19=>3|n=>n⟩
theorem Tryz.laysM171:Go.Proofs.LaysM.n171 Tryz.prog Tryz.laysM171_ren:={
  mixed:=by kernel_rfl
  f129:=Tryz.func162.trans (congrArg some (by kernel_rfl))
  f171:=Tryz.func37.trans (congrArg some (by kernel_rfl))
  f243:=Tryz.func74.trans (congrArg some (by kernel_rfl))
  f246:=Tryz.func104.trans (congrArg some (by kernel_rfl))
  f283:=Tryz.func133.trans (congrArg some (by kernel_rfl))
  f284:=Tryz.func134.trans (congrArg some (by kernel_rfl))
  f285:=Tryz.func135.trans (congrArg some (by kernel_rfl))
  f286:=Tryz.func136.trans (congrArg some (by kernel_rfl))
  f317:=Tryz.func161.trans (congrArg some (by kernel_rfl))
  f318:=Tryz.func163.trans (congrArg some (by kernel_rfl))
  f319:=Tryz.func164.trans (congrArg some (by kernel_rfl))
  f320:=Tryz.func165.trans (congrArg some (by kernel_rfl))
  f337:=Tryz.func186.trans (congrArg some (by kernel_rfl))
  f338:=Tryz.func187.trans (congrArg some (by kernel_rfl))
  t0:=Tryz.underlying0
  a0:=Tryz.isAgg0
  z0:=Tryz.sizeOf0
  v0:=Tryz.zeroValue0
  t2:=Tryz.underlying2
  a2:=Tryz.isAgg2
  z2:=Tryz.sizeOf2
  v2:=Tryz.zeroValue2
  t3:=Tryz.underlying3
  a3:=Tryz.isAgg3
  z3:=Tryz.sizeOf3
  v3:=Tryz.zeroValue3
  t4:=Tryz.underlying4
  a4:=Tryz.isAgg4
  z4:=Tryz.sizeOf4
  v4:=Tryz.zeroValue4
  t5:=Tryz.underlying5
  a5:=Tryz.isAgg5
  z5:=Tryz.sizeOf5
  v5:=Tryz.zeroValue5
  t9:=Tryz.underlying9
  a9:=Tryz.isAgg9
  z9:=Tryz.sizeOf9
  v9:=Tryz.zeroValue9
  t20:=Tryz.underlying20
  a20:=Tryz.isAgg20
  z20:=Tryz.sizeOf20
  v20:=Tryz.zeroValue20
  t37:=Tryz.underlying57
  a37:=Tryz.isAgg57
  z37:=Tryz.sizeOf57
  v37:=Tryz.zeroValue57
  t46:=Tryz.underlying85
  a46:=Tryz.isAgg85
  z46:=Tryz.sizeOf85
  v46:=Tryz.zeroValue85
  t51:=Tryz.underlying60
  a51:=Tryz.isAgg60
  z51:=Tryz.sizeOf60
  v51:=Tryz.zeroValue60
  t53:=Tryz.underlying140
  a53:=Tryz.isAgg140
  z53:=Tryz.sizeOf140
  v53:=Tryz.zeroValue140
  t171:=Tryz.underlying181
  a171:=Tryz.isAgg181
  z171:=Tryz.sizeOf181
  v171:=Tryz.zeroValue181
  t173:=Tryz.underlying184
  a173:=Tryz.isAgg184
  z173:=Tryz.sizeOf184
  v173:=Tryz.zeroValue184
  t212:=Tryz.underlying219
  a212:=Tryz.isAgg219
  z212:=Tryz.sizeOf219
  v212:=Tryz.zeroValue219
  t213:=Tryz.underlying220
  a213:=Tryz.isAgg220
  z213:=Tryz.sizeOf220
  t232:=Tryz.underlying242
  a232:=Tryz.isAgg242
  z232:=Tryz.sizeOf242
  v232:=Tryz.zeroValue242
  t233:=Tryz.underlying243
  a233:=Tryz.isAgg243
  z233:=Tryz.sizeOf243
  v233:=Tryz.zeroValue243
  g17:=by kernel_rfl
  g18:=by kernel_rfl
  g19:=by kernel_rfl
  i0:=by kernel_rfl
  i2:=by kernel_rfl
  i3:=by kernel_rfl
  i4:=by kernel_rfl
  i5:=by kernel_rfl
  i9:=by kernel_rfl
  i20:=by kernel_rfl
  i37:=by kernel_rfl
  i46:=by kernel_rfl
  i51:=by kernel_rfl
  i53:=by kernel_rfl
  i171:=by kernel_rfl
  i173:=by kernel_rfl
  i212:=by kernel_rfl
  i232:=by kernel_rfl
  i233:=by kernel_rfl
  m17:=by kernel_rfl
  m18:=by kernel_rfl
  m19:=by kernel_rfl}
open Go.RowKit Go.Sort Go.Lib in
theorem Tryz.strconv_Itoa(n:Int)(h0: -9223372036854775808≤n)(h1:n≤9223372036854775807)(w:World)(htab:Lib.TabIs Tryz.prog w "internal/strconv.uint64pow10" .u64 Lib.pow10Tab):
 Calls Tryz.prog 37 #[.int .i64 n] w fun e w'=>e=.returned (.string ⟨(Lib.itoa n).toArray⟩)∧∃k os,w'=grow (w.drewN k) os:=Any.strconv_Itoa Tryz.laysM171 n h0 h1 w htab
def Tryz.laysC172_ren:Go.Shelf.Ren:=⟨fun|172=>172|244=>191|245=>192|247=>202|279=>203|280=>204|281=>205|282=>206|287=>208|316=>209|171=>37|205=>210|321=>213|322=>214|243=>74|246=>104|283=>133|284=>134|285=>135|286=>136|129=>162|317=>161|318=>163|319=>164|320=>165|337=>186|338=>187|n=>n,fun|9=>9|3=>3|75=>83|76=>115|4=>4|5=>5|167=>251|37=>57|0=>0|85=>252|2=>2|168=>254|53=>140|175=>262|46=>85|210=>265|127=>127|145=>272|143=>270|21=>21|171=>181|173=>184|212=>219|51=>60|20=>20|213=>220|232=>242|233=>243|80=>86|n=>n,fun|15=>6|16=>7|17=>1|18=>2|19=>3|n=>n⟩
theorem Tryz.laysC172:Go.Proofs.LaysC.n172 Tryz.prog Tryz.laysC172_ren:={
  mixed:=by kernel_rfl
  f129:=Tryz.func162.trans (congrArg some (by kernel_rfl))
  f171:=Tryz.func37.trans (congrArg some (by kernel_rfl))
  f172:=Tryz.func172.trans (congrArg some (by kernel_rfl))
  f205:=Tryz.func210.trans (congrArg some (by kernel_rfl))
  f243:=Tryz.func74.trans (congrArg some (by kernel_rfl))
  f244:=Tryz.func191.trans (congrArg some (by kernel_rfl))
  f245:=Tryz.func192.trans (congrArg some (by kernel_rfl))
  f246:=Tryz.func104.trans (congrArg some (by kernel_rfl))
  f247:=Tryz.func202.trans (congrArg some (by kernel_rfl))
  f279:=Tryz.func203.trans (congrArg some (by kernel_rfl))
  f280:=Tryz.func204.trans (congrArg some (by kernel_rfl))
  f281:=Tryz.func205.trans (congrArg some (by kernel_rfl))
  f282:=Tryz.func206.trans (congrArg some (by kernel_rfl))
  f283:=Tryz.func133.trans (congrArg some (by kernel_rfl))
  f284:=Tryz.func134.trans (congrArg some (by kernel_rfl))
  f285:=Tryz.func135.trans (congrArg some (by kernel_rfl))
  f286:=Tryz.func136.trans (congrArg some (by kernel_rfl))
  f287:=Tryz.func208.trans (congrArg some (by kernel_rfl))
  f316:=Tryz.func209.trans (congrArg some (by kernel_rfl))
  f317:=Tryz.func161.trans (congrArg some (by kernel_rfl))
  f318:=Tryz.func163.trans (congrArg some (by kernel_rfl))
  f319:=Tryz.func164.trans (congrArg some (by kernel_rfl))
  f320:=Tryz.func165.trans (congrArg some (by kernel_rfl))
  f321:=Tryz.func213.trans (congrArg some (by kernel_rfl))
  f322:=Tryz.func214.trans (congrArg some (by kernel_rfl))
  f337:=Tryz.func186.trans (congrArg some (by kernel_rfl))
  f338:=Tryz.func187.trans (congrArg some (by kernel_rfl))
  t0:=Tryz.underlying0
  a0:=Tryz.isAgg0
  z0:=Tryz.sizeOf0
  v0:=Tryz.zeroValue0
  t2:=Tryz.underlying2
  a2:=Tryz.isAgg2
  z2:=Tryz.sizeOf2
  v2:=Tryz.zeroValue2
  t3:=Tryz.underlying3
  a3:=Tryz.isAgg3
  z3:=Tryz.sizeOf3
  v3:=Tryz.zeroValue3
  t4:=Tryz.underlying4
  a4:=Tryz.isAgg4
  z4:=Tryz.sizeOf4
  v4:=Tryz.zeroValue4
  t5:=Tryz.underlying5
  a5:=Tryz.isAgg5
  z5:=Tryz.sizeOf5
  v5:=Tryz.zeroValue5
  t9:=Tryz.underlying9
  a9:=Tryz.isAgg9
  z9:=Tryz.sizeOf9
  v9:=Tryz.zeroValue9
  t20:=Tryz.underlying20
  a20:=Tryz.isAgg20
  z20:=Tryz.sizeOf20
  v20:=Tryz.zeroValue20
  t21:=Tryz.underlying21
  a21:=Tryz.isAgg21
  z21:=Tryz.sizeOf21
  v21:=Tryz.zeroValue21
  t37:=Tryz.underlying57
  a37:=Tryz.isAgg57
  z37:=Tryz.sizeOf57
  v37:=Tryz.zeroValue57
  t46:=Tryz.underlying85
  a46:=Tryz.isAgg85
  z46:=Tryz.sizeOf85
  v46:=Tryz.zeroValue85
  t51:=Tryz.underlying60
  a51:=Tryz.isAgg60
  z51:=Tryz.sizeOf60
  v51:=Tryz.zeroValue60
  t53:=Tryz.underlying140
  a53:=Tryz.isAgg140
  z53:=Tryz.sizeOf140
  v53:=Tryz.zeroValue140
  t75:=Tryz.underlying83
  a75:=Tryz.isAgg83
  z75:=Tryz.sizeOf83
  v75:=Tryz.zeroValue83
  t76:=Tryz.underlying115
  a76:=Tryz.isAgg115
  z76:=Tryz.sizeOf115
  v76:=Tryz.zeroValue115
  t85:=Tryz.underlying252
  a85:=Tryz.isAgg252
  z85:=Tryz.sizeOf252
  v85:=Tryz.zeroValue252
  t127:=Tryz.underlying127
  a127:=Tryz.isAgg127
  z127:=Tryz.sizeOf127
  v127:=Tryz.zeroValue127
  t143:=Tryz.underlying270
  a143:=Tryz.isAgg270
  z143:=Tryz.sizeOf270
  v143:=Tryz.zeroValue270
  t145:=Tryz.underlying272
  a145:=Tryz.isAgg272
  z145:=Tryz.sizeOf272
  v145:=Tryz.zeroValue272
  t167:=Tryz.underlying251
  a167:=Tryz.isAgg251
  z167:=Tryz.sizeOf251
  v167:=Tryz.zeroValue251
  t168:=Tryz.underlying254
  a168:=Tryz.isAgg254
  z168:=Tryz.sizeOf254
  v168:=Tryz.zeroValue254
  t171:=Tryz.underlying181
  a171:=Tryz.isAgg181
  z171:=Tryz.sizeOf181
  v171:=Tryz.zeroValue181
  t173:=Tryz.underlying184
  a173:=Tryz.isAgg184
  z173:=Tryz.sizeOf184
  v173:=Tryz.zeroValue184
  t175:=Tryz.underlying262
  a175:=Tryz.isAgg262
  z175:=Tryz.sizeOf262
  v175:=Tryz.zeroValue262
  t210:=Tryz.underlying265
  a210:=Tryz.isAgg265
  z210:=Tryz.sizeOf265
  v210:=Tryz.zeroValue265
  t212:=Tryz.underlying219
  a212:=Tryz.isAgg219
  z212:=Tryz.sizeOf219
  v212:=Tryz.zeroValue219
  t213:=Tryz.underlying220
  a213:=Tryz.isAgg220
  z213:=Tryz.sizeOf220
  t232:=Tryz.underlying242
  a232:=Tryz.isAgg242
  z232:=Tryz.sizeOf242
  v232:=Tryz.zeroValue242
  t233:=Tryz.underlying243
  a233:=Tryz.isAgg243
  z233:=Tryz.sizeOf243
  v233:=Tryz.zeroValue243
  g15:=by kernel_rfl
  g16:=by kernel_rfl
  g17:=by kernel_rfl
  g18:=by kernel_rfl
  g19:=by kernel_rfl
  t80:=Tryz.underlying86
  a80:=Tryz.isAgg86
  z80:=Tryz.sizeOf86
  v80:=Tryz.zeroValue86
  i0:=by kernel_rfl
  i2:=by kernel_rfl
  i3:=by kernel_rfl
  i4:=by kernel_rfl
  i5:=by kernel_rfl
  i9:=by kernel_rfl
  i20:=by kernel_rfl
  i21:=by kernel_rfl
  i37:=by kernel_rfl
  i46:=by kernel_rfl
  i51:=by kernel_rfl
  i53:=by kernel_rfl
  i75:=by kernel_rfl
  i76:=by kernel_rfl
  i80:=by kernel_rfl
  i85:=by kernel_rfl
  i127:=by kernel_rfl
  i143:=by kernel_rfl
  i145:=by kernel_rfl
  i167:=by kernel_rfl
  i168:=by kernel_rfl
  i171:=by kernel_rfl
  i173:=by kernel_rfl
  i175:=by kernel_rfl
  i210:=by kernel_rfl
  i212:=by kernel_rfl
  i232:=by kernel_rfl
  i233:=by kernel_rfl
  m15:=by kernel_rfl
  m16:=by kernel_rfl
  m17:=by kernel_rfl
  m18:=by kernel_rfl
  m19:=by kernel_rfl
  c0:=by kernel_rfl
  c2:=by kernel_rfl
  c3:=by kernel_rfl
  c4:=by kernel_rfl
  c5:=by kernel_rfl
  c9:=by kernel_rfl
  c20:=by kernel_rfl
  c21:=by kernel_rfl
  c37:=by kernel_rfl
  c46:=by kernel_rfl
  c51:=by kernel_rfl
  c53:=by kernel_rfl
  c75:=by kernel_rfl
  c76:=by kernel_rfl
  c80:=by kernel_rfl
  c85:=by kernel_rfl
  c127:=by kernel_rfl
  c143:=by kernel_rfl
  c145:=by kernel_rfl
  c167:=by kernel_rfl
  c168:=by kernel_rfl
  c171:=by kernel_rfl
  c173:=by kernel_rfl
  c175:=by kernel_rfl
  c210:=by kernel_rfl
  c212:=by kernel_rfl
  c213:=by kernel_rfl
  c232:=by kernel_rfl
  c233:=by kernel_rfl}
open Go.RowKit in
theorem Tryz.strconv_Atoi_ok(s:ByteArray)(hmax:s.size≤9223372036854775806)(v:Int)(h:Lib.atoiAll s.data.toList=.ok v)(w:World):
 Calls Tryz.prog 172 #[.string s] w fun e w'=>e=.returned (.tuple #[.int .i64 v,.nilIface])∧(w'=w∨∃t,w'=Lib.bytesWorld w 5 t):=Any.strconv_Atoi_ok Tryz.laysC172 s hmax v h w
open Go.RowKit in
theorem Tryz.strconv_Atoi_syntax(s:ByteArray)(hlim:s.size≤281474976710656)(h:Lib.atoiAll s.data.toList=Lib.atoiAll [])(ev:Value)(w:World)(hv:w.cell? ⟨6,0,none⟩=some ev)(hev:ev=.nilIface∨∃te pe,ev=.iface te pe):
 Calls Tryz.prog 172 #[.string s] w fun e w'=>∃N,e=.returned (.tuple #[.int .i64 (0),.iface 254 (.pointer (some ⟨N,0,none⟩))])∧w.heap.size≤N∧w'.heap[N]? =some (.cells #[.string ⟨#[65,116,111,105]⟩,.string s,ev] 265 (0,0))∧Below w.heap.size w w':=Any.strconv_Atoi_syntax Tryz.laysC172 s hlim h ev w hv hev
open Go.RowKit in
theorem Tryz.strconv_Atoi_range(s:ByteArray)(hlim:s.size≤281474976710656)(h:Lib.atoiAll s.data.toList=.range)(ev:Value)(w:World)(hv:w.cell? ⟨7,0,none⟩=some ev)(hev:ev=.nilIface∨∃te pe,ev=.iface te pe):
 Calls Tryz.prog 172 #[.string s] w fun e w'=>∃N,e=.returned (.tuple #[.int .i64 (Lib.atoiSat s.data.toList),.iface 254 (.pointer (some ⟨N,0,none⟩))])∧w.heap.size≤N∧w'.heap[N]? =some (.cells #[.string ⟨#[65,116,111,105]⟩,.string s,ev] 265 (0,0))∧Below w.heap.size w w':=Any.strconv_Atoi_range Tryz.laysC172 s hlim h ev w hv hev
def Tryz.lays144_ren:Go.Shelf.Ren:=⟨fun|144=>173|143=>144|219=>138|217=>83|225=>169|224=>170|267=>171|266=>117|314=>190|n=>n,fun|9=>9|4=>4|3=>3|5=>5|46=>85|146=>238|51=>60|n=>n,fun|1=>0|n=>n⟩
theorem Tryz.lays144:Go.Proofs.Lays.n144 Tryz.prog Tryz.lays144_ren:={
  mixed:=by kernel_rfl
  f143:=Tryz.func144.trans (congrArg some (by kernel_rfl))
  f144:=Tryz.func173.trans (congrArg some (by kernel_rfl))
  f217:=Tryz.func83.trans (congrArg some (by kernel_rfl))
  f219:=Tryz.func138.trans (congrArg some (by kernel_rfl))
  f224:=Tryz.func170.trans (congrArg some (by kernel_rfl))
  f225:=Tryz.func169.trans (congrArg some (by kernel_rfl))
  f266:=Tryz.func117.trans (congrArg some (by kernel_rfl))
  f267:=Tryz.func171.trans (congrArg some (by kernel_rfl))
  f314:=Tryz.func190.trans (congrArg some (by kernel_rfl))
  t3:=Tryz.underlying3
  a3:=Tryz.isAgg3
  z3:=Tryz.sizeOf3
  v3:=Tryz.zeroValue3
  t4:=Tryz.underlying4
  a4:=Tryz.isAgg4
  z4:=Tryz.sizeOf4
  v4:=Tryz.zeroValue4
  t5:=Tryz.underlying5
  a5:=Tryz.isAgg5
  z5:=Tryz.sizeOf5
  v5:=Tryz.zeroValue5
  t9:=Tryz.underlying9
  a9:=Tryz.isAgg9
  z9:=Tryz.sizeOf9
  v9:=Tryz.zeroValue9
  t46:=Tryz.underlying85
  a46:=Tryz.isAgg85
  z46:=Tryz.sizeOf85
  v46:=Tryz.zeroValue85
  t51:=Tryz.underlying60
  a51:=Tryz.isAgg60
  z51:=Tryz.sizeOf60
  v51:=Tryz.zeroValue60
  t146:=Tryz.underlying238
  a146:=Tryz.isAgg238
  z146:=Tryz.sizeOf238
  v146:=Tryz.zeroValue238
  g1:=by kernel_rfl}
open Go.RowKit Go.Lib in
theorem Tryz.strings_Contains_one(s:ByteArray)(c:UInt8)(w:World):
 Calls Tryz.prog 173 #[.string s,.string ⟨#[c]⟩] w fun e w'=>e=.returned (.bool (decide (0≤Lib.indexByte s.data.toList c)))∧w'=w:=Any.strings_Contains_one Tryz.lays144 s c w
def Tryz.lays145_ren:Go.Shelf.Ren:=⟨fun|145=>80|220=>110|219=>138|217=>83|225=>169|224=>170|267=>171|266=>117|314=>190|n=>n,fun|9=>9|4=>4|59=>123|3=>3|5=>5|46=>85|146=>238|51=>60|n=>n,fun|1=>0|n=>n⟩
theorem Tryz.lays145:Go.Proofs.Lays.n145 Tryz.prog Tryz.lays145_ren:={
  mixed:=by kernel_rfl
  f145:=Tryz.func80.trans (congrArg some (by kernel_rfl))
  f217:=Tryz.func83.trans (congrArg some (by kernel_rfl))
  f219:=Tryz.func138.trans (congrArg some (by kernel_rfl))
  f220:=Tryz.func110.trans (congrArg some (by kernel_rfl))
  f224:=Tryz.func170.trans (congrArg some (by kernel_rfl))
  f225:=Tryz.func169.trans (congrArg some (by kernel_rfl))
  f266:=Tryz.func117.trans (congrArg some (by kernel_rfl))
  f267:=Tryz.func171.trans (congrArg some (by kernel_rfl))
  f314:=Tryz.func190.trans (congrArg some (by kernel_rfl))
  t3:=Tryz.underlying3
  a3:=Tryz.isAgg3
  z3:=Tryz.sizeOf3
  v3:=Tryz.zeroValue3
  t4:=Tryz.underlying4
  a4:=Tryz.isAgg4
  z4:=Tryz.sizeOf4
  v4:=Tryz.zeroValue4
  t5:=Tryz.underlying5
  a5:=Tryz.isAgg5
  z5:=Tryz.sizeOf5
  v5:=Tryz.zeroValue5
  t9:=Tryz.underlying9
  a9:=Tryz.isAgg9
  z9:=Tryz.sizeOf9
  v9:=Tryz.zeroValue9
  t46:=Tryz.underlying85
  a46:=Tryz.isAgg85
  z46:=Tryz.sizeOf85
  v46:=Tryz.zeroValue85
  t51:=Tryz.underlying60
  a51:=Tryz.isAgg60
  z51:=Tryz.sizeOf60
  v51:=Tryz.zeroValue60
  t59:=Tryz.underlying123
  a59:=Tryz.isAgg123
  z59:=Tryz.sizeOf123
  v59:=Tryz.zeroValue123
  t146:=Tryz.underlying238
  a146:=Tryz.isAgg238
  z146:=Tryz.sizeOf238
  v146:=Tryz.zeroValue238
  g1:=by kernel_rfl}
open Go.RowKit Go.Lib in
theorem Tryz.strings_Cut(s sep:ByteArray)(m:Int)(w:World)(hs:s.size<4294967281)(hm:w.cell? ⟨0,0,none⟩=some (.int .i64 m)):
 Calls Tryz.prog 80 #[.string s,.string sep] w fun e w'=>e=.returned (.tuple #[.string ⟨(Lib.cut s.data.toList sep.data.toList).1.toArray⟩,.string ⟨(Lib.cut s.data.toList sep.data.toList).2.1.toArray⟩,.bool (Lib.cut s.data.toList sep.data.toList).2.2])∧∃n,w'=w.drewN n:=Any.strings_Cut Tryz.lays145 s sep m w hs hm
def Tryz.lays146_ren:Go.Shelf.Ren:=⟨fun|146=>82|221=>116|268=>142|138=>143|143=>144|195=>174|197=>175|218=>176|219=>138|260=>193|217=>83|225=>169|224=>170|267=>171|266=>117|314=>190|n=>n,fun|9=>9|31=>69|3=>3|4=>4|0=>0|105=>224|21=>21|5=>5|46=>85|119=>257|139=>260|138=>259|146=>238|51=>60|n=>n,fun|1=>0|3=>4|4=>5|n=>n⟩
theorem Tryz.lays146:Go.Proofs.Lays.n146 Tryz.prog Tryz.lays146_ren:={
  mixed:=by kernel_rfl
  f138:=Tryz.func143.trans (congrArg some (by kernel_rfl))
  f143:=Tryz.func144.trans (congrArg some (by kernel_rfl))
  f146:=Tryz.func82.trans (congrArg some (by kernel_rfl))
  f195:=Tryz.func174.trans (congrArg some (by kernel_rfl))
  f197:=Tryz.func175.trans (congrArg some (by kernel_rfl))
  f217:=Tryz.func83.trans (congrArg some (by kernel_rfl))
  f218:=Tryz.func176.trans (congrArg some (by kernel_rfl))
  f219:=Tryz.func138.trans (congrArg some (by kernel_rfl))
  f221:=Tryz.func116.trans (congrArg some (by kernel_rfl))
  f224:=Tryz.func170.trans (congrArg some (by kernel_rfl))
  f225:=Tryz.func169.trans (congrArg some (by kernel_rfl))
  f260:=Tryz.func193.trans (congrArg some (by kernel_rfl))
  f266:=Tryz.func117.trans (congrArg some (by kernel_rfl))
  f267:=Tryz.func171.trans (congrArg some (by kernel_rfl))
  f268:=Tryz.func142.trans (congrArg some (by kernel_rfl))
  f314:=Tryz.func190.trans (congrArg some (by kernel_rfl))
  t0:=Tryz.underlying0
  a0:=Tryz.isAgg0
  z0:=Tryz.sizeOf0
  v0:=Tryz.zeroValue0
  t3:=Tryz.underlying3
  a3:=Tryz.isAgg3
  z3:=Tryz.sizeOf3
  v3:=Tryz.zeroValue3
  t4:=Tryz.underlying4
  a4:=Tryz.isAgg4
  z4:=Tryz.sizeOf4
  v4:=Tryz.zeroValue4
  t5:=Tryz.underlying5
  a5:=Tryz.isAgg5
  z5:=Tryz.sizeOf5
  v5:=Tryz.zeroValue5
  t9:=Tryz.underlying9
  a9:=Tryz.isAgg9
  z9:=Tryz.sizeOf9
  v9:=Tryz.zeroValue9
  t21:=Tryz.underlying21
  a21:=Tryz.isAgg21
  z21:=Tryz.sizeOf21
  v21:=Tryz.zeroValue21
  t31:=Tryz.underlying69
  a31:=Tryz.isAgg69
  z31:=Tryz.sizeOf69
  v31:=Tryz.zeroValue69
  t46:=Tryz.underlying85
  a46:=Tryz.isAgg85
  z46:=Tryz.sizeOf85
  v46:=Tryz.zeroValue85
  t51:=Tryz.underlying60
  a51:=Tryz.isAgg60
  z51:=Tryz.sizeOf60
  v51:=Tryz.zeroValue60
  t105:=Tryz.underlying224
  a105:=Tryz.isAgg224
  z105:=Tryz.sizeOf224
  v105:=Tryz.zeroValue224
  t119:=Tryz.underlying257
  a119:=Tryz.isAgg257
  z119:=Tryz.sizeOf257
  t138:=Tryz.underlying259
  a138:=Tryz.isAgg259
  z138:=Tryz.sizeOf259
  v138:=Tryz.zeroValue259
  t139:=Tryz.underlying260
  a139:=Tryz.isAgg260
  z139:=Tryz.sizeOf260
  v139:=Tryz.zeroValue260
  t146:=Tryz.underlying238
  a146:=Tryz.isAgg238
  z146:=Tryz.sizeOf238
  v146:=Tryz.zeroValue238
  g1:=by kernel_rfl
  g3:=by kernel_rfl
  g4:=by kernel_rfl}
open Go.RowKit Go.Lib in
theorem Tryz.strings_Split(s sep:ByteArray)(m:Int)(w:World)(hs:s.size<4294967281)(hm:w.cell? ⟨0,0,none⟩=some (.int .i64 m))(h1:1≤sep.size):
 Calls Tryz.prog 82 #[.string s,.string sep] w fun e w'=>
  e=.returned (.slice (some ⟨w.heap.size,0,none⟩) (Lib.countB s sep+1) (Lib.countB s sep+1))∧w'=w.alloc (.cells ((Lib.splitB sep 0 (Lib.countB s sep) s).map Value.string).toArray 9):=Any.strings_Split Tryz.lays146 (by kernel_rfl) s sep m w hs hm h1
end Go.Proofs
namespace Go.Proofs.YtenojajfacacoaaGreatDoor
open Go.RowKit
set_option maxHeartbeats 4000000
set_option maxRecDepth 100000
variable {W0 w:World}{K:Know}{L:List Res}
theorem zPc{f:FuncId}{a:Array Value}{r:Value}(c:Calls Tryz.prog f a w fun e w'=>e=.returned r∧w'=w)(h:St W0 w K L):Calls Tryz.prog f a w fun e w'=>e=.returned r∧St W0 w' K L:=
 c.mono (by rintro e w' ⟨rfl,rfl⟩;exact⟨rfl,h⟩)
theorem zGD(c:UInt8)(v:Int)(hv:digI c=v)(h:St W0 w K L):
  Calls Tryz.prog 45 #[.string ⟨#[48,49,50,51,52,53,54,55,56,57,97,98,99,100,101,102]⟩,.int .u8 c.toNat] w fun e w'=>e=.returned (.int .i64 v)∧St W0 w' K L:=by
 have h1:=Tryz.strings_IndexByte ⟨#[48,49,50,51,52,53,54,55,56,57,97,98,99,100,101,102]⟩ c.toNat w
 have e1:Lib.indexByte (⟨#[48,49,50,51,52,53,54,55,56,57,97,98,99,100,101,102]⟩:ByteArray).data.toList ((c.toNat:Int).toNat.toUInt8)=v:=by
  have e2:(c.toNat:Int).toNat.toUInt8=c:=by rw[Int.toNat_natCast];exact UInt8.ofNat_toNat
  rw[e2];exact hv
 rw[e1]at h1;exact zPc h1 h
theorem or_all:∀a b:Fin 16,bits BinOp.or IntKind.i64 ((a.1:Int)*16) (b.1:Int)=(a.1:Int)*16+(b.1:Int):=by decide+kernel
theorem or_hex(va vb:Int)(ha:0≤va∧va<16)(hb:0≤vb∧vb<16):bits BinOp.or IntKind.i64 (va*16) vb % 256=(((UInt8.ofNat (va*16+vb).toNat).toNat:Nat):Int):=by
 have h:=or_all ⟨va.toNat,by omega⟩ ⟨vb.toNat,by omega⟩;simp only at h;rw[Int.toNat_of_nonneg ha.1,Int.toNat_of_nonneg hb.1]at h;rw[h,UInt8.toNat_ofNat']
 omega
theorem zJy(s:Bs)(h1:s≠[45])(h2:s=[]∨s.length % 2≠0)(hs:s.length≤1000000)(h:St W0 w K L):
   Calls Tryz.prog 18 #[.string (bb s)] w fun en w'=>en=.returned (.tuple #[.string ⟨#[]⟩,.bool false])∧St W0 w' K L:=by
 have q1:(s==[45])=false:=by rw[beq_eq_false_iff_ne];exact h1
 have H:=hQd h
 rcases h2 with rfl|h2
 · clear h h1;go_enter Tryz.func18,Tryz.ntmps18;go_wp2;go_ret2;exact⟨rfl,H.out⟩
 · have q3:(s==[])=false:=by rw[beq_eq_false_iff_ne];rintro rfl;exact h2 rfl
   have q4:(s !=[])=true:=by simp[bne,q3]
   have hsl:(s.length:Int)≤1000000:=by omega
   have q5:(s.length:Int) % 2=1:=by omega
   have q6:(s.length:Int).tmod 2=1:=by rw[Int.tmod_eq_emod_of_nonneg (by omega)];exact q5
   clear h h1 h2;go_enter Tryz.func18,Tryz.ntmps18;go_wp2;go_ret2;exact⟨rfl,H.out⟩
theorem zHf(h:St W0 w K L):
  Calls Tryz.prog 18 #[.string ⟨#[45]⟩] w fun en w'=>en=.returned (.tuple #[.string ⟨#[]⟩,.bool true])∧St W0 w' K L:=by
 have H:=hQd h;clear h;go_enter Tryz.func18,Tryz.ntmps18;go_wp2;go_ret2;exact⟨rfl,H.out⟩
def hexR (s:Bs):Bs×Bool:=match zBL s with
  |some c=>(c,true)
  |none=>([],false)
theorem zJz(s:Bs)(h1:s≠[45])(h2:s≠[])(h3:s.length % 2=0)(hs:s.length≤1000000)(h:St W0 w K L):
  Calls Tryz.prog 18 #[.string (bb s)] w fun en w'=>en=.returned (.tuple #[.string (bb (hexR s).1),.bool (hexR s).2])∧St W0 w' K L:=by
 have q1:(s==[45])=false:=by rw[beq_eq_false_iff_ne];exact h1
 have q3:(s==[])=false:=by rw[beq_eq_false_iff_ne];exact h2
 have q4:(s !=[])=true:=by simp[bne,q3]
 have hsl:(s.length:Int)≤1000000:=by omega
 have q5:(s.length:Int) % 2=0:=by omega
 have q6:(s.length:Int).tmod 2=0:=by rw[Int.tmod_eq_emod_of_nonneg (by omega)];exact q5
 have H3:=hQd h3;have H2:=hQd h2;obtain⟨b,hb⟩:∃b,w.heap.size=b:=⟨_,rfl⟩;have g1:=h.sbNew;rw[hb]at g1;have H:=hQd g1;clear h g1 h1 h2 h3;go_enter Tryz.func18,Tryz.ntmps18;go_wp2_with fail;go_loopw [5] (fun iv wr=>∃(j:Nat) (d:Bs),j≤s.length∧iv=.int .i64 j∧Hid (j % 2=0)∧Hid (d.length≤j)∧Hid (zBL s=(zBL (s.drop j)).map (d++ ·))∧St W0 wr K (.gen (sbG b d)::L)) (fun iv _=>s.length - (intOf iv).toNat)
 case atStart=>exact⟨0,[],Nat.zero_le _,rfl,hQd rfl,hQd (Nat.le_refl _),hQd (by rw[List.drop_zero];cases zBL s<;>rfl),H.out⟩
 case round=>
  obtain⟨j,d,hj,rfl,HJ,HD,HX,hst⟩:=hrel;clear H;have H:=hQd hst;clear hst
  by_cases hlt:j<s.length
  · have hj1:j+1<s.length:=by have:=HJ.out;have:=H3.out;omega
    have hi0:(j:Int)<(s.length:Int):=by omega
    have hi1:(j:Int)+1<(s.length:Int):=by omega
    have hi2:0≤(j:Int)+1:=by omega
    have hi3:0≤(j:Int)+1∧(j:Int)+1<(s.length:Int):=⟨hi2,hi1⟩;obtain⟨va,hva⟩:∃v,digI (s[j]'hlt)=v:=⟨_,rfl⟩;obtain⟨vb,hvb⟩:∃v,digI (s[j+1]'hj1)=v:=⟨_,rfl⟩;have HA:=hQd hva;have HB:=hQd hvb;have ca:=zC4 (s[j]'hlt);have cb:=zC4 (s[j+1]'hj1);rw[hva]at ca;rw[hvb]at cb;clear hva hvb
    by_cases hab:va= -1∨vb= -1
    · have HZ:=hQd (show hexR s=([],false) by unfold hexR;rw[zM9 s d j hj1 HX.out (by rw[HA.out,HB.out];exact hab)]);have ya:va<0∨0≤va:=by omega
      have yb:vb<0∨0≤vb:=by omega
      clear ca cb
      rcases ya with ya|ya
      · have z1:decide (va<0)=true:=decide_eq_true ya;clear hab yb
        go_wp2_with (first
  |(go_at_call 45;(with_reducible refine(zGD _ va ?_ H.out).mono ?_);exact HA.out;rintro e_ wn ⟨rfl,h⟩;replace H:=hQd h;clear h)
  |(go_at_call 45;(with_reducible refine(zGD _ vb ?_ H.out).mono ?_);exact HB.out;rintro e_ wn ⟨rfl,h⟩;replace H:=hQd h;clear h))
        go_ret2;rw[HZ.out];exact⟨rfl,H.out.drop⟩
      · have yb:vb<0:=by omega
        have z0:¬va<0:=by omega
        have z1:decide (va<0)=false:=decide_eq_false z0;have z2:decide (vb<0)=true:=decide_eq_true yb;clear hab
        go_wp2_with (first
  |(go_at_call 45;(with_reducible refine(zGD _ va ?_ H.out).mono ?_);exact HA.out;rintro e_ wn ⟨rfl,h⟩;replace H:=hQd h;clear h)
  |(go_at_call 45;(with_reducible refine(zGD _ vb ?_ H.out).mono ?_);exact HB.out;rintro e_ wn ⟨rfl,h⟩;replace H:=hQd h;clear h))
        go_ret2;rw[HZ.out];exact⟨rfl,H.out.drop⟩
    · have ya:0≤va∧va<16:=by omega
      have yb:0≤vb∧vb<16:=by omega
      have z1:¬va<0:=by omega
      have z2:¬vb<0:=by omega
      have z3:decide (va<0)=false:=decide_eq_false z1;have z4:decide (vb<0)=false:=decide_eq_false z2;have HS:=hQd (zLF s d j hj1 HX.out (by rw[HA.out];omega) (by rw[HB.out];omega));have HL:=hQd (show d.length≤1000000000000 by have:=HD.out;omega);clear ca cb hab;obtain⟨y,hy⟩:∃y,UInt8.ofNat (digI (s[j]'hlt)*16+digI (s[j+1]'hj1)).toNat=y:=⟨_,rfl⟩;rw[hy]at HS;have HOR:=hQd (show bits BinOp.or IntKind.i64 (va*16) vb % 256=((y.toNat:Nat):Int) by rw[←hy,HA.out,HB.out];exact or_hex va vb ya yb);have HD2:=hQd (show(d++[y]).length≤j+2 by rw[List.length_append,List.length_singleton];have:=HD.out;omega);have HJ2:=hQd (show(j+2) % 2=0 by have:=HJ.out;omega);clear hy
      go_wp2_with (first
  |(go_at_call 45;(with_reducible refine(zGD _ va ?_ H.out).mono ?_);exact HA.out;rintro e_ wn ⟨rfl,h⟩;replace H:=hQd h;clear h)
  |(go_at_call 45;(with_reducible refine(zGD _ vb ?_ H.out).mono ?_);exact HB.out;rintro e_ wn ⟨rfl,h⟩;replace H:=hQd h;clear h)
  |(go_at_call 46;rw[HOR.out];(with_reducible refine(zPi b d y HL.out H.out).mono ?_);rintro e_ wn ⟨rfl,h⟩;replace H:=hQd h;clear h))
      go_roundw
      case rel=>exact⟨j+2,d++[y],by omega,by go_num,HJ2,HD2,HS,H.out⟩
      case measure=>first|(simp[intOf];done)|(simp[intOf];omega)
  · obtain rfl:j=s.length:=by omega
    have hx:=HX.out;rw[List.drop_length]at hx;have hx2:zBL s=some d:=by rw[hx];show some (d++[])=some d;rw[List.append_nil]
    have HZ:=hQd (show hexR s=(d,true) by unfold hexR;rw[hx2]);have HDN:=hQd (show d≠[]from fun e=>by subst e;exact H2.out (zF1 s [] hx2).symm);clear hx hx2;go_wp2_with (go_at_call 47;(with_reducible refine(zMk b d HDN.out H.out).mono ?_);rintro e_ wn ⟨rfl,h⟩;replace H:=hQd h;clear h);go_ret2;rw[HZ.out];exact⟨rfl,H.out⟩
def hexV (s:Bs):Bs×Bool:=match zIT s with
  |some c=>(c,true)
  |none=>([],false)
theorem zN7(s:Bs)(hs:s.length≤1000000)(h:St W0 w K L):
   Calls Tryz.prog 18 #[.string (bb s)] w fun en w'=>en=.returned (.tuple #[.string (bb (hexV s).1),.bool (hexV s).2])∧St W0 w' K L:=by
 by_cases h1:s=[45]
 · subst h1;exact zHf h
 by_cases h2:s=[]∨s.length % 2≠0
 · have e:hexV s=([],false):=by
    unfold hexV zIT;rw[if_neg h1]
    by_cases h3:s=[]
    · rw[if_pos h3]
    · rw[if_neg h3,zIU s (h2.resolve_left h3)]
   rw[e];exact zJy s h1 h2 hs h
 · have h3:s≠[]:=fun e=>h2 (.inl e)
   have e:hexV s=hexR s:=by
    unfold hexV zIT hexR;rw[if_neg h1,if_neg h3]
   rw[e];exact zJz s h1 h3 (by omega) hs h
def Know.blk (g:Nat) (P:Obj→Prop):Know:=⟨fun w F=>F g∧∃o,w.heap[g]? =some o∧P o,
  fun w w' F h hs hk=>⟨h.1,by obtain⟨o,h1,h2⟩:=h.2;exact⟨o,(hk g (by rcases Nat.lt_or_ge g w.heap.size with h3|h3;exact h3;rw[Array.getElem?_eq_none h3]at h1;cases h1) h.1).trans h1,h2⟩⟩,
  fun _ _ _ h hs=>⟨hs _ h.1,h.2⟩⟩
def isMax (o:Obj):Prop:=∃m c T fz,o=.cells c T fz∧c[0]? =some (.int .i64 m)
def isErr (o:Obj):Prop:=∃te pe T fz,o=.cells #[.iface te pe] T fz
def isPow (o:Obj):Prop:=∃T fz,o=.cells (Lib.pow10Tab.map fun z=>Value.int .u64 z).toArray T fz
def Know.lib:Know:=((Know.blk 0 isMax).and (Know.blk 1 isPow)).and ((Know.blk 6 isErr).and (Know.blk 7 isErr))
theorem zM2(hk:K.has Know.lib)(h:St W0 w K L):∃m,w.cell? ⟨0,0,none⟩=some (.int .i64 m):=by
 obtain⟨F,hF,_⟩:=h.get;obtain⟨_,o,h1,m,c,T,fz,rfl,hc⟩:=(hk _ _ hF).1.1;exact⟨m,by simp[World.cell?,h1,hc]⟩
theorem zPR(hk:K.has Know.lib)(h:St W0 w K L):Lib.TabIs Tryz.prog w "internal/strconv.uint64pow10" .u64 Lib.pow10Tab:=by
 obtain⟨F,hF,_⟩:=h.get;obtain⟨_,o,h1,T,fz,rfl⟩:=(hk _ _ hF).1.2;have hg:Tryz.prog.globalNamed "internal/strconv.uint64pow10" =some 1:=by kernel_rfl
 unfold Lib.TabIs World.var?;rw[hg,Option.bind_some,h1]
theorem St.below'{w':World}(h:St W0 w K L)(hb:Below w.heap.size w w'):St W0 w' K L:=
 h.quiet (M:=fun _=>False) ⟨hb.os,hb.tape,hb.output,hb.size,fun k hk _=>hb.block k hk⟩ (fun _ _ h=>h)
theorem St.grown(h:St W0 w K L)(os:Array Obj):St W0 (Sort.grow w os) K L:=
 h.quiet (M:=fun _=>False) ⟨rfl,rfl,rfl,by simp,fun k hk _=>Sort.heap_grow_old w os hk⟩ (fun _ _ h=>h)
def zNO (s:Bs):Int:=match Lib.atoiAll s with
  | .ok v=>v
  | .range=>Lib.atoiSat s
  | _ => 0
theorem zPd(n:Int)(h0: -9223372036854775808≤n)(h1:n≤9223372036854775807)(hk:K.has Know.lib)(h:St W0 w K L):
  Calls Tryz.prog 37 #[.int .i64 n] w fun e w'=>e=.returned (.string (bb (Lib.itoa n)))∧St W0 w' K L:=
 (Tryz.strconv_Itoa n h0 h1 w (zPR hk h)).mono (by rintro e w' ⟨rfl,k,os,rfl⟩;exact⟨rfl,(h.drewN k).grown os⟩)
theorem sl_cut(s sp a b:Bs)(f:Bool)(hc:Lib.cut s sp=(a,b,f))(hs:s.length≤1000000)(hk:K.has Know.lib)(h:St W0 w K L):
  Calls Tryz.prog 80 #[.string (bb s),.string (bb sp)] w fun e w'=>e=.returned (.tuple #[.string (bb a),.string (bb b),.bool f])∧St W0 w' K L:=by
 obtain⟨m,hm⟩:=zM2 hk h;have h1:=Tryz.strings_Cut (bb s) (bb sp) m w (by have hz:(bb s).size=s.length:=(by simp);omega) hm;have d1:(bb s).data.toList=s:=by simp
 have d2:(bb sp).data.toList=sp:=by simp
 rw[d1,d2,hc]at h1;exact h1.mono (by rintro e w' ⟨rfl,n,rfl⟩;exact⟨rfl,h.drewN n⟩)
def zDW (s:Bs):List ByteArray:=Lib.splitB (bb [32]) 0 (Lib.countB (bb s) (bb [32])) (bb s)
theorem zN1(s:Bs)(ws:List Bs)(hw:zDW s=ws.map bb)(hs:s.length≤1000000)(hk:K.has Know.lib)(h:St W0 w K L):
  Calls Tryz.prog 82 #[.string (bb s),.string (bb [32])] w fun e w'=>∃b,e=.returned (.slice (some ⟨b,0,none⟩) ws.length ws.length)∧St W0 w' K (.raw b (ws.map fun x=>Value.string (bb x)).toArray 9::L):=by
 obtain⟨m,hm⟩:=zM2 hk h;have h1:=Tryz.strings_Split (bb s) (bb [32]) m w (by have hz:(bb s).size=s.length:=(by simp);omega) hm (by decide)
 have e1:Lib.countB (bb s) (bb [32])+1=ws.length:=by
  have h2:=Lib.splitB_all (bb [32]) (by decide) 0 _ (bb s) rfl;have h3:(zDW s).length=ws.length:=by rw[hw,List.length_map]
  unfold zDW at h3
  omega
 have e2:(Lib.splitB (bb [32]) 0 (Lib.countB (bb s) (bb [32])) (bb s)).map Value.string=ws.map fun x=>Value.string (bb x):=by
  show(zDW s).map Value.string=_
  rw[hw,List.map_map]
  rfl
 rw[e1,e2]at h1;exact h1.mono (by rintro e w' ⟨rfl,rfl⟩;exact⟨_,rfl,h.allocRaw _ _⟩)
theorem zNN(s:Bs): -9223372036854775808≤zNO s∧zNO s<9223372036854775808:=by
 unfold zNO
 cases h:Lib.atoiAll s with
 |ok v=>
  unfold Lib.atoiAll at h
  split at h
  · cases h
  · rename_i c r
    simp only at h
    split at h
    · cases h
    · cases h
    · rename_i u _
      split at h
      · cases h
      · split at h
        · cases h
        · injection h with h
          by_cases hc:c.toNat=45
          · rw[if_pos hc]at h;simp only;omega
          · rw[if_neg hc]at h;simp only;omega
 |range=>simp only;unfold Lib.atoiSat;split<;>omega
 | _ =>simp
def zHB (s:Bs):Option Int:=if Lib.itoa (zNO s)=s then some (zNO s)else none
def zBK:List Bs→Option (List Int)
  |[]=>some []
  |w::t=>match zHB w with
    |none=>none
    |some v=>(zBK t).map (v:: ·)
theorem zGS:∀(l:List Bs) (vs:List Int),zBK l=some vs→vs.length=l.length
  |[],vs,h=>by unfold zBK at h;injection h with h;subst h;rfl
  |a::t,vs,h=>by
    unfold zBK at h
    cases ha:zHB a with
    |none=>rw[ha]at h;cases h
    |some x=>
      rw[ha]at h;simp only at h
      cases ht:zBK t with
      |none=>rw[ht]at h;cases h
      |some y=>rw[ht]at h;injection h with h;subst h;simp[zGS t y ht]
def Know.strw (wb off:Nat) (ws:List Bs):Know:=⟨fun w F=>F wb∧wb<w.heap.size∧∀j x,ws[j]? =some x→w.cell? ⟨wb,off+j,Option.none⟩=some (.string (bb x)),
  fun _ _ _ h hs hk=>⟨h.1,Nat.lt_of_lt_of_le h.2.1 hs,fun j u hu=>(World.cell?_of_block (a:=⟨wb,off+j,Option.none⟩) (hk wb h.2.1 h.1)).trans (h.2.2 j u hu)⟩,
  fun _ _ _ h hs=>⟨hs _ h.1,h.2.1,h.2.2⟩⟩
theorem St.strs{W0 w:World}{K:Know}{L:List Res}{wb:Nat}{ws:List Bs}{T:TypeId}(h:St W0 w K (.raw wb (ws.map fun x=>Value.string (bb x)).toArray T::L)):St W0 w (K.and (Know.strw wb 0 ws)) L:=
 h.freeze fun F S1 _ hr=>⟨.inr ⟨(hr.2 wb).2 rfl,zA2 hr.1⟩,zA2 hr.1,fun j x hx=>by
  rw[Nat.zero_add,zAM hr.1 j]
  simp[hx]⟩
def letB (a t c:Bool):Bs:=(if a then[97]else[])++((if t then[116]else[])++(if c then[99]else[]))
def letW (a t c:Bool):Bs:=if letB a t c=[]then[45]else letB a t c
def hasB (s:Bs) (c:UInt8):Bool:=decide (0≤Lib.indexByte s c)
def letOk (s:Bs):Bool:=letW (hasB s 97) (hasB s 116) (hasB s 99)==s
theorem zEE{P:Program}{fn:Func}{p t:Tmp}{ty:TypeId}(h:fn.results= #[.cell p ty,.tmp t])(tmps:Array Value)(w:World)(b:Nat)(cs:List Value)(d:TypeDesc)
    (hp:tmps.getD p undef=.pointer (some ⟨b,0,none⟩))(hc:w.rangeAt b 0 cs)(hu:P.underlying ty=some d)(hd:d.isRow=true)(hi:(P.info? ty).map (·.size)=some cs.length):
    (results fn tmps).run P w=.ok (.tuple #[.agg cs.toArray,tmps.getD t undef]) w:=by
  have hp':tmps[p]?.getD undef=.pointer (some ⟨b,0,none⟩):=by simpa using hp
  simp[results,h,hp',asAddr,run_loadVar_mid w b 0 ty cs d hc hu hd hi]
theorem zIC{W0 w:World}{K:Know}{L:List Res}{b:Nat}{c:List Value}{T:TypeId}(h:St W0 w K (.raw b c.toArray T::L)):w.rangeAt b 0 c:=by
 intro j v hv;rw[Nat.zero_add,h.rawCell j]
 simpa using hv
structure BtR where
  b:BatS
  l:List (RecS×Value)
  v:Value
def zP9 (b:BatS) (v:Value):List Value:=[.int .i64 b.base,.int .i64 b.leader,.bool b.app,.bool b.txn,.bool b.ctl,.int .i64 b.last,.int .i64 b.first,.int .i64 b.maxt,.int .i64 b.prod,.int .i64 b.epoch,.int .i64 b.seq,v]
def zNC (x:BtR):List Value:=zP9 x.b x.v
inductive BSt
  |zero
  |bat (d:List BtR) (b:BatS)
  |recd (d:List BtR) (b:BatS) (l:List (RecS×Value)) (r:RecS)
def BSt.n:BSt→Nat
  | .zero=>0
  | .bat d _=>d.length+1
  | .recd d _ _ _=>d.length+1
def BSt.m:BSt→Nat
  | .recd _ _ l _=>l.length+1
  | _=>0
def BSt.p:BSt→Nat
  | .recd _ _ _ r=>r.hdrs.length
  | _=>0
def BSt.xs:BSt→Value→List Value
  | .zero,_=>[]
  | .bat d b,v=>d.flatMap zNC++zP9 b v
  | .recd d b _ _,v=>d.flatMap zNC++zP9 b v
def BSt.ys:BSt→Value→List Value
  | .recd _ _ l r,v=>l.flatMap zFG++zFG (r,v)
  | _,_=>[]
def BSt.zs:BSt→List Value
  | .recd _ _ _ r=>r.hdrs.flatMap hcells
  | _=>[]
def BSt.known (K:Know):BSt→Prop
  | .zero=>True
  | .bat d _=>∀x∈d,K.has (Know.recs x.v x.l)
  | .recd d _ l _=>(∀x∈d,K.has (Know.recs x.v x.l))∧∀x∈l,K.has (Know.flat RHdr x.2 3 x.1.hdrs)
def BSt.rows (s:BSt) (vB vR vH:Value) (L:List Res):List Res:=.row vB 30 12 s.n (s.xs vR)::.row vR 54 7 s.m (s.ys vH)::.row vH 73 3 s.p s.zs::L
theorem BSt.known.mono{K K':Know}{s:BSt}(h:s.known K)(hk:K'.has K):s.known K':=by
 cases s with
 |zero=>trivial
 |bat d b=>exact fun x hx=>Know.has_trans hk (h x hx)
 |recd d b l r=>exact⟨fun x hx=>Know.has_trans hk (h.1 x hx),fun x hx=>Know.has_trans hk (h.2 x hx)⟩
theorem St.p6{W0 w:World}{K:Know}{a b c d e f g:Res}{L:List Res}(h:St W0 w K (a::b::c::d::e::f::g::L)):St W0 w K (g::a::b::c::d::e::f::L):=St.p5 (h.map fun _ h=>h.cons fun _ h=>h.cons fun _ h=>h.cons fun _ h=>h.cons fun _ h=>h.cons fun _=>Holds.swap)
theorem zMb{W0:World}{K:Know}{wb off:Nat}{ws:List Bs}(hk:K.has (Know.strw wb off ws))(j:Nat)(x:Bs)(hx:ws[j]? =some x):∀(w':World) (L':List Res),St W0 w' K L'→w'.cell? ⟨wb,off+j,none⟩=some (.string (bb x)):=fun w' L' h'=>by
  obtain⟨F,hF,_⟩:=h'.get;exact(hk _ _ hF).2.2 j x hx
theorem zPe(s a b:Bs)(f:Bool)(hc:Lib.cut s [10]=(a,b,f))(hs:s.length≤1000000)(hk:K.has Know.lib)(h:St W0 w K L):
 Calls Tryz.prog 80 #[.string (bb s),.string ⟨#[10]⟩] w fun e w'=>e=.returned (.tuple #[.string (bb a),.string (bb b),.bool f])∧St W0 w' K L:=sl_cut s [10] a b f hc hs hk h
theorem zMe(s:Bs)(ws:List Bs)(n:Nat)(hn:ws.length=n)(hw:zDW s=ws.map bb)(hs:s.length≤1000000)(hk:K.has Know.lib)(h:St W0 w K L):
  Calls Tryz.prog 82 #[.string (bb s),.string ⟨#[32]⟩] w fun e w'=>∃b,e=.returned (.slice (some ⟨b,0,none⟩) n n)∧St W0 w' K (.raw b (ws.map fun x=>Value.string (bb x)).toArray 9::L):=by
 subst hn;exact zN1 s ws hw hs hk h
def zC9 (s:Bs):Bool×Bs×Bool:=if s=[110,111,110,101]then(true,[],true)else(false,(hexV s).1,(hexV s).2)
inductive Said
  |chunks (l:List Int)
  |cut (n:Int)
  |bat (b:BatS)
  |recd (r:RecS)
  |hdr (h:HdrS)
def zML (r:List Bs):Option BatS:=match zBK (r.take 8),r.drop 8 with
  |some [n0,n1,n2,n3,n4,n5,n6,n7],[t]=>if letOk t then some ⟨n0,n1,hasB t 97,hasB t 116,hasB t 99,n2,n3,n4,n5,n6,n7,[]⟩else none
  | _,_=>none
def zLs:List Bs→Option RecS
  |[a,b,kw,vw]=>match zBK [a,b]with
    |some [t,o]=>if (zC9 kw).2.2 && (zC9 vw).2.2 then some ⟨t,o,⟨(zC9 kw).1,(zC9 kw).2.1⟩,⟨(zC9 vw).1,(zC9 vw).2.1⟩,[]⟩else none
    | _=>none
  | _=>none
def zMI:List Bs→Option HdrS
  |[kw,vw]=>if (hexV kw).2 && (zC9 vw).2.2 then some ⟨(hexV kw).1,⟨(zC9 vw).1,(zC9 vw).2.1⟩⟩else none
  | _=>none
def zMK:List Bs→Option Int
  |[x]=>match zHB x with
    |some n=>if n<0 then none else some n
    |none=>none
  | _=>none
def zDB (r:List Bs):Option (List Int):=if r=[]then none else zBK r
def zGN (n m:Nat) (c:Int) (ch:List Int):List Bs→Option Said
  |[]=>none
  |w::r=>if ch≠[]then none
    else if w=[99,104,117,110,107,115]then(zDB r).map .chunks
    else if c≠ -1 then none
    else if w=[99,117,116]then(zMK r).map .cut
    else if w=[98,97,116,99,104]then(zML r).map .bat
    else if w=[114,101,99,111,114,100]then(if n=0 then none else(zLs r).map .recd)
    else if w=[104,101,97,100,101,114]then(if n=0∨m=0 then none else(zMI r).map .hdr)
    else none
def BSt.close:BSt→Value→Value→List BtR
  | .zero,_,_=>[]
  | .bat d b,vR,_=>d++[⟨b,[],vR⟩]
  | .recd d b l r,vR,vH=>d++[⟨b,l++[(r,vH)],vR⟩]
def BSt.put (s:BSt) (vR vH:Value):Said→BSt
  | .chunks _=>s
  | .cut _=>s
  | .bat b=> .bat (s.close vR vH) b
  | .recd r=>match s with
    | .zero=>s
    | .bat d b=> .recd d b [] r
    | .recd d b l r0=> .recd d b (l++[(r0,vH)]) r
  | .hdr h=>match s with
    | .recd d b l r=> .recd d b l ⟨r.time,r.off,r.key,r.val,r.hdrs++[h]⟩
    |s=>s
def zHO (c:Int):Said→Int
  | .cut n=>n
  | _=>c
def chOf (ch:List Int):Said→List Int
  | .chunks l=>l
  | _=>ch
def RInt (cs:List Value) (x:Int):Prop:=cs=[.int .i64 x]
def MemS (rd:Nat) (s:BSt) (c:Int) (ch:List Int) (W0 w:World) (K:Know) (L:List Res):Prop:=∃vB vR vH q cap,St W0 w K (.raw rd #[vB,.int .i64 c,.slice q ch.length cap] 122::s.rows vB vR vH L)∧s.known K∧K.has (Know.flat RInt (.slice q ch.length cap) 1 ch)
def Came (rd:Nat) (s:BSt) (c:Int) (ch:List Int) (o:Option Said) (W0:World) (K:Know) (L:List Res) (b:Bool) (w':World):Prop:=∃K',K'.has K∧match o with
  |none=>b=false∧St W0 w' K' L
  |some k=>b=true∧∃vR vH,MemS rd (s.put vR vH k) (zHO c k) (chOf ch k) W0 w' K' L
theorem Came.no{rd:Nat}{s:BSt}{c:Int}{ch:List Int}{o:Option Said}{W0 w':World}{K:Know}{L:List Res}(ho:o=none)(h:St W0 w' K L):Came rd s c ch o W0 K L false w':=by
 subst ho;exact⟨K,Know.has_refl _,rfl,h⟩
def zBg (c:UInt8):Bs→List Bs
  |[]=>[[]]
  |x::t=>if x=c then[]::zBg c t else match zBg c t with
    |[]=>[[x]]
    |h::r=>(x::h)::r
theorem zDD(c:UInt8):∀s:Bs,∃h r,zBg c s=h::r
  |[]=>⟨_,_,rfl⟩
  |x::t=>by
    obtain⟨h,r,e⟩:=zDD c t;unfold zBg
    by_cases hx:x=c
    · rw[if_pos hx];exact⟨_,_,rfl⟩
    · rw[if_neg hx,e];exact⟨_,_,rfl⟩
theorem zLx(c:UInt8)(x:UInt8)(t:Bs)(hx:x=c):zBg c (x::t)=[]::zBg c t:=by
 show(if x=c then[]::zBg c t else match zBg c t with|[]=>[[x]]|h::r=>(x::h)::r)=_
 rw[if_pos hx]
theorem zJU(c:UInt8)(x:UInt8)(t h:Bs)(r:List Bs)(hx:¬x=c)(e:zBg c t=h::r):zBg c (x::t)=(x::h)::r:=by
 show(if x=c then[]::zBg c t else match zBg c t with|[]=>[[x]]|h::r=>(x::h)::r)=_
 rw[if_neg hx,e]
def zAP (c:UInt8):List Bs→Bs
  |[]=>[]
  |[w]=>w
  |w::t=>w++c::zAP c t
theorem zEl(c:UInt8)(w h:Bs)(t:List Bs):zAP c (w::h::t)=w++c::zAP c (h::t):=rfl
theorem zGT(c:UInt8):∀s:Bs,zAP c (zBg c s)=s
  |[]=>rfl
  |x::t=>by
    have ih:=zGT c t;obtain⟨h,r,e⟩:=zDD c t
    by_cases hx:x=c
    · rw[zLx c x t hx,e,zEl,←e,ih,hx];rfl
    · rw[zJU c x t h r hx e];rw[e]at ih
      rcases r with _|⟨h2,r⟩
      · show x::h=x::t
        rw[show h=t from ih]
      · show zAP c ((x::h)::h2::r)=_
        rw[zEl]at ih ⊢;rw[←ih];rfl
def nOf (n:Nat):Said→Nat
  | .bat _=>n+1
  | _=>n
def mOf (m:Nat):Said→Nat
  | .bat _=>0
  | .recd _=>m+1
  | _=>m
def zGP (n m:Nat) (c:Int) (ch:List Int) (ln:Nat):List Bs→Nat
  |[]=>0
  |[l]=>if l=[]then 0 else ln
  |l::r=>match zGN n m c ch (zBg 32 l)with
    |none=>ln
    |some k=>zGP (nOf n k) (mOf m k) (zHO c k) (chOf ch k) (ln+1) r
def numW (n:Int):Bs:=Lib.itoa n
def zNI (b:BlobS):Bs:=if b.null then[110,111,110,101]else hexW b.data
def hdrT (h:HdrS):Bs:=[104,101,97,100,101,114]++32::(hexW h.key++32::(zNI h.val++[10]))
def recH (r:RecS):Bs:=[114,101,99,111,114,100]++32::(numW r.time++32::(numW r.off++32::(zNI r.key++32::(zNI r.val++[10]))))
def recT (r:RecS):Bs:=recH r++r.hdrs.flatMap hdrT
def zPH (l:List Int):Bs:=l.flatMap fun n=>32::numW n
def batN (b:BatS):List Int:=[b.base,b.leader,b.last,b.first,b.maxt,b.prod,b.epoch,b.seq]
def batL (b:BatS):Bs:=[98,97,116,99,104]++(zPH (batN b)++32::(letW b.app b.txn b.ctl++[10]))
def btT (x:BtR):Bs:=batL x.b++x.l.flatMap fun y=>recT y.1
def cutT (c:Int):Bs:=if c<0 then[]else[99,117,116]++32::(numW c++[10])
def chT (l:List Int):Bs:=if l=[]then[]else[99,104,117,110,107,115]++(zPH l++[10])
def BSt.txt:BSt→Bs
  | .zero=>[]
  | .bat d b=>d.flatMap btT++batL b
  | .recd d b l r=>d.flatMap btT++(batL b++(l.flatMap (fun y=>recT y.1)++recT r))
def txtS (s:BSt) (c:Int) (ch:List Int):Bs:=s.txt++(cutT c++chT ch)
def oddB (b:BlobS):Bool:=b.null && !b.data.isEmpty
def zHs (r:RecS):Prop:=oddB r.key=false∧oddB r.val=false∧(∀h∈r.hdrs,oddB h.val=false)∧Rn r.time∧Rn r.off
def batR (b:BatS):Prop:=∀n∈batN b,Rn n
def zND (x:BtR):Prop:=batR x.b∧∀y∈x.l,zHs y.1
def BSt.fine:BSt→Prop
  | .zero=>True
  | .bat d b=>(∀x∈d,zND x)∧batR b
  | .recd d b l r=>(∀x∈d,zND x)∧batR b∧(∀y∈l,zHs y.1)∧zHs r
theorem zIO{x:Bs}{v:Int}(h:zHB x=some v):numW v=x:=by
 unfold zHB at h
 split at h
 · rename_i e
   injection h with h;subst h;exact e
 · cases h
theorem zEi:∀{l:List Bs}{vs:List Int},zBK l=some vs→vs.map numW=l
  |[],vs,h=>by unfold zBK at h;injection h with h;subst h;rfl
  |a::t,vs,h=>by
    unfold zBK at h
    cases ha:zHB a with
    |none=>rw[ha]at h;cases h
    |some x=>
      rw[ha]at h;simp only at h
      cases ht:zBK t with
      |none=>rw[ht]at h;cases h
      |some y=>rw[ht]at h;injection h with h;subst h;rw[List.map_cons,zIO ha,zEi ht]
theorem zGR{l:List Bs}{vs:List Int}(h:zBK l=some vs):zPH vs=l.flatMap fun w=>32::w:=by
 rw[←zEi h,List.flatMap_map];rfl
theorem zIN{x:Bs}{v:Int}(h:zHB x=some v):Rn v:=by
 unfold zHB at h
 split at h
 · injection h with h;subst h;exact zNN x
 · cases h
theorem zC0:∀{l:List Bs}{vs:List Int},zBK l=some vs→∀v∈vs,Rn v
  |[],vs,h=>by unfold zBK at h;injection h with h;subst h;exact fun v hv=>by cases hv
  |a::t,vs,h=>by
    unfold zBK at h
    cases ha:zHB a with
    |none=>rw[ha]at h;cases h
    |some x=>
      rw[ha]at h;simp only at h
      cases ht:zBK t with
      |none=>rw[ht]at h;cases h
      |some y=>
        rw[ht]at h;injection h with h;subst h;intro v hv
        rcases List.mem_cons.1 hv with rfl|hv
        · exact zIN ha
        · exact zC0 ht v hv
theorem zEk(w:Bs):∀r:List Bs,zAP 32 (w::r)=w++r.flatMap fun w=>32::w
  |[]=>by simp[zAP]
  |h::t=>by
    rw[zEl,zEk h t,List.flatMap_cons]
    rfl
theorem zHE{w d:Bs}(h:hexV w=(d,true)):hexW d=w:=by
 unfold hexV at h
 cases hr:zIT w with
 |none=>rw[hr]at h;cases h
 |some c=>rw[hr]at h;injection h with h1 h2;subst h1;exact zM8 hr
theorem zNH{w d:Bs}{nl:Bool}(h:zC9 w=(nl,d,true)):zNI ⟨nl,d⟩=w∧oddB ⟨nl,d⟩=false:=by
 unfold zC9 at h
 by_cases hw:w=[110,111,110,101]
 · rw[if_pos hw]at h;injection h with h1 h2;injection h2 with h2 h3;subst h1 h2 hw;exact⟨rfl,rfl⟩
 · rw[if_neg hw]at h;injection h with h1 h2;injection h2 with h2 h3;subst h1;refine⟨?_,rfl⟩
   show hexW d=w
   exact zHE (Prod.ext h2 h3)
theorem zM7(w:Bs)(h:(hexV w).2=true):hexW (hexV w).1=w:=zHE (Prod.ext rfl h)
theorem zEu(w:Bs)(h:(zC9 w).2.2=true):zNI ⟨(zC9 w).1,(zC9 w).2.1⟩=w∧oddB ⟨(zC9 w).1,(zC9 w).2.1⟩=false:=zNH (Prod.ext rfl (Prod.ext rfl h))
theorem zMH{r:List Bs}{h:HdrS}(e:zMI r=some h):hdrT h=[104,101,97,100,101,114]++(r.flatMap fun w=>32::w)++[10]∧oddB h.val=false:=by
 unfold zMI at e
 split at e
 · rename_i kw vw
   split at e
   · rename_i hb
     rw[Bool.and_eq_true]at hb;injection e with e;subst e;obtain⟨h1,h2⟩:=zEu vw hb.2;refine⟨?_,h2⟩;unfold hdrT;simp only;rw[zM7 kw hb.1,h1]
     simp
   · cases e
 · cases e
theorem zMG{r:List Bs}{x:RecS}(e:zLs r=some x):recT x=[114,101,99,111,114,100]++(r.flatMap fun w=>32::w)++[10]∧zHs x:=by
 unfold zLs at e
 split at e
 · rename_i a b kw vw
   split at e
   · rename_i t o hn
     split at e
     · rename_i hb
       rw[Bool.and_eq_true]at hb;injection e with e;subst e;obtain⟨h1,h2⟩:=zEu kw hb.1;obtain⟨h3,h4⟩:=zEu vw hb.2;have hg:=zC0 hn;refine⟨?_,h2,h4,(fun h hh=>by cases hh),hg t (by simp),hg o (by simp)⟩;have h5:=zEi hn;simp only[List.map_cons,List.map_nil,List.cons.injEq,and_true]at h5;unfold recT recH;simp only;rw[h5.1,h5.2,h1,h3]
       simp
     · cases e
   · cases e
 · cases e
theorem zIB{r:List Bs}{b:BatS}(e:zML r=some b):batL b=[98,97,116,99,104]++(r.flatMap fun w=>32::w)++[10]∧batR b:=by
 unfold zML at e
 split at e
 · rename_i n0 n1 n2 n3 n4 n5 n6 n7 t hn hd
   split at e
   · rename_i hl
     injection e with e;subst e;have h1:=zGR hn;have h2:letW (hasB t 97) (hasB t 116) (hasB t 99)=t:=eq_of_beq hl;have hg:=zC0 hn;refine⟨?_,fun n hn=>hg n (by simp only[batN,List.mem_cons,List.not_mem_nil,or_false]at hn ⊢;omega)⟩;unfold batL batN;simp only;rw[h1,h2];have h3:r=r.take 8++[t]:=by rw[←hd,List.take_append_drop]
     conv=>rhs;rw[h3]
     simp
   · cases e
 · cases e
theorem zMJ{r:List Bs}{n:Int}(e:zMK r=some n):cutT n=[99,117,116]++(r.flatMap fun w=>32::w)++[10]∧0≤n∧Rn n:=by
 unfold zMK at e
 split at e
 · rename_i x
   split at e
   · rename_i v hv
     split at e
     · cases e
     · rename_i h0
       injection e with e;subst e;refine⟨?_,by omega,zIN hv⟩;unfold cutT;rw[if_neg h0,zIO hv]
       simp
   · cases e
 · cases e
theorem zED{r:List Bs}{l:List Int}(e:zDB r=some l):chT l=[99,104,117,110,107,115]++(r.flatMap fun w=>32::w)++[10]∧∀v∈l,Rn v:=by
 unfold zDB at e
 split at e
 · cases e
 · rename_i h0
   have h1:=zGS _ _ e;refine⟨?_,zC0 e⟩;unfold chT;rw[if_neg (by intro h;subst h;exact h0 (List.length_eq_zero_iff.1 h1.symm)),zGR e]
   simp
theorem zNx(s:BSt)(vR vH:Value):(s.close vR vH).flatMap btT=s.txt:=by
 cases s with
 |zero=>rfl
 |bat d b=>show(d++[_]).flatMap btT=_;rw[List.flatMap_append];simp[btT,BSt.txt]
 |recd d b l r=>show(d++[_]).flatMap btT=_;rw[List.flatMap_append];simp[btT,BSt.txt]
theorem zLP(s:BSt)(vR vH:Value)(h:s.fine):∀x∈s.close vR vH,zND x:=by
 cases s with
 |zero=>exact fun x hx=>by cases hx
 |bat d b=>
  intro x hx
  rcases List.mem_append.1 hx with hx|hx
  · exact h.1 x hx
  · rw[List.mem_singleton.1 hx];exact⟨h.2,fun y hy=>by cases hy⟩
 |recd d b l r=>
  intro x hx
  rcases List.mem_append.1 hx with hx|hx
  · exact h.1 x hx
  · rw[List.mem_singleton.1 hx];refine⟨h.2.1,fun y hy=> ?_⟩
    rcases List.mem_append.1 hy with hy|hy
    · exact h.2.2.1 y hy
    · rw[List.mem_singleton.1 hy];exact h.2.2.2
theorem zP7(s:BSt)(vR vH:Value):(s.close vR vH).length=s.n:=by cases s<;>simp[BSt.close,BSt.n]
theorem zJO(n m:Nat)(c:Int)(ch:List Int)(w:Bs)(r:List Bs):zGN n m c ch (w::r)=if ch≠[]then none
    else if w=[99,104,117,110,107,115]then(zDB r).map .chunks
    else if c≠ -1 then none
    else if w=[99,117,116]then(zMK r).map .cut
    else if w=[98,97,116,99,104]then(zML r).map .bat
    else if w=[114,101,99,111,114,100]then(if n=0 then none else(zLs r).map .recd)
    else if w=[104,101,97,100,101,114]then(if n=0∨m=0 then none else(zMI r).map .hdr)
    else none:=rfl
theorem zOy(s:BSt)(c:Int)(ch:List Int)(l:Bs)(k:Said)(vR vH:Value)(hc: -1≤c)(hcr:Rn c)(hcs:∀v∈ch,Rn v)(hf:s.fine)(e:zGN s.n s.m c ch (zBg 32 l)=some k):
   txtS (s.put vR vH k) (zHO c k) (chOf ch k)=txtS s c ch++(l++[10])∧(s.put vR vH k).n=nOf s.n k∧(s.put vR vH k).m=mOf s.m k∧(s.put vR vH k).p≤s.p+1∧ -1≤zHO c k∧Rn (zHO c k)∧(∀v∈chOf ch k,Rn v)∧(s.put vR vH k).fine:=by
 obtain⟨w,r,hp⟩:=zDD 32 l;have hl:l=w++r.flatMap fun w=>32::w:=by rw[←zGT 32 l,hp,zEk]
 rw[hp,zJO]at e
 split at e
 · cases e
 rename_i hch
 have hch:ch=[]:=Classical.not_not.1 hch;subst hch
 split at e
 · rename_i hw
   cases h1:zDB r with
   |none=>rw[h1]at e;cases e
   |some v=>
    rw[h1]at e;injection e with e;subst e;refine⟨?_,rfl,rfl,Nat.le_succ _,hc,hcr,(zED h1).2,hf⟩
    show s.txt++(cutT c++chT v)=s.txt++(cutT c++chT [])++_
    rw[(zED h1).1,hl,hw];simp[chT]
 split at e
 · cases e
 rename_i hc1
 have hc1:c= -1:=Classical.not_not.1 hc1;subst hc1;have t0:txtS s (-1) []=s.txt:=by simp[txtS,cutT,chT]
 split at e
 · rename_i hw
   cases h1:zMK r with
   |none=>rw[h1]at e;cases e
   |some v=>
    rw[h1]at e;injection e with e;subst e;obtain⟨h2,h3,h4⟩:=zMJ h1;refine⟨?_,rfl,rfl,Nat.le_succ _,(show -1≤v by omega),h4,hcs,hf⟩;rw[t0]
    show s.txt++(cutT v++chT [])=_
    rw[h2,hl,hw];simp[chT]
 split at e
 · rename_i hw
   cases h1:zML r with
   |none=>rw[h1]at e;cases e
   |some v=>
    rw[h1]at e;injection e with e;subst e;refine⟨?_,by show(s.close vR vH).length+1=s.n+1;rw[zP7],rfl,Nat.zero_le _,hc,hcr,hcs,zLP s vR vH hf,(zIB h1).2⟩;rw[t0]
    show(BSt.bat (s.close vR vH) v).txt++(cutT (-1)++chT [])=_
    show((s.close vR vH).flatMap btT++batL v)++(cutT (-1)++chT [])=_
    rw[zNx,(zIB h1).1,hl,hw];simp[chT,cutT]
 split at e
 · rename_i hw
   split at e
   · cases e
   rename_i hn
   cases h1:zLs r with
   |none=>rw[h1]at e;cases e
   |some v=>
    rw[h1]at e;injection e with e;subst e;obtain⟨h2,h3⟩:=zMG h1
    have h0:v.hdrs.length=0:=by
     unfold zLs at h1
     split at h1
     · split at h1
       · split at h1
         · injection h1 with h1;subst h1;rfl
         · cases h1
       · cases h1
     · cases h1
    cases s with
    |zero=>exact absurd rfl hn
    |bat d b=>
     refine⟨?_,rfl,rfl,(show v.hdrs.length≤_ by omega),hc,hcr,hcs,hf.1,hf.2,(fun y hy=>by cases hy),h3⟩;rw[t0]
     show(d.flatMap btT++(batL b++(([]:List (RecS×Value)).flatMap (fun y=>recT y.1)++recT v)))++(cutT (-1)++chT [])=_
     rw[h2,hl,hw];simp[chT,cutT,BSt.txt]
    |recd d b l0 r0=>
     refine⟨?_,rfl,by show(l0++[_]).length+1=_;simp[mOf,BSt.m],(show v.hdrs.length≤_ by omega),hc,hcr,hcs,hf.1,hf.2.1,(fun y hy=> ?_),h3⟩
     · rw[t0]
       show(d.flatMap btT++(batL b++((l0++[(r0,vH)]).flatMap (fun y=>recT y.1)++recT v)))++(cutT (-1)++chT [])=_
       rw[h2,hl,hw];simp[chT,cutT,BSt.txt]
     · rcases List.mem_append.1 hy with hy|hy
       · exact hf.2.2.1 y hy
       · rw[List.mem_singleton.1 hy];exact hf.2.2.2
 split at e
 · rename_i hw
   split at e
   · cases e
   rename_i hn
   cases h1:zMI r with
   |none=>rw[h1]at e;cases e
   |some v=>
    rw[h1]at e;injection e with e;subst e;obtain⟨h2,h3⟩:=zMH h1
    cases s with
    |zero=>exact absurd (.inl rfl) hn
    |bat d b=>exact absurd (.inr rfl) hn
    |recd d b l0 r0=>
     refine⟨?_,rfl,rfl,(show(r0.hdrs++[v]).length≤r0.hdrs.length+1 by simp),hc,hcr,hcs,hf.1,hf.2.1,hf.2.2.1,hf.2.2.2.1,hf.2.2.2.2.1,(fun h hh=> ?_),hf.2.2.2.2.2.2⟩
     · rw[t0]
       show(d.flatMap btT++(batL b++(l0.flatMap (fun y=>recT y.1)++(recH r0++(r0.hdrs++[v]).flatMap hdrT))))++(cutT (-1)++chT [])=_
       rw[List.flatMap_append];have h9:[v].flatMap hdrT=hdrT v:=by simp
       rw[h9,h2,hl,hw];simp[chT,cutT,BSt.txt,recT]
     · rcases List.mem_append.1 hh with hh|hh
       · exact hf.2.2.2.2.2.1 h hh
       · rw[List.mem_singleton.1 hh];exact h3
 · cases e
theorem zC5(c:UInt8)(n:Int)(hn:n=c.toNat){W0 w:World}{K:Know}{L:List Res}{b:Nat}{T:TypeId}(h:St W0 w K (.raw b #[.int .u8 n] T::L)):
  (convert 57 9 (.slice (some ⟨b,0,none⟩) 1 1)).run Tryz.prog w=.ok (.string (bb [c])) w:=by
 subst hn;refine run_convert_bytes_back (P:=Tryz.prog) w 57 9 5 ⟨b,0,none⟩ 1 [c] Tryz.underlying57 Tryz.underlying5 Tryz.underlying9 (fun j hj=> ?_);have hj:j=0:=by simp at hj;exact hj
 subst hj;exact h.rawCell 0
theorem zI7{u:Nat}(h:u<10):Lib.decDigits u=[UInt8.ofNat (48+u)]:=by rw[Lib.decDigits,dif_pos h]
theorem zDM(v:Nat)(h:v≤9223372036854775807):(Lib.decDigits v).length≤29:=by
 have h1:=Lib.itoa_length_le v (by omega) (by omega);rw[Lib.itoa_nonneg]at h1
 omega
theorem zP2(v:Nat)(h:v≤9223372036854775807):(Lib.decDigits v).length≤30:=Nat.le_succ_of_le (zDM v h)
theorem zJ9{u:Nat}(h:¬u<10):Lib.decDigits u=Lib.decDigits (u / 10)++[UInt8.ofNat (48+u % 10)]:=by rw[Lib.decDigits,dif_neg h]
theorem zMt(rd wb cap:Nat)(q:Option Addr)(v:Value)(c:Int)(w0:Bs)(ws:List Bs)(hc:c= -1)(h1:w0≠[99,104,117,110,107,115])(h2:w0≠[99,117,116])(h3:w0≠[98,97,116,99,104])(h4:w0≠[114,101,99,111,114,100])(h5:w0≠[104,101,97,100,101,114]){W0 w:World}{K:Know}{L:List Res}(hk:K.has (Know.strw wb 0 (w0::ws)))(h:St W0 w K (.raw rd #[v,.int .i64 c,.slice q 0 cap] 122::L)):
  Calls Tryz.prog 81 #[.pointer (some ⟨rd,0,none⟩),.slice (some ⟨wb,0,none⟩) 1 1] w fun en w'=>en=.returned (.bool false)∧St W0 w' K L:=by
 have c0:w.cell? ⟨wb,0,none⟩=some (.string (bb w0)):=zMb hk 0 _ rfl _ _ h;have d0:=(h).rawCell 0;have d1:=(h).rawCell 1;have d2:=(h).rawCell 2;simp at d0 d1 d2;subst hc;have e1:(w0==[99,104,117,110,107,115])=false:=by rw[beq_eq_false_iff_ne];exact h1
 have g1:([99,104,117,110,107,115]==w0)=false:=by rw[beq_eq_false_iff_ne];exact fun h=>h1 h.symm
 have e2:(w0==[99,117,116])=false:=by rw[beq_eq_false_iff_ne];exact h2
 have g2:([99,117,116]==w0)=false:=by rw[beq_eq_false_iff_ne];exact fun h=>h2 h.symm
 have e3:(w0==[98,97,116,99,104])=false:=by rw[beq_eq_false_iff_ne];exact h3
 have g3:([98,97,116,99,104]==w0)=false:=by rw[beq_eq_false_iff_ne];exact fun h=>h3 h.symm
 have e4:(w0==[114,101,99,111,114,100])=false:=by rw[beq_eq_false_iff_ne];exact h4
 have g4:([114,101,99,111,114,100]==w0)=false:=by rw[beq_eq_false_iff_ne];exact fun h=>h4 h.symm
 have e5:(w0==[104,101,97,100,101,114])=false:=by rw[beq_eq_false_iff_ne];exact h5
 have g5:([104,101,97,100,101,114]==w0)=false:=by rw[beq_eq_false_iff_ne];exact fun h=>h5 h.symm
 have H:=hQd h
 skip
 clear h hk h1 h2 h3 h4 h5;go_enter Tryz.func81,Tryz.ntmps81;go_upto_region 1 with fail
 go_region
 all_goals (
  go_wp2_with fail;go_ret
  exact⟨rfl,H.out.drew.drop⟩)
theorem zLy(n m:Nat)(c:Int)(ch:List Int)(ln:Nat)(l:Bs)(q:Bs)(r:List Bs)(k:Said)(h:zGN n m c ch (zBg 32 l)=some k):zGP n m c ch ln (l::q::r)=zGP (nOf n k) (mOf m k) (zHO c k) (chOf ch k) (ln+1) (q::r):=by
 show(match zGN n m c ch (zBg 32 l)with|none=>ln|some k=>zGP (nOf n k) (mOf m k) (zHO c k) (chOf ch k) (ln+1) (q::r))=_
 rw[h]
structure Upto (text t:Bs) (s:BSt) (c:Int) (ch:List Int) (ln:Nat):Prop where
  txt:txtS s c ch++t=text
  cut: -1≤c
  cutR:Rn c
  chR:∀v∈ch,Rn v
  fine:s.fine
  n:s.n≤ln
  m:s.m≤ln
  p:s.p≤ln
  one:1≤ln
  len:ln+t.length≤text.length+1
  rest:zGP s.n s.m c ch ln (zBg 10 t)=zGP 0 0 (-1) [] 1 (zBg 10 text)
theorem Upto.next{text t:Bs}{s:BSt}{c:Int}{ch:List Int}{ln i:Nat}{k:Said}(u:Upto text t s c ch ln)(hi:i<t.length)(hp:zBg 10 t=t.take i::zBg 10 (t.drop (i+1)))(hl:zGN s.n s.m c ch (zBg 32 (t.take i))=some k)(ht:t=t.take i++10::t.drop (i+1))(vR vH:Value):Upto text (t.drop (i+1)) (s.put vR vH k) (zHO c k) (chOf ch k) (ln+1):=by
 obtain⟨h1,h2,h3,h4,h5,h6,h7,h8⟩:=zOy s c ch (t.take i) k vR vH u.cut u.cutR u.chR u.fine hl;have h9:nOf s.n k≤s.n+1:=by cases k<;>simp[nOf]
 have h10:mOf s.m k≤s.m+1:=by cases k<;>simp[mOf]
 have:=u.n;have:=u.m;have:=u.p;have:=u.len;refine⟨?_,h5,h6,h7,h8,by omega,by omega,by omega,by omega,by simp;omega,?_⟩
 · rw[h1,←u.txt]
   conv=>rhs;rw[ht]
   simp
 · rw[←u.rest,hp,h2,h3];obtain⟨q,r,e⟩:=zDD 10 (t.drop (i+1));rw[e,zLy _ _ _ _ _ _ _ _ k hl]
theorem zIS(s:Bs):hexV (hexW s)=(s,true):=by unfold hexV;rw[zLE]
def modL {α:Type}(f:α→α):List α→List α
  |[]=>[]
  |[x]=>[f x]
  |x::y::t=>x::modL f (y::t)
def BatS.with (b:BatS) (l:List RecS):BatS:=⟨b.base,b.leader,b.app,b.txn,b.ctl,b.last,b.first,b.maxt,b.prod,b.epoch,b.seq,l⟩
def BtR.val (x:BtR):BatS:=x.b.with (x.l.map (·.1))
def zPx (r:RecS) (h:HdrS):RecS:=⟨r.time,r.off,r.key,r.val,r.hdrs++[h]⟩
def appV (vs:List BatS):Said→List BatS
  | .bat b=>vs++[b.with []]
  | .recd r=>modL (fun b=>b.with (b.recs++[r])) vs
  | .hdr h=>modL (fun b=>b.with (modL (fun r=>zPx r h) b.recs)) vs
  | _=>vs
structure VS where
  vs:List BatS
  n:Nat
  m:Nat
  c:Int
  ch:List Int
def VS.app (v:VS) (k:Said):VS:=⟨appV v.vs k,nOf v.n k,mOf v.m k,zHO v.c k,chOf v.ch k⟩
theorem zIY{α:Type}(f:α→Bs):∀(l:List α) (k:Nat) (h:k<l.length) (x:α),l[k]=x→(l.drop k).flatMap f=f x++(l.drop (k+1)).flatMap f:=fun l k h x hx=>by
  rw[List.drop_eq_getElem_cons h,hx,List.flatMap_cons]
theorem zK0{a b S:Bs}(h:a++b=S){n:Nat}(hs:S.length≤n):a.length≤n:=by
 have:=congrArg List.length h;rw[List.length_append]at this
 omega
theorem zNh{α:Type}{R:List Value→α→Prop}{sz:Nat}{v:Value}{l:List α}(hk:K.has (Know.flat R v sz l))(h:St W0 w K L):∃q cap,v=.slice q l.length cap:=by
 obtain⟨F,hF,_⟩:=h.get;obtain⟨q,cap,hv,_⟩:=(hk _ _ hF).at;exact⟨q,cap,hv⟩
theorem fl_at{α:Type}{R:List Value→α→Prop}{sz n cap:Nat}{q:Option Addr}{l:List α}(hk:K.has (Know.flat R (.slice q n cap) sz l))(h:St W0 w K L)(h0:0<l.length):∃b off,q=some ⟨b,off,none⟩:=by
 obtain⟨F,hF,_⟩:=h.get;obtain⟨q2,cap2,hv,hr⟩:=(hk _ _ hF).at;obtain⟨b,off,hq,_⟩:=hr h0;simp at hv;exact⟨b,off,hv.1.trans hq⟩
theorem zPU{α:Type}{R:List Value→α→Prop}{sz n cap b off:Nat}{l:List α}(hk:K.has (Know.flat R (.slice (some ⟨b,off,none⟩) n cap) sz l))(h:St W0 w K L)(i:Nat)(hi:i<l.length):∃cs,R cs l[i]∧∀f u,cs[f]? =some u→w.cell? ⟨b,off+(i*sz+f),none⟩=some u:=by
 obtain⟨F,hF,_⟩:=h.get;obtain⟨q2,cap2,hv,hr⟩:=(hk _ _ hF).at;obtain⟨b2,off2,hq,hc⟩:=hr (by omega);rw[hq]at hv;simp at hv;obtain⟨⟨rfl,rfl⟩,_,_⟩:=hv;obtain⟨cs,_,h1,h2⟩:=hc i hi;exact⟨cs,h1,h2⟩
theorem zLh{n cap b off:Nat}{l:List Int}(hk:K.has (Know.flat RInt (.slice (some ⟨b,off,none⟩) n cap) 1 l))(h:St W0 w K L)(i:Nat)(hi:i<l.length)(x:Int)(hx:l[i]=x):w.cell? ⟨b,off+i,none⟩=some (.int .i64 x):=by
 subst hx;obtain⟨cs,h1,h2⟩:=zPU hk h i hi;unfold RInt at h1;subst h1;have:=h2 0 _ rfl
 rwa [Nat.mul_one,Nat.add_zero]at this
variable {W0 w:World}{K:Know}{L:List Res}
theorem zO5(u:Nat)(hu:u≤9223372036854775807)(hs:u<10)(h:St W0 w K L):
  Calls Tryz.prog 9 #[.int .i64 u] w fun en w'=>en=.returned (.string (bb (Lib.decDigits u)))∧St W0 w' K L:=by
 obtain⟨d,hd⟩:∃d,u % 10=d:=⟨_,rfl⟩;obtain⟨v,hv⟩:∃v,u / 10=v:=⟨_,rfl⟩;have hd9:d<10:=by omega
 obtain⟨c,hc⟩:∃c,UInt8.ofNat (48+d)=c:=⟨_,rfl⟩;have hcn:(48+(d:Int))=c.toNat:=by rw[←hc,UInt8.toNat_ofNat'];omega
 obtain⟨nb,hnb⟩:∃b,w.heap.size=b:=⟨_,rfl⟩;have g1:=h.allocRaw #[.int .u8 (48+(d:Int))] 5;rw[hnb]at g1;have cb:=zC5 c _ hcn g1;have H:=hQd g1;have q1:(u:Int).tmod 10=(d:Int):=by rw[Int.tmod_eq_emod_of_nonneg (by omega)];omega
 have q2:(u:Int) % 10=(d:Int):=by omega
 have q3:(u:Int).tdiv 10=(v:Int):=by rw[Int.tdiv_eq_ediv_of_nonneg (by omega)];omega
 have q4:(u:Int) / 10=(v:Int):=by omega
 have r1:¬((u:Int)<0):=by omega
 have r2:decide ((u:Int)<0)=false:=decide_eq_false r1;have r3:(u:Int)<10:=by omega
 have r4:decide ((u:Int)<10)=true:=decide_eq_true r3;have q5:(48+(d:Int)) % 256=48+(d:Int):=by omega
 have HD:=hQd (show Lib.decDigits u=[c]from by rw[zI7 hs,←hc];rw[←hd,Nat.mod_eq_of_lt hs]);have HWV:=hQd (show wrap64 ((v:Int))=(v:Int)from IntWalk.wrap64_in _ (by omega))
 skip
 skip
 skip
 skip
 skip
 skip
 skip
 clear h g1 hu hs hd hv hc hcn hd9;go_enter Tryz.func9,Tryz.ntmps9;go_wp2_with fail;go_ret;exact⟨by rw[HD.out];try rfl,H.out.drop⟩
theorem num_p1(u:Nat)(hu:u≤9223372036854775807)(hs:¬u<10)(hrec:∀w,St W0 w K L→Calls Tryz.prog 9 #[.int .i64 (u / 10:Nat)] w fun en w'=>en=.returned (.string (bb (Lib.decDigits (u / 10))))∧St W0 w' K L)(h:St W0 w K L):
  Calls Tryz.prog 9 #[.int .i64 u] w fun en w'=>en=.returned (.string (bb (Lib.decDigits u)))∧St W0 w' K L:=by
 obtain⟨d,hd⟩:∃d,u % 10=d:=⟨_,rfl⟩;obtain⟨v,hv⟩:∃v,u / 10=v:=⟨_,rfl⟩;have hd9:d<10:=by omega
 obtain⟨c,hc⟩:∃c,UInt8.ofNat (48+d)=c:=⟨_,rfl⟩;have hcn:(48+(d:Int))=c.toNat:=by rw[←hc,UInt8.toNat_ofNat'];omega
 obtain⟨nb,hnb⟩:∃b,w.heap.size=b:=⟨_,rfl⟩;have g1:=h.allocRaw #[.int .u8 (48+(d:Int))] 5;rw[hnb]at g1;have cb:=zC5 c _ hcn g1;have H:=hQd g1;have q1:(u:Int).tmod 10=(d:Int):=by rw[Int.tmod_eq_emod_of_nonneg (by omega)];omega
 have q2:(u:Int) % 10=(d:Int):=by omega
 have q3:(u:Int).tdiv 10=(v:Int):=by rw[Int.tdiv_eq_ediv_of_nonneg (by omega)];omega
 have q4:(u:Int) / 10=(v:Int):=by omega
 have r1:¬((u:Int)<0):=by omega
 have r2:decide ((u:Int)<0)=false:=decide_eq_false r1;have r3:¬((u:Int)<10):=by omega
 have r4:decide ((u:Int)<10)=false:=decide_eq_false r3;have q5:(48+(d:Int)) % 256=48+(d:Int):=by omega
 have HD:=hQd (show Lib.decDigits u=(Lib.decDigits v++[c])from by rw[zJ9 hs,hd,hv,hc]);have HWV:=hQd (show wrap64 ((v:Int))=(v:Int)from IntWalk.wrap64_in _ (by omega));have HREC:=hQd hrec;rw[hv]at HREC;obtain⟨p,hp⟩:∃p,Lib.decDigits v=p:=⟨_,rfl⟩;have hpl:p.length≤30:=by rw[←hp];exact zP2 v (by omega)
 have hpi:¬9223372036854775807<p.length+1:=by omega
 rw[hp]at HREC;rw[show Lib.decDigits v++[c]=p++[c] by rw[←hp]<;>rfl]at HD;clear h g1 hu hs hd hv hc hcn hd9 hrec;go_enter Tryz.func9,Tryz.ntmps9;go_wp2_with (go_at_call 9;rw[HWV.out];(with_reducible refine(HREC.out _ H.out.drop).mono ?_);rintro e_ wn ⟨rfl,h⟩;replace H:=hQd h;clear h);go_ret;exact⟨by rw[HD.out];try rfl,H.out⟩
theorem num_n0(u:Nat)(hu:u≤9223372036854775808)(h1:1≤u)(hs:u<10)(h:St W0 w K L):
  Calls Tryz.prog 9 #[.int .i64 (-(u:Int))] w fun en w'=>en=.returned (.string (bb ((45::Lib.decDigits u))))∧St W0 w' K L:=by
 obtain⟨d,hd⟩:∃d,u % 10=d:=⟨_,rfl⟩;obtain⟨v,hv⟩:∃v,u / 10=v:=⟨_,rfl⟩;have hd9:d<10:=by omega
 obtain⟨c,hc⟩:∃c,UInt8.ofNat (48+d)=c:=⟨_,rfl⟩;have hcn:(48+(d:Int))=c.toNat:=by rw[←hc,UInt8.toNat_ofNat'];omega
 obtain⟨nb,hnb⟩:∃b,w.heap.size=b:=⟨_,rfl⟩;have g1:=h.allocRaw #[.int .u8 (48+(d:Int))] 5;rw[hnb]at g1;have cb:=zC5 c _ hcn g1;have H:=hQd g1;have q1:(-(u:Int)).tmod 10= -(d:Int):=by rw[Int.neg_tmod,Int.tmod_eq_emod_of_nonneg (by omega)];omega
 have q3:(-(u:Int)).tdiv 10= -(v:Int):=by rw[Int.neg_tdiv,Int.tdiv_eq_ediv_of_nonneg (by omega)];omega
 have r1:(-(u:Int))<0:=by omega
 have r2:decide ((-(u:Int))<0)=true:=decide_eq_true r1;have r5:(0:Int)<(u:Int):=by omega
 have r3: -10<(-(u:Int)):=by omega
 have r4:decide (-10<(-(u:Int)))=true:=decide_eq_true r3;have r6:(u:Int)<10:=by omega
 have q5:(48+(d:Int)) % 256=48+(d:Int):=by omega
 have HD:=hQd (show(45::Lib.decDigits u)=[45,c]from by rw[zI7 hs,←hc];rw[←hd,Nat.mod_eq_of_lt hs]);have HWV:=hQd (show wrap64 (-(v:Int))= -(v:Int)from IntWalk.wrap64_in _ (by omega))
 skip
 skip
 skip
 skip
 skip
 skip
 skip
 clear h g1 hu hs hd hv hc hcn hd9 h1;go_enter Tryz.func9,Tryz.ntmps9;go_wp2_with fail;go_ret;exact⟨by rw[HD.out];try rfl,H.out.drop⟩
theorem num_n1(u:Nat)(hu:u≤9223372036854775808)(h1:1≤u)(hs:¬u<10)(hrec:∀w,St W0 w K L→Calls Tryz.prog 9 #[.int .i64 (-((u / 10:Nat):Int))] w fun en w'=>en=.returned (.string (bb (45::Lib.decDigits (u / 10))))∧St W0 w' K L)(h:St W0 w K L):
  Calls Tryz.prog 9 #[.int .i64 (-(u:Int))] w fun en w'=>en=.returned (.string (bb ((45::Lib.decDigits u))))∧St W0 w' K L:=by
 obtain⟨d,hd⟩:∃d,u % 10=d:=⟨_,rfl⟩;obtain⟨v,hv⟩:∃v,u / 10=v:=⟨_,rfl⟩;have hd9:d<10:=by omega
 obtain⟨c,hc⟩:∃c,UInt8.ofNat (48+d)=c:=⟨_,rfl⟩;have hcn:(48+(d:Int))=c.toNat:=by rw[←hc,UInt8.toNat_ofNat'];omega
 obtain⟨nb,hnb⟩:∃b,w.heap.size=b:=⟨_,rfl⟩;have g1:=h.allocRaw #[.int .u8 (48+(d:Int))] 5;rw[hnb]at g1;have cb:=zC5 c _ hcn g1;have H:=hQd g1;have q1:(-(u:Int)).tmod 10= -(d:Int):=by rw[Int.neg_tmod,Int.tmod_eq_emod_of_nonneg (by omega)];omega
 have q3:(-(u:Int)).tdiv 10= -(v:Int):=by rw[Int.neg_tdiv,Int.tdiv_eq_ediv_of_nonneg (by omega)];omega
 have r1:(-(u:Int))<0:=by omega
 have r2:decide ((-(u:Int))<0)=true:=decide_eq_true r1;have r5:(0:Int)<(u:Int):=by omega
 have r3:¬(-10<(-(u:Int))):=by omega
 have r4:decide (-10<(-(u:Int)))=false:=decide_eq_false r3;have r6:¬((u:Int)<10):=by omega
 have q5:(48+(d:Int)) % 256=48+(d:Int):=by omega
 have HD:=hQd (show(45::Lib.decDigits u)=(45::(Lib.decDigits v++[c]))from by rw[zJ9 hs,hd,hv,hc]);have HWV:=hQd (show wrap64 (-(v:Int))= -(v:Int)from IntWalk.wrap64_in _ (by omega));have HREC:=hQd hrec;rw[hv]at HREC;obtain⟨p,hp⟩:∃p,(45::Lib.decDigits v)=p:=⟨_,rfl⟩;have hpl:p.length≤30:=by rw[←hp];exact Nat.succ_le_succ (zDM v (by omega))
 have hpi:¬9223372036854775807<p.length+1:=by omega
 rw[hp]at HREC;rw[show 45::(Lib.decDigits v++[c])=p++[c] by rw[←hp]<;>rfl]at HD;clear h g1 hu hs hd hv hc hcn hd9 hrec h1;go_enter Tryz.func9,Tryz.ntmps9;go_wp2_with (go_at_call 9;rw[HWV.out];(with_reducible refine(HREC.out _ H.out.drop).mono ?_);rintro e_ wn ⟨rfl,h⟩;replace H:=hQd h;clear h);go_ret;exact⟨by rw[HD.out];try rfl,H.out⟩
theorem zMU:∀(n u:Nat),u≤n→u≤9223372036854775807→∀{W0 w:World}{K:Know}{L:List Res},St W0 w K L→Calls Tryz.prog 9 #[.int .i64 u] w fun en w'=>en=.returned (.string (bb (Lib.decDigits u)))∧St W0 w' K L
  |0,u,h,hu,_,_,_,_,hst=>zO5 u hu (by omega) hst
  |n+1,u,h,hu,_,_,_,_,hst=>by
    by_cases hs:u<10
    · exact zO5 u hu hs hst
    · exact num_p1 u hu hs (fun w' h'=>zMU n (u / 10) (by omega) (by omega) h') hst
theorem zMV:∀(n u:Nat),u≤n→u≤9223372036854775808→1≤u→∀{W0 w:World}{K:Know}{L:List Res},St W0 w K L→Calls Tryz.prog 9 #[.int .i64 (-(u:Int))] w fun en w'=>en=.returned (.string (bb (45::Lib.decDigits u)))∧St W0 w' K L
  |0,u,h,hu,h1,_,_,_,_,hst=>absurd h (by omega)
  |n+1,u,h,hu,h1,_,_,_,_,hst=>by
    by_cases hs:u<10
    · exact num_n0 u hu h1 hs hst
    · exact num_n1 u hu h1 hs (fun w' h'=>zMV n (u / 10) (by omega) (by omega) (by omega) h') hst
theorem zBI(n:Int)(hn:Rn n)(t:Bs)(ht:numW n=t)(h:St W0 w K L):Calls Tryz.prog 9 #[.int .i64 n] w fun en w'=>en=.returned (.string (bb t))∧St W0 w' K L:=by
 subst ht;unfold Rn at hn
 by_cases h0:n<0
 · obtain⟨u,rfl⟩:∃u:Nat,n= -(u:Int):=⟨n.natAbs,by omega⟩;have e:numW (-(u:Int))=45::Lib.decDigits u:=by unfold numW;exact Lib.itoa_neg u (by omega)
   rw[e];exact zMV u u (Nat.le_refl _) (by omega) (by omega) h
 · obtain⟨u,rfl⟩:∃u:Nat,n=(u:Int):=⟨n.natAbs,by omega⟩;have e:numW (u:Int)=Lib.decDigits u:=by unfold numW;exact Lib.itoa_nonneg u
   rw[e];exact zMU u u (Nat.le_refl _) (by omega) h
theorem zMr(s t:Bs)(ht:hexW s=t)(hs:s.length≤1000000){W0 w:World}{K:Know}{L:List Res}(h:St W0 w K L):
  Calls Tryz.prog 17 #[.string (bb s)] w fun en w'=>en=.returned (.string (bb t))∧St W0 w' K L:=by
 subst ht;exact rs_hex s hs h
theorem zOB(s:Bs):s.length≤(hexW s).length:=by
 unfold hexW
 split
 · rename_i h;subst h;exact Nat.zero_le _
 · rw[zE1];omega
theorem zAm(n:Int)(h:Rn n):(numW n).length≤31:=by
 unfold Rn at h;unfold numW
 by_cases h0:n<0
 · obtain⟨u,rfl⟩:∃u:Nat,n= -(u:Int):=⟨n.natAbs,by omega⟩;rw[Lib.itoa_neg u (by omega)]
   by_cases hu:u≤9223372036854775807
   · have:=zDM u hu;rw[List.length_cons];omega
   · have e:u=9223372036854775808:=by omega
     subst e;have h9:(Lib.decDigits 9223372036854775808).length=(Lib.decDigits 922337203685477580++[UInt8.ofNat (48+9223372036854775808 % 10)]).length:=by rw[zJ9 (by omega)]
     rw[List.length_append]at h9;have:=zDM 922337203685477580 (by omega);rw[List.length_cons,h9,List.length_cons,List.length_nil];omega
 · obtain⟨u,rfl⟩:∃u:Nat,n=(u:Int):=⟨n.natAbs,by omega⟩;rw[Lib.itoa_nonneg];have:=zDM u (by omega);omega
theorem zM6(s:Bs):(hexW s).length≤2*s.length+1:=by
 unfold hexW
 split
 · simp
 · rw[zE1];omega
theorem zKS{α:Type}(f:α→Bs)(n:Nat):∀(l:List α),(∀x∈l,(f x).length≤n)→(l.flatMap f).length≤l.length*n
  |[],_=>by simp
  |x::t,h=>by
    have h1:=zKS f n t (fun y hy=>h y (by simp[hy]));have h2:=h x (by simp);rw[List.flatMap_cons,List.length_append,List.length_cons,Nat.succ_mul]
    omega
theorem zGU:∀ws:List Bs,Lib.join ws [32]=zAP 32 ws
  |[]=>rfl
  |w::r=>by
    rw[Lib.join_cons,zEk]
    congr 1
theorem zPf(ws:List Bs)(t:Bs)(wb n cap:Nat)(hn:n=ws.length)(hnc:n≤cap)(hl:ws.length≤1000000)(ht:zAP 32 ws=t)(htl:t.length≤1000000)(hk:K.has (Know.strw wb 0 ws))(h:St W0 w K L):
  Calls Tryz.prog 73 #[.slice (some ⟨wb,0,none⟩) n cap,.string ⟨#[32]⟩] w fun e w'=>e=.returned (.string (bb t))∧St W0 w' K L:=by
 subst hn;obtain⟨F,hF,_⟩:=h.get;obtain⟨_,h2,h3⟩:=hk _ _ hF
 have e1:(ws.map bb).map (fun x=>x.data.toList)=ws:=by
  rw[List.map_map]
  conv=>rhs;rw[←List.map_id ws]
  refine List.map_congr_left fun x _=> ?_
  simp
 have e2:(⟨#[32]⟩:ByteArray).data.toList=[32]:=rfl
 have h4:=Tryz.strings_Join wb 0 cap (ws.map bb) ⟨#[32]⟩ w (fun j x hx=>by
  rw[List.getElem?_map]at hx
  cases hj:ws[j]? with
  |none=>rw[hj]at hx;cases hx
  |some y=>rw[hj]at hx;injection hx with hx;subst hx;exact h3 j y hj) h2 (by simp;omega) (by simpa using hnc) (by rw[e1,e2,zGU,ht];omega)
 rw[e1,e2,zGU,ht,List.length_map]at h4;exact h4.mono (by rintro e w' ⟨rfl,hb⟩;exact⟨rfl,h.below' hb⟩)
theorem zF7:zER Tryz.prog 9 (.string ⟨#[]⟩) 1 16:=zCw (by kernel_rfl) rfl (by decide)
def zKB (s:Bs):List Value:=[.string (bb s)]
theorem St.rowStrs{v:Value}{ws:List Bs}{T:TypeId}(h:St W0 w K (.row v T 1 ws.length (ws.flatMap zKB)::L))(h0:0<ws.length):∃wb cap,v=.slice (some ⟨wb,0,none⟩) ws.length cap∧ws.length≤cap∧St W0 w (K.and (Know.strw wb 0 ws)) L:=by
 obtain⟨g,cap,hv⟩:=h.rowSlice h0;subst hv;have hcc:=h.rowGet;refine⟨g,cap,rfl,?_,h.freeze fun F S1 _ hr=> ?_⟩
 · rcases hcc.2 with ⟨hv,_⟩|⟨g2,cap2,cur,hv,hle,_⟩
   · cases hv
   · injection hv with _ _ hv;subst hv;omega
 · obtain⟨⟨g1,g2⟩,g3⟩:=hr
   rcases g2 with ⟨hv,_⟩|⟨g4,cap4,cur,hv,_,hg,hn,hcm,hcs,htake⟩
   · cases hv
   · injection hv with hv1 hv2 hv3;injection hv1 with hv1;injection hv1 with hv1;subst hv1;have hlt:=zA2 hg;refine⟨.inr ⟨(g3 _).2 rfl,hlt⟩,hlt,fun j x hx=> ?_⟩;rw[zAM hg,Nat.zero_add];have hj:j<ws.length:=(List.getElem?_eq_some_iff.1 hx).1;have e:=zBp ws zKB 1 (fun _ _=>rfl) j hj 0 (by omega);rw[(List.getElem?_eq_some_iff.1 hx).2,Nat.mul_one,Nat.add_zero]at e;rw[←htake,List.getElem?_take_of_lt (by omega)]at e
     simpa [zKB]using e
end Go.Proofs.YtenojajfacacoaaGreatDoor
