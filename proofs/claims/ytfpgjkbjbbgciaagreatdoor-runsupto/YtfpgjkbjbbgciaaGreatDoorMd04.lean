import Derived.Test.YtfpgjkbjbbgciaaGreatDoorMd01
import Derived.Test.YtfpgjkbjbbgciaaGreatDoorMd02
import Derived.Shelf.Small.Wraps
import Derived.Shelf.LaysM
import Derived.Shelf.LaysC
import Derived.Shelf.Strconv.ParseIntPublic10
import Derived.Shelf.Strconv.ErrVarParseInt
import Derived.Shelf.Strings.Count
import Derived.Shelf.Strings.Prefix
import Derived.Shelf.Strings.Split
import Derived.Shelf.Unicode.DecodeAny
import Derived.Lib.OthersKept
import Derived.Lib.ParseIntB
import Derived.Lib.RuneCountTail
import Derived.WalkSmall
set_option maxRecDepth 100000
set_option maxHeartbeats 8000000
namespace Go.Proofs
open Go.Shelf
def Tryz.lays104_ren:Go.Shelf.Ren:=⟨fun|104=>128|211=>148|207=>164|n=>n,fun|9=>9|4=>4|24=>206|3=>3|n=>n,fun|n=>n⟩
theorem Tryz.lays104:Go.Proofs.Lays.n104 Tryz.prog Tryz.lays104_ren:={
 mixed:=by kernel_rfl
 f104:=Tryz.func128.trans (congrArg some (by kernel_rfl))
 f207:=Tryz.func164.trans (congrArg some (by kernel_rfl))
 f211:=Tryz.func148.trans (congrArg some (by kernel_rfl))
 t3:=Tryz.underlying3
 a3:=Tryz.isAgg3
 z3:=Tryz.sizeOf3
 v3:=Tryz.zeroValue3
 t4:=Tryz.underlying4
 a4:=Tryz.isAgg4
 z4:=Tryz.sizeOf4
 v4:=Tryz.zeroValue4
 t9:=Tryz.underlying9
 a9:=Tryz.isAgg9
 z9:=Tryz.sizeOf9
 v9:=Tryz.zeroValue9
 t24:=Tryz.underlying206
 a24:=Tryz.isAgg206
 z24:=Tryz.sizeOf206
 v24:=Tryz.zeroValue206 }
open Go.RowKit in
theorem Tryz.strings_CutSuffix(s p:ByteArray)(w:World)(hs:s.size≤9223372036854775807):
  Calls Tryz.prog 128 #[.string s,.string p] w fun e w'=>e=.returned (.tuple #[.string ⟨(Lib.trimSuffix s.data.toList p.data.toList).toArray⟩,.bool (Lib.hasSuffix s.data.toList p.data.toList)])∧w'=w:=Any.strings_CutSuffix Tryz.lays104 s p w hs
def Tryz.laysC174_ren:Go.Shelf.Ren:=⟨fun|174=>175|247=>180|245=>181|287=>184|279=>185|280=>186|281=>187|282=>188|321=>189|322=>190|316=>191|171=>193|205=>192|243=>194|246=>195|283=>196|284=>197|285=>198|286=>199|129=>201|317=>200|318=>202|319=>203|320=>204|337=>205|338=>206|n=>n,fun|9=>9|3=>3|2=>2|75=>246|85=>247|4=>4|167=>255|5=>5|53=>256|175=>257|46=>231|168=>259|37=>157|0=>0|210=>264|21=>21|127=>266|145=>269|143=>267|171=>271|173=>274|212=>277|51=>237|20=>20|213=>278|232=>281|233=>282|80=>202|n=>n,fun|15=>3|16=>4|17=>5|18=>6|19=>7|n=>n⟩
theorem Tryz.laysC174:Go.Proofs.LaysC.n174 Tryz.prog Tryz.laysC174_ren:={
 mixed:=by kernel_rfl
 f129:=Tryz.func201.trans (congrArg some (by kernel_rfl))
 f171:=Tryz.func193.trans (congrArg some (by kernel_rfl))
 f174:=Tryz.func175.trans (congrArg some (by kernel_rfl))
 f205:=Tryz.func192.trans (congrArg some (by kernel_rfl))
 f243:=Tryz.func194.trans (congrArg some (by kernel_rfl))
 f245:=Tryz.func181.trans (congrArg some (by kernel_rfl))
 f246:=Tryz.func195.trans (congrArg some (by kernel_rfl))
 f247:=Tryz.func180.trans (congrArg some (by kernel_rfl))
 f279:=Tryz.func185.trans (congrArg some (by kernel_rfl))
 f280:=Tryz.func186.trans (congrArg some (by kernel_rfl))
 f281:=Tryz.func187.trans (congrArg some (by kernel_rfl))
 f282:=Tryz.func188.trans (congrArg some (by kernel_rfl))
 f283:=Tryz.func196.trans (congrArg some (by kernel_rfl))
 f284:=Tryz.func197.trans (congrArg some (by kernel_rfl))
 f285:=Tryz.func198.trans (congrArg some (by kernel_rfl))
 f286:=Tryz.func199.trans (congrArg some (by kernel_rfl))
 f287:=Tryz.func184.trans (congrArg some (by kernel_rfl))
 f316:=Tryz.func191.trans (congrArg some (by kernel_rfl))
 f317:=Tryz.func200.trans (congrArg some (by kernel_rfl))
 f318:=Tryz.func202.trans (congrArg some (by kernel_rfl))
 f319:=Tryz.func203.trans (congrArg some (by kernel_rfl))
 f320:=Tryz.func204.trans (congrArg some (by kernel_rfl))
 f321:=Tryz.func189.trans (congrArg some (by kernel_rfl))
 f322:=Tryz.func190.trans (congrArg some (by kernel_rfl))
 f337:=Tryz.func205.trans (congrArg some (by kernel_rfl))
 f338:=Tryz.func206.trans (congrArg some (by kernel_rfl))
 t0:=Tryz.underlying0
 a0:=Tryz.isAgg0
 z0:=Tryz.sizeOf0
 v0:=Tryz.zeroValue0
 t2:=Tryz.underlying2
 a2:=Tryz.isAgg2
 z2:=Tryz.sizeOf2
 v2:=Tryz.zeroValue2
 t3:=Tryz.underlying3
 a3:=Tryz.isAgg3
 z3:=Tryz.sizeOf3
 v3:=Tryz.zeroValue3
 t4:=Tryz.underlying4
 a4:=Tryz.isAgg4
 z4:=Tryz.sizeOf4
 v4:=Tryz.zeroValue4
 t5:=Tryz.underlying5
 a5:=Tryz.isAgg5
 z5:=Tryz.sizeOf5
 v5:=Tryz.zeroValue5
 t9:=Tryz.underlying9
 a9:=Tryz.isAgg9
 z9:=Tryz.sizeOf9
 v9:=Tryz.zeroValue9
 t20:=Tryz.underlying20
 a20:=Tryz.isAgg20
 z20:=Tryz.sizeOf20
 v20:=Tryz.zeroValue20
 t21:=Tryz.underlying21
 a21:=Tryz.isAgg21
 z21:=Tryz.sizeOf21
 v21:=Tryz.zeroValue21
 t37:=Tryz.underlying157
 a37:=Tryz.isAgg157
 z37:=Tryz.sizeOf157
 v37:=Tryz.zeroValue157
 t46:=Tryz.underlying231
 a46:=Tryz.isAgg231
 z46:=Tryz.sizeOf231
 v46:=Tryz.zeroValue231
 t51:=Tryz.underlying237
 a51:=Tryz.isAgg237
 z51:=Tryz.sizeOf237
 v51:=Tryz.zeroValue237
 t53:=Tryz.underlying256
 a53:=Tryz.isAgg256
 z53:=Tryz.sizeOf256
 v53:=Tryz.zeroValue256
 t75:=Tryz.underlying246
 a75:=Tryz.isAgg246
 z75:=Tryz.sizeOf246
 v75:=Tryz.zeroValue246
 t85:=Tryz.underlying247
 a85:=Tryz.isAgg247
 z85:=Tryz.sizeOf247
 v85:=Tryz.zeroValue247
 t127:=Tryz.underlying266
 a127:=Tryz.isAgg266
 z127:=Tryz.sizeOf266
 v127:=Tryz.zeroValue266
 t143:=Tryz.underlying267
 a143:=Tryz.isAgg267
 z143:=Tryz.sizeOf267
 v143:=Tryz.zeroValue267
 t145:=Tryz.underlying269
 a145:=Tryz.isAgg269
 z145:=Tryz.sizeOf269
 v145:=Tryz.zeroValue269
 t167:=Tryz.underlying255
 a167:=Tryz.isAgg255
 z167:=Tryz.sizeOf255
 v167:=Tryz.zeroValue255
 t168:=Tryz.underlying259
 a168:=Tryz.isAgg259
 z168:=Tryz.sizeOf259
 v168:=Tryz.zeroValue259
 t171:=Tryz.underlying271
 a171:=Tryz.isAgg271
 z171:=Tryz.sizeOf271
 v171:=Tryz.zeroValue271
 t173:=Tryz.underlying274
 a173:=Tryz.isAgg274
 z173:=Tryz.sizeOf274
 v173:=Tryz.zeroValue274
 t175:=Tryz.underlying257
 a175:=Tryz.isAgg257
 z175:=Tryz.sizeOf257
 v175:=Tryz.zeroValue257
 t210:=Tryz.underlying264
 a210:=Tryz.isAgg264
 z210:=Tryz.sizeOf264
 v210:=Tryz.zeroValue264
 t212:=Tryz.underlying277
 a212:=Tryz.isAgg277
 z212:=Tryz.sizeOf277
 v212:=Tryz.zeroValue277
 t213:=Tryz.underlying278
 a213:=Tryz.isAgg278
 z213:=Tryz.sizeOf278
 t232:=Tryz.underlying281
 a232:=Tryz.isAgg281
 z232:=Tryz.sizeOf281
 v232:=Tryz.zeroValue281
 t233:=Tryz.underlying282
 a233:=Tryz.isAgg282
 z233:=Tryz.sizeOf282
 v233:=Tryz.zeroValue282
 g15:=by kernel_rfl
 g16:=by kernel_rfl
 g17:=by kernel_rfl
 g18:=by kernel_rfl
 g19:=by kernel_rfl
 t80:=Tryz.underlying202
 a80:=Tryz.isAgg202
 z80:=Tryz.sizeOf202
 v80:=Tryz.zeroValue202
 i0:=by kernel_rfl
 i2:=by kernel_rfl
 i3:=by kernel_rfl
 i4:=by kernel_rfl
 i5:=by kernel_rfl
 i9:=by kernel_rfl
 i20:=by kernel_rfl
 i21:=by kernel_rfl
 i37:=by kernel_rfl
 i46:=by kernel_rfl
 i51:=by kernel_rfl
 i53:=by kernel_rfl
 i75:=by kernel_rfl
 i80:=by kernel_rfl
 i85:=by kernel_rfl
 i127:=by kernel_rfl
 i143:=by kernel_rfl
 i145:=by kernel_rfl
 i167:=by kernel_rfl
 i168:=by kernel_rfl
 i171:=by kernel_rfl
 i173:=by kernel_rfl
 i175:=by kernel_rfl
 i210:=by kernel_rfl
 i212:=by kernel_rfl
 i232:=by kernel_rfl
 i233:=by kernel_rfl
 m15:=by kernel_rfl
 m16:=by kernel_rfl
 m17:=by kernel_rfl
 m18:=by kernel_rfl
 m19:=by kernel_rfl
 c0:=by kernel_rfl
 c2:=by kernel_rfl
 c3:=by kernel_rfl
 c4:=by kernel_rfl
 c5:=by kernel_rfl
 c9:=by kernel_rfl
 c20:=by kernel_rfl
 c21:=by kernel_rfl
 c37:=by kernel_rfl
 c46:=by kernel_rfl
 c51:=by kernel_rfl
 c53:=by kernel_rfl
 c75:=by kernel_rfl
 c80:=by kernel_rfl
 c85:=by kernel_rfl
 c127:=by kernel_rfl
 c143:=by kernel_rfl
 c145:=by kernel_rfl
 c167:=by kernel_rfl
 c168:=by kernel_rfl
 c171:=by kernel_rfl
 c173:=by kernel_rfl
 c175:=by kernel_rfl
 c210:=by kernel_rfl
 c212:=by kernel_rfl
 c213:=by kernel_rfl
 c232:=by kernel_rfl
 c233:=by kernel_rfl }
open Go.RowKit in
theorem Tryz.strconv_ParseInt_10_at64_ok(s:ByteArray)(hmax:s.size≤9223372036854775806)(v:Int)(h:Lib.parseIntB 64 s.data.toList=.ok v)(w:World):
  Calls Tryz.prog 175 #[.string s,.int .i64 10,.int .i64 64] w fun e w'=>e=.returned (.tuple #[.int .i64 v,.nilIface])∧(w'=w∨∃ t,w'=Lib.bytesWorld w 5 t):=Any.strconv_ParseInt_10_at64_ok Tryz.laysC174 s hmax v h w
open Go.RowKit in
theorem Tryz.strconv_ParseInt_10_at64_syntax_var (s:ByteArray) (hlim:s.size≤281474976710656) (h:Lib.parseIntB 64 s.data.toList=.«syntax») (tp:TypeId) (p:Value) (w:World) (hvar:w.var? Tryz.prog "strconv.ErrSyntax" = some #[.iface tp p]) :
  Calls Tryz.prog 175 #[.string s,.int .i64 10,.int .i64 64] w fun e w'=>∃ N,e=.returned (.tuple #[.int .i64 (0),.iface 259 (.pointer (some ⟨N,0,none⟩))])∧w.heap.size≤N∧w'.heap[N]?=some (.cells #[.string ⟨#[80,97,114,115,101,73,110,116]⟩,.string s,.iface tp p] 264 (0,0))∧Below w.heap.size w w':=Any.strconv_ParseInt_10_at64_syntax_var Tryz.laysC174 s hlim h tp p w hvar
open Go.RowKit in
theorem Tryz.strconv_ParseInt_10_at64_range_var (s:ByteArray) (hlim:s.size≤281474976710656) (h:Lib.parseIntB 64 s.data.toList=.range) (tp:TypeId) (p:Value) (w:World) (hvar:w.var? Tryz.prog "strconv.ErrRange" = some #[.iface tp p]) :
  Calls Tryz.prog 175 #[.string s,.int .i64 10,.int .i64 64] w fun e w'=>∃ N,e=.returned (.tuple #[.int .i64 (Lib.intSat 64 s.data.toList),.iface 259 (.pointer (some ⟨N,0,none⟩))])∧w.heap.size≤N∧w'.heap[N]?=some (.cells #[.string ⟨#[80,97,114,115,101,73,110,116]⟩,.string s,.iface tp p] 264 (0,0))∧Below w.heap.size w w':=Any.strconv_ParseInt_10_at64_range_var Tryz.laysC174 s hlim h tp p w hvar
def Tryz.lays138_ren:Go.Shelf.Ren:=⟨fun|138=>96|195=>122|218=>123|143=>124|219=>144|217=>157|225=>158|224=>159|267=>160|266=>172|314=>173|n=>n,fun|9=>9|3=>3|4=>4|5=>5|0=>0|46=>231|146=>238|51=>237|n=>n,fun|1=>0|n=>n⟩
theorem Tryz.lays138:Go.Proofs.Lays.n138 Tryz.prog Tryz.lays138_ren:={
 mixed:=by kernel_rfl
 f138:=Tryz.func96.trans (congrArg some (by kernel_rfl))
 f143:=Tryz.func124.trans (congrArg some (by kernel_rfl))
 f195:=Tryz.func122.trans (congrArg some (by kernel_rfl))
 f217:=Tryz.func157.trans (congrArg some (by kernel_rfl))
 f218:=Tryz.func123.trans (congrArg some (by kernel_rfl))
 f219:=Tryz.func144.trans (congrArg some (by kernel_rfl))
 f224:=Tryz.func159.trans (congrArg some (by kernel_rfl))
 f225:=Tryz.func158.trans (congrArg some (by kernel_rfl))
 f266:=Tryz.func172.trans (congrArg some (by kernel_rfl))
 f267:=Tryz.func160.trans (congrArg some (by kernel_rfl))
 f314:=Tryz.func173.trans (congrArg some (by kernel_rfl))
 t0:=Tryz.underlying0
 a0:=Tryz.isAgg0
 z0:=Tryz.sizeOf0
 v0:=Tryz.zeroValue0
 t3:=Tryz.underlying3
 a3:=Tryz.isAgg3
 z3:=Tryz.sizeOf3
 v3:=Tryz.zeroValue3
 t4:=Tryz.underlying4
 a4:=Tryz.isAgg4
 z4:=Tryz.sizeOf4
 v4:=Tryz.zeroValue4
 t5:=Tryz.underlying5
 a5:=Tryz.isAgg5
 z5:=Tryz.sizeOf5
 v5:=Tryz.zeroValue5
 t9:=Tryz.underlying9
 a9:=Tryz.isAgg9
 z9:=Tryz.sizeOf9
 v9:=Tryz.zeroValue9
 t46:=Tryz.underlying231
 a46:=Tryz.isAgg231
 z46:=Tryz.sizeOf231
 v46:=Tryz.zeroValue231
 t51:=Tryz.underlying237
 a51:=Tryz.isAgg237
 z51:=Tryz.sizeOf237
 v51:=Tryz.zeroValue237
 t146:=Tryz.underlying238
 a146:=Tryz.isAgg238
 z146:=Tryz.sizeOf238
 v146:=Tryz.zeroValue238
 g1:=by kernel_rfl }
open Go.RowKit Go.Lib in
theorem Tryz.strings_Count_one(s:ByteArray)(c:UInt8)(w:World):
  Calls Tryz.prog 96 #[.string s,.string ⟨#[c]⟩] w fun e w'=>e=.returned (.int .i64 (Lib.countByte s.data.toList c))∧w'=w:=Any.strings_Count_one Tryz.lays138 s c w
def Tryz.lays101_ren:Go.Shelf.Ren:=⟨fun|101=>174|208=>179|206=>183|n=>n,fun|9=>9|4=>4|3=>3|n=>n,fun|n=>n⟩
theorem Tryz.lays101:Go.Proofs.Lays.n101 Tryz.prog Tryz.lays101_ren:={
 mixed:=by kernel_rfl
 f101:=Tryz.func174.trans (congrArg some (by kernel_rfl))
 f206:=Tryz.func183.trans (congrArg some (by kernel_rfl))
 f208:=Tryz.func179.trans (congrArg some (by kernel_rfl))
 t3:=Tryz.underlying3
 a3:=Tryz.isAgg3
 z3:=Tryz.sizeOf3
 v3:=Tryz.zeroValue3
 t4:=Tryz.underlying4
 a4:=Tryz.isAgg4
 z4:=Tryz.sizeOf4
 v4:=Tryz.zeroValue4
 t9:=Tryz.underlying9
 a9:=Tryz.isAgg9
 z9:=Tryz.sizeOf9
 v9:=Tryz.zeroValue9 }
open Go.RowKit Go.Lib in
theorem Tryz.strings_TrimPrefix(s p:ByteArray)(w:World):
  Calls Tryz.prog 174 #[.string s,.string p] w fun e w'=>e=.returned (.string ⟨(Lib.trimPrefix s.data.toList p.data.toList).toArray⟩)∧w'=w:=Any.strings_TrimPrefix Tryz.lays101 s p w
def Tryz.lays146_ren:Go.Shelf.Ren:=⟨fun|146=>97|221=>125|268=>145|138=>96|143=>124|195=>122|197=>146|218=>123|219=>144|260=>161|217=>157|225=>158|224=>159|267=>160|266=>172|314=>173|n=>n,fun|9=>9|31=>67|3=>3|4=>4|0=>0|105=>220|21=>21|5=>5|46=>231|119=>240|139=>243|138=>242|146=>238|51=>237|n=>n,fun|1=>0|3=>1|4=>2|n=>n⟩
theorem Tryz.lays146:Go.Proofs.Lays.n146 Tryz.prog Tryz.lays146_ren:={
 mixed:=by kernel_rfl
 f138:=Tryz.func96.trans (congrArg some (by kernel_rfl))
 f143:=Tryz.func124.trans (congrArg some (by kernel_rfl))
 f146:=Tryz.func97.trans (congrArg some (by kernel_rfl))
 f195:=Tryz.func122.trans (congrArg some (by kernel_rfl))
 f197:=Tryz.func146.trans (congrArg some (by kernel_rfl))
 f217:=Tryz.func157.trans (congrArg some (by kernel_rfl))
 f218:=Tryz.func123.trans (congrArg some (by kernel_rfl))
 f219:=Tryz.func144.trans (congrArg some (by kernel_rfl))
 f221:=Tryz.func125.trans (congrArg some (by kernel_rfl))
 f224:=Tryz.func159.trans (congrArg some (by kernel_rfl))
 f225:=Tryz.func158.trans (congrArg some (by kernel_rfl))
 f260:=Tryz.func161.trans (congrArg some (by kernel_rfl))
 f266:=Tryz.func172.trans (congrArg some (by kernel_rfl))
 f267:=Tryz.func160.trans (congrArg some (by kernel_rfl))
 f268:=Tryz.func145.trans (congrArg some (by kernel_rfl))
 f314:=Tryz.func173.trans (congrArg some (by kernel_rfl))
 t0:=Tryz.underlying0
 a0:=Tryz.isAgg0
 z0:=Tryz.sizeOf0
 v0:=Tryz.zeroValue0
 t3:=Tryz.underlying3
 a3:=Tryz.isAgg3
 z3:=Tryz.sizeOf3
 v3:=Tryz.zeroValue3
 t4:=Tryz.underlying4
 a4:=Tryz.isAgg4
 z4:=Tryz.sizeOf4
 v4:=Tryz.zeroValue4
 t5:=Tryz.underlying5
 a5:=Tryz.isAgg5
 z5:=Tryz.sizeOf5
 v5:=Tryz.zeroValue5
 t9:=Tryz.underlying9
 a9:=Tryz.isAgg9
 z9:=Tryz.sizeOf9
 v9:=Tryz.zeroValue9
 t21:=Tryz.underlying21
 a21:=Tryz.isAgg21
 z21:=Tryz.sizeOf21
 v21:=Tryz.zeroValue21
 t31:=Tryz.underlying67
 a31:=Tryz.isAgg67
 z31:=Tryz.sizeOf67
 v31:=Tryz.zeroValue67
 t46:=Tryz.underlying231
 a46:=Tryz.isAgg231
 z46:=Tryz.sizeOf231
 v46:=Tryz.zeroValue231
 t51:=Tryz.underlying237
 a51:=Tryz.isAgg237
 z51:=Tryz.sizeOf237
 v51:=Tryz.zeroValue237
 t105:=Tryz.underlying220
 a105:=Tryz.isAgg220
 z105:=Tryz.sizeOf220
 v105:=Tryz.zeroValue220
 t119:=Tryz.underlying240
 a119:=Tryz.isAgg240
 z119:=Tryz.sizeOf240
 t138:=Tryz.underlying242
 a138:=Tryz.isAgg242
 z138:=Tryz.sizeOf242
 v138:=Tryz.zeroValue242
 t139:=Tryz.underlying243
 a139:=Tryz.isAgg243
 z139:=Tryz.sizeOf243
 v139:=Tryz.zeroValue243
 t146:=Tryz.underlying238
 a146:=Tryz.isAgg238
 z146:=Tryz.sizeOf238
 v146:=Tryz.zeroValue238
 g1:=by kernel_rfl
 g3:=by kernel_rfl
 g4:=by kernel_rfl }
open Go.RowKit Go.Lib in
theorem Tryz.strings_Split(s sep:ByteArray)(m:Int)(w:World)(hs:s.size<4294967281)(hm:w.cell? ⟨0,0,none⟩=some (.int .i64 m))(h1:1≤sep.size):
  Calls Tryz.prog 97 #[.string s,.string sep] w fun e w' =>
   e=.returned (.slice (some ⟨w.heap.size,0,none⟩) (Lib.countB s sep+1) (Lib.countB s sep+1))∧w'=w.alloc (.cells ((Lib.splitB sep 0 (Lib.countB s sep) s).map Value.string).toArray 9):=Any.strings_Split Tryz.lays146 (by kernel_rfl) s sep m w hs hm h1
def Tryz.lays197_ren:Go.Shelf.Ren:=⟨fun|197=>146|260=>161|n=>n,fun|9=>9|21=>21|3=>3|4=>4|5=>5|105=>220|119=>240|0=>0|46=>231|139=>243|138=>242|n=>n,fun|3=>1|4=>2|n=>n⟩
theorem Tryz.lays197:Go.Proofs.Lays.n197 Tryz.prog Tryz.lays197_ren:={
 mixed:=by kernel_rfl
 f197:=Tryz.func146.trans (congrArg some (by kernel_rfl))
 f260:=Tryz.func161.trans (congrArg some (by kernel_rfl))
 t0:=Tryz.underlying0
 a0:=Tryz.isAgg0
 z0:=Tryz.sizeOf0
 v0:=Tryz.zeroValue0
 t3:=Tryz.underlying3
 a3:=Tryz.isAgg3
 z3:=Tryz.sizeOf3
 v3:=Tryz.zeroValue3
 t4:=Tryz.underlying4
 a4:=Tryz.isAgg4
 z4:=Tryz.sizeOf4
 v4:=Tryz.zeroValue4
 t5:=Tryz.underlying5
 a5:=Tryz.isAgg5
 z5:=Tryz.sizeOf5
 v5:=Tryz.zeroValue5
 t9:=Tryz.underlying9
 a9:=Tryz.isAgg9
 z9:=Tryz.sizeOf9
 v9:=Tryz.zeroValue9
 t21:=Tryz.underlying21
 a21:=Tryz.isAgg21
 z21:=Tryz.sizeOf21
 v21:=Tryz.zeroValue21
 t46:=Tryz.underlying231
 a46:=Tryz.isAgg231
 z46:=Tryz.sizeOf231
 v46:=Tryz.zeroValue231
 t105:=Tryz.underlying220
 a105:=Tryz.isAgg220
 z105:=Tryz.sizeOf220
 v105:=Tryz.zeroValue220
 t119:=Tryz.underlying240
 a119:=Tryz.isAgg240
 z119:=Tryz.sizeOf240
 t138:=Tryz.underlying242
 a138:=Tryz.isAgg242
 z138:=Tryz.sizeOf242
 v138:=Tryz.zeroValue242
 t139:=Tryz.underlying243
 a139:=Tryz.isAgg243
 z139:=Tryz.sizeOf243
 v139:=Tryz.zeroValue243
 g3:=by kernel_rfl
 g4:=by kernel_rfl }
open Go.RowKit Go.Lib in
theorem Tryz.utf8_DecodeRuneInString(s:ByteArray)(w:World)(hT:Lib.Utf8Tabs 1 2 w):
  Calls Tryz.prog 146 #[.string s] w fun e w'=>e=.returned (.tuple #[.int .i32 (Lib.decodeGo s).1,.int .i64 (Lib.decodeGo s).2])∧Below w.heap.size w w':=Any.utf8_DecodeRuneInString Tryz.lays197 s w hT
end Go.Proofs
namespace Go.Proofs.YtfpgjkbjbbgciaaGreatDoor
open Go.RowKit Sp
abbrev zaj(e l:Int):Ending:=.panicked [{ v:=.iface 115 (.agg #[.int .i64 e,.int .i64 l]),recovered:=false }]
theorem za3(e l:Int)(w:World):Calls Tryz.prog 79 #[.int .i64 e,.int .i64 l] w fun en w'=>en=zaj e l∧w'=w:=by
 go_enter Tryz.func79,Tryz.ntmps79
 go_wp2
 exact⟨rfl,rfl,rfl⟩
theorem zeu{k:IntKind}{a c:Int}{b d:Bool}(h:a=c)(h':b=d):Ending.returned (.tuple #[.int k a,.bool b])=.returned (.tuple #[.int k c,.bool d]):=by rw [h,h']
def zfe(s:ByteArray):Bool:=decide (0≤reg s)
def zaD(s:ByteArray):Int:=if 0≤reg s then reg s else 0
theorem zjF(s:ByteArray)(w:World)(_hs:s.size≤maxLen):
  Calls Tryz.prog 165 #[.string s] w fun e w'=>e=.returned (.tuple #[.int .i64 (zaD s),.bool (zfe s)])∧w'=w:=by
 unfold maxLen at _hs
 have no:¬(s.size=2∧bt s 0=114∧48≤bt s 1∧bt s 1≤55)→(0:Int)=zaD s∧false=zfe s:=by
  intro h
  have e:=zky s h
  unfold zaD zfe
  rw [←e];simp
 have yes:(h:s.size=2)→(h0:bt s 0=114)→(h1:48≤bt s 1)→(h2:bt s 1≤55)→bt s 1-48=zaD s∧true=zfe s:=by
  intro h h0 h1 h2
  have e:=zrg s h h0 h1 h2
  unfold zaD zfe
  rw [←e,if_pos (by omega)]
  simp;omega
 have NO:=Hid.out (p:=¬(s.size=2∧bt s 0=114∧48≤bt s 1∧bt s 1≤55)→(0:Int)=zaD s∧false=zfe s) no
 have HNO:Hid (¬(s.size=2∧bt s 0=114∧48≤bt s 1∧bt s 1≤55)→(0:Int)=zaD s∧false=zfe s):=no
 have HYES:Hid ((h:s.size=2)→(h0:bt s 0=114)→(h1:48≤bt s 1)→(h2:bt s 1≤55)→bt s 1-48=zaD s∧true=zfe s):=yes
 clear no yes NO
 by_cases h:s.size=2
 ·have H0:Hid (((s[0]'(by omega)).toNat:Int)=bt s 0):=zdE s 0 (by omega)
  have H1:Hid (((s[1]'(by omega)).toNat:Int)=bt s 1):=zdE s 1 (by omega)
  have b0:0≤((s[1]'(by omega)).toNat:Int):=by omega
  have b1:((s[1]'(by omega)).toNat:Int)≤255:=by have:=(s[1]'(by omega)).toNat_lt;omega
  go_enter Tryz.func165,Tryz.ntmps165
  go_wp2
  go_ways
  all_goals go_ret2
  all_goals have e0:=H0.out
  all_goals have e1:=H1.out
  all_goals first
   | (have q:=HNO.out (by omega);exact⟨zeu q.1 q.2,rfl⟩)
   | (have q:=HYES.out h (by omega) (by omega) (by omega);exact⟨zeu (by rw [←q.1,←e1]) q.2,rfl⟩)
 ·go_enter Tryz.func165,Tryz.ntmps165
  go_wp2
  go_ret2
  have q:=HNO.out (by omega)
  exact⟨zeu q.1 q.2,rfl⟩
structure LibW(w:World):Prop where
 tabs:Lib.Utf8Tabs 1 2 w
 most:∃ m,w.cell? ⟨0,0,none⟩=some (.int .i64 m)
 syn:∃ tp p,w.var? Tryz.prog "strconv.ErrSyntax" = some #[.iface tp p]
 rng:∃ tp p,w.var? Tryz.prog "strconv.ErrRange" = some #[.iface tp p]
 low:8≤w.heap.size
theorem zeI(s:ByteArray)(pos:Nat)(w:World)(hw:Lib.Utf8Tabs 1 2 w)(hp:pos<s.size):
  Calls Tryz.prog 126 #[.string (s.extract pos s.size)] w fun e w'=>e=.returned (.bool (((Utf8.decode s pos).2:Int) == 1))∧Below w.heap.size w w':=by
 have hd:Lib.decodeGo (s.extract pos s.size)=Utf8.decode s pos:=by
  unfold Lib.decodeGo
  rw [if_neg (by rw [ByteArray.size_extract];omega)]
  exact Lib.tail_decode s pos 0
 have hc:=Tryz.utf8_DecodeRuneInString (s.extract pos s.size) w hw
 rw [hd] at hc
 have hle:(Utf8.decode s pos).2≤4:=by
  by_cases h0:(chr s pos).1=0
  ·rw [(zgj s pos).1 h0];decide
  ·rw [(zgj s pos).2 h0]
   have:=zcA s pos hp h0
   show(chr s pos).1.toNat≤4
   omega
 generalize Utf8.decode s pos=d at hc hle
 go_enter Tryz.func126,Tryz.ntmps126
 go_wp2_with(go_at_call 146;refine hc.mono ?_;rintro e w' ⟨rfl,hb⟩)
 go_ret
 exact⟨rfl,hb⟩
end Go.Proofs.YtfpgjkbjbbgciaaGreatDoor
namespace Go.Proofs.YtfpgjkbjbbgciaaGreatDoor.Sp
theorem zm4(s:ByteArray)(a b c:Nat)(h1:a≤b)(h2:b≤c):s.extract a b++s.extract b c=s.extract a c:=by
 apply ByteArray.ext
 rw [ByteArray.data_append,ByteArray.data_extract,ByteArray.data_extract,ByteArray.data_extract]
 rw [Array.extract_append_extract]
 congr 1 <;> omega
theorem zw9(s:ByteArray)(a:Nat):s.extract a a=ByteArray.empty:=by
 apply ByteArray.ext
 rw [ByteArray.data_extract]
 simp
 omega
theorem zrD(s:ByteArray)(n i:Nat)(now:ByteArray)(l:List ByteArray)(hn:i+n≤s.size)(h:∀ j,i≤j→j<i+n→¬(bt s j=32∨bt s j=9∨bt s j=59)):za4 s i now l=za4 s (i+n) (now++s.extract i (i+n)) l:=by
 induction n generalizing i now with
 | zero =>
  rw [Nat.add_zero,zw9]
  congr 1
  simp
 | succ n ih =>
  rw [zeK s i now l (by omega) (h i (by omega) (by omega)),ih (i+1) _ (by omega) (fun j h1 h2=>h j (by omega) (by omega))]
  rw [show i+1+n=i+(n+1) by omega]
  congr 1
  rw [ByteArray.append_assoc,zm4 s i (i+1) (i+(n+1)) (by omega) (by omega)]
theorem zfp(s:ByteArray)(k i:Nat)(v u:Int)(h:zbM s i k v=some u):∀ j,i≤j→j<i+k→128≤bt s j:=by
 induction k generalizing i v with
 | zero=>intro j h1 h2;omega
 | succ k ih =>
  unfold zbM at h
  split at h
  ·rename_i hc
   intro j h1 h2
   by_cases hj:j=i
   ·subst hj;omega
   ·exact ih _ _ h j (by omega) (by omega)
  ·cases h
theorem zh1(s:ByteArray)(i:Nat)(hi:i<s.size)(h0:¬(chr s i).1=0):(bt s i<128∧chr s i=(1,bt s i))∨(128≤(chr s i).2∧∀ j,i≤j→j<i+chrN s i→128≤bt s j):=by
 by_cases h:bt s i<128
 ·left;exact⟨h,by unfold chr;rw [if_pos h]⟩
 ·right
  unfold chrN
  unfold chr at h0 ⊢
  rw [if_neg h] at h0 ⊢
  split at h0
  ·rename_i hc
   rw [if_pos hc]
   rcases zbN 2 128 (zbM s (i+1) 1 (bt s i-192)) with h'|⟨v,h1,h2,h3,_⟩
   ·rw [h'] at h0;exact absurd rfl h0
   ·rw [h2]
    refine⟨h3,fun j a b=>?_⟩
    by_cases hj:j=i
    ·subst hj;omega
    ·exact zfp s 1 (i+1) _ _ h1 j (by omega) (by simp at b;omega)
  ·rename_i hc
   rw [if_neg hc]
   split at h0
   ·rename_i hd
    rw [if_pos hd]
    rcases zbN 3 2048 (zbM s (i+1) 2 (bt s i-224)) with h'|⟨v,h1,h2,h3,_⟩
    ·rw [h'] at h0;exact absurd rfl h0
    ·rw [h2]
     refine⟨by show 128≤v;omega,fun j a b=>?_⟩
     by_cases hj:j=i
     ·subst hj;omega
     ·exact zfp s 2 (i+1) _ _ h1 j (by omega) (by simp at b;omega)
   ·rename_i hd
    rw [if_neg hd]
    split at h0
    ·rename_i he
     rw [if_pos he]
     rcases zbN 4 65536 (zbM s (i+1) 3 (bt s i-240)) with h'|⟨v,h1,h2,h3,_⟩
     ·rw [h'] at h0;exact absurd rfl h0
     ·rw [h2]
      refine⟨by show 128≤v;omega,fun j a b=>?_⟩
      by_cases hj:j=i
      ·subst hj;omega
      ·exact zfp s 3 (i+1) _ _ h1 j (by omega) (by simp at b;omega)
    ·exact absurd rfl h0
theorem zeQ(s:ByteArray)(i:Nat)(now:ByteArray)(l:List ByteArray)(hi:i<s.size)(h0:¬(chr s i).1=0)(hc:¬((chr s i).2=32∨(chr s i).2=9∨(chr s i).2=59)):za4 s i now l=za4 s (i+chrN s i) (now++s.extract i (i+chrN s i)) l:=by
 have hp:=zcA s i hi h0
 refine zrD s (chrN s i) i now l (by omega) (fun j h1 h2=>?_)
 rcases zh1 s i hi h0 with ⟨ha,hb⟩|⟨_,hb⟩
 ·have hN:chrN s i=1:=by unfold chrN;rw [hb];rfl
  have:j=i:=by omega
  subst this
  rw [hb] at hc
  exact hc
 ·have:=hb j h1 h2;omega
theorem zh2(s:ByteArray)(i:Nat)(hi:i<s.size)(h0:¬(chr s i).1=0)(hc:(chr s i).2<128):bt s i=(chr s i).2∧chrN s i=1:=by
 rcases zh1 s i hi h0 with ⟨ha,hb⟩|⟨hb,_⟩
 ·unfold chrN;rw [hb];exact⟨rfl,rfl⟩
 ·omega
end Go.Proofs.YtfpgjkbjbbgciaaGreatDoor.Sp
namespace Go.Proofs.YtfpgjkbjbbgciaaGreatDoor
open Go.RowKit Sp
theorem zce{a b:ByteArray}(h:a=b):Ending.returned (.string a)=.returned (.string b):=by rw [h]
theorem zaw(s:ByteArray)(l:List UInt8)(h:(s.toList == l)=true):s=⟨l.toArray⟩:=by
 rw [beq_iff_eq,ByteArray.toList_eq] at h
 rw [←h]
theorem zrt(w:World):
  Calls Tryz.prog 74 #[.string ⟨#[115,101,116]⟩] w fun e w'=>e=.returned (.string ⟨(zaa ⟨#[115,101,116]⟩).toArray⟩)∧w'=w:=by
 go_enter Tryz.func74,Tryz.ntmps74
 go_wp2
 go_ret
 exact⟨zce (by kernel_rfl),rfl⟩
theorem zru(w:World):
  Calls Tryz.prog 74 #[.string ⟨#[105,110,99]⟩] w fun e w'=>e=.returned (.string ⟨(zaa ⟨#[105,110,99]⟩).toArray⟩)∧w'=w:=by
 go_enter Tryz.func74,Tryz.ntmps74
 go_wp2
 go_ret
 exact⟨zce (by kernel_rfl),rfl⟩
theorem zrv(w:World):
  Calls Tryz.prog 74 #[.string ⟨#[109,111,118]⟩] w fun e w'=>e=.returned (.string ⟨(zaa ⟨#[109,111,118]⟩).toArray⟩)∧w'=w:=by
 go_enter Tryz.func74,Tryz.ntmps74
 go_wp2
 go_ret
 exact⟨zce (by kernel_rfl),rfl⟩
theorem zpd(w:World):
  Calls Tryz.prog 74 #[.string ⟨#[108,111,97,100]⟩] w fun e w'=>e=.returned (.string ⟨(zaa ⟨#[108,111,97,100]⟩).toArray⟩)∧w'=w:=by
 go_enter Tryz.func74,Tryz.ntmps74
 go_wp2
 go_ret
 exact⟨zce (by kernel_rfl),rfl⟩
theorem zm0(w:World):
  Calls Tryz.prog 74 #[.string ⟨#[115,116,111,114,101]⟩] w fun e w'=>e=.returned (.string ⟨(zaa ⟨#[115,116,111,114,101]⟩).toArray⟩)∧w'=w:=by
 go_enter Tryz.func74,Tryz.ntmps74
 go_wp2
 go_ret
 exact⟨zce (by kernel_rfl),rfl⟩
theorem zrw(w:World):
  Calls Tryz.prog 74 #[.string ⟨#[97,100,100]⟩] w fun e w'=>e=.returned (.string ⟨(zaa ⟨#[97,100,100]⟩).toArray⟩)∧w'=w:=by
 go_enter Tryz.func74,Tryz.ntmps74
 go_wp2
 go_ret
 exact⟨zce (by kernel_rfl),rfl⟩
theorem zrx(w:World):
  Calls Tryz.prog 74 #[.string ⟨#[115,117,98]⟩] w fun e w'=>e=.returned (.string ⟨(zaa ⟨#[115,117,98]⟩).toArray⟩)∧w'=w:=by
 go_enter Tryz.func74,Tryz.ntmps74
 go_wp2
 go_ret
 exact⟨zce (by kernel_rfl),rfl⟩
theorem zry(w:World):
  Calls Tryz.prog 74 #[.string ⟨#[109,117,108]⟩] w fun e w'=>e=.returned (.string ⟨(zaa ⟨#[109,117,108]⟩).toArray⟩)∧w'=w:=by
 go_enter Tryz.func74,Tryz.ntmps74
 go_wp2
 go_ret
 exact⟨zce (by kernel_rfl),rfl⟩
theorem zpe(w:World):
  Calls Tryz.prog 74 #[.string ⟨#[114,101,97,100]⟩] w fun e w'=>e=.returned (.string ⟨(zaa ⟨#[114,101,97,100]⟩).toArray⟩)∧w'=w:=by
 go_enter Tryz.func74,Tryz.ntmps74
 go_wp2
 go_ret
 exact⟨zce (by kernel_rfl),rfl⟩
theorem zm1(w:World):
  Calls Tryz.prog 74 #[.string ⟨#[119,114,105,116,101]⟩] w fun e w'=>e=.returned (.string ⟨(zaa ⟨#[119,114,105,116,101]⟩).toArray⟩)∧w'=w:=by
 go_enter Tryz.func74,Tryz.ntmps74
 go_wp2
 go_ret
 exact⟨zce (by kernel_rfl),rfl⟩
theorem zpf(w:World):
  Calls Tryz.prog 74 #[.string ⟨#[106,117,109,112]⟩] w fun e w'=>e=.returned (.string ⟨(zaa ⟨#[106,117,109,112]⟩).toArray⟩)∧w'=w:=by
 go_enter Tryz.func74,Tryz.ntmps74
 go_wp2
 go_ret
 exact⟨zce (by kernel_rfl),rfl⟩
theorem zpg(w:World):
  Calls Tryz.prog 74 #[.string ⟨#[99,97,108,108]⟩] w fun e w'=>e=.returned (.string ⟨(zaa ⟨#[99,97,108,108]⟩).toArray⟩)∧w'=w:=by
 go_enter Tryz.func74,Tryz.ntmps74
 go_wp2
 go_ret
 exact⟨zce (by kernel_rfl),rfl⟩
theorem zph(w:World):
  Calls Tryz.prog 74 #[.string ⟨#[108,101,115,115]⟩] w fun e w'=>e=.returned (.string ⟨(zaa ⟨#[108,101,115,115]⟩).toArray⟩)∧w'=w:=by
 go_enter Tryz.func74,Tryz.ntmps74
 go_wp2
 go_ret
 exact⟨zce (by kernel_rfl),rfl⟩
theorem zpi(w:World):
  Calls Tryz.prog 74 #[.string ⟨#[115,97,109,101]⟩] w fun e w'=>e=.returned (.string ⟨(zaa ⟨#[115,97,109,101]⟩).toArray⟩)∧w'=w:=by
 go_enter Tryz.func74,Tryz.ntmps74
 go_wp2
 go_ret
 exact⟨zce (by kernel_rfl),rfl⟩
theorem zpj(w:World):
  Calls Tryz.prog 74 #[.string ⟨#[98,97,99,107]⟩] w fun e w'=>e=.returned (.string ⟨(zaa ⟨#[98,97,99,107]⟩).toArray⟩)∧w'=w:=by
 go_enter Tryz.func74,Tryz.ntmps74
 go_wp2
 go_ret
 exact⟨zce (by kernel_rfl),rfl⟩
theorem zpk(w:World):
  Calls Tryz.prog 74 #[.string ⟨#[115,116,111,112]⟩] w fun e w'=>e=.returned (.string ⟨(zaa ⟨#[115,116,111,112]⟩).toArray⟩)∧w'=w:=by
 go_enter Tryz.func74,Tryz.ntmps74
 go_wp2
 go_ret
 exact⟨zce (by kernel_rfl),rfl⟩
theorem zpl(s:ByteArray)(w:World)(h0:(s.toList == [115,101,116])=false)(h1:(s.toList == [105,110,99])=false)(h2:(s.toList == [109,111,118])=false)(h3:(s.toList == [108,111,97,100])=false)(h4:(s.toList == [115,116,111,114,101])=false)(h5:(s.toList == [97,100,100])=false)(h6:(s.toList == [115,117,98])=false)(h7:(s.toList == [109,117,108])=false)(h8:(s.toList == [114,101,97,100])=false)(h9:(s.toList == [119,114,105,116,101])=false)(h10:(s.toList == [106,117,109,112])=false)(h11:(s.toList == [99,97,108,108])=false)(h12:(s.toList == [108,101,115,115])=false)(h13:(s.toList == [115,97,109,101])=false)(h14:(s.toList == [98,97,99,107])=false)(h15:(s.toList == [115,116,111,112])=false):
  Calls Tryz.prog 74 #[.string s] w fun e w'=>e=.returned (.string ⟨(zaa s).toArray⟩)∧w'=w:=by
 have HR:Hid (([63]:List UInt8)=zaa s):=by
  simp only [Hid,zaa,isW,h0,h1,h2,h3,h4,h5,h6,h7,h8,h9,h10,h11,h12,h13,h14,h15]
  simp
 go_enter Tryz.func74,Tryz.ntmps74
 go_wp2
 go_ret
 exact⟨zce (by rw [←HR.out]),rfl⟩
theorem zrz(s:ByteArray)(w:World):
  Calls Tryz.prog 74 #[.string s] w fun e w'=>e=.returned (.string ⟨(zaa s).toArray⟩)∧w'=w:=by
 cases h0:(s.toList == [115,101,116]) with
 | true=>rw [zaw s _ h0];exact zrt w
 | false =>
 cases h1:(s.toList == [105,110,99]) with
 | true=>rw [zaw s _ h1];exact zru w
 | false =>
 cases h2:(s.toList == [109,111,118]) with
 | true=>rw [zaw s _ h2];exact zrv w
 | false =>
 cases h3:(s.toList == [108,111,97,100]) with
 | true=>rw [zaw s _ h3];exact zpd w
 | false =>
 cases h4:(s.toList == [115,116,111,114,101]) with
 | true=>rw [zaw s _ h4];exact zm0 w
 | false =>
 cases h5:(s.toList == [97,100,100]) with
 | true=>rw [zaw s _ h5];exact zrw w
 | false =>
 cases h6:(s.toList == [115,117,98]) with
 | true=>rw [zaw s _ h6];exact zrx w
 | false =>
 cases h7:(s.toList == [109,117,108]) with
 | true=>rw [zaw s _ h7];exact zry w
 | false =>
 cases h8:(s.toList == [114,101,97,100]) with
 | true=>rw [zaw s _ h8];exact zpe w
 | false =>
 cases h9:(s.toList == [119,114,105,116,101]) with
 | true=>rw [zaw s _ h9];exact zm1 w
 | false =>
 cases h10:(s.toList == [106,117,109,112]) with
 | true=>rw [zaw s _ h10];exact zpf w
 | false =>
 cases h11:(s.toList == [99,97,108,108]) with
 | true=>rw [zaw s _ h11];exact zpg w
 | false =>
 cases h12:(s.toList == [108,101,115,115]) with
 | true=>rw [zaw s _ h12];exact zph w
 | false =>
 cases h13:(s.toList == [115,97,109,101]) with
 | true=>rw [zaw s _ h13];exact zpi w
 | false =>
 cases h14:(s.toList == [98,97,99,107]) with
 | true=>rw [zaw s _ h14];exact zpj w
 | false =>
 cases h15:(s.toList == [115,116,111,112]) with
 | true=>rw [zaw s _ h15];exact zpk w
 | false =>
 exact zpl s w h0 h1 h2 h3 h4 h5 h6 h7 h8 h9 h10 h11 h12 h13 h14 h15
end Go.Proofs.YtfpgjkbjbbgciaaGreatDoor
