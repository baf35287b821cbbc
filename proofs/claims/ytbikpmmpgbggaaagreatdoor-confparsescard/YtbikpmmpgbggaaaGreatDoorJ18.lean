/- Contracts of the program's functions, part 18: own work, joined in build order. -/
import Derived.Test.YtbikpmmpgbggaaaGreatDoorJ17
import Derived.Shelf.Strings.Builder1
import Derived.Shelf.Strings.Builder2
import Derived.Shelf.Strings.OnBuilder
import Derived.Shelf.Strings.BuilderF
import Derived.Shelf.Strconv.Atoi
import Derived.Shelf.Strconv.Itoa0
import Derived.Shelf.Strconv.Itoa1
import Derived.Shelf.LaysM
import Derived.Shelf.Strconv.Itoa2
import Derived.Shelf.Strconv.Itoa3
import Derived.Shelf.Strconv.AtoiErrFast
import Derived.Shelf.Strconv.ParseIntEmpty
import Derived.Shelf.Strconv.AtoiFail
import Derived.Shelf.Strconv.Clone
import Derived.Shelf.Strconv.SyntaxError
import Derived.Shelf.LaysC
import Derived.Shelf.Strconv.ToError
import Derived.Shelf.Strconv.AtoiErr
import Derived.Shelf.Strconv.Lower
import Derived.Shelf.Strconv.ParseUint10
import Derived.Shelf.Strconv.ParseUint10Empty
import Derived.Shelf.Strconv.ParseUint10Any
import Derived.Shelf.Strconv.ParseInt10
import Derived.Shelf.Strconv.AtoiLong
import Derived.Shelf.Strconv.AtoiInnerAll
import Derived.Shelf.Strconv.RangeError
import Derived.Shelf.Strconv.ToErrorRange
import Derived.Shelf.Strconv.AtoiAll
import Derived.Shelf.Strings.Prefix
import Derived.Shelf.Bits.Mul64
import Derived.Shelf.Slices.Turned
import Derived.Test.YtbikpmmpgbggaaaGreatDoorProg
import Derived.Lib.AppendIntMem
import Derived.Lib.ItoaLen
namespace Go.Proofs
open Go.Shelf
set_option maxHeartbeats 16000000
def Tryz.lays156_ren:Go.Shelf.Ren:=⟨fun|156=>77|165=>105|166=>106|169=>107|240=>138|241=>139|276=>163|277=>164|n=>n,fun|31=>42|9=>9|3=>3|4=>4|0=>0|20=>20|72=>174|76=>144|70=>171|37=>172|75=>143|127=>198|164=>218|5=>5|80=>101|n=>n,fun|n=>n⟩
theorem Tryz.lays156:Go.Proofs.Lays.n156 Tryz.prog Tryz.lays156_ren:={
 mixed:=by kernel_rfl
 f156:=Tryz.func77.trans (congrArg some (by kernel_rfl))
 f165:=Tryz.func105.trans (congrArg some (by kernel_rfl))
 f166:=Tryz.func106.trans (congrArg some (by kernel_rfl))
 f169:=Tryz.func107.trans (congrArg some (by kernel_rfl))
 f240:=Tryz.func138.trans (congrArg some (by kernel_rfl))
 f241:=Tryz.func139.trans (congrArg some (by kernel_rfl))
 f276:=Tryz.func163.trans (congrArg some (by kernel_rfl))
 f277:=Tryz.func164.trans (congrArg some (by kernel_rfl))
 t0:=Tryz.underlying0
 a0:=Tryz.isAgg0
 z0:=Tryz.sizeOf0
 v0:=Tryz.zeroValue0
 t3:=Tryz.underlying3
 a3:=Tryz.isAgg3
 z3:=Tryz.sizeOf3
 v3:=Tryz.zeroValue3
 t4:=Tryz.underlying4
 a4:=Tryz.isAgg4
 z4:=Tryz.sizeOf4
 v4:=Tryz.zeroValue4
 t9:=Tryz.underlying9
 a9:=Tryz.isAgg9
 z9:=Tryz.sizeOf9
 v9:=Tryz.zeroValue9
 t20:=Tryz.underlying20
 a20:=Tryz.isAgg20
 z20:=Tryz.sizeOf20
 v20:=Tryz.zeroValue20
 t31:=Tryz.underlying42
 a31:=Tryz.isAgg42
 z31:=Tryz.sizeOf42
 v31:=Tryz.zeroValue42
 t37:=Tryz.underlying172
 a37:=Tryz.isAgg172
 z37:=Tryz.sizeOf172
 v37:=Tryz.zeroValue172
 t70:=Tryz.underlying171
 a70:=Tryz.isAgg171
 z70:=Tryz.sizeOf171
 v70:=Tryz.zeroValue171
 t72:=Tryz.underlying174
 a72:=Tryz.isAgg174
 z72:=Tryz.sizeOf174
 v72:=Tryz.zeroValue174
 t75:=Tryz.underlying143
 a75:=Tryz.isAgg143
 z75:=Tryz.sizeOf143
 v75:=Tryz.zeroValue143
 t76:=Tryz.underlying144
 a76:=Tryz.isAgg144
 z76:=Tryz.sizeOf144
 v76:=Tryz.zeroValue144
 t127:=Tryz.underlying198
 a127:=Tryz.isAgg198
 z127:=Tryz.sizeOf198
 v127:=Tryz.zeroValue198
 t164:=Tryz.underlying218
 a164:=Tryz.isAgg218
 z164:=Tryz.sizeOf218
 v164:=Tryz.zeroValue218}
theorem Tryz.Builder_Extra_156:Builder.Extra Tryz.prog Tryz.lays156_ren:={
 sizeBuilder:=by kernel_rfl
 liesBuilder:=by kernel_rfl
 t5:=Tryz.underlying5
 a5:=Tryz.isAgg5
 z5:=Tryz.sizeOf5
 v5:=Tryz.zeroValue5
 infoByte:=by kernel_rfl
 cellsByte:=by kernel_rfl
 sizeByte:=by kernel_rfl
 neB5:=by decide}
open Go.RowKit in
theorem Tryz.strings_Join(bk o c:Nat)(xs:List ByteArray)(sep:ByteArray)(w:World)(hcells: ∀(j:Nat) x,xs[j]? =some x→w.cell? ⟨bk,o+j,none⟩=some (.string x))(hbk:bk<w.heap.size)(hN:xs.length≤140737488355328)(hcap:xs.length≤c)(hlen:(Lib.join (xs.map (·.data.toList)) sep.data.toList).length≤140737488355328):
  Calls Tryz.prog 77 #[.slice (some ⟨bk,o,none⟩) xs.length c,.string sep] w fun e w'=>e=.returned (.string ⟨(Lib.join (xs.map (·.data.toList)) sep.data.toList).toArray⟩)∧Below w.heap.size w w':=Any.strings_Join Tryz.lays156 Tryz.Builder_Extra_156 bk o c xs sep w hcells hbk hN hcap hlen
def Tryz.laysM171_ren:Go.Shelf.Ren:=⟨fun|171=>104|243=>137|246=>162|283=>181|284=>182|285=>183|286=>184|129=>117|317=>193|318=>194|319=>195|320=>196|337=>199|338=>175|n=>n,fun|3=>3|9=>9|2=>2|4=>4|171=>239|0=>0|53=>69|37=>172|5=>5|173=>241|212=>254|51=>255|20=>20|213=>256|46=>129|232=>259|233=>249|n=>n,fun|17=>8|18=>9|19=>7|n=>n⟩
theorem Tryz.laysM171:Go.Proofs.LaysM.n171 Tryz.prog Tryz.laysM171_ren:={
 mixed:=by kernel_rfl
 f129:=Tryz.func117.trans (congrArg some (by kernel_rfl))
 f171:=Tryz.func104.trans (congrArg some (by kernel_rfl))
 f243:=Tryz.func137.trans (congrArg some (by kernel_rfl))
 f246:=Tryz.func162.trans (congrArg some (by kernel_rfl))
 f283:=Tryz.func181.trans (congrArg some (by kernel_rfl))
 f284:=Tryz.func182.trans (congrArg some (by kernel_rfl))
 f285:=Tryz.func183.trans (congrArg some (by kernel_rfl))
 f286:=Tryz.func184.trans (congrArg some (by kernel_rfl))
 f317:=Tryz.func193.trans (congrArg some (by kernel_rfl))
 f318:=Tryz.func194.trans (congrArg some (by kernel_rfl))
 f319:=Tryz.func195.trans (congrArg some (by kernel_rfl))
 f320:=Tryz.func196.trans (congrArg some (by kernel_rfl))
 f337:=Tryz.func199.trans (congrArg some (by kernel_rfl))
 f338:=Tryz.func175.trans (congrArg some (by kernel_rfl))
 t0:=Tryz.underlying0
 a0:=Tryz.isAgg0
 z0:=Tryz.sizeOf0
 v0:=Tryz.zeroValue0
 t2:=Tryz.underlying2
 a2:=Tryz.isAgg2
 z2:=Tryz.sizeOf2
 v2:=Tryz.zeroValue2
 t3:=Tryz.underlying3
 a3:=Tryz.isAgg3
 z3:=Tryz.sizeOf3
 v3:=Tryz.zeroValue3
 t4:=Tryz.underlying4
 a4:=Tryz.isAgg4
 z4:=Tryz.sizeOf4
 v4:=Tryz.zeroValue4
 t5:=Tryz.underlying5
 a5:=Tryz.isAgg5
 z5:=Tryz.sizeOf5
 v5:=Tryz.zeroValue5
 t9:=Tryz.underlying9
 a9:=Tryz.isAgg9
 z9:=Tryz.sizeOf9
 v9:=Tryz.zeroValue9
 t20:=Tryz.underlying20
 a20:=Tryz.isAgg20
 z20:=Tryz.sizeOf20
 v20:=Tryz.zeroValue20
 t37:=Tryz.underlying172
 a37:=Tryz.isAgg172
 z37:=Tryz.sizeOf172
 v37:=Tryz.zeroValue172
 t46:=Tryz.underlying129
 a46:=Tryz.isAgg129
 z46:=Tryz.sizeOf129
 v46:=Tryz.zeroValue129
 t51:=Tryz.underlying255
 a51:=Tryz.isAgg255
 z51:=Tryz.sizeOf255
 v51:=Tryz.zeroValue255
 t53:=Tryz.underlying69
 a53:=Tryz.isAgg69
 z53:=Tryz.sizeOf69
 v53:=Tryz.zeroValue69
 t171:=Tryz.underlying239
 a171:=Tryz.isAgg239
 z171:=Tryz.sizeOf239
 v171:=Tryz.zeroValue239
 t173:=Tryz.underlying241
 a173:=Tryz.isAgg241
 z173:=Tryz.sizeOf241
 v173:=Tryz.zeroValue241
 t212:=Tryz.underlying254
 a212:=Tryz.isAgg254
 z212:=Tryz.sizeOf254
 v212:=Tryz.zeroValue254
 t213:=Tryz.underlying256
 a213:=Tryz.isAgg256
 z213:=Tryz.sizeOf256
 t232:=Tryz.underlying259
 a232:=Tryz.isAgg259
 z232:=Tryz.sizeOf259
 v232:=Tryz.zeroValue259
 t233:=Tryz.underlying249
 a233:=Tryz.isAgg249
 z233:=Tryz.sizeOf249
 v233:=Tryz.zeroValue249
 g17:=by kernel_rfl
 g18:=by kernel_rfl
 g19:=by kernel_rfl
 i0:=by kernel_rfl
 i2:=by kernel_rfl
 i3:=by kernel_rfl
 i4:=by kernel_rfl
 i5:=by kernel_rfl
 i9:=by kernel_rfl
 i20:=by kernel_rfl
 i37:=by kernel_rfl
 i46:=by kernel_rfl
 i51:=by kernel_rfl
 i53:=by kernel_rfl
 i171:=by kernel_rfl
 i173:=by kernel_rfl
 i212:=by kernel_rfl
 i232:=by kernel_rfl
 i233:=by kernel_rfl
 m17:=by kernel_rfl
 m18:=by kernel_rfl
 m19:=by kernel_rfl}
open Go.RowKit Go.Sort Go.Lib in
theorem Tryz.strconv_Itoa(n:Int)(h0: -9223372036854775808≤n)(h1:n≤9223372036854775807)(w:World)(htab:Lib.TabIs Tryz.prog w "internal/strconv.uint64pow10" .u64 Lib.pow10Tab):
  Calls Tryz.prog 104 #[.int .i64 n] w fun e w'=>e=.returned (.string ⟨(Lib.itoa n).toArray⟩)∧ ∃k os,w'=grow (w.drewN k) os:=Any.strconv_Itoa Tryz.laysM171 n h0 h1 w htab
def Tryz.laysC172_ren:Go.Shelf.Ren:=⟨fun|172=>80|244=>109|245=>110|247=>142|279=>143|280=>144|281=>145|282=>146|287=>167|316=>168|171=>104|205=>169|321=>186|322=>187|243=>137|246=>162|283=>181|284=>182|285=>183|286=>184|129=>117|317=>193|318=>194|319=>195|320=>196|337=>199|338=>175|n=>n,fun|9=>9|3=>3|75=>143|76=>144|4=>4|5=>5|167=>202|37=>172|0=>0|85=>203|2=>2|168=>205|53=>69|175=>223|46=>129|210=>227|127=>198|145=>247|143=>245|21=>21|171=>239|173=>241|212=>254|51=>255|20=>20|213=>256|232=>259|233=>249|80=>101|n=>n,fun|15=>2|16=>3|17=>8|18=>9|19=>7|n=>n⟩
theorem Tryz.laysC172:Go.Proofs.LaysC.n172 Tryz.prog Tryz.laysC172_ren:={
 mixed:=by kernel_rfl
 f129:=Tryz.func117.trans (congrArg some (by kernel_rfl))
 f171:=Tryz.func104.trans (congrArg some (by kernel_rfl))
 f172:=Tryz.func80.trans (congrArg some (by kernel_rfl))
 f205:=Tryz.func169.trans (congrArg some (by kernel_rfl))
 f243:=Tryz.func137.trans (congrArg some (by kernel_rfl))
 f244:=Tryz.func109.trans (congrArg some (by kernel_rfl))
 f245:=Tryz.func110.trans (congrArg some (by kernel_rfl))
 f246:=Tryz.func162.trans (congrArg some (by kernel_rfl))
 f247:=Tryz.func142.trans (congrArg some (by kernel_rfl))
 f279:=Tryz.func143.trans (congrArg some (by kernel_rfl))
 f280:=Tryz.func144.trans (congrArg some (by kernel_rfl))
 f281:=Tryz.func145.trans (congrArg some (by kernel_rfl))
 f282:=Tryz.func146.trans (congrArg some (by kernel_rfl))
 f283:=Tryz.func181.trans (congrArg some (by kernel_rfl))
 f284:=Tryz.func182.trans (congrArg some (by kernel_rfl))
 f285:=Tryz.func183.trans (congrArg some (by kernel_rfl))
 f286:=Tryz.func184.trans (congrArg some (by kernel_rfl))
 f287:=Tryz.func167.trans (congrArg some (by kernel_rfl))
 f316:=Tryz.func168.trans (congrArg some (by kernel_rfl))
 f317:=Tryz.func193.trans (congrArg some (by kernel_rfl))
 f318:=Tryz.func194.trans (congrArg some (by kernel_rfl))
 f319:=Tryz.func195.trans (congrArg some (by kernel_rfl))
 f320:=Tryz.func196.trans (congrArg some (by kernel_rfl))
 f321:=Tryz.func186.trans (congrArg some (by kernel_rfl))
 f322:=Tryz.func187.trans (congrArg some (by kernel_rfl))
 f337:=Tryz.func199.trans (congrArg some (by kernel_rfl))
 f338:=Tryz.func175.trans (congrArg some (by kernel_rfl))
 t0:=Tryz.underlying0
 a0:=Tryz.isAgg0
 z0:=Tryz.sizeOf0
 v0:=Tryz.zeroValue0
 t2:=Tryz.underlying2
 a2:=Tryz.isAgg2
 z2:=Tryz.sizeOf2
 v2:=Tryz.zeroValue2
 t3:=Tryz.underlying3
 a3:=Tryz.isAgg3
 z3:=Tryz.sizeOf3
 v3:=Tryz.zeroValue3
 t4:=Tryz.underlying4
 a4:=Tryz.isAgg4
 z4:=Tryz.sizeOf4
 v4:=Tryz.zeroValue4
 t5:=Tryz.underlying5
 a5:=Tryz.isAgg5
 z5:=Tryz.sizeOf5
 v5:=Tryz.zeroValue5
 t9:=Tryz.underlying9
 a9:=Tryz.isAgg9
 z9:=Tryz.sizeOf9
 v9:=Tryz.zeroValue9
 t20:=Tryz.underlying20
 a20:=Tryz.isAgg20
 z20:=Tryz.sizeOf20
 v20:=Tryz.zeroValue20
 t21:=Tryz.underlying21
 a21:=Tryz.isAgg21
 z21:=Tryz.sizeOf21
 v21:=Tryz.zeroValue21
 t37:=Tryz.underlying172
 a37:=Tryz.isAgg172
 z37:=Tryz.sizeOf172
 v37:=Tryz.zeroValue172
 t46:=Tryz.underlying129
 a46:=Tryz.isAgg129
 z46:=Tryz.sizeOf129
 v46:=Tryz.zeroValue129
 t51:=Tryz.underlying255
 a51:=Tryz.isAgg255
 z51:=Tryz.sizeOf255
 v51:=Tryz.zeroValue255
 t53:=Tryz.underlying69
 a53:=Tryz.isAgg69
 z53:=Tryz.sizeOf69
 v53:=Tryz.zeroValue69
 t75:=Tryz.underlying143
 a75:=Tryz.isAgg143
 z75:=Tryz.sizeOf143
 v75:=Tryz.zeroValue143
 t76:=Tryz.underlying144
 a76:=Tryz.isAgg144
 z76:=Tryz.sizeOf144
 v76:=Tryz.zeroValue144
 t85:=Tryz.underlying203
 a85:=Tryz.isAgg203
 z85:=Tryz.sizeOf203
 v85:=Tryz.zeroValue203
 t127:=Tryz.underlying198
 a127:=Tryz.isAgg198
 z127:=Tryz.sizeOf198
 v127:=Tryz.zeroValue198
 t143:=Tryz.underlying245
 a143:=Tryz.isAgg245
 z143:=Tryz.sizeOf245
 v143:=Tryz.zeroValue245
 t145:=Tryz.underlying247
 a145:=Tryz.isAgg247
 z145:=Tryz.sizeOf247
 v145:=Tryz.zeroValue247
 t167:=Tryz.underlying202
 a167:=Tryz.isAgg202
 z167:=Tryz.sizeOf202
 v167:=Tryz.zeroValue202
 t168:=Tryz.underlying205
 a168:=Tryz.isAgg205
 z168:=Tryz.sizeOf205
 v168:=Tryz.zeroValue205
 t171:=Tryz.underlying239
 a171:=Tryz.isAgg239
 z171:=Tryz.sizeOf239
 v171:=Tryz.zeroValue239
 t173:=Tryz.underlying241
 a173:=Tryz.isAgg241
 z173:=Tryz.sizeOf241
 v173:=Tryz.zeroValue241
 t175:=Tryz.underlying223
 a175:=Tryz.isAgg223
 z175:=Tryz.sizeOf223
 v175:=Tryz.zeroValue223
 t210:=Tryz.underlying227
 a210:=Tryz.isAgg227
 z210:=Tryz.sizeOf227
 v210:=Tryz.zeroValue227
 t212:=Tryz.underlying254
 a212:=Tryz.isAgg254
 z212:=Tryz.sizeOf254
 v212:=Tryz.zeroValue254
 t213:=Tryz.underlying256
 a213:=Tryz.isAgg256
 z213:=Tryz.sizeOf256
 t232:=Tryz.underlying259
 a232:=Tryz.isAgg259
 z232:=Tryz.sizeOf259
 v232:=Tryz.zeroValue259
 t233:=Tryz.underlying249
 a233:=Tryz.isAgg249
 z233:=Tryz.sizeOf249
 v233:=Tryz.zeroValue249
 g15:=by kernel_rfl
 g16:=by kernel_rfl
 g17:=by kernel_rfl
 g18:=by kernel_rfl
 g19:=by kernel_rfl
 t80:=Tryz.underlying101
 a80:=Tryz.isAgg101
 z80:=Tryz.sizeOf101
 v80:=Tryz.zeroValue101
 i0:=by kernel_rfl
 i2:=by kernel_rfl
 i3:=by kernel_rfl
 i4:=by kernel_rfl
 i5:=by kernel_rfl
 i9:=by kernel_rfl
 i20:=by kernel_rfl
 i21:=by kernel_rfl
 i37:=by kernel_rfl
 i46:=by kernel_rfl
 i51:=by kernel_rfl
 i53:=by kernel_rfl
 i75:=by kernel_rfl
 i76:=by kernel_rfl
 i80:=by kernel_rfl
 i85:=by kernel_rfl
 i127:=by kernel_rfl
 i143:=by kernel_rfl
 i145:=by kernel_rfl
 i167:=by kernel_rfl
 i168:=by kernel_rfl
 i171:=by kernel_rfl
 i173:=by kernel_rfl
 i175:=by kernel_rfl
 i210:=by kernel_rfl
 i212:=by kernel_rfl
 i232:=by kernel_rfl
 i233:=by kernel_rfl
 m15:=by kernel_rfl
 m16:=by kernel_rfl
 m17:=by kernel_rfl
 m18:=by kernel_rfl
 m19:=by kernel_rfl
 c0:=by kernel_rfl
 c2:=by kernel_rfl
 c3:=by kernel_rfl
 c4:=by kernel_rfl
 c5:=by kernel_rfl
 c9:=by kernel_rfl
 c20:=by kernel_rfl
 c21:=by kernel_rfl
 c37:=by kernel_rfl
 c46:=by kernel_rfl
 c51:=by kernel_rfl
 c53:=by kernel_rfl
 c75:=by kernel_rfl
 c76:=by kernel_rfl
 c80:=by kernel_rfl
 c85:=by kernel_rfl
 c127:=by kernel_rfl
 c143:=by kernel_rfl
 c145:=by kernel_rfl
 c167:=by kernel_rfl
 c168:=by kernel_rfl
 c171:=by kernel_rfl
 c173:=by kernel_rfl
 c175:=by kernel_rfl
 c210:=by kernel_rfl
 c212:=by kernel_rfl
 c213:=by kernel_rfl
 c232:=by kernel_rfl
 c233:=by kernel_rfl}
open Go.RowKit in
theorem Tryz.strconv_Atoi_ok(s:ByteArray)(hmax:s.size≤9223372036854775806)(v:Int)(h:Lib.atoiAll s.data.toList=.ok v)(w:World):
  Calls Tryz.prog 80 #[.string s] w fun e w'=>e=.returned (.tuple #[.int .i64 v,.nilIface])∧(w'=w∨ ∃t,w'=Lib.bytesWorld w 5 t):=Any.strconv_Atoi_ok Tryz.laysC172 s hmax v h w
open Go.RowKit in
theorem Tryz.strconv_Atoi_syntax(s:ByteArray)(hlim:s.size≤281474976710656)(h:Lib.atoiAll s.data.toList=.«syntax»)(ev:Value)(w:World)(hv:w.cell? ⟨2,0,none⟩=some ev)(hev:ev=.nilIface∨ ∃te pe,ev=.iface te pe):
  Calls Tryz.prog 80 #[.string s] w fun e w'=> ∃N,e=.returned (.tuple #[.int .i64 (0),.iface 205 (.pointer (some ⟨N,0,none⟩))])∧w.heap.size≤N∧w'.heap[N]? =some (.cells #[.string ⟨#[65,116,111,105]⟩,.string s,ev] 227 (0,0))∧Below w.heap.size w w':=Any.strconv_Atoi_syntax Tryz.laysC172 s hlim h ev w hv hev
open Go.RowKit in
theorem Tryz.strconv_Atoi_range(s:ByteArray)(hlim:s.size≤281474976710656)(h:Lib.atoiAll s.data.toList=.range)(ev:Value)(w:World)(hv:w.cell? ⟨3,0,none⟩=some ev)(hev:ev=.nilIface∨ ∃te pe,ev=.iface te pe):
  Calls Tryz.prog 80 #[.string s] w fun e w'=> ∃N,e=.returned (.tuple #[.int .i64 (Lib.atoiSat s.data.toList),.iface 205 (.pointer (some ⟨N,0,none⟩))])∧w.heap.size≤N∧w'.heap[N]? =some (.cells #[.string ⟨#[65,116,111,105]⟩,.string s,ev] 227 (0,0))∧Below w.heap.size w w':=Any.strconv_Atoi_range Tryz.laysC172 s hlim h ev w hv hev
def Tryz.lays101_ren:Go.Shelf.Ren:=⟨fun|101=>81|208=>111|206=>147|n=>n,fun|9=>9|4=>4|3=>3|n=>n,fun|n=>n⟩
theorem Tryz.lays101:Go.Proofs.Lays.n101 Tryz.prog Tryz.lays101_ren:={
 mixed:=by kernel_rfl
 f101:=Tryz.func81.trans (congrArg some (by kernel_rfl))
 f206:=Tryz.func147.trans (congrArg some (by kernel_rfl))
 f208:=Tryz.func111.trans (congrArg some (by kernel_rfl))
 t3:=Tryz.underlying3
 a3:=Tryz.isAgg3
 z3:=Tryz.sizeOf3
 v3:=Tryz.zeroValue3
 t4:=Tryz.underlying4
 a4:=Tryz.isAgg4
 z4:=Tryz.sizeOf4
 v4:=Tryz.zeroValue4
 t9:=Tryz.underlying9
 a9:=Tryz.isAgg9
 z9:=Tryz.sizeOf9
 v9:=Tryz.zeroValue9}
open Go.RowKit Go.Lib in
theorem Tryz.strings_TrimPrefix(s p:ByteArray)(w:World):
  Calls Tryz.prog 81 #[.string s,.string p] w fun e w'=>e=.returned (.string ⟨(Lib.trimPrefix s.data.toList p.data.toList).toArray⟩)∧w'=w:=Any.strings_TrimPrefix Tryz.lays101 s p w
def Tryz.lays109_ren:Go.Shelf.Ren:=⟨fun|109=>79|n=>n,fun|31=>42|9=>9|3=>3|0=>0|4=>4|n=>n,fun|n=>n⟩
theorem Tryz.lays109:Go.Proofs.Lays.n109 Tryz.prog Tryz.lays109_ren:={
 mixed:=by kernel_rfl
 f109:=Tryz.func79.trans (congrArg some (by kernel_rfl))
 t0:=Tryz.underlying0
 a0:=Tryz.isAgg0
 z0:=Tryz.sizeOf0
 v0:=Tryz.zeroValue0
 t3:=Tryz.underlying3
 a3:=Tryz.isAgg3
 z3:=Tryz.sizeOf3
 v3:=Tryz.zeroValue3
 t4:=Tryz.underlying4
 a4:=Tryz.isAgg4
 z4:=Tryz.sizeOf4
 v4:=Tryz.zeroValue4
 t9:=Tryz.underlying9
 a9:=Tryz.isAgg9
 z9:=Tryz.sizeOf9
 v9:=Tryz.zeroValue9
 t31:=Tryz.underlying42
 a31:=Tryz.isAgg42
 z31:=Tryz.sizeOf42
 v31:=Tryz.zeroValue42}
open Go.Lib in
theorem Tryz.slices_Index_string(b off n c:Nat)(zs:List ByteArray)(x:ByteArray)(w:World)(hz:n≤zs.length)(hbig:n≤9223372036854775807)(hc: ∀j,j<zs.length→w.cell? ⟨b,off+j,none⟩=some (.string (zs.getD j ByteArray.empty))):
  Calls Tryz.prog 79 #[.slice (some ⟨b,off,none⟩) n c,.string x] w fun e w'=>e=.returned (.int .i64 (Lib.idxOfS (zs.take n) x))∧w'=w:=Any.slices_Index_string Tryz.lays109 b off n c zs x w hz hbig hc
end Go.Proofs
namespace Go.Proofs.YtbikpmmpgbggaaaGreatDoor
open Go.RowKit
set_option maxRecDepth 100000
set_option linter.unusedVariables false
theorem VA(w:World)(k:Nat)(os:Array Obj):Below w.heap.size w (Go.Sort.grow (w.drewN k) os):=⟨rfl,rfl,rfl,by show _≤(w.heap++os).size;simp,fun i hi=>by show(w.heap++os)[i]? =_;rw[Array.getElem?_append_left hi]⟩
def itT(x:Int):ByteArray:=⟨(Lib.itoa x).toArray⟩
theorem T8(x:Int)(h0: -9223372036854775808≤x)(h1:x≤9223372036854775807)(w:World)(ht:Lib.TabIs Tryz.prog w "internal/strconv.uint64pow10" .u64 Lib.pow10Tab):Calls Tryz.prog 104 #[.int .i64 x] w fun e w'=>e=.returned (.string (itT x))∧Below w.heap.size w w':=by
 refine(Tryz.strconv_Itoa x h0 h1 w ht).mono ?_;rintro e w' ⟨rfl,k,os,rfl⟩;exact⟨rfl,VA w k os⟩
theorem Fn(b o n c:Nat)(X:Nat→Int)(w:World)(hn:n≤1000)(hc:n≤c)(hx: ∀i,i<n→w.cell? ⟨b,o+i,none⟩=some (.int .i64 (X i)))(hb: ∀i,i<n→ -9223372036854775808≤X i∧X i≤9223372036854775807)(ht:Lib.TabIs Tryz.prog w "internal/strconv.uint64pow10" .u64 Lib.pow10Tab):
  Calls Tryz.prog 76 #[.slice (some ⟨b,o,none⟩) n c] w fun e w'=> ∃v,e=.returned v∧OR w' 9 w.heap.size v n (fun i=>.string (itT (X i)))∧Below w.heap.size w w':=by
 have HX:Hid _:=hx;have HB:Hid _:=hb;have HT:Hid _:=Lib.tabBelow_of_tabIs ht;clear hx hb ht;go_enter Tryz.func76,Tryz.ntmps76
 go_wp2_with fail
 go_loopw [3,8] (fun v t wr=> ∃k:Nat,k≤n∧t=.int .i64 (k:Int)∧Hid (OR wr 9 w.heap.size v k (fun i=>.string (itT (X i)))∧Below w.heap.size w wr)) (fun _ t _=>n- (intOf t).toNat)
 case atStart=>exact⟨0,by omega,rfl,OR.nil _ _ _ _,Aa _⟩
 case round=>
  obtain⟨k,hk,rfl,HO⟩:=hrel;by_cases e:k=n
  ·rw[e]at HO;rw[e];clear e hk k;go_wp2_with fail
   go_ret
   exact⟨_,rfl,HO.out⟩
  have lk:k<n:=by omega
  have x0:=Ae HO.out.2 (HX.out k lk);have hsz:=HO.out.2.size;clear e;go_wp2_with fail
  refine(T8 (X k) (HB.out k lk).1 (HB.out k lk).2 _ (HT.out _ HO.out.2)).mono ?_;rintro e w3 ⟨rfl,hb⟩;have H3:Hid (OR w3 9 w.heap.size u3 k (fun i=>.string (itT (X i)))∧Below w.heap.size w w3):=⟨HO.out.1.below hb,AU HO.out.2 hb⟩;have HB1:Hid _:=HO.out.1.blk;have hsz3:=H3.out.2.size;clear hb HO x0;go_wp2_with (refine(id ?_:wpList Tryz.prog _ _ (⟨some 16,_,_,_,_,_⟩::_) _ _);refine A5 rfl (.tmp 12) (.tmp 15) 42 rfl 9 (.string ⟨#[]⟩) 16 Tryz.underlying42 Tryz.infoStr rfl (by omega) w.heap.size _ _ _ rfl (H3.out.1.below (Af (Aa _))) _ _ rfl _ (by simp;rfl) rfl (by omega) (by simp;omega) ?_)
  intro g2 cap2 w2 ho hg hor hlt2;have I2:Hid _:=ho;have B2:Hid (Below w.heap.size w w2):=Below.grown (H3.out.2.alloc (by omega) _) hg (by simp;omega) (fun j hj=>HB1.out _ hj);clear ho hg hor;go_wp2_with fail
  go_roundw
  case rel=>
   refine⟨k+1,by omega,by go_num,OR.congr I2.out fun j hj=> ?_,B2.out⟩;by_cases e:j=k
   ·rw[if_pos e,e]
   rw[if_neg e]
  case measure=>simp[intOf];omega
theorem WH(l l2:List ByteArray)(i:Nat):tx (l++l2) i=if i<l.length then tx l i else tx l2 (i-l.length):=by
 unfold tx;by_cases h:i<l.length
 ·rw[if_pos h];simp[List.getD,List.getElem?_append_left h]
 rw[if_neg h];simp[List.getD,List.getElem?_append_right (show l.length≤i by omega)]
theorem RO{l:List ByteArray}{i:Nat}(h:i<l.length):(l.map Value.string)[i]? =some (tx l i):=by
 unfold tx;simp[List.getD,h]
theorem Ca{w:World}{ops:Array Oper}{rest:List Oper}{o:Oper}{ac:Act}{Q:Exit→Act→World→Prop}(hgd:o.guard=none)(s x:Operand)
  (ho:o.op=.call {callee:=.builtin .append,args:= #[s,x],argTypes:= #[42,42]}) (base:Nat) (v:Value) (l l2:List ByteArray) (hs:ac.eval s=v) (hown:OR w 9 base v l.length (tx l))
  (ad:Addr) (c:Nat) (hx:ac.eval x=.slice (some ad) l2.length c) (hc: ∀j,j<l2.length→w.cell? (ad.add j)=some (tx l2 j)) (hm:0<l2.length) (hn:l.length+l2.length≤1099511627776) (hbase:base≤w.heap.size)
  (h: ∀g cap w',OR w' 9 base (.slice (some ⟨g,0,none⟩) (l++l2).length cap) (l++l2).length (tx (l++l2))→w.grownBy w' v.ownBlock→(v.ownBlock=some g∨g=w.heap.size)→g<w'.heap.size→wpList Tryz.prog ops Q rest (ac.put o.dst (.slice (some ⟨g,0,none⟩) (l++l2).length cap)) w'):wpList Tryz.prog ops Q (o::rest) ac w:=by
 obtain⟨i,hi,hzz,hsz,hb⟩:=info_parts Tryz.infoStr;refine wpList_append_lies w hgd s x 42 ho base 9 i (.string ⟨#[]⟩) 1 16 Tryz.underlying42 hi hzz hsz hb rfl (by omega) v l.length _ hs hown.owns ad l2.length c (l2.map Value.string) hx (by simp) (fun j u hj=> ?_) (fun u hu=> ?_) hm (by simp only[maxLen];omega) (by omega) hbase _ rfl (fun g cap w' k1 k2 k3 k4=> ?_)
 ·have hj2:j<l2.length:=by
   rcases Nat.lt_or_ge j l2.length with q|q
   ·exact q
   rw[List.getElem?_eq_none (by simpa using q)]at hj;cases hj
  rw[RO hj2]at hj;cases hj;exact hc j hj2
 ·simp at hu;obtain⟨a,_,rfl⟩:=hu;rfl
 have h2:=h g cap w';rw[List.length_append]at h2;refine h2 (OR.of_owns k1 fun i hi=> ?_) k2 k3 k4;rw[WH];by_cases q:i<l.length
 ·rw[if_pos q,List.getElem?_append_left (by simpa using q),List.getElem?_map,List.getElem?_range q];rfl
 rw[if_neg q,List.getElem?_append_right (by simp;omega),List.length_map,List.length_range];exact RO (by omega)
theorem OR.row{w:World}{e:TypeId}{base n:Nat}{v:Value}{G:Nat→Value}(h:OR w e base v n G)(hn:n≠0): ∃g c,v=.slice (some ⟨g,0,none⟩) n c∧n≤c∧ ∀i,i<n→w.cell? ⟨g,i,none⟩=some (G i):=by
 rcases h with⟨_,q⟩| ⟨g,cap,f,rfl,h1,h2,h3,h4,h5⟩
 ·exact absurd q hn
 exact⟨g,cap,rfl,h2,fun i hi=>by rw[h4.cell (show i<cap by omega),h5 i hi]⟩
def DN(A B:List ByteArray):Nat→List ByteArray
 |0=>[]
 |k+1=>DN A B k++[A.getD k ⟨#[]⟩,B.getD k ⟨#[]⟩]
theorem G8(A B:List ByteArray)(k:Nat):(DN A B k).length=2*k:=by
 induction k with
 |zero=>rfl
 |succ k ih=>rw[DN,List.length_append,ih];simp;omega
theorem O0(w:World)(a b:ByteArray)(t:TypeId)(j:Nat)(hj:j<[a,b].length):(w.alloc (.cells #[.string a,.string b] t)).cell? ((⟨w.heap.size,0,none⟩:Addr).add j)=some (tx [a,b] j):=by
 match j,hj with
 |0,_=>simp[Addr.add,tx]
 |1,_=>simp[Addr.add,tx]
theorem Jk(s:ByteArray)(b o m c:Nat)(V:List ByteArray)(w:World)(hs:s.size≤1000000000)(hm:m≤c)(h0:0<(Ab s).length)(hn:(Ab s).length≤m)(hm2:m≤1000)(hv: ∀i,i<m→w.cell? ⟨b,o+i,none⟩=some (tx V i))(hz:True):
  Calls Tryz.prog 75 #[.string s,.slice (some ⟨b,o,none⟩) m c] w fun e w'=> ∃v,e=.returned v∧OR w' 9 w.heap.size v (DN (Ab s) V (Ab s).length).length (tx (DN (Ab s) V (Ab s).length))∧Below w.heap.size w w':=by
 have HV:Hid _:=hv;have HZ:Hid _:=hz;clear hv hz;go_enter Tryz.func75,Tryz.ntmps75
 go_wp2_with fail
 refine(Gi s _ (by omega)).mono ?_;rintro e w1 ⟨v1,rfl,hO,hb1⟩;obtain⟨N,hN⟩:=nmd (Ab s);rw[hN]at hO h0 hn;obtain⟨g,c1,rfl,hnc,hcN⟩:=OR.row hO (by omega);have HN:Hid _:=hN;obtain⟨n,hln⟩:=nmd N.length;rw[hln]at hcN hn h0;rw[hln];have HCN:Hid _:=hcN;have HB1:Hid _:=hb1;rw[hln]at hnc;clear hO hcN hb1 hN;go_wp2_with fail
 go_loopw [5,11] (fun v t wr=> ∃k:Nat,k≤n∧t=.int .i64 (k:Int)∧Hid (OR wr 9 w1.heap.size v (DN N V k).length (tx (DN N V k))∧Below w1.heap.size w1 wr)) (fun _ t _=>n- (intOf t).toNat)
 case atStart=>exact⟨0,by omega,rfl,OR.nil _ _ _ _,Aa _⟩
 case round=>
  obtain⟨k,hk,rfl,HO⟩:=hrel;by_cases e:k=n
  ·rw[e]at HO;rw[e];clear e hk k;go_wp2_with fail
   go_ret
   refine⟨_,rfl,?_,AU HB1.out HO.out.2⟩;rw[HN.out,hln];exact OR.low HO.out.1 HB1.out.size
  have lk:k<n:=by omega
  have x0:=Ae HO.out.2 (HCN.out k lk);have x1:=Ae HO.out.2 (Ae HB1.out (HV.out k (by omega)));have hsz:=HO.out.2.size;have hzl:=G8 N V k;have l1:k<m:=by omega
  have HB2:Hid _:=HO.out.1.blk;have HX0:Hid (tx N k=.string (N.getD k ⟨#[]⟩)∧tx V k=.string (V.getD k ⟨#[]⟩)):=⟨rfl,rfl⟩;rw[HX0.out.1]at x0;rw[HX0.out.2]at x1;obtain⟨a0,ha0⟩:=nmd (N.getD k ⟨#[]⟩);obtain⟨a1,ha1⟩:=nmd (V.getD k ⟨#[]⟩);rw[ha0]at x0;rw[ha1]at x1;have HA:Hid (DN N V (k+1)=DN N V k++[a0,a1]):=by
   show _=_;rw[DN,ha0,ha1]
  clear e HX0 ha0 ha1;go_wp2_with (refine(id ?_:wpList Tryz.prog _ _ (⟨some 23,_,_,_,_,_⟩::_) _ _);refine Ca rfl (.tmp 16) (.tmp 22) rfl w1.heap.size _ (DN N V k) [a0,a1] rfl (HO.out.1.below (Af (Aa _))) _ _ rfl (fun j hj=>O0 wr a0 a1 _ j hj) (by simp) (by simp;omega) (by simp;omega) ?_)
  intro g2 cap2 w2 ho hg hor hlt2;have I2:Hid _:=ho;have B2:Hid (Below w1.heap.size w1 w2):=Below.grown (HO.out.2.alloc (by omega) _) hg (by simp;omega) (fun j hj=>HB2.out _ hj);clear ho hg hor x0 x1;go_wp2_with fail
  go_roundw
  case rel=>
   refine⟨k+1,by omega,by go_num,?_,B2.out⟩;rw[HA.out];have q:=I2.out;have e:(DN N V k++[a0,a1]).length=2*k+2:=by rw[List.length_append,G8];rfl
   rw[e];first|exact q| (rw[e]at q;exact q)
  case measure=>simp[intOf];omega
def Ag:Nat→ByteArray
 |0=>⟨#[]⟩
 |1=>⟨#[119,102,113]⟩
 |2=>⟨#[100,114,114]⟩
 |3=>⟨#[101,100,102]⟩
 |4=>⟨#[97,103,101]⟩
 |5=>⟨#[119,102,50]⟩
 |6=>⟨#[116,114,101,101]⟩
 |_=>⟨#[]⟩
def KN(w:World):Prop:= ∀i,i<7→w.cell? ⟨0,i,none⟩=some (.string (Ag i))
theorem KN.go{w W:World}(h:KN w)(hB:Below w.heap.size w W):KN W:=fun i hi=>Ae hB (h i hi)
def Gj:ByteArray:=⟨#[114,111,111,109,32,109,111,115,116,32,99,97,112,32,102,108,111,119,115,32,97,103,101]⟩
theorem Cp:Ab Gj=[⟨#[114,111,111,109]⟩,⟨#[109,111,115,116]⟩,⟨#[99,97,112]⟩,⟨#[102,108,111,119,115]⟩,⟨#[97,103,101]⟩]:=by decide+kernel
def Dy(R M C Fl A:Int)(i:Nat):Int:=[R,M,C,Fl,A].getD i 0
def J3(R M C Fl A:Int):List ByteArray:=[itT R,itT M,itT C,itT Fl,itT A]
theorem Pb(R M C Fl A:Int)(i:Nat)(h:i<5):tx (J3 R M C Fl A) i=.string (itT (Dy R M C Fl A i)):=by
 match i,h with
 |0,_=>rfl
 |1,_=>rfl
 |2,_=>rfl
 |3,_=>rfl
 |4,_=>rfl
def Fo(K R M C Fl A:Int):List ByteArray:=[⟨#[107,105,110,100]⟩,Ag K.toNat]++DN (Ab Gj) (J3 R M C Fl A) 5
theorem Hz{K R M C Fl A:Int}{F:Nat→Nat→Int}{n:Nat}(h:A4 K R M C Fl A F n=0):(1≤K∧K≤6)∧(1≤M∧M≤65536)∧(M≤R∧R≤1073741824)∧(1≤C∧C≤4096)∧(1≤Fl∧Fl≤256)∧(0≤A∧A≤fA1 K)∧(K=6→Cl F n=0)∧(K≠6→n=0):=by
 unfold A4 at h;split at h
 ·omega
 split at h
 ·omega
 split at h
 ·omega
 split at h
 ·omega
 split at h
 ·omega
 split at h
 ·omega
 rename_i h1 h2 h3 h4 h5 h6;have q0:isK K=true:=by simpa using h1
 have q1:=C7 (show hld 1 65536 M=true by simpa using h2);have q2:=C7 (show hld M 1073741824 R=true by simpa using h3);have q3:=C7 (show hld 1 4096 C=true by simpa using h4);have q4:=C7 (show hld 1 256 Fl=true by simpa using h5);have q5:=C7 (show hld 0 (fA1 K) A=true by simpa using h6);unfold isK at q0;have q6:1≤K∧K≤6:=by simpa using q0
 refine⟨q6,q1,q2,q3,q4,q5,fun e=> ?_,fun e=> ?_⟩
 ·rwa[if_pos e]at h
 rw[if_neg e]at h;split at h<;>omega
theorem VB(L:List ByteArray)(h: ∀x∈L,x.size≤100):Lib.lens (L.map (·.data.toList))≤100*L.length:=by
 induction L with
 |nil=>simp[Lib.lens]
 |cons x l ih=>
  have h1:=ih fun y hy=>h y (List.mem_cons_of_mem _ hy);have h2:=h x List.mem_cons_self;have h3:x.data.toList.length=x.size:=by rw[Array.length_toList];rfl
  simp only[Lib.lens,List.map_cons,List.sum_cons,List.length_cons]at h1⊢;omega
theorem KL(L:List ByteArray)(hl:L.length≤1000)(h: ∀x∈L,x.size≤100):(Lib.join (L.map (·.data.toList)) [32]).length≤140737488355328:=by
 cases L with
 |nil=>simp[Lib.join]
 |cons x l=>
  have h1:=VB (x::l) h;rw[List.map_cons]at h1⊢;rw[Lib.join_length];simp only[List.length_map,List.length_cons]at*;simp;omega
theorem Db(x:Int)(h0: -9223372036854775808≤x)(h1:x≤9223372036854775807):(itT x).size≤100:=by
 have:=Lib.itoa_length_le x h0 h1;show(Lib.itoa x).toArray.size≤100;simp;omega
theorem Ni(i:Nat):(Ag i).size≤100:=by
 unfold Ag;split<;>decide
theorem Nj(K R M C Fl A:Int)(h: ∀i,i<5→ -9223372036854775808≤Dy R M C Fl A i∧Dy R M C Fl A i≤9223372036854775807): ∀x∈Fo K R M C Fl A,x.size≤100:=by
 have a0:=h 0 (by omega);have a1:=h 1 (by omega);have a2:=h 2 (by omega);have a3:=h 3 (by omega);have a4:=h 4 (by omega);intro x hx;rw[Fo,Cp]at hx;simp only[DN,J3,List.nil_append,List.cons_append,List.getD,List.mem_cons,List.getElem?_cons_zero,List.getElem?_cons_succ,Option.getD_some,List.not_mem_nil,or_false]at hx;rcases hx with rfl|rfl|rfl|rfl|rfl|rfl|rfl|rfl|rfl|rfl|rfl|rfl
 ·decide
 ·exact Ni _
 ·decide
 ·exact Db _ a0.1 a0.2
 ·decide
 ·exact Db _ a1.1 a1.2
 ·decide
 ·exact Db _ a2.1 a2.2
 ·decide
 ·exact Db _ a3.1 a3.2
 ·decide
 exact Db _ a4.1 a4.2
theorem Pc(w:World)(a b:ByteArray)(o:Obj)(base:Nat)(hb:base≤w.heap.size):OR ((w.alloc (.cells #[.string a,.string b] 9)).alloc o) 9 base (.slice (some ⟨w.heap.size,0,none⟩) 2 2) [a,b].length (tx [a,b]):=by
 refine .inr ⟨w.heap.size,2,tx [a,b],rfl,hb,Nat.le_refl _,by simp[maxLen],(World.rowIs_alloc w #[.string a,.string b] _ (tx [a,b]) fun i hi=> ?_).alloc o,fun i hi=>rfl⟩;match i,hi with
 |0,_=>rfl
 |1,_=>rfl
theorem OR.sliced{w:World}{e:TypeId}{base n g cap:Nat}{G:Nat→Value}(h:OR w e base (.slice (some ⟨g,0,none⟩) n cap) n G)(hn:n≠0):n≤cap∧ ∀i,i<n→w.cell? ⟨g,i,none⟩=some (G i):=by
 obtain⟨g',c',e,h1,h2⟩:=OR.row h hn;cases e;exact⟨h1,h2⟩
theorem J4(w:World)(R M C Fl A:Int)(t:TypeId)(i:Nat)(hi:i<5):(w.alloc (.cells #[.int .i64 R,.int .i64 M,.int .i64 C,.int .i64 Fl,.int .i64 A] t)).cell? ⟨w.heap.size,0+i,none⟩=some (.int .i64 (Dy R M C Fl A i)):=by
 match i,hi with
 |0,_=>simp[Dy]
 |1,_=>simp[Dy]
 |2,_=>simp[Dy]
 |3,_=>simp[Dy]
 |4,_=>simp[Dy]
theorem RP(K:Int):fA1 K≤1099511627776:=by unfold fA1;split<;>omega
theorem Qh(K R M C Fl A:Int)(a:Option Addr)(n cap:Nat)(F:Nat→Nat→Int)(w:World)(h:NSl w a n cap F)(hk:KN w)(ht:Lib.TabIs Tryz.prog w "internal/strconv.uint64pow10" .u64 Lib.pow10Tab)(h6:K≠6):
  Calls Tryz.prog 32 #[.agg #[.int .i64 K,.int .i64 R,.int .i64 M,.int .i64 C,.int .i64 Fl,.int .i64 A,.slice a n cap]] w fun e w'=> ∃s,e=.returned (.tuple #[.string s,.int .i64 (A4 K R M C Fl A F n)])∧Below w.heap.size w w'∧(A4 K R M C Fl A F n=0→s=⟨(Lib.join ((Fo K R M C Fl A).map (·.data.toList)) [32]).toArray⟩):=by
 obtain⟨ce,hce⟩:=nmd (A4 K R M C Fl A F n);have HN:Hid _:=h;have HK:Hid _:=hk;have HT:Hid _:=Lib.tabBelow_of_tabIs ht;have HCE:Hid _:=hce;have hl0:n≤9223372036854775807:=Nat.le_trans h.le h.lim;clear h hce hk ht;go_enter Tryz.func32,Tryz.ntmps32
 go_wp2_with fail
 have S0:Hid _:=(CG w).box7 (.int .i64 K) (.int .i64 R) (.int .i64 M) (.int .i64 C) (.int .i64 Fl) (.int .i64 A) (.slice a n cap) 24 _ rfl;refine(Et K R M C Fl A a n cap F _ (HN.out.go S0.out.bel)).mono ?_;rintro e w1 ⟨rfl,hb⟩;rw[HCE.out];obtain⟨g,eg⟩:=nme w.heap.size;rw[←eg]at S0;rw[←eg];clear eg;have S1:Hid _:=S0.out.go hb;clear hb S0;by_cases c0:ce=0
 ·have HZ:Hid _:=Hz (HCE.out.trans c0);obtain⟨kn,ekn⟩: ∃kn:Nat,K=(kn:Int):=⟨K.toNat,by have:=HZ.out.1;omega⟩;have HEK:Hid _:=ekn;have lkn:kn<7:=by have:=HZ.out.1;omega
  subst c0;have x0:=S1.out.cel g 0 (.int .i64 K);have x1:=S1.out.cel g 1 (.int .i64 R);have x2:=S1.out.cel g 2 (.int .i64 M);have x3:=S1.out.cel g 3 (.int .i64 C);have x4:=S1.out.cel g 4 (.int .i64 Fl);have x5:=S1.out.cel g 5 (.int .i64 A);have x6:=S1.out.cel g 6 (.slice a n cap);have hl:=S1.out.lt g 0 (.int .i64 K);have hk0:=KN.go HK.out S1.out.bel kn lkn;rw[ekn]at x0;have HI:Hid (∀i,i<5→ -9223372036854775808≤Dy R M C Fl A i∧Dy R M C Fl A i≤9223372036854775807):=by
   obtain⟨b1,b2,b3,b4,b5,b6,_⟩:=HZ.out;have b7:=RP K;intro i hi;match i,hi with
   |0,_=>show _≤R∧R≤_;omega
   |1,_=>show _≤M∧M≤_;omega
   |2,_=>show _≤C∧C≤_;omega
   |3,_=>show _≤Fl∧Fl≤_;omega
   |4,_=>show _≤A∧A≤_;omega
  have d6:((kn:Int)==6)=false:=by simp;omega
  have hsz1:=S1.out.bel.size;go_wp2_with fail
  have O2:Hid _:=Pc w1 ⟨#[107,105,110,100]⟩ (Ag kn) (.cells #[.int .i64 R,.int .i64 M,.int .i64 C,.int .i64 Fl,.int .i64 A] 3) w.heap.size hsz1;have S2:Hid _:=Af (o:=.cells #[.int .i64 R,.int .i64 M,.int .i64 C,.int .i64 Fl,.int .i64 A] 3) (Af (o:=.cells #[.string ⟨#[107,105,110,100]⟩,.string (Ag kn)] 9) S1.out.bel);refine(Fn (w1.heap.size+1) 0 5 5 (Dy R M C Fl A) _ (by omega) (Nat.le_refl _) (fun i hi=> ?_) HI.out (HT.out _ S2.out)).mono ?_
  ·have:=J4 (w1.alloc (.cells #[.string ⟨#[107,105,110,100]⟩,.string (Ag kn)] 9)) R M C Fl A 3 i hi;simpa using this
  rintro e w3 ⟨v3,rfl,hO3,hb3⟩;have O3:Hid _:=OR.below O2.out hb3;have S3:Hid _:=AU S2.out hb3;have T3:Hid _:=S1.out.bel;obtain⟨gv,cv,rfl,hcv,hvv⟩:=OR.row hO3 (by omega);have HV3:Hid _:=hvv;have x0':=Ae hb3 (Ae (Af (Af (Aa w1))) x0);clear hO3 hb3 O2 S2 hvv x0 x1 x2 x3 x4 x5 x6 hk0;go_wp2_with fail
  refine(Jk Gj gv 0 5 cv (J3 R M C Fl A) w3 (by decide) hcv (by rw[Cp];decide) (by rw[Cp];decide) (by omega) (fun i hi=>by rw[Nat.zero_add,HV3.out i hi,Pb _ _ _ _ _ i hi]) trivial).mono ?_;rintro e w4 ⟨v4,rfl,hO4,hb4⟩;rw[show(Ab Gj).length=5 by rw[Cp];rfl]at hO4;obtain⟨L2,hL2⟩:=nmd (DN (Ab Gj) (J3 R M C Fl A) 5);rw[hL2]at hO4;have HL2:Hid (L2.length=10):=by show _=_;rw[←hL2,G8]
  have HH:Hid (Fo K R M C Fl A=[⟨#[107,105,110,100]⟩,Ag kn]++L2):=by
   show _=_;rw[Fo,hL2,HEK.out];rfl
  obtain⟨gz,cz,rfl,hcz,hvz⟩:=OR.row hO4 (by have:=HL2.out;omega);have O4:Hid _:=OR.below O3.out hb4;have S4:Hid _:=AU S3.out hb4;have x0:=Ae hb4 x0';have hsz4:=S4.out.size;have HV4:Hid _:=hvz;clear hO4 hb4 O3 S3 hvz HV3 x0' hL2;have A1:Hid (∀j,j<L2.length→w4.cell? ((⟨gz,0,none⟩:Addr).add j)=some (tx L2 j)):=fun j hj=>by
   rw[show(⟨gz,0,none⟩:Addr).add j=⟨gz,j,none⟩ by simp[Addr.add];omega];exact HV4.out j hj
  have A2:Hid (0<L2.length):=by show _<_;rw[HL2.out];decide
  have A3:Hid ([⟨#[107,105,110,100]⟩,Ag kn].length+L2.length≤1099511627776):=by show _≤_;rw[HL2.out];simp
  go_wp2_with (refine(id ?_:wpList Tryz.prog _ _ (⟨some 32,_,_,_,_,_⟩::_) _ _);refine Ca rfl (.tmp 18) (.tmp 31) rfl w.heap.size _ [⟨#[107,105,110,100]⟩,Ag kn] L2 rfl O4.out ⟨gz,0,none⟩ cz rfl A1.out A2.out A3.out hsz4 ?_)
  intro g5 cap5 w5 ho hg hor hlt5;obtain⟨hc5,hv5⟩:=OR.sliced ho (by simp);have I5:Hid _:=hv5;have IC:Hid _:=hc5;have B5:Hid (Below w.heap.size w w5):=Below.grown S4.out hg hsz4 (fun j hj=>OR.blk O4.out j hj);have x5:=hg.cell x0 (by simp[Value.ownBlock];omega);clear ho hg hor hv5 hc5 x0 O4 S4;go_wp2_with fail
  refine(Tryz.strings_Join g5 0 cap5 ([⟨#[107,105,110,100]⟩,Ag kn]++L2) ⟨#[32]⟩ w5 (fun j x hj=> ?_) hlt5 (by have:=HL2.out;simp;omega) IC.out (KL _ (by have:=HL2.out;simp;omega) (by rw[←HH.out];exact Nj _ _ _ _ _ _ HI.out))).mono ?_
  ·have lj:j<([⟨#[107,105,110,100]⟩,Ag kn]++L2).length:=by
    rcases Nat.lt_or_ge j ([⟨#[107,105,110,100]⟩,Ag kn]++L2).length with q|q
    ·exact q
    rw[List.getElem?_eq_none q]at hj;cases hj
   rw[Nat.zero_add,I5.out j lj];have hj':((⟨#[107,105,110,100]⟩:ByteArray)::Ag kn::L2)[j]? =some x:=hj;show some (Value.string (((⟨#[107,105,110,100]⟩:ByteArray)::Ag kn::L2).getD j ⟨#[]⟩))=_;rw[List.getD,hj'];rfl
  rintro e w6 ⟨rfl,hb6⟩;have B6:Hid _:=AU B5.out hb6;clear hb6;go_wp2_with fail
  exact bodyPost_ret (v:=.tuple #[.string ⟨(Lib.join ([107,105,110,100]::(Ag kn).data.toList::List.map (fun x=>x.data.toList) L2) [32]).toArray⟩,.int .i64 0]) (by simp[results,Tryz.results32,go_sem]) rfl ⟨_,by rw[HCE.out],B6.out,fun _=>by rw[HH.out];rfl⟩
 have d:(ce != 0)=true:=by simpa using c0
 have HW:Hid _:=c0;clear c0;go_wp2_with fail
 exact bodyPost_ret (v:=.tuple #[.string ⟨#[]⟩,.int .i64 ce]) (by simp[results,Tryz.results32,go_sem]) rfl ⟨_,by rw[HCE.out],S1.out.bel,fun q=>absurd (HCE.out.symm.trans q) HW.out⟩
structure Ob (rb:Nat) (W W':World):Prop where
 os:W'.os=W.os
 tape:W'.tape=W.tape
 output:W'.output=W.output
 size:W.heap.size≤W'.heap.size
 block: ∀k,k<W.heap.size→k≠rb→W'.heap[k]? =W.heap[k]?
theorem Ob.refl(rb:Nat)(W:World):Ob rb W W:=⟨rfl,rfl,rfl,Nat.le_refl _,fun _ _ _=>rfl⟩
theorem Ob.trans{rb:Nat}{a b c:World}(h:Ob rb a b)(k:Ob rb b c):Ob rb a c:=
 ⟨k.os.trans h.os,k.tape.trans h.tape,k.output.trans h.output,Nat.le_trans h.size k.size,fun i hi hn=>(k.block i (Nat.lt_of_lt_of_le hi h.size) hn).trans (h.block i hi hn)⟩
theorem Ob.of{rb:Nat}{a b:World}(h:Below a.heap.size a b):Ob rb a b:=⟨h.os,h.tape,h.output,h.size,fun i hi _=>h.block i hi⟩
theorem Ob.go{rb:Nat}{a b c:World}(h:Ob rb a b)(k:Below b.heap.size b c):Ob rb a c:=h.trans (Ob.of k)
theorem Ob.set{rb:Nat}{a b:World}(h:Ob rb a b)(i:Nat)(u:Value):Ob rb a (b.setCell ⟨rb,i,none⟩ u):=
 h.trans ⟨rfl,rfl,rfl,by simp[World.setCell],fun k hk hn=>Below.heap_setCell _ _ _ _ fun e=>hn e⟩
theorem Ob.cell{rb:Nat}{a b:World}(h:Ob rb a b){p:Addr}{v:Value}(hv:a.cell? p=some v)(hn:p.block≠rb):b.cell? p=some v:=
 (World.cell?_of_block (w:=a) (h.block p.block (World.block_lt_of_cell? _ _ hv) hn)).trans hv
theorem Ob.below{rb lb:Nat}{a b:World}(h:Ob rb a b)(hl:lb≤a.heap.size)(hs:lb≤rb):Below lb a b:=
 ⟨h.os,h.tape,h.output,h.size,fun k hk=>h.block k (by omega) (by omega)⟩
def Rst(lm:Nat)(W:World)(v:Value)(L:List ByteArray):Prop:= ∃a cap,v=.slice a L.length cap∧L.length≤cap∧((a=none∧L=[]∧cap=0)∨ ∃g o,a=some ⟨g,o,none⟩∧ ∀i,i<L.length→g<lm∧W.cell? ⟨g,o+i,none⟩=some (.string (L.getD i ⟨#[]⟩)))
structure Rd (lm:Nat) (W:World) (rb:Nat) (L:List ByteArray) (b:Bool):Prop where
 is: ∃v,W.heap[rb]? =some (.cells #[v,.bool b] 45)∧Rst lm W v L
theorem Rd.cells{lm:Nat}{W:World}{rb:Nat}{L:List ByteArray}{b:Bool}(h:Rd lm W rb L b): ∃a cap,W.cell? ⟨rb,0,none⟩=some (.slice a L.length cap)∧W.cell? ⟨rb,1,none⟩=some (.bool b)∧W.frozen? ⟨rb,0,none⟩=false∧W.frozen? ⟨rb,1,none⟩=false∧L.length≤cap∧((a=none∧L=[]∧cap=0)∨ ∃g o,a=some ⟨g,o,none⟩∧ ∀i,i<L.length→g<lm∧W.cell? ⟨g,o+i,none⟩=some (.string (L.getD i ⟨#[]⟩))):=by
 obtain⟨v,h0,a,cap,rfl,h1,h2⟩:=h.is;refine⟨a,cap,?_,?_,?_,?_,h1,h2⟩<;>simp[World.cell?,World.frozen?,h0]
theorem Rd.lt{lm:Nat}{W:World}{rb:Nat}{L:List ByteArray}{b:Bool}(h:Rd lm W rb L b):rb<W.heap.size:=by
 obtain⟨v,h0,_⟩:=h.is;exact(Array.getElem?_eq_some_iff.1 h0).1
theorem Qi{W:World}{rb i:Nat}{v:Value}{b:Bool}{x:ByteArray}{a:Option Addr}{n c:Nat}(h:W.heap[rb]? =some (.cells #[v,.bool b] 45))(hv:v=.slice a n c)(k:W.cell? ⟨rb,i,none⟩=some (.string x)):False:=by
 subst hv;simp only[World.cell?,h]at k;match i,k with
 |0,k=>simp at k
 |1,k=>simp at k
 |i+2,k=>simp at k
theorem Rst.ob{lm:Nat}{W W':World}{rb:Nat}{v v0:Value}{L:List ByteArray}{b:Bool}{a:Option Addr}{n c:Nat}(h:Rst lm W v L)(h0:W.heap[rb]? =some (.cells #[v0,.bool b] 45))(hv:v0=.slice a n c)(k:Ob rb W W'):Rst lm W' v L:=by
 obtain⟨a,cap,e,h1,h2⟩:=h;refine⟨a,cap,e,h1,h2.imp id ?_⟩;rintro⟨g,o,ha,hc⟩;refine⟨g,o,ha,fun i hi=>⟨(hc i hi).1,k.cell (hc i hi).2 fun e=> ?_⟩⟩;have e:g=rb:=e;subst e;exact Qi h0 hv (hc i hi).2
theorem Rd.go{lm:Nat}{W W':World}{rb:Nat}{L:List ByteArray}{b:Bool}(h:Rd lm W rb L b)(k:Below W.heap.size W W'):Rd lm W' rb L b:=by
 obtain⟨v,h0,hr⟩:=h.is;have hr':=hr;obtain⟨a,cap,e,h1,h2⟩:=hr';exact⟨⟨v,(k.block rb (Array.getElem?_eq_some_iff.1 h0).1).trans h0,hr.ob h0 e (Ob.of k)⟩⟩
theorem Rd.bad{lm:Nat}{W:World}{rb:Nat}{L:List ByteArray}{b:Bool}(h:Rd lm W rb L b):Rd lm (W.setCell ⟨rb,1,none⟩ (.bool true)) rb L true∧Ob rb W (W.setCell ⟨rb,1,none⟩ (.bool true)):=by
 obtain⟨v,h0,hr⟩:=h.is;have hr':=hr;obtain⟨a,cap,e,h1,h2⟩:=hr';have k:=(Ob.refl rb W).set 1 (.bool true);exact⟨⟨⟨v,heap_setCell_same W rb 1 _ _ _ h0,hr.ob h0 e k⟩⟩,k⟩
theorem Rd.rest{lm lm':Nat}{W:World}{rb:Nat}{L L':List ByteArray}{b:Bool}{v:Value}(h:Rd lm W rb L b)(hr:Rst lm' W v L'):Rd lm' (W.setCell ⟨rb,0,none⟩ v) rb L' b∧Ob rb W (W.setCell ⟨rb,0,none⟩ v):=by
 obtain⟨v0,h0,a,cap,e,_,_⟩:=h.is;have k:=(Ob.refl rb W).set 0 v;exact⟨⟨⟨v,heap_setCell_same W rb 0 _ _ _ h0,hr.ob h0 e k⟩⟩,k⟩
theorem Rst.of{lm:Nat}{W:World}{g o n cap:Nat}{L:List ByteArray}(hn:L.length=n)(hc:n≤cap)(h: ∀i,i<L.length→g<lm∧W.cell? ⟨g,o+i,none⟩=some (.string (L.getD i ⟨#[]⟩))):Rst lm W (.slice (some ⟨g,o,none⟩) n cap) L:=by
 subst hn;exact⟨_,_,rfl,hc,.inr ⟨g,o,rfl,h⟩⟩
theorem Rd.mono{lm lm':Nat}{W:World}{rb:Nat}{L:List ByteArray}{b:Bool}(h:Rd lm W rb L b)(hl:lm≤lm'):Rd lm' W rb L b:=by
 obtain⟨v,h0,a,cap,e,h1,h2⟩:=h.is;refine⟨⟨v,h0,a,cap,e,h1,h2.imp id ?_⟩⟩;rintro⟨g,o,ha,hc⟩;exact⟨g,o,ha,fun i hi=>⟨Nat.lt_of_lt_of_le (hc i hi).1 hl,(hc i hi).2⟩⟩
theorem Rd.str{lm:Nat}{W:World}{rb i g:Nat}{L:List ByteArray}{b:Bool}{x:ByteArray}(h:Rd lm W rb L b)(k:W.cell? ⟨g,i,none⟩=some (.string x)):g≠rb:=by
 rintro rfl;obtain⟨v,h0,a,cap,e,h1,h2⟩:=h.is;exact Qi h0 e k
theorem Rd.far{lm:Nat}{W:World}{rb:Nat}{L:List ByteArray}{b:Bool}{p:Addr}{u:Value}(h:Rd lm W rb L b)(h1:lm≤p.block)(h2:rb<p.block):Rd lm (W.setCell p u) rb L b:=by
 obtain⟨v,h0,a,cap,e,k1,k2⟩:=h.is;refine⟨⟨v,(Below.heap_setCell _ _ _ _ (by omega)).trans h0,a,cap,e,k1,k2.imp id ?_⟩⟩;rintro⟨g,o,ha,hc⟩;refine⟨g,o,ha,fun i hi=>⟨(hc i hi).1,?_⟩⟩;have hg:=(hc i hi).1;exact(World.cell?_of_block (w:=W) (Below.heap_setCell _ _ _ _ (by show g≠_;omega))).trans (hc i hi).2
theorem Dd(a b:ByteArray):(a.toList==b.toList)=decide (a=b):=by
 rw[ByteArray.toList_eq,ByteArray.toList_eq];by_cases h:a=b
 ·simp[h]
 have k:a.data.toList≠b.data.toList:=fun e=>h (by cases a;cases b;congr;exact Array.toList_inj.1 e);rw[decide_eq_false h];exact beq_eq_false_iff_ne.2 k
def hdT(L:List ByteArray):ByteArray:=L.headD ⟨#[]⟩
theorem RQ{lm:Nat}(rb:Nat)(b:Bool)(w:World)(h:Rd lm w rb [] b):
  Calls Tryz.prog 48 #[.pointer (some ⟨rb,0,none⟩)] w fun e w'=>e=.returned (.string ⟨#[]⟩)∧Rd lm w' rb [] true∧Ob rb w w':=by
 have HB:Hid _:=h.bad;obtain⟨a,cap,x0,x1,f0,f1,hn,hc⟩:=h.cells;clear h hc;rw[List.length_nil]at x0 hn;go_enter Tryz.func48,Tryz.ntmps48
 go_wp2_with fail
 exact bodyPost_ret (v:=.string ⟨#[]⟩) (by simp[results,Tryz.results48,go_sem]) rfl ⟨rfl,HB.out⟩
theorem RT{lm:Nat}(rb:Nat)(x:ByteArray)(L:List ByteArray)(b:Bool)(w:World)(h:Rd lm w rb (x::L) b):
  Calls Tryz.prog 48 #[.pointer (some ⟨rb,0,none⟩)] w fun e w'=>e=.returned (.string x)∧Rd lm w' rb L b∧Ob rb w w':=by
 have HR:Hid _:=h;obtain⟨a,cap,x0,x1,f0,f1,hn,hc⟩:=h.cells;clear h;rcases hc with⟨_,q,_⟩| ⟨g,o,rfl,hc⟩
 ·cases q
 have HC:Hid _:=hc;have y0:=(hc 0 (by simp)).2;rw[Nat.add_zero]at y0;have y0:w.cell? ⟨g,o,none⟩=some (.string x):=y0;clear hc;rw[List.length_cons]at x0 hn;obtain⟨n,en⟩:=nme L.length;rw[←en]at x0 hn;have HN:Hid _:=en;clear en;have c1:((n+1:Nat):Int)≠0:=by omega
 by_cases hcap:cap=1
 ·subst hcap;have e0:n=0:=by omega
  subst e0;go_enter Tryz.func48,Tryz.ntmps48
  go_wp2_with fail
  exact bodyPost_ret (v:=.string x) (by simp[results,Tryz.results48,go_sem]) rfl ⟨rfl,HR.out.rest (Rst.of HN.out.symm (by omega) fun i hi=>by have:=HN.out;omega)⟩
 go_enter Tryz.func48,Tryz.ntmps48
 go_wp2_with fail
 exact bodyPost_ret (v:=.string x) (by simp[results,Tryz.results48,go_sem]) rfl ⟨rfl,HR.out.rest (Rst.of HN.out.symm (by omega) fun i hi=>by have:=HC.out (i+1) (by simp;omega);rw[show o+(i+1)=o+1+i by omega]at this;exact this)⟩
theorem FM{lm:Nat}(rb:Nat)(L:List ByteArray)(b:Bool)(w:World)(h:Rd lm w rb L b):
  Calls Tryz.prog 48 #[.pointer (some ⟨rb,0,none⟩)] w fun e w'=>e=.returned (.string (hdT L))∧Rd lm w' rb L.tail (b||L.isEmpty)∧Ob rb w w':=by
 cases L with
 |nil=>
  rw[show(b||([]:List ByteArray).isEmpty)=true by simp];exact RQ rb b w h
 |cons x L=>
  rw[show(b||(x::L).isEmpty)=b by simp];exact RT rb x L b w h
theorem T9{lm:Nat}(rb:Nat)(s:ByteArray)(L:List ByteArray)(b:Bool)(w:World)(h:Rd lm w rb L b):
  Calls Tryz.prog 34 #[.pointer (some ⟨rb,0,none⟩),.string s] w fun e w'=>e=.returned (.tuple #[])∧Rd lm w' rb L.tail (b||L.isEmpty||decide (hdT L≠s))∧Ob rb w w':=by
 go_enter Tryz.func34,Tryz.ntmps34
 go_wp2_with fail
 refine(FM rb L b w h).mono ?_;rintro e w1 ⟨rfl,hr,ho⟩;have HR:Hid _:=hr;have HO:Hid _:=ho;obtain⟨a,cap,x0,x1,f0,f1,_,_⟩:=hr.cells;clear hr ho h;by_cases c:hdT L=s
 ·have d:decide (hdT L≠s)=false:=by simpa using c
  have d1:((hdT L).toList==s.toList)=true:=by rw[Dd];simpa using c
  go_wp2_with fail
  exact bodyPost_end (v:=.tuple #[]) (by simp[results,Tryz.results34,go_sem]) rfl ⟨rfl,by rw[d,Bool.or_false];exact HR.out,HO.out⟩
 have d:decide (hdT L≠s)=true:=by simpa using c
 have d1:((hdT L).toList==s.toList)=false:=by rw[Dd];simpa using c
 go_wp2_with fail
 exact bodyPost_end (v:=.tuple #[]) (by simp[results,Tryz.results34,go_sem]) rfl ⟨rfl,by rw[d,Bool.or_true];exact HR.out.bad.1,HO.out.trans HR.out.bad.2⟩
theorem J9{lm:Nat}(rb:Nat)(L:List ByteArray)(b:Bool)(w:World)(h:Rd lm w rb L b):
  Calls Tryz.prog 14 #[.pointer (some ⟨rb,0,none⟩)] w fun e w'=>e=.returned (.bool (!b&&L.isEmpty))∧w'=w:=by
 obtain⟨a,cap,x0,x1,f0,f1,_,_⟩:=h.cells;clear h;obtain⟨n,hn⟩:=nmd L.length;rw[hn]at x0;have e:L.isEmpty=decide (n=0):=by cases L<;>simp at hn⊢ <;>omega
 rw[e];clear hn e;cases b
 ·by_cases c:n=0
  ·subst c;go_enter Tryz.func14,Tryz.ntmps14
   go_wp2_with fail
   exact bodyPost_ret (v:=.bool true) (by simp[results,Tryz.results14,go_sem]) rfl ⟨by simp,rfl⟩
  have c1:((n:Nat):Int)≠0:=by omega
  go_enter Tryz.func14,Tryz.ntmps14
  go_wp2_with fail
  exact bodyPost_ret (v:=.bool false) (by simp[results,Tryz.results14,go_sem];exact c) rfl ⟨by simp;exact c,rfl⟩
 go_enter Tryz.func14,Tryz.ntmps14
 go_wp2_with fail
 exact bodyPost_ret (v:=.bool false) (by simp[results,Tryz.results14,go_sem]) rfl ⟨by simp,rfl⟩
def kdV(x:ByteArray):Int:=if x=Ag 1 then 1 else if x=Ag 2 then 2 else if x=Ag 3 then 3 else if x=Ag 4 then 4 else if x=Ag 5 then 5 else if x=Ag 6 then 6 else 0
theorem G9{x:ByteArray}{k:Nat}(h: ∀i,i<k→1≤i→x≠Ag i)(e:x=Ag k)(h1:1≤k)(h7:k<7):kdV x=(k:Int):=by
 unfold kdV;match k,h,e,h1,h7 with
 |1,h,e,_,_=>rw[if_pos e];rfl
 |2,h,e,_,_=>rw[if_neg (h 1 (by omega) (by omega)),if_pos e];rfl
 |3,h,e,_,_=>rw[if_neg (h 1 (by omega) (by omega)),if_neg (h 2 (by omega) (by omega)),if_pos e];rfl
 |4,h,e,_,_=>rw[if_neg (h 1 (by omega) (by omega)),if_neg (h 2 (by omega) (by omega)),if_neg (h 3 (by omega) (by omega)),if_pos e];rfl
 |5,h,e,_,_=>rw[if_neg (h 1 (by omega) (by omega)),if_neg (h 2 (by omega) (by omega)),if_neg (h 3 (by omega) (by omega)),if_neg (h 4 (by omega) (by omega)),if_pos e];rfl
 |6,h,e,_,_=>rw[if_neg (h 1 (by omega) (by omega)),if_neg (h 2 (by omega) (by omega)),if_neg (h 3 (by omega) (by omega)),if_neg (h 4 (by omega) (by omega)),if_neg (h 5 (by omega) (by omega)),if_pos e];rfl
theorem WI{x:ByteArray}(h: ∀i,i<7→1≤i→x≠Ag i):kdV x=0:=by
 unfold kdV;rw[if_neg (h 1 (by omega) (by omega)),if_neg (h 2 (by omega) (by omega)),if_neg (h 3 (by omega) (by omega)),if_neg (h 4 (by omega) (by omega)),if_neg (h 5 (by omega) (by omega)),if_neg (h 6 (by omega) (by omega))]
theorem KN.ob{lm:Nat}{w W:World}{rb:Nat}{L:List ByteArray}{b:Bool}(h:KN w)(hr:Rd lm w rb L b)(k:Ob rb w W):KN W:=fun i hi=>by
 refine k.cell (h i hi) fun e=> ?_;obtain⟨v,h0,a,cap,hv,_⟩:=hr.is;have h1:=h i hi;have e:0=rb:=e;rw[←e]at h0;exact Qi h0 hv h1
theorem Ua{lm:Nat}(rb:Nat)(L:List ByteArray)(b:Bool)(w:World)(h:Rd lm w rb L b)(hk:KN w):
  Calls Tryz.prog 35 #[.pointer (some ⟨rb,0,none⟩)] w fun e w'=>e=.returned (.int .i64 (kdV (hdT L)))∧Rd lm w' rb L.tail (b||L.isEmpty||decide (kdV (hdT L)=0))∧Ob rb w w':=by
 have HKN:Hid _:=hk;clear hk;go_enter Tryz.func35,Tryz.ntmps35
 go_wp2_with fail
 refine(FM rb L b w h).mono ?_;rintro e w1 ⟨rfl,hr,ho⟩;have hk:=KN.ob HKN.out h ho;have HR:Hid _:=hr;have HO:Hid _:=ho;obtain⟨a,cap,x0,x1,f0,f1,_,_⟩:=hr.cells;clear hr ho h HKN;obtain⟨X,hX⟩:=nmd (hdT L);rw[hX];have HXL:Hid _:=hX;clear hX;have n0:=hk 0 (by omega);have n1:=hk 1 (by omega);have n2:=hk 2 (by omega);have n3:=hk 3 (by omega);have n4:=hk 4 (by omega);have n5:=hk 5 (by omega);have n6:=hk 6 (by omega);clear hk;go_wp2_with fail
 go_loopw [9] (fun t wr=> ∃k:Int,0≤k∧k≤7∧t=.int .i64 k∧wr=w1∧Hid (∀i:Nat,(i:Int)<k→1≤i→X≠Ag i)) (fun t _=>7- (intOf t).toNat)
 case atStart=>exact⟨0,by omega,by omega,rfl,rfl,fun i hi=>by omega⟩
 case round=>
  obtain⟨k,hk0,hk,rfl,rfl,HA⟩:=hrel;rcases(show k=0∨k=1∨k=2∨k=3∨k=4∨k=5∨k=6∨k=7 by omega)with ek|ek|ek|ek|ek|ek|ek|ek
  ·subst ek;have ix: ∀w,(Instr.index 136 (.agg #[.string (Ag 0),.string (Ag 1),.string (Ag 2),.string (Ag 3),.string (Ag 4),.string (Ag 5),.string (Ag 6)]) (.int .i64 0)).run Tryz.prog w=.ok (.string (Ag 0)) w:=fun _=>by kernel_rfl
   by_cases c:X=Ag 0
   ·have d1:(X.toList==(Ag 0).toList)=true:=by rw[Dd];simpa using c
    have d2:(X.toList==([]:List UInt8))=true:=by rw[c,ByteArray.toList_eq];rfl
    have HA':Hid (∀i:Nat,(i:Int)<1→1≤i→X≠Ag i):=fun i hi h1=>by omega
    clear c;go_wp2_with fail
    go_roundw
    case rel=>exact⟨1,by omega,by omega,rfl,trivial,HA'⟩
    case measure=>simp[intOf]
   have d1:(X.toList==(Ag 0).toList)=false:=by rw[Dd];simpa using c
   have HA':Hid (∀i:Nat,(i:Int)<1→1≤i→X≠Ag i):=fun i hi h1=>by
    by_cases e:i=0
    ·rw[e];exact c
    exact HA.out i (by omega) h1
   clear c;go_wp2_with fail
   go_roundw
   case rel=>exact⟨1,by omega,by omega,rfl,trivial,HA'⟩
   case measure=>simp[intOf]
  ·subst ek;have ix: ∀w,(Instr.index 136 (.agg #[.string (Ag 0),.string (Ag 1),.string (Ag 2),.string (Ag 3),.string (Ag 4),.string (Ag 5),.string (Ag 6)]) (.int .i64 1)).run Tryz.prog w=.ok (.string (Ag 1)) w:=fun _=>by kernel_rfl
   by_cases c:X=Ag 1
   ·have d1:(X.toList==(Ag 1).toList)=true:=by rw[Dd];simpa using c
    have d2:(X.toList==([]:List UInt8))=false:=by rw[c,ByteArray.toList_eq];rfl
    have HK:Hid (kdV X=1):=G9 (k:=1) (fun i hi=>HA.out i (by omega)) c (by omega) (by omega);clear c;go_wp2_with fail
    exact bodyPost_ret (v:=.int .i64 1) (by simp[results,Tryz.results35,go_sem]) rfl ⟨by rw[HXL.out,HK.out],by rw[HXL.out,HK.out];simpa using HR.out,HO.out⟩
   have d1:(X.toList==(Ag 1).toList)=false:=by rw[Dd];simpa using c
   have HA':Hid (∀i:Nat,(i:Int)<2→1≤i→X≠Ag i):=fun i hi h1=>by
    by_cases e:i=1
    ·rw[e];exact c
    exact HA.out i (by omega) h1
   clear c;go_wp2_with fail
   go_roundw
   case rel=>exact⟨2,by omega,by omega,rfl,trivial,HA'⟩
   case measure=>simp[intOf]
  ·subst ek;have ix: ∀w,(Instr.index 136 (.agg #[.string (Ag 0),.string (Ag 1),.string (Ag 2),.string (Ag 3),.string (Ag 4),.string (Ag 5),.string (Ag 6)]) (.int .i64 2)).run Tryz.prog w=.ok (.string (Ag 2)) w:=fun _=>by kernel_rfl
   by_cases c:X=Ag 2
   ·have d1:(X.toList==(Ag 2).toList)=true:=by rw[Dd];simpa using c
    have d2:(X.toList==([]:List UInt8))=false:=by rw[c,ByteArray.toList_eq];rfl
    have HK:Hid (kdV X=2):=G9 (k:=2) (fun i hi=>HA.out i (by omega)) c (by omega) (by omega);clear c;go_wp2_with fail
    exact bodyPost_ret (v:=.int .i64 2) (by simp[results,Tryz.results35,go_sem]) rfl ⟨by rw[HXL.out,HK.out],by rw[HXL.out,HK.out];simpa using HR.out,HO.out⟩
   have d1:(X.toList==(Ag 2).toList)=false:=by rw[Dd];simpa using c
   have HA':Hid (∀i:Nat,(i:Int)<3→1≤i→X≠Ag i):=fun i hi h1=>by
    by_cases e:i=2
    ·rw[e];exact c
    exact HA.out i (by omega) h1
   clear c;go_wp2_with fail
   go_roundw
   case rel=>exact⟨3,by omega,by omega,rfl,trivial,HA'⟩
   case measure=>simp[intOf]
  ·subst ek;have ix: ∀w,(Instr.index 136 (.agg #[.string (Ag 0),.string (Ag 1),.string (Ag 2),.string (Ag 3),.string (Ag 4),.string (Ag 5),.string (Ag 6)]) (.int .i64 3)).run Tryz.prog w=.ok (.string (Ag 3)) w:=fun _=>by kernel_rfl
   by_cases c:X=Ag 3
   ·have d1:(X.toList==(Ag 3).toList)=true:=by rw[Dd];simpa using c
    have d2:(X.toList==([]:List UInt8))=false:=by rw[c,ByteArray.toList_eq];rfl
    have HK:Hid (kdV X=3):=G9 (k:=3) (fun i hi=>HA.out i (by omega)) c (by omega) (by omega);clear c;go_wp2_with fail
    exact bodyPost_ret (v:=.int .i64 3) (by simp[results,Tryz.results35,go_sem]) rfl ⟨by rw[HXL.out,HK.out],by rw[HXL.out,HK.out];simpa using HR.out,HO.out⟩
   have d1:(X.toList==(Ag 3).toList)=false:=by rw[Dd];simpa using c
   have HA':Hid (∀i:Nat,(i:Int)<4→1≤i→X≠Ag i):=fun i hi h1=>by
    by_cases e:i=3
    ·rw[e];exact c
    exact HA.out i (by omega) h1
   clear c;go_wp2_with fail
   go_roundw
   case rel=>exact⟨4,by omega,by omega,rfl,trivial,HA'⟩
   case measure=>simp[intOf]
  ·subst ek;have ix: ∀w,(Instr.index 136 (.agg #[.string (Ag 0),.string (Ag 1),.string (Ag 2),.string (Ag 3),.string (Ag 4),.string (Ag 5),.string (Ag 6)]) (.int .i64 4)).run Tryz.prog w=.ok (.string (Ag 4)) w:=fun _=>by kernel_rfl
   by_cases c:X=Ag 4
   ·have d1:(X.toList==(Ag 4).toList)=true:=by rw[Dd];simpa using c
    have d2:(X.toList==([]:List UInt8))=false:=by rw[c,ByteArray.toList_eq];rfl
    have HK:Hid (kdV X=4):=G9 (k:=4) (fun i hi=>HA.out i (by omega)) c (by omega) (by omega);clear c;go_wp2_with fail
    exact bodyPost_ret (v:=.int .i64 4) (by simp[results,Tryz.results35,go_sem]) rfl ⟨by rw[HXL.out,HK.out],by rw[HXL.out,HK.out];simpa using HR.out,HO.out⟩
   have d1:(X.toList==(Ag 4).toList)=false:=by rw[Dd];simpa using c
   have HA':Hid (∀i:Nat,(i:Int)<5→1≤i→X≠Ag i):=fun i hi h1=>by
    by_cases e:i=4
    ·rw[e];exact c
    exact HA.out i (by omega) h1
   clear c;go_wp2_with fail
   go_roundw
   case rel=>exact⟨5,by omega,by omega,rfl,trivial,HA'⟩
   case measure=>simp[intOf]
  ·subst ek;have ix: ∀w,(Instr.index 136 (.agg #[.string (Ag 0),.string (Ag 1),.string (Ag 2),.string (Ag 3),.string (Ag 4),.string (Ag 5),.string (Ag 6)]) (.int .i64 5)).run Tryz.prog w=.ok (.string (Ag 5)) w:=fun _=>by kernel_rfl
   by_cases c:X=Ag 5
   ·have d1:(X.toList==(Ag 5).toList)=true:=by rw[Dd];simpa using c
    have d2:(X.toList==([]:List UInt8))=false:=by rw[c,ByteArray.toList_eq];rfl
    have HK:Hid (kdV X=5):=G9 (k:=5) (fun i hi=>HA.out i (by omega)) c (by omega) (by omega);clear c;go_wp2_with fail
    exact bodyPost_ret (v:=.int .i64 5) (by simp[results,Tryz.results35,go_sem]) rfl ⟨by rw[HXL.out,HK.out],by rw[HXL.out,HK.out];simpa using HR.out,HO.out⟩
   have d1:(X.toList==(Ag 5).toList)=false:=by rw[Dd];simpa using c
   have HA':Hid (∀i:Nat,(i:Int)<6→1≤i→X≠Ag i):=fun i hi h1=>by
    by_cases e:i=5
    ·rw[e];exact c
    exact HA.out i (by omega) h1
   clear c;go_wp2_with fail
   go_roundw
   case rel=>exact⟨6,by omega,by omega,rfl,trivial,HA'⟩
   case measure=>simp[intOf]
  ·subst ek;have ix: ∀w,(Instr.index 136 (.agg #[.string (Ag 0),.string (Ag 1),.string (Ag 2),.string (Ag 3),.string (Ag 4),.string (Ag 5),.string (Ag 6)]) (.int .i64 6)).run Tryz.prog w=.ok (.string (Ag 6)) w:=fun _=>by kernel_rfl
   by_cases c:X=Ag 6
   ·have d1:(X.toList==(Ag 6).toList)=true:=by rw[Dd];simpa using c
    have d2:(X.toList==([]:List UInt8))=false:=by rw[c,ByteArray.toList_eq];rfl
    have HK:Hid (kdV X=6):=G9 (k:=6) (fun i hi=>HA.out i (by omega)) c (by omega) (by omega);clear c;go_wp2_with fail
    exact bodyPost_ret (v:=.int .i64 6) (by simp[results,Tryz.results35,go_sem]) rfl ⟨by rw[HXL.out,HK.out],by rw[HXL.out,HK.out];simpa using HR.out,HO.out⟩
   have d1:(X.toList==(Ag 6).toList)=false:=by rw[Dd];simpa using c
   have HA':Hid (∀i:Nat,(i:Int)<7→1≤i→X≠Ag i):=fun i hi h1=>by
    by_cases e:i=6
    ·rw[e];exact c
    exact HA.out i (by omega) h1
   clear c;go_wp2_with fail
   go_roundw
   case rel=>exact⟨7,by omega,by omega,rfl,trivial,HA'⟩
   case measure=>simp[intOf]
  subst ek;have HK:Hid (kdV X=0):=WI fun i hi=>HA.out i (by omega);go_wp2_with fail
  exact bodyPost_ret (v:=.int .i64 0) (by simp[results,Tryz.results35,go_sem]) rfl ⟨by rw[HXL.out,HK.out],by rw[HXL.out,HK.out];simpa using HR.out.bad.1,HO.out.trans HR.out.bad.2⟩
end Go.Proofs.YtbikpmmpgbggaaaGreatDoor
