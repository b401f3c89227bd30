import Derived.Test.YtjnafpefolgcoaaGreatDoorK06
import Derived.Shelf.Strings.OnBuilder
import Derived.Shelf.Strings.Repeat
import Derived.Shelf.Strconv.Itoa3
import Derived.Lib.AppendIntMem
namespace Go.Proofs.YtjnafpefolgcoaaGreatDoor
open Go.Shelf
def _root_.Go.Proofs.Tryz.lays171_ren:Go.Shelf.Ren:=⟨fun|171=>88|243=>125|246=>133|283=>134|284=>135|285=>136|286=>137|129=>141|317=>140|318=>142|319=>143|320=>144|337=>145|338=>146|n=>n,fun|3=>3|9=>9|2=>2|4=>4|171=>167|0=>0|53=>50|37=>105|5=>5|173=>170|212=>176|51=>145|20=>20|213=>177|46=>114|232=>180|233=>181|n=>n,fun|17=>5|18=>6|19=>7|n=>n⟩
theorem _root_.Go.Proofs.Tryz.lays171:Go.Proofs.LaysM.n171 Tryz.prog Tryz.lays171_ren:={
 mixed:=by kernel_rfl
 f129:=Tryz.func141.trans (congrArg some (by kernel_rfl))
 f171:=Tryz.func88.trans (congrArg some (by kernel_rfl))
 f243:=Tryz.func125.trans (congrArg some (by kernel_rfl))
 f246:=Tryz.func133.trans (congrArg some (by kernel_rfl))
 f283:=Tryz.func134.trans (congrArg some (by kernel_rfl))
 f284:=Tryz.func135.trans (congrArg some (by kernel_rfl))
 f285:=Tryz.func136.trans (congrArg some (by kernel_rfl))
 f286:=Tryz.func137.trans (congrArg some (by kernel_rfl))
 f317:=Tryz.func140.trans (congrArg some (by kernel_rfl))
 f318:=Tryz.func142.trans (congrArg some (by kernel_rfl))
 f319:=Tryz.func143.trans (congrArg some (by kernel_rfl))
 f320:=Tryz.func144.trans (congrArg some (by kernel_rfl))
 f337:=Tryz.func145.trans (congrArg some (by kernel_rfl))
 f338:=Tryz.func146.trans (congrArg some (by kernel_rfl))
 t0:=Tryz.underlying0
 a0:=Tryz.isAgg0
 z0:=Tryz.sizeOf0
 v0:=Tryz.zeroValue0
 t2:=Tryz.underlying2
 a2:=Tryz.isAgg2
 z2:=Tryz.sizeOf2
 v2:=Tryz.zeroValue2
 t3:=Tryz.underlying3
 a3:=Tryz.isAgg3
 z3:=Tryz.sizeOf3
 v3:=Tryz.zeroValue3
 t4:=Tryz.underlying4
 a4:=Tryz.isAgg4
 z4:=Tryz.sizeOf4
 v4:=Tryz.zeroValue4
 t5:=Tryz.underlying5
 a5:=Tryz.isAgg5
 z5:=Tryz.sizeOf5
 v5:=Tryz.zeroValue5
 t9:=Tryz.underlying9
 a9:=Tryz.isAgg9
 z9:=Tryz.sizeOf9
 v9:=Tryz.zeroValue9
 t20:=Tryz.underlying20
 a20:=Tryz.isAgg20
 z20:=Tryz.sizeOf20
 v20:=Tryz.zeroValue20
 t37:=Tryz.underlying105
 a37:=Tryz.isAgg105
 z37:=Tryz.sizeOf105
 v37:=Tryz.zeroValue105
 t46:=Tryz.underlying114
 a46:=Tryz.isAgg114
 z46:=Tryz.sizeOf114
 v46:=Tryz.zeroValue114
 t51:=Tryz.underlying145
 a51:=Tryz.isAgg145
 z51:=Tryz.sizeOf145
 v51:=Tryz.zeroValue145
 t53:=Tryz.underlying50
 a53:=Tryz.isAgg50
 z53:=Tryz.sizeOf50
 v53:=Tryz.zeroValue50
 t171:=Tryz.underlying167
 a171:=Tryz.isAgg167
 z171:=Tryz.sizeOf167
 v171:=Tryz.zeroValue167
 t173:=Tryz.underlying170
 a173:=Tryz.isAgg170
 z173:=Tryz.sizeOf170
 v173:=Tryz.zeroValue170
 t212:=Tryz.underlying176
 a212:=Tryz.isAgg176
 z212:=Tryz.sizeOf176
 v212:=Tryz.zeroValue176
 t213:=Tryz.underlying177
 a213:=Tryz.isAgg177
 z213:=Tryz.sizeOf177
 t232:=Tryz.underlying180
 a232:=Tryz.isAgg180
 z232:=Tryz.sizeOf180
 v232:=Tryz.zeroValue180
 t233:=Tryz.underlying181
 a233:=Tryz.isAgg181
 z233:=Tryz.sizeOf181
 v233:=Tryz.zeroValue181
 g17:=by kernel_rfl
 g18:=by kernel_rfl
 g19:=by kernel_rfl
 i0:=by kernel_rfl
 i2:=by kernel_rfl
 i3:=by kernel_rfl
 i4:=by kernel_rfl
 i5:=by kernel_rfl
 i9:=by kernel_rfl
 i20:=by kernel_rfl
 i37:=by kernel_rfl
 i46:=by kernel_rfl
 i51:=by kernel_rfl
 i53:=by kernel_rfl
 i171:=by kernel_rfl
 i173:=by kernel_rfl
 i212:=by kernel_rfl
 i232:=by kernel_rfl
 i233:=by kernel_rfl
 m17:=by kernel_rfl
 m18:=by kernel_rfl
 m19:=by kernel_rfl }
def _root_.Go.Proofs.Tryz.lays156_ren:Go.Shelf.Ren:=⟨fun|156=>50|165=>82|166=>83|169=>85|240=>122|241=>123|276=>131|277=>132|n=>n,fun|31=>35|9=>9|3=>3|4=>4|0=>0|20=>20|72=>120|76=>124|70=>118|37=>105|75=>123|127=>150|164=>163|5=>5|80=>127|n=>n,fun|n=>n⟩
theorem _root_.Go.Proofs.Tryz.lays156:Go.Proofs.Lays.n156 Tryz.prog Tryz.lays156_ren:={
 mixed:=by kernel_rfl
 f156:=Tryz.func50.trans (congrArg some (by kernel_rfl))
 f165:=Tryz.func82.trans (congrArg some (by kernel_rfl))
 f166:=Tryz.func83.trans (congrArg some (by kernel_rfl))
 f169:=Tryz.func85.trans (congrArg some (by kernel_rfl))
 f240:=Tryz.func122.trans (congrArg some (by kernel_rfl))
 f241:=Tryz.func123.trans (congrArg some (by kernel_rfl))
 f276:=Tryz.func131.trans (congrArg some (by kernel_rfl))
 f277:=Tryz.func132.trans (congrArg some (by kernel_rfl))
 t0:=Tryz.underlying0
 a0:=Tryz.isAgg0
 z0:=Tryz.sizeOf0
 v0:=Tryz.zeroValue0
 t3:=Tryz.underlying3
 a3:=Tryz.isAgg3
 z3:=Tryz.sizeOf3
 v3:=Tryz.zeroValue3
 t4:=Tryz.underlying4
 a4:=Tryz.isAgg4
 z4:=Tryz.sizeOf4
 v4:=Tryz.zeroValue4
 t9:=Tryz.underlying9
 a9:=Tryz.isAgg9
 z9:=Tryz.sizeOf9
 v9:=Tryz.zeroValue9
 t20:=Tryz.underlying20
 a20:=Tryz.isAgg20
 z20:=Tryz.sizeOf20
 v20:=Tryz.zeroValue20
 t31:=Tryz.underlying35
 a31:=Tryz.isAgg35
 z31:=Tryz.sizeOf35
 v31:=Tryz.zeroValue35
 t37:=Tryz.underlying105
 a37:=Tryz.isAgg105
 z37:=Tryz.sizeOf105
 v37:=Tryz.zeroValue105
 t70:=Tryz.underlying118
 a70:=Tryz.isAgg118
 z70:=Tryz.sizeOf118
 v70:=Tryz.zeroValue118
 t72:=Tryz.underlying120
 a72:=Tryz.isAgg120
 z72:=Tryz.sizeOf120
 v72:=Tryz.zeroValue120
 t75:=Tryz.underlying123
 a75:=Tryz.isAgg123
 z75:=Tryz.sizeOf123
 v75:=Tryz.zeroValue123
 t76:=Tryz.underlying124
 a76:=Tryz.isAgg124
 z76:=Tryz.sizeOf124
 v76:=Tryz.zeroValue124
 t127:=Tryz.underlying150
 a127:=Tryz.isAgg150
 z127:=Tryz.sizeOf150
 v127:=Tryz.zeroValue150
 t164:=Tryz.underlying163
 a164:=Tryz.isAgg163
 z164:=Tryz.sizeOf163
 v164:=Tryz.zeroValue163 }
def _root_.Go.Proofs.Tryz.lays105_ren:Go.Shelf.Ren:=⟨fun|105=>49|212=>80|99=>81|165=>82|166=>83|170=>84|169=>85|263=>119|264=>120|206=>121|240=>122|241=>123|276=>131|277=>132|n=>n,fun|9=>9|3=>3|4=>4|20=>20|0=>0|46=>114|109=>115|5=>5|72=>120|76=>124|51=>145|146=>146|53=>50|148=>148|70=>118|37=>105|75=>123|127=>150|164=>163|80=>127|n=>n,fun|n=>n⟩
theorem _root_.Go.Proofs.Tryz.lays105:Go.Proofs.Lays.n105 Tryz.prog Tryz.lays105_ren:={
 mixed:=by kernel_rfl
 f99:=Tryz.func81.trans (congrArg some (by kernel_rfl))
 f105:=Tryz.func49.trans (congrArg some (by kernel_rfl))
 f165:=Tryz.func82.trans (congrArg some (by kernel_rfl))
 f166:=Tryz.func83.trans (congrArg some (by kernel_rfl))
 f169:=Tryz.func85.trans (congrArg some (by kernel_rfl))
 f170:=Tryz.func84.trans (congrArg some (by kernel_rfl))
 f206:=Tryz.func121.trans (congrArg some (by kernel_rfl))
 f212:=Tryz.func80.trans (congrArg some (by kernel_rfl))
 f240:=Tryz.func122.trans (congrArg some (by kernel_rfl))
 f241:=Tryz.func123.trans (congrArg some (by kernel_rfl))
 f263:=Tryz.func119.trans (congrArg some (by kernel_rfl))
 f264:=Tryz.func120.trans (congrArg some (by kernel_rfl))
 f276:=Tryz.func131.trans (congrArg some (by kernel_rfl))
 f277:=Tryz.func132.trans (congrArg some (by kernel_rfl))
 t0:=Tryz.underlying0
 a0:=Tryz.isAgg0
 z0:=Tryz.sizeOf0
 v0:=Tryz.zeroValue0
 t3:=Tryz.underlying3
 a3:=Tryz.isAgg3
 z3:=Tryz.sizeOf3
 v3:=Tryz.zeroValue3
 t4:=Tryz.underlying4
 a4:=Tryz.isAgg4
 z4:=Tryz.sizeOf4
 v4:=Tryz.zeroValue4
 t5:=Tryz.underlying5
 a5:=Tryz.isAgg5
 z5:=Tryz.sizeOf5
 v5:=Tryz.zeroValue5
 t9:=Tryz.underlying9
 a9:=Tryz.isAgg9
 z9:=Tryz.sizeOf9
 v9:=Tryz.zeroValue9
 t20:=Tryz.underlying20
 a20:=Tryz.isAgg20
 z20:=Tryz.sizeOf20
 v20:=Tryz.zeroValue20
 t37:=Tryz.underlying105
 a37:=Tryz.isAgg105
 z37:=Tryz.sizeOf105
 v37:=Tryz.zeroValue105
 t46:=Tryz.underlying114
 a46:=Tryz.isAgg114
 z46:=Tryz.sizeOf114
 v46:=Tryz.zeroValue114
 t51:=Tryz.underlying145
 a51:=Tryz.isAgg145
 z51:=Tryz.sizeOf145
 v51:=Tryz.zeroValue145
 t53:=Tryz.underlying50
 a53:=Tryz.isAgg50
 z53:=Tryz.sizeOf50
 v53:=Tryz.zeroValue50
 t70:=Tryz.underlying118
 a70:=Tryz.isAgg118
 z70:=Tryz.sizeOf118
 v70:=Tryz.zeroValue118
 t72:=Tryz.underlying120
 a72:=Tryz.isAgg120
 z72:=Tryz.sizeOf120
 v72:=Tryz.zeroValue120
 t75:=Tryz.underlying123
 a75:=Tryz.isAgg123
 z75:=Tryz.sizeOf123
 v75:=Tryz.zeroValue123
 t76:=Tryz.underlying124
 a76:=Tryz.isAgg124
 z76:=Tryz.sizeOf124
 v76:=Tryz.zeroValue124
 t109:=Tryz.underlying115
 a109:=Tryz.isAgg115
 z109:=Tryz.sizeOf115
 v109:=Tryz.zeroValue115
 t127:=Tryz.underlying150
 a127:=Tryz.isAgg150
 z127:=Tryz.sizeOf150
 v127:=Tryz.zeroValue150
 t146:=Tryz.underlying146
 a146:=Tryz.isAgg146
 z146:=Tryz.sizeOf146
 v146:=Tryz.zeroValue146
 t148:=Tryz.underlying148
 a148:=Tryz.isAgg148
 z148:=Tryz.sizeOf148
 v148:=Tryz.zeroValue148
 t164:=Tryz.underlying163
 a164:=Tryz.isAgg163
 z164:=Tryz.sizeOf163
 v164:=Tryz.zeroValue163 }
def _root_.Go.Proofs.Tryz.lays283_ren:Go.Shelf.Ren:=⟨fun|283=>134|n=>n,fun|3=>3|9=>9|4=>4|n=>n,fun|n=>n⟩
theorem _root_.Go.Proofs.Tryz.lays283:Go.Proofs.Lays.n283 Tryz.prog Tryz.lays283_ren:={
 mixed:=by kernel_rfl
 f283:=Tryz.func134.trans (congrArg some (by kernel_rfl))
 t3:=Tryz.underlying3
 a3:=Tryz.isAgg3
 z3:=Tryz.sizeOf3
 v3:=Tryz.zeroValue3
 t4:=Tryz.underlying4
 a4:=Tryz.isAgg4
 z4:=Tryz.sizeOf4
 v4:=Tryz.zeroValue4
 t9:=Tryz.underlying9
 a9:=Tryz.isAgg9
 z9:=Tryz.sizeOf9
 v9:=Tryz.zeroValue9 }
def _root_.Go.Proofs.Tryz.lays284_ren:Go.Shelf.Ren:=⟨fun|284=>135|129=>141|317=>140|318=>142|n=>n,fun|53=>50|3=>3|212=>176|0=>0|4=>4|46=>114|5=>5|9=>9|n=>n,fun|17=>5|n=>n⟩
theorem _root_.Go.Proofs.Tryz.lays284:Go.Proofs.LaysM.n284 Tryz.prog Tryz.lays284_ren:={
 mixed:=by kernel_rfl
 f129:=Tryz.func141.trans (congrArg some (by kernel_rfl))
 f284:=Tryz.func135.trans (congrArg some (by kernel_rfl))
 f317:=Tryz.func140.trans (congrArg some (by kernel_rfl))
 f318:=Tryz.func142.trans (congrArg some (by kernel_rfl))
 t0:=Tryz.underlying0
 a0:=Tryz.isAgg0
 z0:=Tryz.sizeOf0
 v0:=Tryz.zeroValue0
 t3:=Tryz.underlying3
 a3:=Tryz.isAgg3
 z3:=Tryz.sizeOf3
 v3:=Tryz.zeroValue3
 t4:=Tryz.underlying4
 a4:=Tryz.isAgg4
 z4:=Tryz.sizeOf4
 v4:=Tryz.zeroValue4
 t5:=Tryz.underlying5
 a5:=Tryz.isAgg5
 z5:=Tryz.sizeOf5
 v5:=Tryz.zeroValue5
 t9:=Tryz.underlying9
 a9:=Tryz.isAgg9
 z9:=Tryz.sizeOf9
 v9:=Tryz.zeroValue9
 t46:=Tryz.underlying114
 a46:=Tryz.isAgg114
 z46:=Tryz.sizeOf114
 v46:=Tryz.zeroValue114
 t53:=Tryz.underlying50
 a53:=Tryz.isAgg50
 z53:=Tryz.sizeOf50
 v53:=Tryz.zeroValue50
 t212:=Tryz.underlying176
 a212:=Tryz.isAgg176
 z212:=Tryz.sizeOf176
 v212:=Tryz.zeroValue176
 g17:=by kernel_rfl
 i0:=by kernel_rfl
 i3:=by kernel_rfl
 i4:=by kernel_rfl
 i5:=by kernel_rfl
 i9:=by kernel_rfl
 i46:=by kernel_rfl
 i53:=by kernel_rfl
 i212:=by kernel_rfl
 m17:=by kernel_rfl }
def _root_.Go.Proofs.Tryz.lays285_ren:Go.Shelf.Ren:=⟨fun|285=>136|n=>n,fun|37=>105|53=>50|3=>3|4=>4|51=>145|9=>9|5=>5|0=>0|n=>n,fun|n=>n⟩
theorem _root_.Go.Proofs.Tryz.lays285:Go.Proofs.Lays.n285 Tryz.prog Tryz.lays285_ren:={
 mixed:=by kernel_rfl
 f285:=Tryz.func136.trans (congrArg some (by kernel_rfl))
 t0:=Tryz.underlying0
 a0:=Tryz.isAgg0
 z0:=Tryz.sizeOf0
 v0:=Tryz.zeroValue0
 t3:=Tryz.underlying3
 a3:=Tryz.isAgg3
 z3:=Tryz.sizeOf3
 v3:=Tryz.zeroValue3
 t4:=Tryz.underlying4
 a4:=Tryz.isAgg4
 z4:=Tryz.sizeOf4
 v4:=Tryz.zeroValue4
 t5:=Tryz.underlying5
 a5:=Tryz.isAgg5
 z5:=Tryz.sizeOf5
 v5:=Tryz.zeroValue5
 t9:=Tryz.underlying9
 a9:=Tryz.isAgg9
 z9:=Tryz.sizeOf9
 v9:=Tryz.zeroValue9
 t37:=Tryz.underlying105
 a37:=Tryz.isAgg105
 z37:=Tryz.sizeOf105
 v37:=Tryz.zeroValue105
 t51:=Tryz.underlying145
 a51:=Tryz.isAgg145
 z51:=Tryz.sizeOf145
 v51:=Tryz.zeroValue145
 t53:=Tryz.underlying50
 a53:=Tryz.isAgg50
 z53:=Tryz.sizeOf50
 v53:=Tryz.zeroValue50 }
set_option maxRecDepth 1000000
set_option maxHeartbeats 16000000
open Go.ChangeShapes Go.WideShapes Go.ChangeAt Go.RowKit Go.Maps Go.Sort
theorem small12 (i:Nat) (h:i<100) (w:World):Calls Tryz.prog 134 #[.int .i64 (i:Int)] w fun e w'=>e = .returned (.string (shD i))/\w'=w :=
 Any.internal_strconv_small Tryz.lays283 i h w
theorem numDigits12 (u:Nat) (h1:1<=u) (h2:u<18446744073709551616) (w:World) (htab:Lib.TabIs Tryz.prog w "internal/strconv.uint64pow10" .u64 Lib.pow10Tab) :
  Calls Tryz.prog 135 #[.int .u64 (u:Int)] w fun e w'=>e = .returned (.int .i64 (Lib.nDigits u))/\w'=w :=
 Any.internal_strconv_numDigits Tryz.lays284 u h1 h2 w htab
theorem FormatUint_in (u:Nat) (hu64:u<18446744073709551616) (w:World) (htab:Lib.TabIs Tryz.prog w "internal/strconv.uint64pow10" .u64 Lib.pow10Tab) :
  Calls Tryz.prog 126 #[.int .u64 (u:Int),.int .i64 10] w fun e w'=>e = .returned (.string (shD u))/\Below w.heap.size w w':=by
 by_cases hs:u<100
 ·have hi:(u:Int)<100:=by omega
  have hw:IntKind.i64.wrap (u:Int)=u:=by rw[IntKind.wrap_i64];omega
  go_enter Tryz.func126,Tryz.ntmps126
  go_wp2_with (go_at_call 134;refine(small12 u hs _).mono ?_;rintro _ _ ⟨rfl,rfl⟩)
  go_ret
  exact⟨rfl,Below.refl _ _⟩
 ·have hu1:1<=u:=by omega
  have hnd20:=nd20 hu64
  have hnd1:=Lib.nDigits_pos u
  have hb3:Lib.nDigits u<=23:=by omega
  have hal:Tryz.prog.arrayLen 167=24:=by simp[Program.arrayLen,Tryz.underlying167]
  have hsl1:∀ W,(Instr.sliceAt 167 (.pointer (some ⟨w.heap.size,0,none⟩)) none (some (.int .i64 (Lib.nDigits u:Int))) none).run Tryz.prog W = .ok (.slice (some ⟨w.heap.size,0,none⟩) (Lib.nDigits u) 24) W:=fun W=>by
   rw[run_sliceAt_array_h W 167 ⟨w.heap.size,0,none⟩ (by simp[Program.arrayLen,Program.elem,Tryz.underlying167]) .i64 (Lib.nDigits u:Int) (by omega) (by rw[hal];omega)]
   go_simp
  have hH0:=Lib.holds_zero0 w 167 (Lib.nDigits u) (by omega)
  have hfmt:Calls Tryz.prog 136 #[.slice (some ⟨w.heap.size,0,none⟩) (Array.replicate (Lib.nDigits u) (0:UInt8)).size 24,.int .u64 (u:Int)] (w.alloc (.cells Lib.zeros24 167)) fun e w'=>e = .returned (.tuple #[])/\∃ (n v':Nat) (dk:Array UInt8),w'=(putRow (fun (b:UInt8)=>Value.int .u8 (b.toNat:Int)) (w.alloc (.cells Lib.zeros24 167)) w.heap.size 0 dk).drewN n/\Lib.FmtInv (Array.replicate (Lib.nDigits u) (0:UInt8)).size u 0 v' dk :=
   Any.internal_strconv_formatBase10 Tryz.lays285 w.heap.size 0 24 u (Array.replicate (Lib.nDigits u) 0) (w.alloc (.cells Lib.zeros24 167)) hH0 (by rw[Array.size_replicate];exact Lib.lt_pow_nDigits u) hu64 (by rw[Array.size_replicate];omega)
  rw[Array.size_replicate] at hfmt
  have HH0:Hid _:=⟨hH0⟩
  have hge:decide ((u:Int)<100)=false:=decide_eq_false (by omega)
  clear hH0 hal
  go_enter Tryz.func126,Tryz.ntmps126
  go_upto_region 7 with (first
   | (go_at_call 135;refine(numDigits12 u hu1 hu64 _ (Lib.tabIs_alloc htab _)).mono ?_;rintro e w' ⟨rfl,rfl⟩)
   | (go_at_call 136;refine hfmt.mono ?_;rintro e w' ⟨rfl,k,v',dk,rfl,hF⟩))
  have hcv:(convert 105 9 (.slice (some ⟨w.heap.size,0,none⟩) (Lib.nDigits u) 24)).run Tryz.prog ((putRow (fun (b:UInt8)=>Value.int .u8 (b.toNat:Int)) (w.alloc (.cells Lib.zeros24 167)) w.heap.size 0 dk).drewN k) = .ok (.string (shD u)) ((putRow (fun (b:UInt8)=>Value.int .u8 (b.toNat:Int)) (w.alloc (.cells Lib.zeros24 167)) w.heap.size 0 dk).drewN k):=by
   have h:=run_convert_bytes_back (P:=Tryz.prog) ((putRow (fun (b:UInt8)=>Value.int .u8 (b.toNat:Int)) (w.alloc (.cells Lib.zeros24 167)) w.heap.size 0 dk).drewN k) 105 9 5 ⟨w.heap.size,0,none⟩ 24 (Lib.decDigits u) Tryz.underlying105 Tryz.underlying5 Tryz.underlying9 (fun j hj=>by
    rw[Lib.row_is_numeral hF j hj,Lib.add_plain,World.cell?_drewN]
    exact cell?_putRow (fun (b:UInt8)=>Value.int .u8 (b.toNat:Int)) _ w.heap.size 0 _ dk HH0.out (by rw[hF.size,Array.size_replicate]) j (by rw[hF.size];rw[Lib.decDigits_length] at hj;exact hj))
   rw[Lib.decDigits_length] at h
   exact h
  obtain⟨os',_,e⟩:=putRow_grow_new (fun (b:UInt8)=>Value.int .u8 (b.toNat:Int)) w #[.cells Lib.zeros24 167] w.heap.size 0 dk (Nat.le_refl _)
  have hB:Hid (Below w.heap.size w ((putRow (fun (b:UInt8)=>Value.int .u8 (b.toNat:Int)) (w.alloc (.cells Lib.zeros24 167)) w.heap.size 0 dk).drewN k)):=⟨by
   rw[alloc_eq_grow,e]
   exact Lib.below_grow _ w (Nat.le_refl _) k os'⟩
  clear e hF HH0 hfmt
  go_wp2_with fail
  go_ret
  exact⟨rfl,hB.out⟩
theorem FormatUint12 (u:Nat) (hu64:u<18446744073709551616) (w:World) (htab:Lib.TabIs Tryz.prog w "internal/strconv.uint64pow10" .u64 Lib.pow10Tab) :
  Calls Tryz.prog 89 #[.int .u64 (u:Int),.int .i64 10] w fun e w'=>e = .returned (.string (shD u))/\Below w.heap.size w w':=by
 have c:=FormatUint_in u hu64 w htab
 go_enter Tryz.func89,Tryz.ntmps89
 go_wp2_with (go_at_call 126;refine c.mono ?_;rintro _ w1 ⟨rfl,hb⟩;replace hb:=Hid.mk hb)
 go_ret
 exact⟨rfl,hb.out⟩
theorem Itoa12 (n:Int) (h0:0<=n) (h1:n<=65535) (w:World) (htab:Lib.TabIs Tryz.prog w "internal/strconv.uint64pow10" .u64 Lib.pow10Tab):Calls Tryz.prog 88 #[.int .i64 n] w fun e w'=>e = .returned (.string (shI n))/\Below w.heap.size w w':=by
 obtain⟨m,rfl⟩:∃ m:Nat,n=m:=⟨n.toNat,by omega⟩
 have c:Calls Tryz.prog 88 #[.int .i64 (m:Int)] w fun e w'=>e = .returned (.string ⟨(Lib.itoa (m:Int)).toArray⟩)/\∃ k os,w'=grow (w.drewN k) os:=Any.strconv_Itoa Tryz.lays171 (m:Int) (by omega) (by omega) w htab
 refine c.mono fun e w' ⟨h1,k,os,h2⟩=>⟨?_,by rw[h2];exact Lib.below_grow _ w (Nat.le_refl _) k os⟩
 rw[h1,Lib.itoa_nonneg]
 unfold shI shD
 rw[Int.toNat_natCast]
theorem shSizeB:(Tryz.prog.info? 120).map (·.size)=some 2:=by kernel_rfl
theorem shLiesB:liesAt Tryz.prog Tryz.prog.depth 120 (2 / Tryz.prog.cellsOf 120) 0 120 1=true:=by kernel_rfl
theorem shInfoByte:(Tryz.prog.info? 5).map (fun i=>(i.zero,i.size,i.bytes))=some (some (.int .u8 0),1,1):=by kernel_rfl
theorem shNeB5:120≠5:=by decide
theorem Repeat12 (c:Nat) (hc:c<=1000000000000) (w:World):Calls Tryz.prog 49 #[.string ⟨#[32,32]⟩,.int .i64 (c:Int)] w fun e w'=>e = .returned (.string (shR c))/\Below w.heap.size w w' :=
 Any.strings_Repeat Tryz.lays105 ⟨⟨shSizeB,shLiesB⟩,Tryz.underlying5,by intro w;kernel_rfl,by intro w;kernel_rfl,by intro w;kernel_rfl,shInfoByte,by kernel_rfl,by kernel_rfl,shNeB5⟩ ⟨#[32,32]⟩ c w (by omega) (by show 2*c<=_;omega)
theorem Join12 (bk o c:Nat) (xs:List ByteArray) (w:World) (hcells:∀ (j:Nat) x,xs[j]?=some x->w.cell? ⟨bk,o+j,none⟩=some (.string x)) (hbk:bk<w.heap.size) (hN:xs.length<=7) (hcap:xs.length<=c) (hlen:(shJ xs).size<=140737488355328) :
  Calls Tryz.prog 50 #[.slice (some ⟨bk,o,none⟩) xs.length c,.string ⟨#[32]⟩] w fun e w'=>e = .returned (.string (shJ xs))/\Below w.heap.size w w' :=
 Any.strings_Join Tryz.lays156 ⟨⟨shSizeB,shLiesB⟩,Tryz.underlying5,by intro w;kernel_rfl,by intro w;kernel_rfl,by intro w;kernel_rfl,shInfoByte,by kernel_rfl,by kernel_rfl,shNeB5⟩ bk o c xs ⟨#[32]⟩ w hcells hbk (by omega) hcap (by simpa[shJ,ByteArray.size] using hlen)
theorem nbel (w:World) (o:Obj):Below w.heap.size w (w.alloc o):=(Below.refl _ _).alloc (Nat.le_refl _) _
theorem thnK (w:World) (o:Obj):(w.alloc o).heap[w.heap.size]?=some o:=by
 show (w.heap.push o)[w.heap.size]?=some o
 simp
def cI (n:Nat):Value:=.int .i64 (n:Int)
def NRow (W:World) (base:Nat) (v:Value) (ns:List Nat):Prop:=W.ownsRow base 3 1 v ns.length (ns.map cI)
theorem own_lower {w:World} {H H' n z:Nat} {ty:TypeId} {v:Value} {xs:List Value} (h:w.ownsRow H ty z v n xs) (hH:H'<=H):w.ownsRow H' ty z v n xs:=by
 refine⟨h.1,?_⟩
 rcases h.2 with h0|⟨g,cap,cur,e,hb',r⟩
 ·exact .inl h0
 ·exact .inr ⟨g,cap,cur,e,Nat.le_trans hH hb',r⟩
theorem own_keep {W W':World} {base:Nat} {e:TypeId} {s:Nat} {v:Value} {n:Nat} {xs:List Value} (h:W.ownsRow base e s v n xs) (hb:Below W.heap.size W W'):W'.ownsRow base e s v n xs:=by
 refine⟨h.1,?_⟩
 rcases h.2 with h0|⟨g,cap,cur,rfl,hb',hg,r⟩
 ·exact .inl h0
 ·exact .inr ⟨g,cap,cur,rfl,hb',(hb.block g (Array.getElem?_eq_some_iff.1 hg).1).trans hg,r⟩
theorem NRow.low {W:World} {base base':Nat} {v:Value} {ns:List Nat} (h:NRow W base v ns) (hB:base'<=base):NRow W base' v ns:=own_lower h hB
theorem NRow.nil (W:World) (base:Nat):NRow W base (.slice none 0 0) []:=World.ownsRow_nil _ _ _ 1
theorem NRow.shape {W:World} {base:Nat} {v:Value} {ns:List Nat} (h:NRow W base v ns):∃ pp cp,v = .slice pp ns.length cp/\∀ (i n:Nat),ns[i]?=some n->∃ g,pp=some ⟨g,0,none⟩/\g<W.heap.size/\W.cell? ⟨g,i,none⟩=some (.int .i64 (n:Int)):=by
 rcases h.2 with ⟨hv,hn⟩|⟨g,cap,cur,hv,_,hg,hc,_,hs,ht⟩
 ·refine⟨none,0,by rw[hv,hn],fun i n hi=>?_⟩
  rw[List.eq_nil_of_length_eq_zero hn] at hi
  cases hi
 ·refine⟨_,_,hv,fun i n hi=>⟨g,rfl,(Array.getElem?_eq_some_iff.1 hg).1,?_⟩⟩
  have hi2:(ns.map cI)[i]?=some (.int .i64 (n:Int)):=by rw[List.getElem?_map,hi];rfl
  rw[<- ht] at hi2
  rw[List.getElem?_take] at hi2
  split at hi2
  ·simp only[World.cell?,hg]
   rw[<- hi2,Array.getElem?_toList]
   rfl
  ·cases hi2
theorem grown_below {H:Nat} {w Wp w':World} {v:Value} (hW:Below w.heap.size w Wp) (q2:Wp.grownBy w' v.ownBlock) (hH:H<=w.heap.size) (hv:∀ k,v.ownBlock=some k->H<=k):Below H w w' :=
 ⟨q2.os.trans hW.os,q2.tape.trans hW.tape,q2.output.trans hW.output,Nat.le_trans hW.size q2.size,fun j hj=>(q2.block j (by have:=hW.size;omega) (fun e=>by have:=hv j e.symm;omega)).trans (hW.block j (by omega))⟩
theorem infoInt:(Tryz.prog.info? 3).map (fun i=>(i.zero,i.size,i.bytes))=some (some (.int .i64 0),1,8):=by kernel_rfl
theorem n_ap {wr:World} {base:Nat} {v:Value} {ns:List Nat} (k:Nat) (h:NRow wr base v ns) (hl:ns.length+1<=977343669134) (hb:base<=wr.heap.size) :
  ∃ v' w',(∀ ty,(Builtin.append_ #[45,45] ty #[v,.slice (some ⟨wr.heap.size,0,none⟩) 1 1]).run Tryz.prog (wr.alloc (.cells #[.int .i64 (k:Int)] 3)) = .ok v' w')/\(NRow w' base v' (ns++[k])/\Below base wr w'):=by
 obtain⟨i0,hi,hz⟩:=Option.map_eq_some_iff.1 infoInt
 simp only[Prod.mk.injEq] at hz
 have h1:=own_keep h (nbel wr (.cells #[.int .i64 (k:Int)] 3))
 have hN:∀ (j:Nat) (u:Value),[Value.int .i64 (k:Int)][j]?=some u->(wr.alloc (.cells #[.int .i64 (k:Int)] 3)).cell? ((⟨wr.heap.size,0,none⟩:Addr).add j)=some u:=World.news_of_block (thnK wr _)
 have hr:=run_append_own_at (P:=Tryz.prog) (wr.alloc (.cells #[.int .i64 (k:Int)] 3)) base 45 0 3 i0 _ 1 8 Tryz.underlying45 hi hz.1 hz.2.1 hz.2.2 rfl (by decide) v ns.length (ns.map cI) h1 ⟨wr.heap.size,0,none⟩ 1 1 [.int .i64 (k:Int)] rfl hN (fun u hu=>by rw[List.mem_singleton.1 hu];rfl) (by simp only[maxLen];omega) (by omega) (by simp;omega)
 obtain⟨v',w',h2,h3,h4,_⟩:=hr
 refine⟨v',w',fun _=>h2,?_,grown_below (nbel _ _) h4 hb (fun j hj=>(h.lt j hj).1)⟩
 unfold NRow
 rw[List.length_append,List.map_append]
 exact h3
theorem ap_step {P:Program} {w:World} {ops:Array Oper} {rest:List Oper} {o:Oper} {a:Act} {Q:Exit->Act->World->Prop} (hgd:o.guard=none) (s x:Operand) (t tx:TypeId)
  (ho:o.op = .call { callee:=.builtin .append,args:=#[s,x],argTypes:=#[t,tx] }) (sv xv:Value) (hs:a.eval s=sv) (hx:a.eval x=xv) (Post:Value->World->Prop)
  (hrun:∃ v w',(∀ ty,(Builtin.append_ #[t,tx] ty #[sv,xv]).run P w = .ok v w')/\Post v w')
  (h:∀ v w',Post v w'->wpList P ops Q rest (a.put o.dst v) w'):wpList P ops Q (o::rest) a w:=by
 obtain⟨v,w',hr,hp⟩:=hrun
 refine wpList_plain hgd fun _ hK=>?_
 unfold Oper.wp execOp
 simp only[ho,resolve,invoke,builtin,Sem.run_bind,Sem.run_pure,Result.andThen_ok,List.map_toArray,List.map_cons,List.map_nil,hs,hx,hr]
 exact hK _ _ (h v w' hp)
def cS (s:ByteArray):Value:=.string s
def SRow (W:World) (base:Nat) (v:Value) (ss:List ByteArray):Prop:=W.ownsRow base 9 1 v ss.length (ss.map cS)
theorem infoStr:(Tryz.prog.info? 9).map (fun i=>(i.zero,i.size,i.bytes))=some (some (.string ⟨#[]⟩),1,16):=by kernel_rfl
theorem SRow.below {W W':World} {base:Nat} {v:Value} {ss:List ByteArray} (h:SRow W base v ss) (hb:Below W.heap.size W W'):SRow W' base v ss:=own_keep h hb
theorem SRow.low {W:World} {base base':Nat} {v:Value} {ss:List ByteArray} (h:SRow W base v ss) (hB:base'<=base):SRow W base' v ss:=own_lower h hB
theorem SRow.nil (W:World) (base:Nat):SRow W base (.slice none 0 0) []:=World.ownsRow_nil _ _ _ 1
theorem SRow.shape {W:World} {base:Nat} {v:Value} {ss:List ByteArray} (h:SRow W base v ss):∃ pp cp,v = .slice pp ss.length cp/\ss.length<=cp/\∀ (i:Nat) (s:ByteArray),ss[i]?=some s->∃ g,pp=some ⟨g,0,none⟩/\base<=g/\g<W.heap.size/\W.cell? ⟨g,i,none⟩=some (.string s):=by
 rcases h.2 with ⟨hv,hn⟩|⟨g,cap,cur,hv,hbs,hg,hc,_,hs,ht⟩
 ·refine⟨none,0,by rw[hv,hn],by omega,fun i n hi=>?_⟩
  rw[List.eq_nil_of_length_eq_zero hn] at hi
  cases hi
 ·refine⟨_,_,hv,hc,fun i n hi=>⟨g,rfl,hbs,(Array.getElem?_eq_some_iff.1 hg).1,?_⟩⟩
  have hi2:(ss.map cS)[i]?=some (.string n):=by rw[List.getElem?_map,hi];rfl
  rw[<- ht] at hi2
  rw[List.getElem?_take] at hi2
  split at hi2
  ·simp only[World.cell?,hg]
   rw[<- hi2,Array.getElem?_toList]
   rfl
  ·cases hi2
theorem SRow.new (W:World) (ss:List ByteArray) (h0:ss.length<=8):SRow (W.alloc (.cells (ss.map cS).toArray 9)) W.heap.size (.slice (some ⟨W.heap.size,0,none⟩) ss.length ss.length) ss :=
 ⟨by rw[List.length_map,Nat.mul_one],.inr ⟨W.heap.size,ss.length,(ss.map cS).toArray,rfl,Nat.le_refl _,thnK _ _,Nat.le_refl _,by unfold maxLen;omega,by simp,by rw[List.toList_toArray,List.take_of_length_le (by simp)]⟩⟩
theorem str_ap {W:World} {base:Nat} {v:Value} {ss:List ByteArray} (h:SRow W base v ss) (ad:Addr) (cs:List ByteArray) (cap:Nat) (hN:∀ (j:Nat) u,cs[j]?=some u->W.cell? (ad.add j)=some (.string u)) (hl:ss.length+cs.length<=1000000000000) (hb:base<=W.heap.size) :
  ∃ v' w',(∀ ty,(Builtin.append_ #[35,35] ty #[v,.slice (some ad) cs.length cap]).run Tryz.prog W = .ok v' w')/\(SRow w' base v' (ss++cs)/\Below base W w'/\∀ j,j<W.heap.size->v.ownBlock≠some j->w'.heap[j]?=W.heap[j]?):=by
 obtain⟨i0,hi,hz⟩:=Option.map_eq_some_iff.1 infoStr
 simp only[Prod.mk.injEq] at hz
 have hr:=run_append_own_at (P:=Tryz.prog) W base 35 0 9 i0 _ 1 16 Tryz.underlying35 hi hz.1 hz.2.1 hz.2.2 rfl (by decide) v ss.length (ss.map cS) h ad cs.length cap (cs.map cS) (by rw[List.length_map,Nat.mul_one]) (fun j u hu=>by
   rw[List.getElem?_map] at hu
   obtain⟨s,hs,rfl⟩:=Option.map_eq_some_iff.1 hu
   exact hN j s hs) (fun u hu=>by obtain⟨s,_,rfl⟩:=List.mem_map.1 hu;rfl) (by simp only[maxLen];omega) (by omega) (by omega)
 obtain⟨v',w',h2,h3,h4,_⟩:=hr
 refine⟨v',w',fun _=>h2,?_,⟨h4.os,h4.tape,h4.output,h4.size,fun j hj=>h4.block j (by omega) fun e=>by have:=(h.lt j e.symm).1;omega⟩,fun j hj hn=>h4.block j hj fun e=>hn e.symm⟩
 unfold SRow
 rw[List.length_append,List.map_append]
 exact h3
theorem words_any (k nm:ByteArray) (ns:List Int) (pn:Option Addr) (cn:Nat) (w:World) (hc:∀ (j:Nat) x,ns[j]?=some x->∃ gn,pn=some ⟨gn,0,none⟩/\gn<w.heap.size/\w.cell? ⟨gn,j,none⟩=some (.int .i64 x)) (hb:∀ x∈ns,0<=x/\x<=65535) (hlen:ns.length<=4) (tb:ShTb w) :
  Calls Tryz.prog 86 #[.string k,.string nm,.slice pn ns.length cn] w fun e w'=>∃ v,e = .returned v/\SRow w' w.heap.size v ([k,nm]++ns.map shI)/\Below w.heap.size w w':=by
 obtain⟨W0,hW0⟩:∃ W,W=w.alloc (.cells ([k,nm].map cS).toArray 9):=⟨_,rfl⟩
 have r0:SRow W0 w.heap.size (.slice (some ⟨w.heap.size,0,none⟩) 2 2) [k,nm]:=hW0▸SRow.new w [k,nm] (by simp)
 have b0:Below w.heap.size w W0:=hW0▸nbel w _
 have hW:_=W0:=hW0.symm
 simp only[List.map_cons,List.map_nil,cS] at hW
 replace r0:=Hid.mk r0
 replace b0:=Hid.mk b0
 replace hc:=Hid.mk hc
 replace hb:=Hid.mk hb
 replace tb:=Hid.mk tb
 have hlI:(ns.length:Int)<=4:=by omega
 clear hW0
 go_enter Tryz.func86,Tryz.ntmps86
 go_wp2_with fail
 go_loopw [15,7] (fun q u wr=>∃ (j:Nat) (v:Value),j<=ns.length/\q = .int .i64 (j:Int)/\v=u/\Hid (SRow wr w.heap.size v ([k,nm]++(ns.take j).map shI)/\Below w.heap.size w wr)) (fun q _ _=>ns.length-(RowKit.intOf q).toNat)
 case atStart=>exact⟨0,_,Nat.zero_le _,by go_num,rfl,⟨r0.out,b0.out⟩⟩
 case round =>
  clear hW r0 b0
  obtain⟨j,v,hj,rfl,rfl,hI⟩:=hrel
  by_cases hlt:j<ns.length
  ·obtain⟨x,hx⟩:∃ x,ns[j]?=some x:=⟨ns[j],List.getElem?_eq_getElem hlt⟩
   have hji:(j:Int)<ns.length:=by omega
   obtain⟨gn,rfl,hgn,hxc0⟩:=hc.out j x hx
   have hxc:wr.cell? ⟨gn,j,none⟩=some (.int .i64 x):=(hI.out.2.cell (p:=⟨gn,j,none⟩) hgn).trans hxc0
   have hxb:=hb.out x (List.mem_of_getElem? hx)
   have cI:=Itoa12 x hxb.1 hxb.2 wr (tb.out.t wr hI.out.2)
   have htk:(ns.take (j+1)).map shI=(ns.take j).map shI++[shI x]:=by rw[List.take_add_one,hx];simp
   have hA:Hid (∀ w1,Below wr.heap.size wr w1->∃ v' w',(∀ ty,(Builtin.append_ #[35,35] ty #[v,.slice (some ⟨w1.heap.size,0,none⟩) 1 1]).run Tryz.prog (w1.alloc (.cells #[.string (shI x)] 9)) = .ok v' w')/\Hid (SRow w' w.heap.size v' ([k,nm]++(ns.take (j+1)).map shI)/\Below w.heap.size w w')):=⟨fun w1 h1=>by
    have q1:=(hI.out.1.below h1).below (nbel w1 (.cells #[.string (shI x)] 9))
    have hs:=hI.out.2.size
    have h1s:=h1.size
    obtain⟨v',w',e1,e2,e3,-⟩:=str_ap q1 ⟨w1.heap.size,0,none⟩ [shI x] 1 (fun i u hu=>World.news_of_block (thnK w1 (.cells #[.string (shI x)] 9)) i (.string u) (by
     cases i with
     | zero=>simpa using hu
     | succ i=>simp at hu)) (by simp;omega) (by rw[World.size_alloc];omega)
    refine⟨v',w',e1,⟨by rw[htk,<- List.append_assoc];exact e2,?_⟩⟩
    exact hI.out.2.trans ((h1.mono hs).trans (((nbel w1 _).mono (by omega)).trans e3))⟩
   replace hlt:=Hid.mk hlt
   clear hx htk hxb hI hxc0 hgn
   go_wp2_with (first
    | (go_at_call 88;refine cI.mono ?_;clear cI;rintro _ w1 ⟨rfl,hb1⟩;have hA1:=hA.out w1 hb1;clear hb1 hA)
    | (at_builtin;go_must (refine(ap_step (by rfl) _ _ _ _ (by rfl) _ _ (by rfl) (by rfl) _ hA1 ?_));rintro v8 w8 hF;clear hA1))
   go_roundw
   case rel=>exact⟨j+1,_,by have:=hlt.out;omega,by go_num,rfl,hF⟩
   case measure=>have:=hlt.out;simp[RowKit.intOf];omega
  ·obtain rfl:j=ns.length:=by omega
   have d3:decide ((ns.length:Int)<ns.length)=false:=by simp
   rw[List.take_length] at hI
   clear hc hb tb
   go_wp2_with fail
   go_ret
   exact⟨_,rfl,hI.out⟩
open Go
section
variable {P:Program} {ops:Array Oper} {Q:Exit->Act->World->Prop} {md:Region.Mode} {S:World->Prop} {z:Nat}
def wpAnyF (P:Program) (md:Region.Mode) (ops:Array Oper) (Q:Exit->Act->World->Prop) (S:World->Prop) (z:Nat):Nat->Array Bool->Act->World->Prop
 | 0,listed,a,w=>Region.ready md ops listed=[]/\Q .normal a w
 | fuel+1,listed,a,w =>
  (Region.ready md ops listed=[]->Q .normal a w) /\
  ∀ i∈Region.ready md ops listed,wpOp P ops Q i (fun a' w'=>(i≠z->S w')/\wpAnyF P md ops Q S z fuel (listed.setIfInBounds i true) a' w') a w
theorem wpAny_of_F:∀ (fuel:Nat) (listed:Array Bool) (a:Act) (w:World),wpAnyF P md ops Q S z fuel listed a w->wpAny P md ops Q fuel listed a w
 | 0,_,_,_,h=>h
 | fuel+1,_,_,_,h=>⟨h.1,fun i hi=>wpOp_mono (fun a' w' h'=>wpAny_of_F fuel _ a' w' h'.2) (h.2 i hi)⟩
def waitsB (md:Region.Mode) (ops:Array Oper) (z i:Nat):Bool:=match ops[z]? with
 | some o=>o.after.any fun e=>Region.binds md e&&e.on==i
 | none=>true
theorem not_ready {i:Nat} {listed:Array Bool} (hw:waitsB md ops z i=true) (hi:i∈Region.ready md ops listed):z∉Region.ready md ops listed:=fun hz=>by
 obtain⟨_,oz,hoz,hall⟩:=mem_ready.1 hz
 unfold waitsB at hw
 rw[hoz] at hw
 obtain⟨e,he,hb⟩:=Array.any_eq_true'.1 hw
 simp only[Bool.and_eq_true,beq_iff_eq] at hb
 have h1:=hall e he hb.1
 rw[hb.2] at h1
 have h0:=(mem_ready.1 hi).1
 rcases Nat.lt_or_ge i listed.size with h' | h'
 ·simp[h'] at h0 h1;rw[h0] at h1;cases h1
 ·simp[Array.getElem?_eq_none h'] at h1
theorem wpAnyF_first {i:Nat} {oi:Oper} {v:Value} (hi:ops[i]?=some oi) (hsel:∀ (j:Nat) (o:Oper) cs b,ops[j]?=some o->o.op ≠ .select cs b)
  (hQ:∀ c a w,Q (.panic c) (a.put oi.dst v) w->Q (.panic c) a w) (hw:waitsB md ops z i=true) (hiz:i≠z) :
  ∀ (fuel:Nat) (listed:Array Bool) (a:Act) (w:World),
   (∀ j oj,ops[j]?=some oj->j≠i->listed.getD j true=false->(∀ e∈oj.after,Region.binds md e=true->e.on≠i)->oi.apart ops oj=true) ->
   i∈Region.ready md ops listed->YieldsIf P ops S oi v a->S w ->
   wpAnyF P md ops Q S z fuel (listed.setIfInBounds i true) (a.put oi.dst v) w->wpAnyF P md ops Q S z (fuel+1) listed a w:=by
 intro fuel
 induction fuel with
 | zero =>
  intro listed a w _ hr hy hS H
  refine⟨fun h=>(by rw[h] at hr;cases hr),fun j hj=>?_⟩
  by_cases hji:j=i
  ·subst hji;exact hy.wpOp hi hS ⟨fun _=>hS,H⟩
  ·have:=ready_mono hj hji
   rw[H.1] at this
   cases this
 | succ fuel ih =>
  intro listed a w hfree hr hy hS H
  refine⟨fun h=>(by rw[h] at hr;cases hr),fun j hj=>?_⟩
  by_cases hji:j=i
  ·subst hji;exact hy.wpOp hi hS ⟨fun _=>hS,H⟩
  ·have hjz:j≠z:=fun e=>not_ready hw hr (e▸hj)
   have h1:=H.2 j (ready_mono hj hji)
   obtain⟨hjun,oj,hoj,hall⟩:=mem_ready.1 hj
   have hnot:∀ e∈oj.after,Region.binds md e=true->e.on≠i:=fun e he hb heq=>by
    have h1:=hall e he hb
    have h0:=(mem_ready.1 hr).1
    rw[heq] at h1
    rcases Nat.lt_or_ge i listed.size with h' | h'
    ·simp[h'] at h0 h1;rw[h0] at h1;cases h1
    ·simp[Array.getElem?_eq_none h'] at h1
   have h2:=wpOp_putIf hoj (hfree j oj hoj hji hjun hnot) (fun cs b=>hsel i oi cs b hi) (fun cs b=>hsel j oj cs b hoj) hQ hy h1
   have hfree':∀ k ok,ops[k]?=some ok->k≠i->(listed.setIfInBounds j true).getD k true=false ->
     (∀ e∈ok.after,Region.binds md e=true->e.on≠i)->oi.apart ops ok=true:=fun k ok hk hki hun hno=>by
    refine hfree k ok hk hki ?_ hno
    by_cases hjk:j=k
    ·subst hjk;exact hjun
    ·rw[getD_set_ne true hjk] at hun;exact hun
   refine wpOp_mono (fun a' w' h3=>⟨h3.2.1,ih (listed.setIfInBounds j true) a' w' hfree' (ready_mono hr (Ne.symm hji)) h3.1 (h3.2.1 hjz) ?_⟩) h2
   rw[Array.setIfInBounds_comm _ _ hji]
   exact h3.2.2
theorem wpAnyF_take {i:Nat} {oi:Oper} {v:Value} {fuel:Nat} {listed:Array Bool} {a:Act} {w:World} (hi:ops[i]?=some oi)
  (hs:Region.noSelect ops=true) (hf:Region.free md ops listed i=true) (hr:(Region.ready md ops listed).contains i=true) (hw:(waitsB md ops z i && !(i==z))=true)
  (hQ:∀ c a w,Q (.panic c) (a.put oi.dst v) w->Q (.panic c) a w) (hy:YieldsIf P ops S oi v a) (hS:S w)
  (h:wpAnyF P md ops Q S z fuel (listed.setIfInBounds i true) (a.put oi.dst v) w):wpAnyF P md ops Q S z (fuel+1) listed a w:=by
 simp only[Bool.and_eq_true,Bool.not_eq_true',beq_eq_false_iff_ne] at hw
 exact wpAnyF_first hi (Region.noSelect_spec hs) hQ hw.1 hw.2 fuel listed a w (Region.free_spec hi hf) (by simpa using hr) hy hS h
theorem wpAnyF_done {listed:Array Bool} {a:Act} {w:World} (hr:Region.ready md ops listed=[]) (h:Q .normal a w):∀ fuel,wpAnyF P md ops Q S z fuel listed a w
 | 0=>⟨hr,h⟩
 | _+1=>⟨fun _=>h,by rw[hr];simp⟩
theorem wp_region_F {id:Nat} (z:Nat) (S:World->Prop) {a:Act} {w:World} (hm:P.follows .mixedOrders=true) (hS:S w.drew)
  (h:S w.drew->wpAnyF P .any ops Q S z ops.size (Array.replicate ops.size false) a w.drew):(Code.region id ops true).wp P Q a w :=
 wp_region_any hm (wpAny_of_F _ _ _ _ (h hS))
end
end Go.Proofs.YtjnafpefolgcoaaGreatDoor
