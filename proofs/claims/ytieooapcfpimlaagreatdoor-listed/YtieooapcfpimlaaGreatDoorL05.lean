import Derived.Shelf.LaysM
import Derived.Shelf.Strconv.Itoa3
import Derived.Shelf.Strconv.Itoa4
import Derived.Shelf.LaysC
import Derived.Shelf.Strconv.ParseIntPublic10
import Derived.Lib.ParseIntB
import Derived.Lib.AtoiErrMem
import Derived.Test.YtieooapcfpimlaaGreatDoorL04
namespace Go.Proofs.YtieooapcfpimlaaGreatDoor
set_option maxHeartbeats 1000000
set_option maxRecDepth 100000
open Go.Proofs.Tryz
section
open Go.Shelf
def Tryz.MS:Go.Shelf.Ren:=⟨fun | 171=>7 | 243=>12 | 246=>17 | 283=>21 | 284=>22 | 285=>23 | 286=>24 | 129=>29 | 317=>28 | 318=>30 | 319=>31 | 320=>32 | 337=>38 | 338=>39 | n=>n,fun | 3=>3 | 9=>9 | 2=>2 | 4=>4 | 171=>68 | 0=>0 | 53=>69 | 37=>72 | 5=>5 | 173=>73 | 212=>97 | 51=>48 | 20=>20 | 213=>98 | 46=>100 | 232=>137 | 233=>138 | n=>n,fun | 17=>1 | 18=>3 | 19=>4 | n=>n⟩
theorem Tryz.TM:Go.Proofs.LaysM.n171 prog Tryz.MS:={
 mixed:=by kernel_rfl
 f129:=func29.trans (congrArg some (by kernel_rfl))
 f171:=func7.trans (congrArg some (by kernel_rfl))
 f243:=func12.trans (congrArg some (by kernel_rfl))
 f246:=func17.trans (congrArg some (by kernel_rfl))
 f283:=func21.trans (congrArg some (by kernel_rfl))
 f284:=func22.trans (congrArg some (by kernel_rfl))
 f285:=func23.trans (congrArg some (by kernel_rfl))
 f286:=func24.trans (congrArg some (by kernel_rfl))
 f317:=func28.trans (congrArg some (by kernel_rfl))
 f318:=func30.trans (congrArg some (by kernel_rfl))
 f319:=func31.trans (congrArg some (by kernel_rfl))
 f320:=func32.trans (congrArg some (by kernel_rfl))
 f337:=func38.trans (congrArg some (by kernel_rfl))
 f338:=func39.trans (congrArg some (by kernel_rfl))
 t0:=underlying0
 a0:=Tryz.isAgg0
 z0:=Tryz.sizeOf0
 v0:=Tryz.zeroValue0
 t2:=underlying2
 a2:=Tryz.isAgg2
 z2:=Tryz.sizeOf2
 v2:=Tryz.zeroValue2
 t3:=underlying3
 a3:=Tryz.isAgg3
 z3:=Tryz.sizeOf3
 v3:=Tryz.zeroValue3
 t4:=underlying4
 a4:=Tryz.isAgg4
 z4:=Tryz.sizeOf4
 v4:=Tryz.zeroValue4
 t5:=underlying5
 a5:=Tryz.isAgg5
 z5:=Tryz.sizeOf5
 v5:=Tryz.zeroValue5
 t9:=underlying9
 a9:=Tryz.isAgg9
 z9:=Tryz.sizeOf9
 v9:=Tryz.zeroValue9
 t20:=underlying20
 a20:=Tryz.isAgg20
 z20:=Tryz.sizeOf20
 v20:=Tryz.zeroValue20
 t37:=underlying72
 a37:=Tryz.isAgg72
 z37:=Tryz.sizeOf72
 v37:=Tryz.zeroValue72
 t46:=underlying100
 a46:=Tryz.isAgg100
 z46:=Tryz.sizeOf100
 v46:=Tryz.zeroValue100
 t51:=underlying48
 a51:=Tryz.isAgg48
 z51:=Tryz.sizeOf48
 v51:=Tryz.zeroValue48
 t53:=underlying69
 a53:=Tryz.isAgg69
 z53:=Tryz.sizeOf69
 v53:=Tryz.zeroValue69
 t171:=underlying68
 a171:=Tryz.isAgg68
 z171:=Tryz.sizeOf68
 v171:=Tryz.zeroValue68
 t173:=underlying73
 a173:=Tryz.isAgg73
 z173:=Tryz.sizeOf73
 v173:=Tryz.zeroValue73
 t212:=underlying97
 a212:=Tryz.isAgg97
 z212:=Tryz.sizeOf97
 v212:=Tryz.zeroValue97
 t213:=underlying98
 a213:=Tryz.isAgg98
 z213:=Tryz.sizeOf98
 t232:=underlying137
 a232:=Tryz.isAgg137
 z232:=Tryz.sizeOf137
 v232:=Tryz.zeroValue137
 t233:=underlying138
 a233:=Tryz.isAgg138
 z233:=Tryz.sizeOf138
 v233:=Tryz.zeroValue138
 g17:=by kernel_rfl
 g18:=by kernel_rfl
 g19:=by kernel_rfl
 i0:=by kernel_rfl
 i2:=by kernel_rfl
 i3:=by kernel_rfl
 i4:=by kernel_rfl
 i5:=by kernel_rfl
 i9:=by kernel_rfl
 i20:=by kernel_rfl
 i37:=by kernel_rfl
 i46:=by kernel_rfl
 i51:=by kernel_rfl
 i53:=by kernel_rfl
 i171:=by kernel_rfl
 i173:=by kernel_rfl
 i212:=by kernel_rfl
 i232:=by kernel_rfl
 i233:=by kernel_rfl
 m17:=by kernel_rfl
 m18:=by kernel_rfl
 m19:=by kernel_rfl}
open Go.RowKit Go.Sort Go.Lib in
theorem Tryz.strconv_Itoa(n:Int)(b : -9223372036854775808<=n)(c:n<=9223372036854775807)(w:World)(a:Lib.TabIs prog w "internal/strconv.uint64pow10" .u64 Lib.pow10Tab) :Calls prog 7 #[.int .i64 n] w fun e d=>e=.returned (.string ⟨(Lib.itoa n).toArray⟩)/\∃k f,d=grow (w.drewN k) f:=Any.strconv_Itoa Tryz.TM n b c w a
def Tryz.MR:Go.Shelf.Ren:=⟨fun | 173=>264 | 246=>17 | 283=>21 | 284=>22 | 285=>23 | 286=>24 | 129=>29 | 317=>28 | 318=>30 | 319=>31 | 320=>32 | 337=>38 | 338=>39 | n=>n,fun | 2=>2 | 3=>3 | 9=>9 | 4=>4 | 171=>68 | 0=>0 | 53=>69 | 37=>72 | 5=>5 | 173=>73 | 212=>97 | 51=>48 | 20=>20 | 213=>98 | 46=>100 | 232=>137 | 233=>138 | n=>n,fun | 17=>1 | 18=>3 | 19=>4 | n=>n⟩
theorem Tryz.TL:Go.Proofs.LaysM.n173 prog Tryz.MR:={
 mixed:=by kernel_rfl
 f129:=func29.trans (congrArg some (by kernel_rfl))
 f173:=func264.trans (congrArg some (by kernel_rfl))
 f246:=func17.trans (congrArg some (by kernel_rfl))
 f283:=func21.trans (congrArg some (by kernel_rfl))
 f284:=func22.trans (congrArg some (by kernel_rfl))
 f285:=func23.trans (congrArg some (by kernel_rfl))
 f286:=func24.trans (congrArg some (by kernel_rfl))
 f317:=func28.trans (congrArg some (by kernel_rfl))
 f318:=func30.trans (congrArg some (by kernel_rfl))
 f319:=func31.trans (congrArg some (by kernel_rfl))
 f320:=func32.trans (congrArg some (by kernel_rfl))
 f337:=func38.trans (congrArg some (by kernel_rfl))
 f338:=func39.trans (congrArg some (by kernel_rfl))
 t0:=underlying0
 a0:=Tryz.isAgg0
 z0:=Tryz.sizeOf0
 v0:=Tryz.zeroValue0
 t2:=underlying2
 a2:=Tryz.isAgg2
 z2:=Tryz.sizeOf2
 v2:=Tryz.zeroValue2
 t3:=underlying3
 a3:=Tryz.isAgg3
 z3:=Tryz.sizeOf3
 v3:=Tryz.zeroValue3
 t4:=underlying4
 a4:=Tryz.isAgg4
 z4:=Tryz.sizeOf4
 v4:=Tryz.zeroValue4
 t5:=underlying5
 a5:=Tryz.isAgg5
 z5:=Tryz.sizeOf5
 v5:=Tryz.zeroValue5
 t9:=underlying9
 a9:=Tryz.isAgg9
 z9:=Tryz.sizeOf9
 v9:=Tryz.zeroValue9
 t20:=underlying20
 a20:=Tryz.isAgg20
 z20:=Tryz.sizeOf20
 v20:=Tryz.zeroValue20
 t37:=underlying72
 a37:=Tryz.isAgg72
 z37:=Tryz.sizeOf72
 v37:=Tryz.zeroValue72
 t46:=underlying100
 a46:=Tryz.isAgg100
 z46:=Tryz.sizeOf100
 v46:=Tryz.zeroValue100
 t51:=underlying48
 a51:=Tryz.isAgg48
 z51:=Tryz.sizeOf48
 v51:=Tryz.zeroValue48
 t53:=underlying69
 a53:=Tryz.isAgg69
 z53:=Tryz.sizeOf69
 v53:=Tryz.zeroValue69
 t171:=underlying68
 a171:=Tryz.isAgg68
 z171:=Tryz.sizeOf68
 v171:=Tryz.zeroValue68
 t173:=underlying73
 a173:=Tryz.isAgg73
 z173:=Tryz.sizeOf73
 v173:=Tryz.zeroValue73
 t212:=underlying97
 a212:=Tryz.isAgg97
 z212:=Tryz.sizeOf97
 v212:=Tryz.zeroValue97
 t213:=underlying98
 a213:=Tryz.isAgg98
 z213:=Tryz.sizeOf98
 t232:=underlying137
 a232:=Tryz.isAgg137
 z232:=Tryz.sizeOf137
 v232:=Tryz.zeroValue137
 t233:=underlying138
 a233:=Tryz.isAgg138
 z233:=Tryz.sizeOf138
 v233:=Tryz.zeroValue138
 g17:=by kernel_rfl
 g18:=by kernel_rfl
 g19:=by kernel_rfl
 i0:=by kernel_rfl
 i2:=by kernel_rfl
 i3:=by kernel_rfl
 i4:=by kernel_rfl
 i5:=by kernel_rfl
 i9:=by kernel_rfl
 i20:=by kernel_rfl
 i37:=by kernel_rfl
 i46:=by kernel_rfl
 i51:=by kernel_rfl
 i53:=by kernel_rfl
 i171:=by kernel_rfl
 i173:=by kernel_rfl
 i212:=by kernel_rfl
 i232:=by kernel_rfl
 i233:=by kernel_rfl
 m17:=by kernel_rfl
 m18:=by kernel_rfl
 m19:=by kernel_rfl}
open Go.RowKit Go.Sort Go.Lib in
theorem Tryz.strconv_FormatInt_10(n:Int)(b : -9223372036854775808<=n)(c:n<=9223372036854775807)(w:World)(a:Lib.TabIs prog w "internal/strconv.uint64pow10" .u64 Lib.pow10Tab) :Calls prog 264 #[.int .i64 n,.int .i64 10] w fun e d=>e=.returned (.string ⟨(Lib.itoa n).toArray⟩)/\∃k f,d=grow (w.drewN k) f:=Any.strconv_FormatInt_10 Tryz.TL n b c w a
def Tryz.MT:Go.Shelf.Ren:=⟨fun | 174=>101 | 247=>107 | 245=>108 | 287=>112 | 279=>113 | 280=>114 | 281=>115 | 282=>116 | 321=>118 | 322=>119 | 316=>120 | 171=>7 | 205=>121 | 243=>12 | 246=>17 | 283=>21 | 284=>22 | 285=>23 | 286=>24 | 129=>29 | 317=>28 | 318=>30 | 319=>31 | 320=>32 | 337=>38 | 338=>39 | n=>n,fun | 9=>9 | 3=>3 | 2=>2 | 75=>65 | 85=>218 | 4=>4 | 167=>225 | 5=>5 | 53=>69 | 175=>226 | 46=>100 | 168=>228 | 37=>72 | 0=>0 | 210=>234 | 21=>21 | 127=>235 | 145=>238 | 143=>236 | 171=>68 | 173=>73 | 212=>97 | 51=>48 | 20=>20 | 213=>98 | 232=>137 | 233=>138 | 80=>239 | n=>n,fun | 15=>5 | 16=>6 | 17=>1 | 18=>3 | 19=>4 | n=>n⟩
theorem Tryz.N5:Go.Proofs.LaysC.n174 prog Tryz.MT:={
 mixed:=by kernel_rfl
 f129:=func29.trans (congrArg some (by kernel_rfl))
 f171:=func7.trans (congrArg some (by kernel_rfl))
 f174:=func101.trans (congrArg some (by kernel_rfl))
 f205:=func121.trans (congrArg some (by kernel_rfl))
 f243:=func12.trans (congrArg some (by kernel_rfl))
 f245:=func108.trans (congrArg some (by kernel_rfl))
 f246:=func17.trans (congrArg some (by kernel_rfl))
 f247:=func107.trans (congrArg some (by kernel_rfl))
 f279:=func113.trans (congrArg some (by kernel_rfl))
 f280:=func114.trans (congrArg some (by kernel_rfl))
 f281:=func115.trans (congrArg some (by kernel_rfl))
 f282:=func116.trans (congrArg some (by kernel_rfl))
 f283:=func21.trans (congrArg some (by kernel_rfl))
 f284:=func22.trans (congrArg some (by kernel_rfl))
 f285:=func23.trans (congrArg some (by kernel_rfl))
 f286:=func24.trans (congrArg some (by kernel_rfl))
 f287:=func112.trans (congrArg some (by kernel_rfl))
 f316:=func120.trans (congrArg some (by kernel_rfl))
 f317:=func28.trans (congrArg some (by kernel_rfl))
 f318:=func30.trans (congrArg some (by kernel_rfl))
 f319:=func31.trans (congrArg some (by kernel_rfl))
 f320:=func32.trans (congrArg some (by kernel_rfl))
 f321:=func118.trans (congrArg some (by kernel_rfl))
 f322:=func119.trans (congrArg some (by kernel_rfl))
 f337:=func38.trans (congrArg some (by kernel_rfl))
 f338:=func39.trans (congrArg some (by kernel_rfl))
 t0:=underlying0
 a0:=Tryz.isAgg0
 z0:=Tryz.sizeOf0
 v0:=Tryz.zeroValue0
 t2:=underlying2
 a2:=Tryz.isAgg2
 z2:=Tryz.sizeOf2
 v2:=Tryz.zeroValue2
 t3:=underlying3
 a3:=Tryz.isAgg3
 z3:=Tryz.sizeOf3
 v3:=Tryz.zeroValue3
 t4:=underlying4
 a4:=Tryz.isAgg4
 z4:=Tryz.sizeOf4
 v4:=Tryz.zeroValue4
 t5:=underlying5
 a5:=Tryz.isAgg5
 z5:=Tryz.sizeOf5
 v5:=Tryz.zeroValue5
 t9:=underlying9
 a9:=Tryz.isAgg9
 z9:=Tryz.sizeOf9
 v9:=Tryz.zeroValue9
 t20:=underlying20
 a20:=Tryz.isAgg20
 z20:=Tryz.sizeOf20
 v20:=Tryz.zeroValue20
 t21:=underlying21
 a21:=Tryz.isAgg21
 z21:=Tryz.sizeOf21
 v21:=Tryz.zeroValue21
 t37:=underlying72
 a37:=Tryz.isAgg72
 z37:=Tryz.sizeOf72
 v37:=Tryz.zeroValue72
 t46:=underlying100
 a46:=Tryz.isAgg100
 z46:=Tryz.sizeOf100
 v46:=Tryz.zeroValue100
 t51:=underlying48
 a51:=Tryz.isAgg48
 z51:=Tryz.sizeOf48
 v51:=Tryz.zeroValue48
 t53:=underlying69
 a53:=Tryz.isAgg69
 z53:=Tryz.sizeOf69
 v53:=Tryz.zeroValue69
 t75:=underlying65
 a75:=Tryz.isAgg65
 z75:=Tryz.sizeOf65
 v75:=Tryz.zeroValue65
 t85:=underlying218
 a85:=Tryz.isAgg218
 z85:=Tryz.sizeOf218
 v85:=Tryz.zeroValue218
 t127:=underlying235
 a127:=Tryz.isAgg235
 z127:=Tryz.sizeOf235
 v127:=Tryz.zeroValue235
 t143:=underlying236
 a143:=Tryz.isAgg236
 z143:=Tryz.sizeOf236
 v143:=Tryz.zeroValue236
 t145:=underlying238
 a145:=Tryz.isAgg238
 z145:=Tryz.sizeOf238
 v145:=Tryz.zeroValue238
 t167:=underlying225
 a167:=Tryz.isAgg225
 z167:=Tryz.sizeOf225
 v167:=Tryz.zeroValue225
 t168:=underlying228
 a168:=Tryz.isAgg228
 z168:=Tryz.sizeOf228
 v168:=Tryz.zeroValue228
 t171:=underlying68
 a171:=Tryz.isAgg68
 z171:=Tryz.sizeOf68
 v171:=Tryz.zeroValue68
 t173:=underlying73
 a173:=Tryz.isAgg73
 z173:=Tryz.sizeOf73
 v173:=Tryz.zeroValue73
 t175:=underlying226
 a175:=Tryz.isAgg226
 z175:=Tryz.sizeOf226
 v175:=Tryz.zeroValue226
 t210:=underlying234
 a210:=Tryz.isAgg234
 z210:=Tryz.sizeOf234
 v210:=Tryz.zeroValue234
 t212:=underlying97
 a212:=Tryz.isAgg97
 z212:=Tryz.sizeOf97
 v212:=Tryz.zeroValue97
 t213:=underlying98
 a213:=Tryz.isAgg98
 z213:=Tryz.sizeOf98
 t232:=underlying137
 a232:=Tryz.isAgg137
 z232:=Tryz.sizeOf137
 v232:=Tryz.zeroValue137
 t233:=underlying138
 a233:=Tryz.isAgg138
 z233:=Tryz.sizeOf138
 v233:=Tryz.zeroValue138
 g15:=by kernel_rfl
 g16:=by kernel_rfl
 g17:=by kernel_rfl
 g18:=by kernel_rfl
 g19:=by kernel_rfl
 t80:=underlying239
 a80:=Tryz.isAgg239
 z80:=Tryz.sizeOf239
 v80:=Tryz.zeroValue239
 i0:=by kernel_rfl
 i2:=by kernel_rfl
 i3:=by kernel_rfl
 i4:=by kernel_rfl
 i5:=by kernel_rfl
 i9:=by kernel_rfl
 i20:=by kernel_rfl
 i21:=by kernel_rfl
 i37:=by kernel_rfl
 i46:=by kernel_rfl
 i51:=by kernel_rfl
 i53:=by kernel_rfl
 i75:=by kernel_rfl
 i80:=by kernel_rfl
 i85:=by kernel_rfl
 i127:=by kernel_rfl
 i143:=by kernel_rfl
 i145:=by kernel_rfl
 i167:=by kernel_rfl
 i168:=by kernel_rfl
 i171:=by kernel_rfl
 i173:=by kernel_rfl
 i175:=by kernel_rfl
 i210:=by kernel_rfl
 i212:=by kernel_rfl
 i232:=by kernel_rfl
 i233:=by kernel_rfl
 m15:=by kernel_rfl
 m16:=by kernel_rfl
 m17:=by kernel_rfl
 m18:=by kernel_rfl
 m19:=by kernel_rfl
 c0:=by kernel_rfl
 c2:=by kernel_rfl
 c3:=by kernel_rfl
 c4:=by kernel_rfl
 c5:=by kernel_rfl
 c9:=by kernel_rfl
 c20:=by kernel_rfl
 c21:=by kernel_rfl
 c37:=by kernel_rfl
 c46:=by kernel_rfl
 c51:=by kernel_rfl
 c53:=by kernel_rfl
 c75:=by kernel_rfl
 c80:=by kernel_rfl
 c85:=by kernel_rfl
 c127:=by kernel_rfl
 c143:=by kernel_rfl
 c145:=by kernel_rfl
 c167:=by kernel_rfl
 c168:=by kernel_rfl
 c171:=by kernel_rfl
 c173:=by kernel_rfl
 c175:=by kernel_rfl
 c210:=by kernel_rfl
 c212:=by kernel_rfl
 c213:=by kernel_rfl
 c232:=by kernel_rfl
 c233:=by kernel_rfl}
open Go.RowKit in
theorem Tryz.strconv_ParseInt_10_at64_ok(s:ByteArray)(a:s.size<=9223372036854775806)(v:Int)(h:Lib.parseIntB 64 s.data.toList=.ok v)(w:World) :Calls prog 101 #[.string s,.int .i64 10,.int .i64 64] w fun e b=>e=.returned (.tuple #[.int .i64 v,.nilIface])/\(b=w\/∃t,b=Lib.bytesWorld w 5 t):=Any.strconv_ParseInt_10_at64_ok Tryz.N5 s a v h w
open Go.RowKit in
theorem Tryz.strconv_ParseInt_10_at64_range(s:ByteArray)(a:s.size<=281474976710656)(h:Lib.parseIntB 64 s.data.toList=.range)(ev:Value)(w:World)(d:w.cell? ⟨6,0,none⟩=some ev)(b:ev=.nilIface\/∃f g,ev=.iface f g) :Calls prog 101 #[.string s,.int .i64 10,.int .i64 64] w fun e c=>∃N,e=.returned (.tuple #[.int .i64 (Lib.intSat 64 s.data.toList),.iface 228 (.pointer (some ⟨N,0,none⟩))])/\w.heap.size<=N/\c.heap[N]?=some (.cells #[.string ⟨#[80,97,114,115,101,73,110,116]⟩,.string s,ev] 234 (0,0))/\Below w.heap.size w c:=Any.strconv_ParseInt_10_at64_range Tryz.N5 s a h ev w d b
end
open Pl (A3)
section
open Go.RowKit
variable {w w':World} {b n dep dpst dpk:Nat} {r:List (List UInt8)} {g gk:Bool} {rest items:Value} {vs:List Value}
def AQ(a:Nat)(c:UInt8):Nat:=10*a+(c.toNat-48)
theorem p_(l:List UInt8):∀a:Nat,a<=l.foldl AQ a:=by
 induction l with
 | nil=>intro a;exact n_
 | cons c r b=>intro a;refine t_ ?_ (b _);unfold AQ;omega
theorem ZW(l:List UInt8):∀a:Nat,l.all A3=true->Lib.parseUintM (2^64-1) a l=.ok (l.foldl AQ a)\/(Lib.parseUintM (2^64-1) a l=.range/\Pl.CG<l.foldl AQ a):=by
 induction l with
 | nil=>intro a _;exact .inl rfl
 | cons c r h =>
  intro a b;simp only [List.all_cons,Bool.and_eq_true] at b;have i:=Pl.Q2 c b.1;have e:(c::r).foldl AQ a=r.foldl AQ (AQ a c):=rfl;have d:=p_ r (AQ a c);unfold Lib.parseUintM;rw [if_pos i,e];have j:a*10+(c.toNat-48)=AQ a c:=by unfold AQ;omega
  rw [j];by_cases f:1844674407370955162<=a
  ·rw [if_pos f];exact .inr ⟨rfl,by unfold Pl.CG;unfold AQ at d ⊢;omega⟩
  ·rw [if_neg f];by_cases g:2^64-1<AQ a c
   ·rw [if_pos g];exact .inr ⟨rfl,by unfold Pl.CG;omega⟩
   ·rw [if_neg g];exact h _ b.2
theorem qZ(l:List UInt8):Pl.F5 l=l.foldl AQ 0:=rfl
theorem intB(t:List UInt8)(g:Pl.isNum t=true)(p:t≠[]):Lib.parseIntB 64 t=.ok (Pl.F3 t)\/(Lib.parseIntB 64 t=.range/\Pl.CG<Pl.F5 (Pl.EY t)):=by
 cases t with
 | nil=>exact absurd rfl p
 | cons c r =>
  unfold Lib.parseIntB;by_cases n:c=45
  ·subst n;have o:r≠[]:=by rintro rfl;exact absurd g (by decide)
   have i:Pl.minus (45::r)=true:=by
    cases r with
    | nil=>exact absurd rfl o
    | cons d q=>simp [Pl.minus]
   have b:Pl.EY (45::r)=r:=by unfold Pl.EY;rw [i];rfl
   have a:r.all A3=true:=by unfold Pl.isNum at g;rwa [b] at g
   have e:Pl.F3 (45::r)=-(Pl.F5 r:Int):=by unfold Pl.F3;rw [i,b];rfl
   have k:Lib.parseUintB 64 r=Lib.parseUintM (2^64-1) 0 r:=by unfold Lib.parseUintB;rw [if_neg o]
   have f:((45:UInt8).toNat=43\/(45:UInt8).toNat=45):=.inr rfl;simp only [f,if_true,k,b,e,qZ];rcases ZW r 0 a with h | ⟨h,l⟩
   ·rw [h];dsimp only;rw [if_neg (by simp)];by_cases j:2^(64-1)<r.foldl AQ 0
    ·rw [if_pos ⟨rfl,j⟩];exact .inr ⟨rfl,by unfold Pl.CG;omega⟩
    ·rw [if_neg (fun h=>j h.2)];exact .inl rfl
   ·rw [h];exact .inr ⟨rfl,l⟩
  ·have i:Pl.minus (c::r)=false:=by simp [Pl.minus,n]
   have b:Pl.EY (c::r)=c::r:=by unfold Pl.EY;rw [i];rfl
   have a:(c::r).all A3=true:=by unfold Pl.isNum at g;rwa [b] at g
   have e:Pl.F3 (c::r)=(Pl.F5 (c::r):Int):=by unfold Pl.F3;rw [i,b];rfl
   have s:=Pl.Q2 c (by simp only [List.all_cons,Bool.and_eq_true] at a;exact a.1);have k:Lib.parseUintB 64 (c::r)=Lib.parseUintM (2^64-1) 0 (c::r):=rfl;have m:¬c.toNat=43:=by omega
   have f:¬c.toNat=45:=by omega
   simp only [m,f,or_self,if_false,k,b,e,qZ,not_false_eq_true,true_and,false_and];rcases ZW (c::r) 0 a with h | ⟨h,l⟩
   ·rw [h];dsimp only;by_cases j:2^(64-1)<=(c::r).foldl AQ 0
    ·rw [if_pos j];exact .inr ⟨rfl,by unfold Pl.CG;omega⟩
    ·rw [if_neg j];exact .inl rfl
   ·rw [h];exact .inr ⟨rfl,l⟩
def GE(w:World):Prop:=∃ev,w.cell? ⟨6,0,none⟩=some ev/\(ev=.nilIface\/∃te pe,ev=.iface te pe)
theorem GE.lt(h:GE w):6<w.heap.size:=by obtain⟨a,h,_⟩:=h;exact World.block_lt_of_cell? w _ h
theorem GE.below(h:GE w)(a:Below w.heap.size w w'):GE w':=by have b:=h.lt;obtain⟨c,d,e⟩:=h;exact⟨c,(a.cell (p:=⟨6,0,none⟩) b).trans d,e⟩
theorem GE.grown(h:GE w)(a:w.grownBy w' (some b))(g:6<b):GE w':=by have c:=h.lt;obtain⟨d,e,f⟩:=h;refine⟨d,(World.cell?_of_block (w:=w) (a.block 6 c (by simp;omega))).trans e,f⟩
theorem qO(w:World)(b:Nat)(rest:Value)(p f:Int)(g:Bool)(s:ByteArray)(h:EW w b rest p f g)(E:GE w)(P:s.size<=1000)(F:0<s.size)(z:Pl.isNum s.data.toList=true) :Calls prog 91 #[.pointer (some ⟨b,0,none⟩),.string s] w fun e D=>∃k:Int,e=.returned (.int .i64 k)/\(gW (Pl.F3 s.data.toList)->k=Pl.F3 s.data.toList)/\w.grownBy D (some b)/\EW D b rest p f (g||Pl.ER s.data.toList):=by
 have j:s.data.toList≠[]:=fun e=>by
  have:s.data.toList.length=s.size:=by simp
  rw [e] at this;simp at this;omega
 obtain⟨G,l,c⟩:=E;rcases intB _ z j with q | ⟨q,i⟩
 ·have r:=h_ q;have u:=h_ h;have H:=aF h 3;clear q h l c j;go_enter func91,ntmps91;go_wp2_with fail;refine(Tryz.strconv_ParseInt_10_at64_ok s (by omega) _ r _).mono ?_;rintro e x ⟨rfl,v⟩
  have m:Below w.heap.size w x:=by
   rcases v with rfl | ⟨t,rfl⟩
   ·exact r_
   ·exact Lib.bytesWorld_below _ _ _
  have d:Hid (w.grownBy x (some b)):=aQ _ m;have a:=h_ (u.below m);have I:=aF a 3;have J:=a.cells.2.2.2;have n:Hid (∀X:Int,X=Pl.F3 s.data.toList->(Pl.ER s.data.toList=true↔(1099511627776<X\/X < -1099511627776))):=by intro X y;subst y;unfold Pl.ER Pl.F3 Pl.CG;rw [decide_eq_true_eq];split<;>omega
  generalize y:Pl.F3 s.data.toList=X at *;have A:=h_ y;clear y m v u r H z;by_cases K:1099511627776<X
  ·have o:Hid (Pl.ER s.data.toList=true):=(n X rfl).2 (.inl K);go_wp2_with fail;go_ret;refine⟨X,rfl,fun _=>A.symm,aC d (aE _ _ _ _),?_⟩;rw [o.out,Bool.or_true];exact a.FA true
  ·by_cases L:X < -1099511627776
   ·have o:Hid (Pl.ER s.data.toList=true):=(n X rfl).2 (.inr L);go_wp2_with fail;go_ret;refine⟨X,rfl,fun _=>A.symm,aC d (aE _ _ _ _),?_⟩;rw [o.out,Bool.or_true];exact a.FA true
   ·have o:Hid (Pl.ER s.data.toList=false):=show Pl.ER _=false from by
     cases M:Pl.ER s.data.toList with
     | false=>rfl
     | true=>have:=(n X rfl).1 M;omega
    go_wp2_with fail
    go_ret;refine⟨X,rfl,fun _=>A.symm,d,?_⟩;rw [o.out,Bool.or_false];exact a
 ·have r:=h_ q;have u:=h_ h;have o:Hid (Pl.ER s.data.toList=true):=show Pl.ER _=true from by unfold Pl.ER;simpa using i
  have B:Hid (¬gW (Pl.F3 s.data.toList)):=by unfold gW Pl.F3;intro O;split at O<;>omega
  have C:=h_ l;clear q h l j i z;go_enter func91,ntmps91;go_wp2_with fail;refine(Tryz.strconv_ParseInt_10_at64_range s (by omega) r G _ C c).mono ?_;rintro e x ⟨N,rfl,_,_,m⟩;have d:Hid (w.grownBy x (some b)):=aQ _ m;have a:=h_ (u.below m);have I:=aF a 3;have J:=a.cells.2.2.2;clear m u r c;go_wp2_with fail;go_ret;refine⟨_,rfl,fun h=>absurd h B,aC d (aE _ _ _ _),?_⟩;rw [o.out,Bool.or_true];exact a.FA true
def N_(t:List UInt8):Prop:=(cE t<4\/Pl.isNum t=true\/Pl.DZ t=true)/\0<t.length/\t.length<=1000
def F1(n:Nat)(w:World)(b dep dpst:Nat)(g:Bool)(l:List (List UInt8))(e:Ending)(w':World):Prop :=
 w.grownBy w' (some b) /\
 match Pl.pd n l with
 | none=>∃s,e=.returned (.tuple #[.nilIface,aY s 2])
 | some p=>∃v rest',e=.returned (.tuple #[v,.nilIface])/\AN (fun k=>w.heap.size<=k) n w' v p.t/\EW w' b rest' dep ((max dpst (dep+p.dp):Nat):Int) (g||p.gr)/\DG w' rest' p.q
def LJ(n:Nat):Prop:=∀(w:World)(b:Nat)(rest:Value) (l:List (List UInt8)) (dep dpst:Nat) (g:Bool),EW w b rest dep dpst g->DG w rest l->GE w->6<b->l.length<=n->l.length<=1000->dep+l.length<=2000->dep<=dpst->(∀t∈l,N_ t) ->
 Calls prog 70 #[.pointer (some ⟨b,0,none⟩)] w fun e w'=>F1 n w b dep dpst g l e w'
structure L6(n:Nat)(w wr:World)(b:Nat)(r:List (List UInt8))(dep dpst:Nat)(g:Bool)(q:List (List UInt8))(rest items:Value)(ts:List Tr)(vs:List Value)(dpk:Nat)(gk:Bool):Prop where
 LQ:q <:+ r
 len:ts.length+q.length<=r.length
 lf:Pl.LF (Pl.pd n) r ts dpk gk q
 rd:EW wr b rest ((dep+1:Nat):Int) ((max dpst (dep+1+dpk):Nat):Int) (g||gk)
 tk:DG wr rest q
 row:wr.ownsRow w.heap.size PT 1 items ts.length vs
 KG:∀(i:Nat)(u:Value)(x:Tr),vs[i]?=some u->ts[i]?=some x->AN (fun k=>w.heap.size<=k/\items.ownBlock≠some k) n wr u x
 one:∀u∈vs,u.oneCell'=true
 grown:w.grownBy wr (some b)
 ge:GE wr
 bw:b<w.heap.size
theorem L6.start{w1:World}(h:EW w1 b rest ((dep+1:Nat):Int) ((max dpst (dep+1):Nat):Int) g)(e:DG w1 rest r)(d:w.grownBy w1 (some b))(a:GE w1)(f:b<w.heap.size)(o:Obj)(j:o=.cells #[] PT (0,0)) :L6 n w (w1.alloc o) b r dep dpst g r rest (.slice (some ⟨w1.heap.size,0,none⟩) 0 0) [] [] 0 false where
 LQ:=List.suffix_refl _
 len:=by simp
 lf:=Pl.LF.start _ _
 rd:=(h.alloc o).cast rfl (by omega) (by simp)
 tk:=e.below (r_.alloc n_ o)
 row:=⟨rfl,.inr ⟨w1.heap.size,0,#[],rfl,d.size,by rw [j];exact heap_alloc_new _ _,n_,by unfold maxLen;omega,rfl,rfl⟩⟩
 KG:=fun i u x c=>by simp at c
 one:=fun u c=>by simp at c
 grown:=aC d (World.grownBy_alloc _ _ _)
 ge:=a.below (r_.alloc n_ o)
 bw:=f
structure PMid(n:Nat)(w w2:World)(b:Nat)(r:List (List UInt8))(dep dpst:Nat)(g:Bool)(p:Pl.PR)(rest items:Value)(ts:List Tr)(vs:List Value)(v:Value)(dpk:Nat)(gk:Bool):Prop where
 LQ:p.q <:+ r
 len:ts.length+1+p.q.length<=r.length
 lf:Pl.LF (Pl.pd n) r (ts++[p.t]) (max dpk p.dp) (gk||p.gr) p.q
 rd:EW w2 b rest ((dep+1:Nat):Int) ((max dpst (dep+1+max dpk p.dp):Nat):Int) (g||(gk||p.gr))
 tk:DG w2 rest p.q
 row:w2.ownsRow w.heap.size PT 1 items ts.length vs
 KG:∀(i:Nat)(u:Value)(x:Tr),vs[i]?=some u->ts[i]?=some x->AN (fun k=>w.heap.size<=k/\items.ownBlock≠some k) n w2 u x
 new:AN (fun k=>w.heap.size<=k/\items.ownBlock≠some k) n w2 v p.t
 one:∀u∈vs,u.oneCell'=true
 grown:w.grownBy w2 (some b)
 ge:GE w2
 bw:b<w.heap.size
theorem L6.call{wr w2:World}{t:List UInt8}{q0:List (List UInt8)}{rest':Value}{q:List Tr}{p:Pl.PR}{v:Value}(j:6<b)
  (h:L6 n w wr b r dep dpst g (t::q0) rest items q vs dpk gk) (y:¬t=[41]) (hp:Pl.pd n (t::q0)=some p) (f:wr.grownBy w2 (some b)) (c:AN (fun k=>wr.heap.size<=k) n w2 v p.t)
  (l:EW w2 b rest' ((dep+1:Nat):Int) ((max (max dpst (dep+1+dpk)) (dep+1+p.dp):Nat):Int) ((g||gk)||p.gr)) (m:DG w2 rest' p.q) :
  PMid n w w2 b r dep dpst g p rest' items q vs v dpk gk:=by
 have a:=Pl.DA n _ _ hp;have z:∀s,GA s wr w2:=fun s=>GA.DX f h.rd (by decide);have d:=h.len;have A:=a.2;simp only [c_] at d A;refine⟨a.1.trans h.LQ,by omega,h.lf.more y hp a.2,l.cast rfl (by omega) (by rw [Bool.or_assoc]),m,?_,?_,?_,h.one,aC h.grown f,h.ge.grown f j,h.bw⟩
 ·refine h.row.kept f ?_;by_cases o:items.ownBlock=some b
  ·have:=(h.row.lt b o).1;have:=h.bw;omega
  ·exact .inr o
 ·exact fun i u x B C=>AN.keep (z _) _ _ _ (h.KG i u x B C)
 ·refine AN.mono (fun k _ o=>?_) _ _ _ c;have:=h.grown.size;refine⟨by omega,fun e=>?_⟩;have:=(h.row.lt k e).2;omega
theorem PMid.push{w2 w3:World}{q:List Tr}{p:Pl.PR}{v:Value}{o:Obj}{g' cap':Nat}(L:6<b)
  (h:PMid n w w2 b r dep dpst g p rest items q vs v dpk gk) (F:v.oneCell'=true) (C:w3.ownsRow w.heap.size PT 1 (.slice (some ⟨g',0,none⟩) (q.length+1) cap') (q.length+1) (vs++[v])) (D:(w2.alloc o).grownBy w3 items.ownBlock) (G:items.ownBlock=some g'\/g'=w2.heap.size+1) :
  L6 n w w3 b r dep dpst g p.q rest (.slice (some ⟨g',0,none⟩) (q.length+1) cap') (q++[p.t]) (vs++[v]) (max dpk p.dp) (gk||p.gr):=by
 have H:=h.row.lt;have M:=h.grown.size;have E:=h.bw;have s:∀k,k<w2.heap.size->items.ownBlock≠some k->w3.heap[k]?=w2.heap[k]? := fun k d t=>(D.block k (by simp;omega) (fun e=>t e.symm)).trans (k_ d);have f:∀k,k<w.heap.size->w3.heap[k]?=w2.heap[k]? := fun k d=>s k (by omega) (fun e=>by have:=(H k e).1;omega);generalize I:Value.slice (some ⟨g',0,none⟩) (q.length+1) cap'=a at *;have J:a.ownBlock=some g':=by rw [<- I];rfl
 have z:GA (fun k=>w.heap.size<=k/\items.ownBlock≠some k) w2 w3:=fun k A c d=>by rw [s k (aB d) c.2];exact d
 have l:∀(u:Value)(x:Tr),AN (fun k=>w.heap.size<=k/\items.ownBlock≠some k) n w2 u x->AN (fun k=>w.heap.size<=k/\a.ownBlock≠some k) n w3 u x:=by
  intro u x N
  have j:AN (fun k=>(w.heap.size<=k/\items.ownBlock≠some k)/\a.ownBlock≠some k) n w2 u x:=by
   refine AN.mono (fun k d c=>⟨c,?_⟩) _ _ _ N;rw [J];intro e;obtain rfl:=i_ e;rcases G with j | j
   ·exact c.2 j
   ·omega
  have O:=AN.keep (w':=w3) (ok:=fun k=>(w.heap.size<=k/\items.ownBlock≠some k)/\a.ownBlock≠some k) (fun k A c d=>z k A c.1 d) _ _ _ j;exact AN.mono (fun k _ c=>⟨c.1.1,c.2⟩) _ _ _ O
 refine⟨h.LQ,by have:=h.len;simp;omega,h.lf,?_,?_,by simpa using C,?_,?_,?_,?_,E⟩
 ·show w3.heap[b]?=_;rw [f b E];exact h.rd
 ·refine h.tk.keep fun k A d=>?_;rw [s k (aB d) ?_];exact d;intro e;rcases h.row.2 with⟨K,_⟩ | ⟨y,_,_,K,_,P,_⟩
  ·rw [K] at e;simp [Value.ownBlock] at e
  ·rw [K] at e;simp only [Value.ownBlock,o_] at e;subst e;rw [P] at d;simp only [o_,Obj.cells.injEq] at d;have:=d.2.1;simp [PT,PK] at this
 ·intro i u x m B;have Q:=h.row.1;by_cases R:i<vs.length
  ·rw [List.getElem?_append_left R] at m;rw [List.getElem?_append_left (by omega)] at B;exact l u x (h.KG i u x m B)
  ·have e:i=vs.length:=by
    have:=(s_ m).1;simp at this;omega
   subst e;rw [List.getElem?_append_right n_] at m;rw [List.getElem?_append_right (by omega)] at B;have S:vs.length-q.length=0:=by omega
   rw [S] at B;simp at m B;subst m B;exact l _ _ h.new
 ·intro u m;rcases List.mem_append.1 m with j | j
  ·exact h.one u j
  ·simp at j;subst j;exact F
 ·refine⟨D.os.trans h.grown.os,D.tape.trans h.grown.tape,D.output.trans h.grown.output,by have:=D.size;simp at this;omega,fun k d t=>?_⟩;rw [f k d];exact h.grown.block k d t
 ·obtain⟨T,U,V⟩:=h.ge;exact⟨T,(World.cell?_of_block (w:=w2) (f 6 (by omega))).trans U,V⟩
theorem L6.done{wr:World}{q:List (List UInt8)}{j:List Tr}(h:L6 n w wr b r dep dpst g q rest items j vs dpk gk)(l:r.length<=1000)(o:wr.grownBy w' (some b)) :AN (fun k=>w.heap.size<=k) (n+1) w' (.iface 118 items) (.agg j):=by have p:∀m,GA m wr w':=fun m=>GA.DX o h.rd (by decide);refine AN.keep (p _) _ _ _ ⟨items,vs,rfl,fun r l=>(h.row.lt r l).1,⟨h.row.1,h.row.2.imp id (fun⟨g,d,e,a,b,c⟩=>⟨g,d,e,a,Nat.zero_le _,c⟩)⟩,?_,by have:=h.len;omega⟩;intro i u x s t;exact AN.mono (fun k _ f=>f.1) _ _ _ (h.KG i u x s t)
end
end Go.Proofs.YtieooapcfpimlaaGreatDoor
