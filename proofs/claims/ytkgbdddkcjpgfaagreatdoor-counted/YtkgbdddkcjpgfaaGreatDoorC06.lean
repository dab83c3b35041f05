import Derived.Shelf.LaysM
import Derived.Shelf.Strconv.Itoa3
import Derived.Shelf.Strconv.Itoa4
import Derived.Shelf.LaysC
import Derived.Shelf.Strconv.ParseIntPublic10
import Derived.Test.YtkgbdddkcjpgfaaGreatDoorProg
import Derived.Lib.ParseIntB
import Derived.Lib.AtoiErrMem
import Derived.Test.YtkgbdddkcjpgfaaGreatDoorC05
namespace Go.Proofs.YtkgbdddkcjpgfaaGreatDoor
set_option maxHeartbeats 1000000
set_option maxRecDepth 100000
open Go.Proofs.Tryz
section
open Go.Shelf
open Go.RowKit Go.Sort Go.Lib in
def Tryz.laysM173_ren:Go.Shelf.Ren:=⟨fun | 173=>356 | 246=>107 | 283=>142 | 284=>143 | 285=>144 | 286=>145 | 129=>180 | 317=>179 | 318=>181 | 319=>182 | 320=>183 | 337=>197 | 338=>198 | n=>n,fun | 2=>2 | 3=>3 | 9=>9 | 4=>4 | 171=>281 | 0=>0 | 53=>101 | 37=>165 | 5=>5 | 173=>284 | 212=>358 | 51=>104 | 20=>20 | 213=>359 | 46=>196 | 232=>389 | 233=>390 | n=>n,fun | 17=>2 | 18=>3 | 19=>4 | n=>n⟩
theorem Tryz.laysM173:Go.Proofs.LaysM.n173 prog Tryz.laysM173_ren:={
 mixed:=by kernel_rfl
 f129:=func180.trans (congrArg some (by kernel_rfl))
 f173:=func356.trans (congrArg some (by kernel_rfl))
 f246:=func107.trans (congrArg some (by kernel_rfl))
 f283:=func142.trans (congrArg some (by kernel_rfl))
 f284:=func143.trans (congrArg some (by kernel_rfl))
 f285:=func144.trans (congrArg some (by kernel_rfl))
 f286:=func145.trans (congrArg some (by kernel_rfl))
 f317:=func179.trans (congrArg some (by kernel_rfl))
 f318:=func181.trans (congrArg some (by kernel_rfl))
 f319:=func182.trans (congrArg some (by kernel_rfl))
 f320:=func183.trans (congrArg some (by kernel_rfl))
 f337:=func197.trans (congrArg some (by kernel_rfl))
 f338:=func198.trans (congrArg some (by kernel_rfl))
 t0:=underlying0
 a0:=Tryz.isAgg0
 z0:=Tryz.sizeOf0
 v0:=Tryz.zeroValue0
 t2:=underlying2
 a2:=Tryz.isAgg2
 z2:=Tryz.sizeOf2
 v2:=Tryz.zeroValue2
 t3:=underlying3
 a3:=Tryz.isAgg3
 z3:=Tryz.sizeOf3
 v3:=Tryz.zeroValue3
 t4:=underlying4
 a4:=Tryz.isAgg4
 z4:=Tryz.sizeOf4
 v4:=Tryz.zeroValue4
 t5:=underlying5
 a5:=Tryz.isAgg5
 z5:=Tryz.sizeOf5
 v5:=Tryz.zeroValue5
 t9:=underlying9
 a9:=Tryz.isAgg9
 z9:=Tryz.sizeOf9
 v9:=Tryz.zeroValue9
 t20:=underlying20
 a20:=Tryz.isAgg20
 z20:=Tryz.sizeOf20
 v20:=Tryz.zeroValue20
 t37:=underlying165
 a37:=Tryz.isAgg165
 z37:=Tryz.sizeOf165
 v37:=Tryz.zeroValue165
 t46:=underlying196
 a46:=Tryz.isAgg196
 z46:=Tryz.sizeOf196
 v46:=Tryz.zeroValue196
 t51:=underlying104
 a51:=Tryz.isAgg104
 z51:=Tryz.sizeOf104
 v51:=Tryz.zeroValue104
 t53:=underlying101
 a53:=Tryz.isAgg101
 z53:=Tryz.sizeOf101
 v53:=Tryz.zeroValue101
 t171:=underlying281
 a171:=Tryz.isAgg281
 z171:=Tryz.sizeOf281
 v171:=Tryz.zeroValue281
 t173:=underlying284
 a173:=Tryz.isAgg284
 z173:=Tryz.sizeOf284
 v173:=Tryz.zeroValue284
 t212:=underlying358
 a212:=Tryz.isAgg358
 z212:=Tryz.sizeOf358
 v212:=Tryz.zeroValue358
 t213:=underlying359
 a213:=Tryz.isAgg359
 z213:=Tryz.sizeOf359
 t232:=underlying389
 a232:=Tryz.isAgg389
 z232:=Tryz.sizeOf389
 v232:=Tryz.zeroValue389
 t233:=underlying390
 a233:=Tryz.isAgg390
 z233:=Tryz.sizeOf390
 v233:=Tryz.zeroValue390
 g17:=by kernel_rfl
 g18:=by kernel_rfl
 g19:=by kernel_rfl
 i0:=by kernel_rfl
 i2:=by kernel_rfl
 i3:=by kernel_rfl
 i4:=by kernel_rfl
 i5:=by kernel_rfl
 i9:=by kernel_rfl
 i20:=by kernel_rfl
 i37:=by kernel_rfl
 i46:=by kernel_rfl
 i51:=by kernel_rfl
 i53:=by kernel_rfl
 i171:=by kernel_rfl
 i173:=by kernel_rfl
 i212:=by kernel_rfl
 i232:=by kernel_rfl
 i233:=by kernel_rfl
 m17:=by kernel_rfl
 m18:=by kernel_rfl
 m19:=by kernel_rfl}
open Go.RowKit Go.Sort Go.Lib in
theorem Tryz.strconv_FormatInt_10(n:Int)(h0 : -9223372036854775808<=n)(h1:n<=9223372036854775807)(w:World)(htab:Lib.TabIs prog w "internal/strconv.uint64pow10" .u64 Lib.pow10Tab) :Calls prog 356 #[.int .i64 n,.int .i64 10] w fun e w'=>e=.returned (.string ⟨(Lib.itoa n).toArray⟩)/\∃k os,w'=grow (w.drewN k) os:=Any.strconv_FormatInt_10 Tryz.laysM173 n h0 h1 w htab
def Tryz.laysC174_ren:Go.Shelf.Ren:=⟨fun | 174=>206 | 247=>217 | 245=>218 | 287=>229 | 279=>230 | 280=>231 | 281=>232 | 282=>233 | 321=>235 | 322=>236 | 316=>237 | 171=>34 | 205=>238 | 243=>63 | 246=>107 | 283=>142 | 284=>143 | 285=>144 | 286=>145 | 129=>180 | 317=>179 | 318=>181 | 319=>182 | 320=>183 | 337=>197 | 338=>198 | n=>n,fun | 9=>9 | 3=>3 | 2=>2 | 75=>63 | 85=>378 | 4=>4 | 167=>396 | 5=>5 | 53=>101 | 175=>397 | 46=>196 | 168=>399 | 37=>165 | 0=>0 | 210=>404 | 21=>21 | 127=>405 | 145=>408 | 143=>406 | 171=>281 | 173=>284 | 212=>358 | 51=>104 | 20=>20 | 213=>359 | 232=>389 | 233=>390 | 80=>324 | n=>n,fun | 15=>5 | 16=>6 | 17=>2 | 18=>3 | 19=>4 | n=>n⟩
theorem Tryz.laysC174:Go.Proofs.LaysC.n174 prog Tryz.laysC174_ren:={
 mixed:=by kernel_rfl
 f129:=func180.trans (congrArg some (by kernel_rfl))
 f171:=func34.trans (congrArg some (by kernel_rfl))
 f174:=func206.trans (congrArg some (by kernel_rfl))
 f205:=func238.trans (congrArg some (by kernel_rfl))
 f243:=func63.trans (congrArg some (by kernel_rfl))
 f245:=func218.trans (congrArg some (by kernel_rfl))
 f246:=func107.trans (congrArg some (by kernel_rfl))
 f247:=func217.trans (congrArg some (by kernel_rfl))
 f279:=func230.trans (congrArg some (by kernel_rfl))
 f280:=func231.trans (congrArg some (by kernel_rfl))
 f281:=func232.trans (congrArg some (by kernel_rfl))
 f282:=func233.trans (congrArg some (by kernel_rfl))
 f283:=func142.trans (congrArg some (by kernel_rfl))
 f284:=func143.trans (congrArg some (by kernel_rfl))
 f285:=func144.trans (congrArg some (by kernel_rfl))
 f286:=func145.trans (congrArg some (by kernel_rfl))
 f287:=func229.trans (congrArg some (by kernel_rfl))
 f316:=func237.trans (congrArg some (by kernel_rfl))
 f317:=func179.trans (congrArg some (by kernel_rfl))
 f318:=func181.trans (congrArg some (by kernel_rfl))
 f319:=func182.trans (congrArg some (by kernel_rfl))
 f320:=func183.trans (congrArg some (by kernel_rfl))
 f321:=func235.trans (congrArg some (by kernel_rfl))
 f322:=func236.trans (congrArg some (by kernel_rfl))
 f337:=func197.trans (congrArg some (by kernel_rfl))
 f338:=func198.trans (congrArg some (by kernel_rfl))
 t0:=underlying0
 a0:=Tryz.isAgg0
 z0:=Tryz.sizeOf0
 v0:=Tryz.zeroValue0
 t2:=underlying2
 a2:=Tryz.isAgg2
 z2:=Tryz.sizeOf2
 v2:=Tryz.zeroValue2
 t3:=underlying3
 a3:=Tryz.isAgg3
 z3:=Tryz.sizeOf3
 v3:=Tryz.zeroValue3
 t4:=underlying4
 a4:=Tryz.isAgg4
 z4:=Tryz.sizeOf4
 v4:=Tryz.zeroValue4
 t5:=underlying5
 a5:=Tryz.isAgg5
 z5:=Tryz.sizeOf5
 v5:=Tryz.zeroValue5
 t9:=underlying9
 a9:=Tryz.isAgg9
 z9:=Tryz.sizeOf9
 v9:=Tryz.zeroValue9
 t20:=underlying20
 a20:=Tryz.isAgg20
 z20:=Tryz.sizeOf20
 v20:=Tryz.zeroValue20
 t21:=underlying21
 a21:=Tryz.isAgg21
 z21:=Tryz.sizeOf21
 v21:=Tryz.zeroValue21
 t37:=underlying165
 a37:=Tryz.isAgg165
 z37:=Tryz.sizeOf165
 v37:=Tryz.zeroValue165
 t46:=underlying196
 a46:=Tryz.isAgg196
 z46:=Tryz.sizeOf196
 v46:=Tryz.zeroValue196
 t51:=underlying104
 a51:=Tryz.isAgg104
 z51:=Tryz.sizeOf104
 v51:=Tryz.zeroValue104
 t53:=underlying101
 a53:=Tryz.isAgg101
 z53:=Tryz.sizeOf101
 v53:=Tryz.zeroValue101
 t75:=underlying63
 a75:=Tryz.isAgg63
 z75:=Tryz.sizeOf63
 v75:=Tryz.zeroValue63
 t85:=underlying378
 a85:=Tryz.isAgg378
 z85:=Tryz.sizeOf378
 v85:=Tryz.zeroValue378
 t127:=underlying405
 a127:=Tryz.isAgg405
 z127:=Tryz.sizeOf405
 v127:=Tryz.zeroValue405
 t143:=underlying406
 a143:=Tryz.isAgg406
 z143:=Tryz.sizeOf406
 v143:=Tryz.zeroValue406
 t145:=underlying408
 a145:=Tryz.isAgg408
 z145:=Tryz.sizeOf408
 v145:=Tryz.zeroValue408
 t167:=underlying396
 a167:=Tryz.isAgg396
 z167:=Tryz.sizeOf396
 v167:=Tryz.zeroValue396
 t168:=underlying399
 a168:=Tryz.isAgg399
 z168:=Tryz.sizeOf399
 v168:=Tryz.zeroValue399
 t171:=underlying281
 a171:=Tryz.isAgg281
 z171:=Tryz.sizeOf281
 v171:=Tryz.zeroValue281
 t173:=underlying284
 a173:=Tryz.isAgg284
 z173:=Tryz.sizeOf284
 v173:=Tryz.zeroValue284
 t175:=underlying397
 a175:=Tryz.isAgg397
 z175:=Tryz.sizeOf397
 v175:=Tryz.zeroValue397
 t210:=underlying404
 a210:=Tryz.isAgg404
 z210:=Tryz.sizeOf404
 v210:=Tryz.zeroValue404
 t212:=underlying358
 a212:=Tryz.isAgg358
 z212:=Tryz.sizeOf358
 v212:=Tryz.zeroValue358
 t213:=underlying359
 a213:=Tryz.isAgg359
 z213:=Tryz.sizeOf359
 t232:=underlying389
 a232:=Tryz.isAgg389
 z232:=Tryz.sizeOf389
 v232:=Tryz.zeroValue389
 t233:=underlying390
 a233:=Tryz.isAgg390
 z233:=Tryz.sizeOf390
 v233:=Tryz.zeroValue390
 g15:=by kernel_rfl
 g16:=by kernel_rfl
 g17:=by kernel_rfl
 g18:=by kernel_rfl
 g19:=by kernel_rfl
 t80:=underlying324
 a80:=Tryz.isAgg324
 z80:=Tryz.sizeOf324
 v80:=Tryz.zeroValue324
 i0:=by kernel_rfl
 i2:=by kernel_rfl
 i3:=by kernel_rfl
 i4:=by kernel_rfl
 i5:=by kernel_rfl
 i9:=by kernel_rfl
 i20:=by kernel_rfl
 i21:=by kernel_rfl
 i37:=by kernel_rfl
 i46:=by kernel_rfl
 i51:=by kernel_rfl
 i53:=by kernel_rfl
 i75:=by kernel_rfl
 i80:=by kernel_rfl
 i85:=by kernel_rfl
 i127:=by kernel_rfl
 i143:=by kernel_rfl
 i145:=by kernel_rfl
 i167:=by kernel_rfl
 i168:=by kernel_rfl
 i171:=by kernel_rfl
 i173:=by kernel_rfl
 i175:=by kernel_rfl
 i210:=by kernel_rfl
 i212:=by kernel_rfl
 i232:=by kernel_rfl
 i233:=by kernel_rfl
 m15:=by kernel_rfl
 m16:=by kernel_rfl
 m17:=by kernel_rfl
 m18:=by kernel_rfl
 m19:=by kernel_rfl
 c0:=by kernel_rfl
 c2:=by kernel_rfl
 c3:=by kernel_rfl
 c4:=by kernel_rfl
 c5:=by kernel_rfl
 c9:=by kernel_rfl
 c20:=by kernel_rfl
 c21:=by kernel_rfl
 c37:=by kernel_rfl
 c46:=by kernel_rfl
 c51:=by kernel_rfl
 c53:=by kernel_rfl
 c75:=by kernel_rfl
 c80:=by kernel_rfl
 c85:=by kernel_rfl
 c127:=by kernel_rfl
 c143:=by kernel_rfl
 c145:=by kernel_rfl
 c167:=by kernel_rfl
 c168:=by kernel_rfl
 c171:=by kernel_rfl
 c173:=by kernel_rfl
 c175:=by kernel_rfl
 c210:=by kernel_rfl
 c212:=by kernel_rfl
 c213:=by kernel_rfl
 c232:=by kernel_rfl
 c233:=by kernel_rfl}
open Go.RowKit in
theorem Tryz.strconv_ParseInt_10_at64_ok(s:ByteArray)(hmax:s.size<=9223372036854775806)(v:Int)(h:Lib.parseIntB 64 s.data.toList=.ok v)(w:World) :Calls prog 206 #[.string s,.int .i64 10,.int .i64 64] w fun e w'=>e=.returned (.tuple #[.int .i64 v,.nilIface])/\(w'=w\/∃t,w'=Lib.bytesWorld w 5 t):=Any.strconv_ParseInt_10_at64_ok Tryz.laysC174 s hmax v h w
open Go.RowKit in
theorem Tryz.strconv_ParseInt_10_at64_range(s:ByteArray)(hlim:s.size<=281474976710656)(h:Lib.parseIntB 64 s.data.toList=.range)(ev:Value)(w:World)(hv:w.cell? ⟨6,0,none⟩=some ev)(hev:ev=.nilIface\/∃te pe,ev=.iface te pe) :Calls prog 206 #[.string s,.int .i64 10,.int .i64 64] w fun e w'=>∃N,e=.returned (.tuple #[.int .i64 (Lib.intSat 64 s.data.toList),.iface 399 (.pointer (some ⟨N,0,none⟩))])/\w.heap.size<=N/\w'.heap[N]?=some (.cells #[.string ⟨#[80,97,114,115,101,73,110,116]⟩,.string s,ev] 404 (0,0))/\Below w.heap.size w w':=Any.strconv_ParseInt_10_at64_range Tryz.laysC174 s hlim h ev w hv hev
end
open Pl (isDig)
section
open Go.RowKit
variable {w:World}
def stp(a:Nat)(c:UInt8):Nat:=10*a+(c.toNat-48)
theorem stp_ge(l:List UInt8):∀a:Nat,a<=l.foldl stp a:=by
 induction l with
 | nil=>intro a;exact Nat.le_refl _
 | cons c r ih=>intro a;refine Nat.le_trans ?_ (ih _);unfold stp;omega
theorem uintM(l:List UInt8):∀a:Nat,l.all isDig=true->Lib.parseUintM (2^64-1) a l=.ok (l.foldl stp a)\/(Lib.parseUintM (2^64-1) a l=.range/\Pl.big<l.foldl stp a):=by
 induction l with
 | nil=>intro a _;exact .inl rfl
 | cons c r ih =>
  intro a hd;simp only [List.all_cons,Bool.and_eq_true] at hd;have hc:=Pl.isDig_le c hd.1;have e:(c::r).foldl stp a=r.foldl stp (stp a c):=rfl;have hge:=stp_ge r (stp a c);unfold Lib.parseUintM;rw [if_pos hc,e];have e2:a*10+(c.toNat-48)=stp a c:=by unfold stp;omega
  rw [e2];by_cases h1:1844674407370955162<=a
  ·rw [if_pos h1];exact .inr ⟨rfl,by unfold Pl.big;unfold stp at hge ⊢;omega⟩
  ·rw [if_neg h1];by_cases h2:2^64-1<stp a c
   ·rw [if_pos h2];exact .inr ⟨rfl,by unfold Pl.big;omega⟩
   ·rw [if_neg h2];exact ih _ hd.2
theorem qZ(l:List UInt8):Pl.natV l=l.foldl stp 0:=rfl
theorem intB(t:List UInt8)(hn:Pl.isNum t=true)(ht:t≠[]):Lib.parseIntB 64 t=.ok (Pl.sval t)\/(Lib.parseIntB 64 t=.range/\Pl.big<Pl.natV (Pl.digs t)):=by
 cases t with
 | nil=>exact absurd rfl ht
 | cons c r =>
  unfold Lib.parseIntB;by_cases hc:c=45
  ·subst hc;have hr:r≠[]:=by rintro rfl;exact absurd hn (by decide)
   have hm:Pl.minus (45::r)=true:=by
    cases r with
    | nil=>exact absurd rfl hr
    | cons d q=>simp [Pl.minus]
   have hdg:Pl.digs (45::r)=r:=by unfold Pl.digs;rw [hm];rfl
   have hall:r.all isDig=true:=by unfold Pl.isNum at hn;rwa [hdg] at hn
   have hsv:Pl.sval (45::r)=-(Pl.natV r:Int):=by unfold Pl.sval;rw [hm,hdg];rfl
   have hp:Lib.parseUintB 64 r=Lib.parseUintM (2^64-1) 0 r:=by unfold Lib.parseUintB;rw [if_neg hr]
   have h45:((45:UInt8).toNat=43\/(45:UInt8).toNat=45):=.inr rfl;simp only [h45,if_true,hp,hdg,hsv,qZ];rcases uintM r 0 hall with h | ⟨h,hb⟩
   ·rw [h];dsimp only;rw [if_neg (by simp)];by_cases h3:2^(64-1)<r.foldl stp 0
    ·rw [if_pos ⟨rfl,h3⟩];exact .inr ⟨rfl,by unfold Pl.big;omega⟩
    ·rw [if_neg (fun h=>h3 h.2)];exact .inl rfl
   ·rw [h];exact .inr ⟨rfl,hb⟩
  ·have hm:Pl.minus (c::r)=false:=by simp [Pl.minus,hc]
   have hdg:Pl.digs (c::r)=c::r:=by unfold Pl.digs;rw [hm];rfl
   have hall:(c::r).all isDig=true:=by unfold Pl.isNum at hn;rwa [hdg] at hn
   have hsv:Pl.sval (c::r)=(Pl.natV (c::r):Int):=by unfold Pl.sval;rw [hm,hdg];rfl
   have hcd:=Pl.isDig_le c (by simp only [List.all_cons,Bool.and_eq_true] at hall;exact hall.1);have hp:Lib.parseUintB 64 (c::r)=Lib.parseUintM (2^64-1) 0 (c::r):=rfl;have h43:¬c.toNat=43:=by omega
   have h45:¬c.toNat=45:=by omega
   simp only [h43,h45,or_self,if_false,hp,hdg,hsv,qZ,not_false_eq_true,true_and,false_and];rcases uintM (c::r) 0 hall with h | ⟨h,hb⟩
   ·rw [h];dsimp only;by_cases h3:2^(64-1)<=(c::r).foldl stp 0
    ·rw [if_pos h3];exact .inr ⟨rfl,by unfold Pl.big;omega⟩
    ·rw [if_neg h3];exact .inl rfl
   ·rw [h];exact .inr ⟨rfl,hb⟩
def GE(w:World):Prop:=∃ev,w.cell? ⟨6,0,none⟩=some ev/\(ev=.nilIface\/∃te pe,ev=.iface te pe)
theorem GE.lt(h:GE w):6<w.heap.size:=by obtain⟨ev,h,_⟩:=h;exact World.block_lt_of_cell? w _ h
theorem GE.below{w':World}(h:GE w)(hb:Below w.heap.size w w'):GE w':=by have hl:=h.lt;obtain⟨ev,hc,he⟩:=h;exact⟨ev,(hb.cell (p:=⟨6,0,none⟩) hl).trans hc,he⟩
theorem GE.grown{w':World}{b:Nat}(h:GE w)(hg:w.grownBy w' (some b))(hb:6<b):GE w':=by have hl:=h.lt;obtain⟨ev,hc,he⟩:=h;refine⟨ev,(World.cell?_of_block (w:=w) (hg.block 6 hl (by simp;omega))).trans hc,he⟩
theorem qO(w:World)(b:Nat)(rest:Value)(dep dpst:Int)(g:Bool)(s:ByteArray)(h:PRd w b rest dep dpst g)(hG:GE w)(hs:s.size<=1000)(hs1:0<s.size)(hn:Pl.isNum s.data.toList=true) :Calls prog 188 #[.pointer (some ⟨b,0,none⟩),.string s] w fun e w'=>∃k:Int,e=.returned (.int .i64 k)/\(gW (Pl.sval s.data.toList)->k=Pl.sval s.data.toList)/\w.grownBy w' (some b)/\PRd w' b rest dep dpst (g||Pl.great s.data.toList):=by
 have hne:s.data.toList≠[]:=fun e=>by
  have:s.data.toList.length=s.size:=by simp
  rw [e] at this;simp at this;omega
 obtain⟨ev,hev,hev2⟩:=hG;rcases intB _ hn hne with ho | ⟨ho,hbig⟩
 ·have HO:Hid _:=ho;have HH:Hid (PRd w b rest dep dpst g):=h;have f3:=aF h 3;clear ho h hev hev2 hne;go_enter func188,ntmps188;go_wp2_with fail;refine(Tryz.strconv_ParseInt_10_at64_ok s (by omega) _ HO.out _).mono ?_;rintro e w1 ⟨rfl,hw1⟩
  have hB:Below w.heap.size w w1:=by
   rcases hw1 with rfl | ⟨t,rfl⟩
   ·exact Below.refl _ _
   ·exact Lib.bytesWorld_below _ _ _
  have HG1:Hid (w.grownBy w1 (some b)):=aQ _ hB;have HH1:Hid (PRd w1 b rest dep dpst g):=HH.out.below hB;have f1:=aF HH1.out 3;have c1:=HH1.out.cells.2.2.2;have HSv:Hid (∀X:Int,X=Pl.sval s.data.toList->(Pl.great s.data.toList=true↔(1099511627776<X\/X < -1099511627776))):=by intro X hX;subst hX;unfold Pl.great Pl.sval Pl.big;rw [decide_eq_true_eq];split<;>omega
  generalize hX:Pl.sval s.data.toList=X at *;have HX:Hid (Pl.sval s.data.toList=X):=hX;clear hX hB hw1 HH HO f3 hn;by_cases h1:1099511627776<X
  ·have HE:Hid (Pl.great s.data.toList=true):=(HSv.out X rfl).2 (.inl h1);go_wp2_with fail;go_ret;refine⟨X,rfl,fun _=>HX.out.symm,aC HG1.out (aE _ _ _ _),?_⟩;rw [HE.out,Bool.or_true];exact HH1.out.set3 true
  ·by_cases h2:X < -1099511627776
   ·have HE:Hid (Pl.great s.data.toList=true):=(HSv.out X rfl).2 (.inr h2);go_wp2_with fail;go_ret;refine⟨X,rfl,fun _=>HX.out.symm,aC HG1.out (aE _ _ _ _),?_⟩;rw [HE.out,Bool.or_true];exact HH1.out.set3 true
   ·have HE:Hid (Pl.great s.data.toList=false):=show Pl.great _=false from by
     cases hq:Pl.great s.data.toList with
     | false=>rfl
     | true=>have:=(HSv.out X rfl).1 hq;omega
    go_wp2_with fail
    go_ret;refine⟨X,rfl,fun _=>HX.out.symm,HG1.out,?_⟩;rw [HE.out,Bool.or_false];exact HH1.out
 ·have HO:Hid _:=ho;have HH:Hid (PRd w b rest dep dpst g):=h;have HE:Hid (Pl.great s.data.toList=true):=show Pl.great _=true from by unfold Pl.great;simpa using hbig
  have HNB:Hid (¬gW (Pl.sval s.data.toList)):=by unfold gW Pl.sval;intro hh;split at hh<;>omega
  have HEv:Hid (w.cell? ⟨6,0,none⟩=some ev):=hev;clear ho h hev hne hbig hn;go_enter func188,ntmps188;go_wp2_with fail;refine(Tryz.strconv_ParseInt_10_at64_range s (by omega) HO.out ev _ HEv.out hev2).mono ?_;rintro e w1 ⟨N,rfl,_,_,hB⟩;have HG1:Hid (w.grownBy w1 (some b)):=aQ _ hB;have HH1:Hid (PRd w1 b rest dep dpst g):=HH.out.below hB;have f1:=aF HH1.out 3;have c1:=HH1.out.cells.2.2.2;clear hB HH HO hev2;go_wp2_with fail;go_ret;refine⟨_,rfl,fun h=>absurd h HNB.out,aC HG1.out (aE _ _ _ _),?_⟩;rw [HE.out,Bool.or_true];exact HH1.out.set3 true
end
end Go.Proofs.YtkgbdddkcjpgfaaGreatDoor
