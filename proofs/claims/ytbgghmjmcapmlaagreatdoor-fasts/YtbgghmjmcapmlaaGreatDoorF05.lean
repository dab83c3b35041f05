import Derived.Shelf.LaysM
import Derived.Shelf.Strconv.Itoa3
import Derived.Shelf.Strconv.Itoa4
import Derived.Shelf.LaysC
import Derived.Shelf.Strconv.ParseIntPublic10
import Derived.Lib.ParseIntB
import Derived.Lib.AtoiErrMem
import Derived.Test.YtbgghmjmcapmlaaGreatDoorF04
namespace Go.Proofs.YtbgghmjmcapmlaaGreatDoor
set_option maxHeartbeats 2000000
set_option maxRecDepth 100000
open Go.Proofs.Tryz
theorem zC5{P:Prop}(h:P:=by
 refine(S6 n N _ b _ r o f g ((L.IM _).alloc _) ((((H _ _ x8 (by intro Y;first | rfl | (exfalso;omega))).grown (aE _ _ _ _) L).below b_)) (I.grown bU u) u (by simp at O;omega) (by simp at P;omega) (by simp at Q;omega) D (fun t B=>J.out t (List.mem_cons_of_mem _ B))).mono ?_;rintro e Z ⟨m,a⟩;have q:=h_ (aC bU m)
 cases x:Pl.IG (Pl.pd n) r.length r with
 | none =>rw [x] at a c;obtain⟨s,rfl⟩:=a;clear m x;have d:=h_ c;clear c;unfold aY;go_wp2_with fail;go_ret2;refine⟨q,?_⟩;rw [d.out];exact⟨s,rfl⟩
 | some p =>rw [x] at a c;obtain⟨v,K,rfl,i,j,l⟩:=a;have y:=h_ i;have z:=h_ j;have A:=h_ l;have d:=h_ c;clear m i j l x c;go_wp2_with fail;go_ret2;exact cY d q (AN.mono (fun k _ M=>by simp at M;omega) _ _ _ y) z zO9 rfl A):P:=h
theorem zC6{P:Prop}(h:P:=by
 refine(qM n N _ b _ r o f g ((L.IM _).alloc _) ((((H _ _ x8 (by intro Y;first | rfl | (exfalso;omega))).grown (aE _ _ _ _) L).below b_)) (I.grown bU u) u (by simp at O;omega) (by simp at P;omega) (by simp at Q;omega) D (fun t B=>J.out t (List.mem_cons_of_mem _ B))).mono ?_;rintro e Z ⟨m,a⟩;have q:=h_ (aC bU m)
 cases x:Pl.pd n r with
 | none =>rw [x] at a c;obtain⟨s,rfl⟩:=a;clear m x;have d:=h_ c;clear c;unfold aY;go_wp2_with fail;go_ret2;refine⟨q,?_⟩;rw [d.out];exact⟨s,rfl⟩
 | some p =>rw [x] at a c;obtain⟨v,K,rfl,i,j,l⟩:=a;have y:=h_ i;have z:=h_ j;have A:=h_ l;have d:=h_ c;clear m i j l x c;go_wp2_with fail;go_ret2;exact cY d q (AN.mono (fun k _ M=>by simp at M;omega) _ _ _ y) z zO9 rfl A):P:=h
theorem zC7{P:Prop}(h:P:=by go_ret2;exact cY d (aC (aE _ _ _ _) (World.grownBy_alloc _ _ _)) (AN.up 1 _ _ _ x8 rfl) ((k.IM _).alloc _) zO9 w9 (((j _ _ x8 (by intro x;first | rfl | (exfalso;omega))).grown (aE _ _ _ _) k).below b_)):P:=h
theorem zC8{P:Prop}(h:P:=by refine(qO _ b _ d a g _ ((j.IM _).alloc _) (u.grown bU m) (by simpa [ByteArray.size] using p) (by simpa [ByteArray.size] using o) (by simpa using F.out)).mono ?_;rintro e O ⟨k,rfl,f,i,c⟩;have A:=h_ f;have z:=h_ i;have B:=h_ c;clear f i c;go_wp2_with fail;go_ret2;refine cY s (aC bU z) ⟨_,rfl,A⟩ B zO9 w9 ?_;exact((((y _ _ x8 (by intro P;first | rfl | (exfalso;omega))).grown (aE _ _ _ _) j).below b_)).grown z ((j.IM _).alloc _)):P:=h
theorem zC9{P:Prop}(h:P:=by go_enter func73,ntmps73;go_wp2_with fail;go_ret;exact⟨rfl,rfl⟩):P:=h
theorem zD0{P:Prop}(h:P:=by refine(oW _ b _ _ _ _ (a.rd.IM _) x8).mono ?_;rintro e w3 ⟨rfl,z,j⟩;have l:Hid (wr.grownBy w3 (some b)):=aC (aE _ _ _ _) z;have J:=h_ j;clear z j c0 c1 c2 c3 f0;go_wp2_with fail;go_ret2;refine⟨aC a.grown l,?_⟩;rw [i.out];refine⟨_,_,rfl,a.done hr l,J.cast x8 rfl rfl,?_⟩;exact(W _ _ x8 zM5).grown l a.rd):P:=h
theorem zD1{P:Prop}(h:P:=by go_ret2;exact cY f (aC (aE _ _ _ _) (World.grownBy_alloc _ _ _)) (AN.up 1 _ _ _ x8 rfl) ((l.IM _).alloc _) zO9 w9 (((k _ _ x8 (by intro A;first | rfl | (exfalso;omega))).grown (aE _ _ _ _) l).below b_)):P:=h
theorem zD2{P:Prop}(h:P:=by
 go_enter func60,ntmps60
 go_wp2_with fail
 go_ret;exact⟨by rw [a.out];rfl,rfl⟩):P:=h
theorem zD3{P:Prop}(h:P:=by
 go_enter func60,ntmps60
 go_wp2_with (go_at_call 73;refine(p_isKeyword _ _).mono ?_;rintro e i ⟨rfl,rfl⟩)
 go_ret;exact⟨by rw [a.out];rfl,rfl⟩):P:=h
theorem zD4{P:Prop}(h:P:=by go_wp2_with fail;go_ret;refine⟨X,rfl,fun _=>A.symm,aC d (aE _ _ _ _),?_⟩;rw [o.out,Bool.or_true];exact a.FA true):P:=h
section
open Go.Shelf
def Tryz.MS:Go.Shelf.Ren:=⟨fun | 171=>46 | 243=>58 | 246=>70 | 283=>85 | 284=>86 | 285=>87 | 286=>88 | 129=>111 | 317=>110 | 318=>112 | 319=>113 | 320=>114 | 337=>129 | 338=>130 | n=>n,fun | 3=>3 | 9=>9 | 2=>2 | 4=>4 | 171=>222 | 0=>0 | 53=>223 | 37=>226 | 5=>5 | 173=>227 | 212=>252 | 51=>59 | 20=>20 | 213=>253 | 46=>254 | 232=>283 | 233=>284 | n=>n,fun | 17=>2 | 18=>3 | 19=>4 | n=>n⟩
theorem Tryz.TM:Go.Proofs.LaysM.n171 prog Tryz.MS:={
 mixed:=by kernel_rfl
 f129:=func111.trans (congrArg some t8)
 f171:=func46.trans (congrArg some t8)
 f243:=func58.trans (congrArg some t8)
 f246:=func70.trans (congrArg some t8)
 f283:=func85.trans (congrArg some t8)
 f284:=func86.trans (congrArg some t8)
 f285:=func87.trans (congrArg some t8)
 f286:=func88.trans (congrArg some t8)
 f317:=func110.trans (congrArg some t8)
 f318:=func112.trans (congrArg some t8)
 f319:=func113.trans (congrArg some t8)
 f320:=func114.trans (congrArg some t8)
 f337:=func129.trans (congrArg some t8)
 f338:=func130.trans (congrArg some t8)
 t0:=underlying0
 a0:=Tryz.isAgg0
 z0:=Tryz.sizeOf0
 v0:=Tryz.zeroValue0
 t2:=underlying2
 a2:=Tryz.isAgg2
 z2:=Tryz.sizeOf2
 v2:=Tryz.zeroValue2
 t3:=underlying3
 a3:=Tryz.isAgg3
 z3:=Tryz.sizeOf3
 v3:=Tryz.zeroValue3
 t4:=underlying4
 a4:=Tryz.isAgg4
 z4:=Tryz.sizeOf4
 v4:=Tryz.zeroValue4
 t5:=underlying5
 a5:=Tryz.isAgg5
 z5:=Tryz.sizeOf5
 v5:=Tryz.zeroValue5
 t9:=underlying9
 a9:=Tryz.isAgg9
 z9:=Tryz.sizeOf9
 v9:=Tryz.zeroValue9
 t20:=underlying20
 a20:=Tryz.isAgg20
 z20:=Tryz.sizeOf20
 v20:=Tryz.zeroValue20
 t37:=underlying226
 a37:=Tryz.isAgg226
 z37:=Tryz.sizeOf226
 v37:=Tryz.zeroValue226
 t46:=underlying254
 a46:=Tryz.isAgg254
 z46:=Tryz.sizeOf254
 v46:=Tryz.zeroValue254
 t51:=underlying59
 a51:=Tryz.isAgg59
 z51:=Tryz.sizeOf59
 v51:=Tryz.zeroValue59
 t53:=underlying223
 a53:=Tryz.isAgg223
 z53:=Tryz.sizeOf223
 v53:=Tryz.zeroValue223
 t171:=underlying222
 a171:=Tryz.isAgg222
 z171:=Tryz.sizeOf222
 v171:=Tryz.zeroValue222
 t173:=underlying227
 a173:=Tryz.isAgg227
 z173:=Tryz.sizeOf227
 v173:=Tryz.zeroValue227
 t212:=underlying252
 a212:=Tryz.isAgg252
 z212:=Tryz.sizeOf252
 v212:=Tryz.zeroValue252
 t213:=underlying253
 a213:=Tryz.isAgg253
 z213:=Tryz.sizeOf253
 t232:=underlying283
 a232:=Tryz.isAgg283
 z232:=Tryz.sizeOf283
 v232:=Tryz.zeroValue283
 t233:=underlying284
 a233:=Tryz.isAgg284
 z233:=Tryz.sizeOf284
 v233:=Tryz.zeroValue284
 g17:=by kernel_rfl
 g18:=by kernel_rfl
 g19:=by kernel_rfl
 i0:=by kernel_rfl
 i2:=by kernel_rfl
 i3:=by kernel_rfl
 i4:=by kernel_rfl
 i5:=by kernel_rfl
 i9:=by kernel_rfl
 i20:=by kernel_rfl
 i37:=by kernel_rfl
 i46:=by kernel_rfl
 i51:=by kernel_rfl
 i53:=by kernel_rfl
 i171:=by kernel_rfl
 i173:=by kernel_rfl
 i212:=by kernel_rfl
 i232:=by kernel_rfl
 i233:=by kernel_rfl
 m17:=by kernel_rfl
 m18:=by kernel_rfl
 m19:=by kernel_rfl}
open Go.RowKit Go.Sort Go.Lib in
theorem Tryz.strconv_Itoa(n:Int)(b : -9223372036854775808<=n)(c:n<=9223372036854775807)(w:World)(a:Lib.TabIs prog w "internal/strconv.uint64pow10" .u64 Lib.pow10Tab) :Q2 46 #[Q1 n] w fun e d=>e=.returned (.string ⟨(Lib.itoa n).toArray⟩)/\∃k f,d=grow (w.drewN k) f:=Any.strconv_Itoa Tryz.TM n b c w a
open Go.RowKit Go.Sort Go.Lib in
def Tryz.MR:Go.Shelf.Ren:=⟨fun | 173=>288 | 246=>70 | 283=>85 | 284=>86 | 285=>87 | 286=>88 | 129=>111 | 317=>110 | 318=>112 | 319=>113 | 320=>114 | 337=>129 | 338=>130 | n=>n,fun | 2=>2 | 3=>3 | 9=>9 | 4=>4 | 171=>222 | 0=>0 | 53=>223 | 37=>226 | 5=>5 | 173=>227 | 212=>252 | 51=>59 | 20=>20 | 213=>253 | 46=>254 | 232=>283 | 233=>284 | n=>n,fun | 17=>2 | 18=>3 | 19=>4 | n=>n⟩
theorem Tryz.TL:Go.Proofs.LaysM.n173 prog Tryz.MR:={
 mixed:=by kernel_rfl
 f129:=func111.trans (congrArg some t8)
 f173:=func288.trans (congrArg some t8)
 f246:=func70.trans (congrArg some t8)
 f283:=func85.trans (congrArg some t8)
 f284:=func86.trans (congrArg some t8)
 f285:=func87.trans (congrArg some t8)
 f286:=func88.trans (congrArg some t8)
 f317:=func110.trans (congrArg some t8)
 f318:=func112.trans (congrArg some t8)
 f319:=func113.trans (congrArg some t8)
 f320:=func114.trans (congrArg some t8)
 f337:=func129.trans (congrArg some t8)
 f338:=func130.trans (congrArg some t8)
 t0:=underlying0
 a0:=Tryz.isAgg0
 z0:=Tryz.sizeOf0
 v0:=Tryz.zeroValue0
 t2:=underlying2
 a2:=Tryz.isAgg2
 z2:=Tryz.sizeOf2
 v2:=Tryz.zeroValue2
 t3:=underlying3
 a3:=Tryz.isAgg3
 z3:=Tryz.sizeOf3
 v3:=Tryz.zeroValue3
 t4:=underlying4
 a4:=Tryz.isAgg4
 z4:=Tryz.sizeOf4
 v4:=Tryz.zeroValue4
 t5:=underlying5
 a5:=Tryz.isAgg5
 z5:=Tryz.sizeOf5
 v5:=Tryz.zeroValue5
 t9:=underlying9
 a9:=Tryz.isAgg9
 z9:=Tryz.sizeOf9
 v9:=Tryz.zeroValue9
 t20:=underlying20
 a20:=Tryz.isAgg20
 z20:=Tryz.sizeOf20
 v20:=Tryz.zeroValue20
 t37:=underlying226
 a37:=Tryz.isAgg226
 z37:=Tryz.sizeOf226
 v37:=Tryz.zeroValue226
 t46:=underlying254
 a46:=Tryz.isAgg254
 z46:=Tryz.sizeOf254
 v46:=Tryz.zeroValue254
 t51:=underlying59
 a51:=Tryz.isAgg59
 z51:=Tryz.sizeOf59
 v51:=Tryz.zeroValue59
 t53:=underlying223
 a53:=Tryz.isAgg223
 z53:=Tryz.sizeOf223
 v53:=Tryz.zeroValue223
 t171:=underlying222
 a171:=Tryz.isAgg222
 z171:=Tryz.sizeOf222
 v171:=Tryz.zeroValue222
 t173:=underlying227
 a173:=Tryz.isAgg227
 z173:=Tryz.sizeOf227
 v173:=Tryz.zeroValue227
 t212:=underlying252
 a212:=Tryz.isAgg252
 z212:=Tryz.sizeOf252
 v212:=Tryz.zeroValue252
 t213:=underlying253
 a213:=Tryz.isAgg253
 z213:=Tryz.sizeOf253
 t232:=underlying283
 a232:=Tryz.isAgg283
 z232:=Tryz.sizeOf283
 v232:=Tryz.zeroValue283
 t233:=underlying284
 a233:=Tryz.isAgg284
 z233:=Tryz.sizeOf284
 v233:=Tryz.zeroValue284
 g17:=by kernel_rfl
 g18:=by kernel_rfl
 g19:=by kernel_rfl
 i0:=by kernel_rfl
 i2:=by kernel_rfl
 i3:=by kernel_rfl
 i4:=by kernel_rfl
 i5:=by kernel_rfl
 i9:=by kernel_rfl
 i20:=by kernel_rfl
 i37:=by kernel_rfl
 i46:=by kernel_rfl
 i51:=by kernel_rfl
 i53:=by kernel_rfl
 i171:=by kernel_rfl
 i173:=by kernel_rfl
 i212:=by kernel_rfl
 i232:=by kernel_rfl
 i233:=by kernel_rfl
 m17:=by kernel_rfl
 m18:=by kernel_rfl
 m19:=by kernel_rfl}
open Go.RowKit Go.Sort Go.Lib in
theorem Tryz.strconv_FormatInt_10(n:Int)(b : -9223372036854775808<=n)(c:n<=9223372036854775807)(w:World)(a:Lib.TabIs prog w "internal/strconv.uint64pow10" .u64 Lib.pow10Tab) :Q2 288 #[Q1 n,Q1 10] w fun e d=>e=.returned (.string ⟨(Lib.itoa n).toArray⟩)/\∃k f,d=grow (w.drewN k) f:=Any.strconv_FormatInt_10 Tryz.TL n b c w a
def Tryz.MT:Go.Shelf.Ren:=⟨fun | 174=>138 | 247=>144 | 245=>145 | 287=>149 | 279=>150 | 280=>151 | 281=>152 | 282=>153 | 321=>155 | 322=>156 | 316=>157 | 171=>46 | 205=>158 | 243=>58 | 246=>70 | 283=>85 | 284=>86 | 285=>87 | 286=>88 | 129=>111 | 317=>110 | 318=>112 | 319=>113 | 320=>114 | 337=>129 | 338=>130 | n=>n,fun | 9=>9 | 3=>3 | 2=>2 | 75=>72 | 85=>280 | 4=>4 | 167=>289 | 5=>5 | 53=>223 | 175=>290 | 46=>254 | 168=>292 | 37=>226 | 0=>0 | 210=>297 | 21=>21 | 127=>298 | 145=>301 | 143=>299 | 171=>222 | 173=>227 | 212=>252 | 51=>59 | 20=>20 | 213=>253 | 232=>283 | 233=>284 | 80=>302 | n=>n,fun | 15=>5 | 16=>6 | 17=>2 | 18=>3 | 19=>4 | n=>n⟩
theorem Tryz.N5:Go.Proofs.LaysC.n174 prog Tryz.MT:={
 mixed:=by kernel_rfl
 f129:=func111.trans (congrArg some t8)
 f171:=func46.trans (congrArg some t8)
 f174:=func138.trans (congrArg some t8)
 f205:=func158.trans (congrArg some t8)
 f243:=func58.trans (congrArg some t8)
 f245:=func145.trans (congrArg some t8)
 f246:=func70.trans (congrArg some t8)
 f247:=func144.trans (congrArg some t8)
 f279:=func150.trans (congrArg some t8)
 f280:=func151.trans (congrArg some t8)
 f281:=func152.trans (congrArg some t8)
 f282:=func153.trans (congrArg some t8)
 f283:=func85.trans (congrArg some t8)
 f284:=func86.trans (congrArg some t8)
 f285:=func87.trans (congrArg some t8)
 f286:=func88.trans (congrArg some t8)
 f287:=func149.trans (congrArg some t8)
 f316:=func157.trans (congrArg some t8)
 f317:=func110.trans (congrArg some t8)
 f318:=func112.trans (congrArg some t8)
 f319:=func113.trans (congrArg some t8)
 f320:=func114.trans (congrArg some t8)
 f321:=func155.trans (congrArg some t8)
 f322:=func156.trans (congrArg some t8)
 f337:=func129.trans (congrArg some t8)
 f338:=func130.trans (congrArg some t8)
 t0:=underlying0
 a0:=Tryz.isAgg0
 z0:=Tryz.sizeOf0
 v0:=Tryz.zeroValue0
 t2:=underlying2
 a2:=Tryz.isAgg2
 z2:=Tryz.sizeOf2
 v2:=Tryz.zeroValue2
 t3:=underlying3
 a3:=Tryz.isAgg3
 z3:=Tryz.sizeOf3
 v3:=Tryz.zeroValue3
 t4:=underlying4
 a4:=Tryz.isAgg4
 z4:=Tryz.sizeOf4
 v4:=Tryz.zeroValue4
 t5:=underlying5
 a5:=Tryz.isAgg5
 z5:=Tryz.sizeOf5
 v5:=Tryz.zeroValue5
 t9:=underlying9
 a9:=Tryz.isAgg9
 z9:=Tryz.sizeOf9
 v9:=Tryz.zeroValue9
 t20:=underlying20
 a20:=Tryz.isAgg20
 z20:=Tryz.sizeOf20
 v20:=Tryz.zeroValue20
 t21:=underlying21
 a21:=Tryz.isAgg21
 z21:=Tryz.sizeOf21
 v21:=Tryz.zeroValue21
 t37:=underlying226
 a37:=Tryz.isAgg226
 z37:=Tryz.sizeOf226
 v37:=Tryz.zeroValue226
 t46:=underlying254
 a46:=Tryz.isAgg254
 z46:=Tryz.sizeOf254
 v46:=Tryz.zeroValue254
 t51:=underlying59
 a51:=Tryz.isAgg59
 z51:=Tryz.sizeOf59
 v51:=Tryz.zeroValue59
 t53:=underlying223
 a53:=Tryz.isAgg223
 z53:=Tryz.sizeOf223
 v53:=Tryz.zeroValue223
 t75:=underlying72
 a75:=Tryz.isAgg72
 z75:=Tryz.sizeOf72
 v75:=Tryz.zeroValue72
 t85:=underlying280
 a85:=Tryz.isAgg280
 z85:=Tryz.sizeOf280
 v85:=Tryz.zeroValue280
 t127:=underlying298
 a127:=Tryz.isAgg298
 z127:=Tryz.sizeOf298
 v127:=Tryz.zeroValue298
 t143:=underlying299
 a143:=Tryz.isAgg299
 z143:=Tryz.sizeOf299
 v143:=Tryz.zeroValue299
 t145:=underlying301
 a145:=Tryz.isAgg301
 z145:=Tryz.sizeOf301
 v145:=Tryz.zeroValue301
 t167:=underlying289
 a167:=Tryz.isAgg289
 z167:=Tryz.sizeOf289
 v167:=Tryz.zeroValue289
 t168:=underlying292
 a168:=Tryz.isAgg292
 z168:=Tryz.sizeOf292
 v168:=Tryz.zeroValue292
 t171:=underlying222
 a171:=Tryz.isAgg222
 z171:=Tryz.sizeOf222
 v171:=Tryz.zeroValue222
 t173:=underlying227
 a173:=Tryz.isAgg227
 z173:=Tryz.sizeOf227
 v173:=Tryz.zeroValue227
 t175:=underlying290
 a175:=Tryz.isAgg290
 z175:=Tryz.sizeOf290
 v175:=Tryz.zeroValue290
 t210:=underlying297
 a210:=Tryz.isAgg297
 z210:=Tryz.sizeOf297
 v210:=Tryz.zeroValue297
 t212:=underlying252
 a212:=Tryz.isAgg252
 z212:=Tryz.sizeOf252
 v212:=Tryz.zeroValue252
 t213:=underlying253
 a213:=Tryz.isAgg253
 z213:=Tryz.sizeOf253
 t232:=underlying283
 a232:=Tryz.isAgg283
 z232:=Tryz.sizeOf283
 v232:=Tryz.zeroValue283
 t233:=underlying284
 a233:=Tryz.isAgg284
 z233:=Tryz.sizeOf284
 v233:=Tryz.zeroValue284
 g15:=by kernel_rfl
 g16:=by kernel_rfl
 g17:=by kernel_rfl
 g18:=by kernel_rfl
 g19:=by kernel_rfl
 t80:=underlying302
 a80:=Tryz.isAgg302
 z80:=Tryz.sizeOf302
 v80:=Tryz.zeroValue302
 i0:=by kernel_rfl
 i2:=by kernel_rfl
 i3:=by kernel_rfl
 i4:=by kernel_rfl
 i5:=by kernel_rfl
 i9:=by kernel_rfl
 i20:=by kernel_rfl
 i21:=by kernel_rfl
 i37:=by kernel_rfl
 i46:=by kernel_rfl
 i51:=by kernel_rfl
 i53:=by kernel_rfl
 i75:=by kernel_rfl
 i80:=by kernel_rfl
 i85:=by kernel_rfl
 i127:=by kernel_rfl
 i143:=by kernel_rfl
 i145:=by kernel_rfl
 i167:=by kernel_rfl
 i168:=by kernel_rfl
 i171:=by kernel_rfl
 i173:=by kernel_rfl
 i175:=by kernel_rfl
 i210:=by kernel_rfl
 i212:=by kernel_rfl
 i232:=by kernel_rfl
 i233:=by kernel_rfl
 m15:=by kernel_rfl
 m16:=by kernel_rfl
 m17:=by kernel_rfl
 m18:=by kernel_rfl
 m19:=by kernel_rfl
 c0:=by kernel_rfl
 c2:=by kernel_rfl
 c3:=by kernel_rfl
 c4:=by kernel_rfl
 c5:=by kernel_rfl
 c9:=by kernel_rfl
 c20:=by kernel_rfl
 c21:=by kernel_rfl
 c37:=by kernel_rfl
 c46:=by kernel_rfl
 c51:=by kernel_rfl
 c53:=by kernel_rfl
 c75:=by kernel_rfl
 c80:=by kernel_rfl
 c85:=by kernel_rfl
 c127:=by kernel_rfl
 c143:=by kernel_rfl
 c145:=by kernel_rfl
 c167:=by kernel_rfl
 c168:=by kernel_rfl
 c171:=by kernel_rfl
 c173:=by kernel_rfl
 c175:=by kernel_rfl
 c210:=by kernel_rfl
 c212:=by kernel_rfl
 c213:=by kernel_rfl
 c232:=by kernel_rfl
 c233:=by kernel_rfl}
open Go.RowKit in
theorem Tryz.strconv_ParseInt_10_at64_ok(s:Q8)(a:s.size<=9223372036854775806)(v:Int)(h:Lib.parseIntB 64 s.data.toList=.ok v)(w:World) :Q2 138 #[.string s,Q1 10,Q1 64] w fun e b=>e=.returned (.tuple #[Q1 v,.nilIface])/\(b=w\/∃t,b=Lib.bytesWorld w 5 t):=Any.strconv_ParseInt_10_at64_ok Tryz.N5 s a v h w
open Go.RowKit in
theorem Tryz.strconv_ParseInt_10_at64_range(s:Q8)(a:s.size<=281474976710656)(h:Lib.parseIntB 64 s.data.toList=.range)(ev:Value)(w:World)(d:w.cell? ⟨6,0,none⟩=some ev)(b:ev=.nilIface\/∃f g,ev=.iface f g) :Q2 138 #[.string s,Q1 10,Q1 64] w fun e c=>∃N,e=.returned (.tuple #[Q1 (Lib.intSat 64 s.data.toList),.iface 292 (Q0 N)])/\w.heap.size<=N/\c.heap[N]?=some (.cells #[.string ⟨#[80,97,114,115,101,73,110,116]⟩,.string s,ev] 297 (0,0))/\Q3 w c:=Any.strconv_ParseInt_10_at64_range Tryz.N5 s a h ev w d b
end
open Pl (PV EE CV AL A3)
section
open Go.RowKit
variable {w w':World} {n b dep dpst dpk:Nat} {v rest items:Value} {bs t s:Q7} {l r:Q6} {g gk:Bool} {ok:Q5} {vs:List Value}
def AQ(a:Nat)(c:UInt8):Nat:=10*a+(c.toNat-48)
theorem p_(l:Q7):∀a:Nat,a<=l.foldl AQ a:=by
 induction l with
 | nil=>intro a;exact n_
 | cons c r b=>intro a;refine t_ ?_ (b _);unfold AQ;omega
theorem ZW(l:Q7):∀a:Nat,l.all A3=true->Lib.parseUintM (2^64-1) a l=.ok (l.foldl AQ a)\/(Lib.parseUintM (2^64-1) a l=.range/\Pl.CG<l.foldl AQ a):=by
 induction l with
 | nil=>intro a _;exact .inl rfl
 | cons c r h =>
  intro a b;simp only [List.all_cons,Bool.and_eq_true] at b;have i:=Pl.OB c b.1;have e:(c::r).foldl AQ a=r.foldl AQ (AQ a c):=rfl;have d:=p_ r (AQ a c);unfold Lib.parseUintM;rw [if_pos i,e];have j:a*10+(c.toNat-48)=AQ a c:=by unfold AQ;omega
  rw [j];by_cases f:1844674407370955162<=a
  ·rw [if_pos f];exact .inr ⟨rfl,by unfold Pl.CG;unfold AQ at d ⊢;omega⟩
  ·rw [if_neg f];by_cases g:2^64-1<AQ a c
   ·rw [if_pos g];exact .inr ⟨rfl,by unfold Pl.CG;omega⟩
   ·rw [if_neg g];exact h _ b.2
theorem qZ(l:Q7):Pl.F5 l=l.foldl AQ 0:=rfl
theorem intB(t:Q7)(g:Pl.isNum t=true)(p:t≠[]):Lib.parseIntB 64 t=.ok (Pl.F3 t)\/(Lib.parseIntB 64 t=.range/\Pl.CG<Pl.F5 (Pl.EY t)):=by
 cases t with
 | nil=>exact absurd rfl p
 | cons c r =>
  unfold Lib.parseIntB;by_cases n:c=45
  ·subst n;have o:r≠[]:=by rintro rfl;exact absurd g w8
   have i:Pl.minus (45::r)=true:=by
    cases r with
    | nil=>exact absurd rfl o
    | cons d q=>simp [Pl.minus]
   have b:Pl.EY (45::r)=r:=by unfold Pl.EY;rw [i];rfl
   have a:r.all A3=true:=by unfold Pl.isNum at g;rwa [b] at g
   have e:Pl.F3 (45::r)=-(Pl.F5 r:Int):=by unfold Pl.F3;rw [i,b];rfl
   have k:Lib.parseUintB 64 r=Lib.parseUintM (2^64-1) 0 r:=by unfold Lib.parseUintB;rw [if_neg o]
   have f:((45:UInt8).toNat=43\/(45:UInt8).toNat=45):=.inr rfl;simp only [f,if_true,k,b,e,qZ];rcases ZW r 0 a with h | ⟨h,l⟩
   ·rw [h];dsimp only;rw [if_neg w9];by_cases j:2^(64-1)<r.foldl AQ 0
    ·rw [if_pos ⟨rfl,j⟩];exact .inr ⟨rfl,by unfold Pl.CG;omega⟩
    ·rw [if_neg (fun h=>j h.2)];exact .inl rfl
   ·rw [h];exact .inr ⟨rfl,l⟩
  ·have i:Pl.minus (c::r)=false:=by simp [Pl.minus,n]
   have b:Pl.EY (c::r)=c::r:=by unfold Pl.EY;rw [i];rfl
   have a:(c::r).all A3=true:=by unfold Pl.isNum at g;rwa [b] at g
   have e:Pl.F3 (c::r)=(Pl.F5 (c::r):Int):=by unfold Pl.F3;rw [i,b];rfl
   have s:=Pl.OB c (by simp only [List.all_cons,Bool.and_eq_true] at a;exact a.1);have k:Lib.parseUintB 64 (c::r)=Lib.parseUintM (2^64-1) 0 (c::r):=rfl;have m:¬c.toNat=43:=by omega
   have f:¬c.toNat=45:=by omega
   simp only [m,f,or_self,if_false,k,b,e,qZ,not_false_eq_true,true_and,false_and];rcases ZW (c::r) 0 a with h | ⟨h,l⟩
   ·rw [h];dsimp only;by_cases j:2^(64-1)<=(c::r).foldl AQ 0
    ·rw [if_pos j];exact .inr ⟨rfl,by unfold Pl.CG;omega⟩
    ·rw [if_neg j];exact .inl rfl
   ·rw [h];exact .inr ⟨rfl,l⟩
def GE(w:World):Prop:=∃ev,w.cell? ⟨6,0,none⟩=some ev/\(ev=.nilIface\/∃te pe,ev=.iface te pe)
theorem GE.lt(h:GE w):6<w.heap.size:=by obtain⟨a,h,_⟩:=h;exact World.block_lt_of_cell? w _ h
theorem GE.below(h:GE w)(a:Q3 w w'):GE w':=by have b:=h.lt;obtain⟨c,d,e⟩:=h;exact⟨c,(a.cell (p:=⟨6,0,none⟩) b).trans d,e⟩
theorem GE.grown(h:GE w)(a:w.grownBy w' (some b))(g:6<b):GE w':=by have c:=h.lt;obtain⟨d,e,f⟩:=h;refine⟨d,(World.cell?_of_block (w:=w) (a.block 6 c r7)).trans e,f⟩
theorem qO(w:World)(b:Nat)(rest:Value)(p f:Int)(g:Bool)(s:Q8)(h:EW w b rest p f g)(E:GE w)(P:s.size<=1000)(F:0<s.size)(z:Pl.isNum s.data.toList=true) :Q2 119 #[Q0 b,.string s] w fun e D=>∃k:Int,e=.returned (Q1 k)/\(gW (Pl.F3 s.data.toList)->k=Pl.F3 s.data.toList)/\w.grownBy D (some b)/\EW D b rest p f (g||Pl.ER s.data.toList):=by
 have j:s.data.toList≠[]:=fun e=>by
  have:s.data.toList.length=s.size:=by simp
  rw [e] at this;simp at this;omega
 obtain⟨G,l,c⟩:=E;rcases intB _ z j with q | ⟨q,i⟩
 ·have r:=h_ q;have u:=h_ h;have H:=aF h 3;clear q h l c j;go_enter func119,ntmps119;go_wp2_with fail;refine(Tryz.strconv_ParseInt_10_at64_ok s x8 _ r _).mono ?_;rintro e x ⟨rfl,v⟩
  have m:Q3 w x:=by
   rcases v with rfl | ⟨t,rfl⟩
   ·exact r_
   ·exact Lib.bytesWorld_below _ _ _
  have d:Hid (w.grownBy x (some b)):=aQ _ m;have a:=h_ (u.below m);have I:=aF a 3;have J:=a.cells.2.2.2;have n:Hid (∀X:Int,X=Pl.F3 s.data.toList->(Pl.ER s.data.toList=true↔(1099511627776<X\/X < -1099511627776))):=by intro X y;subst y;unfold Pl.ER Pl.F3 Pl.CG;rw [decide_eq_true_eq];split<;>omega
  generalize y:Pl.F3 s.data.toList=X at *;have A:=h_ y;clear y m v u r H z;by_cases K:1099511627776<X
  ·have o:Hid (Pl.ER s.data.toList=true):=(n X rfl).2 (.inl K);exact zD4
  ·by_cases L:X < -1099511627776
   ·have o:Hid (Pl.ER s.data.toList=true):=(n X rfl).2 (.inr L);exact zD4
   ·have o:Hid (Pl.ER s.data.toList=false):=show Pl.ER _=false from by
     cases M:Pl.ER s.data.toList with
     | false=>rfl
     | true=>have:=(n X rfl).1 M;omega
    go_wp2_with fail
    go_ret;refine⟨X,rfl,fun _=>A.symm,d,?_⟩;rw [o.out,Bool.or_false];exact a
 ·have r:=h_ q;have u:=h_ h;have o:Hid (Pl.ER s.data.toList=true):=show Pl.ER _=true from by unfold Pl.ER;simpa using i
  have B:Hid (¬gW (Pl.F3 s.data.toList)):=by unfold gW Pl.F3;intro O;split at O<;>omega
  have C:=h_ l;clear q h l j i z;go_enter func119,ntmps119;go_wp2_with fail;refine(Tryz.strconv_ParseInt_10_at64_range s x8 r G _ C c).mono ?_;rintro e x ⟨N,rfl,_,_,m⟩;have d:Hid (w.grownBy x (some b)):=aQ _ m;have a:=h_ (u.below m);have I:=aF a 3;have J:=a.cells.2.2.2;clear m u r c;go_wp2_with fail;go_ret;refine⟨_,rfl,fun h=>absurd h B,aC d (aE _ _ _ _),?_⟩;rw [o.out,Bool.or_true];exact a.FA true
def N_(t:Q7):Prop:=(cE t<4\/Pl.isNum t=true\/Pl.DZ t=true)/\0<t.length/\t.length<=1000
def F1(n:Nat)(w:World)(b dep dpst:Nat)(g:Bool)(l:Q6)(e:Ending)(w':World):Prop :=
 w.grownBy w' (some b) /\
 match Pl.pd n l with
 | none=>∃s,e=.returned (.tuple #[.nilIface,aY s 2])
 | some p=>∃v rest',e=.returned (.tuple #[v,.nilIface])/\AN (fun k=>w.heap.size<=k) n w' v p.t/\EW w' b rest' dep ((max dpst (dep+p.dp):Nat):Int) (g||p.gr)/\DG w' rest' p.q
def LJ(n:Nat):Prop:=∀(w:World)(b:Nat)(rest:Value) (l:Q6) (dep dpst:Nat) (g:Bool),EW w b rest dep dpst g->DG w rest l->GE w->6<b->l.length<=n->l.length<=1000->dep+l.length<=2000->dep<=dpst->(∀t∈l,N_ t) ->
 Q2 91 #[Q0 b] w fun e w'=>F1 n w b dep dpst g l e w'
structure L6(n:Nat)(w wr:World)(b:Nat)(r:Q6)(dep dpst:Nat)(g:Bool)(q:Q6)(rest items:Value)(ts:List Tr)(vs:List Value)(dpk:Nat)(gk:Bool):Prop where
 LQ:q <:+ r
 len:ts.length+q.length<=r.length
 lf:Pl.LF (Pl.pd n) r ts dpk gk q
 rd:EW wr b rest ((dep+1:Nat):Int) ((max dpst (dep+1+dpk):Nat):Int) (g||gk)
 tk:DG wr rest q
 row:wr.ownsRow w.heap.size PT 1 items ts.length vs
 KG:∀(i:Nat)(u:Value)(x:Tr),vs[i]?=some u->ts[i]?=some x->AN (fun k=>w.heap.size<=k/\items.ownBlock≠some k) n wr u x
 one:∀u∈vs,u.oneCell'=true
 grown:w.grownBy wr (some b)
 ge:GE wr
 bw:b<w.heap.size
theorem L6.start{w1:World}(h:EW w1 b rest ((dep+1:Nat):Int) ((max dpst (dep+1):Nat):Int) g)(e:DG w1 rest r)(d:w.grownBy w1 (some b))(a:GE w1)(f:b<w.heap.size)(o:Obj)(j:o=.cells #[] PT (0,0)) :L6 n w (w1.alloc o) b r dep dpst g r rest (.slice (some ⟨w1.heap.size,0,none⟩) 0 0) [] [] 0 false where
 LQ:=List.suffix_refl _
 len:=by simp
 lf:=Pl.LF.start _ _
 rd:=(h.alloc o).cast rfl x8 w9
 tk:=e.below (r_.alloc n_ o)
 row:=⟨rfl,.inr ⟨w1.heap.size,0,#[],rfl,d.size,by rw [j];exact heap_alloc_new _ _,n_,o6,rfl,rfl⟩⟩
 KG:=fun i u x c=>by simp at c
 one:=fun u c=>by simp at c
 grown:=aC d (World.grownBy_alloc _ _ _)
 ge:=a.below (r_.alloc n_ o)
 bw:=f
structure PMid(n:Nat)(w w2:World)(b:Nat)(r:Q6)(dep dpst:Nat)(g:Bool)(p:Pl.PR)(rest items:Value)(ts:List Tr)(vs:List Value)(v:Value)(dpk:Nat)(gk:Bool):Prop where
 LQ:p.q <:+ r
 len:ts.length+1+p.q.length<=r.length
 lf:Pl.LF (Pl.pd n) r (ts++[p.t]) (max dpk p.dp) (gk||p.gr) p.q
 rd:EW w2 b rest ((dep+1:Nat):Int) ((max dpst (dep+1+max dpk p.dp):Nat):Int) (g||(gk||p.gr))
 tk:DG w2 rest p.q
 row:w2.ownsRow w.heap.size PT 1 items ts.length vs
 KG:∀(i:Nat)(u:Value)(x:Tr),vs[i]?=some u->ts[i]?=some x->AN (fun k=>w.heap.size<=k/\items.ownBlock≠some k) n w2 u x
 new:AN (fun k=>w.heap.size<=k/\items.ownBlock≠some k) n w2 v p.t
 one:∀u∈vs,u.oneCell'=true
 grown:w.grownBy w2 (some b)
 ge:GE w2
 bw:b<w.heap.size
theorem L6.call{wr w2:World}{q0:Q6}{rest':Value}{q:List Tr}{p:Pl.PR}(j:6<b)
  (h:L6 n w wr b r dep dpst g (t::q0) rest items q vs dpk gk) (y:¬t=[41]) (hp:Pl.pd n (t::q0)=some p) (f:wr.grownBy w2 (some b)) (c:AN (fun k=>wr.heap.size<=k) n w2 v p.t)
  (l:EW w2 b rest' ((dep+1:Nat):Int) ((max (max dpst (dep+1+dpk)) (dep+1+p.dp):Nat):Int) ((g||gk)||p.gr)) (m:DG w2 rest' p.q) :
  PMid n w w2 b r dep dpst g p rest' items q vs v dpk gk:=by
 have a:=Pl.DA n _ _ hp;have z:∀s,GA s wr w2:=fun s=>GA.DX f h.rd w8;have d:=h.len;have A:=a.2;simp only [c_] at d A;refine⟨a.1.trans h.LQ,x8,h.lf.more y hp a.2,l.cast rfl x8 (by rw [Bool.or_assoc]),m,?_,?_,?_,h.one,aC h.grown f,h.ge.grown f j,h.bw⟩
 ·refine h.row.kept f ?_;by_cases o:items.ownBlock=some b
  ·have:=(h.row.lt b o).1;have:=h.bw;omega
  ·exact .inr o
 ·exact fun i u x B C=>AN.keep (z _) _ _ _ (h.KG i u x B C)
 ·refine AN.mono (fun k _ o=>?_) _ _ _ c;have:=h.grown.size;refine⟨x8,fun e=>?_⟩;have:=(h.row.lt k e).2;omega
theorem PMid.push{w2 w3:World}{q:List Tr}{p:Pl.PR}{o:Obj}{g' cap':Nat}(L:6<b)
  (h:PMid n w w2 b r dep dpst g p rest items q vs v dpk gk) (F:v.oneCell'=true) (C:w3.ownsRow w.heap.size PT 1 (.slice (some ⟨g',0,none⟩) (q.length+1) cap') (q.length+1) (vs++[v])) (D:(w2.alloc o).grownBy w3 items.ownBlock) (G:items.ownBlock=some g'\/g'=w2.heap.size+1) :
  L6 n w w3 b r dep dpst g p.q rest (.slice (some ⟨g',0,none⟩) (q.length+1) cap') (q++[p.t]) (vs++[v]) (max dpk p.dp) (gk||p.gr):=by
 have H:=h.row.lt;have M:=h.grown.size;have E:=h.bw;have s:∀k,k<w2.heap.size->items.ownBlock≠some k->w3.heap[k]?=w2.heap[k]? := fun k d t=>(D.block k r7 (fun e=>t e.symm)).trans (k_ d);have f:∀k,k<w.heap.size->w3.heap[k]?=w2.heap[k]? := fun k d=>s k x8 (fun e=>by have:=(H k e).1;omega);generalize I:Value.slice (some ⟨g',0,none⟩) (q.length+1) cap'=a at *;have J:a.ownBlock=some g':=by rw [<- I];rfl
 have z:GA (fun k=>w.heap.size<=k/\items.ownBlock≠some k) w2 w3:=fun k A c d=>by rw [s k (aB d) c.2];exact d
 have l:∀(u:Value)(x:Tr),AN (fun k=>w.heap.size<=k/\items.ownBlock≠some k) n w2 u x->AN (fun k=>w.heap.size<=k/\a.ownBlock≠some k) n w3 u x:=by
  intro u x N
  have j:AN (fun k=>(w.heap.size<=k/\items.ownBlock≠some k)/\a.ownBlock≠some k) n w2 u x:=by
   refine AN.mono (fun k d c=>⟨c,?_⟩) _ _ _ N;rw [J];intro e;obtain rfl:=i_ e;rcases G with j | j
   ·exact c.2 j
   ·omega
  have O:=AN.keep (w':=w3) (ok:=fun k=>(w.heap.size<=k/\items.ownBlock≠some k)/\a.ownBlock≠some k) (fun k A c d=>z k A c.1 d) _ _ _ j;exact AN.mono (fun k _ c=>⟨c.1.1,c.2⟩) _ _ _ O
 refine⟨h.LQ,by have:=h.len;simp;omega,h.lf,?_,?_,zO4,?_,?_,?_,?_,E⟩
 ·show w3.heap[b]?=_;rw [f b E];exact h.rd
 ·refine h.tk.keep fun k A d=>?_;rw [s k (aB d) ?_];exact d;intro e;rcases h.row.2 with⟨K,_⟩ | ⟨y,_,_,K,_,P,_⟩
  ·rw [K] at e;simp [Value.ownBlock] at e
  ·rw [K] at e;simp only [Value.ownBlock,o_] at e;subst e;rw [P] at d;simp only [o_,Obj.cells.injEq] at d;have:=d.2.1;simp [PT,PK] at this
 ·intro i u x m B;have Q:=h.row.1;by_cases R:i<vs.length
  ·rw [List.getElem?_append_left R] at m;rw [List.getElem?_append_left x8] at B;exact l u x (h.KG i u x m B)
  ·have e:i=vs.length:=by
    have:=(s_ m).1;simp at this;omega
   subst e;rw [List.getElem?_append_right n_] at m;rw [List.getElem?_append_right x8] at B;have S:vs.length-q.length=0:=by omega
   rw [S] at B;simp at m B;subst m B;exact l _ _ h.new
 ·intro u m;rcases List.mem_append.1 m with j | j
  ·exact h.one u j
  ·simp at j;subst j;exact F
 ·refine⟨D.os.trans h.grown.os,D.tape.trans h.grown.tape,D.output.trans h.grown.output,by have:=D.size;simp at this;omega,fun k d t=>?_⟩;rw [f k d];exact h.grown.block k d t
 ·obtain⟨T,U,V⟩:=h.ge;exact⟨T,(World.cell?_of_block (w:=w2) (f 6 x8)).trans U,V⟩
theorem L6.done{wr:World}{q:Q6}{j:List Tr}(h:L6 n w wr b r dep dpst g q rest items j vs dpk gk)(l:r.length<=1000)(o:wr.grownBy w' (some b)) :AN (fun k=>w.heap.size<=k) (n+1) w' (.iface 166 items) (.agg j):=by have p:∀m,GA m wr w':=fun m=>GA.DX o h.rd w8;refine AN.keep (p _) _ _ _ ⟨items,vs,rfl,fun r l=>(h.row.lt r l).1,⟨h.row.1,h.row.2.imp id (fun⟨g,d,e,a,b,c⟩=>⟨g,d,e,a,Nat.zero_le _,c⟩)⟩,?_,by have:=h.len;omega⟩;intro i u x s t;exact AN.mono (fun k _ f=>f.1) _ _ _ (h.KG i u x s t)
theorem Tryz.TX:(prog.info? 160).map (fun i=>(i.zero,i.size,i.bytes))=some (some .nilIface,1,16):=by kernel_rfl
def PLPost(n:Nat)(w:World)(b dep dpst:Nat)(g:Bool)(r:Q6)(e:Ending)(w':World):Prop :=
 w.grownBy w' (some b) /\
 match Pl.IG (Pl.pd n) r.length r with
 | none=>∃s,e=.returned (.tuple #[.nilIface,aY s 2])
 | some p=>∃v rest',e=.returned (.tuple #[v,.nilIface])/\AN (fun k=>w.heap.size<=k) (n+1) w' v (.agg p.ts)/\EW w' b rest' dep ((max dpst (dep+1+p.dp):Nat):Int) (g||p.gr)/\DG w' rest' p.q
theorem kind1(t:Q7):(cE t==1)=(t==[41]):=by
 unfold cE;by_cases h:t=[41]
 ·subst h;rfl
 ·rw [beq_eq_false_iff_ne.2 h];by_cases a:t=[40]
  ·subst a;rfl
  ·rw [if_neg a,if_neg h];split
   ·rfl
   ·split
    ·rfl
    ·split<;>rfl
def ZZ:Value->Nat | .slice _ n _=>n | _=>0
theorem S6(n:Nat)(ih:LJ n)(w:World)(b:Nat)(rest:Value)(r:Q6)(f d:Nat)(g:Bool)(h:EW w b rest f d g)(Z:DG w rest r)(N:GE w)(m:6<b)(hn:r.length<=n)(hr:r.length<=1000)(hd:f+1+r.length<=2000)(an:f<=d)(O:∀t∈r,N_ t) :Q2 117 #[Q0 b] w fun e w'=>PLPost n w b f d g r e w':=by
 obtain⟨i0,aa,ab,ac,ad⟩:=info_parts Tryz.TX;have ae:b<w.heap.size:=aB h;have HI:=h_ ih;have HH:=h_ h;have HT:=h_ Z;have af:=h_ N;have ag:=h_ O;clear ih h Z N O;go_enter func117,ntmps117;go_wp2_with fail;refine(u7 w b rest f d g HH x8).mono ?_;rintro e w1 ⟨rfl,B,F⟩;have HS:Hid (∀o:Obj,o=.cells #[] PT (0,0)->L6 n w (w1.alloc o) b r f d g r rest (.slice (some ⟨w1.heap.size,0,none⟩) 0 0) [] [] 0 false):=fun o ho=>L6.start F (HT.grown B HH) B (af.grown B m) ae o ho;clear B F;go_wp2_with fail
 go_loopw [4] (fun I wr=>∃q u ts vs C gk,Hid (L6 n w wr b r f d g q u I ts vs C gk)) (fun _ wr=>ZZ ((wr.cell? ⟨b,0,none⟩).getD undef))
 case atStart=>exact⟨_,_,_,_,_,_,HS _ rfl⟩
 case round =>
  obtain⟨q,u,ts,vs,C,gk,a⟩:=hrel;go_wp2_with fail;refine(yY wr b u _ _ _ q a.rd a.tk).mono ?_;rintro e wz ⟨rfl,rfl⟩;have ap:=a.LQ.length_le;have aq:=a.len;have P:Hid (∀t∈q,N_ t):=fun t Z=>ag.out t (a.LQ.subset Z);have Q:ZZ ((wr.cell? ⟨b,0,none⟩).getD undef)=q.length:=by rw [a.rd.cells.1];obtain⟨ao,R,hv,_⟩:=a.tk;rw [hv];rfl
  cases q with
  | nil =>
   have i:=h_ a.lf.none_;have S:Pl.pd n []=none:=by cases n<;>rfl
   go_wp2_with fail
   refine(HI wr b u [] (f+1) (max d (f+1+C)) (g||gk) a.rd a.tk a.ge m w9 w9 r7 x8 w9).mono ?_;rintro e w2 ⟨k,c⟩;rw [S] at c;obtain⟨s,rfl⟩:=c;have HG:=h_ (aC a.grown k);unfold aY;clear k S;go_wp2_with fail;go_ret2;refine⟨HG,?_⟩;rw [i.out];exact⟨s,rfl⟩
  | cons t q0 =>
   simp only [List.head?_cons,Option.any_some,kind1];by_cases D:t=[41]
   ·subst D;have i:=h_ a.lf.close;obtain⟨g0,ar,R,U,aj,au,_,_,V⟩:=a.tk.cons;subst U;have W:=h_ V;obtain⟨c0,c1,c2,c3⟩:=a.rd.cells;have f0:=aF a.rd 0;obtain⟨av,ak,ah,_⟩:=bC a.row;subst ah;clear V Q P;have e1:([41]==([41]:Q7))=true:=by decide
    go_wp2_with fail
    ·exact zD0
    ·exact zD0
   ·have aw:(t==[41])=false:=by simpa using D
    go_wp2_with fail
    refine(HI wr b u (t::q0) (f+1) (max d (f+1+C)) (g||gk) a.rd a.tk a.ge m x8 x8 x8 x8 P).mono ?_;rintro e w2 ⟨k,c⟩
    cases K:Pl.pd n (t::q0) with
    | none =>rw [K] at c;obtain⟨s,rfl⟩:=c;have i:=h_ (a.lf.fail D K);have HG:=h_ (aC a.grown k);unfold aY;clear k K;go_wp2_with fail;go_ret2;refine⟨HG,?_⟩;rw [i.out];exact⟨s,rfl⟩
    | some p =>
     rw [K] at c;obtain⟨v,al,rfl,A,G,H⟩:=c;have HM:=h_ (a.call m D K k A G H);obtain⟨T,x,rfl,X⟩:=A.iface;have ai:=(Pl.DA n _ _ K).2;have ax:=HM.grown.size;clear K k A G H a;go_wp2_with (first | (at_builtin;refine wpList_append_lies _ rfl _ _ 166 rfl w.heap.size 160 i0 .nilIface 1 16 underlying166 aa ab ac ad rfl w8 u4 ts.length vs rfl (HM.row.alloc _) ⟨w2.heap.size,0,none⟩ 1 1 [.iface T x] rfl rfl (cell_one_new _ _ _) (fun y hy=>by simp at hy;subst hy;exact X) w8 o6 x8 r7 (w2.heap.size+1) w9 ?_;intro g3 am w3 L E Y _));have M:=h_ (HM.push m X L E Y)
     go_roundw
     case rel=>exact⟨_,_,_,_,_,_,M⟩
     case measure =>rw [Q,M.rd.cells.1];obtain⟨ao,R,hv,_⟩:=M.tk;rw [hv];exact ai
def PQPost(n:Nat)(w:World)(b dep dpst:Nat)(g:Bool)(r:Q6)(e:Ending)(w':World):Prop :=
 w.grownBy w' (some b) /\
 match Pl.pd n r with
 | none=>∃s,e=.returned (.tuple #[.nilIface,aY s 2])
 | some p=>∃v rest',e=.returned (.tuple #[v,.nilIface])/\AN (fun k=>w.heap.size<=k) (n+1) w' v (.agg [.lit (.string Pl.CB),p.t])/\EW w' b rest' dep ((max dpst (dep+1+p.dp):Nat):Int) (g||p.gr)/\DG w' rest' p.q
theorem rS{t:Tr}(h:AN ok (n+1) w v t)(c:∀k,w.heap.size<=k->ok k)(o:Obj)(d:o=.cells #[.iface 168 (.string ⟨#[113,117,111,116,101]⟩),v] PT (0,0)) :AN ok (n+2) (w.alloc o) (.iface 166 (.slice (some ⟨w.heap.size,0,none⟩) 2 2)) (.agg [.lit (.string Pl.CB),t]):=by
 refine⟨_,[.iface 168 (.string ⟨#[113,117,111,116,101]⟩),v],rfl,?_,⟨rfl,.inr ⟨w.heap.size,2,_,rfl,Nat.zero_le _,by rw [d];exact heap_alloc_new _ _,w9,by simp [maxLen],rfl,rfl⟩⟩,?_,w9⟩
 ·intro r e;simp only [Value.ownBlock,o_] at e;exact c r x8
 ·intro i u x a b
  match i,a,b with
  | 0,a,b =>simp only [List.getElem?_cons_zero,o_] at a b;subst a b;exact AN.up 1 _ _ _ x8 rfl
  | 1,a,b =>simp only [List.getElem?_cons_succ,List.getElem?_cons_zero,o_] at a b;subst a b;exact h.later (r_.alloc n_ o)
  | (i+2),a,b=>simp at a
theorem uJ{p:Pl.PR}(h:Pl.pd n l=some p):∃m,n=m+1:=by
 cases n with
 | zero=>simp [Pl.pd] at h
 | succ m=>exact⟨m,rfl⟩
theorem qM(n:Nat)(U:LJ n)(w:World)(b:Nat)(rest:Value)(r:Q6)(d c:Nat)(g:Bool)(h:EW w b rest d c g)(V:DG w rest r)(D:GE w)(E:6<b)(Z:r.length<=n)(hr:r.length<=1000)(hd:d+1+r.length<=2000)(aa:d<=c)(F:∀t∈r,N_ t) :Q2 118 #[Q0 b] w fun e w'=>PQPost n w b d c g r e w':=by
 have HI:=h_ U;have W:=h_ h;have HT:=h_ V;have J:=h_ D;have K:=h_ F;clear U h V D F;go_enter func118,ntmps118;go_wp2_with fail;refine(u7 w b rest d c g W x8).mono ?_;rintro e w1 ⟨rfl,G,l⟩;have i:=h_ G;have L:=h_ l;clear G l;go_wp2_with fail;refine(HI w1 b rest r (d+1) (max c (d+1)) g L (HT.grown i W) (J.grown i E) E Z hr x8 x8 K).mono ?_;rintro e w2 ⟨y,a⟩;have z:=h_ (aC i y)
 cases A:Pl.pd n r with
 | none =>rw [A] at a;obtain⟨s,rfl⟩:=a;have B:=h_ A;unfold aY;clear y A;go_wp2_with fail;go_ret2;refine⟨z,?_⟩;rw [B.out];exact⟨s,rfl⟩
 | some p =>rw [A] at a;obtain⟨v,X,rfl,f,o,q⟩:=a;have B:=h_ A;obtain⟨m,rfl⟩:=uJ A;obtain⟨T,x,rfl,M⟩:=f.iface;have N:=i.size;have O:Hid (AN (fun k=>w.heap.size<=k) (m+1) w2 (.iface T x) p.t):=AN.mono (fun k _ P=>t_ N P) _ _ _ f;have C:=h_ o;have Q:=h_ q;clear A y f o q M;go_wp2_with fail;refine(oW _ b _ _ _ _ C x8).mono ?_;rintro e Y ⟨rfl,j,u⟩;have H:=h_ j;have R:=h_ u;have I:Hid (AN (fun k=>w.heap.size<=k) (m+1) Y (.iface T x) p.t):=AN.keep (GA.DX j C w8) _ _ _ O;have S:w.heap.size<=Y.heap.size:=t_ z.size j.size;clear j u;go_wp2_with fail;go_ret2;refine⟨aC z (aC H (World.grownBy_alloc _ _ _)),?_⟩;rw [B.out];refine⟨_,_,rfl,rS I (fun k P=>t_ S P) _ rfl,(R.alloc _).cast x8 x8 rfl,?_⟩;exact(Q.grown H C).below b_
theorem cY{p:Pl.PR}{rest':Value}{d:Int}{g':Bool}(c:Pl.pd n l=some p)(i:w.grownBy w' (some b))(a:AN (fun k=>w.heap.size<=k) n w' v p.t)(e:EW w' b rest' dep d g')(j:d=((max dpst (dep+p.dp):Nat):Int))(f:g'=(g||p.gr))(h:DG w' rest' p.q):F1 n w b dep dpst g l (.returned (.tuple #[v,.nilIface])) w':=by refine⟨i,?_⟩;rw [c];exact⟨v,rest',rfl,a,e.cast rfl j f,h⟩
theorem jH(n:Nat)(w:World)(b:Nat)(rest:Value)(c a:Nat)(g:Bool)(h:EW w b rest c a g)(i:DG w rest []) :Q2 91 #[Q0 b] w fun e f=>F1 n w b c a g [] e f:=by
 obtain⟨l,j,rfl,_⟩:=i;obtain⟨k,m,o,p⟩:=h.cells;have d:Hid (Pl.pd n []=none):=by cases n<;>rfl
 simp only [z_] at k;clear h;go_enter func91,ntmps91;go_wp2_with (go_at_call 47;refine(bJ _ _ _).mono ?_;rintro e f ⟨rfl,rfl⟩);go_ret2;refine⟨World.grownBy.refl _ _,?_⟩;rw [d.out];exact⟨_,rfl⟩
theorem bU{x:Value}{o:Obj}:w.grownBy ((w.setCell ⟨b,0,none⟩ x).alloc o) (some b):=aC (aE _ _ _ _) (World.grownBy_alloc _ _ _)
theorem nJ(n:Nat)(w:World)(b:Nat)(rest:Value)(r:Q6)(c a:Nat)(g:Bool)(h:EW w b rest c a g)(l:DG w rest ([35,116]::r))(o:c<=a) :Q2 91 #[Q0 b] w fun e p=>F1 (n+1) w b c a g ([35,116]::r) e p:=by
 have d:Hid (_=_):=Pl.QK n [35,116] r rfl;obtain⟨y,q,s,f,m,t,u,z,i⟩:=l.cons;subst f;have j:=h_ i;have k:=h_ h;obtain⟨A,B,C,D⟩:=h.cells;have E:=aF h 0;have v:b<w.heap.size:=aB h;have F:((r.length:Int)+1==0)=false:=by simp;omega
 clear i h l;rw [show cE [35,116]=3 from rfl] at u;go_enter func91,ntmps91;go_wp2_with fail
 ·exact zC7
 ·exact zC7
theorem lW(n:Nat)(w:World)(b:Nat)(rest:Value)(r:Q6)(c a:Nat)(g:Bool)(h:EW w b rest c a g)(l:DG w rest ([35,102]::r))(o:c<=a) :Q2 91 #[Q0 b] w fun e p=>F1 (n+1) w b c a g ([35,102]::r) e p:=by
 have d:Hid (_=_):=Pl.NQ n [35,102] r rfl;obtain⟨y,q,s,f,m,t,u,z,i⟩:=l.cons;subst f;have j:=h_ i;have k:=h_ h;obtain⟨A,B,C,D⟩:=h.cells;have E:=aF h 0;have v:b<w.heap.size:=aB h;have F:((r.length:Int)+1==0)=false:=by simp;omega
 clear i h l;rw [show cE [35,102]=3 from rfl] at u;go_enter func91,ntmps91;go_wp2_with fail
 ·exact zC7
 ·exact zC7
theorem lX(n:Nat)(w:World)(b:Nat)(rest:Value)(r:Q6)(c a:Nat)(g:Bool)(h:EW w b rest c a g)(j:DG w rest ([41]::r)) :Q2 91 #[Q0 b] w fun e k=>F1 (n+1) w b c a g ([41]::r) e k:=by
 have d:Hid (_=_):=Pl.NR n [41] r rfl;obtain⟨u,m,o,f,l,p,q,v,i⟩:=j.cons;subst f;have s:=h_ i;have x:=h_ h;obtain⟨y,z,A,B⟩:=h.cells;have C:=aF h 0;have t:b<w.heap.size:=aB h;have D:((r.length:Int)+1==0)=false:=by simp;omega
 clear i h j;rw [show cE [41]=1 from rfl] at q;go_enter func91,ntmps91;go_wp2_with (go_at_call 47;refine(bJ _ _ _).mono ?_;rintro e k ⟨rfl,rfl⟩)
 ·go_ret2;refine⟨bU,?_⟩;rw [d.out];exact⟨_,rfl⟩
 ·go_ret2;refine⟨bU,?_⟩;rw [d.out];exact⟨_,rfl⟩
theorem nK(n:Nat)(N:LJ n)(w:World)(b:Nat)(rest:Value)(r:Q6)(o f:Nat)(g:Bool)(h:EW w b rest o f g)(B:DG w rest ([40]::r))(C:GE w)(u:6<b)(O:([40]::r).length<=n+1)(P:([40]::r).length<=1000)(Q:o+([40]::r).length<=2000)(D:o<=f)(E:∀t∈[40]::r,N_ t) :Q2 91 #[Q0 b] w fun e S=>F1 (n+1) w b o f g ([40]::r) e S:=by
 have c:=Pl.GH n [40] r rfl;obtain⟨g0,T,U,F,R,V,W,k1,G⟩:=B.cons;subst F;have H:=h_ G;have L:=h_ h;obtain⟨c0,c1,c2,c3⟩:=h.cells;have f0:=aF h 0;have X:b<w.heap.size:=aB h;have hz:((r.length:Int)+1==0)=false:=by simp;omega
 clear G h B;have I:=h_ C;have J:=h_ E;clear C E;rw [show cE [40]=0 from rfl] at W;go_enter func91,ntmps91;go_wp2_with fail
 ·exact zC5
 ·exact zC5
theorem lV(n:Nat)(N:LJ n)(w:World)(b:Nat)(rest:Value)(r:Q6)(o f:Nat)(g:Bool)(h:EW w b rest o f g)(B:DG w rest ([39]::r))(C:GE w)(u:6<b)(O:([39]::r).length<=n+1)(P:([39]::r).length<=1000)(Q:o+([39]::r).length<=2000)(D:o<=f)(E:∀t∈[39]::r,N_ t) :Q2 91 #[Q0 b] w fun e S=>F1 (n+1) w b o f g ([39]::r) e S:=by
 have c:=Pl.H6 n [39] r rfl;obtain⟨g0,T,U,F,R,V,W,k1,G⟩:=B.cons;subst F;have H:=h_ G;have L:=h_ h;obtain⟨c0,c1,c2,c3⟩:=h.cells;have f0:=aF h 0;have X:b<w.heap.size:=aB h;have hz:((r.length:Int)+1==0)=false:=by simp;omega
 clear G h B;have I:=h_ C;have J:=h_ E;clear C E;rw [show cE [39]=2 from rfl] at W;go_enter func91,ntmps91;go_wp2_with fail
 ·exact zC6
 ·exact zC6
theorem sZ(h:¬cE t<4):¬t=[41]/\¬t=[35,116]/\¬t=[35,102]/\¬t=[39]/\¬t=[40]/\cE t=if Pl.isNum t then 4 else 5:=by
 unfold cE at h ⊢;by_cases a:t=[40]
 ·exact absurd (by simp [a]) h
 by_cases b:t=[41]
 ·exact absurd (by simp [b]) h
 by_cases c:t=[39]
 ·exact absurd (by simp [c]) h
 by_cases d:t=[35,116]
 ·exact absurd (by simp [d]) h
 by_cases e:t=[35,102]
 ·exact absurd (by simp [e]) h
 rw [if_neg a,if_neg b,if_neg c,if_neg (by simp [d,e])];exact⟨b,d,e,c,a,rfl⟩
theorem z8(h:cE t<4):t=[41]\/t=[35,116]\/t=[35,102]\/t=[39]\/t=[40]:=by
 unfold cE at h;by_cases a:t=[40]
 ·exact .inr (.inr (.inr (.inr a)))
 by_cases b:t=[41]
 ·exact .inl b
 by_cases c:t=[39]
 ·exact .inr (.inr (.inr (.inl c)))
 by_cases d:t=[35,116]
 ·exact .inr (.inl d)
 by_cases e:t=[35,102]
 ·exact .inr (.inr (.inl e))
 rw [if_neg a,if_neg b,if_neg c,if_neg (by simp [d,e])] at h;split at h<;>omega
theorem nL(n:Nat)(w:World)(b:Nat)(rest:Value)(t:Q7)(r:Q6)(c a:Nat)(g:Bool)(h:EW w b rest c a g)(m:DG w rest (t::r))(q:c<=a)(o:cE t=5)(d:Pl.pd (n+1) (t::r)=some ⟨.lit (.string t),r,0,false⟩) :Q2 91 #[Q0 b] w fun e s=>F1 (n+1) w b c a g (t::r) e s:=by
 have f:=h_ d;clear d;obtain⟨B,u,v,i,p,x,y,C,j⟩:=m.cons;subst i;have k:=h_ j;have l:=h_ h;obtain⟨D,E,F,G⟩:=h.cells;have H:=aF h 0;have z:b<w.heap.size:=aB h;have I:((r.length:Int)+1==0)=false:=by simp;omega
 clear j h m;rw [o] at y;clear o;go_enter func91,ntmps91;go_wp2_with fail
 ·exact zD1
 ·exact zD1
theorem p_datum_num(n:Nat)(w:World)(b:Nat)(rest:Value)(t:Q7)(r:Q6)(d a:Nat)(g:Bool)(h:EW w b rest d a g)(C:DG w rest (t::r))(l:GE w)(m:6<b)(H:d<=a)(D:cE t=4)(E:Pl.isNum t=true)(o:0<t.length)(p:t.length<=1000)(q:Pl.pd (n+1) (t::r)=some ⟨.lit (.int .i64 (Pl.F3 t)),r,0,Pl.ER t⟩) :Q2 91 #[Q0 b] w fun e I=>F1 (n+1) w b d a g (t::r) e I:=by
 have s:=h_ q;have F:=h_ E;have u:=h_ l;clear q E l;obtain⟨Q,J,K,v,G,L,M,R,x⟩:=C.cons;subst v;have y:=h_ x;have j:=h_ h;obtain⟨S,T,U,V⟩:=h.cells;have W:=aF h 0;have N:b<w.heap.size:=aB h;have X:((r.length:Int)+1==0)=false:=by simp;omega
 clear x h C;rw [D] at M;clear D;go_enter func91,ntmps91;go_wp2_with fail
 ·exact zC8
 ·exact zC8
theorem vB:∀n,LJ n
 | 0=>by intro w b a l d c g h j k m s x y e o;obtain rfl:=e_ (Nat.le_zero.1 s);exact jH 0 w b a d c g h j
 | n+1=>by
  intro w b a l d c g h j k m s x y e o;have B:=vB n
  cases l with
  | nil=>exact jH _ w b a d c g h j
  | cons t r =>
   by_cases i:cE t<4
   ·rcases z8 i with p | p | p | p | p<;>subst p
    ·exact lX n w b a r d c g h j
    ·exact nJ n w b a r d c g h j e
    ·exact lW n w b a r d c g h j e
    ·exact lV n B w b a r d c g h j k m s x y e o
    ·exact nK n B w b a r d c g h j k m s x y e o
   ·obtain⟨p,C,D,E,F,u⟩:=sZ i;have f:=Pl.QJ n t r p C D E F;obtain⟨q,z,A⟩:=o t (List.mem_cons_self ..);unfold Pl.pw at f;by_cases v:Pl.isNum t=true
    ·rw [if_pos v] at u f;exact p_datum_num n w b a t r d c g h j k m e u v z A f
    ·have G:Pl.DZ t=true:=by
      rcases q with q | q | q
      ·exact absurd q i
      ·exact absurd q v
      ·exact q
     rw [if_neg v] at u f;rw [if_pos G] at f;exact nL n w b a t r d c g h j e u f
def PWPost(n:Nat)(w:World)(b dpst:Nat)(g:Bool)(l:Q6)(e:Ending)(w':World):Prop :=
 w.grownBy w' (some b) /\
 ((∃s,e=.returned (.tuple #[.nilIface,aY s 2])/\∀p,Pl.pd n l=some p->p.q≠[]) \/
  ∃p v rest',Pl.pd n l=some p/\p.q=[]/\e=.returned (.tuple #[v,.nilIface])/\AN (fun k=>w.heap.size<=k) n w' v p.t/\EW w' b rest' 0 ((max dpst p.dp:Nat):Int) (g||p.gr))
theorem jq(n:Nat)(w:World)(b:Nat)(rest:Value)(l:Q6)(g:Bool)(h:EW w b rest 0 0 g)(F:DG w rest l)(k:GE w)(u:6<b)(J:l.length<=n)(K:l.length<=1000)(m:∀t∈l,N_ t) :Q2 72 #[Q0 b] w fun e G=>PWPost n w b 0 g l e G:=by
 have L:=h_ h;have M:=h_ F;have y:=h_ k;have z:=h_ m;clear h F k m;go_enter func72,ntmps72;go_wp2_with fail;refine(vB n w b rest l 0 0 g L M y u J K x8 x8 z).mono ?_;rintro e O ⟨o,a⟩;have i:=h_ o;clear o
 cases j:Pl.pd n l with
 | none =>rw [j] at a;obtain⟨s,rfl⟩:=a;unfold aY;have r:=h_ j;clear j;go_wp2_with fail;go_ret2;exact⟨i,.inl ⟨_,rfl,fun p c=>by rw [r.out] at c;simp at c⟩⟩
 | some p =>
  rw [j] at a;obtain⟨v,H,rfl,d,f,q⟩:=a;obtain⟨T,x,rfl,A⟩:=d.iface;have r:=h_ j;have B:=h_ d;have C:=h_ f;obtain⟨P,Q,R,S⟩:=f.cells;obtain⟨U,N,rfl,_⟩:=q;clear d f j A;by_cases c:p.q=[]
  ·have I:(p.q.length:Int)=0:=by simp [c]
   have D:((0:Int)<(p.q.length:Int))=False:=by simp [c]
   have E:=h_ c;clear c;go_wp2_with fail;go_ret2;exact⟨i,.inr ⟨p,_,_,r,E,rfl,B,C.cast w9 w9 rfl⟩⟩
  ·have D:(0:Int)<(p.q.length:Int):=by have:=List.length_pos_iff.2 c;omega
   have E:=h_ c;clear c;go_wp2_with (go_at_call 47;refine(bJ _ _ _).mono ?_;rintro e G ⟨rfl,rfl⟩);go_ret2;exact⟨i,.inl ⟨_,rfl,fun V c=>by rw [r.out] at c;obtain rfl:=i_ c;exact E⟩⟩
theorem fQ:∀(n:Nat)(k:Q7) (l:Q6),Pl.KO n k=some l->∀t∈l,cE t<4\/CV (t.headD 0)=true
 | 0,_,_,h=>by obtain rfl:=i_ h;simp
 | _+1,[],_,h=>by obtain rfl:=i_ h;simp
 | n+1,c::r,l,h=>by
  unfold Pl.KO at h;split at h
  ·exact fQ n r l h
  split at h
  ·rename_i g
   cases r with
   | nil=>simp at h
   | cons d q =>
    dsimp only at h;split at h
    ·rename_i i;simp only [Option.map_eq_some_iff] at h;obtain⟨b,e,rfl⟩:=h;have f:=fQ n q b e;intro t a;rcases List.mem_cons.1 a with rfl | a
     ·left;simp only [Bool.or_eq_true,beq_iff_eq] at i g;subst g;rcases i with rfl | rfl<;>decide
     ·exact f t a
    ·simp at h
  split at h
  ·rename_i m;simp only [Option.map_eq_some_iff] at h;obtain⟨b,e,rfl⟩:=h;have f:=fQ n _ b e;intro t a;rcases List.mem_cons.1 a with rfl | a
   ·exact .inr m
   ·exact f t a
  split at h
  ·rename_i j;simp only [Option.map_eq_some_iff] at h;obtain⟨b,e,rfl⟩:=h;have f:=fQ n r b e;intro t a;rcases List.mem_cons.1 a with rfl | a
   ·left;simp only [Pl.H4,Bool.or_eq_true,beq_iff_eq] at j;rcases j with(rfl | rfl) | rfl<;>decide
   ·exact f t a
  ·simp at h
theorem dR(h:bF bs=some l):Pl.BX bs=some l/\l.all Pl.BF=true:=by
 unfold bF at h;split at h
 ·simp at h
 ·rename_i b a;split at h
  ·obtain rfl:=i_ h;exact⟨a,d9⟩
  ·simp at h
theorem LS(h:bF bs=none):Pl.BX bs=none\/∃l,Pl.BX bs=some l/\l.all Pl.BF=false:=by
 unfold bF at h;split at h
 ·left;assumption
 ·rename_i c a;split at h
  ·simp at h
  ·rename_i b;exact .inr ⟨_,a,by simpa using b⟩
theorem sT(h:bF bs=some l)(j:bs.length<=1000):l.length<=bs.length/\∀t∈l,N_ t:=by
 obtain⟨d,e⟩:=dR h;obtain⟨f,g⟩:=Pl.HY d;refine⟨f,fun t a=>?_⟩;obtain⟨i,k⟩:=g t a;refine⟨?_,i,x8⟩;rcases fQ _ _ _ d t a with b | b
 ·exact .inl b
 ·have c:=List.all_eq_true.1 e t a;unfold Pl.BF at c;rw [b] at c;right;simpa using c
theorem kX(h:300<bs.length):Pl.check bs=1:=by unfold Pl.check;rw [if_pos h]
theorem pT(h:¬300<bs.length)(b:bF bs=none):Pl.check bs=2:=by
 unfold Pl.check;rw [if_neg h];rcases LS b with a | ⟨l,a,c⟩
 ·rw [a]
 ·rw [a];dsimp only;rw [if_pos c]
theorem aAM(h:¬300<bs.length)(a:bF bs=some l)(b:∀p,Pl.pd l.length l=some p->p.q≠[]):Pl.check bs=2:=by
 obtain⟨c,d⟩:=dR a;unfold Pl.check;rw [if_neg h,c];dsimp only;rw [if_neg (by simp [d])]
 cases e:Pl.pd l.length l with
 | none=>rfl
 | some p=>dsimp only;rw [if_pos (b p e)]
theorem aAN{p:Pl.PR}(h:¬300<bs.length)(a:bF bs=some l)(hp:Pl.pd l.length l=some p)(b:p.q=[]):Pl.check bs=if 20<p.dp then 3 else if p.gr=true then 4 else if Pl.GY (l.length-1) p.t=true then 0 else 5:=by obtain⟨c,d⟩:=dR a;unfold Pl.check;rw [if_neg h,c];dsimp only;rw [if_neg (by simp [d]),hp];dsimp only;rw [if_neg (by simp [b])]
theorem kL{a b c:World}{B:Nat}{B2:Nat}(d:Below B a b)(h:b.grownBy c (some B2))(i:B<=B2)(g:B<=a.heap.size):Below B a c :=⟨h.os.trans d.os,h.tape.trans d.tape,h.output.trans d.output,t_ d.size h.size,fun k f=>(h.block k (l_ f (t_ g d.size)) (fun e=>by obtain rfl:=i_ e;omega)).trans (d.block k f)⟩
def RdPost(w:World)(bs:Q7)(e:Ending)(w':World):Prop :=
 Q3 w w' /\
 ((∃(c:Nat)(s:Q8),Pl.check bs=c/\0<c/\c<=5/\e=.returned (.tuple #[.nilIface,aY s c])) \/
  ∃l p v,bF bs=some l/\l.length<=300/\Pl.pd l.length l=some p/\p.gr=false/\Pl.check bs=(if Pl.GY (l.length-1) p.t=true then 0 else 5)/\e=.returned (.tuple #[v,.nilIface])/\AN (fun k=>w.heap.size<=k) l.length w' v p.t)
theorem XO(s:Q8)(w:World)(n:GE w) :Q2 59 #[.string s] w fun e C=>RdPost w s.data.toList e C:=by
 have D:=h_ n;have m:s.data.toList.length=s.size:=by simp
 clear n;by_cases V:300<s.size
 ·have h:Hid (Pl.check s.data.toList=1):=kX x8;have E:(300:Int)<(s.size:Int):=by omega
  go_enter func59,ntmps59
  go_wp2_with (go_at_call 47;refine(bJ _ _ _).mono ?_;rintro e C ⟨rfl,rfl⟩)
  go_ret2;exact⟨r_,.inl ⟨1,_,h,x8,x8,rfl⟩⟩
 ·have E:¬(300:Int)<(s.size:Int):=by omega
  have F:Hid (¬300<s.data.toList.length):=by rw [m];exact V
  have o:=h_ m;clear m;go_enter func59,ntmps59;go_wp2_with fail;refine(XD s w x8).mono ?_;rintro e P ⟨q,a⟩;have d:=h_ q;clear q;rcases a with⟨f,v,W,rfl⟩ | ⟨l,v,b,rfl,k⟩
  ·have h:=h_ (pT F f);clear f;unfold aY;go_wp2_with fail;go_ret2;exact⟨d,.inl ⟨2,_,h,x8,x8,rfl⟩⟩
  ·have G:=h_ b;have Q:=h_ (DG.of_own k);obtain⟨R,r,rfl,_⟩:=Q.out;obtain⟨H,t⟩:=sT b (by rw [o.out];omega);rw [o.out] at H;have I:=h_ t;have u:=h_ (D.below d);have J:=u.lt;clear t b k;go_wp2_with fail;have y:Hid (Q3 w (P.alloc (.cells #[.slice R l.length r,Q1 0,Q1 0,.bool false] PR (0,0)))):=d.alloc (d.size) _;have z:=d.size;refine(jq l.length _ P.heap.size (.slice R l.length r) l false (heap_alloc_new _ _) (Q.below b_) (u.below b_) J n_ x8 I).mono ?_;rintro e X ⟨A,a⟩;have i:Hid (Q3 w X):=kL y A z n_;clear A;rcases a with⟨W,rfl,f⟩ | ⟨p,v,S,K,U,rfl,g,B⟩
   ·have h:=h_ (aAM F G f);clear f;unfold aY;go_wp2_with fail;go_ret2;exact⟨i,.inl ⟨2,_,h,x8,x8,rfl⟩⟩
   ·have h:=h_ (aAN F G K U);have L:=h_ g;have Y:=h_ K;obtain⟨T,x,rfl,_⟩:=g.iface;obtain⟨c0,c1,Z,M⟩:=B.cells;rw [show max 0 p.dp=p.dp by omega] at Z;rw [Bool.false_or] at M;clear g B K U;by_cases N:20<p.dp
    ·have O:(20:Int)<(p.dp:Int):=by omega
     go_wp2_with (go_at_call 47;refine(bJ _ _ _).mono ?_;rintro e C ⟨rfl,rfl⟩)
     go_ret2;exact⟨i,.inl ⟨3,_,h.trans (if_pos N),x8,x8,rfl⟩⟩
    ·have O:¬(20:Int)<(p.dp:Int):=by omega
     cases c:p.gr
     ·rw [c] at M;have j:=h_ c;clear c;go_wp2_with fail;go_ret2;refine⟨i,.inr ⟨l,p,_,G,x8,Y,j,h.trans ?_,rfl,AN.mono (fun _ _ hk=>t_ y.size hk) _ _ _ L⟩⟩;rw [if_neg N,if_neg (by simp [j.out])]
     ·rw [c] at M;have j:=h_ c;clear c;go_wp2_with (go_at_call 47;refine(bJ _ _ _).mono ?_;rintro e C ⟨rfl,rfl⟩);go_ret2;exact⟨i,.inl ⟨4,_,h.trans (by rw [if_neg N,if_pos j.out]),x8,x8,rfl⟩⟩
theorem Tryz.FY(v:Value)(w:World):(Instr.typeAssert (.iface 236 v) 160 168 true).run prog w=.ok (.tuple #[.string ByteArray.empty,.bool false]) w:=by kernel_rfl
theorem Tryz.EO(v:Value)(w:World):(Instr.typeAssert (.iface 236 v) 160 166 true).run prog w=.ok (.tuple #[.slice none 0 0,.bool false]) w:=by kernel_rfl
theorem Tryz.GO(v:Value)(w:World):(Instr.typeAssert (.iface 238 v) 160 168 true).run prog w=.ok (.tuple #[.string ByteArray.empty,.bool false]) w:=by kernel_rfl
theorem Tryz.E7(v:Value)(w:World):(Instr.typeAssert (.iface 238 v) 160 166 true).run prog w=.ok (.tuple #[.slice none 0 0,.bool false]) w:=by kernel_rfl
theorem Tryz.FM(v:Value)(w:World):(Instr.typeAssert (.iface 168 v) 160 168 true).run prog w=.ok (.tuple #[v,.bool true]) w:=by kernel_rfl
theorem Tryz.FN(v:Value)(w:World):(Instr.typeAssert (.iface 168 v) 160 166 true).run prog w=.ok (.tuple #[.slice none 0 0,.bool false]) w:=by kernel_rfl
theorem Tryz.IB(v:Value)(w:World):(Instr.typeAssert (.iface 166 v) 160 168 true).run prog w=.ok (.tuple #[.string ByteArray.empty,.bool false]) w:=by kernel_rfl
theorem Tryz.ET(v:Value)(w:World):(Instr.typeAssert (.iface 166 v) 160 166 true).run prog w=.ok (.tuple #[v,.bool true]) w:=by kernel_rfl
def eG(ts:List Tr):Q7:=match Pl.BJ ts with
 | some h=>h
 | none=>[]
theorem AN.QR(h:AN ok n w v (.lit (.string s))):v=.iface 168 (.string ⟨s.toArray⟩):=by
 cases n with
 | zero=>exact h.elim
 | succ n=>exact h
theorem v7(h:EE s=false):(s==Pl.CB)=false/\(s==Pl.VN)=false/\(s==Pl.C3)=false/\(s==Pl.LR)=false/\(s==Pl.CK)=false/\(s==Pl.FX)=false/\(s==Pl.K2)=false:=by
 have a:s∉Pl.RZ:=fun b=>by rw [(Pl.IH s).2 b] at h;simp at h
 simp only [Pl.RZ,List.mem_cons,List.not_mem_nil,or_false,not_or] at a;obtain⟨c,d,e,f,g,i,j⟩:=a;exact⟨zP8,zR0,a6,by simpa using f,by simpa using g,by simpa using i,by simpa using j⟩
theorem rB(h:EE s=true):s=Pl.CB\/s=Pl.VN\/s=Pl.C3\/s=Pl.LR\/s=Pl.CK\/s=Pl.FX\/s=Pl.K2:=by have a:=(Pl.IH s).1 h;simpa only [Pl.RZ,List.mem_cons,List.not_mem_nil,or_false] using a
theorem p_isKeyword(s:Q7)(w:World):Q2 73 #[.string ⟨s.toArray⟩] w fun e b=>e=.returned (.bool (EE s))/\w=b:=by
 cases a:EE s
 ·obtain⟨c,d,f,g,h,i,j⟩:=v7 a;unfold Pl.CB at c;unfold Pl.VN at d;unfold Pl.C3 at f;unfold Pl.LR at g;unfold Pl.CK at h;unfold Pl.FX at i;unfold Pl.K2 at j;clear a;exact zC9
 ·rcases rB a with rfl | rfl | rfl | rfl | rfl | rfl | rfl
  ·clear a;unfold Pl.CB;exact zC9
  ·clear a;unfold Pl.VN;exact zC9
  ·clear a;unfold Pl.C3;exact zC9
  ·clear a;unfold Pl.LR;exact zC9
  ·clear a;unfold Pl.CK;exact zC9
  ·clear a;unfold Pl.FX;exact zC9
  ·clear a;unfold Pl.K2;exact zC9
theorem aS(s:Q8)(w:World):Q2 92 #[.string s] w fun e a=>e=.returned (aY s 5)/\w=a:=by
 go_enter func92,ntmps92
 go_wp2_with (go_at_call 47;refine(bJ _ _ _).mono ?_;rintro e a ⟨rfl,rfl⟩)
 go_ret;exact⟨rfl,rfl⟩
theorem oX(ok:Q5)(n:Nat)(sl:Value)(vs:List Value)(b:List Tr)(w q:World)(d:DB w sl vs)(f:vs.length=b.length)(m:∀(u:Value)(x:Tr),vs.head? = some u->b.head? = some x->AN ok n q u x):Q2 60 #[sl] w fun e i=>e=.returned (.string ⟨(eG b).toArray⟩)/\w=i:=by
 have v:=Tryz.FY;have y:=Tryz.GO;have z:=Tryz.FM;have A:=Tryz.IB
 match vs,b,f with
 | [],[],_ =>obtain⟨F,j,rfl,_⟩:=d;go_enter func60,ntmps60;go_wp2_with fail;go_ret;exact⟨rfl,rfl⟩
 | u::B,t::r,f =>
  obtain⟨g,C,j,rfl,o,G,H,_⟩:=d.cell0;have h:=m u t rfl rfl;have I:((B.length:Int)+1==0)=false:=by simp;omega
  clear d m f;by_cases c:∃s,t=.lit (.string s)
  ·obtain⟨s,rfl⟩:=c;obtain rfl:=h.QR;clear h
   cases p:EE s
   ·have a:Hid (eG (.lit (.string s)::r)=[]):=by simp [Hid,eG,Pl.BJ,p]
    exact zD3
   ·have a:Hid (eG (.lit (.string s)::r)=s):=by simp [Hid,eG,Pl.BJ,p]
    exact zD3
  ·have a:Hid (eG (t::r)=[]):=by
    show eG (t::r)=[]
    have:Pl.BJ (t::r)=none:=by
     unfold Pl.BJ;split
     ·rename_i l;obtain⟨D,_⟩:=List.cons.inj l;exact absurd ⟨_,D⟩ c
     ·rfl
    unfold eG;rw [this]
   obtain⟨x,E⟩:∃x,u=.iface 236 x\/u=.iface 238 x\/u=.iface 166 x:=by
    cases n with
    | zero=>exact h.elim
    | succ n =>
     match t,h with
     | .lit (.int _ _),h=>obtain⟨k,rfl,_⟩:=h;exact⟨_,.inl rfl⟩
     | .lit (.bool _),h=>exact⟨_,.inr (.inl h)⟩
     | .lit (.string s),_=>exact absurd ⟨s,rfl⟩ c
     | .agg b,h=>obtain⟨sl,vs,rfl,_⟩:=h;exact⟨_,.inr (.inr rfl)⟩
   clear h c;rcases E with rfl | rfl | rfl
   ·exact zD2
   ·exact zD2
   ·exact zD2
theorem Tryz.KN(v:Value)(w:World):(Instr.typeAssert (.iface 236 v) 160 236 true).run prog w=.ok (.tuple #[v,.bool true]) w:=by kernel_rfl
theorem Tryz.LZ(v:Value)(w:World):(Instr.typeAssert (.iface 238 v) 160 238 true).run prog w=.ok (.tuple #[v,.bool true]) w:=by kernel_rfl
theorem Tryz.K9(v:Value)(w:World):(Instr.typeAssert (.iface 238 v) 160 236 true).run prog w=.ok (.tuple #[Q1 0,.bool false]) w:=by kernel_rfl
theorem Tryz.L0(v:Value)(w:World):(Instr.typeAssert (.iface 168 v) 160 236 true).run prog w=.ok (.tuple #[Q1 0,.bool false]) w:=by kernel_rfl
theorem Tryz.L1(v:Value)(w:World):(Instr.typeAssert (.iface 166 v) 160 236 true).run prog w=.ok (.tuple #[Q1 0,.bool false]) w:=by kernel_rfl
theorem Tryz.DM(v:Value)(w:World):(Instr.typeAssert (.iface 168 v) 160 238 true).run prog w=.ok (.tuple #[.bool false,.bool false]) w:=by kernel_rfl
theorem Tryz.DP(v:Value)(w:World):(Instr.typeAssert (.iface 166 v) 160 238 true).run prog w=.ok (.tuple #[.bool false,.bool false]) w:=by kernel_rfl
theorem AN.list{b:List Tr}(h:AN ok (n+1) w v (.agg b)):∃c a,v=.iface 166 c/\DB w c a/\a.length=b.length/\b.length<=1000/\∀(i:Nat)(u:Value)(x:Tr),a[i]?=some u->b[i]?=some x->AN ok n w u x:=by obtain⟨c,a,e,_,d,f,g⟩:=h;exact⟨c,a,e,bC d,d.1.trans (Nat.mul_one _),g,f⟩
theorem AN.KR{t:Tr}(h:AN ok n w v t)(a:¬∃s,t=.agg s):∃x,v=.iface 236 x\/v=.iface 238 x\/v=.iface 168 x:=by
 cases n with
 | zero=>exact h.elim
 | succ n =>
  match t,h with
  | .lit (.int _ _),h=>obtain⟨k,rfl,_⟩:=h;exact⟨_,.inl rfl⟩
  | .lit (.bool _),h=>exact⟨_,.inr (.inl h)⟩
  | .lit (.string s),h=>exact⟨_,.inr (.inr h)⟩
  | .agg b,h=>exact absurd ⟨b,rfl⟩ a
def GU(s t:Sg):Prop:=∃l,t={s with pb:=s.pb++l}
theorem GU.refl(s:Sg):GU s s:=⟨[],w9⟩
theorem GU.trans{a b c:Sg}(h:GU a b)(k:GU b c):GU a c:=by obtain⟨l,rfl⟩:=h;obtain⟨m,rfl⟩:=k;exact⟨l++m,w9⟩
theorem GU.le{a b:Sg}(h:GU a b):Sg.Le a b:=by obtain⟨l,rfl⟩:=h;exact⟨rfl,rfl,List.prefix_append _ _,List.prefix_refl _,List.prefix_refl _,List.prefix_refl _,List.prefix_refl _⟩
theorem GU.add(s:Sg)(b:Nat):GU s (s.DD b):=⟨[b],rfl⟩
def VI(M:Q5)(w:World)(s:Sg)(ps:List (PV×PV))(r:PV×List (PV×PV))(e:Ending)(w':World):Prop :=∃v t,e=.returned v/\RV t v r.1/\BD M w' t (ps++r.2)/\Q3 w w'/\GU s t
def VH(n:Nat):Prop:=∀(M:Q5)(ok:Q5)(w:World)(s:Sg) (ps:List (PV×PV)) (v:Value) (t:Tr),BD M w s ps->(∀k,M k->k<w.heap.size)->AN ok n w v t->cL n t ->
 Q2 77 #[v] w fun e w'=>VI M w s ps (Pl.made n ps.length t) e w'
theorem mD{α:Type}{l:List α}{k:Nat}{x:α}(h:l[k]?=some x):l.drop k=x::l.drop (k+1):=by obtain⟨a,rfl⟩:=s_ h;exact List.drop_eq_getElem_cons a
theorem zT(n b:Nat)(a:List Tr)(k:Nat)(x:Tr)(h:a[k]?=some x):AL (Pl.made n) b (a.drop k)=AL (Pl.made n) b (x::a.drop (k+1)):=by rw [mD h]
def QW(n:Nat)(M:Q5)(w wr:World)(s sk:Sg)(ps:List (PV×PV))(ts:List Tr)(k:Nat)(lv:Value):Prop :=RV sk lv (AL (Pl.made n) ps.length (ts.drop k)).1/\BD M wr sk (ps++(AL (Pl.made n) ps.length (ts.drop k)).2)/\Q3 w wr/\GU s sk
theorem yR(n:Nat)(R:VH n)(M ok:Q5)(w:World)(s:Sg)(ps:List (PV×PV))(sl:Value)(vs:List Value)(a:List Tr)(S:BD M w s ps)(U:∀k,M k->k<w.heap.size)(hS:DB w sl vs)(E:vs.length=a.length)(V:a.length<=1000)(W:∀(i:Nat)(u:Value)(x:Tr),vs[i]?=some u->a[i]?=some x->AN ok n w u x)(X:∀x∈a,cL n x) :Q2 100 #[sl] w fun e w'=>VI M w s ps (AL (Pl.made n) ps.length a) e w':=by
 have HP:=h_ S;have Y:=h_ U;have HA:=h_ W;have HB:=h_ X;have HI:=h_ R;have HL:=h_ E;obtain⟨ao,ab,rfl,Z,m⟩:=hS;have HC:=h_ m;rw [E];clear S U W X R m E;go_enter func100,ntmps100;go_wp2_with fail
 go_loopw [3,4] (fun l i wr=>∃(k:Nat)(F:Value)(A:Sg),k<=a.length/\i=.int .i64 ((k:Int)-1)/\l=F/\Hid (QW n M w wr s A ps a k F)) (fun _ i _=>(intOf i+1).toNat)
 case atStart =>
  refine⟨a.length,_,s,n_,k7,rfl,?_⟩;refine show QW _ _ _ _ _ _ _ _ _ _ from⟨?_,?_,r_,GU.refl _⟩
  ·rw [List.drop_length];exact .empty
  ·rw [List.drop_length];simpa [AL] using HP.out
 case round =>
  obtain⟨k,F,A,B,rfl,rfl,G⟩:=hrel;rcases Nat.eq_zero_or_pos k with rfl | aa
  ·have H:(((0:Nat):Int)-1)=-1:=by omega
   rw [H];go_wp2_with fail;go_ret;obtain⟨c,f,b,h⟩:=G.out;exact⟨_,A,rfl,c,f,b,h⟩
  ·obtain⟨j,rfl⟩:∃j,k=j+1:=⟨k-1,x8⟩
   have H:(((j+1:Nat):Int)-1)=(j:Int):=by omega
   rw [H];have o:j<a.length:=by omega
   obtain⟨q,C⟩:∃x,a[j]?=some x:=⟨_,g_ o⟩
   obtain⟨vj,d⟩:∃x,vs[j]?=some x:=⟨_,g_ (by have:=HL.out;omega)⟩
   obtain⟨g,I,rfl,hg,m⟩:=HC.out j vj d;have J:=HA.out j vj q d C;have K:=G.out;obtain⟨c,f,b,h⟩:=K;have L:=(b.cell (p:=⟨g,I+j,none⟩) hg).trans m;have HR:=h_ (J.later b);have N:Hid (cL n q):=HB.out _ (q_ C);have HE:Hid (AL (Pl.made n) ps.length (a.drop j)=AL (Pl.made n) ps.length (q::a.drop (j+1))):=zT n ps.length a j _ C;obtain⟨T,x,hv,r⟩:=J.iface;have ac:(0:Int)<=(j:Int):=by omega
   have ad:(j:Int)<(a.length:Int):=by omega
   have t:=HR;rw [hv] at L t;obtain⟨T0,x0,O⟩:=c.iface;subst O;clear C m J r hv c f b h HR o d;go_wp2_with fail;obtain⟨c,f,b,h⟩:=G.out;refine(HI M ok wr A _ _ q f (fun k B=>l_ (Y k B) b.size) t N).mono ?_;rintro e v ⟨v2,t2,rfl,P,k2,D,Q⟩;have y:∀k,M k->k<v.heap.size:=fun k B=>l_ (Y k B) (t_ b.size D.size);obtain⟨p1,p2⟩:=k2.push y (p:=((Pl.made n (ps++(AL (Pl.made n) ps.length (a.drop (j+1))).2).length q).1,(AL (Pl.made n) ps.length (a.drop (j+1))).1)) P (c.le Q.le);have z:Q3 w (v.alloc (.cells #[v2,.iface T0 x0] E0)):=(b.trans (D.mono b.size)).alloc (t_ b.size D.size) _
   have HN:Hid (QW n M w (v.alloc (.cells #[v2,.iface T0 x0] E0)) s (t2.DD v.heap.size) ps a j (.iface 272 (Q0 v.heap.size))):=by
    refine show QW _ _ _ _ _ _ _ _ _ _ from⟨?_,?_,z,h.trans (Q.trans (GU.add _ _))⟩
    ·rw [HE.out];simpa [AL,Nat.add_assoc] using p2
    ·rw [HE.out];simpa [AL,Nat.add_assoc] using p1
   obtain⟨T2,x2,rfl⟩:=P.iface;clear c f b h P k2 D Q y p1 p2 z;go_wp2_with fail
   go_roundw
   case rel=>exact⟨j,_,_,x8,k7,rfl,HN⟩
   case measure=>simp [intOf]
theorem p_of:∀n,VH n
 | 0=>fun M j w s f v t _ _ h _=>h.elim
 | n+1=>fun M j w s f v t c d a b=>by
  have H:=Tryz.KN;have I:=Tryz.LZ;have J:=Tryz.K9;have K:=Tryz.L0;have L:=Tryz.L1;have N:=Tryz.DM;have O:=Tryz.DP;have P:=Tryz.FM;have Q:=Tryz.IB;have y:=Tryz.ET;have g:Hid (BD M w s (f++[])):=show BD M w s (f++[]) from by rw [List.append_nil];exact c
  match t,a,b with
  | .lit (.int _ m),a,b =>obtain⟨k,rfl,l⟩:=a;obtain rfl:=l b;clear c d l b;go_enter func77,ntmps77;go_wp2_with fail;go_ret;exact⟨_,s,rfl,.num _,g,r_,GU.refl _⟩
  | .lit (.bool x),a,b =>
   obtain rfl:=(show v=_ from a)
   clear c d b a;go_enter func77,ntmps77;go_wp2_with fail;go_ret;exact⟨_,s,rfl,.AT _,g,r_,GU.refl _⟩
  | .lit (.string x),a,b =>
   obtain rfl:=(show v=_ from a)
   clear c d b a;go_enter func77,ntmps77;go_wp2_with fail;go_ret;exact⟨_,s,rfl,.name _,g,r_,GU.refl _⟩
  | .agg z,a,b =>obtain⟨A,B,rfl,o,p,q,r⟩:=a.list;have C:=h_ (yR n (p_of n) M j w s f A B z c d o p q r b);obtain⟨R,D,rfl,_⟩:=o;clear c d b a r p q;go_enter func77,ntmps77;go_wp2_with fail;refine Calls.mono C ?_;rintro e S ⟨T,E,rfl,i,u⟩;have F:=h_ i;have G:=h_ u;obtain⟨U,V,rfl⟩:=i.iface;clear i u;go_wp2_with fail;go_ret;exact⟨_,E,rfl,F,G⟩
end
end Go.Proofs.YtbgghmjmcapmlaaGreatDoor
