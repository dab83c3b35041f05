import Derived.Test.YtkgbdddkcjpgfaaGreatDoorC20
import Derived.Deep.RegionWith
namespace Go.Proofs.YtkgbdddkcjpgfaaGreatDoor
set_option maxHeartbeats 4000000
set_option maxRecDepth 100000
open Go.Proofs.Tryz
open Pl (PV PW PS SR Byt arity prims prim2 prim1 plusW minusW timesW sameW lessW eqW consW cdrW carW nullW pairW displayW callccW)
section
open Go.RowKit Go.Lib
variable {a b:Nat} {ca cb:Array Value} {ta tb:TypeId}
def PrQ(W:PW)(s:Sg)(r:PS->SR)(e:Ending):Prop :=(∃v q,e=.returned (.tuple #[v,.nilIface])/\RV s v q/\∀S,r S=⟨0,W,S.give q⟩)\/(∃es,∃c:Nat,c≠0/\e=.returned (.tuple #[.nilIface,aY es c])/\∀S,r S=⟨c,W,S⟩)
theorem uY(M:Nat->Prop)(w:World)(s:Sg)(W:PW)(v:Value)(p:PV)(hp:Prm w)(hP:PairsAt M w s W.pairs)(he:Eng s)(hv:RV s v p):Calls prog 320 #[.int .i64 6,v] w fun e w'=>w=w'/\PrQ W s (fun S=>prim1 W S carW p) e:=by
 have HFt:Hid (∀code w',Prm w'->Calls prog 326 #[.int .i64 6,.int .i64 code] w' fun e w2=>w'=w2/\∃es,e=.returned (aY es code)):=fun code w' hp=>dD 6 carW code w' hp rfl (by decide);have HPr:Hid (Prm w):=hp;have as1:=@fC 367;rcases hv.asPair he with⟨i,b,rfl,hb,rfl⟩ | ⟨hn,T,x,rfl,hno⟩
 ·obtain⟨q,hq⟩:∃q,W.pairs[i]?=some q:=⟨_,List.getElem?_eq_getElem (by rw [<- hP.len];exact(List.getElem?_eq_some_iff.1 hb).1)⟩
  obtain⟨_,x,y,hc,hx,hy⟩:=hP.at_ i b q hb hq;have c0:w.cell? ⟨b,0,none⟩=some x:=aA hc 0;have c1:w.cell? ⟨b,1,none⟩=some y:=aA hc 1;have HR:Hid (∀S,prim1 W S carW (.pair i)=⟨0,W,S.give q.1⟩):=fun S=>by unfold prim1;rw [if_neg (show ¬carW=displayW from by decide),if_pos (Or.inl rfl)];dsimp only;rw [hq];dsimp only;rw [if_neg (show ¬carW=cdrW from by decide)]
  have HX:Hid (RV s x q.1/\RV s y q.2):=⟨hx,hy⟩
  obtain⟨T1,x1,rfl⟩:=hx.iface;obtain⟨T2,x2,rfl⟩:=hy.iface;clear hp hP he hv hc hq hb hx hy;go_enter func320,ntmps320;go_wp2_with fail;go_ret2;exact⟨rfl,.inl ⟨_,_,rfl,HX.out.1,HR.out⟩⟩
 ·have HR:Hid (∀S,prim1 W S carW p=⟨9,W,S⟩):=fun S=>by
   unfold prim1;rw [if_neg (show ¬carW=displayW from by decide),if_pos (Or.inl rfl)]
   cases p with
   | pair i=>exact absurd rfl (hn i)
   | _=>rfl
  clear hp hP he hv hn;go_enter func320,ntmps320;go_wp2_with (go_at_call 326;refine(HFt.out _ _ HPr.out).mono ?_;rintro e w' ⟨rfl,es,rfl⟩);go_ret2;exact⟨rfl,.inr ⟨es,9,by decide,rfl,HR.out⟩⟩
theorem uX(M:Nat->Prop)(w:World)(s:Sg)(W:PW)(v:Value)(p:PV)(hp:Prm w)(hP:PairsAt M w s W.pairs)(he:Eng s)(hv:RV s v p):Calls prog 320 #[.int .i64 7,v] w fun e w'=>w=w'/\PrQ W s (fun S=>prim1 W S cdrW p) e:=by
 have HFt:Hid (∀code w',Prm w'->Calls prog 326 #[.int .i64 7,.int .i64 code] w' fun e w2=>w'=w2/\∃es,e=.returned (aY es code)):=fun code w' hp=>dD 7 cdrW code w' hp rfl (by decide);have HPr:Hid (Prm w):=hp;have as1:=@fC 367;rcases hv.asPair he with⟨i,b,rfl,hb,rfl⟩ | ⟨hn,T,x,rfl,hno⟩
 ·obtain⟨q,hq⟩:∃q,W.pairs[i]?=some q:=⟨_,List.getElem?_eq_getElem (by rw [<- hP.len];exact(List.getElem?_eq_some_iff.1 hb).1)⟩
  obtain⟨_,x,y,hc,hx,hy⟩:=hP.at_ i b q hb hq;have c0:w.cell? ⟨b,0,none⟩=some x:=aA hc 0;have c1:w.cell? ⟨b,1,none⟩=some y:=aA hc 1;have HR:Hid (∀S,prim1 W S cdrW (.pair i)=⟨0,W,S.give q.2⟩):=fun S=>by unfold prim1;rw [if_neg (show ¬cdrW=displayW from by decide),if_pos (Or.inr rfl)];dsimp only;rw [hq];dsimp only;rw [if_pos rfl]
  have HX:Hid (RV s x q.1/\RV s y q.2):=⟨hx,hy⟩
  obtain⟨T1,x1,rfl⟩:=hx.iface;obtain⟨T2,x2,rfl⟩:=hy.iface;clear hp hP he hv hc hq hb hx hy;go_enter func320,ntmps320;go_wp2_with fail;go_ret2;exact⟨rfl,.inl ⟨_,_,rfl,HX.out.2,HR.out⟩⟩
 ·have HR:Hid (∀S,prim1 W S cdrW p=⟨9,W,S⟩):=fun S=>by
   unfold prim1;rw [if_neg (show ¬cdrW=displayW from by decide),if_pos (Or.inr rfl)]
   cases p with
   | pair i=>exact absurd rfl (hn i)
   | _=>rfl
  clear hp hP he hv hn;go_enter func320,ntmps320;go_wp2_with (go_at_call 326;refine(HFt.out _ _ HPr.out).mono ?_;rintro e w' ⟨rfl,es,rfl⟩);go_ret2;exact⟨rfl,.inr ⟨es,9,by decide,rfl,HR.out⟩⟩
theorem fX(k:Int)(nm:Byt)(w:World)(s:Sg)(W:PW)(u v:Value)(a b:PV)(hp:Prm w)(he:Eng s)(hu:RV s u a)(hv:RV s v b)(hno:¬((∃x,a=.num x)/\∃y,b=.num y))(hF:∀code w',Prm w'->Calls prog 326 #[.int .i64 k,.int .i64 code] w' fun e w2=>w'=w2/\∃es,e=.returned (aY es code))(hn:¬nm=consW/\¬nm=sameW):Calls prog 322 #[.int .i64 k,u,v] w fun e w'=>Below w.heap.size w w'/\PrQ W s (fun S=>prim2 W S nm a b) e:=by
 have HFt:Hid (∀code w',Prm w'->Calls prog 326 #[.int .i64 k,.int .i64 code] w' fun e w2=>w'=w2/\∃es,e=.returned (aY es code)):=hF;have HPr:Hid (Prm w):=hp;have as1:=@fC 294
 have HR:Hid (∀S,prim2 W S nm a b=⟨9,W,S⟩):=fun S=>by
  have h1:prim2 W S nm a b=Pl.reckon W S nm a b:=(if_neg hn.1).trans (if_neg hn.2);rw [h1];unfold Pl.reckon;split
  ·rename_i x y;exact absurd ⟨⟨x,rfl⟩,⟨y,rfl⟩⟩ hno
  ·rfl
 clear hF hn;rcases hu.asNum he with⟨x,hx,rfl⟩ | ⟨h1,T1,x1,rfl,hno1⟩
 ·rcases hv.asNum he with⟨y,hy,rfl⟩ | ⟨h2,T2,x2,rfl,hno2⟩
  ·exact absurd ⟨⟨x,hx⟩,⟨y,hy⟩⟩ hno
  ·clear hu hv hx h2 hno;clear hp he;go_enter func322,ntmps322;go_wp2_with (go_at_call 326;refine(HFt.out _ _ HPr.out).mono ?_;rintro e w' ⟨rfl,es,rfl⟩);go_ret2;exact⟨Below.refl _ _,.inr ⟨es,9,by decide,rfl,HR.out⟩⟩
 ·rcases hv.asNum he with⟨y,hy,rfl⟩ | ⟨h2,T2,x2,rfl,hno2⟩
  ·clear hu hv hy h1 hno;clear hp he;go_enter func322,ntmps322;go_wp2_with (go_at_call 326;refine(HFt.out _ _ HPr.out).mono ?_;rintro e w' ⟨rfl,es,rfl⟩);go_ret2;exact⟨Below.refl _ _,.inr ⟨es,9,by decide,rfl,HR.out⟩⟩
  ·clear hu hv h1 h2 hno;clear hp he;go_enter func322,ntmps322;go_wp2_with (go_at_call 326;refine(HFt.out _ _ HPr.out).mono ?_;rintro e w' ⟨rfl,es,rfl⟩);go_ret2;exact⟨Below.refl _ _,.inr ⟨es,9,by decide,rfl,HR.out⟩⟩
theorem yQ(w:World)(s:Sg)(W:PW)(u v:Value)(a b:PV)(hp:Prm w)(he:Eng s)(hu:RV s u a)(hv:RV s v b)(hno:¬((∃x,a=.num x)/\∃y,b=.num y)):Calls prog 322 #[.int .i64 0,u,v] w fun e w'=>Below w.heap.size w w'/\PrQ W s (fun S=>prim2 W S plusW a b) e :=fX 0 plusW w s W u v a b hp he hu hv hno (fun code w' hp=>dD 0 plusW code w' hp rfl (by decide)) (by decide)
theorem yP(w:World)(s:Sg)(W:PW)(u v:Value)(a b:PV)(hp:Prm w)(he:Eng s)(hu:RV s u a)(hv:RV s v b)(hno:¬((∃x,a=.num x)/\∃y,b=.num y)):Calls prog 322 #[.int .i64 1,u,v] w fun e w'=>Below w.heap.size w w'/\PrQ W s (fun S=>prim2 W S minusW a b) e :=fX 1 minusW w s W u v a b hp he hu hv hno (fun code w' hp=>dD 1 minusW code w' hp rfl (by decide)) (by decide)
theorem yO(w:World)(s:Sg)(W:PW)(u v:Value)(a b:PV)(hp:Prm w)(he:Eng s)(hu:RV s u a)(hv:RV s v b)(hno:¬((∃x,a=.num x)/\∃y,b=.num y)):Calls prog 322 #[.int .i64 2,u,v] w fun e w'=>Below w.heap.size w w'/\PrQ W s (fun S=>prim2 W S timesW a b) e :=fX 2 timesW w s W u v a b hp he hu hv hno (fun code w' hp=>dD 2 timesW code w' hp rfl (by decide)) (by decide)
theorem yN(w:World)(s:Sg)(W:PW)(u v:Value)(a b:PV)(hp:Prm w)(he:Eng s)(hu:RV s u a)(hv:RV s v b)(hno:¬((∃x,a=.num x)/\∃y,b=.num y)):Calls prog 322 #[.int .i64 3,u,v] w fun e w'=>Below w.heap.size w w'/\PrQ W s (fun S=>prim2 W S lessW a b) e :=fX 3 lessW w s W u v a b hp he hu hv hno (fun code w' hp=>dD 3 lessW code w' hp rfl (by decide)) (by decide)
theorem yM(w:World)(s:Sg)(W:PW)(u v:Value)(a b:PV)(hp:Prm w)(he:Eng s)(hu:RV s u a)(hv:RV s v b)(hno:¬((∃x,a=.num x)/\∃y,b=.num y)):Calls prog 322 #[.int .i64 4,u,v] w fun e w'=>Below w.heap.size w w'/\PrQ W s (fun S=>prim2 W S eqW a b) e :=fX 4 eqW w s W u v a b hp he hu hv hno (fun code w' hp=>dD 4 eqW code w' hp rfl (by decide)) (by decide)
theorem m9(w:World)(s:Sg)(W:PW)(x y:Int):Calls prog 322 #[.int .i64 3,.iface 294 (.int .i64 x),.iface 294 (.int .i64 y)] w fun e w'=>Below w.heap.size w w'/\PrQ W s (fun S=>prim2 W S lessW (.num x) (.num y)) e:=by
 have as1:=@fC 294;go_enter func322,ntmps322;go_wp2_with fail;go_ret2
 exact⟨Below.refl _ _,.inl ⟨_,.truth (decide (x<y)),rfl,.truth _,fun S=>by
  show prim2 W S lessW (.num x) (.num y)=_;unfold prim2 Pl.reckon;rw [if_neg (show ¬lessW=consW from by decide),if_neg (show ¬lessW=sameW from by decide)];dsimp only
  rw [if_pos rfl]⟩⟩
theorem m8(w:World)(s:Sg)(W:PW)(x y:Int):Calls prog 322 #[.int .i64 4,.iface 294 (.int .i64 x),.iface 294 (.int .i64 y)] w fun e w'=>Below w.heap.size w w'/\PrQ W s (fun S=>prim2 W S eqW (.num x) (.num y)) e:=by
 have as1:=@fC 294;go_enter func322,ntmps322;go_wp2_with fail;go_ret2
 exact⟨Below.refl _ _,.inl ⟨_,.truth (decide (x=y)),rfl,.truth _,fun S=>by
  show prim2 W S eqW (.num x) (.num y)=_;unfold prim2 Pl.reckon;rw [if_neg (show ¬eqW=consW from by decide),if_neg (show ¬eqW=sameW from by decide)];dsimp only
  rw [if_neg (show ¬eqW=lessW from by decide),if_pos rfl]⟩⟩
theorem nC(w:World)(s:Sg)(W:PW)(x y:Int)(hp:Prm w)(hx:x.natAbs<=Pl.big)(hy:y.natAbs<=Pl.big):Calls prog 322 #[.int .i64 0,.iface 294 (.int .i64 x),.iface 294 (.int .i64 y)] w fun e w'=>Below w.heap.size w w'/\PrQ W s (fun S=>prim2 W S plusW (.num x) (.num y)) e:=by
 have HFt:Hid (∀code w',Prm w'->Calls prog 326 #[.int .i64 0,.int .i64 code] w' fun e w2=>w'=w2/\∃es,e=.returned (aY es code)):=fun code w' hp=>dD 0 plusW code w' hp rfl (by decide);have HPr:Hid (Prm w):=hp;have as1:=@fC 294;have HC:Hid (Calls prog 328 #[.int .i64 0,.int .i64 x,.int .i64 y] w fun e w'=>Below w.heap.size w w'/\∃r,((x+y).natAbs<=Pl.big->r=x+y)/\e=.returned (.tuple #[.int .i64 r,.bool (decide ((x+y).natAbs<=Pl.big))])):=show Calls _ _ _ _ _ from(uV x y w hx hy).mono (fun e w' ⟨h1,h2⟩=>⟨by subst h1;exact Below.refl _ _,_,fun _=>rfl,h2⟩);have HR:Hid (∀S,prim2 W S plusW (.num x) (.num y)=if(x+y).natAbs<=Pl.big then⟨0,W,S.give (.num (x+y))⟩ else⟨11,W,S⟩):=fun S=>by unfold prim2 Pl.reckon;rw [if_neg (show ¬plusW=consW from by decide),if_neg (show ¬plusW=sameW from by decide)];dsimp only;rw [if_neg (show ¬plusW=lessW from by decide),if_neg (show ¬plusW=eqW from by decide),if_pos rfl]
 have HK:Hid (∀w',Below w.heap.size w w'->Prm w'):=fun w' hb k nm hk h12=>by rw [hb.cell (World.block_lt_of_cell? _ _ (hp k nm hk h12).1),hb.cell (World.block_lt_of_cell? _ _ (hp k nm hk h12).2)];exact hp k nm hk h12
 generalize x+y=z at *;by_cases hz:z.natAbs<=Pl.big
 ·have hd:decide (z.natAbs<=Pl.big)=true:=by simpa using hz
  rw [hd] at HC;clear hp hx hy;go_enter func322,ntmps322;go_wp2_with (go_at_call 328;refine Calls.mono HC.out ?_;rintro e w' ⟨hB,r,hr,rfl⟩);go_ret2;exact⟨hB,.inl ⟨_,.num z,rfl,.num z,fun S=>by have:=HR.out S;rw [if_pos hz] at this;exact this⟩⟩
 ·have hd:decide (z.natAbs<=Pl.big)=false:=by simpa using hz
  rw [hd] at HC;clear hp hx hy;go_enter func322,ntmps322
  go_wp2_with (first
   | (go_at_call 328;refine Calls.mono HC.out ?_;rintro e w' ⟨hB,r,hr,rfl⟩)
   | (go_at_call 326;refine(HFt.out _ _ (HK.out _ hB)).mono ?_;rintro e w2 ⟨rfl,es,rfl⟩))
  go_ret2;exact⟨hB,.inr ⟨es,11,by decide,rfl,fun S=>by have:=HR.out S;rw [if_neg hz] at this;exact this⟩⟩
theorem nB(w:World)(s:Sg)(W:PW)(x y:Int)(hp:Prm w)(hx:x.natAbs<=Pl.big)(hy:y.natAbs<=Pl.big):Calls prog 322 #[.int .i64 1,.iface 294 (.int .i64 x),.iface 294 (.int .i64 y)] w fun e w'=>Below w.heap.size w w'/\PrQ W s (fun S=>prim2 W S minusW (.num x) (.num y)) e:=by
 have HFt:Hid (∀code w',Prm w'->Calls prog 326 #[.int .i64 1,.int .i64 code] w' fun e w2=>w'=w2/\∃es,e=.returned (aY es code)):=fun code w' hp=>dD 1 minusW code w' hp rfl (by decide);have HPr:Hid (Prm w):=hp;have as1:=@fC 294;have HC:Hid (Calls prog 328 #[.int .i64 1,.int .i64 x,.int .i64 y] w fun e w'=>Below w.heap.size w w'/\∃r,((x-y).natAbs<=Pl.big->r=x-y)/\e=.returned (.tuple #[.int .i64 r,.bool (decide ((x-y).natAbs<=Pl.big))])):=show Calls _ _ _ _ _ from(uT x y w hx hy).mono (fun e w' ⟨h1,h2⟩=>⟨by subst h1;exact Below.refl _ _,_,fun _=>rfl,h2⟩);have HR:Hid (∀S,prim2 W S minusW (.num x) (.num y)=if(x-y).natAbs<=Pl.big then⟨0,W,S.give (.num (x-y))⟩ else⟨11,W,S⟩):=fun S=>by unfold prim2 Pl.reckon;rw [if_neg (show ¬minusW=consW from by decide),if_neg (show ¬minusW=sameW from by decide)];dsimp only;rw [if_neg (show ¬minusW=lessW from by decide),if_neg (show ¬minusW=eqW from by decide),if_neg (show ¬minusW=plusW from by decide),if_pos rfl]
 have HK:Hid (∀w',Below w.heap.size w w'->Prm w'):=fun w' hb k nm hk h12=>by rw [hb.cell (World.block_lt_of_cell? _ _ (hp k nm hk h12).1),hb.cell (World.block_lt_of_cell? _ _ (hp k nm hk h12).2)];exact hp k nm hk h12
 generalize x-y=z at *;by_cases hz:z.natAbs<=Pl.big
 ·have hd:decide (z.natAbs<=Pl.big)=true:=by simpa using hz
  rw [hd] at HC;clear hp hx hy;go_enter func322,ntmps322;go_wp2_with (go_at_call 328;refine Calls.mono HC.out ?_;rintro e w' ⟨hB,r,hr,rfl⟩);go_ret2;exact⟨hB,.inl ⟨_,.num z,rfl,.num z,fun S=>by have:=HR.out S;rw [if_pos hz] at this;exact this⟩⟩
 ·have hd:decide (z.natAbs<=Pl.big)=false:=by simpa using hz
  rw [hd] at HC;clear hp hx hy;go_enter func322,ntmps322
  go_wp2_with (first
   | (go_at_call 328;refine Calls.mono HC.out ?_;rintro e w' ⟨hB,r,hr,rfl⟩)
   | (go_at_call 326;refine(HFt.out _ _ (HK.out _ hB)).mono ?_;rintro e w2 ⟨rfl,es,rfl⟩))
  go_ret2;exact⟨hB,.inr ⟨es,11,by decide,rfl,fun S=>by have:=HR.out S;rw [if_neg hz] at this;exact this⟩⟩
theorem nA(w:World)(s:Sg)(W:PW)(x y:Int)(hp:Prm w)(hx:x.natAbs<=Pl.big)(hy:y.natAbs<=Pl.big):Calls prog 322 #[.int .i64 2,.iface 294 (.int .i64 x),.iface 294 (.int .i64 y)] w fun e w'=>Below w.heap.size w w'/\PrQ W s (fun S=>prim2 W S timesW (.num x) (.num y)) e:=by
 have HFt:Hid (∀code w',Prm w'->Calls prog 326 #[.int .i64 2,.int .i64 code] w' fun e w2=>w'=w2/\∃es,e=.returned (aY es code)):=fun code w' hp=>dD 2 timesW code w' hp rfl (by decide);have HPr:Hid (Prm w):=hp;have as1:=@fC 294;have HC:Hid (Calls prog 328 #[.int .i64 2,.int .i64 x,.int .i64 y] w fun e w'=>Below w.heap.size w w'/\∃r,((x*y).natAbs<=Pl.big->r=x*y)/\e=.returned (.tuple #[.int .i64 r,.bool (decide ((x*y).natAbs<=Pl.big))])):=uU x y w hx hy;have HR:Hid (∀S,prim2 W S timesW (.num x) (.num y)=if(x*y).natAbs<=Pl.big then⟨0,W,S.give (.num (x*y))⟩ else⟨11,W,S⟩):=fun S=>by unfold prim2 Pl.reckon;rw [if_neg (show ¬timesW=consW from by decide),if_neg (show ¬timesW=sameW from by decide)];dsimp only;rw [if_neg (show ¬timesW=lessW from by decide),if_neg (show ¬timesW=eqW from by decide),if_neg (show ¬timesW=plusW from by decide),if_neg (show ¬timesW=minusW from by decide)]
 have HK:Hid (∀w',Below w.heap.size w w'->Prm w'):=fun w' hb k nm hk h12=>by rw [hb.cell (World.block_lt_of_cell? _ _ (hp k nm hk h12).1),hb.cell (World.block_lt_of_cell? _ _ (hp k nm hk h12).2)];exact hp k nm hk h12
 generalize x*y=z at *;by_cases hz:z.natAbs<=Pl.big
 ·have hd:decide (z.natAbs<=Pl.big)=true:=by simpa using hz
  rw [hd] at HC;clear hp hx hy;go_enter func322,ntmps322;go_wp2_with (go_at_call 328;refine Calls.mono HC.out ?_;rintro e w' ⟨hB,r,hr,rfl⟩);go_ret2;exact⟨hB,.inl ⟨_,.num z,rfl,.num z,fun S=>by have:=HR.out S;rw [if_pos hz] at this;exact this⟩⟩
 ·have hd:decide (z.natAbs<=Pl.big)=false:=by simpa using hz
  rw [hd] at HC;clear hp hx hy;go_enter func322,ntmps322
  go_wp2_with (first
   | (go_at_call 328;refine Calls.mono HC.out ?_;rintro e w' ⟨hB,r,hr,rfl⟩)
   | (go_at_call 326;refine(HFt.out _ _ (HK.out _ hB)).mono ?_;rintro e w2 ⟨rfl,es,rfl⟩))
  go_ret2;exact⟨hB,.inr ⟨es,11,by decide,rfl,fun S=>by have:=HR.out S;rw [if_neg hz] at this;exact this⟩⟩
theorem l7{l:List Nat}(hn:l.Nodup){i j:Nat}(hi:l[i]?=some a)(hj:l[j]?=some b)(h:i≠j):a≠b:=by rintro rfl;obtain⟨h1,e1⟩:=List.getElem?_eq_some_iff.1 hi;obtain⟨h2,e2⟩:=List.getElem?_eq_some_iff.1 hj;subst e1;have:=hn.idxOf_getElem i h1;rw [<- e2,hn.idxOf_getElem j h2] at this;exact h this.symm
theorem Tryz.pi_pair:(prog.info? 367).map (fun i=>i.comparable)=some true:=by kernel_rfl
theorem Tryz.pj_pair:(prog.info? 369).map (fun i=>i.size==0)=some false:=by kernel_rfl
theorem aAH(w:World)(ha:w.heap[a]?=some (.cells ca ta (0,0)))(hb:w.heap[b]?=some (.cells cb tb (0,0))):(binOp .eql 161 (.iface 367 (.pointer (some ⟨a,0,none⟩))) (.iface 367 (.pointer (some ⟨b,0,none⟩)))).run prog w=.ok (.bool (decide (a=b))) w:=by
 obtain⟨i,hi,hc⟩:=Option.map_eq_some_iff.1 Tryz.pi_pair;obtain⟨j,hj,hz⟩:=Option.map_eq_some_iff.1 Tryz.pj_pair;by_cases h:a=b
 ·subst h;rw [run_eql_iface_ptr_same w ⟨a,0,none⟩ underlying161 underlying367 hi hc hj];simp
 ·rw [run_eql_iface_ptr_other w (a:=⟨a,0,none⟩) (b:=⟨b,0,none⟩) underlying161 underlying367 hi hc hj (by simpa using hz) (fun e=>h (congrArg Addr.block e)) ha hb];simp [h]
theorem Tryz.pi_sq:(prog.info? 330).map (fun i=>i.comparable)=some true:=by kernel_rfl
theorem Tryz.pj_sq:(prog.info? 333).map (fun i=>i.size==0)=some false:=by kernel_rfl
theorem eqp_sq(w:World)(ha:w.heap[a]?=some (.cells ca ta (0,0)))(hb:w.heap[b]?=some (.cells cb tb (0,0))):(binOp .eql 161 (.iface 330 (.pointer (some ⟨a,0,none⟩))) (.iface 330 (.pointer (some ⟨b,0,none⟩)))).run prog w=.ok (.bool (decide (a=b))) w:=by
 obtain⟨i,hi,hc⟩:=Option.map_eq_some_iff.1 Tryz.pi_sq;obtain⟨j,hj,hz⟩:=Option.map_eq_some_iff.1 Tryz.pj_sq;by_cases h:a=b
 ·subst h;rw [run_eql_iface_ptr_same w ⟨a,0,none⟩ underlying161 underlying330 hi hc hj];simp
 ·rw [run_eql_iface_ptr_other w (a:=⟨a,0,none⟩) (b:=⟨b,0,none⟩) underlying161 underlying330 hi hc hj (by simpa using hz) (fun e=>h (congrArg Addr.block e)) ha hb];simp [h]
theorem Tryz.pi_sc:(prog.info? 522).map (fun i=>i.comparable)=some true:=by kernel_rfl
theorem Tryz.pj_sc:(prog.info? 526).map (fun i=>i.size==0)=some false:=by kernel_rfl
theorem eqp_sc(w:World)(ha:w.heap[a]?=some (.cells ca ta (0,0)))(hb:w.heap[b]?=some (.cells cb tb (0,0))):(binOp .eql 161 (.iface 522 (.pointer (some ⟨a,0,none⟩))) (.iface 522 (.pointer (some ⟨b,0,none⟩)))).run prog w=.ok (.bool (decide (a=b))) w:=by
 obtain⟨i,hi,hc⟩:=Option.map_eq_some_iff.1 Tryz.pi_sc;obtain⟨j,hj,hz⟩:=Option.map_eq_some_iff.1 Tryz.pj_sc;by_cases h:a=b
 ·subst h;rw [run_eql_iface_ptr_same w ⟨a,0,none⟩ underlying161 underlying522 hi hc hj];simp
 ·rw [run_eql_iface_ptr_other w (a:=⟨a,0,none⟩) (b:=⟨b,0,none⟩) underlying161 underlying522 hi hc hj (by simpa using hz) (fun e=>h (congrArg Addr.block e)) ha hb];simp [h]
theorem Tryz.pi_fq:(prog.info? 465).map (fun i=>i.comparable)=some true:=by kernel_rfl
theorem Tryz.pj_fq:(prog.info? 467).map (fun i=>i.size==0)=some false:=by kernel_rfl
theorem eqp_fq(w:World)(ha:w.heap[a]?=some (.cells ca ta (0,0)))(hb:w.heap[b]?=some (.cells cb tb (0,0))):(binOp .eql 161 (.iface 465 (.pointer (some ⟨a,0,none⟩))) (.iface 465 (.pointer (some ⟨b,0,none⟩)))).run prog w=.ok (.bool (decide (a=b))) w:=by
 obtain⟨i,hi,hc⟩:=Option.map_eq_some_iff.1 Tryz.pi_fq;obtain⟨j,hj,hz⟩:=Option.map_eq_some_iff.1 Tryz.pj_fq;by_cases h:a=b
 ·subst h;rw [run_eql_iface_ptr_same w ⟨a,0,none⟩ underlying161 underlying465 hi hc hj];simp
 ·rw [run_eql_iface_ptr_other w (a:=⟨a,0,none⟩) (b:=⟨b,0,none⟩) underlying161 underlying465 hi hc hj (by simpa using hz) (fun e=>h (congrArg Addr.block e)) ha hb];simp [h]
theorem Tryz.pi_fc:(prog.info? 477).map (fun i=>i.comparable)=some true:=by kernel_rfl
theorem Tryz.pj_fc:(prog.info? 479).map (fun i=>i.size==0)=some false:=by kernel_rfl
theorem eqp_fc(w:World)(ha:w.heap[a]?=some (.cells ca ta (0,0)))(hb:w.heap[b]?=some (.cells cb tb (0,0))):(binOp .eql 161 (.iface 477 (.pointer (some ⟨a,0,none⟩))) (.iface 477 (.pointer (some ⟨b,0,none⟩)))).run prog w=.ok (.bool (decide (a=b))) w:=by
 obtain⟨i,hi,hc⟩:=Option.map_eq_some_iff.1 Tryz.pi_fc;obtain⟨j,hj,hz⟩:=Option.map_eq_some_iff.1 Tryz.pj_fc;by_cases h:a=b
 ·subst h;rw [run_eql_iface_ptr_same w ⟨a,0,none⟩ underlying161 underlying477 hi hc hj];simp
 ·rw [run_eql_iface_ptr_other w (a:=⟨a,0,none⟩) (b:=⟨b,0,none⟩) underlying161 underlying477 hi hc hj (by simpa using hz) (fun e=>h (congrArg Addr.block e)) ha hb];simp [h]
theorem qK{k j:Nat}{t:Byt}(h:prims[k]?=some t)(hj:prims[j]?=some t):k=j:=by
 have hn:Pl.prims.Nodup:=by decide
 obtain⟨h1,e1⟩:=List.getElem?_eq_some_iff.1 h;obtain⟨h2,e2⟩:=List.getElem?_eq_some_iff.1 hj;subst e1;have:=hn.idxOf_getElem k h1;rw [<- e2,hn.idxOf_getElem j h2] at this;exact this.symm
theorem lR{k:Nat}(h:prims[k]?=some callccW):k=12:=qK h rfl
theorem Eng.ne{s:Sg}(h:Eng s):s.tq≠s.tc/\(∀T,T∈[294,296,297,366,299,367,246,243]->s.tq≠T/\s.tc≠T):=by rcases h with⟨h1,h2⟩ | ⟨h1,h2⟩<;>rw [h1,h2]<;>decide
theorem RV.eqv{s:Sg}{u v:Value}{a b:PV}(h:RV s u a)(k:RV s v b){w:World}{ps:List (PV×PV)}{n:Nat}(hL:Lie w s ps n):(binOp .eql 161 u v).run prog w=.ok (.bool (decide (a=b))) w:=by
 have he:=hL.eng;have hpl:∀i x,s.pb[i]?=some x->∃cs,w.heap[x]?=some (Obj.cells cs TPair (0,0)):=fun i x hx=>by have hi:=(List.getElem?_eq_some_iff.1 hx).1;obtain⟨_,x1,y1,h1,_⟩:=hL.pairs i x _ hx (List.getElem?_eq_getElem (by rw [<- hL.len];exact hi));exact⟨_,h1⟩
 cases h with
 | num n =>
  cases k with
  | num m=>rw [Tryz.eq_num,show decide (Pl.PV.num n=Pl.PV.num m)=(n==m) from by simp only [Pl.PV.num.injEq];rfl]
  | _ =>rw [bD w (by first | decide | exact(he.ne.2 _ (by decide)).1 | exact(he.ne.2 _ (by decide)).2 | exact(he.ne.2 _ (by decide)).1.symm | exact(he.ne.2 _ (by decide)).2.symm | exact he.ne.1 | exact he.ne.1.symm)];simp
 | truth x =>
  cases k with
  | truth y=>rw [Tryz.eq_truth];cases x<;>cases y<;>rfl
  | _ =>rw [bD w (by first | decide | exact(he.ne.2 _ (by decide)).1 | exact(he.ne.2 _ (by decide)).2 | exact(he.ne.2 _ (by decide)).1.symm | exact(he.ne.2 _ (by decide)).2.symm | exact he.ne.1 | exact he.ne.1.symm)];simp
 | name x =>
  cases k with
  | name y =>
   rw [Tryz.eq_name]
   have:((⟨x.toArray⟩:ByteArray)==⟨y.toArray⟩)=decide (Pl.PV.name x=Pl.PV.name y):=by
    by_cases e:x=y
    ·subst e;rw [(Go.MapKept.bytes_beq _ _).2 rfl];simp
    ·rw [show((⟨x.toArray⟩:ByteArray)==⟨y.toArray⟩)=false from by
      cases hb:((⟨x.toArray⟩:ByteArray)==⟨y.toArray⟩) with
      | false=>rfl
      | true=>exact absurd (by simpa using (Go.MapKept.bytes_beq _ _).1 hb) e]
     simp [e]
   rw [this]
  | _ =>rw [bD w (by first | decide | exact(he.ne.2 _ (by decide)).1 | exact(he.ne.2 _ (by decide)).2 | exact(he.ne.2 _ (by decide)).1.symm | exact(he.ne.2 _ (by decide)).2.symm | exact he.ne.1 | exact he.ne.1.symm)];simp
 | empty =>
  cases k with
  | empty=>rw [Tryz.eq_empty];rfl
  | _ =>rw [bD w (by first | decide | exact(he.ne.2 _ (by decide)).1 | exact(he.ne.2 _ (by decide)).2 | exact(he.ne.2 _ (by decide)).1.symm | exact(he.ne.2 _ (by decide)).2.symm | exact he.ne.1 | exact he.ne.1.symm)];simp
 | nothing =>
  cases k with
  | nothing=>rw [Tryz.eq_nothing];rfl
  | _ =>rw [bD w (by first | decide | exact(he.ne.2 _ (by decide)).1 | exact(he.ne.2 _ (by decide)).2 | exact(he.ne.2 _ (by decide)).1.symm | exact(he.ne.2 _ (by decide)).2.symm | exact he.ne.1 | exact he.ne.1.symm)];simp
 | pair i x hx =>
  cases k with
  | pair j y hy =>
   obtain⟨c1,h1⟩:=hpl i x hx;obtain⟨c2,h2⟩:=hpl j y hy;rw [aAH w h1 h2];by_cases e:i=j
   ·subst e;rw [hx] at hy;simp at hy;simp [hy]
   ·simp [e,l7 hL.nodup hx hy e]
  | _ =>rw [bD w (by first | decide | exact(he.ne.2 _ (by decide)).1 | exact(he.ne.2 _ (by decide)).2 | exact(he.ne.2 _ (by decide)).1.symm | exact(he.ne.2 _ (by decide)).2.symm | exact he.ne.1 | exact he.ne.1.symm)];simp
 | proc i x hx =>
  cases k with
  | proc j y hy =>
   obtain⟨_,c1,h1⟩:=hL.procs i x hx;obtain⟨_,c2,h2⟩:=hL.procs j y hy
   have:decide (x=y)=decide (Pl.PV.proc i=Pl.PV.proc j):=by
    by_cases e:i=j
    ·subst e;rw [hx] at hy;simp at hy;simp [hy]
    ·simp [e,l7 hL.qn hx hy e]
   rw [<- this];rcases he with⟨e,_⟩ | ⟨e,_⟩<;>rw [e]
   ·exact eqp_sq w h1 h2
   ·exact eqp_fq w h1 h2
  | _ =>rw [bD w (by first | decide | exact(he.ne.2 _ (by decide)).1 | exact(he.ne.2 _ (by decide)).2 | exact(he.ne.2 _ (by decide)).1.symm | exact(he.ne.2 _ (by decide)).2.symm | exact he.ne.1 | exact he.ne.1.symm)];simp
 | cont i x hx =>
  cases k with
  | cont j y hy =>
   obtain⟨_,c1,h1⟩:=hL.conts i x hx;obtain⟨_,c2,h2⟩:=hL.conts j y hy
   have:decide (x=y)=decide (Pl.PV.cont i=Pl.PV.cont j):=by
    by_cases e:i=j
    ·subst e;rw [hx] at hy;simp at hy;simp [hy]
    ·simp [e,l7 hL.cn hx hy e]
   rw [<- this];rcases he with⟨_,e⟩ | ⟨_,e⟩<;>rw [e]
   ·exact eqp_sc w h1 h2
   ·exact eqp_fc w h1 h2
  | _ =>rw [bD w (by first | decide | exact(he.ne.2 _ (by decide)).1 | exact(he.ne.2 _ (by decide)).2 | exact(he.ne.2 _ (by decide)).1.symm | exact(he.ne.2 _ (by decide)).2.symm | exact he.ne.1 | exact he.ne.1.symm)];simp
 | prim i t ht h12 =>
  cases k with
  | prim j t' ht' h12' =>
   rw [Tryz.eq_prim];by_cases e:t=t'
   ·subst e;rw [qK ht ht'];simp
   ·have:i≠j:=fun e2=>by subst e2;rw [ht] at ht';exact e (Option.some.inj ht')
    have h2:((i:Int)==(j:Int))=false:=beq_eq_false_iff_ne.2 (by omega);rw [h2];simp [e]
  | callcc =>
   rw [bD w (by first | decide | exact(he.ne.2 _ (by decide)).1 | exact(he.ne.2 _ (by decide)).2 | exact(he.ne.2 _ (by decide)).1.symm | exact(he.ne.2 _ (by decide)).2.symm | exact he.ne.1 | exact he.ne.1.symm)];have:t≠callccW:=fun e=>by subst e;have:=lR ht;omega
   simp [this]
  | _ =>rw [bD w (by first | decide | exact(he.ne.2 _ (by decide)).1 | exact(he.ne.2 _ (by decide)).2 | exact(he.ne.2 _ (by decide)).1.symm | exact(he.ne.2 _ (by decide)).2.symm | exact he.ne.1 | exact he.ne.1.symm)];simp
 | callcc =>
  cases k with
  | callcc=>rw [Tryz.eq_callcc];rfl
  | prim j t' ht' h12' =>
   rw [bD w (by first | decide | exact(he.ne.2 _ (by decide)).1 | exact(he.ne.2 _ (by decide)).2 | exact(he.ne.2 _ (by decide)).1.symm | exact(he.ne.2 _ (by decide)).2.symm | exact he.ne.1 | exact he.ne.1.symm)];have:callccW≠t':=fun e=>by subst e;have:=lR ht';omega
   simp [this]
  | _ =>rw [bD w (by first | decide | exact(he.ne.2 _ (by decide)).1 | exact(he.ne.2 _ (by decide)).2 | exact(he.ne.2 _ (by decide)).1.symm | exact(he.ne.2 _ (by decide)).2.symm | exact he.ne.1 | exact he.ne.1.symm)];simp
theorem Prm.below{w w':World}(hp:Prm w)(hb:Below w.heap.size w w'):Prm w':=fun k nm hk h12=>by rw [hb.cell (World.block_lt_of_cell? _ _ (hp k nm hk h12).1),hb.cell (World.block_lt_of_cell? _ _ (hp k nm hk h12).2)];exact hp k nm hk h12
theorem aAP(nm:Byt):arity nm<=2:=by unfold arity;split<;>decide
def CkYes(nm:Byt)(n:Nat)(w:World)(ao:Option Addr)(cap:Nat):Prop:=Calls prog 298 #[.string ⟨nm.toArray⟩,.int .i64 (n:Int),.slice ao n cap] w fun e w'=>w=w'/\e=.returned .nilIface
theorem eE(nm:Byt)(hm:nm∈prims)(n:Nat)(hn:n<=2)(w:World)(ao:Option Addr)(cap:Nat):CkYes nm n w ao cap :=
 (gR ⟨nm.toArray⟩ n ao n cap w (by omega) (by have:=lQ hm;show nm.toArray.size<=_;simp;omega)).mono (fun e w' ⟨h1,h2⟩=>⟨h1,by
  rcases h2 with⟨_,h2⟩ | ⟨h2,_⟩
  ·exact h2
  ·exact absurd rfl h2⟩)
theorem vC(k:Nat)(nm:Byt)(w:World)(ao:Option Addr)(n cap:Nat)(ov:Value)(hp:Prm w)(hk:prims[k]?=some nm)(h12:k<12)(hne:n≠arity nm) :Calls prog 314 #[.int .i64 (k:Int),.slice ao n cap,ov] w fun e w'=>Below w.heap.size w w'/\∃es,e=.returned (.tuple #[.nilIface,aY es 10]):=by
 obtain⟨c0,c1⟩:=hp k nm hk h12;have hmem:=List.mem_of_getElem? hk;have h0:(0:Int)<=(k:Int):=by omega
 have h1:(k:Int)<12:=by omega
 have HC:Hid (∀w',Calls prog 298 #[.string ⟨nm.toArray⟩,.int .i64 ((arity nm:Nat):Int),.slice ao n cap] w' fun e w2=>w'=w2/\∃es,e=.returned (aY es 10)):=fun w' =>
  (gR ⟨nm.toArray⟩ (arity nm) ao n cap w' (by have:=aAP nm;omega) (by have:=lQ hmem;show nm.toArray.size<=_;simp;omega)).mono (fun e w2 ⟨h1,h2⟩=>⟨h1,by
   rcases h2 with⟨h2,_⟩ | ⟨_,h2⟩
   ·exact absurd h2 hne
   ·exact h2⟩)
 clear hp hk hmem hne;generalize arity nm=ar at *;go_enter func314,ntmps314;go_wp2_with fail;go_region_with (go_at_call 298;refine(HC.out _).mono ?_;rintro e w' ⟨rfl,es,rfl⟩;unfold aY)
 all_goals
  go_wp2_with fail
  go_ret2;exact⟨(Below.refl _ _).drew,es,rfl⟩
theorem y8(M:Nat->Prop)(w:World)(s:Sg)(W:PW)(g off cap:Nat)(v ov:Value)(p:PV)(hp:Prm w)(hP:PairsAt M w s W.pairs)(he:Eng s)(hc:w.cell? ⟨g,off,none⟩=some v)(hv:RV s v p) :Calls prog 314 #[.int .i64 6,.slice (some ⟨g,off,none⟩) 1 cap,ov] w fun e w'=>Below w.heap.size w w'/\PrQ W s (fun S=>prim1 W S carW p) e:=by
 obtain⟨p0,p1⟩:=hp 6 carW rfl (by decide);have p0':w.cell? ⟨1,6*2,none⟩=some (.string ⟨Pl.carW.toArray⟩):=p0;have p1':w.cell? ⟨1,6*2+1,none⟩=some (.int .i64 1):=p1;have _:=hP;have HC:Hid (∀w',CkYes carW 1 w' (some ⟨g,off,none⟩) cap):=fun w'=>eE carW (by decide) 1 (by decide) w' _ cap;clear p0 p1;have HO:Hid (∀w',Below w.heap.size w w'->Calls prog 320 #[.int .i64 6,v] w' fun e w2=>w'=w2/\PrQ W s (fun S=>prim1 W S carW p) e):=fun w' hb=>uY M w' s W v p (hp.below hb) (hP.stp (Stp.of_below hb)) he hv;obtain⟨T,x,rfl⟩:=hv.iface;clear hp hP he hv;go_enter func314,ntmps314;go_wp2_with fail;go_region_with (go_at_call 298;refine Calls.mono (HC.out _) ?_;rintro e w' ⟨rfl,rfl⟩)
 all_goals
  go_wp2_with (go_at_call 320;refine(HO.out _ ((Below.refl _ _).drew)).mono ?_;rintro e w' ⟨rfl,⟨v1,q1,rfl,hv1,hr1⟩ | ⟨es,c,hc0,rfl,hr1⟩⟩)
  ·obtain⟨T1,x1,rfl⟩:=hv1.iface;go_wp2_with fail;go_ret2;exact⟨(Below.refl _ _).drew,.inl ⟨_,q1,rfl,hv1,hr1⟩⟩
  ·unfold aY;go_wp2_with fail;go_ret2;exact⟨(Below.refl _ _).drew,.inr ⟨es,c,hc0,rfl,hr1⟩⟩
theorem y7(M:Nat->Prop)(w:World)(s:Sg)(W:PW)(g off cap:Nat)(v ov:Value)(p:PV)(hp:Prm w)(hP:PairsAt M w s W.pairs)(he:Eng s)(hc:w.cell? ⟨g,off,none⟩=some v)(hv:RV s v p) :Calls prog 314 #[.int .i64 7,.slice (some ⟨g,off,none⟩) 1 cap,ov] w fun e w'=>Below w.heap.size w w'/\PrQ W s (fun S=>prim1 W S cdrW p) e:=by
 obtain⟨p0,p1⟩:=hp 7 cdrW rfl (by decide);have p0':w.cell? ⟨1,7*2,none⟩=some (.string ⟨Pl.cdrW.toArray⟩):=p0;have p1':w.cell? ⟨1,7*2+1,none⟩=some (.int .i64 1):=p1;have _:=hP;have HC:Hid (∀w',CkYes cdrW 1 w' (some ⟨g,off,none⟩) cap):=fun w'=>eE cdrW (by decide) 1 (by decide) w' _ cap;clear p0 p1;have HO:Hid (∀w',Below w.heap.size w w'->Calls prog 320 #[.int .i64 7,v] w' fun e w2=>w'=w2/\PrQ W s (fun S=>prim1 W S cdrW p) e):=fun w' hb=>uX M w' s W v p (hp.below hb) (hP.stp (Stp.of_below hb)) he hv;obtain⟨T,x,rfl⟩:=hv.iface;clear hp hP he hv;go_enter func314,ntmps314;go_wp2_with fail;go_region_with (go_at_call 298;refine Calls.mono (HC.out _) ?_;rintro e w' ⟨rfl,rfl⟩)
 all_goals
  go_wp2_with (go_at_call 320;refine(HO.out _ ((Below.refl _ _).drew)).mono ?_;rintro e w' ⟨rfl,⟨v1,q1,rfl,hv1,hr1⟩ | ⟨es,c,hc0,rfl,hr1⟩⟩)
  ·obtain⟨T1,x1,rfl⟩:=hv1.iface;go_wp2_with fail;go_ret2;exact⟨(Below.refl _ _).drew,.inl ⟨_,q1,rfl,hv1,hr1⟩⟩
  ·unfold aY;go_wp2_with fail;go_ret2;exact⟨(Below.refl _ _).drew,.inr ⟨es,c,hc0,rfl,hr1⟩⟩
theorem y6(M:Nat->Prop)(w:World)(s:Sg)(W:PW)(g off cap:Nat)(v ov:Value)(p:PV)(hp:Prm w)(hP:PairsAt M w s W.pairs)(he:Eng s)(hc:w.cell? ⟨g,off,none⟩=some v)(hv:RV s v p) :Calls prog 314 #[.int .i64 8,.slice (some ⟨g,off,none⟩) 1 cap,ov] w fun e w'=>Below w.heap.size w w'/\PrQ W s (fun S=>prim1 W S nullW p) e:=by
 obtain⟨p0,p1⟩:=hp 8 nullW rfl (by decide);have p0':w.cell? ⟨1,8*2,none⟩=some (.string ⟨Pl.nullW.toArray⟩):=p0;have p1':w.cell? ⟨1,8*2+1,none⟩=some (.int .i64 1):=p1;have _:=hP;have HC:Hid (∀w',CkYes nullW 1 w' (some ⟨g,off,none⟩) cap):=fun w'=>eE nullW (by decide) 1 (by decide) w' _ cap;clear p0 p1;have hq:=fun w'=>hv.eqEmpty he w';obtain⟨T,x,rfl⟩:=hv.iface;clear hp hP he hv;go_enter func314,ntmps314;go_wp2_with fail;go_region_with (go_at_call 298;refine Calls.mono (HC.out _) ?_;rintro e w' ⟨rfl,rfl⟩)
 all_goals
  go_wp2_with fail
  go_ret2;exact⟨(Below.refl _ _).drew,.inl ⟨_,.truth (decide (p=.empty)),rfl,.truth _,fun S=>rfl⟩⟩
theorem yZ(M:Nat->Prop)(w:World)(s:Sg)(W:PW)(g off cap:Nat)(v ov:Value)(p:PV)(hp:Prm w)(hP:PairsAt M w s W.pairs)(he:Eng s)(hc:w.cell? ⟨g,off,none⟩=some v)(hv:RV s v p) :Calls prog 314 #[.int .i64 9,.slice (some ⟨g,off,none⟩) 1 cap,ov] w fun e w'=>Below w.heap.size w w'/\PrQ W s (fun S=>prim1 W S pairW p) e:=by
 obtain⟨p0,p1⟩:=hp 9 pairW rfl (by decide);have p0':w.cell? ⟨1,9*2,none⟩=some (.string ⟨Pl.pairW.toArray⟩):=p0;have p1':w.cell? ⟨1,9*2+1,none⟩=some (.int .i64 1):=p1;have _:=hP;have HC:Hid (∀w',CkYes pairW 1 w' (some ⟨g,off,none⟩) cap):=fun w'=>eE pairW (by decide) 1 (by decide) w' _ cap;clear p0 p1;have as1:=@fC 367;rcases hv.asPair he with⟨i,b,rfl,hb,rfl⟩ | ⟨hn,T,x,rfl,hno⟩
 ·clear hp hP he hv;go_enter func314,ntmps314;go_wp2_with fail;go_region_with (go_at_call 298;refine Calls.mono (HC.out _) ?_;rintro e w' ⟨rfl,rfl⟩)
  all_goals
   go_wp2_with fail
   go_ret2;exact⟨(Below.refl _ _).drew,.inl ⟨_,.truth true,rfl,.truth _,fun S=>rfl⟩⟩
 ·have HR:Hid (∀S,prim1 W S pairW p=⟨0,W,S.give (.truth false)⟩):=fun S=>by
   cases p with
   | pair i=>exact absurd rfl (hn i)
   | _=>rfl
  clear hp hP he hv hn;go_enter func314,ntmps314;go_wp2_with fail;go_region_with (go_at_call 298;refine Calls.mono (HC.out _) ?_;rintro e w' ⟨rfl,rfl⟩)
  all_goals
   go_wp2_with fail
   go_ret2;exact⟨(Below.refl _ _).drew,.inl ⟨_,.truth false,rfl,.truth _,HR.out⟩⟩
end
end Go.Proofs.YtkgbdddkcjpgfaaGreatDoor
