import Derived.Test.YtkgbdddkcjpgfaaGreatDoorK25
namespace Go.Proofs.YtkgbdddkcjpgfaaGreatDoor
set_option maxHeartbeats 1000000
set_option maxRecDepth 100000
open Go.Proofs.Tryz
open Pl (PV PW PS SR Byt prim2 prim1 plusW minusW timesW sameW lessW eqW consW cdrW carW displayW)
section
open Go.RowKit Go.Lib
def PrQ(W:PW)(s:Sg)(r:PS->SR)(e:Ending):Prop :=(∃v q,e=.returned (.tuple #[v,.nilIface])/\RV s v q/\∀S,r S=⟨0,W,S.give q⟩)\/(∃es,∃c:Nat,c≠0/\e=.returned (.tuple #[.nilIface,aY es c])/\∀S,r S=⟨c,W,S⟩)
theorem uY(M:Nat->Prop)(w:World)(s:Sg)(W:PW)(v:Value)(p:PV)(hp:Prm w)(hP:PairsAt M w s W.pairs)(he:Eng s)(hv:RV s v p):Calls prog 320 #[.int .i64 6,v] w fun e w'=>w=w'/\PrQ W s (fun S=>prim1 W S carW p) e:=by
 have HFt:Hid (∀code w',Prm w'->Calls prog 326 #[.int .i64 6,.int .i64 code] w' fun e w2=>w'=w2/\∃es,e=.returned (aY es code)):=fun code w' hp=>dD 6 carW code w' hp rfl (by decide);have HPr:Hid (Prm w):=hp;have as1:=@fC 367;rcases hv.asPair he with⟨i,b,rfl,hb,rfl⟩ | ⟨hn,T,x,rfl,hno⟩
 ·obtain⟨q,hq⟩:∃q,W.pairs[i]?=some q:=⟨_,List.getElem?_eq_getElem (by rw [<- hP.len];exact(List.getElem?_eq_some_iff.1 hb).1)⟩
  obtain⟨_,x,y,hc,hx,hy⟩:=hP.at_ i b q hb hq;have c0:w.cell? ⟨b,0,none⟩=some x:=aA hc 0;have c1:w.cell? ⟨b,1,none⟩=some y:=aA hc 1;have HR:Hid (∀S,prim1 W S carW (.pair i)=⟨0,W,S.give q.1⟩):=fun S=>by unfold prim1;rw [if_neg (show ¬carW=displayW from by decide),if_pos (Or.inl rfl)];dsimp only;rw [hq];dsimp only;rw [if_neg (show ¬carW=cdrW from by decide)]
  have HX:Hid (RV s x q.1/\RV s y q.2):=⟨hx,hy⟩
  obtain⟨T1,x1,rfl⟩:=hx.iface;obtain⟨T2,x2,rfl⟩:=hy.iface;clear hp hP he hv hc hq hb hx hy;go_enter func320,ntmps320;go_wp2_with fail;go_ret2;exact⟨rfl,.inl ⟨_,_,rfl,HX.out.1,HR.out⟩⟩
 ·have HR:Hid (∀S,prim1 W S carW p=⟨9,W,S⟩):=fun S=>by
   unfold prim1;rw [if_neg (show ¬carW=displayW from by decide),if_pos (Or.inl rfl)]
   cases p with
   | pair i=>exact absurd rfl (hn i)
   | _=>rfl
  clear hp hP he hv hn;go_enter func320,ntmps320;go_wp2_with (go_at_call 326;refine(HFt.out _ _ HPr.out).mono ?_;rintro e w' ⟨rfl,es,rfl⟩);go_ret2;exact⟨rfl,.inr ⟨es,9,by decide,rfl,HR.out⟩⟩
theorem uX(M:Nat->Prop)(w:World)(s:Sg)(W:PW)(v:Value)(p:PV)(hp:Prm w)(hP:PairsAt M w s W.pairs)(he:Eng s)(hv:RV s v p):Calls prog 320 #[.int .i64 7,v] w fun e w'=>w=w'/\PrQ W s (fun S=>prim1 W S cdrW p) e:=by
 have HFt:Hid (∀code w',Prm w'->Calls prog 326 #[.int .i64 7,.int .i64 code] w' fun e w2=>w'=w2/\∃es,e=.returned (aY es code)):=fun code w' hp=>dD 7 cdrW code w' hp rfl (by decide);have HPr:Hid (Prm w):=hp;have as1:=@fC 367;rcases hv.asPair he with⟨i,b,rfl,hb,rfl⟩ | ⟨hn,T,x,rfl,hno⟩
 ·obtain⟨q,hq⟩:∃q,W.pairs[i]?=some q:=⟨_,List.getElem?_eq_getElem (by rw [<- hP.len];exact(List.getElem?_eq_some_iff.1 hb).1)⟩
  obtain⟨_,x,y,hc,hx,hy⟩:=hP.at_ i b q hb hq;have c0:w.cell? ⟨b,0,none⟩=some x:=aA hc 0;have c1:w.cell? ⟨b,1,none⟩=some y:=aA hc 1;have HR:Hid (∀S,prim1 W S cdrW (.pair i)=⟨0,W,S.give q.2⟩):=fun S=>by unfold prim1;rw [if_neg (show ¬cdrW=displayW from by decide),if_pos (Or.inr rfl)];dsimp only;rw [hq];dsimp only;rw [if_pos rfl]
  have HX:Hid (RV s x q.1/\RV s y q.2):=⟨hx,hy⟩
  obtain⟨T1,x1,rfl⟩:=hx.iface;obtain⟨T2,x2,rfl⟩:=hy.iface;clear hp hP he hv hc hq hb hx hy;go_enter func320,ntmps320;go_wp2_with fail;go_ret2;exact⟨rfl,.inl ⟨_,_,rfl,HX.out.2,HR.out⟩⟩
 ·have HR:Hid (∀S,prim1 W S cdrW p=⟨9,W,S⟩):=fun S=>by
   unfold prim1;rw [if_neg (show ¬cdrW=displayW from by decide),if_pos (Or.inr rfl)]
   cases p with
   | pair i=>exact absurd rfl (hn i)
   | _=>rfl
  clear hp hP he hv hn;go_enter func320,ntmps320;go_wp2_with (go_at_call 326;refine(HFt.out _ _ HPr.out).mono ?_;rintro e w' ⟨rfl,es,rfl⟩);go_ret2;exact⟨rfl,.inr ⟨es,9,by decide,rfl,HR.out⟩⟩
theorem fX(k:Int)(nm:Byt)(w:World)(s:Sg)(W:PW)(u v:Value)(a b:PV)(hp:Prm w)(he:Eng s)(hu:RV s u a)(hv:RV s v b)(hno:¬((∃x,a=.num x)/\∃y,b=.num y))(hF:∀code w',Prm w'->Calls prog 326 #[.int .i64 k,.int .i64 code] w' fun e w2=>w'=w2/\∃es,e=.returned (aY es code))(hn:¬nm=consW/\¬nm=sameW):Calls prog 322 #[.int .i64 k,u,v] w fun e w'=>Below w.heap.size w w'/\PrQ W s (fun S=>prim2 W S nm a b) e:=by
 have HFt:Hid (∀code w',Prm w'->Calls prog 326 #[.int .i64 k,.int .i64 code] w' fun e w2=>w'=w2/\∃es,e=.returned (aY es code)):=hF;have HPr:Hid (Prm w):=hp;have as1:=@fC 294
 have HR:Hid (∀S,prim2 W S nm a b=⟨9,W,S⟩):=fun S=>by
  have h1:prim2 W S nm a b=Pl.reckon W S nm a b:=(if_neg hn.1).trans (if_neg hn.2);rw [h1];unfold Pl.reckon;split
  ·rename_i x y;exact absurd ⟨⟨x,rfl⟩,⟨y,rfl⟩⟩ hno
  ·rfl
 clear hF hn;rcases hu.asNum he with⟨x,hx,rfl⟩ | ⟨h1,T1,x1,rfl,hno1⟩
 ·rcases hv.asNum he with⟨y,hy,rfl⟩ | ⟨h2,T2,x2,rfl,hno2⟩
  ·exact absurd ⟨⟨x,hx⟩,⟨y,hy⟩⟩ hno
  ·clear hu hv hx h2 hno;clear hp he;go_enter func322,ntmps322;go_wp2_with (go_at_call 326;refine(HFt.out _ _ HPr.out).mono ?_;rintro e w' ⟨rfl,es,rfl⟩);go_ret2;exact⟨Below.refl _ _,.inr ⟨es,9,by decide,rfl,HR.out⟩⟩
 ·rcases hv.asNum he with⟨y,hy,rfl⟩ | ⟨h2,T2,x2,rfl,hno2⟩
  ·clear hu hv hy h1 hno;clear hp he;go_enter func322,ntmps322;go_wp2_with (go_at_call 326;refine(HFt.out _ _ HPr.out).mono ?_;rintro e w' ⟨rfl,es,rfl⟩);go_ret2;exact⟨Below.refl _ _,.inr ⟨es,9,by decide,rfl,HR.out⟩⟩
  ·clear hu hv h1 h2 hno;clear hp he;go_enter func322,ntmps322;go_wp2_with (go_at_call 326;refine(HFt.out _ _ HPr.out).mono ?_;rintro e w' ⟨rfl,es,rfl⟩);go_ret2;exact⟨Below.refl _ _,.inr ⟨es,9,by decide,rfl,HR.out⟩⟩
theorem yQ(w:World)(s:Sg)(W:PW)(u v:Value)(a b:PV)(hp:Prm w)(he:Eng s)(hu:RV s u a)(hv:RV s v b)(hno:¬((∃x,a=.num x)/\∃y,b=.num y)):Calls prog 322 #[.int .i64 0,u,v] w fun e w'=>Below w.heap.size w w'/\PrQ W s (fun S=>prim2 W S plusW a b) e :=fX 0 plusW w s W u v a b hp he hu hv hno (fun code w' hp=>dD 0 plusW code w' hp rfl (by decide)) (by decide)
theorem yP(w:World)(s:Sg)(W:PW)(u v:Value)(a b:PV)(hp:Prm w)(he:Eng s)(hu:RV s u a)(hv:RV s v b)(hno:¬((∃x,a=.num x)/\∃y,b=.num y)):Calls prog 322 #[.int .i64 1,u,v] w fun e w'=>Below w.heap.size w w'/\PrQ W s (fun S=>prim2 W S minusW a b) e :=fX 1 minusW w s W u v a b hp he hu hv hno (fun code w' hp=>dD 1 minusW code w' hp rfl (by decide)) (by decide)
theorem yO(w:World)(s:Sg)(W:PW)(u v:Value)(a b:PV)(hp:Prm w)(he:Eng s)(hu:RV s u a)(hv:RV s v b)(hno:¬((∃x,a=.num x)/\∃y,b=.num y)):Calls prog 322 #[.int .i64 2,u,v] w fun e w'=>Below w.heap.size w w'/\PrQ W s (fun S=>prim2 W S timesW a b) e :=fX 2 timesW w s W u v a b hp he hu hv hno (fun code w' hp=>dD 2 timesW code w' hp rfl (by decide)) (by decide)
theorem yN(w:World)(s:Sg)(W:PW)(u v:Value)(a b:PV)(hp:Prm w)(he:Eng s)(hu:RV s u a)(hv:RV s v b)(hno:¬((∃x,a=.num x)/\∃y,b=.num y)):Calls prog 322 #[.int .i64 3,u,v] w fun e w'=>Below w.heap.size w w'/\PrQ W s (fun S=>prim2 W S lessW a b) e :=fX 3 lessW w s W u v a b hp he hu hv hno (fun code w' hp=>dD 3 lessW code w' hp rfl (by decide)) (by decide)
theorem yM(w:World)(s:Sg)(W:PW)(u v:Value)(a b:PV)(hp:Prm w)(he:Eng s)(hu:RV s u a)(hv:RV s v b)(hno:¬((∃x,a=.num x)/\∃y,b=.num y)):Calls prog 322 #[.int .i64 4,u,v] w fun e w'=>Below w.heap.size w w'/\PrQ W s (fun S=>prim2 W S eqW a b) e :=fX 4 eqW w s W u v a b hp he hu hv hno (fun code w' hp=>dD 4 eqW code w' hp rfl (by decide)) (by decide)
theorem m9(w:World)(s:Sg)(W:PW)(x y:Int):Calls prog 322 #[.int .i64 3,.iface 294 (.int .i64 x),.iface 294 (.int .i64 y)] w fun e w'=>Below w.heap.size w w'/\PrQ W s (fun S=>prim2 W S lessW (.num x) (.num y)) e:=by
 have as1:=@fC 294;go_enter func322,ntmps322;go_wp2_with fail;go_ret2
 exact⟨Below.refl _ _,.inl ⟨_,.truth (decide (x<y)),rfl,.truth _,fun S=>by
  show prim2 W S lessW (.num x) (.num y)=_;unfold prim2 Pl.reckon;rw [if_neg (show ¬lessW=consW from by decide),if_neg (show ¬lessW=sameW from by decide)];dsimp only
  rw [if_pos rfl]⟩⟩
theorem m8(w:World)(s:Sg)(W:PW)(x y:Int):Calls prog 322 #[.int .i64 4,.iface 294 (.int .i64 x),.iface 294 (.int .i64 y)] w fun e w'=>Below w.heap.size w w'/\PrQ W s (fun S=>prim2 W S eqW (.num x) (.num y)) e:=by
 have as1:=@fC 294;go_enter func322,ntmps322;go_wp2_with fail;go_ret2
 exact⟨Below.refl _ _,.inl ⟨_,.truth (decide (x=y)),rfl,.truth _,fun S=>by
  show prim2 W S eqW (.num x) (.num y)=_;unfold prim2 Pl.reckon;rw [if_neg (show ¬eqW=consW from by decide),if_neg (show ¬eqW=sameW from by decide)];dsimp only
  rw [if_neg (show ¬eqW=lessW from by decide),if_pos rfl]⟩⟩
theorem nC(w:World)(s:Sg)(W:PW)(x y:Int)(hp:Prm w)(hx:x.natAbs<=Pl.big)(hy:y.natAbs<=Pl.big):Calls prog 322 #[.int .i64 0,.iface 294 (.int .i64 x),.iface 294 (.int .i64 y)] w fun e w'=>Below w.heap.size w w'/\PrQ W s (fun S=>prim2 W S plusW (.num x) (.num y)) e:=by
 have HFt:Hid (∀code w',Prm w'->Calls prog 326 #[.int .i64 0,.int .i64 code] w' fun e w2=>w'=w2/\∃es,e=.returned (aY es code)):=fun code w' hp=>dD 0 plusW code w' hp rfl (by decide);have HPr:Hid (Prm w):=hp;have as1:=@fC 294;have HC:Hid (Calls prog 328 #[.int .i64 0,.int .i64 x,.int .i64 y] w fun e w'=>Below w.heap.size w w'/\∃r,((x+y).natAbs<=Pl.big->r=x+y)/\e=.returned (.tuple #[.int .i64 r,.bool (decide ((x+y).natAbs<=Pl.big))])):=show Calls _ _ _ _ _ from(uV x y w hx hy).mono (fun e w' ⟨h1,h2⟩=>⟨by subst h1;exact Below.refl _ _,_,fun _=>rfl,h2⟩);have HR:Hid (∀S,prim2 W S plusW (.num x) (.num y)=if(x+y).natAbs<=Pl.big then⟨0,W,S.give (.num (x+y))⟩ else⟨11,W,S⟩):=fun S=>by unfold prim2 Pl.reckon;rw [if_neg (show ¬plusW=consW from by decide),if_neg (show ¬plusW=sameW from by decide)];dsimp only;rw [if_neg (show ¬plusW=lessW from by decide),if_neg (show ¬plusW=eqW from by decide),if_pos rfl]
 have HK:Hid (∀w',Below w.heap.size w w'->Prm w'):=fun w' hb k nm hk h12=>by rw [hb.cell (World.block_lt_of_cell? _ _ (hp k nm hk h12).1),hb.cell (World.block_lt_of_cell? _ _ (hp k nm hk h12).2)];exact hp k nm hk h12
 generalize x+y=z at *;by_cases hz:z.natAbs<=Pl.big
 ·have hd:decide (z.natAbs<=Pl.big)=true:=by simpa using hz
  rw [hd] at HC;clear hp hx hy;go_enter func322,ntmps322;go_wp2_with (go_at_call 328;refine Calls.mono HC.out ?_;rintro e w' ⟨hB,r,hr,rfl⟩);go_ret2;exact⟨hB,.inl ⟨_,.num z,rfl,.num z,fun S=>by have:=HR.out S;rw [if_pos hz] at this;exact this⟩⟩
 ·have hd:decide (z.natAbs<=Pl.big)=false:=by simpa using hz
  rw [hd] at HC;clear hp hx hy;go_enter func322,ntmps322
  go_wp2_with (first
   | (go_at_call 328;refine Calls.mono HC.out ?_;rintro e w' ⟨hB,r,hr,rfl⟩)
   | (go_at_call 326;refine(HFt.out _ _ (HK.out _ hB)).mono ?_;rintro e w2 ⟨rfl,es,rfl⟩))
  go_ret2;exact⟨hB,.inr ⟨es,11,by decide,rfl,fun S=>by have:=HR.out S;rw [if_neg hz] at this;exact this⟩⟩
theorem nB(w:World)(s:Sg)(W:PW)(x y:Int)(hp:Prm w)(hx:x.natAbs<=Pl.big)(hy:y.natAbs<=Pl.big):Calls prog 322 #[.int .i64 1,.iface 294 (.int .i64 x),.iface 294 (.int .i64 y)] w fun e w'=>Below w.heap.size w w'/\PrQ W s (fun S=>prim2 W S minusW (.num x) (.num y)) e:=by
 have HFt:Hid (∀code w',Prm w'->Calls prog 326 #[.int .i64 1,.int .i64 code] w' fun e w2=>w'=w2/\∃es,e=.returned (aY es code)):=fun code w' hp=>dD 1 minusW code w' hp rfl (by decide);have HPr:Hid (Prm w):=hp;have as1:=@fC 294;have HC:Hid (Calls prog 328 #[.int .i64 1,.int .i64 x,.int .i64 y] w fun e w'=>Below w.heap.size w w'/\∃r,((x-y).natAbs<=Pl.big->r=x-y)/\e=.returned (.tuple #[.int .i64 r,.bool (decide ((x-y).natAbs<=Pl.big))])):=show Calls _ _ _ _ _ from(uT x y w hx hy).mono (fun e w' ⟨h1,h2⟩=>⟨by subst h1;exact Below.refl _ _,_,fun _=>rfl,h2⟩);have HR:Hid (∀S,prim2 W S minusW (.num x) (.num y)=if(x-y).natAbs<=Pl.big then⟨0,W,S.give (.num (x-y))⟩ else⟨11,W,S⟩):=fun S=>by unfold prim2 Pl.reckon;rw [if_neg (show ¬minusW=consW from by decide),if_neg (show ¬minusW=sameW from by decide)];dsimp only;rw [if_neg (show ¬minusW=lessW from by decide),if_neg (show ¬minusW=eqW from by decide),if_neg (show ¬minusW=plusW from by decide),if_pos rfl]
 have HK:Hid (∀w',Below w.heap.size w w'->Prm w'):=fun w' hb k nm hk h12=>by rw [hb.cell (World.block_lt_of_cell? _ _ (hp k nm hk h12).1),hb.cell (World.block_lt_of_cell? _ _ (hp k nm hk h12).2)];exact hp k nm hk h12
 generalize x-y=z at *;by_cases hz:z.natAbs<=Pl.big
 ·have hd:decide (z.natAbs<=Pl.big)=true:=by simpa using hz
  rw [hd] at HC;clear hp hx hy;go_enter func322,ntmps322;go_wp2_with (go_at_call 328;refine Calls.mono HC.out ?_;rintro e w' ⟨hB,r,hr,rfl⟩);go_ret2;exact⟨hB,.inl ⟨_,.num z,rfl,.num z,fun S=>by have:=HR.out S;rw [if_pos hz] at this;exact this⟩⟩
 ·have hd:decide (z.natAbs<=Pl.big)=false:=by simpa using hz
  rw [hd] at HC;clear hp hx hy;go_enter func322,ntmps322
  go_wp2_with (first
   | (go_at_call 328;refine Calls.mono HC.out ?_;rintro e w' ⟨hB,r,hr,rfl⟩)
   | (go_at_call 326;refine(HFt.out _ _ (HK.out _ hB)).mono ?_;rintro e w2 ⟨rfl,es,rfl⟩))
  go_ret2;exact⟨hB,.inr ⟨es,11,by decide,rfl,fun S=>by have:=HR.out S;rw [if_neg hz] at this;exact this⟩⟩
theorem nA(w:World)(s:Sg)(W:PW)(x y:Int)(hp:Prm w)(hx:x.natAbs<=Pl.big)(hy:y.natAbs<=Pl.big):Calls prog 322 #[.int .i64 2,.iface 294 (.int .i64 x),.iface 294 (.int .i64 y)] w fun e w'=>Below w.heap.size w w'/\PrQ W s (fun S=>prim2 W S timesW (.num x) (.num y)) e:=by
 have HFt:Hid (∀code w',Prm w'->Calls prog 326 #[.int .i64 2,.int .i64 code] w' fun e w2=>w'=w2/\∃es,e=.returned (aY es code)):=fun code w' hp=>dD 2 timesW code w' hp rfl (by decide);have HPr:Hid (Prm w):=hp;have as1:=@fC 294;have HC:Hid (Calls prog 328 #[.int .i64 2,.int .i64 x,.int .i64 y] w fun e w'=>Below w.heap.size w w'/\∃r,((x*y).natAbs<=Pl.big->r=x*y)/\e=.returned (.tuple #[.int .i64 r,.bool (decide ((x*y).natAbs<=Pl.big))])):=uU x y w hx hy;have HR:Hid (∀S,prim2 W S timesW (.num x) (.num y)=if(x*y).natAbs<=Pl.big then⟨0,W,S.give (.num (x*y))⟩ else⟨11,W,S⟩):=fun S=>by unfold prim2 Pl.reckon;rw [if_neg (show ¬timesW=consW from by decide),if_neg (show ¬timesW=sameW from by decide)];dsimp only;rw [if_neg (show ¬timesW=lessW from by decide),if_neg (show ¬timesW=eqW from by decide),if_neg (show ¬timesW=plusW from by decide),if_neg (show ¬timesW=minusW from by decide)]
 have HK:Hid (∀w',Below w.heap.size w w'->Prm w'):=fun w' hb k nm hk h12=>by rw [hb.cell (World.block_lt_of_cell? _ _ (hp k nm hk h12).1),hb.cell (World.block_lt_of_cell? _ _ (hp k nm hk h12).2)];exact hp k nm hk h12
 generalize x*y=z at *;by_cases hz:z.natAbs<=Pl.big
 ·have hd:decide (z.natAbs<=Pl.big)=true:=by simpa using hz
  rw [hd] at HC;clear hp hx hy;go_enter func322,ntmps322;go_wp2_with (go_at_call 328;refine Calls.mono HC.out ?_;rintro e w' ⟨hB,r,hr,rfl⟩);go_ret2;exact⟨hB,.inl ⟨_,.num z,rfl,.num z,fun S=>by have:=HR.out S;rw [if_pos hz] at this;exact this⟩⟩
 ·have hd:decide (z.natAbs<=Pl.big)=false:=by simpa using hz
  rw [hd] at HC;clear hp hx hy;go_enter func322,ntmps322
  go_wp2_with (first
   | (go_at_call 328;refine Calls.mono HC.out ?_;rintro e w' ⟨hB,r,hr,rfl⟩)
   | (go_at_call 326;refine(HFt.out _ _ (HK.out _ hB)).mono ?_;rintro e w2 ⟨rfl,es,rfl⟩))
  go_ret2;exact⟨hB,.inr ⟨es,11,by decide,rfl,fun S=>by have:=HR.out S;rw [if_neg hz] at this;exact this⟩⟩
end
end Go.Proofs.YtkgbdddkcjpgfaaGreatDoor
