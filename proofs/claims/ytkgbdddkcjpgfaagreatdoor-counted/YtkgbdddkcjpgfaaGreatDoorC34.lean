import Derived.Test.YtkgbdddkcjpgfaaGreatDoorC22
namespace Go.Proofs.YtkgbdddkcjpgfaaGreatDoor
set_option maxHeartbeats 4000000
set_option maxRecDepth 100000
open Go.Proofs.Tryz
open Pl (PV PW PS SR prim2 plusW minusW timesW lessW eqW)
section
open Go.RowKit Go.Lib
theorem PrQ.one{W:PW}{s:Sg}{r:PS->SR}{e:Ending}(h:PrQ W s r e):∃v ev,e=.returned (.tuple #[v,ev]):=by
 rcases h with⟨v,q,h,_⟩ | ⟨es,c,_,h,_⟩
 ·exact⟨_,_,h⟩
 ·exact⟨_,_,h⟩
theorem zE(w:World)(s:Sg)(W:PW)(g off cap:Nat)(u v ov:Value)(a b:PV)(hp:Prm w)(he:Eng s)(c0:w.cell? ⟨g,off,none⟩=some u)(c1:w.cell? ⟨g,off+1,none⟩=some v)(hu:RV s u a)(hv:RV s v b)(wa:WfV W a)(wb:WfV W b) :Calls prog 314 #[.int .i64 0,.slice (some ⟨g,off,none⟩) 2 cap,ov] w fun e w'=>Below w.heap.size w w'/\PrQ W s (fun S=>prim2 W S plusW a b) e:=by
 obtain⟨p0,p1⟩:=hp 0 plusW rfl (by decide);have p0':w.cell? ⟨1,0*2,none⟩=some (.string ⟨Pl.plusW.toArray⟩):=p0;have p1':w.cell? ⟨1,0*2+1,none⟩=some (.int .i64 2):=p1;have HC:Hid (∀w',CkYes plusW 2 w' (some ⟨g,off,none⟩) cap):=fun w'=>eE plusW (by decide) 2 (by decide) w' _ cap;clear p0 p1
 have HO:Hid (∀w',Below w.heap.size w w'->Calls prog 322 #[.int .i64 0,u,v] w' fun e w2=>∃v1 e1,e=.returned (.tuple #[v1,e1])/\Hid (Below w'.heap.size w' w2/\PrQ W s (fun S=>prim2 W S plusW a b) (.returned (.tuple #[v1,e1])))):=fun w' hb=>by
  refine Calls.mono (R:=fun e w2=>Below w'.heap.size w' w2/\PrQ W s (fun S=>prim2 W S plusW a b) e) ?_ (fun e w2 h=>by
   obtain⟨v1,e1,rfl⟩:=h.2.one
   exact⟨v1,e1,rfl,h⟩)
  by_cases hno:(∃x,a=.num x)/\∃y,b=.num y
  ·obtain⟨⟨x,rfl⟩,⟨y,rfl⟩⟩:=hno
   cases hu
   cases hv
   first | exact nC w' s W x y (hp.below hb) wa wb | exact nC w' s W x y
  ·exact yQ w' s W u v a b (hp.below hb) he hu hv hno
 obtain⟨T,x,rfl⟩:=hu.iface;obtain⟨T',x',rfl⟩:=hv.iface;clear hp he hu hv wa wb;go_enter func314,ntmps314;go_wp2_with fail;go_region_with (go_at_call 298;refine Calls.mono (HC.out _) ?_;rintro e w' ⟨rfl,rfl⟩)
 all_goals
  go_wp2_with fail
  go_region_with (go_at_call 322;refine(HO.out _ ((Below.refl _ _).drew.drew)).mono ?_;rintro e w2 ⟨v1,e1,rfl,HQ⟩)
  all_goals
   go_wp2_with fail
   go_ret2;exact⟨(Below.refl w.heap.size w).drew.drew.trans HQ.out.1,HQ.out.2⟩
theorem zD(w:World)(s:Sg)(W:PW)(g off cap:Nat)(u v ov:Value)(a b:PV)(hp:Prm w)(he:Eng s)(c0:w.cell? ⟨g,off,none⟩=some u)(c1:w.cell? ⟨g,off+1,none⟩=some v)(hu:RV s u a)(hv:RV s v b)(wa:WfV W a)(wb:WfV W b) :Calls prog 314 #[.int .i64 1,.slice (some ⟨g,off,none⟩) 2 cap,ov] w fun e w'=>Below w.heap.size w w'/\PrQ W s (fun S=>prim2 W S minusW a b) e:=by
 obtain⟨p0,p1⟩:=hp 1 minusW rfl (by decide);have p0':w.cell? ⟨1,1*2,none⟩=some (.string ⟨Pl.minusW.toArray⟩):=p0;have p1':w.cell? ⟨1,1*2+1,none⟩=some (.int .i64 2):=p1;have HC:Hid (∀w',CkYes minusW 2 w' (some ⟨g,off,none⟩) cap):=fun w'=>eE minusW (by decide) 2 (by decide) w' _ cap;clear p0 p1
 have HO:Hid (∀w',Below w.heap.size w w'->Calls prog 322 #[.int .i64 1,u,v] w' fun e w2=>∃v1 e1,e=.returned (.tuple #[v1,e1])/\Hid (Below w'.heap.size w' w2/\PrQ W s (fun S=>prim2 W S minusW a b) (.returned (.tuple #[v1,e1])))):=fun w' hb=>by
  refine Calls.mono (R:=fun e w2=>Below w'.heap.size w' w2/\PrQ W s (fun S=>prim2 W S minusW a b) e) ?_ (fun e w2 h=>by
   obtain⟨v1,e1,rfl⟩:=h.2.one
   exact⟨v1,e1,rfl,h⟩)
  by_cases hno:(∃x,a=.num x)/\∃y,b=.num y
  ·obtain⟨⟨x,rfl⟩,⟨y,rfl⟩⟩:=hno
   cases hu
   cases hv
   first | exact nB w' s W x y (hp.below hb) wa wb | exact nB w' s W x y
  ·exact yP w' s W u v a b (hp.below hb) he hu hv hno
 obtain⟨T,x,rfl⟩:=hu.iface;obtain⟨T',x',rfl⟩:=hv.iface;clear hp he hu hv wa wb;go_enter func314,ntmps314;go_wp2_with fail;go_region_with (go_at_call 298;refine Calls.mono (HC.out _) ?_;rintro e w' ⟨rfl,rfl⟩)
 all_goals
  go_wp2_with fail
  go_region_with (go_at_call 322;refine(HO.out _ ((Below.refl _ _).drew.drew)).mono ?_;rintro e w2 ⟨v1,e1,rfl,HQ⟩)
  all_goals
   go_wp2_with fail
   go_ret2;exact⟨(Below.refl w.heap.size w).drew.drew.trans HQ.out.1,HQ.out.2⟩
theorem zC(w:World)(s:Sg)(W:PW)(g off cap:Nat)(u v ov:Value)(a b:PV)(hp:Prm w)(he:Eng s)(c0:w.cell? ⟨g,off,none⟩=some u)(c1:w.cell? ⟨g,off+1,none⟩=some v)(hu:RV s u a)(hv:RV s v b)(wa:WfV W a)(wb:WfV W b) :Calls prog 314 #[.int .i64 2,.slice (some ⟨g,off,none⟩) 2 cap,ov] w fun e w'=>Below w.heap.size w w'/\PrQ W s (fun S=>prim2 W S timesW a b) e:=by
 obtain⟨p0,p1⟩:=hp 2 timesW rfl (by decide);have p0':w.cell? ⟨1,2*2,none⟩=some (.string ⟨Pl.timesW.toArray⟩):=p0;have p1':w.cell? ⟨1,2*2+1,none⟩=some (.int .i64 2):=p1;have HC:Hid (∀w',CkYes timesW 2 w' (some ⟨g,off,none⟩) cap):=fun w'=>eE timesW (by decide) 2 (by decide) w' _ cap;clear p0 p1
 have HO:Hid (∀w',Below w.heap.size w w'->Calls prog 322 #[.int .i64 2,u,v] w' fun e w2=>∃v1 e1,e=.returned (.tuple #[v1,e1])/\Hid (Below w'.heap.size w' w2/\PrQ W s (fun S=>prim2 W S timesW a b) (.returned (.tuple #[v1,e1])))):=fun w' hb=>by
  refine Calls.mono (R:=fun e w2=>Below w'.heap.size w' w2/\PrQ W s (fun S=>prim2 W S timesW a b) e) ?_ (fun e w2 h=>by
   obtain⟨v1,e1,rfl⟩:=h.2.one
   exact⟨v1,e1,rfl,h⟩)
  by_cases hno:(∃x,a=.num x)/\∃y,b=.num y
  ·obtain⟨⟨x,rfl⟩,⟨y,rfl⟩⟩:=hno
   cases hu
   cases hv
   first | exact nA w' s W x y (hp.below hb) wa wb | exact nA w' s W x y
  ·exact yO w' s W u v a b (hp.below hb) he hu hv hno
 obtain⟨T,x,rfl⟩:=hu.iface;obtain⟨T',x',rfl⟩:=hv.iface;clear hp he hu hv wa wb;go_enter func314,ntmps314;go_wp2_with fail;go_region_with (go_at_call 298;refine Calls.mono (HC.out _) ?_;rintro e w' ⟨rfl,rfl⟩)
 all_goals
  go_wp2_with fail
  go_region_with (go_at_call 322;refine(HO.out _ ((Below.refl _ _).drew.drew)).mono ?_;rintro e w2 ⟨v1,e1,rfl,HQ⟩)
  all_goals
   go_wp2_with fail
   go_ret2;exact⟨(Below.refl w.heap.size w).drew.drew.trans HQ.out.1,HQ.out.2⟩
theorem zB(w:World)(s:Sg)(W:PW)(g off cap:Nat)(u v ov:Value)(a b:PV)(hp:Prm w)(he:Eng s)(c0:w.cell? ⟨g,off,none⟩=some u)(c1:w.cell? ⟨g,off+1,none⟩=some v)(hu:RV s u a)(hv:RV s v b)(wa:WfV W a)(wb:WfV W b) :Calls prog 314 #[.int .i64 3,.slice (some ⟨g,off,none⟩) 2 cap,ov] w fun e w'=>Below w.heap.size w w'/\PrQ W s (fun S=>prim2 W S lessW a b) e:=by
 obtain⟨p0,p1⟩:=hp 3 lessW rfl (by decide);have p0':w.cell? ⟨1,3*2,none⟩=some (.string ⟨Pl.lessW.toArray⟩):=p0;have p1':w.cell? ⟨1,3*2+1,none⟩=some (.int .i64 2):=p1;have HC:Hid (∀w',CkYes lessW 2 w' (some ⟨g,off,none⟩) cap):=fun w'=>eE lessW (by decide) 2 (by decide) w' _ cap;clear p0 p1
 have HO:Hid (∀w',Below w.heap.size w w'->Calls prog 322 #[.int .i64 3,u,v] w' fun e w2=>∃v1 e1,e=.returned (.tuple #[v1,e1])/\Hid (Below w'.heap.size w' w2/\PrQ W s (fun S=>prim2 W S lessW a b) (.returned (.tuple #[v1,e1])))):=fun w' hb=>by
  refine Calls.mono (R:=fun e w2=>Below w'.heap.size w' w2/\PrQ W s (fun S=>prim2 W S lessW a b) e) ?_ (fun e w2 h=>by
   obtain⟨v1,e1,rfl⟩:=h.2.one
   exact⟨v1,e1,rfl,h⟩)
  by_cases hno:(∃x,a=.num x)/\∃y,b=.num y
  ·obtain⟨⟨x,rfl⟩,⟨y,rfl⟩⟩:=hno
   cases hu
   cases hv
   first | exact m9 w' s W x y (hp.below hb) wa wb | exact m9 w' s W x y
  ·exact yN w' s W u v a b (hp.below hb) he hu hv hno
 obtain⟨T,x,rfl⟩:=hu.iface;obtain⟨T',x',rfl⟩:=hv.iface;clear hp he hu hv wa wb;go_enter func314,ntmps314;go_wp2_with fail;go_region_with (go_at_call 298;refine Calls.mono (HC.out _) ?_;rintro e w' ⟨rfl,rfl⟩)
 all_goals
  go_wp2_with fail
  go_region_with (go_at_call 322;refine(HO.out _ ((Below.refl _ _).drew.drew)).mono ?_;rintro e w2 ⟨v1,e1,rfl,HQ⟩)
  all_goals
   go_wp2_with fail
   go_ret2;exact⟨(Below.refl w.heap.size w).drew.drew.trans HQ.out.1,HQ.out.2⟩
theorem zA(w:World)(s:Sg)(W:PW)(g off cap:Nat)(u v ov:Value)(a b:PV)(hp:Prm w)(he:Eng s)(c0:w.cell? ⟨g,off,none⟩=some u)(c1:w.cell? ⟨g,off+1,none⟩=some v)(hu:RV s u a)(hv:RV s v b)(wa:WfV W a)(wb:WfV W b) :Calls prog 314 #[.int .i64 4,.slice (some ⟨g,off,none⟩) 2 cap,ov] w fun e w'=>Below w.heap.size w w'/\PrQ W s (fun S=>prim2 W S eqW a b) e:=by
 obtain⟨p0,p1⟩:=hp 4 eqW rfl (by decide);have p0':w.cell? ⟨1,4*2,none⟩=some (.string ⟨Pl.eqW.toArray⟩):=p0;have p1':w.cell? ⟨1,4*2+1,none⟩=some (.int .i64 2):=p1;have HC:Hid (∀w',CkYes eqW 2 w' (some ⟨g,off,none⟩) cap):=fun w'=>eE eqW (by decide) 2 (by decide) w' _ cap;clear p0 p1
 have HO:Hid (∀w',Below w.heap.size w w'->Calls prog 322 #[.int .i64 4,u,v] w' fun e w2=>∃v1 e1,e=.returned (.tuple #[v1,e1])/\Hid (Below w'.heap.size w' w2/\PrQ W s (fun S=>prim2 W S eqW a b) (.returned (.tuple #[v1,e1])))):=fun w' hb=>by
  refine Calls.mono (R:=fun e w2=>Below w'.heap.size w' w2/\PrQ W s (fun S=>prim2 W S eqW a b) e) ?_ (fun e w2 h=>by
   obtain⟨v1,e1,rfl⟩:=h.2.one
   exact⟨v1,e1,rfl,h⟩)
  by_cases hno:(∃x,a=.num x)/\∃y,b=.num y
  ·obtain⟨⟨x,rfl⟩,⟨y,rfl⟩⟩:=hno
   cases hu
   cases hv
   first | exact m8 w' s W x y (hp.below hb) wa wb | exact m8 w' s W x y
  ·exact yM w' s W u v a b (hp.below hb) he hu hv hno
 obtain⟨T,x,rfl⟩:=hu.iface;obtain⟨T',x',rfl⟩:=hv.iface;clear hp he hu hv wa wb;go_enter func314,ntmps314;go_wp2_with fail;go_region_with (go_at_call 298;refine Calls.mono (HC.out _) ?_;rintro e w' ⟨rfl,rfl⟩)
 all_goals
  go_wp2_with fail
  go_region_with (go_at_call 322;refine(HO.out _ ((Below.refl _ _).drew.drew)).mono ?_;rintro e w2 ⟨v1,e1,rfl,HQ⟩)
  all_goals
   go_wp2_with fail
   go_ret2;exact⟨(Below.refl w.heap.size w).drew.drew.trans HQ.out.1,HQ.out.2⟩
end
end Go.Proofs.YtkgbdddkcjpgfaaGreatDoor
