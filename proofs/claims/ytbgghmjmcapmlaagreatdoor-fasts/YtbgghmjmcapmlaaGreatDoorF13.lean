import Derived.Test.YtbgghmjmcapmlaaGreatDoorF11
namespace Go.Proofs.YtbgghmjmcapmlaaGreatDoor
set_option maxHeartbeats 4000000
set_option maxRecDepth 100000
open Go.Proofs.Tryz
open Pl (PV PW PS SR A2 BH A4 BA BW IA)
theorem zG8{P:Prop}(h:P:=by
 obtain⟨T,x,rfl⟩:=m.iface;obtain⟨H,I,rfl⟩:=n.iface;clear hp o m n p wb;go_enter func235,ntmps235;go_wp2_with fail;go_region_with (go_at_call 219;refine Calls.mono (D _) ?_;rintro e c ⟨rfl,rfl⟩)
 all_goals
  go_wp2_with fail
  go_region_with (go_at_call 243;refine(E _ (r_.drew.drew)).mono ?_;rintro e i ⟨j,k,rfl,z⟩)
  all_goals
   go_wp2_with fail
   go_ret2;exact⟨(Below.refl w.heap.size w).drew.drew.trans z.1,z.2⟩):P:=h
section
open Go.RowKit Go.Lib
theorem GZ.one{W:PW}{s:Sg}{r:PS->SR}{e:Ending}(h:GZ W s r e):∃v a,e=.returned (.tuple #[v,a]):=by
 rcases h with⟨v,q,h,_⟩ | ⟨b,c,_,h,_⟩
 ·exact⟨_,_,h⟩
 ·exact⟨_,_,h⟩
theorem zE(w:World)(s:Sg)(W:PW)(g d f:Nat)(u v A:Value)(a b:PV)(hp:EH w)(o:IS s)(F:w.cell? ⟨g,d,none⟩=some u)(G:w.cell? ⟨g,d+1,none⟩=some v)(m:RV s u a)(n:RV s v b)(p:BL W a)(wb:BL W b) :Q2 235 #[Q1 0,.slice (some ⟨g,d,none⟩) 2 f,A] w fun e c=>Q3 w c/\GZ W s (fun S=>A2 W S BH a b) e:=by
 obtain⟨q,r⟩:=hp 0 BH rfl w8;have B:w.cell? ⟨0,0*2,none⟩=some (.string ⟨Pl.BH.toArray⟩):=q;have C:w.cell? ⟨0,0*2+1,none⟩=some (Q1 2):=r;have D:Hid (∀c,GC BH 2 c (some ⟨g,d,none⟩) f):=fun c=>eE BH w8 2 w8 c _ f;clear q r
 have E:Hid (∀c,Q3 w c->Q2 243 #[Q1 0,u,v] c fun e i=>∃j k,e=.returned (.tuple #[j,k])/\Hid (Q3 c i/\GZ W s (fun S=>A2 W S BH a b) (.returned (.tuple #[j,k])))):=fun c t=>by
  refine Calls.mono (R:=fun e i=>Q3 c i/\GZ W s (fun S=>A2 W S BH a b) e) ?_ (fun e i h=>by
   obtain⟨j,k,rfl⟩:=h.2.one
   exact⟨j,k,rfl,h⟩)
  by_cases l:(∃x,a=.num x)/\∃y,b=.num y
  ·obtain⟨⟨x,rfl⟩,⟨y,rfl⟩⟩:=l
   cases m
   cases n
   first | exact nC c s W x y (hp.below t) p wb | exact nC c s W x y
  ·exact yQ c s W u v a b (hp.below t) o m n l
 exact zG8
theorem zD(w:World)(s:Sg)(W:PW)(g d f:Nat)(u v A:Value)(a b:PV)(hp:EH w)(o:IS s)(F:w.cell? ⟨g,d,none⟩=some u)(G:w.cell? ⟨g,d+1,none⟩=some v)(m:RV s u a)(n:RV s v b)(p:BL W a)(wb:BL W b) :Q2 235 #[Q1 1,.slice (some ⟨g,d,none⟩) 2 f,A] w fun e c=>Q3 w c/\GZ W s (fun S=>A2 W S A4 a b) e:=by
 obtain⟨q,r⟩:=hp 1 A4 rfl w8;have B:w.cell? ⟨0,1*2,none⟩=some (.string ⟨Pl.A4.toArray⟩):=q;have C:w.cell? ⟨0,1*2+1,none⟩=some (Q1 2):=r;have D:Hid (∀c,GC A4 2 c (some ⟨g,d,none⟩) f):=fun c=>eE A4 w8 2 w8 c _ f;clear q r
 have E:Hid (∀c,Q3 w c->Q2 243 #[Q1 1,u,v] c fun e i=>∃j k,e=.returned (.tuple #[j,k])/\Hid (Q3 c i/\GZ W s (fun S=>A2 W S A4 a b) (.returned (.tuple #[j,k])))):=fun c t=>by
  refine Calls.mono (R:=fun e i=>Q3 c i/\GZ W s (fun S=>A2 W S A4 a b) e) ?_ (fun e i h=>by
   obtain⟨j,k,rfl⟩:=h.2.one
   exact⟨j,k,rfl,h⟩)
  by_cases l:(∃x,a=.num x)/\∃y,b=.num y
  ·obtain⟨⟨x,rfl⟩,⟨y,rfl⟩⟩:=l
   cases m
   cases n
   first | exact nB c s W x y (hp.below t) p wb | exact nB c s W x y
  ·exact yP c s W u v a b (hp.below t) o m n l
 exact zG8
theorem zC(w:World)(s:Sg)(W:PW)(g d f:Nat)(u v A:Value)(a b:PV)(hp:EH w)(o:IS s)(F:w.cell? ⟨g,d,none⟩=some u)(G:w.cell? ⟨g,d+1,none⟩=some v)(m:RV s u a)(n:RV s v b)(p:BL W a)(wb:BL W b) :Q2 235 #[Q1 2,.slice (some ⟨g,d,none⟩) 2 f,A] w fun e c=>Q3 w c/\GZ W s (fun S=>A2 W S BA a b) e:=by
 obtain⟨q,r⟩:=hp 2 BA rfl w8;have B:w.cell? ⟨0,2*2,none⟩=some (.string ⟨Pl.BA.toArray⟩):=q;have C:w.cell? ⟨0,2*2+1,none⟩=some (Q1 2):=r;have D:Hid (∀c,GC BA 2 c (some ⟨g,d,none⟩) f):=fun c=>eE BA w8 2 w8 c _ f;clear q r
 have E:Hid (∀c,Q3 w c->Q2 243 #[Q1 2,u,v] c fun e i=>∃j k,e=.returned (.tuple #[j,k])/\Hid (Q3 c i/\GZ W s (fun S=>A2 W S BA a b) (.returned (.tuple #[j,k])))):=fun c t=>by
  refine Calls.mono (R:=fun e i=>Q3 c i/\GZ W s (fun S=>A2 W S BA a b) e) ?_ (fun e i h=>by
   obtain⟨j,k,rfl⟩:=h.2.one
   exact⟨j,k,rfl,h⟩)
  by_cases l:(∃x,a=.num x)/\∃y,b=.num y
  ·obtain⟨⟨x,rfl⟩,⟨y,rfl⟩⟩:=l
   cases m
   cases n
   first | exact nA c s W x y (hp.below t) p wb | exact nA c s W x y
  ·exact yO c s W u v a b (hp.below t) o m n l
 exact zG8
theorem zB(w:World)(s:Sg)(W:PW)(g d f:Nat)(u v A:Value)(a b:PV)(hp:EH w)(o:IS s)(F:w.cell? ⟨g,d,none⟩=some u)(G:w.cell? ⟨g,d+1,none⟩=some v)(m:RV s u a)(n:RV s v b)(p:BL W a)(wb:BL W b) :Q2 235 #[Q1 3,.slice (some ⟨g,d,none⟩) 2 f,A] w fun e c=>Q3 w c/\GZ W s (fun S=>A2 W S BW a b) e:=by
 obtain⟨q,r⟩:=hp 3 BW rfl w8;have B:w.cell? ⟨0,3*2,none⟩=some (.string ⟨Pl.BW.toArray⟩):=q;have C:w.cell? ⟨0,3*2+1,none⟩=some (Q1 2):=r;have D:Hid (∀c,GC BW 2 c (some ⟨g,d,none⟩) f):=fun c=>eE BW w8 2 w8 c _ f;clear q r
 have E:Hid (∀c,Q3 w c->Q2 243 #[Q1 3,u,v] c fun e i=>∃j k,e=.returned (.tuple #[j,k])/\Hid (Q3 c i/\GZ W s (fun S=>A2 W S BW a b) (.returned (.tuple #[j,k])))):=fun c t=>by
  refine Calls.mono (R:=fun e i=>Q3 c i/\GZ W s (fun S=>A2 W S BW a b) e) ?_ (fun e i h=>by
   obtain⟨j,k,rfl⟩:=h.2.one
   exact⟨j,k,rfl,h⟩)
  by_cases l:(∃x,a=.num x)/\∃y,b=.num y
  ·obtain⟨⟨x,rfl⟩,⟨y,rfl⟩⟩:=l
   cases m
   cases n
   first | exact m9 c s W x y (hp.below t) p wb | exact m9 c s W x y
  ·exact yN c s W u v a b (hp.below t) o m n l
 exact zG8
theorem zA(w:World)(s:Sg)(W:PW)(g d f:Nat)(u v A:Value)(a b:PV)(hp:EH w)(o:IS s)(F:w.cell? ⟨g,d,none⟩=some u)(G:w.cell? ⟨g,d+1,none⟩=some v)(m:RV s u a)(n:RV s v b)(p:BL W a)(wb:BL W b) :Q2 235 #[Q1 4,.slice (some ⟨g,d,none⟩) 2 f,A] w fun e c=>Q3 w c/\GZ W s (fun S=>A2 W S IA a b) e:=by
 obtain⟨q,r⟩:=hp 4 IA rfl w8;have B:w.cell? ⟨0,4*2,none⟩=some (.string ⟨Pl.IA.toArray⟩):=q;have C:w.cell? ⟨0,4*2+1,none⟩=some (Q1 2):=r;have D:Hid (∀c,GC IA 2 c (some ⟨g,d,none⟩) f):=fun c=>eE IA w8 2 w8 c _ f;clear q r
 have E:Hid (∀c,Q3 w c->Q2 243 #[Q1 4,u,v] c fun e i=>∃j k,e=.returned (.tuple #[j,k])/\Hid (Q3 c i/\GZ W s (fun S=>A2 W S IA a b) (.returned (.tuple #[j,k])))):=fun c t=>by
  refine Calls.mono (R:=fun e i=>Q3 c i/\GZ W s (fun S=>A2 W S IA a b) e) ?_ (fun e i h=>by
   obtain⟨j,k,rfl⟩:=h.2.one
   exact⟨j,k,rfl,h⟩)
  by_cases l:(∃x,a=.num x)/\∃y,b=.num y
  ·obtain⟨⟨x,rfl⟩,⟨y,rfl⟩⟩:=l
   cases m
   cases n
   first | exact m8 c s W x y (hp.below t) p wb | exact m8 c s W x y
  ·exact yM c s W u v a b (hp.below t) o m n l
 exact zG8
end
end Go.Proofs.YtbgghmjmcapmlaaGreatDoor
