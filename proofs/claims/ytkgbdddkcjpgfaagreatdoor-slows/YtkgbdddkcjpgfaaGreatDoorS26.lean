import Derived.Test.YtkgbdddkcjpgfaaGreatDoorS23
namespace Go.Proofs.YtkgbdddkcjpgfaaGreatDoor
set_option maxHeartbeats 8000000
set_option maxRecDepth 100000
open Go.Proofs.Tryz
open Pl (PV PW PS Byt arity prims applyB sameW)
section
open Go.RowKit
theorem rU(hI:ItoaSaid)(w:World)(wb xb:Nat)(M:Nat->Prop)(W:PW)(S:PS)(s:Byt)(av:Value)(l:List PV)(hs:s=sameW)(hW:RW w wb M W)(hS:RS M w xb S)(hG:Gs w (Mx M xb))(ha:GotAt M w av l)(hl:∀v∈l,WfV W v)(hP:WfP W)(hll:l.length<=1000) :Calls prog 175 #[.pointer (some ⟨wb,0,none⟩),.pointer (some ⟨xb,0,none⟩),.string ⟨s.toArray⟩,av] w fun e w'=>Res M w wb xb (applyB W S (.prim s) l) e w':=by
 have HBA:Hid (Below w.heap.size w ((w.alloc aJ).alloc aH)):=((Below.refl _ _).alloc (Nat.le_refl _) _).alloc (by simp) _;have HWA:Hid (RW ((w.alloc aJ).alloc aH) wb M W):=hW.later HBA.out;have HSA:Hid (RS M ((w.alloc aJ).alloc aH) xb S):=hS.later hW HBA.out;have HAA:Hid (GotAt M ((w.alloc aJ).alloc aH) av l):=ha.stp (Stp.of_below HBA.out);have HGA:Hid (Gs ((w.alloc aJ).alloc aH) (Mx M xb)):=hG.below HBA.out;have HBad:Hid (¬l.length=arity s->applyB W S (.prim s) l=⟨10,W,S⟩):=fun h=>eZ h;have HI:Hid ItoaSaid:=hI;have HL:Hid (∀v∈l,WfV W v):=hl;have HP:Hid (WfP W):=hP;have HM:Hid (s∈prims):=show s∈prims from by subst hs;decide
 have HN:Hid _:=hs;obtain⟨ao,cap,rfl,hcap⟩:=ha.shape;clear hI hs hW hS hG ha hl hP;go_enter func175,ntmps175;go_wp2_with fail;refine(bQ _).mono ?_;rintro e w' ⟨rfl,rfl⟩;unfold aJ aH;go_wp2_with fail
 go_loopw [11] (fun i wr=>∃k:Nat,k<=13/\i=.int .i64 k/\wr=(w.alloc aJ).alloc aH/\Hid (ArOk s l.length k)) (fun i _=>13-(intOf i).toNat)
 case atStart=>exact⟨0,Nat.zero_le _,rfl,rfl,ArOk.start _ _⟩
 case round =>
  obtain⟨k,hk,rfl,rfl,HA⟩:=hrel;rcases(show k<13\/k=13 from by omega) with h13 | rfl
  ·unfold aJ aH at *;by_cases hq:prims[k]'h13=s
   ·have hqb:(aW k==s)=true:=by rw [beq_iff_eq,<-bR k h13];exact hq
    by_cases hn:iE[k]'h13=l.length
    ·have HA2:Hid (ArOk s l.length (k+1)):=HA.out.next h13 (fun _=>hn);have hnb:=oD h13 hn;clear hq hn HA;clear hk;rcases(show k=0\/k=1\/k=2\/k=3\/k=4\/k=5\/k=6\/k=7\/k=8\/k=9\/k=10\/k=11\/k=12 from by omega) with rfl | rfl | rfl | rfl | rfl | rfl | rfl | rfl | rfl | rfl | rfl | rfl | rfl
     all_goals
      simp only [aW,arI] at hqb hnb;go_wp2_with fail;exact⟨⟨_,by omega,by go_num,trivial,HA2⟩,by simp [intOf]⟩
    ·have HF:Hid (¬l.length=arity s):=ArOk.fail h13 hq hn;have hnb:=jW h13 hn;clear hq hn HA;clear hk;rcases(show k=0\/k=1\/k=2\/k=3\/k=4\/k=5\/k=6\/k=7\/k=8\/k=9\/k=10\/k=11\/k=12 from by omega) with rfl | rfl | rfl | rfl | rfl | rfl | rfl | rfl | rfl | rfl | rfl | rfl | rfl
     all_goals
      simp only [aW,arI] at hqb hnb;go_wp2_with fail;go_ret;rw [HBad.out HF.out];exact⟨rfl,M,HWA.out,(Stp.of_below HBA.out).mx xb,fun h=>by simp at h⟩
   ·have hqb:(aW k==s)=false:=by rw [beq_eq_false_iff_ne,<-bR k h13];exact hq
    have HA2:Hid (ArOk s l.length (k+1)):=HA.out.next h13 (fun e=>absurd e hq);clear hq HA;clear hk;rcases(show k=0\/k=1\/k=2\/k=3\/k=4\/k=5\/k=6\/k=7\/k=8\/k=9\/k=10\/k=11\/k=12 from by omega) with rfl | rfl | rfl | rfl | rfl | rfl | rfl | rfl | rfl | rfl | rfl | rfl | rfl
    all_goals
     simp only [aW] at hqb;go_wp2_with fail;exact⟨⟨_,by omega,by go_num,trivial,HA2⟩,by simp [intOf]⟩
  have hAr:l.length=arity s:=HA.out.done HM.out;have hmem:=HM.out;have hne:=HN.out;clear HA hk HBad HM HN;generalize (w.alloc aJ).alloc aH=wA at *;subst hne
  ·obtain⟨x,y,rfl⟩:=fE hAr;obtain⟨g,off,cap',e',_,hgl,_,k0,k1,k2,k3,k4,k5⟩:=got2 HAA.out;simp only [Value.slice.injEq] at e';obtain⟨rfl,_,rfl⟩:=e';clear hAr;by_cases hxy:x=y
   ·subst hxy;have HR:Hid (applyB W S (.prim sameW) [x,x]=⟨0,W,S.give (.truth true)⟩):=show applyB W S (.prim sameW) [x,x]=_ from sameT W S x x true (by simp);generalize vK x=kx at *;generalize vN x=nx at *;generalize vS x=sx at *;unfold sameW;go_wp2_with fail;go_region_with (first | (go_at_call 195;refine(cT _ true).mono ?_;rintro e w1 ⟨rfl,hB⟩;have HW1:=(show Hid (RW w1 wb M W) from HWA.out.later ((Below.trans (Below.refl _ _).drew hB)));have HS1:=(show Hid (RS M w1 xb S) from HSA.out.later HWA.out (Below.trans (Below.refl _ _).drew hB));have HB:=(show Hid (Below wA.heap.size wA w1) from Below.trans (Below.refl _ _).drew hB);clear hB) | (go_at_call 88;refine(aT _ wb xb M W S (.truth true) HW1.out HS1.out).mono ?_;rintro e w2 ⟨rfl,h1,h2,h3⟩))
    all_goals
     have H1:Hid _:=h1;have H2:Hid _:=h2;have H3:Hid _:=h3;clear h1 h2 h3;go_wp2_with fail;go_ret;refine Res.pre HBA.out ?_;rw [HR.out];exact⟨rfl,M,H1.out,((Stp.of_below HB.out).mx xb).trans H3.out,fun _=>H2.out⟩
   ·have HR:Hid (applyB W S (.prim sameW) [x,y]=⟨0,W,S.give (.truth false)⟩):=show applyB W S (.prim sameW) [x,y]=_ from sameT W S x y false (by simp [hxy]);by_cases h1:vK x=vK y
    ·by_cases h2:vN x=vN y
     ·have h3:¬vS x=vS y:=fun h3=>hxy (pv_ext x y h1 h2 h3);have b1:(vK x==vK y)=true:=by rw [beq_iff_eq];exact h1
      have b2:(vN x==vN y)=true:=by rw [beq_iff_eq];exact h2
      have b3:(vS x==vS y)=false:=by rw [beq_eq_false_iff_ne];exact h3
      clear h1 h2 h3 hxy;generalize vK x=kx at *;generalize vN x=nx at *;generalize vS x=sx at *;generalize vK y=ky at *;generalize vN y=ny at *;generalize vS y=sy at *;unfold sameW;go_wp2_with fail;go_region_with (first | (go_at_call 195;refine(cT _ false).mono ?_;rintro e w1 ⟨rfl,hB⟩;have HW1:=(show Hid (RW w1 wb M W) from HWA.out.later ((Below.trans (Below.refl _ _).drew hB)));have HS1:=(show Hid (RS M w1 xb S) from HSA.out.later HWA.out (Below.trans (Below.refl _ _).drew hB));have HB:=(show Hid (Below wA.heap.size wA w1) from Below.trans (Below.refl _ _).drew hB);clear hB) | (go_at_call 88;refine(aT _ wb xb M W S (.truth false) HW1.out HS1.out).mono ?_;rintro e w2 ⟨rfl,h1,h2,h3⟩))
      all_goals
       have H1:Hid _:=h1;have H2:Hid _:=h2;have H3:Hid _:=h3;clear h1 h2 h3;go_wp2_with fail;go_ret;refine Res.pre HBA.out ?_;rw [HR.out];exact⟨rfl,M,H1.out,((Stp.of_below HB.out).mx xb).trans H3.out,fun _=>H2.out⟩
     ·have b1:(vK x==vK y)=true:=by rw [beq_iff_eq];exact h1
      have b2:(vN x==vN y)=false:=by rw [beq_eq_false_iff_ne];exact h2
      clear h1 h2 hxy;generalize vK x=kx at *;generalize vN x=nx at *;generalize vS x=sx at *;generalize vK y=ky at *;generalize vN y=ny at *;generalize vS y=sy at *;unfold sameW;go_wp2_with fail;go_region_with (first | (go_at_call 195;refine(cT _ false).mono ?_;rintro e w1 ⟨rfl,hB⟩;have HW1:=(show Hid (RW w1 wb M W) from HWA.out.later ((Below.trans (Below.refl _ _).drew hB)));have HS1:=(show Hid (RS M w1 xb S) from HSA.out.later HWA.out (Below.trans (Below.refl _ _).drew hB));have HB:=(show Hid (Below wA.heap.size wA w1) from Below.trans (Below.refl _ _).drew hB);clear hB) | (go_at_call 88;refine(aT _ wb xb M W S (.truth false) HW1.out HS1.out).mono ?_;rintro e w2 ⟨rfl,h1,h2,h3⟩))
      all_goals
       have H1:Hid _:=h1;have H2:Hid _:=h2;have H3:Hid _:=h3;clear h1 h2 h3;go_wp2_with fail;go_ret;refine Res.pre HBA.out ?_;rw [HR.out];exact⟨rfl,M,H1.out,((Stp.of_below HB.out).mx xb).trans H3.out,fun _=>H2.out⟩
    ·have b1:(vK x==vK y)=false:=by rw [beq_eq_false_iff_ne];exact h1
     clear h1 hxy;generalize vK x=kx at *;generalize vN x=nx at *;generalize vS x=sx at *;generalize vK y=ky at *;generalize vN y=ny at *;generalize vS y=sy at *;unfold sameW;go_wp2_with fail;go_region_with (first | (go_at_call 195;refine(cT _ false).mono ?_;rintro e w1 ⟨rfl,hB⟩;have HW1:=(show Hid (RW w1 wb M W) from HWA.out.later ((Below.trans (Below.refl _ _).drew hB)));have HS1:=(show Hid (RS M w1 xb S) from HSA.out.later HWA.out (Below.trans (Below.refl _ _).drew hB));have HB:=(show Hid (Below wA.heap.size wA w1) from Below.trans (Below.refl _ _).drew hB);clear hB) | (go_at_call 88;refine(aT _ wb xb M W S (.truth false) HW1.out HS1.out).mono ?_;rintro e w2 ⟨rfl,h1,h2,h3⟩))
     all_goals
      have H1:Hid _:=h1;have H2:Hid _:=h2;have H3:Hid _:=h3;clear h1 h2 h3;go_wp2_with fail;go_ret;refine Res.pre HBA.out ?_;rw [HR.out];exact⟨rfl,M,H1.out,((Stp.of_below HB.out).mx xb).trans H3.out,fun _=>H2.out⟩
end
end Go.Proofs.YtkgbdddkcjpgfaaGreatDoor
