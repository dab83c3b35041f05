import Derived.Test.YtkgbdddkcjpgfaaGreatDoorS23
namespace Go.Proofs.YtkgbdddkcjpgfaaGreatDoor
set_option maxHeartbeats 8000000
set_option maxRecDepth 100000
open Go.Proofs.Tryz
open Pl (PV PW PS Byt arity prims applyB plusW minusW timesW lessW eqW cdrW carW nullW pairW displayW)
section
open Go.RowKit
theorem cN(hI:ItoaSaid)(w:World)(wb xb:Nat)(M:Nat->Prop)(W:PW)(S:PS)(s:Byt)(av:Value)(l:List PV)(hs:s=plusW\/s=minusW\/s=timesW\/s=lessW\/s=eqW\/s=nullW\/s=pairW)(hW:RW w wb M W)(hS:RS M w xb S)(hG:Gs w (Mx M xb))(ha:GotAt M w av l)(hl:∀v∈l,WfV W v)(hP:WfP W)(hll:l.length<=1000) :Calls prog 175 #[.pointer (some ⟨wb,0,none⟩),.pointer (some ⟨xb,0,none⟩),.string ⟨s.toArray⟩,av] w fun e w'=>Res M w wb xb (applyB W S (.prim s) l) e w':=by
 have HBA:Hid (Below w.heap.size w ((w.alloc aJ).alloc aH)):=((Below.refl _ _).alloc (Nat.le_refl _) _).alloc (by simp) _;have HWA:Hid (RW ((w.alloc aJ).alloc aH) wb M W):=hW.later HBA.out;have HSA:Hid (RS M ((w.alloc aJ).alloc aH) xb S):=hS.later hW HBA.out;have HAA:Hid (GotAt M ((w.alloc aJ).alloc aH) av l):=ha.stp (Stp.of_below HBA.out);have HGA:Hid (Gs ((w.alloc aJ).alloc aH) (Mx M xb)):=hG.below HBA.out;have HBad:Hid (¬l.length=arity s->applyB W S (.prim s) l=⟨10,W,S⟩):=fun h=>eZ h;have HI:Hid ItoaSaid:=hI;have HL:Hid (∀v∈l,WfV W v):=hl;have HP:Hid (WfP W):=hP;have HM:Hid (s∈prims):=show s∈prims from by rcases hs with rfl | rfl | rfl | rfl | rfl | rfl | rfl<;>decide
 have HN:Hid _:=hs;obtain⟨ao,cap,rfl,hcap⟩:=ha.shape;clear hI hs hW hS hG ha hl hP;go_enter func175,ntmps175;go_wp2_with fail;refine(bQ _).mono ?_;rintro e w' ⟨rfl,rfl⟩;unfold aJ aH;go_wp2_with fail
 go_loopw [11] (fun i wr=>∃k:Nat,k<=13/\i=.int .i64 k/\wr=(w.alloc aJ).alloc aH/\Hid (ArOk s l.length k)) (fun i _=>13-(intOf i).toNat)
 case atStart=>exact⟨0,Nat.zero_le _,rfl,rfl,ArOk.start _ _⟩
 case round =>
  obtain⟨k,hk,rfl,rfl,HA⟩:=hrel;rcases(show k<13\/k=13 from by omega) with h13 | rfl
  ·unfold aJ aH at *;by_cases hq:prims[k]'h13=s
   ·have hqb:(aW k==s)=true:=by rw [beq_iff_eq,<-bR k h13];exact hq
    by_cases hn:iE[k]'h13=l.length
    ·have HA2:Hid (ArOk s l.length (k+1)):=HA.out.next h13 (fun _=>hn);have hnb:=oD h13 hn;clear hq hn HA;clear hk;rcases(show k=0\/k=1\/k=2\/k=3\/k=4\/k=5\/k=6\/k=7\/k=8\/k=9\/k=10\/k=11\/k=12 from by omega) with rfl | rfl | rfl | rfl | rfl | rfl | rfl | rfl | rfl | rfl | rfl | rfl | rfl
     all_goals
      simp only [aW,arI] at hqb hnb;go_wp2_with fail;exact⟨⟨_,by omega,by go_num,trivial,HA2⟩,by simp [intOf]⟩
    ·have HF:Hid (¬l.length=arity s):=ArOk.fail h13 hq hn;have hnb:=jW h13 hn;clear hq hn HA;clear hk;rcases(show k=0\/k=1\/k=2\/k=3\/k=4\/k=5\/k=6\/k=7\/k=8\/k=9\/k=10\/k=11\/k=12 from by omega) with rfl | rfl | rfl | rfl | rfl | rfl | rfl | rfl | rfl | rfl | rfl | rfl | rfl
     all_goals
      simp only [aW,arI] at hqb hnb;go_wp2_with fail;go_ret;rw [HBad.out HF.out];exact⟨rfl,M,HWA.out,(Stp.of_below HBA.out).mx xb,fun h=>by simp at h⟩
   ·have hqb:(aW k==s)=false:=by rw [beq_eq_false_iff_ne,<-bR k h13];exact hq
    have HA2:Hid (ArOk s l.length (k+1)):=HA.out.next h13 (fun e=>absurd e hq);clear hq HA;clear hk;rcases(show k=0\/k=1\/k=2\/k=3\/k=4\/k=5\/k=6\/k=7\/k=8\/k=9\/k=10\/k=11\/k=12 from by omega) with rfl | rfl | rfl | rfl | rfl | rfl | rfl | rfl | rfl | rfl | rfl | rfl | rfl
    all_goals
     simp only [aW] at hqb;go_wp2_with fail;exact⟨⟨_,by omega,by go_num,trivial,HA2⟩,by simp [intOf]⟩
  have hAr:l.length=arity s:=HA.out.done HM.out;have hmem:=HM.out;have hne:=HN.out;clear HA hk HBad HM HN;generalize (w.alloc aJ).alloc aH=wA at *;rcases hne with rfl | rfl | rfl | rfl | rfl | rfl | rfl
  ·obtain⟨x,y,rfl⟩:=fE hAr;clear hAr;unfold plusW;go_wp2_with fail;refine(dO _ wb xb M M W S _ _ x y (.inl rfl) HWA.out HSA.out HAA.out (HL.out x (by simp)) (HL.out y (by simp))).mono ?_;rintro e w2 hr;have HR:Hid _:=Res.pre HBA.out hr;obtain⟨rfl,_⟩:=hr;go_wp2_with fail;go_ret;exact⟨rfl,HR.out.2⟩
  ·obtain⟨x,y,rfl⟩:=fE hAr;clear hAr;unfold minusW;go_wp2_with fail;refine(dO _ wb xb M M W S _ _ x y (.inr (.inl rfl)) HWA.out HSA.out HAA.out (HL.out x (by simp)) (HL.out y (by simp))).mono ?_;rintro e w2 hr;have HR:Hid _:=Res.pre HBA.out hr;obtain⟨rfl,_⟩:=hr;go_wp2_with fail;go_ret;exact⟨rfl,HR.out.2⟩
  ·obtain⟨x,y,rfl⟩:=fE hAr;clear hAr;unfold timesW;go_wp2_with fail;refine(dO _ wb xb M M W S _ _ x y (.inr (.inr (.inl rfl))) HWA.out HSA.out HAA.out (HL.out x (by simp)) (HL.out y (by simp))).mono ?_;rintro e w2 hr;have HR:Hid _:=Res.pre HBA.out hr;obtain⟨rfl,_⟩:=hr;go_wp2_with fail;go_ret;exact⟨rfl,HR.out.2⟩
  ·obtain⟨x,y,rfl⟩:=fE hAr;clear hAr;unfold lessW;go_wp2_with fail;refine(dO _ wb xb M M W S _ _ x y (.inr (.inr (.inr (.inl rfl)))) HWA.out HSA.out HAA.out (HL.out x (by simp)) (HL.out y (by simp))).mono ?_;rintro e w2 hr;have HR:Hid _:=Res.pre HBA.out hr;obtain⟨rfl,_⟩:=hr;go_wp2_with fail;go_ret;exact⟨rfl,HR.out.2⟩
  ·obtain⟨x,y,rfl⟩:=fE hAr;clear hAr;unfold eqW;go_wp2_with fail;refine(dO _ wb xb M M W S _ _ x y (.inr (.inr (.inr (.inr rfl)))) HWA.out HSA.out HAA.out (HL.out x (by simp)) (HL.out y (by simp))).mono ?_;rintro e w2 hr;have HR:Hid _:=Res.pre HBA.out hr;obtain⟨rfl,_⟩:=hr;go_wp2_with fail;go_ret;exact⟨rfl,HR.out.2⟩
  ·obtain⟨x,rfl⟩:=jK hAr;obtain⟨g,off,cap',e',_,hgl,_,k0,k1,k2⟩:=aAD HAA.out;simp only [Value.slice.injEq] at e';obtain⟨rfl,_,rfl⟩:=e';clear hAr;unfold nullW;go_wp2_with fail;refine(cT _ _).mono ?_;rintro e w1 ⟨rfl,hB⟩;have HW1:Hid (RW w1 wb M W):=HWA.out.later hB;have HS1:Hid (RS M w1 xb S):=HSA.out.later HWA.out hB;have HB:Hid (Below wA.heap.size wA w1):=hB;clear hB;go_wp2_with fail;refine(aT _ wb xb M W S _ HW1.out HS1.out).mono ?_;rintro e w2 ⟨rfl,h1,h2,h3⟩;have H1:Hid _:=h1;have H2:Hid _:=h2;have H3:Hid _:=h3;clear h1 h2 h3;go_wp2_with fail;go_ret;refine Res.pre HBA.out ?_;rw [show applyB W S (.prim _) [x]=_ from nullT W S x];exact⟨rfl,M,H1.out,((Stp.of_below HB.out).mx xb).trans H3.out,fun _=>H2.out⟩
  ·obtain⟨x,rfl⟩:=jK hAr;obtain⟨g,off,cap',e',_,hgl,_,k0,k1,k2⟩:=aAD HAA.out;simp only [Value.slice.injEq] at e';obtain⟨rfl,_,rfl⟩:=e';clear hAr;unfold pairW;go_wp2_with fail;refine(cT _ _).mono ?_;rintro e w1 ⟨rfl,hB⟩;have HW1:Hid (RW w1 wb M W):=HWA.out.later hB;have HS1:Hid (RS M w1 xb S):=HSA.out.later HWA.out hB;have HB:Hid (Below wA.heap.size wA w1):=hB;clear hB;go_wp2_with fail;refine(aT _ wb xb M W S _ HW1.out HS1.out).mono ?_;rintro e w2 ⟨rfl,h1,h2,h3⟩;have H1:Hid _:=h1;have H2:Hid _:=h2;have H3:Hid _:=h3;clear h1 h2 h3;go_wp2_with fail;go_ret;refine Res.pre HBA.out ?_;rw [show applyB W S (.prim _) [x]=_ from pairT W S x];exact⟨rfl,M,H1.out,((Stp.of_below HB.out).mx xb).trans H3.out,fun _=>H2.out⟩
theorem gQ(hI:ItoaSaid)(w:World)(wb xb:Nat)(M:Nat->Prop)(W:PW)(S:PS)(s:Byt)(av:Value)(l:List PV)(hs:s=carW\/s=cdrW\/s=displayW)(hW:RW w wb M W)(hS:RS M w xb S)(hG:Gs w (Mx M xb))(ha:GotAt M w av l)(hl:∀v∈l,WfV W v)(hP:WfP W)(hll:l.length<=1000) :Calls prog 175 #[.pointer (some ⟨wb,0,none⟩),.pointer (some ⟨xb,0,none⟩),.string ⟨s.toArray⟩,av] w fun e w'=>Res M w wb xb (applyB W S (.prim s) l) e w':=by
 have HBA:Hid (Below w.heap.size w ((w.alloc aJ).alloc aH)):=((Below.refl _ _).alloc (Nat.le_refl _) _).alloc (by simp) _;have HWA:Hid (RW ((w.alloc aJ).alloc aH) wb M W):=hW.later HBA.out;have HSA:Hid (RS M ((w.alloc aJ).alloc aH) xb S):=hS.later hW HBA.out;have HAA:Hid (GotAt M ((w.alloc aJ).alloc aH) av l):=ha.stp (Stp.of_below HBA.out);have HGA:Hid (Gs ((w.alloc aJ).alloc aH) (Mx M xb)):=hG.below HBA.out;have HBad:Hid (¬l.length=arity s->applyB W S (.prim s) l=⟨10,W,S⟩):=fun h=>eZ h;have HI:Hid ItoaSaid:=hI;have HL:Hid (∀v∈l,WfV W v):=hl;have HP:Hid (WfP W):=hP;have HM:Hid (s∈prims):=show s∈prims from by rcases hs with rfl | rfl | rfl<;>decide
 have HN:Hid _:=hs;obtain⟨ao,cap,rfl,hcap⟩:=ha.shape;clear hI hs hW hS hG ha hl hP;go_enter func175,ntmps175;go_wp2_with fail;refine(bQ _).mono ?_;rintro e w' ⟨rfl,rfl⟩;unfold aJ aH;go_wp2_with fail
 go_loopw [11] (fun i wr=>∃k:Nat,k<=13/\i=.int .i64 k/\wr=(w.alloc aJ).alloc aH/\Hid (ArOk s l.length k)) (fun i _=>13-(intOf i).toNat)
 case atStart=>exact⟨0,Nat.zero_le _,rfl,rfl,ArOk.start _ _⟩
 case round =>
  obtain⟨k,hk,rfl,rfl,HA⟩:=hrel;rcases(show k<13\/k=13 from by omega) with h13 | rfl
  ·unfold aJ aH at *;by_cases hq:prims[k]'h13=s
   ·have hqb:(aW k==s)=true:=by rw [beq_iff_eq,<-bR k h13];exact hq
    by_cases hn:iE[k]'h13=l.length
    ·have HA2:Hid (ArOk s l.length (k+1)):=HA.out.next h13 (fun _=>hn);have hnb:=oD h13 hn;clear hq hn HA;clear hk;rcases(show k=0\/k=1\/k=2\/k=3\/k=4\/k=5\/k=6\/k=7\/k=8\/k=9\/k=10\/k=11\/k=12 from by omega) with rfl | rfl | rfl | rfl | rfl | rfl | rfl | rfl | rfl | rfl | rfl | rfl | rfl
     all_goals
      simp only [aW,arI] at hqb hnb;go_wp2_with fail;exact⟨⟨_,by omega,by go_num,trivial,HA2⟩,by simp [intOf]⟩
    ·have HF:Hid (¬l.length=arity s):=ArOk.fail h13 hq hn;have hnb:=jW h13 hn;clear hq hn HA;clear hk;rcases(show k=0\/k=1\/k=2\/k=3\/k=4\/k=5\/k=6\/k=7\/k=8\/k=9\/k=10\/k=11\/k=12 from by omega) with rfl | rfl | rfl | rfl | rfl | rfl | rfl | rfl | rfl | rfl | rfl | rfl | rfl
     all_goals
      simp only [aW,arI] at hqb hnb;go_wp2_with fail;go_ret;rw [HBad.out HF.out];exact⟨rfl,M,HWA.out,(Stp.of_below HBA.out).mx xb,fun h=>by simp at h⟩
   ·have hqb:(aW k==s)=false:=by rw [beq_eq_false_iff_ne,<-bR k h13];exact hq
    have HA2:Hid (ArOk s l.length (k+1)):=HA.out.next h13 (fun e=>absurd e hq);clear hq HA;clear hk;rcases(show k=0\/k=1\/k=2\/k=3\/k=4\/k=5\/k=6\/k=7\/k=8\/k=9\/k=10\/k=11\/k=12 from by omega) with rfl | rfl | rfl | rfl | rfl | rfl | rfl | rfl | rfl | rfl | rfl | rfl | rfl
    all_goals
     simp only [aW] at hqb;go_wp2_with fail;exact⟨⟨_,by omega,by go_num,trivial,HA2⟩,by simp [intOf]⟩
  have hAr:l.length=arity s:=HA.out.done HM.out;have hmem:=HM.out;have hne:=HN.out;clear HA hk HBad HM HN;generalize (w.alloc aJ).alloc aH=wA at *;rcases hne with rfl | rfl | rfl
  ·obtain⟨x,rfl⟩:=jK hAr;rcases iK x with⟨i,rfl⟩ | ⟨hnp,hkp⟩
   ·obtain⟨p,hp⟩:∃p,W.pairs[i]?=some p:=⟨_,List.getElem?_eq_getElem (HL.out (.pair i) (by simp))⟩
    have HR:Hid (applyB W S (.prim carW) [.pair i]=⟨0,W,S.give p.1⟩):=carT W S i p hp;obtain⟨g,off,cap',e',_,hgl,_,k0,k1,k2⟩:=aAD HAA.out;simp only [Value.slice.injEq] at e';obtain⟨rfl,_,rfl⟩:=e';have HWs:=HWA.out;obtain⟨pv,qv,cv,lv,gv,qs,cs,hM,hws⟩:=HWs;obtain⟨gp,capp,rfl,hcapp,hgp,d0,d1,d2,d3,d4,d5⟩:=yB hws hp;have c0:wA.cell? ⟨wb,0,none⟩=some (.slice (some ⟨gp,0,none⟩) W.pairs.length capp):=aA hws.blk 0;have hwb:=aB hws.blk;have hil:(i:Int)<(W.pairs.length:Int):=by have:i<W.pairs.length:=(List.getElem?_eq_some_iff.1 hp).1;omega
    have k0':wA.cell? ⟨g,off,none⟩=some (.string ⟨#[112,97,105,114]⟩):=k0;have k1':wA.cell? ⟨g,off+1,none⟩=some (.int .i64 i):=k1;have qA:∀(o:Obj)(b off:Nat),b<wA.heap.size->(wA.alloc o).cell? ⟨b,off,none⟩=wA.cell? ⟨b,off,none⟩:=fun o b off hb=>((Below.refl _ _).alloc (Nat.le_refl _) o).cell (p:=⟨b,off,none⟩) hb;clear hAr hp hM hws k0 k1 k2;unfold carW;go_wp2_with fail
    go_region
    all_goals
     go_wp2_with fail
     refine(aT _ wb xb M W S p.1 (HWA.out.later ((Below.refl _ _).alloc (Nat.le_refl _) _).drew) (HSA.out.later HWA.out ((Below.refl _ _).alloc (Nat.le_refl _) _).drew)).mono ?_;rintro e w2 ⟨rfl,h1,h2,h3⟩;have H1:Hid _:=h1;have H2:Hid _:=h2;have H3:Hid _:=h3;clear h1 h2 h3;go_wp2_with fail;go_ret;refine Res.pre HBA.out ?_;rw [HR.out];exact⟨rfl,M,H1.out,((Stp.of_below ((Below.refl _ _).alloc (Nat.le_refl _) _).drew).mx xb).trans H3.out,fun _=>H2.out⟩
   ·obtain⟨g,off,cap',e',_,hgl,_,k0,k1,k2⟩:=aAD HAA.out;simp only [Value.slice.injEq] at e';obtain⟨rfl,_,rfl⟩:=e';have hkb:(vK x !=[112,97,105,114])=true:=by rw [bne,hkp];rfl
    have HR:Hid (applyB W S (.prim carW) [x]=⟨9,W,S⟩):=carN W S x hnp;clear hAr hnp;generalize vK x=kk at *;unfold carW;go_wp2_with fail;go_ret;rw [HR.out];exact Res.pre HBA.out ⟨rfl,M,HWA.out,Stp.refl _ _,fun h=>by simp at h⟩
  ·obtain⟨x,rfl⟩:=jK hAr;rcases iK x with⟨i,rfl⟩ | ⟨hnp,hkp⟩
   ·obtain⟨p,hp⟩:∃p,W.pairs[i]?=some p:=⟨_,List.getElem?_eq_getElem (HL.out (.pair i) (by simp))⟩
    have HR:Hid (applyB W S (.prim cdrW) [.pair i]=⟨0,W,S.give p.2⟩):=cdrT W S i p hp;obtain⟨g,off,cap',e',_,hgl,_,k0,k1,k2⟩:=aAD HAA.out;simp only [Value.slice.injEq] at e';obtain⟨rfl,_,rfl⟩:=e';have HWs:=HWA.out;obtain⟨pv,qv,cv,lv,gv,qs,cs,hM,hws⟩:=HWs;obtain⟨gp,capp,rfl,hcapp,hgp,d0,d1,d2,d3,d4,d5⟩:=yB hws hp;have c0:wA.cell? ⟨wb,0,none⟩=some (.slice (some ⟨gp,0,none⟩) W.pairs.length capp):=aA hws.blk 0;have hwb:=aB hws.blk;have hil:(i:Int)<(W.pairs.length:Int):=by have:i<W.pairs.length:=(List.getElem?_eq_some_iff.1 hp).1;omega
    have k0':wA.cell? ⟨g,off,none⟩=some (.string ⟨#[112,97,105,114]⟩):=k0;have k1':wA.cell? ⟨g,off+1,none⟩=some (.int .i64 i):=k1;have qA:∀(o:Obj)(b off:Nat),b<wA.heap.size->(wA.alloc o).cell? ⟨b,off,none⟩=wA.cell? ⟨b,off,none⟩:=fun o b off hb=>((Below.refl _ _).alloc (Nat.le_refl _) o).cell (p:=⟨b,off,none⟩) hb;clear hAr hp hM hws k0 k1 k2;unfold cdrW;go_wp2_with fail
    go_region
    all_goals
     go_wp2_with fail
     go_region
     all_goals
      go_wp2_with fail
      refine(aT _ wb xb M W S p.2 (HWA.out.later ((Below.refl _ _).alloc (Nat.le_refl _) _).drew.drew) (HSA.out.later HWA.out ((Below.refl _ _).alloc (Nat.le_refl _) _).drew.drew)).mono ?_;rintro e w2 ⟨rfl,h1,h2,h3⟩;have H1:Hid _:=h1;have H2:Hid _:=h2;have H3:Hid _:=h3;clear h1 h2 h3;go_wp2_with fail;go_ret;refine Res.pre HBA.out ?_;rw [HR.out];exact⟨rfl,M,H1.out,((Stp.of_below ((Below.refl _ _).alloc (Nat.le_refl _) _).drew.drew).mx xb).trans H3.out,fun _=>H2.out⟩
   ·obtain⟨g,off,cap',e',_,hgl,_,k0,k1,k2⟩:=aAD HAA.out;simp only [Value.slice.injEq] at e';obtain⟨rfl,_,rfl⟩:=e';have hkb:(vK x !=[112,97,105,114])=true:=by rw [bne,hkp];rfl
    have HR:Hid (applyB W S (.prim cdrW) [x]=⟨9,W,S⟩):=cdrN W S x hnp;clear hAr hnp;generalize vK x=kk at *;unfold cdrW;go_wp2_with fail;go_ret;rw [HR.out];exact Res.pre HBA.out ⟨rfl,M,HWA.out,Stp.refl _ _,fun h=>by simp at h⟩
  ·obtain⟨x,rfl⟩:=jK hAr;obtain⟨g,off,cap',e',_,hgl,_,k0,k1,k2⟩:=aAD HAA.out;simp only [Value.slice.injEq] at e';obtain⟨rfl,_,rfl⟩:=e';have HWs:=HWA.out;obtain⟨pv,qv,cv,lv,gv,qs,cs,hM,hws⟩:=HWs;have hout:=hws.out;have hwb:=aB hws.blk;have c5:wA.cell? ⟨wb,5,none⟩=some (.string ⟨W.out.toArray⟩):=aA hws.blk 5;have HNM:Hid (bT x=.agg #[.string ⟨(vK x).toArray⟩,.int .i64 (vN x),.string ⟨(vS x).toArray⟩]):=rfl;have HGM:Hid (Gs wA M):=HGA.out.mono (fun k hk=>.inl hk);have HVx:Hid (WfV W x):=HL.out x (by simp)
   have HRx:Hid (Pl.rank x<=1000000000):=show _<=_ from by
    have h1:=HVx.out;have h2:=HP.out.len
    cases x with
    | pair i=>simp only [Pl.rank];have:i<W.pairs.length:=h1;omega
    | _=>simp [Pl.rank]
   clear hAr hM hws;generalize vK x=kk at *;generalize vN x=nn at *;generalize vS x=ss at *;unfold displayW;go_wp2_with fail;rw [<- HNM.out];refine(lF HI.out wb M W HP.out 1000000000 (Nat.le_refl _) _ x [] HWA.out HGM.out HVx.out HRx.out (by simp)).mono ?_;rintro e w1 ⟨hB,r,rfl,hq,hrl⟩;have HRl:Hid (r.length<=2000000000):=show _<=_ from by simp only [List.length_nil] at hrl;omega
   have HQ:Hid (Pl.cut r=Pl.cut (Pl.text W.pairs x)):=hq.cut;have HB:Hid (Below wA.heap.size wA w1):=hB;clear hB hq hrl;go_wp2_with fail;refine(uE _ r (by have:=HRl.out;omega)).mono ?_;rintro e w' ⟨rfl,rfl⟩;rw [HQ.out];have HCl:Hid ((Pl.cut (Pl.text W.pairs x)).length<=202):=Pl.cut_len _;have HDis:Hid (applyB W S (.prim displayW) [x]=if W.out.length+(Pl.cut (Pl.text W.pairs x)).length<=1000 then⟨0,{W with out:=W.out++Pl.cut (Pl.text W.pairs x)},S.give .nothing⟩ else⟨11,W,S⟩):=rfl;have hcl:=HCl.out;have c5':w1.cell? ⟨wb,5,none⟩=some (.string ⟨W.out.toArray⟩):=(HB.out.cell (p:=⟨wb,5,none⟩) hwb).trans c5;have HW1:Hid (RW w1 wb M W):=HWA.out.later HB.out;have HS1:Hid (RS M w1 xb S):=HSA.out.later HWA.out HB.out;generalize Pl.cut (Pl.text W.pairs x)=t at *;by_cases hfit:W.out.length+t.length<=1000
   ·rw [if_pos hfit] at HDis;have hfb:decide ((1000:Int)<(W.out.length:Int)+(t.length:Int))=false:=by simp;omega
    obtain⟨pv1,qv1,cv1,lv1,gv1,qs1,cs1,hM1,hws1⟩:=HW1.out;have f5:w1.frozen? ⟨wb,5,none⟩=false:=aF hws1.blk 5;obtain⟨z1,z2⟩:=hws1.out_set (W.out++t) (by simp;omega);have hcat:(⟨W.out.toArray⟩:ByteArray)++⟨t.toArray⟩=⟨(W.out++t).toArray⟩:=c7 _ _;have HZ1:Hid (RW (w1.setCell ⟨wb,5,none⟩ (.string ⟨(W.out++t).toArray⟩)) wb M {W with out:=W.out++t}):=⟨pv1,qv1,cv1,lv1,gv1,qs1,cs1,hM1,z1⟩
    have HZ2:Hid (Stp M w1 M (w1.setCell ⟨wb,5,none⟩ (.string ⟨(W.out++t).toArray⟩))):=by rw [hM1];exact z2
    have HZ3:Hid (RS M (w1.setCell ⟨wb,5,none⟩ (.string ⟨(W.out++t).toArray⟩)) xb S):=HS1.out.stp HW1.out HZ2.out;clear hM1 hws1 z1 z2;go_wp2_with fail;refine(aT _ wb xb M _ S .nothing HZ1.out HZ3.out).mono ?_;rintro e w2 ⟨rfl,h1,h2,h3⟩;have H1:Hid _:=h1;have H2:Hid _:=h2;have H3:Hid _:=h3;clear h1 h2 h3;go_wp2_with fail;go_ret;refine Res.pre HBA.out ?_;rw [HDis.out];exact⟨rfl,M,H1.out,((((Stp.of_below HB.out).mx xb).trans (HZ2.out.mx xb))).trans H3.out,fun _=>H2.out⟩
   ·rw [if_neg hfit] at HDis;have hfb:(1000:Int)<(W.out.length:Int)+(t.length:Int):=by omega
    go_wp2_with fail
    go_ret;refine Res.pre HBA.out ?_;rw [HDis.out];exact⟨rfl,M,HW1.out,(Stp.of_below HB.out).mx xb,fun h=>by simp at h⟩
end
end Go.Proofs.YtkgbdddkcjpgfaaGreatDoor
