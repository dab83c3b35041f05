import Derived.Test.YtkgbdddkcjpgfaaGreatDoorS03
import Derived.BigRegion
import Derived.Deep.RegionHeld3
import Derived.Deep.RegionLaw
import Derived.Laws.AppendOwnNone
import Derived.Deep.RegionWith
namespace Go.Proofs.YtkgbdddkcjpgfaaGreatDoor
set_option maxHeartbeats 1000000
set_option maxRecDepth 100000
open Go.Proofs.Tryz
open Pl (isForm kwB isName)
section
open Go.RowKit
variable {w w' wr:World} {ok:Nat->Prop} {v u kn vv:Value} {n k m G a b:Nat} {vs nvs vvs:List Value} {nm:List (List UInt8)}
theorem Tryz.infoPD:(prog.info? 135).map (fun i=>(i.zero,i.size,i.bytes))=some (some (.pointer none),1,8):=by kernel_rfl
theorem kH(n:Nat)(ih:DatSaid n)(w:World)(b:Nat)(L:Value)(all:List (List UInt8))(r:List (List UInt8))(dp de:Nat)(g:Bool)(hR:Rd w b L ((all.length-([40]::r).length:Nat):Int) (dp:Int) g)(hT:ToksAt w L all)(hsuf:[40]::r <:+ all)(hln:([40]::r).length<=n+1)(hall:all.length<=1000)(hdel:de+([40]::r).length<=2000)(hde:de<=dp)(hsz:∀t∈all,t.length<=1000) :Calls prog 72 #[.pointer (some ⟨b,0,none⟩),.int .i64 de] w fun e w'=>DatPost (n+1) w b L all dp de g ([40]::r) e w':=by
 obtain⟨i0,hi0,hz0,hz1,hz2⟩:=info_parts Tryz.infoPD;have hsz':=hsz;have HI:Hid (DatSaid n):=ih;clear ih;obtain⟨t,ht⟩:∃t:List UInt8,t=[40]:=⟨_,rfl⟩
 rw [<- ht] at hR hsuf;obtain⟨ao,cap,rfl,hcap,hcell⟩:=dM hT;obtain⟨hi,hg⟩:=Pl.suffix_get hsuf rfl;obtain⟨G,rfl,hc⟩:=hcell _ t (by rw [List.getElem?_eq_getElem hi,hg]);obtain⟨c0,c1,c2,c3⟩:=hR.cells;have f1:=aF hR 1;have f2:=aF hR 2;generalize hpos:all.length-(t::r).length=pos at *;have HP:Hid (pos+1=all.length-r.length):=by have:=iS hsuf;rw [<- hpos];exact this
 have HR:Hid (Rd w b _ _ _ _):=hR;have hsz0:t.length<=1000:=hsz t (hsuf.subset (by simp));have HT:Hid (ToksAt w _ all):=hT;clear hpos hg hT hcell hR hsz;subst ht;have hsz:=hsz';clear hsz' hsz0;have hr1:r.length<=1000:=by have:=hsuf.length_le;simp at this;omega
 have hge:decide (all.length<=pos)=false:=by simp;omega
 by_cases hd:dp<de+1
 ·have hd1:decide ((dp:Int)<(de:Int)+1)=true:=by simp;omega
  go_enter func72,ntmps72
  go_wp2_with fail
  go_quiet (fail)
  go_wp2_with fail
  go_quiet (fail)
  go_wp2_with fail
  go_loopw [8] (fun _ wr=>∃q kids ts vs dpk gk,Hid (LInv n w wr b w.heap.size (.slice (some ⟨G,0,none⟩) all.length cap) all r dp de g q kids ts vs dpk gk)) (fun _ wr=>mOf all b wr)
  case atStart=>exact⟨_,_,_,_,_,_,LInv.start ((List.suffix_cons _ _).trans hsuf) ((((HR.out.drewN _).set1 _).set2 _).cast (by have:=HP.out;omega) (by omega) rfl) (HT.out.keep (aC (cK w _ (some b)) (aC (aE _ _ _ _) (aE _ _ _ _))) HR.out) (aC (cK w _ (some b)) (aC (aE _ _ _ _) (aE _ _ _ _))) (aB HR.out) _ rfl _ (by simp)⟩
  case round =>
   obtain⟨q,kids,ts,vs,dpk,gk,HL⟩:=hrel;clear c0 c1 c2 c3 f1 f2 hc HR HT hi HP;obtain⟨c0,c1,c2,c3⟩:=HL.out.rd.cells;have f1:=aF HL.out.rd 1;have hG0:=aA HL.out.out 3;have hql:=HL.out.suf.length_le;generalize hpos:all.length-q.length=ps at *
   cases q with
   | nil =>
    have hp0:ps=all.length:=by simp at hpos;omega
    subst hp0;have hg0:decide ((all.length:Int)<(all.length:Int))=false:=by simp
    have hpd:Hid (Pl.pd (n+1) ([40]::r)=none):=by show Pl.pd _ _=_;rw [Pl.pd_open n _ r rfl,HL.out.lf.none_];rfl
    clear hpos;go_wp2_with fail
    go_quiet (fail)
    go_wp2_with fail
    go_quiet (fail)
    go_wp2_with fail
    go_ret;refine⟨bK (bK HL.out.grown _) _,?_⟩;rw [hpd.out];rfl
   | cons t q0 =>
    have hsl:=iS HL.out.suf;have hlt:ps<all.length:=by simp at hpos hql;omega
    have hgt:all[ps]?=some t:=by obtain⟨hi2,hg2⟩:=Pl.suffix_get HL.out.suf rfl;rw [<- hpos,List.getElem?_eq_getElem hi2,hg2]
    have hct:=mM HL.out.toks hgt;have hlt2:(ps:Int)<(all.length:Int):=by omega
    have HPS:Hid (ps+1=all.length-q0.length):=by rw [<- hpos];exact hsl
    clear hgt hsl hlt;by_cases h41:t=[41]
    ·subst h41;have hpd:Hid (Pl.pd (n+1) ([40]::r)=some ⟨.agg ts,q0,dpk+1,gk⟩):=by show Pl.pd _ _=_;rw [Pl.pd_open n _ r rfl,HL.out.lf.close];rfl
     clear hpos;go_wp2_with fail
     go_quiet (fail)
     go_wp2_with fail
     go_quiet (fail)
     go_wp2_with fail
     go_ret;refine dI hpd.out (aC (bK HL.out.grown _) (aE _ _ _ _)) ((HL.out.drewN _).done hr1 _) ((HL.out.rd.drewN _).set1 _) ?_ ?_ ?_
     ·have:=HPS.out;dsimp only;omega
     ·dsimp only;omega
     ·rfl
    ·have e41:(t==[41])=false:=by simpa using h41
     have n41:(t !=[41])=true:=by simpa using h41
     have hln2:=HL.out.len;simp only [List.length_cons] at hln2 hln hdel;go_wp2_with fail
     go_quiet (fail)
     go_wp2_with fail
     refine(HI.out _ b (.slice (some ⟨G,0,none⟩) all.length cap) all (t::q0) (max dp (de+1+dpk)) (de+1) (g||gk) ((HL.out.rd.drewN _).cast (by simp only [List.length_cons]) rfl rfl) ((HL.out.drewN _).toks) HL.out.suf (by simp;omega) hall (by simp;omega) (by omega) hsz _ (by omega)).mono ?_;rintro e w2 ⟨hgr,hpost⟩;clear c0 c1 c2 c3 f1 hG0 hct
     cases hp:Pl.pd n (t::q0) with
     | none =>
      rw [hp] at hpost;dsimp only at hpost;subst hpost;have hpd:Hid (Pl.pd (n+1) ([40]::r)=none):=by show Pl.pd _ _=_;rw [Pl.pd_open n _ r rfl,HL.out.lf.fail h41 hp];rfl
      have HG:Hid (w.grownBy w2 (some b)):=aC (bK HL.out.grown _) hgr;clear hp hgr hpos;go_wp2_with fail;go_ret;refine⟨HG.out,?_⟩;rw [hpd.out];rfl
     | some p =>
      rw [hp] at hpost;obtain⟨v,rfl,hrep,hRd2⟩:=hpost;have HM:=(show Hid _ from(HL.out.drewN _).call h41 hp hgr hrep hRd2)
      obtain⟨vb,rfl⟩:=hrep.ptr;have hm0:mOf all b wr=(t::q0).length:=HL.out.m;clear hp hgr hRd2 hpos HL;have cg2:=aA HM.out.out 3;have fg2:=aF HM.out.out 3;have hsw2:w.heap.size<w2.heap.size:=aB HM.out.out;have hqlt:=HM.out.q_lt;go_wp2_with (first | (at_builtin;refine wpList_append_lies _ rfl _ _ 237 rfl (w.heap.size+1) 135 i0 (.pointer none) 1 8 underlying237 hi0 hz0 hz1 hz2 rfl (by decide) kids ts.length vs rfl (HM.out.row.alloc _) ⟨w2.heap.size,0,none⟩ 1 1 [.pointer (some ⟨vb,0,none⟩)] rfl rfl (cell_one_new _ _ _) (fun x hx=>by simp at hx;subst hx;rfl) (by decide) (by unfold maxLen;omega) (by omega) (by simp;omega) (w2.heap.size+1) (by simp) ?_;intro g' cap' w3 hown' hgrow3 hat3 _;obtain⟨cg3,fg3,hL3⟩:=HM.out.push hown' hgrow3 hat3;have HL3:=(show Hid _ from hL3);clear hL3))
      go_roundw
      case rel=>exact⟨_,_,_,_,_,_,HL3⟩
      case measure=>rw [HL3.out.m,hm0];simp;omega
 ·go_enter func72,ntmps72
  go_wp2_with fail
  go_quiet (fail)
  go_wp2_with fail
  go_quiet (fail)
  go_wp2_with fail
  go_loopw [8] (fun _ wr=>∃q kids ts vs dpk gk,Hid (LInv n w wr b w.heap.size (.slice (some ⟨G,0,none⟩) all.length cap) all r dp de g q kids ts vs dpk gk)) (fun _ wr=>mOf all b wr)
  case atStart=>exact⟨_,_,_,_,_,_,LInv.start ((List.suffix_cons _ _).trans hsuf) (((HR.out.drewN _).set1 _).cast (by have:=HP.out;omega) (by omega) rfl) (HT.out.keep (aC (cK w _ (some b)) (aE _ _ _ _)) HR.out) (aC (cK w _ (some b)) (aE _ _ _ _)) (aB HR.out) _ rfl _ (by simp)⟩
  case round =>
   obtain⟨q,kids,ts,vs,dpk,gk,HL⟩:=hrel;clear c0 c1 c2 c3 f1 f2 hc HR HT hi HP;obtain⟨c0,c1,c2,c3⟩:=HL.out.rd.cells;have f1:=aF HL.out.rd 1;have hG0:=aA HL.out.out 3;have hql:=HL.out.suf.length_le;generalize hpos:all.length-q.length=ps at *
   cases q with
   | nil =>
    have hp0:ps=all.length:=by simp at hpos;omega
    subst hp0;have hg0:decide ((all.length:Int)<(all.length:Int))=false:=by simp
    have hpd:Hid (Pl.pd (n+1) ([40]::r)=none):=by show Pl.pd _ _=_;rw [Pl.pd_open n _ r rfl,HL.out.lf.none_];rfl
    clear hpos;go_wp2_with fail
    go_quiet (fail)
    go_wp2_with fail
    go_quiet (fail)
    go_wp2_with fail
    go_ret;refine⟨bK (bK HL.out.grown _) _,?_⟩;rw [hpd.out];rfl
   | cons t q0 =>
    have hsl:=iS HL.out.suf;have hlt:ps<all.length:=by simp at hpos hql;omega
    have hgt:all[ps]?=some t:=by obtain⟨hi2,hg2⟩:=Pl.suffix_get HL.out.suf rfl;rw [<- hpos,List.getElem?_eq_getElem hi2,hg2]
    have hct:=mM HL.out.toks hgt;have hlt2:(ps:Int)<(all.length:Int):=by omega
    have HPS:Hid (ps+1=all.length-q0.length):=by rw [<- hpos];exact hsl
    clear hgt hsl hlt;by_cases h41:t=[41]
    ·subst h41;have hpd:Hid (Pl.pd (n+1) ([40]::r)=some ⟨.agg ts,q0,dpk+1,gk⟩):=by show Pl.pd _ _=_;rw [Pl.pd_open n _ r rfl,HL.out.lf.close];rfl
     clear hpos;go_wp2_with fail
     go_quiet (fail)
     go_wp2_with fail
     go_quiet (fail)
     go_wp2_with fail
     go_ret;refine dI hpd.out (aC (bK HL.out.grown _) (aE _ _ _ _)) ((HL.out.drewN _).done hr1 _) ((HL.out.rd.drewN _).set1 _) ?_ ?_ ?_
     ·have:=HPS.out;dsimp only;omega
     ·dsimp only;omega
     ·rfl
    ·have e41:(t==[41])=false:=by simpa using h41
     have n41:(t !=[41])=true:=by simpa using h41
     have hln2:=HL.out.len;simp only [List.length_cons] at hln2 hln hdel;go_wp2_with fail
     go_quiet (fail)
     go_wp2_with fail
     refine(HI.out _ b (.slice (some ⟨G,0,none⟩) all.length cap) all (t::q0) (max dp (de+1+dpk)) (de+1) (g||gk) ((HL.out.rd.drewN _).cast (by simp only [List.length_cons]) rfl rfl) ((HL.out.drewN _).toks) HL.out.suf (by simp;omega) hall (by simp;omega) (by omega) hsz _ (by omega)).mono ?_;rintro e w2 ⟨hgr,hpost⟩;clear c0 c1 c2 c3 f1 hG0 hct
     cases hp:Pl.pd n (t::q0) with
     | none =>
      rw [hp] at hpost;dsimp only at hpost;subst hpost;have hpd:Hid (Pl.pd (n+1) ([40]::r)=none):=by show Pl.pd _ _=_;rw [Pl.pd_open n _ r rfl,HL.out.lf.fail h41 hp];rfl
      have HG:Hid (w.grownBy w2 (some b)):=aC (bK HL.out.grown _) hgr;clear hp hgr hpos;go_wp2_with fail;go_ret;refine⟨HG.out,?_⟩;rw [hpd.out];rfl
     | some p =>
      rw [hp] at hpost;obtain⟨v,rfl,hrep,hRd2⟩:=hpost;have HM:=(show Hid _ from(HL.out.drewN _).call h41 hp hgr hrep hRd2)
      obtain⟨vb,rfl⟩:=hrep.ptr;have hm0:mOf all b wr=(t::q0).length:=HL.out.m;clear hp hgr hRd2 hpos HL;have cg2:=aA HM.out.out 3;have fg2:=aF HM.out.out 3;have hsw2:w.heap.size<w2.heap.size:=aB HM.out.out;have hqlt:=HM.out.q_lt;go_wp2_with (first | (at_builtin;refine wpList_append_lies _ rfl _ _ 237 rfl (w.heap.size+1) 135 i0 (.pointer none) 1 8 underlying237 hi0 hz0 hz1 hz2 rfl (by decide) kids ts.length vs rfl (HM.out.row.alloc _) ⟨w2.heap.size,0,none⟩ 1 1 [.pointer (some ⟨vb,0,none⟩)] rfl rfl (cell_one_new _ _ _) (fun x hx=>by simp at hx;subst hx;rfl) (by decide) (by unfold maxLen;omega) (by omega) (by simp;omega) (w2.heap.size+1) (by simp) ?_;intro g' cap' w3 hown' hgrow3 hat3 _;obtain⟨cg3,fg3,hL3⟩:=HM.out.push hown' hgrow3 hat3;have HL3:=(show Hid _ from hL3);clear hL3))
      go_roundw
      case rel=>exact⟨_,_,_,_,_,_,HL3⟩
      case measure=>rw [HL3.out.m,hm0];simp;omega
theorem jA:∀n:Nat,DatSaid n
 | 0=>by intro w b L all l dp de g hR hT hsuf hl hall hdel hde hsz x hx;obtain rfl:=List.eq_nil_of_length_eq_zero (Nat.le_zero.1 hl);subst hx;exact fV 0 w b L all dp de g hR hT
 | n+1=>by
  intro w b L all l dp de g hR hT hsuf hl hall hdel hde hsz x hx;subst hx
  cases l with
  | nil=>exact fV (n+1) w b L all dp de g hR hT
  | cons t r =>
   by_cases h40:t=[40]
   ·subst h40;exact kH n (jA n) w b L all r dp de g hR hT hsuf hl hall hdel hde hsz
   by_cases h39:t=[39]
   ·subst h39;exact i8 n (jA n) w b L all r dp de g hR hT hsuf hl hall hdel hde hsz
   ·exact kI n w b L all t r dp de g hR hT hsuf hall hsz hde h40 h39
theorem jP(k:Nat)(hk:k<7)(t l:List UInt8)(hl:Pl.kws[k]'hk=l)(h:(l==t)=true):true=kwB t:=by
 have:l=t:=by simpa using h
 subst this;exact((Pl.kwB_sound _).2 (hl▸List.getElem_mem _)).symm
theorem fK(k:Nat)(hk:k<7)(t l:List UInt8)(hl:Pl.kws[k]'hk=l)(hn:t∉Pl.kws.take k)(h:(l==t)=false):t∉Pl.kws.take (k+1) :=Pl.take_step Pl.kws t k hk hn (by rw [hl];simpa using h)
theorem aR(t:List UInt8)(w:World) :Calls prog 162 #[.string ⟨t.toArray⟩] w fun e w'=>e=.returned (.bool (kwB t))/\Below w.heap.size w w':=by
 go_enter func162,ntmps162
 go_wp2_with fail
 go_loopw [4] (fun i wr=>∃k:Nat,k<=7/\i=.int .i64 k/\wr=w.alloc (.cells #[.string ⟨#[113,117,111,116,101]⟩,.string ⟨#[105,102]⟩,.string ⟨#[108,97,109,98,100,97]⟩,.string ⟨#[115,101,116,33]⟩,.string ⟨#[100,101,102,105,110,101]⟩,.string ⟨#[98,101,103,105,110]⟩,.string ⟨#[108,101,116]⟩] 9)/\Hid (t∉Pl.kws.take k)) (fun i _=>7-(intOf i).toNat)
 case atStart=>exact⟨0,Nat.zero_le _,rfl,rfl,by simp [Hid]⟩
 case round =>
  obtain⟨k,hk,rfl,rfl,HA⟩:=hrel;rcases(show k=0\/k=1\/k=2\/k=3\/k=4\/k=5\/k=6\/k=7 from by omega) with rfl | rfl | rfl | rfl | rfl | rfl | rfl | rfl
  ·go_wp2_with fail
   ·go_ret;exact⟨aP (jP 0 (by decide) t _ rfl (by assumption)),(Below.refl _ _).alloc (Nat.le_refl _) _⟩
   ·exact⟨⟨0+1,by omega,by go_num,trivial,fK 0 (by decide) t _ rfl HA.out (by assumption)⟩,by simp [intOf]⟩
  ·go_wp2_with fail
   ·go_ret;exact⟨aP (jP 1 (by decide) t _ rfl (by assumption)),(Below.refl _ _).alloc (Nat.le_refl _) _⟩
   ·exact⟨⟨1+1,by omega,by go_num,trivial,fK 1 (by decide) t _ rfl HA.out (by assumption)⟩,by simp [intOf]⟩
  ·go_wp2_with fail
   ·go_ret;exact⟨aP (jP 2 (by decide) t _ rfl (by assumption)),(Below.refl _ _).alloc (Nat.le_refl _) _⟩
   ·exact⟨⟨2+1,by omega,by go_num,trivial,fK 2 (by decide) t _ rfl HA.out (by assumption)⟩,by simp [intOf]⟩
  ·go_wp2_with fail
   ·go_ret;exact⟨aP (jP 3 (by decide) t _ rfl (by assumption)),(Below.refl _ _).alloc (Nat.le_refl _) _⟩
   ·exact⟨⟨3+1,by omega,by go_num,trivial,fK 3 (by decide) t _ rfl HA.out (by assumption)⟩,by simp [intOf]⟩
  ·go_wp2_with fail
   ·go_ret;exact⟨aP (jP 4 (by decide) t _ rfl (by assumption)),(Below.refl _ _).alloc (Nat.le_refl _) _⟩
   ·exact⟨⟨4+1,by omega,by go_num,trivial,fK 4 (by decide) t _ rfl HA.out (by assumption)⟩,by simp [intOf]⟩
  ·go_wp2_with fail
   ·go_ret;exact⟨aP (jP 5 (by decide) t _ rfl (by assumption)),(Below.refl _ _).alloc (Nat.le_refl _) _⟩
   ·exact⟨⟨5+1,by omega,by go_num,trivial,fK 5 (by decide) t _ rfl HA.out (by assumption)⟩,by simp [intOf]⟩
  ·go_wp2_with fail
   ·go_ret;exact⟨aP (jP 6 (by decide) t _ rfl (by assumption)),(Below.refl _ _).alloc (Nat.le_refl _) _⟩
   ·exact⟨⟨6+1,by omega,by go_num,trivial,fK 6 (by decide) t _ rfl HA.out (by assumption)⟩,by simp [intOf]⟩
  ·go_wp2_with fail
   go_ret;exact⟨aP (by have:=HA.out;simp only [kwB];symm;rw [decide_eq_false_iff_not];exact this),(Below.refl _ _).alloc (Nat.le_refl _) _⟩
def gF:Tr->Value
 | .lit (.int _ _)=>kNum
 | .lit (.bool _)=>kTru
 | .lit (.string _)=>kNam
 | _=>s6
theorem RepR.open_{t:Tr}(h:RepR ok n w v t) :∃(b:Nat)(N:Int)(kids:Value),v=.pointer (some ⟨b,0,none⟩)/\w.heap[b]?=some (.cells #[gF t,.int .i64 N,eB (Pl.strOf t),kids] TD (0,0)):=by
 cases n with
 | zero=>exact h.elim
 | succ n =>
  obtain⟨b,hv,_,h⟩:=h
  match t,h with
  | .lit (.int _ m),⟨k,h1,_⟩=>exact⟨b,k,_,hv,h1⟩
  | .lit (.bool x),h=>exact⟨b,_,_,hv,h⟩
  | .lit (.string s),h=>exact⟨b,_,_,hv,h⟩
  | .agg ts,⟨kids,vs,h1,_⟩=>exact⟨b,_,kids,hv,h1⟩
theorem pK(t:Tr)(h:RepR ok n w v t):(gF t=kNam/\isName t=!kwB (Pl.strOf t))\/((gF t=kNum\/gF t=kTru\/gF t=s6)/\isName t=false):=by
 cases n with
 | zero=>exact h.elim
 | succ n =>
  obtain⟨b,hv,_,h⟩:=h
  match t,h with
  | .lit (.int _ m),h=>exact .inr ⟨.inl rfl,rfl⟩
  | .lit (.bool x),h=>exact .inr ⟨.inr (.inl rfl),rfl⟩
  | .lit (.string s),h=>exact .inl ⟨rfl,rfl⟩
  | .agg ts,h=>exact .inr ⟨.inr (.inr rfl),rfl⟩
theorem aV(ok:Nat->Prop)(n:Nat)(w:World)(v:Value)(t:Tr)(h:RepR ok n w v t) :Calls prog 161 #[v] w fun e w'=>e=.returned (.bool (isName t))/\Below w.heap.size w w':=by
 have hk:=pK t h;obtain⟨b,N,kids,rfl,hb⟩:=h.open_;clear h;have c2:w.cell? ⟨b,2,none⟩=some (.string ⟨(Pl.strOf t).toArray⟩):=aA hb 2;go_enter func161,ntmps161;go_wp2_with fail;refine(aR (Pl.strOf t) _).mono ?_;rintro e w' ⟨rfl,hB⟩;have hb':w'.heap[b]?=some (.cells #[gF t,.int .i64 N,eB (Pl.strOf t),kids] TD (0,0)):=(hB.block b (aB hb)).trans hb;have HB:Hid (Below w.heap.size w w'):=hB;have c0:w'.cell? ⟨b,0,none⟩=some (gF t):=aA hb' 0;clear hB hb' hb c2;rcases hk with⟨h1,h2⟩ | ⟨h1 | h1 | h1,h2⟩<;>(rw [h1] at c0;have H2:=(show Hid (isName t=_) from h2))
 ·unfold kNam at c0;clear h1 h2;go_wp2_with fail;go_ret;exact⟨aP (by rw [H2.out]),HB.out⟩
 ·unfold kNum at c0;clear h1 h2;go_wp2_with fail;go_ret;exact⟨aP (by rw [H2.out]),HB.out⟩
 ·unfold kTru at c0;clear h1 h2;go_wp2_with fail;go_ret;exact⟨aP (by rw [H2.out]),HB.out⟩
 ·unfold s6 at c0;clear h1 h2;go_wp2_with fail;go_ret;exact⟨aP (by rw [H2.out]),HB.out⟩
def TF:TypeId:=69
theorem Tryz.infoPF:(prog.info? 69).map (fun i=>(i.zero,i.size,i.bytes))=some (some (.pointer none),1,8):=by kernel_rfl
def SlOf(w:World)(v:Value)(vs:List Value):Prop :=∃ao cap,v=.slice ao vs.length cap/\vs.length<=cap/\∀(i:Nat)(u:Value),vs[i]?=some u->∃g off,ao=some ⟨g,off,none⟩/\g<w.heap.size/\w.cell? ⟨g,off+i,none⟩=some u
theorem bC{base:Nat}{e:TypeId}(h:w.ownsRow base e 1 v n vs):SlOf w v vs:=by
 have hl:=h.1;rcases h.2 with⟨hv,h0⟩ | ⟨g,cap,cur,hv,_,hg,hc,_,_,ht⟩
 ·subst h0;have:vs=[]:=List.eq_nil_of_length_eq_zero (by omega);subst this;exact⟨none,0,hv,Nat.le_refl _,fun i u hu=>by simp at hu⟩
 ·have e:vs.length=n:=by omega
  refine⟨some ⟨g,0,none⟩,cap,by rw [e];exact hv,by omega,fun i u hu=>⟨g,0,rfl,aB hg,?_⟩⟩;have:=h.cells (g:=g) (by rw [hv];rfl) i u hu
  rwa [Addr.add_lit] at this
def AllR(n:Nat)(w:World)(vs:List Value)(ts:List Tr):Prop:=vs.length=ts.length/\∃ok,∀(i:Nat)(u:Value)(x:Tr),vs[i]?=some u->ts[i]?=some x->RepR ok n w u x
theorem eA{f:Tr->Bool}{ts:List Tr}{x:Tr}(h:(ts.take k).all f=true)(hx:ts[k]?=some x)(hf:f x=true):(ts.take (k+1)).all f=true:=by rw [List.take_add_one,hx,List.all_append,h];simp [hf]
theorem gJ{f:Tr->Bool}{ts:List Tr}{x:Tr}(hx:ts[k]?=some x)(hf:f x=false):ts.all f=false:=by rw [List.all_eq_false];exact⟨x,List.mem_of_getElem? hx,by simp [hf]⟩
theorem bP{W w1:World}(hb:Below W.heap.size W w1):(∀b o,b<W.heap.size->w1.cell? ⟨b,o,none⟩=W.cell? ⟨b,o,none⟩)/\(∀b o,b<W.heap.size->w1.frozen? ⟨b,o,none⟩=W.frozen? ⟨b,o,none⟩) :=⟨fun b o h=>hb.cell (p:=⟨b,o,none⟩) h,fun b o h=>hb.frozen (p:=⟨b,o,none⟩) h⟩
theorem RepR.list{ts:List Tr}(h:RepR ok (n+1) w v (.agg ts)) :∃b kids vs,v=.pointer (some ⟨b,0,none⟩)/\b<w.heap.size/\w.cell? ⟨b,0,none⟩=some s6/\w.cell? ⟨b,3,none⟩=some kids/\SlOf w kids vs/\vs.length=ts.length/\∀(i:Nat)(u:Value)(x:Tr),vs[i]?=some u->ts[i]?=some x->RepR ok n w u x:=by obtain⟨b,hv,_,kids,vs,h1,_,h3,h4,_⟩:=h;refine⟨b,kids,vs,hv,aB h1,aA h1 0,aA h1 3,bC h3,by have:=h3.1;omega,h4⟩
theorem RepR.short{ts:List Tr}(h:RepR ok n w v (.agg ts)):ts.length<=1000:=by
 cases n with
 | zero=>exact h.elim
 | succ n=>obtain⟨_,_,_,_,_,_,_,_,_,h5⟩:=h;exact h5
theorem SlOf.cell0{us:List Value}(h:SlOf w v (u::us)):∃g off cap,v=.slice (some ⟨g,off,none⟩) (us.length+1) cap/\us.length+1<=cap/\g<w.heap.size/\w.cell? ⟨g,off,none⟩=some u/\∀(i:Nat)(x:Value),us[i]?=some x->w.cell? ⟨g,off+(i+1),none⟩=some x:=by obtain⟨ao,cap,rfl,hcap,hc⟩:=h;obtain⟨g,off,rfl,hg,h0⟩:=hc 0 u rfl;refine⟨g,off,cap,rfl,by simpa using hcap,hg,by simpa using h0,fun i x hx=>?_⟩;obtain⟨g2,off2,e,_,h1⟩:=hc (i+1) x (by simpa using hx);simp only [Option.some.injEq,Addr.mk.injEq,and_true] at e;obtain⟨rfl,rfl⟩:=e;exact h1
theorem RepR.cellS{t:Tr}(h:RepR ok n w v t):∃b,v=.pointer (some ⟨b,0,none⟩)/\b<w.heap.size/\w.cell? ⟨b,0,none⟩=some (gF t)/\w.cell? ⟨b,2,none⟩=some (.string ⟨(Pl.strOf t).toArray⟩):=by obtain⟨b,N,kids,hv,hb⟩:=h.open_;exact⟨b,hv,aB hb,aA hb 0,aA hb 2⟩
theorem RepR.later{t:Tr}(h:RepR ok n w v t)(hb:Below w.heap.size w w'):RepR ok n w' v t:=RepR.keep (KeepD.of_below hb) _ _ _ h
theorem bcellA{W w1:World}(hb:Below W.heap.size W w1):∀(ob:Obj) b o,b<W.heap.size->(w1.alloc ob).cell? ⟨b,o,none⟩=W.cell? ⟨b,o,none⟩ :=fun ob b o h=>(hb.alloc hb.size ob).cell (p:=⟨b,o,none⟩) h
theorem kY{a b:World}{B:Nat}(h:Below B a b):Below B a b.drew:=h.drew
theorem mR{base:Nat}(h:w.ownsRow base 9 1 v k (nm.map eB)) :∃ao cap,v=.slice ao k cap/\k<=cap/\∀(i:Nat)(t:List UInt8),nm[i]?=some t->∃g,ao=some ⟨g,0,none⟩/\w.cell? ⟨g,i,none⟩=some (.string ⟨t.toArray⟩):=by
 have hl:=h.1;rw [List.length_map] at hl;rcases h.2 with⟨hv,h0⟩ | ⟨g,cap,cur,hv,_,hg,hc,_,_,ht⟩
 ·subst h0;have:nm=[]:=List.eq_nil_of_length_eq_zero (by omega);subst this;exact⟨none,0,hv,Nat.le_refl _,fun i t hi=>by simp at hi⟩
 ·refine⟨some ⟨g,0,none⟩,cap,hv,hc,fun i t hi=>⟨g,rfl,?_⟩⟩;have hx:(nm.map eB)[i]?=some (eB t):=by rw [List.getElem?_map,hi];rfl
  have:=h.cells (g:=g) (by rw [hv];rfl) i (eB t) hx
  rwa [show(⟨g,0,none⟩:Addr).add i=⟨g,i,none⟩ from by rw [Addr.add_lit,Nat.zero_add]] at this
def Seen(ts:List Tr)(k:Nat)(nm:List (List UInt8)):Prop:=nm=(ts.take k).map Pl.strOf/\(ts.take k).all isName=true/\nm.Nodup
theorem Seen.start(ts:List Tr):Seen ts 0 []:=⟨by simp,by simp,List.nodup_nil⟩
theorem Seen.more{ts:List Tr}{x:Tr}(h:Seen ts k nm)(hx:ts[k]?=some x)(hn:isName x=true)(hm:Pl.strOf x∉nm):Seen ts (k+1) (nm++[Pl.strOf x]):=by
 refine⟨?_,eA h.2.1 hx hn,?_⟩
 ·rw [List.take_add_one,hx,h.1];simp
 ·rw [List.nodup_append];refine⟨h.2.2,by simp,?_⟩;intro a ha b hb e;simp only [List.mem_singleton] at hb;subst hb e;exact hm ha
theorem Seen.done{ts:List Tr}(h:Seen ts k nm)(hk:ts.length<=k):Pl.namesOk ts=true:=by obtain⟨h1,h2,h3⟩:=h;rw [List.take_of_length_le hk] at h1 h2;unfold Pl.namesOk;rw [h2,<-h1];simpa using h3
theorem Seen.bad{ts:List Tr}{x:Tr}(hx:ts[k]?=some x)(hn:isName x=false):Pl.namesOk ts=false:=by unfold Pl.namesOk;rw [gJ hx hn];rfl
theorem Seen.twice{ts:List Tr}{x:Tr}(h:Seen ts k nm)(hx:ts[k]?=some x){j:Nat}{t:List UInt8}(hj:nm[j]?=some t)(he:t=Pl.strOf x):Pl.namesOk ts=false:=by
 have hjk:j<k:=by have:=(List.getElem?_eq_some_iff.1 hj).1;rw [h.1,List.length_map,List.length_take] at this;omega
 have hd:¬(ts.map Pl.strOf).Nodup:=by
  intro hd;have e1:(ts.map Pl.strOf)[j]?=some t:=by rw [h.1,List.getElem?_map,List.getElem?_take] at hj;rw [List.getElem?_map];simpa [hjk] using hj
  have e2:(ts.map Pl.strOf)[k]?=some t:=by rw [List.getElem?_map,hx,he];rfl
  have hjl:=(List.getElem?_eq_some_iff.1 e1).1;have:=(List.getElem?_inj hjl hd).1 (e1.trans e2.symm);omega
 unfold Pl.namesOk;rw [Bool.and_eq_false_iff];right;simpa using hd
theorem vO{t:List UInt8}(h:∀(j:Nat)(x:List UInt8),nm[j]?=some x->¬x=t):t∉nm:=by intro hm;obtain⟨j,hj⟩:=List.mem_iff_getElem?.1 hm;exact h j t hj rfl
structure LetInv(w wr:World)(G a b:Nat)(kn vv:Value)(nvs vvs:List Value):Prop where
 below:Below w.heap.size w wr
 out:wr.heap[G]?=some (.cells #[s6,.int .i64 0,tI,kn] TD (0,0))
 nrow:wr.ownsRow (G+1) TP 1 kn a nvs
 vrow:wr.ownsRow (G+1) TP 1 vv b vvs
 apart:∀r,kn.ownBlock=some r->vv.ownBlock≠some r
 sizeG:w.heap.size<=G
theorem LetInv.start(o:Obj)(ho:o=.cells #[s6,.int .i64 0,tI,.slice none 0 0] TD (0,0)):LetInv w (w.alloc o) w.heap.size 0 0 (.slice none 0 0) (.slice none 0 0) [] [] where
 below:=(Below.refl _ _).alloc (Nat.le_refl _) o
 out:=by rw [cB rfl,ho]
 nrow:=World.ownsRow_nil _ _ _ _
 vrow:=World.ownsRow_nil _ _ _ _
 apart:=fun r h=>by simp [Value.ownBlock] at h
 sizeG:=Nat.le_refl _
theorem l9{a b:World}{row:Option Nat}(h:a.drew.grownBy b row):a.grownBy b row:=⟨h.os,h.tape,h.output,h.size,h.block⟩
theorem LetInv.pushN{w3:World}(h:LetInv w wr G a b kn vv nvs vvs){o:Obj}{g' cap':Nat}
  (hown:w3.ownsRow (G+1) TP 1 (.slice (some ⟨g',0,none⟩) (a+1) cap') (a+1) (nvs++[u])) (hg:(wr.alloc o).grownBy w3 kn.ownBlock) (hat:kn.ownBlock=some g'\/g'=wr.heap.size+1) :
  LetInv w (w3.setCell ⟨G,3,none⟩ (.slice (some ⟨g',0,none⟩) (a+1) cap')) G (a+1) b (.slice (some ⟨g',0,none⟩) (a+1) cap') vv (nvs++[u]) vvs:=by
 have hltG:G<wr.heap.size:=aB h.out;have hsG:=h.sizeG;have hrl:=h.nrow.lt;have hneG:some G≠kn.ownBlock:=fun e=>by have:=(hrl G e.symm).1;omega
 have hob:∀k,k<wr.heap.size->some k≠kn.ownBlock->w3.heap[k]?=wr.heap[k]? := fun k hk hne=>(hg.block k (by simp;omega) hne).trans (Below.heap_alloc _ _ _ hk);have hout3:w3.heap[G]?=some (.cells #[s6,.int .i64 0,tI,kn] TD (0,0)):=(hob G hltG hneG).trans h.out;have hblk:∀(v:Value) k,k≠G->(w3.setCell ⟨G,3,none⟩ v).heap[k]?=w3.heap[k]? := fun v k hk=>Below.heap_setCell _ _ _ _ hk;refine⟨?_,?_,ownsRow_setCell_below hown (by show G<G+1;omega) _,?_,?_,hsG⟩
 ·refine(((h.below.alloc h.below.size o).grown hg ?_ ?_).setCell ?_ _)
  ·have:=h.below.size;simp;omega
  ·intro k hk;have:=(hrl k hk).1;omega
  ·exact hsG
 ·rw [aD hout3 3 _];rfl
 ·refine ownsRow_setCell_below ?_ (by show G<G+1;omega) _;refine⟨h.vrow.1,?_⟩;rcases h.vrow.2 with hn | ⟨x,cap,cur,hv,h0,hx,rest⟩
  ·exact .inl hn
  ·refine .inr ⟨x,cap,cur,hv,h0,?_,rest⟩;rw [hob x (aB hx) (fun e=>h.apart x e.symm (by rw [hv];rfl))];exact hx
 ·intro r hr;simp only [Value.ownBlock,Option.some.injEq] at hr;subst hr;rcases hat with h1 | h1
  ·exact h.apart _ h1
  ·intro e;have:=(h.vrow.lt _ e).2;omega
theorem LetInv.pushV{w3:World}(h:LetInv w wr G a b kn vv nvs vvs){o:Obj}{g' cap':Nat}
  (hown:w3.ownsRow (G+1) TP 1 (.slice (some ⟨g',0,none⟩) (b+1) cap') (b+1) (vvs++[u])) (hg:(wr.alloc o).grownBy w3 vv.ownBlock) (hat:vv.ownBlock=some g'\/g'=wr.heap.size+1) :
  LetInv w w3 G a (b+1) kn (.slice (some ⟨g',0,none⟩) (b+1) cap') nvs (vvs++[u]):=by
 have hltG:G<wr.heap.size:=aB h.out;have hsG:=h.sizeG;have hrl:=h.vrow.lt;have hob:∀k,k<wr.heap.size->some k≠vv.ownBlock->w3.heap[k]?=wr.heap[k]? := fun k hk hne=>(hg.block k (by simp;omega) hne).trans (Below.heap_alloc _ _ _ hk);refine⟨?_,?_,?_,hown,?_,hsG⟩
 ·refine(h.below.alloc h.below.size o).grown hg ?_ ?_
  ·have:=h.below.size;simp;omega
  ·intro k hk;have:=(hrl k hk).1;omega
 ·exact(hob G hltG (fun e=>by have:=(hrl G e.symm).1;omega)).trans h.out
 ·refine⟨h.nrow.1,?_⟩;rcases h.nrow.2 with hn | ⟨x,cap,cur,hv,h0,hx,rest⟩
  ·exact .inl hn
  ·refine .inr ⟨x,cap,cur,hv,h0,?_,rest⟩;rw [hob x (aB hx) (fun e=>h.apart x (by rw [hv];rfl) e.symm)];exact hx
 ·intro r hr e;simp only [Value.ownBlock,Option.some.injEq] at e;subst e;rcases hat with h1 | h1
  ·exact h.apart _ hr h1
  ·have:=(h.nrow.lt _ hr).2;omega
def ChR(ok:Nat->Prop)(m:Nat)(w:World)(vs:List Value)(xs:List Tr):Prop:=vs.length=xs.length/\∀(i:Nat)(u:Value)(x:Tr),vs[i]?=some u->xs[i]?=some x->RepR ok m w u x
theorem ChR.nil(ok:Nat->Prop)(m:Nat)(w:World):ChR ok m w [] []:=⟨rfl,fun i u x hu=>by simp at hu⟩
theorem ChR.snoc{xs:List Tr}{x:Tr}(h:ChR ok m w vs xs)(hr:RepR ok m w u x):ChR ok m w (vs++[u]) (xs++[x]):=by
 refine⟨by simp [h.1],fun i u' x' hu hx=>?_⟩;have hl:=h.1;by_cases hi:i<vs.length
 ·rw [List.getElem?_append_left hi] at hu;rw [List.getElem?_append_left (by omega)] at hx;exact h.2 i u' x' hu hx
 ·have e:i=vs.length:=by
   have:=(List.getElem?_eq_some_iff.1 hu).1;simp at this;omega
  subst e;rw [List.getElem?_append_right (Nat.le_refl _)] at hu;rw [List.getElem?_append_right (by omega)] at hx;have e2:vs.length-xs.length=0:=by omega
  rw [e2] at hx;simp at hu hx;subst hu hx;exact hr
theorem ChR.later{xs:List Tr}(h:ChR ok m w vs xs)(hb:Below w.heap.size w w'):ChR ok m w' vs xs:=⟨h.1,fun i u x hu hx=>(h.2 i u x hu hx).later hb⟩
theorem ChR.all{xs:List Tr}(h:ChR ok m w vs xs)(hn:m<=n):AllR n w vs xs:=⟨h.1,ok,fun i u x hu hx=>RepR.up m n u x hn (h.2 i u x hu hx)⟩
theorem LetInv.names(h:LetInv w wr G a b kn vv nvs vvs){xs:List Tr}(hc:ChR ok m w nvs xs)(ha:xs.length=a)(hl:xs.length<=1000):RepR (fun _=>True) (m+1) wr (.pointer (some ⟨G,0,none⟩)) (.agg xs):=by
 refine⟨G,rfl,trivial,kn,nvs,h.out,fun _ _=>trivial,?_,?_,hl⟩
 ·rw [ha];exact⟨h.nrow.1,h.nrow.2.imp id (fun⟨g,cap,cur,a,b,c⟩=>⟨g,cap,cur,a,Nat.zero_le _,c⟩)⟩
 ·intro i u x hu hx;exact RepR.mono (fun _ _ _=>trivial) _ _ _ ((hc.2 i u x hu hx).later h.below)
theorem RepR.notList{t:Tr}(h:RepR ok n w v t)(hls:¬∃ts,t=.agg ts):∃kk:List UInt8,gF t=.string ⟨kk.toArray⟩/\(kk==[108,105,115,116])=false:=by
 cases n with
 | zero=>exact h.elim
 | succ m =>
  obtain⟨_,_,_,hh⟩:=h
  match t,hh with
  | .lit (.int _ _),_=>exact⟨[110,117,109,98,101,114],rfl,by decide⟩
  | .lit (.bool _),_=>exact⟨[116,114,117,116,104],rfl,by decide⟩
  | .lit (.string _),_=>exact⟨[110,97,109,101],rfl,by decide⟩
  | .agg ts,_=>exact absurd ⟨ts,rfl⟩ hls
theorem c8{α:Type}(f:Tr->α){ts:List Tr}{x:Tr}(hx:ts[k]?=some x):(ts.take (k+1)).map f=(ts.take k).map f++[f x]:=by rw [List.take_add_one,hx];simp
theorem lZ(w:World)(e:TypeId)(u:Value):(w.alloc (.cells #[u] e)).ownsRow w.heap.size e 1 (.slice (some ⟨w.heap.size,0,none⟩) 1 1) 1 [u] :=⟨rfl,.inr ⟨w.heap.size,1,#[u],rfl,Nat.le_refl _,heap_alloc_new _ _,Nat.le_refl _,by unfold maxLen;omega,rfl,rfl⟩⟩
theorem SlOf.tail{g off cap L:Nat}{us:List Value}(h:SlOf w (.slice (some ⟨g,off,none⟩) L cap) (u::us))(m:Nat)(hm:us.length=m)(ao:Option Addr)(c:Nat)(hc:m<=c)(ha:m≠0->ao=some ⟨g,off+1,none⟩):SlOf w (.slice ao m c) us:=by
 obtain⟨g',off',cap',e,_,hg,_,hs⟩:=h.cell0;simp only [Value.slice.injEq,Option.some.injEq,Addr.mk.injEq,and_true] at e;obtain⟨⟨rfl,rfl⟩,_,rfl⟩:=e;subst hm;refine⟨ao,c,rfl,hc,fun i x hx=>⟨g,off+1,ha (by rintro h0;have:=List.eq_nil_of_length_eq_zero h0;subst this;simp at hx),hg,?_⟩⟩;have:=hs i x hx
 rwa [show off+1+i=off+(i+1) from by omega]
theorem RepR.kinds{t:Tr}(h:RepR ok n w v t):(∃k m,t=.lit (.int k m))\/(∃x,t=.lit (.bool x))\/(∃s,t=.lit (.string s))\/∃ts,t=.agg ts:=by
 cases n with
 | zero=>exact h.elim
 | succ n =>
  obtain⟨_,_,_,hh⟩:=h
  match t,hh with
  | .lit (.int k m),_=>exact .inl ⟨k,m,rfl⟩
  | .lit (.bool x),_=>exact .inr (.inl ⟨x,rfl⟩)
  | .lit (.string s),_=>exact .inr (.inr (.inl ⟨s,rfl⟩))
  | .agg ts,_=>exact .inr (.inr (.inr ⟨ts,rfl⟩))
theorem RepR.cons{k:Tr}{r:List Tr}(h:RepR ok (n+1) w v (.agg (k::r))) :∃b g off cap u0 us,v=.pointer (some ⟨b,0,none⟩)/\b<w.heap.size/\w.cell? ⟨b,0,none⟩=some (.string ⟨#[108,105,115,116]⟩)/\w.cell? ⟨b,3,none⟩=some (.slice (some ⟨g,off,none⟩) (r.length+1) cap)/\r.length+1<=cap/\g<w.heap.size/\w.cell? ⟨g,off,none⟩=some u0 /\
   SlOf w (.slice (some ⟨g,off,none⟩) (r.length+1) cap) (u0::us)/\us.length=r.length/\RepR ok n w u0 k/\AllR n w (u0::us) (k::r)/\AllR n w us r:=by
 obtain⟨b,kids,vs,rfl,hb,ck,c3,hS,hl,hA⟩:=h.list
 match vs,hl with
 | u0::us,hl =>
  obtain⟨g,off,cap,rfl,hcap,hg,k0,_⟩:=hS.cell0;have hlr:us.length=r.length:=by simpa using hl
  rw [hlr] at hS c3 hcap;exact⟨b,g,off,cap,u0,us,rfl,hb,ck,c3,hcap,hg,k0,hS,hlr,hA 0 u0 k rfl rfl,⟨hl,ok,hA⟩,⟨hlr,ok,fun i u x hu hx=>hA (i+1) u x (by simpa using hu) (by simpa using hx)⟩⟩
theorem SlOf.later(h:SlOf w v vs)(hb:Below w.heap.size w w'):SlOf w' v vs:=by obtain⟨ao,cap,e,hc,hx⟩:=h;refine⟨ao,cap,e,hc,fun i u hu=>?_⟩;obtain⟨g,off,ea,hg,hcell⟩:=hx i u hu;exact⟨g,off,ea,Nat.lt_of_lt_of_le hg hb.size,(hb.cell (p:=⟨g,off+i,none⟩) hg).trans hcell⟩
theorem AllR.later{ts:List Tr}(h:AllR n w vs ts)(hb:Below w.heap.size w w'):AllR n w' vs ts:=by obtain⟨hl,ok,hx⟩:=h;exact⟨hl,ok,fun i u x hu hx'=>(hx i u x hu hx').later hb⟩
theorem kf(n:Nat)(h:List UInt8)(r:List Tr)(hk:kwB h=true):isForm (n+1) (.agg (.lit (.string h)::r))=Pl.keyForm (isForm n) h r:=by
 show Pl.listForm (isForm n) (.lit (.string h)::r)=_;unfold Pl.listForm;dsimp only;have:Pl.headKw (.lit (.string h)::r)=some h:=by unfold Pl.headKw;simp [hk]
 rw [this]
theorem pO{k:Tr}{r:List Tr}{h:List UInt8}(hk:Pl.headKw (k::r)=some h):k=.lit (.string h)/\kwB h=true:=by
 unfold Pl.headKw at hk;split at hk
 ·split at hk
  ·rename_i h1 e h2;simp only [List.cons.injEq] at e;simp only [Option.some.injEq] at hk;subst hk;exact⟨e.1,h2⟩
  ·simp at hk
 ·simp at hk
end
end Go.Proofs.YtkgbdddkcjpgfaaGreatDoor
