import Derived.Test.YtkgbdddkcjpgfaaGreatDoorS27
namespace Go.Proofs.YtkgbdddkcjpgfaaGreatDoor
set_option maxHeartbeats 8000000
set_option maxRecDepth 100000
open Go.Proofs.Tryz
open Pl (PV PW PS SR Byt arity prims applyB callccW)
section
open Go.RowKit
theorem got_new{M:Nat->Prop}{w X:World}{x:PV}(hX:X.heap[w.heap.size]?=some (.cells #[byV (vK x),.int .i64 (vN x),byV (vS x)] TV (0,0)))(hm:¬M w.heap.size):GotAt M X (.slice (some ⟨w.heap.size,0,none⟩) 1 1) [x]:=by refine⟨rfl,_,_,rfl,Nat.le_refl _,.inr ⟨_,0,_,rfl,hm,hX,fun i u hu=>?_⟩⟩;rw [Nat.zero_add];simpa [cZ] using hu
def ApplySaid(wb xb:Nat)(W:PW)(S:PS)(f:PV)(l:List PV)(r:SR):Prop:=∀(w:World)(M:Nat->Prop)(av:Value),RW w wb M W->RS M w xb S->Gs w (Mx M xb)->GotAt M w av l ->
 Calls prog 131 #[.pointer (some ⟨wb,0,none⟩),.pointer (some ⟨xb,0,none⟩),bT f,av] w fun e w'=>Res M w wb xb r e w'
theorem rY(w:World)(wb xb:Nat)(M:Nat->Prop)(W:PW)(S:PS)(s:Byt)(av:Value)(l:List PV)(r:SR)(hs:s=callccW)(hr:¬l.length=1->r=⟨10,W,S⟩)(hA:∀a,l=[a]->ApplySaid wb xb (W.keep S) S a [.cont W.conts.length] r)(hW:RW w wb M W)(hS:RS M w xb S)(hG:Gs w (Mx M xb))(ha:GotAt M w av l)(hll:l.length<=1000)(hcl:W.conts.length<=1000000000) :Calls prog 175 #[.pointer (some ⟨wb,0,none⟩),.pointer (some ⟨xb,0,none⟩),.string ⟨s.toArray⟩,av] w fun e w'=>Res M w wb xb r e w':=by
 obtain⟨i0,hi0,hz0,hz1,hz2⟩:=info_parts Tryz.infoFrP;have HBA:Hid (Below w.heap.size w ((w.alloc aJ).alloc aH)):=((Below.refl _ _).alloc (Nat.le_refl _) _).alloc (by simp) _;have HWA:Hid (RW ((w.alloc aJ).alloc aH) wb M W):=hW.later HBA.out;have HSA:Hid (RS M ((w.alloc aJ).alloc aH) xb S):=hS.later hW HBA.out;have HAA:Hid (GotAt M ((w.alloc aJ).alloc aH) av l):=ha.stp (Stp.of_below HBA.out);have HGA:Hid (Gs ((w.alloc aJ).alloc aH) (Mx M xb)):=hG.below HBA.out;have har:arity s=1:=by subst hs;rfl
 have HBad:Hid (¬l.length=arity s->r=⟨10,W,S⟩):=fun h=>hr (by rwa [har] at h);have HM:Hid (s∈prims):=show s∈prims from by subst hs;decide
 have HN:Hid _:=hs;have HAp:Hid _:=hA;obtain⟨ao,cap,rfl,hcap⟩:=ha.shape;clear hs hr hA hW hS hG ha har;go_enter func175,ntmps175;go_wp2_with fail;refine(bQ _).mono ?_;rintro e w' ⟨rfl,rfl⟩;unfold aJ aH;go_wp2_with fail
 go_loopw [11] (fun i wr=>∃k:Nat,k<=13/\i=.int .i64 k/\wr=(w.alloc aJ).alloc aH/\Hid (ArOk s l.length k)) (fun i _=>13-(intOf i).toNat)
 case atStart=>exact⟨0,Nat.zero_le _,rfl,rfl,ArOk.start _ _⟩
 case round =>
  obtain⟨k,hk,rfl,rfl,HA⟩:=hrel;rcases(show k<13\/k=13 from by omega) with h13 | rfl
  ·unfold aJ aH at *;by_cases hq:prims[k]'h13=s
   ·have hqb:(aW k==s)=true:=by rw [beq_iff_eq,<-bR k h13];exact hq
    by_cases hn:iE[k]'h13=l.length
    ·have HA2:Hid (ArOk s l.length (k+1)):=HA.out.next h13 (fun _=>hn);have hnb:=oD h13 hn;clear hq hn HA;clear hk;rcases(show k=0\/k=1\/k=2\/k=3\/k=4\/k=5\/k=6\/k=7\/k=8\/k=9\/k=10\/k=11\/k=12 from by omega) with rfl | rfl | rfl | rfl | rfl | rfl | rfl | rfl | rfl | rfl | rfl | rfl | rfl
     all_goals
      simp only [aW,arI] at hqb hnb;go_wp2_with fail;exact⟨⟨_,by omega,by go_num,trivial,HA2⟩,by simp [intOf]⟩
    ·have HF:Hid (¬l.length=arity s):=ArOk.fail h13 hq hn;have hnb:=jW h13 hn;clear hq hn HA;clear hk;rcases(show k=0\/k=1\/k=2\/k=3\/k=4\/k=5\/k=6\/k=7\/k=8\/k=9\/k=10\/k=11\/k=12 from by omega) with rfl | rfl | rfl | rfl | rfl | rfl | rfl | rfl | rfl | rfl | rfl | rfl | rfl
     all_goals
      simp only [aW,arI] at hqb hnb;go_wp2_with fail;go_ret;rw [HBad.out HF.out];exact⟨rfl,M,HWA.out,(Stp.of_below HBA.out).mx xb,fun h=>by simp at h⟩
   ·have hqb:(aW k==s)=false:=by rw [beq_eq_false_iff_ne,<-bR k h13];exact hq
    have HA2:Hid (ArOk s l.length (k+1)):=HA.out.next h13 (fun e=>absurd e hq);clear hq HA;clear hk;rcases(show k=0\/k=1\/k=2\/k=3\/k=4\/k=5\/k=6\/k=7\/k=8\/k=9\/k=10\/k=11\/k=12 from by omega) with rfl | rfl | rfl | rfl | rfl | rfl | rfl | rfl | rfl | rfl | rfl | rfl | rfl
    all_goals
     simp only [aW] at hqb;go_wp2_with fail;exact⟨⟨_,by omega,by go_num,trivial,HA2⟩,by simp [intOf]⟩
  have hAr:l.length=arity s:=HA.out.done HM.out;have hne:=HN.out;clear HA hk HBad HM HN;generalize (w.alloc aJ).alloc aH=wA at *;subst hne;obtain⟨a,rfl⟩:=jK hAr;have HAp2:Hid (ApplySaid wb xb (W.keep S) S a [.cont W.conts.length] r):=HAp.out a rfl;obtain⟨g,off,cap',e',_,hgl,hgm,k0,k1,k2⟩:=aAD HAA.out;simp only [Value.slice.injEq] at e';obtain⟨rfl,_,rfl⟩:=e';have HGm:Hid (¬M g):=hgm;have HWs:=HWA.out;obtain⟨pv,qv,cv,lv,gv,qs,cs,hM,hws⟩:=HWs;have H:Hid _:=hws;have HMe:Hid _:=hM;obtain⟨fv,ev,x0,x1,x2,frv,hxb,s1,s2,s3⟩:=HSA.out;obtain⟨fpo,rfl⟩:=s3.ptr;have HFr:Hid _:=s3;have HXb:Hid _:=hxb;have hxl:=aB hxb;have hwb:=aB hws.blk;have c2:wA.cell? ⟨wb,2,none⟩=some cv:=aA hws.blk 2;have y5:wA.cell? ⟨xb,5,none⟩=some (.pointer fpo):=aA hxb 5;obtain⟨b1,_,_,_⟩:=bM (o:=2) hwb;have b5:=(bM (o:=5) hxl).1;clear hAr hgm hM hws hxb s1 s2 s3 HAp;unfold callccW
  go_upto_region 9 with fail
  go_cut [] (fun wx=>∃M1,Hid (RW wx wb M1 (W.keep S))/\Hid (Stp M wA M1 wx))
  case first =>
   go_region_law ((refine step_append_lies _ (by rfl) _ _ _ (by rfl) 0 172 i0 _ 1 8 underlying92 hi0 hz0 hz1 hz2 rfl (by omega) cv W.conts.length cs (by rfl) ((H.out.cn.alloc _).drew) ⟨wA.heap.size,0,none⟩ 1 1 [.pointer fpo] (by rfl) (by rfl) (World.news_of_block (cs:=#[.pointer fpo]) (t:=172) (fr:=(0,0)) (news1 wA _ _)) (by simp [Value.oneCell']) (by omega) (by unfold maxLen;omega) (by omega) (by simp) (wA.heap.size+1) (by simp) ?_;intro g3 cap3 w3 hown3 hgrow3 hat3 hlt3;obtain⟨k1,k2,k3⟩:=fD H.out.blk (cM wA _) hgrow3 (aN H.out.cn) (by decide) 2 cv rfl))
   all_goals
    obtain⟨q1,q2⟩:=H.out.conts_push (cM wA _) hgrow3 _ (.pointer fpo) S.frames hown3 (tH hat3 (by omega)) (by rw [<- HMe.out];exact HFr.out);go_wp2_with fail
    go_meet
    exact⟨_,⟨_,_,_,_,_,_,_,rfl,q1⟩,by rw [HMe.out];exact q2⟩
  case rest =>
   obtain⟨M1,HW1,HSt1⟩:=hcut;have HS1:Hid (RS M1 wc xb S):=HSA.out.stp HWA.out HSt1.out;have hbl:=(HSt1.out.block g hgl HGm.out)
   have j0:wc.cell? ⟨g,off,none⟩=some (.string ⟨(vK a).toArray⟩):=(World.cell?_of_block hbl.1).trans k0;have j1:wc.cell? ⟨g,off+1,none⟩=some (.int .i64 (vN a)):=(World.cell?_of_block hbl.1).trans k1;have j2:wc.cell? ⟨g,off+2,none⟩=some (.string ⟨(vS a).toArray⟩):=(World.cell?_of_block hbl.1).trans k2;obtain⟨pv1,qv1,cv1,lv1,gv1,qs1,cs1,hM1,hws1⟩:=HW1.out;have c2':wc.cell? ⟨wb,2,none⟩=some cv1:=aA hws1.blk 2;obtain⟨ca,ccap,rfl,hcc⟩:=dN hws1.cn;have hkl:(W.keep S).conts.length=W.conts.length+1:=by simp [Pl.PW.keep]
   rw [hkl] at c2' hcc;have hnew:¬M1 wc.heap.size:=fun hm=>by have:=HW1.out.lt hm;omega
   have HNew:Hid _:=hnew;have HNM:Hid (bT a=.agg #[.string ⟨(vK a).toArray⟩,.int .i64 (vN a),.string ⟨(vS a).toArray⟩]):=rfl;have hgc:g<wc.heap.size:=World.block_lt_of_cell? _ _ j0;have hwc:wb<wc.heap.size:=World.block_lt_of_cell? _ _ c2';have qA:∀(o:Obj)(k off:Nat),k<wc.heap.size->(wc.alloc o).cell? ⟨k,off,none⟩=wc.cell? ⟨k,off,none⟩:=fun o k off hk=>((Below.refl _ _).alloc (Nat.le_refl _) o).cell (p:=⟨k,off,none⟩) hk;have hwrap:IntKind.i64.wrap ((W.conts.length:Nat):Int)=(W.conts.length:Int):=IntWalk.i64_in _ (by omega);clear hM1 hws1 hbl k0 k1 k2 hnew c2 y5 b1 b5 hkl H HMe;generalize vK a=ka at *;generalize vN a=na at *;generalize vS a=sa at *;go_wp2_with fail;have T1:Hid (∀o,RW (wc.alloc o).drew wb M1 (W.keep S)):=fun o=>HW1.out.later (cM wc o);have T2:Hid (∀o,RS M1 (wc.alloc o).drew xb S):=fun o=>HS1.out.later HW1.out (cM wc o);have T3:Hid (∀o,Gs (wc.alloc o).drew (Mx M1 xb)):=fun o=>(HGA.out.stp (HSt1.out.mx xb)).below (cM wc o);have T4:Hid (GotAt M1 (wc.alloc (.cells #[.string ⟨#[99,111,110,116,105,110,117,97,116,105,111,110]⟩,.int .i64 W.conts.length,.string ⟨#[]⟩] 154)).drew (.slice (some ⟨wc.heap.size,0,none⟩) 1 1) [.cont W.conts.length]):=got_new (w:=wc) (x:=.cont W.conts.length) (news1 wc _ _) HNew.out;have t5:=HAp2.out _ M1 _ (T1.out _) (T2.out _) (T3.out _) T4.out;rw [HNM.out] at t5;have T5:Hid _:=t5;clear t5;go_region_with (go_at_call 131;refine Calls.mono T5.out ?_;rintro e w5 ⟨rfl,hr2⟩)
   all_goals
    have HR2:Hid _:=hr2;clear hr2;go_wp2_with fail;go_ret;obtain⟨M',z1,z2,z3⟩:=HR2.out;exact⟨rfl,M',z1,(((Stp.of_below HBA.out).mx xb).trans (HSt1.out.mx xb)).trans (((Stp.of_below (cM wc _)).mx xb).trans z2),z3⟩
structure Bd(W:PW):Prop where
 places:W.places.length<=100000000
 procs:∀p∈W.procs,p.2.length<=100000000
 conts:W.conts.length<=100000000
 globals:W.globals.length<=100000000
 procsL:W.procs.length<=100000000
theorem WfV.keep{W:PW}{S:PS}{v:PV}(h:WfV W v):WfV (W.keep S) v:=by
 cases v with
 | cont i=>simp only [WfV,Pl.PW.keep,List.length_append] at h ⊢;omega
 | _=>exact h
theorem WfP.keep{W:PW}{S:PS}(h:WfP W):WfP (W.keep S):=⟨h.acy,fun i p hp=>⟨(h.vals i p hp).1.keep,(h.vals i p hp).2.keep⟩,h.len⟩
theorem WfV.last{W:PW}{S:PS}:WfV (W.keep S) (.cont W.conts.length):=by simp [WfV,Pl.PW.keep]
theorem g9(w:World)(wb xb:Nat)(M:Nat->Prop)(W:PW)(S:PS)(av:Value)(l:List PV)(r:SR)(hr:¬l.length=1->r=⟨10,W,S⟩)(hA:∀a,l=[a]->ApplySaid wb xb (W.keep S) S a [.cont W.conts.length] r)(hW:RW w wb M W)(hS:RS M w xb S)(hG:Gs w (Mx M xb))(ha:GotAt M w av l)(hll:l.length<=1000)(hcl:W.conts.length<=1000000000) :Calls prog 131 #[.pointer (some ⟨wb,0,none⟩),.pointer (some ⟨xb,0,none⟩),bT (.prim callccW),av] w fun e w'=>Res M w wb xb r e w':=by have HBx:Hid (∀o:Obj,Below w.heap.size w (w.alloc o)):=fun o=>(Below.refl _ _).alloc (Nat.le_refl _) _;have HC:Hid (∀o:Obj,Calls prog 175 #[.pointer (some ⟨wb,0,none⟩),.pointer (some ⟨xb,0,none⟩),.string ⟨Pl.callccW.toArray⟩,av] (w.alloc o) fun e w'=>Res M (w.alloc o) wb xb r e w'):=fun o =>rY (w.alloc o) wb xb M W S _ av l r rfl hr hA (hW.later (HBx.out o)) (hS.later hW (HBx.out o)) (hG.below (HBx.out o)) (ha.stp (Stp.of_below (HBx.out o))) hll hcl;obtain⟨aa,acap,rfl,hac⟩:=ha.shape;clear hW hS hG ha hr hA;unfold bT byV vK vN vS pH;unfold callccW at HC ⊢;go_enter func131,ntmps131;go_wp2_with fail;refine(HC.out _).mono ?_;rintro e w1 hr;have HR:Hid _:=Res.pre (HBx.out _) hr;obtain⟨rfl,_⟩:=hr;go_wp2_with fail;go_ret;exact⟨rfl,HR.out.2⟩
theorem uF(hI:ItoaSaid)(w:World)(wb xb:Nat)(M:Nat->Prop)(W:PW)(S:PS)(f:PV)(av:Value)(l:List PV)(hW:RW w wb M W)(hS:RS M w xb S)(hG:Gs w (Mx M xb))(ha:GotAt M w av l)(hf:WfV W f)(hl:∀v∈l,WfV W v)(hP:WfP W)(hB:Bd W)(hll:l.length<=1000) :Calls prog 131 #[.pointer (some ⟨wb,0,none⟩),.pointer (some ⟨xb,0,none⟩),bT f,av] w fun e w'=>Res M w wb xb (Pl.apply W S f l) e w':=by
 have hbase:∀(W1:PW)(f1:PV)(l1:List PV),f1≠.prim callccW->WfV W1 f1->(∀v∈l1,WfV W1 v)->WfP W1->l1.length<=1000->W1.places=W.places->W1.procs=W.procs->ApplySaid wb xb W1 S f1 l1 (applyB W1 S f1 l1):=by intro W1 f1 l1 h1 h2 h3 h4 h5 h6 h7 w1 M1 av1 a1 a2 a3 a4;exact rZ hI w1 wb xb M1 W1 S f1 av1 l1 h1 a1 a2 a3 a4 h2 h3 h4 h5 (by rw [h6];exact hB.places) (by rw [h7];exact hB.procs)
 by_cases hc:f=.prim callccW
 ·subst hc;refine g9 w wb xb M W S av l _ ?_ ?_ hW hS hG ha hll (by have:=hB.conts;omega)
  ·intro hn;unfold Pl.apply;rw [if_pos rfl]
   match l,hn with
   | [],_=>rfl
   | _::_::_,_=>rfl
  ·rintro a rfl;by_cases ha2:a=.prim callccW
   ·subst ha2;have he:Pl.apply W S (.prim callccW) [.prim callccW]=applyB ((W.keep S).keep S) S (.cont W.conts.length) [.cont (W.conts.length+1)]:=by unfold Pl.apply;rw [if_pos rfl];dsimp only;rw [if_pos rfl]
    rw [he];intro w1 M1 av1 a1 a2 a3 a4;refine g9 w1 wb xb M1 (W.keep S) S av1 _ _ (fun h=>absurd rfl h) ?_ a1 a2 a3 a4 (by simp) (by have:=hB.conts;simp [Pl.PW.keep];omega);intro a hae;obtain rfl:a=.cont W.conts.length:=by simpa using hae.symm
    have hkl:(W.keep S).conts.length=W.conts.length+1:=by simp [Pl.PW.keep]
    rw [hkl];refine hbase _ _ _ (by simp) ?_ ?_ hP.keep.keep (by simp) rfl rfl
    ·exact WfV.keep WfV.last
    ·intro v hv;obtain rfl:v=.cont (W.conts.length+1):=by simpa using hv
     have:=WfV.last (W:=W.keep S) (S:=S)
     rwa [hkl] at this
   ·have he:Pl.apply W S (.prim callccW) [a]=applyB (W.keep S) S a [.cont W.conts.length]:=by
     unfold Pl.apply;rw [if_pos rfl];dsimp only;rw [if_neg ha2]
    rw [he];refine hbase _ _ _ ha2 (hl a (by simp)).keep ?_ hP.keep (by simp) rfl rfl;intro v hv;obtain rfl:v=.cont W.conts.length:=by simpa using hv
    exact WfV.last
 ·have he:Pl.apply W S f l=applyB W S f l:=by unfold Pl.apply;rw [if_neg hc]
  rw [he];exact hbase W f l hc hf hl hP hll rfl rfl w M av hW hS hG ha
end
end Go.Proofs.YtkgbdddkcjpgfaaGreatDoor
