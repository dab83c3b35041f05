import Derived.Laws.AppendOwnNone
import Derived.Test.YtkgbdddkcjpgfaaGreatDoorK51
import Derived.Test.YtkgbdddkcjpgfaaGreatDoorK50
namespace Go.Proofs.YtkgbdddkcjpgfaaGreatDoor
set_option maxHeartbeats 2000000
set_option maxRecDepth 100000
open Go.Proofs.Tryz
open Pl (PO newW)
section
open Go.RowKit Go.Lib Go.Maps
variable {w:World} {base n:Nat} {xs:List Value}
def ScrV(w:World)(v:Value)(ins:List (ByteArray×Int)):Prop:=(v=.slice none 0 0/\ins=[])\/∃ad cap,v=.slice (some ad) ins.length cap/\(ins≠[]->ad.block<w.heap.size)/\∀j u,(ins.flatMap iL)[j]?=some u->w.cell? (ad.add j)=some u
theorem fG(ins:List (ByteArray×Int)):(ins.flatMap iL).length=ins.length*2:=by
 induction ins with
 | nil=>rfl
 | cons a r ih=>simp only [List.flatMap_cons,List.length_append,ih,List.length_cons,iL,List.length_nil];omega
theorem aG(ins:List (ByteArray×Int)):∀u∈ins.flatMap iL,u.oneCell'=true:=fun u hu=>by obtain⟨i,_,hi⟩:=List.mem_flatMap.1 hu;simp only [iL,List.mem_cons,List.not_mem_nil,or_false] at hi;rcases hi with rfl | rfl<;>rfl
theorem g5(ins:List (ByteArray×Int))(b:ByteArray)(f:Int):(ins++[(b,f)]).flatMap iL=ins.flatMap iL++[.string b,.int .i64 f]:=by simp [iL]
theorem q6{w':World}{base':Nat}{v v':Value}{n':Nat}{xs':List Value}(h:w.ownsRow base TInp 2 v n xs)(h':w.ownsRow base' TInp 2 v' n' xs')(hb:∀g,v.ownBlock=some g->g<base')(hg:w.grownBy w' v'.ownBlock):w'.ownsRow base TInp 2 v n xs:=gA h (fun g e=>hg.block g (h.lt g e).2 (fun e'=>by have:=(h'.lt g e'.symm).1;have:=hb g e;omega))
theorem aAV{g:Nat}{a b:Value}{T:TypeId}(h:w.heap[g]?=some (.cells #[a,b] T (0,0))):∀j u,[a,b][j]?=some u->w.cell? (Addr.add ⟨g,0,none⟩ j)=some u:=fun j u hj=>by
 have e:(Addr.add ⟨g,0,none⟩ j:Addr)=⟨g,j,none⟩:=by rw [Addr.add_lit,Nat.zero_add]
 rw [e,aA h j];simpa using hj
theorem r5(a u:List UInt8):(⟨(a++u).toArray⟩:ByteArray).extract 0 (⟨a.toArray⟩:ByteArray).size=⟨a.toArray⟩:=by rw [<- b6,dB,Lib.toList_data];show(((a++u).toArray.toList).drop 0).take (a.toArray.size-0)=a.toArray.toList;simp
structure MrI(w:World)(ins:List (ByteArray×Int))(b:ByteArray)(f g:Nat)(w5:World)(v2 v4:Value):Prop where
 below:Below w.heap.size w w5
 s:ScrAt w5 v2 (ins++[(b,(f:Int))])
 t:ScrAt w5 v4 (ins++[(b,(g:Int))])
def mrO(ins:List (ByteArray×Int))(b:ByteArray)(f:Nat):List PO:=(Pl.session newW ((ins++[(b,(f:Int))]).map inP)).2
def hU(ins:List (ByteArray×Int))(b:ByteArray)(f:Nat):PO:=(Pl.answer (Pl.session newW (ins.map inP)).1 (b.data.toList,(f:Int))).2
theorem mrO_eq(ins:List (ByteArray×Int))(b:ByteArray)(f:Nat):mrO ins b f=(Pl.session newW (ins.map inP)).2++[hU ins b f]:=by unfold mrO hU;rw [List.map_append,List.map_cons,List.map_nil,Pl.session_snoc];rfl
theorem mrO_len(ins:List (ByteArray×Int))(b:ByteArray)(f:Nat):(mrO ins b f).length=ins.length+1:=by rw [mrO_eq,List.length_append,Pl.session_len,List.length_map];rfl
theorem mrO_at(ins:List (ByteArray×Int))(b:ByteArray)(f:Nat):(mrO ins b f)[ins.length]?=some (hU ins b f):=by
 have hl:(Pl.session newW (ins.map inP)).2.length=ins.length:=by rw [Pl.session_len,List.length_map]
 rw [mrO_eq,List.getElem?_append_right (by omega),hl,Nat.sub_self];rfl
theorem hJ(ins:List (ByteArray×Int))(b:ByteArray)(f k:Nat)(hk:f+k<=1000000):((hU ins b f).code≠7->hU ins b (f+k)=hU ins b f)/\((hU ins b f).code=7->(hU ins b f).val=[]/\∃u,(hU ins b (f+k)).out=(hU ins b f).out++u):=by obtain⟨t,ht,_⟩:=ses_ww ins (Nat.le_refl ins.length);rw [List.take_length] at ht;exact aAX ht b.data.toList f k hk
def CellsAt(w:World)(g n:Nat)(o:PO):Prop:=w.cell? ⟨g,n*3,none⟩=some (.int .i64 (o.code:Int))/\w.cell? ⟨g,n*3+1,none⟩=some (.string ⟨o.out.toArray⟩)/\w.cell? ⟨g,n*3+2,none⟩=some (.string ⟨o.val.toArray⟩)
def RowAt(w:World)(r:Value)(n:Nat)(o:PO):Prop:=∃g cap,r=.slice (some ⟨g,0,none⟩) (n+1) cap/\n+1<=cap/\CellsAt w g n o
theorem qC{r:Value}{ins:List (ByteArray×Int)}{b:ByteArray}{f:Nat}(h:OutAt w r (mrO ins b f)):RowAt w r ins.length (hU ins b f):=by obtain⟨ao,cap,rfl,hc,hk⟩:=h;obtain⟨g,rfl,_,a0,a1,a2⟩:=hk ins.length _ (mrO_at ins b f);rw [mrO_len] at hc ⊢;exact⟨g,cap,rfl,hc,a0,a1,a2⟩
theorem hY(a:Addr)(j:Nat):(a.add j).block=a.block:=by unfold Addr.add;first | rfl | (split<;>rfl)
theorem f5{w1 w2:World}{v1:Value}(h:w2.ownsRow base TInp 2 v1 (0+n) ([]++xs))(hg:w1.grownBy w2 (Value.slice none 0 0).ownBlock)(hB:Below w.heap.size w w1):w2.ownsRow base TInp 2 v1 n xs/\Hid (Below w.heap.size w w2)/\Below w1.heap.size w1 w2/\∃ao cap,v1=.slice ao n cap:=by rw [Nat.zero_add,List.nil_append] at h;obtain⟨ao,cap,e,_⟩:=cJ h;exact⟨h,hB.trans ((cS hg).mono hB.size),cS hg,ao,cap,e⟩
theorem b7{w2 w3:World}{v1 v2:Value}{a c:Value}{o:Obj}(hB:Below w.heap.size w w2)(hb:w.heap.size<=base)(h1:w2.ownsRow base TInp 2 v1 n xs)(h:w3.ownsRow base TInp 2 v2 (n+1) (xs++[a,c]))(hg:(w2.alloc o).grownBy w3 v1.ownBlock):Hid (Below w.heap.size w w3)/\∃ao cap,v2=.slice ao (n+1) cap:=by obtain⟨ao,cap,e,_⟩:=cJ h;have hs:=hB.size;exact⟨(hB.alloc hs o).grown hg (by simp;omega) (fun j hj=>by have:=(h1.lt j hj).1;omega),ao,cap,e⟩
theorem mr_fin{w3 w4 w5:World}{ins:List (ByteArray×Int)}{b:ByteArray}{f g:Nat}{v2 v3 v4:Value}{o:Obj}(h2:w3.ownsRow w.heap.size TInp 2 v2 (ins.length+1) (ins.flatMap iL++[.string b,.int .i64 (f:Int)]))(hB4:Below w3.heap.size w3 w4)(h3:w4.ownsRow w3.heap.size TInp 2 v3 ins.length (ins.flatMap iL))(h4:w5.ownsRow w3.heap.size TInp 2 v4 (ins.length+1) (ins.flatMap iL++[.string b,.int .i64 (g:Int)]))(hg:(w4.alloc o).grownBy w5 v3.ownBlock)(hB:Below w.heap.size w w5):MrI w ins b f g w5 v2 v4:=by
 have hlt:∀k,v2.ownBlock=some k->k<w3.heap.size:=fun k e=>(h2.lt k e).2;have a1:w4.ownsRow w.heap.size TInp 2 v2 (ins.length+1) (ins.flatMap iL++[.string b,.int .i64 (f:Int)]):=gA h2 (fun k e=>hB4.block k (hlt k e));have a2:=q6 (a1.alloc o) (h3.alloc o) hlt hg;refine⟨hB,scr_of (base:=w.heap.size) ?_,scr_of (base:=w3.heap.size) ?_⟩
 ·rw [g5,List.length_append];exact a2
 ·rw [g5,List.length_append];exact h4
theorem p_more(w:World)(v:Value)(ins:List (ByteArray×Int))(b:ByteArray)(fuel more:Int)(hS:ScrV w v ins)(hlen:ins.length*24<=140737488351232)(hf : -9223372036854775808<=fuel/\fuel<=9223372036854775807)(hm : -9223372036854775808<=more/\more<=9223372036854775807)(h:Low w) :Calls prog 6 #[v,.string b,.int .i64 fuel,.int .i64 more] w fun e w'=>e=.returned (.bool true)/\Below w.heap.size w w':=by
 obtain⟨i0,hi0,hz0,hz1,hz2⟩:=info_parts Tryz.infoInp;have HAw:Hid (Calls prog 26 #[] w fun e w'=>e=.returned (.bool true)/\Hid (Below w.heap.size w w')):=p_awake w h;have hlm:ins.length+1<=b5:=by unfold b5;omega
 have HSl:=(show Hid (∀(w5:World)(v2 v4:Value)(f g:Nat),MrI w ins b f g w5 v2 v4->Calls prog 19 #[v2] w5 fun e w'=>∃g1 c1,e=.returned (.slice (some ⟨g1,0,none⟩) (ins.length+1) c1)/\Hid (Below w.heap.size w w'/\ScrAt w' v4 (ins++[(b,(g:Int))])/\OutAt w' (.slice (some ⟨g1,0,none⟩) (ins.length+1) c1) (mrO ins b f))) from fun w5 v2 v4 f g hm=>(j0 w5 v2 _ hm.s (by rw [List.length_append];exact hlm) (h.below hm.below)).mono (fun e w' ⟨rv,k1,k2,k3⟩=>by
  obtain⟨g1,c1,e1,_⟩:=qC (f:=f) (b:=b) (ins:=ins) k3;subst e1
  exact⟨g1,c1,k1,hm.below.trans (k2.mono hm.below.size),hm.t.below k2,k3⟩))
 have HSm:=(show Hid (∀(w6:World)(v4:Value)(f g g1 c1:Nat),Below w.heap.size w w6/\ScrAt w6 v4 (ins++[(b,(g:Int))])/\OutAt w6 (.slice (some ⟨g1,0,none⟩) (ins.length+1) c1) (mrO ins b f)->Calls prog 19 #[v4] w6 fun e w'=>∃g2 c2,e=.returned (.slice (some ⟨g2,0,none⟩) (ins.length+1) c2)/\Hid (Below w.heap.size w w'/\ins.length+1<=c1/\ins.length+1<=c2/\CellsAt w' g1 ins.length (hU ins b f)/\CellsAt w' g2 ins.length (hU ins b g))) from fun w6 v4 f g g1 c1 ⟨q1,q2,q3⟩=>(j0 w6 v4 _ q2 (by rw [List.length_append];exact hlm) (h.below q1)).mono (fun e w' ⟨rv,k1,k2,k3⟩=>by
  obtain⟨g2,c2,e2,hc2,z⟩:=qC (f:=g) (b:=b) (ins:=ins) k3;obtain⟨g1',c1',e1,hc1,y⟩:=qC (f:=f) (b:=b) (ins:=ins) (q3.below k2);simp only [Value.slice.injEq,Option.some.injEq,Addr.mk.injEq,true_and,and_true] at e1;obtain⟨rfl,rfl⟩:=e1;subst e2
  exact⟨g2,c2,k1,q1.trans (k2.mono q1.size),hc1,hc2,y,z⟩))
 clear h hlm;rcases hS with⟨rfl,hins⟩ | ⟨ad,cap,rfl,hab,hc⟩
 ·have HIns:Hid (ins=[]):=hins;clear hins;go_enter func6,ntmps6
  go_upto_region 3 with(first
   | (go_at_call 26;refine Calls.mono HAw.out ?_;rintro e w1 ⟨rfl,HB1⟩)
   | (go_at_call 27;refine(l5 _ fuel 500 (by decide) hf (by decide)).mono ?_;rintro e w2 ⟨r,rfl,hr0,hr1,rfl⟩))
  obtain⟨fn,rfl⟩:=Int.eq_ofNat_of_zero_le hr0
  go_upto_region 6 with(go_at_call 27;refine(l5 _ more 500 (by decide) hm (by decide)).mono ?_;rintro e w2 ⟨k,rfl,hk0,hk1,rfl⟩;obtain⟨kn,rfl⟩:=Int.eq_ofNat_of_zero_le hk0)
  have hO1:w1.ownsRow w.heap.size TInp 2 (.slice none 0 0) 0 []:=World.ownsRow_nil _ _ _ _
  go_upto_region 7 with(at_builtin;refine wpList_append_own_none rfl _ _ 26 rfl w.heap.size TInp i0 2 underlying26 hi0 _ 0 [] rfl hO1 rfl ?_;obtain⟨w2,hw2⟩:∃w2,w2=w1:=⟨_,rfl⟩;rw [<- hw2];have HT1:=(show w2.ownsRow w.heap.size TInp 2 (.slice none 0 0) ins.length (ins.flatMap iL)/\Hid (Below w.heap.size w w2)/\Below w1.heap.size w1 w2 from by have hins:=HIns.out;subst hw2 hins;exact⟨hO1,HB1.out,Below.refl _ _⟩);clear hw2)
  obtain⟨hown1,HB2,_⟩:=HT1;have hO2:=hown1.alloc (.cells #[.string b,.int .i64 (fn:Int)] TInp);have hs2:=HB2.out.size;unfold TInp at hO2
  go_upto_region 8 with(at_builtin;refine wpList_append_own _ rfl _ _ 26 rfl w.heap.size 41 i0 (.agg #[.string ⟨#[]⟩,.int .i64 0]) 2 24 underlying26 hi0 hz0 hz1 hz2 rfl (by decide) _ ins.length (ins.flatMap iL) rfl hO2 ⟨w2.heap.size,0,none⟩ 1 1 [.string b,.int .i64 (fn:Int)] rfl rfl (aAV (heap_alloc_new w2 _)) (aG [(b,(fn:Int))]) (by unfold maxLen;omega) (by omega) (by simp;omega) ?_;intro v2 w3 hown2 hgrow2 _)
  obtain⟨HB3,ao2,cap2,rfl⟩:=b7 HB2.out (Nat.le_refl _) hown1 hown2 hgrow2;have hO3:w3.ownsRow w3.heap.size TInp 2 (.slice none 0 0) 0 []:=World.ownsRow_nil _ _ _ _;have HO2:Hid (w3.ownsRow w.heap.size TInp 2 (.slice ao2 (ins.length+1) cap2) (ins.length+1) (ins.flatMap iL++[.string b,.int .i64 (fn:Int)])):=hown2;clear hown1 hown2 hgrow2 hO1 hO2 HB2 hs2
  go_upto_region 9 with(at_builtin;refine wpList_append_own_none rfl _ _ 26 rfl w3.heap.size TInp i0 2 underlying26 hi0 _ 0 [] rfl hO3 rfl ?_;obtain⟨w4,hw4⟩:∃w4,w4=w3:=⟨_,rfl⟩;rw [<- hw4];have HT3:=(show w4.ownsRow w3.heap.size TInp 2 (.slice none 0 0) ins.length (ins.flatMap iL)/\Hid (Below w.heap.size w w4)/\Below w3.heap.size w3 w4 from by have hins:=HIns.out;subst hw4 hins;exact⟨hO3,HB3.out,Below.refl _ _⟩);clear hw4)
  obtain⟨hown3,HB4,hB34⟩:=HT3;have hO4:=hown3.alloc (.cells #[.string b,.int .i64 ((fn:Int)+(kn:Int))] TInp);have hs4:=HB4.out.size;have hs34:=hB34.size;unfold TInp at hO4
  go_upto_region 10 with(at_builtin;refine wpList_append_own _ rfl _ _ 26 rfl w3.heap.size 41 i0 (.agg #[.string ⟨#[]⟩,.int .i64 0]) 2 24 underlying26 hi0 hz0 hz1 hz2 rfl (by decide) _ ins.length (ins.flatMap iL) rfl hO4 ⟨w4.heap.size,0,none⟩ 1 1 [.string b,.int .i64 ((fn:Int)+(kn:Int))] rfl rfl (aAV (heap_alloc_new w4 _)) (aG [(b,(fn:Int)+(kn:Int))]) (by unfold maxLen;omega) (by omega) (by simp;omega) ?_;intro v4 w5 hown4 hgrow4 _)
  have ec:(fn:Int)+(kn:Int)=((fn+kn:Nat):Int):=by omega
  rw [ec] at hown4;obtain⟨HB5,ao4,cap4,rfl⟩:=b7 HB4.out HB3.out.size hown3 hown4 hgrow4;have HM:Hid (MrI w ins b fn (fn+kn) w5 (.slice ao2 (ins.length+1) cap2) (.slice ao4 (ins.length+1) cap4)):=mr_fin HO2.out hB34 hown3 hown4 hgrow4 HB5.out;have HK:Hid (fn+kn<=1000000):=show fn+kn<=1000000 from by omega
  clear hown3 hown4 hgrow4 hO3 hO4 HB3 HB4 HB5 hB34 hs4 hs34 HO2 HB1 hr0 hr1 hk0 hk1 ec;have HD:Hid _:=hJ ins b fn kn HK.out
  go_upto_region 11 with(go_at_call 19;refine(HSl.out _ _ _ _ _ HM.out).mono ?_;rintro e w6 ⟨g1,c1,rfl,HQ1⟩)
  go_upto_region 12 with(go_at_call 19;refine(HSm.out _ _ _ _ _ _ HQ1.out).mono ?_;rintro e w7 ⟨g2,c2,rfl,HQ2⟩)
  obtain⟨hB7,hc1,hc2,⟨a0,a1,a2⟩,b0,b1,b2⟩:=HQ2.out;have HB7:Hid (Below w.heap.size w w7):=hB7;clear hB7 HQ2 HQ1 HM HSl HSm;generalize hU ins b fn=A at *;generalize hU ins b (fn+kn)=B at *;have hl0:ins.length=0:=by rw [HIns.out];rfl
  generalize ins.length=L at *
  (obtain rfl:L=0:=hl0);simp only [Nat.zero_mul,Nat.zero_add] at *
  have hw1:IntKind.i64.wrap ((0:Int)+1)=(0:Int)+1:=IntWalk.i64_in _ (by omega);by_cases hA:A.code=7
  ·obtain⟨hv,u,hu⟩:=HD.out.2 hA;have a0':w7.cell? ⟨g1,0,none⟩=some (.int .i64 7):=by rw [a0,hA];rfl
   have a2':w7.cell? ⟨g1,2,none⟩=some (.string ⟨#[]⟩):=by rw [a2,hv]
   have hx1:(⟨A.out.toArray⟩:ByteArray).size<=(⟨B.out.toArray⟩:ByteArray).size:=by rw [hu];show A.out.toArray.size<=(A.out++u).toArray.size;simp
   have hx2:(⟨B.out.toArray⟩:ByteArray).extract 0 (⟨A.out.toArray⟩:ByteArray).size=⟨A.out.toArray⟩:=by rw [hu];exact r5 A.out u
   clear a0 a2 HD;generalize (⟨A.out.toArray⟩:ByteArray)=xs at *;generalize (⟨B.out.toArray⟩:ByteArray)=ys at *;go_wp2_with fail;go_ret;exact⟨rfl,HB7.out⟩
  ·obtain rfl:=HD.out.1 hA;have hne:((B.code:Int)!=7)=true:=by simp;omega
   clear HD;go_wp2_with fail;first | go_quiet (fail) | skip
   go_wp2_with fail
   go_ret;exact⟨rfl,HB7.out.trans ((belN _ _).mono HB7.out.size)⟩
 ·have HC:=(show Hid (∀w1:World,Below w.heap.size w w1->∀j u,(ins.flatMap iL)[j]?=some u->w1.cell? (ad.add j)=some u) from fun w1 hB j u hj=>(hB.cell (p:=ad.add j) (by rw [hY];exact hab (fun e=>by rw [e] at hj;simp at hj))).trans (hc j u hj))
  clear hc hab;go_enter func6,ntmps6
  go_upto_region 3 with(first
   | (go_at_call 26;refine Calls.mono HAw.out ?_;rintro e w1 ⟨rfl,HB1⟩)
   | (go_at_call 27;refine(l5 _ fuel 500 (by decide) hf (by decide)).mono ?_;rintro e w2 ⟨r,rfl,hr0,hr1,rfl⟩))
  obtain⟨fn,rfl⟩:=Int.eq_ofNat_of_zero_le hr0
  go_upto_region 6 with(go_at_call 27;refine(l5 _ more 500 (by decide) hm (by decide)).mono ?_;rintro e w2 ⟨k,rfl,hk0,hk1,rfl⟩;obtain⟨kn,rfl⟩:=Int.eq_ofNat_of_zero_le hk0)
  have hO1:w1.ownsRow w.heap.size TInp 2 (.slice none 0 0) 0 []:=World.ownsRow_nil _ _ _ _
  go_upto_region 7 with(at_builtin;refine wpList_append_own _ rfl _ _ 26 rfl w.heap.size TInp i0 (.agg #[.string ⟨#[]⟩,.int .i64 0]) 2 24 underlying26 hi0 hz0 hz1 hz2 rfl (by decide) _ 0 [] rfl hO1 ad ins.length cap (ins.flatMap iL) rfl (fG ins) (HC.out w1 HB1.out) (aG ins) (by unfold maxLen;omega) (by omega) HB1.out.size ?_;intro v1 w2 hown1 hgrow1 _;have HT1:=f5 hown1 hgrow1 HB1.out;clear hown1 hgrow1)
  obtain⟨hown1,HB2,_,ao1,cap1,rfl⟩:=HT1;have hO2:=hown1.alloc (.cells #[.string b,.int .i64 (fn:Int)] TInp);have hs2:=HB2.out.size;unfold TInp at hO2
  go_upto_region 8 with(at_builtin;refine wpList_append_own _ rfl _ _ 26 rfl w.heap.size 41 i0 (.agg #[.string ⟨#[]⟩,.int .i64 0]) 2 24 underlying26 hi0 hz0 hz1 hz2 rfl (by decide) _ ins.length (ins.flatMap iL) rfl hO2 ⟨w2.heap.size,0,none⟩ 1 1 [.string b,.int .i64 (fn:Int)] rfl rfl (aAV (heap_alloc_new w2 _)) (aG [(b,(fn:Int))]) (by unfold maxLen;omega) (by omega) (by simp;omega) ?_;intro v2 w3 hown2 hgrow2 _)
  obtain⟨HB3,ao2,cap2,rfl⟩:=b7 HB2.out (Nat.le_refl _) hown1 hown2 hgrow2;have hO3:w3.ownsRow w3.heap.size TInp 2 (.slice none 0 0) 0 []:=World.ownsRow_nil _ _ _ _;have HO2:Hid (w3.ownsRow w.heap.size TInp 2 (.slice ao2 (ins.length+1) cap2) (ins.length+1) (ins.flatMap iL++[.string b,.int .i64 (fn:Int)])):=hown2;clear hown1 hown2 hgrow2 hO1 hO2 HB2 hs2
  go_upto_region 9 with(at_builtin;refine wpList_append_own _ rfl _ _ 26 rfl w3.heap.size TInp i0 (.agg #[.string ⟨#[]⟩,.int .i64 0]) 2 24 underlying26 hi0 hz0 hz1 hz2 rfl (by decide) _ 0 [] rfl hO3 ad ins.length cap (ins.flatMap iL) rfl (fG ins) (HC.out w3 HB3.out) (aG ins) (by unfold maxLen;omega) (by omega) (Nat.le_refl _) ?_;intro v3 w4 hown3 hgrow3 _;have HT3:=f5 hown3 hgrow3 HB3.out;clear hown3 hgrow3)
  obtain⟨hown3,HB4,hB34,ao3,cap3,rfl⟩:=HT3;have hO4:=hown3.alloc (.cells #[.string b,.int .i64 ((fn:Int)+(kn:Int))] TInp);have hs4:=HB4.out.size;have hs34:=hB34.size;unfold TInp at hO4
  go_upto_region 10 with(at_builtin;refine wpList_append_own _ rfl _ _ 26 rfl w3.heap.size 41 i0 (.agg #[.string ⟨#[]⟩,.int .i64 0]) 2 24 underlying26 hi0 hz0 hz1 hz2 rfl (by decide) _ ins.length (ins.flatMap iL) rfl hO4 ⟨w4.heap.size,0,none⟩ 1 1 [.string b,.int .i64 ((fn:Int)+(kn:Int))] rfl rfl (aAV (heap_alloc_new w4 _)) (aG [(b,(fn:Int)+(kn:Int))]) (by unfold maxLen;omega) (by omega) (by simp;omega) ?_;intro v4 w5 hown4 hgrow4 _)
  have ec:(fn:Int)+(kn:Int)=((fn+kn:Nat):Int):=by omega
  rw [ec] at hown4;obtain⟨HB5,ao4,cap4,rfl⟩:=b7 HB4.out HB3.out.size hown3 hown4 hgrow4;have HM:Hid (MrI w ins b fn (fn+kn) w5 (.slice ao2 (ins.length+1) cap2) (.slice ao4 (ins.length+1) cap4)):=mr_fin HO2.out hB34 hown3 hown4 hgrow4 HB5.out;have HK:Hid (fn+kn<=1000000):=show fn+kn<=1000000 from by omega
  clear hown3 hown4 hgrow4 hO3 hO4 HB3 HB4 HB5 hB34 hs4 hs34 HO2 HB1 hr0 hr1 hk0 hk1 ec;have HD:Hid _:=hJ ins b fn kn HK.out
  go_upto_region 11 with(go_at_call 19;refine(HSl.out _ _ _ _ _ HM.out).mono ?_;rintro e w6 ⟨g1,c1,rfl,HQ1⟩)
  go_upto_region 12 with(go_at_call 19;refine(HSm.out _ _ _ _ _ _ HQ1.out).mono ?_;rintro e w7 ⟨g2,c2,rfl,HQ2⟩)
  obtain⟨hB7,hc1,hc2,⟨a0,a1,a2⟩,b0,b1,b2⟩:=HQ2.out;have HB7:Hid (Below w.heap.size w w7):=hB7;clear hB7 HQ2 HQ1 HM HSl HSm;generalize hU ins b fn=A at *;generalize hU ins b (fn+kn)=B at *
  skip
  generalize ins.length=L at *
  skip
  have hw1:IntKind.i64.wrap ((L:Int)+1)=(L:Int)+1:=IntWalk.i64_in _ (by omega);by_cases hA:A.code=7
  ·obtain⟨hv,u,hu⟩:=HD.out.2 hA;have a0':w7.cell? ⟨g1,L*3,none⟩=some (.int .i64 7):=by rw [a0,hA];rfl
   have a2':w7.cell? ⟨g1,L*3+2,none⟩=some (.string ⟨#[]⟩):=by rw [a2,hv]
   have hx1:(⟨A.out.toArray⟩:ByteArray).size<=(⟨B.out.toArray⟩:ByteArray).size:=by rw [hu];show A.out.toArray.size<=(A.out++u).toArray.size;simp
   have hx2:(⟨B.out.toArray⟩:ByteArray).extract 0 (⟨A.out.toArray⟩:ByteArray).size=⟨A.out.toArray⟩:=by rw [hu];exact r5 A.out u
   clear a0 a2 HD;generalize (⟨A.out.toArray⟩:ByteArray)=xs at *;generalize (⟨B.out.toArray⟩:ByteArray)=ys at *;go_wp2_with fail;go_ret;exact⟨rfl,HB7.out⟩
  ·obtain rfl:=HD.out.1 hA;have hne:((B.code:Int)!=7)=true:=by simp;omega
   clear HD;go_wp2_with fail;first | go_quiet (fail) | skip
   go_wp2_with fail
   go_ret;exact⟨rfl,HB7.out.trans ((belN _ _).mono HB7.out.size)⟩
end
end Go.Proofs.YtkgbdddkcjpgfaaGreatDoor
