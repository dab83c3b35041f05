import Derived.BigQuiet
import Derived.Test.YtkgbdddkcjpgfaaGreatDoorC52
namespace Go.Proofs.YtkgbdddkcjpgfaaGreatDoor
set_option maxHeartbeats 2000000
set_option maxRecDepth 100000
open Go.Proofs.Tryz
open Pl (Byt newW)
section
open Go.RowKit Go.Lib Go.Maps
theorem aBV{w6 w7:World}{base n lb:Nat}{v1:Value}{xs:List Value}{o:Obj}{cs:Array Value}(h:w6.ownsRow base TInp 2 v1 n xs)(hl:w6.heap[lb]?=some (.cells cs TLn (0,0)))(hg:(w6.alloc o).grownBy w7 v1.ownBlock):w7.heap[lb]?=some (.cells cs TLn (0,0)):=by
 have hlt:=aB hl;refine(hg.block lb (by simp;omega) (fun e=>?_)).trans ((Below.heap_alloc _ _ _ hlt).trans hl);rcases h.2 with⟨hv,_⟩ | ⟨g,cap,cur,hv,_,hc,_⟩
 ·rw [hv] at e;cases e
 ·rw [hv] at e;obtain rfl:lb=g:=Option.some.inj e;rw [hc] at hl;simp only [Option.some.injEq,Obj.cells.injEq] at hl;exact absurd hl.2.1 (by unfold TInp TLn;decide)
structure CtF(w:World)(L lb g1 g2:Nat)(t:Byt)(w9:World):Prop where
 below:Below w.heap.size w w9
 a0:w9.cell? ⟨g1,L*3,none⟩=some (.int .i64 0)
 a2:w9.cell? ⟨g1,L*3+2,none⟩=some (.string ⟨t.toArray⟩)
 b0:w9.cell? ⟨g2,L*3,none⟩=some (.int .i64 7)
 l1:w9.cell? ⟨lb,1,none⟩=some (.string ⟨t.toArray⟩)
theorem ct_end(w:World)(v:Value)(ins:List (ByteArray×Int))(b:ByteArray)(m L:Nat)(t:Byt)(hm:m+2<2000)(hS:ScrV w v ins)(hL:ins.length=L)(hlen:L*24<=140737488351232)
  (HAw:Hid (Calls prog 26 #[] w fun e w'=>e=.returned (.bool true)/\Hid (Below w.heap.size w w')))
  (HT7:Hid (∀w1,Below w.heap.size w w1->Calls prog 23 #[.slice none 0 0,.string ⟨#[55]⟩,.int .i64 1000000] w1 fun e w'=>∃ao cap,e=.returned (.tuple #[.slice ao 2 cap,.int .i64 0])/\Hid (Below w.heap.size w w')))
  (HTr:Hid (∀w1,Below w.heap.size w w1->Calls prog 23 #[v,.string b,.int .i64 2000] w1 fun e w'=>∃g cap,e=.returned (.tuple #[.slice (some ⟨g,0,none⟩) (m+1+1) cap,.int .i64 0])/\m+1+1<=cap/\Hid (TQ w w' g (m+1) (2,t,0))))
  (HCk:Hid (∀w1 g,TQ w w1 g (m+1) (2,t,0)->Calls prog 15 #[.string b] w1 fun e w'=>e=.returned (.int .i64 0)/\Hid (TQ w w' g (m+1) (2,t,0))))
  (HSl:Hid (∀lb w5 v2,CtI w ins b ((m+1:Nat):Int) t lb w5 v2->Calls prog 19 #[v2] w5 fun e w'=>∃g1 gs cs,e=.returned (.slice (some ⟨g1,0,none⟩) (L+1) (L+1))/\v2=.slice (some ⟨gs,0,none⟩) (L+1) cs/\L+1<=cs/\(∃cv,w'.cell? ⟨gs,L*2+1,none⟩=some cv)/\w'.frozen? ⟨gs,L*2+1,none⟩=false/\Hid (CtJ w ins b t lb gs cs (hU ins b (m+1)) g1 w')))
  (HSm:Hid (∀lb gs cs g1 w6,CtJ w ins b t lb gs cs (hU ins b (m+1)) g1 w6->Calls prog 19 #[.slice (some ⟨gs,0,none⟩) (L+1) cs] (w6.setCell ⟨gs,L*2+1,none⟩ (.int .i64 (m:Int))) fun e w'=>∃g2,e=.returned (.slice (some ⟨g2,0,none⟩) (L+1) (L+1))/\Hid (CtF w L lb g1 g2 t w'))) :
  Calls prog 7 #[v,.string b] w fun e w'=>e=.returned (.bool true)/\Below w.heap.size w w':=by
 obtain⟨i0,hi0,hz0,hz1,hz2⟩:=info_parts Tryz.infoInp;have HLn:Hid (ins.length=L):=hL;have hw0:IntKind.i64.wrap ((m:Int)+1)=(m:Int)+1:=IntWalk.i64_in _ (by omega);have hw1:IntKind.i64.wrap ((m:Int)+1+1-2)=(m:Int):=by rw [show(m:Int)+1+1-2=m by omega];exact IntWalk.i64_in _ (by omega)
 have hz:((m:Int)+1+1==0)=false:=by simp;omega
 have hd:((m:Int)+1+1==2000)=false:=by simp;omega
 rcases hS with⟨rfl,hins⟩ | ⟨ad,cap,hv,_,hab,hc⟩
 ·have HIns:Hid (ins=[]):=hins;obtain rfl:L=0:=by rw [<- hL,hins];rfl
  clear hins hL;simp only [Nat.zero_mul,Nat.zero_add] at HSl HSm;go_enter func7,ntmps7
  go_upto_region 2 with(go_at_call 26;refine Calls.mono HAw.out ?_;rintro e w1 ⟨rfl,HB1⟩)
  go_upto_region 3 with(go_at_call 23;refine Calls.mono (HT7.out _ HB1.out) ?_;rintro e w2 ⟨ao7,cap7,rfl,HB2⟩)
  go_upto_region 4 with fail
  go_upto_region 5 with(go_at_call 23;refine Calls.mono (HTr.out _ HB2.out) ?_;rintro e w3 ⟨g,cap3,rfl,hcap3,HQ3⟩)
  go_upto_region 7 with(go_at_call 15;refine Calls.mono (HCk.out _ _ HQ3.out) ?_;rintro e w4 ⟨rfl,HQ4⟩)
  obtain⟨hB4,hg4,c0,c2,l0,l1,l2⟩:=HQ4.out;have HB4:Hid (Below w.heap.size w w4):=hB4;clear HAw HT7 HTr HCk HB1 HB2 HQ3 hB4 HQ4;dsimp only at l0 l1 l2
  go_upto_region 17 with fail
  obtain⟨w5,hw5⟩:∃w5,w5=w4.alloc (.cells #[.int .i64 2,.string ⟨t.toArray⟩,.int .i64 0] 46):=⟨_,rfl⟩
  have HB5:Hid (Below w.heap.size w w5):=show Below _ _ _ from by rw [hw5];exact HB4.out.alloc HB4.out.size _
  have HL5:Hid (w5.heap[w4.heap.size]?=some (.cells #[.int .i64 2,.string ⟨t.toArray⟩,.int .i64 0] TLn (0,0))):=show _=_ from by rw [hw5];exact heap_alloc_new w4 _
  rw [<- hw5];generalize w4.heap.size=lb at *;clear hw5 HB4 c0 c2 l0 l1 l2 hg4;have hO1:w5.ownsRow w.heap.size TInp 2 (.slice none 0 0) 0 []:=World.ownsRow_nil _ _ _ _
  go_upto_region 18 with(at_builtin;refine wpList_append_own_none rfl _ _ 26 rfl w.heap.size TInp i0 2 underlying26 hi0 _ 0 [] rfl hO1 rfl ?_;obtain⟨w6,hw6⟩:∃w6,w6=w5:=⟨_,rfl⟩;rw [<- hw6];have HT1:=(show w6.ownsRow w.heap.size TInp 2 (.slice none 0 0) 0 (ins.flatMap iL)/\Hid (Below w.heap.size w w6)/\Below w5.heap.size w5 w6 from by have hins:=HIns.out;subst hw6 hins;exact⟨hO1,HB5.out,Below.refl _ _⟩);clear hw6)
  obtain⟨hown1,HB6,hB56⟩:=HT1;have HL6:Hid (w6.heap[lb]?=some (.cells #[.int .i64 2,.string ⟨t.toArray⟩,.int .i64 0] TLn (0,0))):=show _=_ from(hB56.block lb (aB HL5.out)).trans HL5.out;have hO2:=hown1.alloc (.cells #[.string b,.int .i64 ((m:Int)+1)] TInp);have hs6:=HB6.out.size;unfold TInp at hO2
  go_upto_region 19 with(at_builtin;refine wpList_append_own _ rfl _ _ 26 rfl w.heap.size 41 i0 (.agg #[.string ⟨#[]⟩,.int .i64 0]) 2 24 underlying26 hi0 hz0 hz1 hz2 rfl (by decide) _ 0 (ins.flatMap iL) rfl hO2 ⟨w6.heap.size,0,none⟩ 1 1 [.string b,.int .i64 ((m:Int)+1)] rfl rfl (newsI (heap_alloc_new w6 _)) (aG [(b,(m:Int)+1)]) (by unfold maxLen;omega) (by omega) (by simp;omega) ?_;intro v2 w7 hown2 hgrow2 _)
  obtain⟨HB7,ao2,cap2,rfl⟩:=b7 HB6.out (Nat.le_refl _) hown1 hown2 hgrow2;have HI:Hid (CtI w ins b ((m+1:Nat):Int) t lb w7 (.slice ao2 (0+1) cap2)):=by refine⟨HB7.out,?_,aBV hown1 HL6.out hgrow2⟩;rw [HLn.out,show((m+1:Nat):Int)=(m:Int)+1 from by omega];exact hown2
  clear hown1 hown2 hgrow2 hO1 hO2 HB5 HB6 HB7 hB56 hs6 HL5 HL6
  go_upto_region 20 with(go_at_call 19;refine(HSl.out _ _ _ HI.out).mono ?_;rintro e w8 ⟨g1,gs,cs,rfl,hv2,hcs,⟨cv,hcell⟩,hfz,HJ⟩)
  go_upto_region 21 with fail
  go_upto_region 22 with(go_at_call 19;refine(HSm.out _ _ _ _ _ HJ.out).mono ?_;rintro e w9 ⟨g2,rfl,HF⟩)
  obtain⟨hB9,a0,a2,b0,l1⟩:=HF.out;have HB9:Hid (Below w.heap.size w w9):=hB9;clear HSl HSm HI HJ HF hB9 hcell hfz;simp only [Nat.zero_mul,Nat.zero_add] at a0 a2 b0
  go_upto_region 25 with fail
  generalize (⟨t.toArray⟩:ByteArray)=ts at *
  go_quiet (fail)
  go_wp2_with fail
  go_ret;exact⟨rfl,HB9.out.trans ((belN _ _).mono HB9.out.size)⟩
 ·rw [hL] at hv;subst hv;have HC:=(show Hid (∀w1:World,Below w.heap.size w w1->∀j u,(ins.flatMap iL)[j]?=some u->w1.cell? (ad.add j)=some u) from fun w1 hB j u hj=>(hB.cell (p:=ad.add j) (by rw [hY];exact hab (fun e=>by rw [e] at hj;simp at hj))).trans (hc j u hj))
  have hE:=fG ins;rw [hL] at hE;clear hc hab hL;go_enter func7,ntmps7
  go_upto_region 2 with(go_at_call 26;refine Calls.mono HAw.out ?_;rintro e w1 ⟨rfl,HB1⟩)
  go_upto_region 3 with(go_at_call 23;refine Calls.mono (HT7.out _ HB1.out) ?_;rintro e w2 ⟨ao7,cap7,rfl,HB2⟩)
  go_upto_region 4 with fail
  go_upto_region 5 with(go_at_call 23;refine Calls.mono (HTr.out _ HB2.out) ?_;rintro e w3 ⟨g,cap3,rfl,hcap3,HQ3⟩)
  go_upto_region 7 with(go_at_call 15;refine Calls.mono (HCk.out _ _ HQ3.out) ?_;rintro e w4 ⟨rfl,HQ4⟩)
  obtain⟨hB4,hg4,c0,c2,l0,l1,l2⟩:=HQ4.out;have HB4:Hid (Below w.heap.size w w4):=hB4;clear HAw HT7 HTr HCk HB1 HB2 HQ3 hB4 HQ4;dsimp only at l0 l1 l2
  go_upto_region 17 with fail
  obtain⟨w5,hw5⟩:∃w5,w5=w4.alloc (.cells #[.int .i64 2,.string ⟨t.toArray⟩,.int .i64 0] 46):=⟨_,rfl⟩
  have HB5:Hid (Below w.heap.size w w5):=show Below _ _ _ from by rw [hw5];exact HB4.out.alloc HB4.out.size _
  have HL5:Hid (w5.heap[w4.heap.size]?=some (.cells #[.int .i64 2,.string ⟨t.toArray⟩,.int .i64 0] TLn (0,0))):=show _=_ from by rw [hw5];exact heap_alloc_new w4 _
  rw [<- hw5];generalize w4.heap.size=lb at *;clear hw5 HB4 c0 c2 l0 l1 l2 hg4;have hO1:w5.ownsRow w.heap.size TInp 2 (.slice none 0 0) 0 []:=World.ownsRow_nil _ _ _ _
  go_upto_region 18 with(at_builtin;refine wpList_append_own _ rfl _ _ 26 rfl w.heap.size TInp i0 (.agg #[.string ⟨#[]⟩,.int .i64 0]) 2 24 underlying26 hi0 hz0 hz1 hz2 rfl (by decide) _ 0 [] rfl hO1 ad L cap (ins.flatMap iL) rfl hE (HC.out w5 HB5.out) (aG ins) (by unfold maxLen;omega) (by omega) HB5.out.size ?_;intro v1 w6 hown1 hgrow1 _;have HT1:=f5 hown1 hgrow1 HB5.out;clear hown1 hgrow1)
  obtain⟨hown1,HB6,hB56,ao1,cap1,rfl⟩:=HT1;have HL6:Hid (w6.heap[lb]?=some (.cells #[.int .i64 2,.string ⟨t.toArray⟩,.int .i64 0] TLn (0,0))):=show _=_ from(hB56.block lb (aB HL5.out)).trans HL5.out;have hO2:=hown1.alloc (.cells #[.string b,.int .i64 ((m:Int)+1)] TInp);have hs6:=HB6.out.size;unfold TInp at hO2
  go_upto_region 19 with(at_builtin;refine wpList_append_own _ rfl _ _ 26 rfl w.heap.size 41 i0 (.agg #[.string ⟨#[]⟩,.int .i64 0]) 2 24 underlying26 hi0 hz0 hz1 hz2 rfl (by decide) _ L (ins.flatMap iL) rfl hO2 ⟨w6.heap.size,0,none⟩ 1 1 [.string b,.int .i64 ((m:Int)+1)] rfl rfl (newsI (heap_alloc_new w6 _)) (aG [(b,(m:Int)+1)]) (by unfold maxLen;omega) (by omega) (by simp;omega) ?_;intro v2 w7 hown2 hgrow2 _)
  obtain⟨HB7,ao2,cap2,rfl⟩:=b7 HB6.out (Nat.le_refl _) hown1 hown2 hgrow2;have HI:Hid (CtI w ins b ((m+1:Nat):Int) t lb w7 (.slice ao2 (L+1) cap2)):=by refine⟨HB7.out,?_,aBV hown1 HL6.out hgrow2⟩;rw [HLn.out,show((m+1:Nat):Int)=(m:Int)+1 from by omega];exact hown2
  clear hown1 hown2 hgrow2 hO1 hO2 HB5 HB6 HB7 hB56 hs6 HL5 HL6
  go_upto_region 20 with(go_at_call 19;refine(HSl.out _ _ _ HI.out).mono ?_;rintro e w8 ⟨g1,gs,cs,rfl,hv2,hcs,⟨cv,hcell⟩,hfz,HJ⟩)
  go_upto_region 21 with fail
  go_upto_region 22 with(go_at_call 19;refine(HSm.out _ _ _ _ _ HJ.out).mono ?_;rintro e w9 ⟨g2,rfl,HF⟩)
  obtain⟨hB9,a0,a2,b0,l1⟩:=HF.out;have HB9:Hid (Below w.heap.size w w9):=hB9;clear HSl HSm HI HJ HF hB9 hcell hfz
  skip
  go_upto_region 25 with fail
  generalize (⟨t.toArray⟩:ByteArray)=ts at *
  go_quiet (fail)
  go_wp2_with fail
  go_ret;exact⟨rfl,HB9.out.trans ((belN _ _).mono HB9.out.size)⟩
theorem aDF(w:World)(v:Value)(ins:List (ByteArray×Int))(b:ByteArray)(hS:ScrV w v ins)(hlen:ins.length*24<=140737488351232)(h:Low w) :Calls prog 7 #[v,.string b] w fun e w'=>e=.returned (.bool true)/\Below w.heap.size w w':=by
 have hlm:ins.length+1<=b5:=by unfold b5;omega
 have HAw:Hid (Calls prog 26 #[] w fun e w'=>e=.returned (.bool true)/\Hid (Below w.heap.size w w')):=p_awake w h;have HT7:Hid (∀w1,Below w.heap.size w w1->Calls prog 23 #[.slice none 0 0,.string ⟨#[55]⟩,.int .i64 1000000] w1 fun e w'=>∃ao cap,e=.returned (.tuple #[.slice ao 2 cap,.int .i64 0])/\Hid (Below w.heap.size w w')):=fun w1 hB=>(p_seven w1 (h.below hB)).mono (fun e w' ⟨ao,cap,k1,k2⟩=>⟨ao,cap,k1,hB.trans (k2.mono hB.size)⟩);have hTr:∀w1,Below w.heap.size w w1->Calls prog 23 #[v,.string b,.int .i64 2000] w1 fun e w'=>∃lv,e=.returned (.tuple #[lv,.int .i64 ((Pl.traceR (Pl.session newW (ins.map inP)).1 b.data.toList 2000).1:Int)])/\Below w.heap.size w w'/\LnAt w' lv (Pl.traceR (Pl.session newW (ins.map inP)).1 b.data.toList 2000).2:=fun w1 hB=>(aB8 w1 v ins b 2000 (aBY (scrV_in hS) (Stp.of_below (M:=fun _=>False) hB) (fun _ h=>h)).1 (by omega) (h.below hB)).mono (fun e w' ⟨lv,k1,k2,k3⟩=>⟨lv,k1,hB.trans (k2.mono hB.size),k3⟩);have hCk:∀w1,Below w.heap.size w w1->Calls prog 15 #[.string b] w1 fun e w'=>e=.returned (.int .i64 (Pl.check b.data.toList:Int))/\Below w1.heap.size w1 w':=fun w1 hB=>p_check b w1 (h.below hB).ge (h.below hB).gt;by_cases hc:Pl.check b.data.toList=0
 ·obtain⟨f,hf⟩:=aBS hc;have hE:=Pl.traceR_ok (W:=(Pl.session newW (ins.map inP)).1) (n:=2000) rfl hc hf;rw [hE] at hTr;rw [hc] at hCk;have hT0:(2000:Int).toNat=2000:=rfl;rw [hT0] at hTr;obtain⟨t0,r,hL⟩:=Pl.trace_first (Pl.session newW (ins.map inP)).1 f 1999;have hcn:=@Pl.counted_end (Pl.session newW (ins.map inP)).1 b.data.toList f hc hf;have hll:=Pl.trace_len 2000 (Pl.beganW (Pl.session newW (ins.map inP)).1 f) (Pl.beganS (Pl.session newW (ins.map inP)).1 f);have hL':Pl.trace 2000 (Pl.beganW (Pl.session newW (ins.map inP)).1 f) (Pl.beganS (Pl.session newW (ins.map inP)).1 f)=(1,t0,0)::r:=hL;generalize Pl.trace 2000 (Pl.beganW (Pl.session newW (ins.map inP)).1 f) (Pl.beganS (Pl.session newW (ins.map inP)).1 f)=L at *;clear hL;obtain⟨n,hn⟩:∃n,L.length=n+1:=⟨r.length,by rw [hL'];rfl⟩
  obtain⟨x,hx⟩:∃x,L.getLast? = some x:=by
   cases hg:L.getLast? with
   | some x=>exact⟨x,rfl⟩
   | none=>rw [List.getLast?_eq_none_iff.1 hg] at hn;cases hn
  have HTr:Hid (∀w1,Below w.heap.size w w1->Calls prog 23 #[v,.string b,.int .i64 2000] w1 fun e w'=>∃g cap,e=.returned (.tuple #[.slice (some ⟨g,0,none⟩) (n+1) cap,.int .i64 0])/\n+1<=cap/\Hid (TQ w w' g n x)):=fun w1 hB=>(hTr w1 hB).mono (fun e w' ⟨lv,k1,k2,k3⟩=>by
   obtain⟨g,cap,rfl,hc2,hq⟩:=tq_of k2 k3 hL' hn hx
   exact⟨g,cap,k1,hc2,hq⟩)
  have HCk:Hid (∀w1 g,TQ w w1 g n x->Calls prog 15 #[.string b] w1 fun e w'=>e=.returned (.int .i64 0)/\Hid (TQ w w' g n x)):=fun w1 g hq=>(hCk w1 hq.below).mono (fun e w' ⟨k1,k2⟩=>⟨k1,hq.later k2⟩);by_cases h2k:n+1=2000
  ·exact ct_long w v b n x h2k HAw HT7 HTr HCk
  have hlt:n+1<2000:=by omega
  by_cases h1:x.1=2
  ·by_cases h2:x.2.2=0
   ·obtain⟨m,q1,q2,q3,q4⟩:=hcn (by omega) hx h1 h2;obtain rfl:n=m+1:=by omega
    obtain⟨x1,xt,x2⟩:=x;dsimp only at h1 h2 q3;subst h1 h2;have a1:(hU ins b (m+1)).code=0/\(hU ins b (m+1)).val=xt:=⟨q2,q3⟩
    have a2:(hU ins b m).code=7:=q4
    exact ct_end w v ins b m ins.length xt hlt hS rfl hlen HAw HT7 HTr HCk
     (fun lb w5 v2 hI=>(ct_slow h hlm hI).mono (fun e w' ⟨g1,gs,cs,k1,k2,hJ⟩=>⟨g1,gs,cs,k1,k2,hJ.out.cap,Option.ne_none_iff_exists'.1 hJ.out.cell.1,hJ.out.cell.2,hJ.out⟩))
     (fun lb gs cs g1 w6 hJ=>(aD2 (f:=m) h hlm hJ).mono (fun e w' ⟨g2,k1,hK⟩=>⟨g2,k1,hK.out.below,by rw [hK.out.a.1,a1.1];rfl,by rw [hK.out.a.2.2,a1.2],by rw [hK.out.b.1,a2];rfl,hK.out.last⟩))
   ·exact ct_fr w v b n x hlt h1 h2 HAw HT7 HTr HCk
  ·exact ct_work w v b n x hlt h1 HAw HT7 HTr HCk
 ·have hE:=Pl.traceR_no (W:=(Pl.session newW (ins.map inP)).1) (n:=2000) rfl hc;rw [hE] at hTr;exact ct_no w v b _ hc HAw HT7 (fun w1 hB=>(hTr w1 hB).mono (fun e w' ⟨lv,k1,k2,ao,cap,k3,_⟩=>⟨ao,cap,by rw [k1,k3];rfl,k2⟩)) (fun w1 hB=>(hCk w1 hB).mono (fun e w' ⟨k1,k2⟩=>⟨k1,hB.trans (k2.mono hB.size)⟩))
end
end Go.Proofs.YtkgbdddkcjpgfaaGreatDoor
