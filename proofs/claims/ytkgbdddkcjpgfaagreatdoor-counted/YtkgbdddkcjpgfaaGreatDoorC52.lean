import Derived.Test.YtkgbdddkcjpgfaaGreatDoorC51
import Derived.Test.YtkgbdddkcjpgfaaGreatDoorC50
import Derived.Test.YtkgbdddkcjpgfaaGreatDoorC44
namespace Go.Proofs.YtkgbdddkcjpgfaaGreatDoor
set_option maxHeartbeats 2000000
set_option maxRecDepth 100000
open Go.Proofs.Tryz
open Pl (Byt PO newW)
section
open Go.RowKit Go.Lib Go.Maps
variable {w:World} {lb:Nat}
theorem aB8(w:World)(v:Value)(ins:List (ByteArray×Int))(x:ByteArray)(n:Int)(hS:ScrIn w v ins)(hl:ins.length<=b5)(h:Low w) :Calls prog 23 #[v,.string x,.int .i64 n] w fun e w'=>∃lv,e=.returned (.tuple #[lv,.int .i64 ((Pl.traceR (Pl.session newW (ins.map inP)).1 x.data.toList n).1:Int)])/\Below w.heap.size w w'/\LnAt w' lv (Pl.traceR (Pl.session newW (ins.map inP)).1 x.data.toList n).2:=p_trace w v ins x n hS hl h.glob h.tab h.prm h.gt h.ge
theorem aCF:(Pl.traceR (Pl.session newW []).1 [55] 1000000).1=0:=by kernel_rfl
theorem aC6:(Pl.traceR (Pl.session newW []).1 [55] 1000000).2.length=2:=by kernel_rfl
theorem p_seven(w:World)(h:Low w):Calls prog 23 #[.slice none 0 0,.string ⟨#[55]⟩,.int .i64 1000000] w fun e w'=>∃ao cap,e=.returned (.tuple #[.slice ao 2 cap,.int .i64 0])/\Below w.heap.size w w':=by refine(aB8 w (.slice none 0 0) [] ⟨#[55]⟩ 1000000 ⟨none,0,rfl,Nat.le_refl _,fun k i hi=>by cases hi⟩ (Nat.zero_le _) h).mono (fun e w' hh=>?_);obtain⟨lv,h1,h2,ao,cap,h3,_⟩:=hh;have e1:(Pl.traceR (Pl.session newW (([]:List (ByteArray×Int)).map inP)).1 (⟨#[55]⟩:ByteArray).data.toList 1000000).1=0:=aCF;have e2:(Pl.traceR (Pl.session newW (([]:List (ByteArray×Int)).map inP)).1 (⟨#[55]⟩:ByteArray).data.toList 1000000).2.length=2:=aC6;rw [e1,h3,e2] at h1;exact⟨ao,cap,h1,h2⟩
structure TQ(w w':World)(g n:Nat)(x:Ln):Prop where
 below:Below w.heap.size w w'
 lt:g<w'.heap.size
 c0:w'.cell? ⟨g,0,none⟩=some (.int .i64 1)
 c2:w'.cell? ⟨g,2,none⟩=some (.int .i64 0)
 l0:w'.cell? ⟨g,n*3,none⟩=some (.int .i64 (x.1:Int))
 l1:w'.cell? ⟨g,n*3+1,none⟩=some (.string ⟨x.2.1.toArray⟩)
 l2:w'.cell? ⟨g,n*3+2,none⟩=some (.int .i64 (x.2.2:Int))
theorem TQ.later{w1 w2:World}{g n:Nat}{x:Ln}(h:TQ w w1 g n x)(hB:Below w1.heap.size w1 w2):TQ w w2 g n x :=⟨h.below.trans (hB.mono h.below.size),Nat.lt_of_lt_of_le h.lt hB.size,(hB.cell (p:=⟨g,_,none⟩) h.lt).trans h.c0,(hB.cell (p:=⟨g,_,none⟩) h.lt).trans h.c2,(hB.cell (p:=⟨g,_,none⟩) h.lt).trans h.l0,(hB.cell (p:=⟨g,_,none⟩) h.lt).trans h.l1,(hB.cell (p:=⟨g,_,none⟩) h.lt).trans h.l2⟩
theorem tq_of{w':World}{lv:Value}{L:List Ln}{n:Nat}{t:Byt}{r:List Ln}{x:Ln}(hB:Below w.heap.size w w')(h:LnAt w' lv L)(hL:L=(1,t,0)::r)(hn:L.length=n+1)(hx:L.getLast? = some x):∃g cap,lv=.slice (some ⟨g,0,none⟩) (n+1) cap/\n+1<=cap/\TQ w w' g n x:=by
 obtain⟨ao,cap,rfl,hc,hk⟩:=h;obtain⟨g,rfl,hg,a0,_,a2⟩:=hk 0 (1,t,0) (by rw [hL];rfl);have hx2:L[n]?=some x:=by rw [List.getLast?_eq_getElem?,hn] at hx;simpa using hx
 obtain⟨g2,e,_,b0,b1,b2⟩:=hk n x hx2;simp only [Option.some.injEq,Addr.mk.injEq,and_true] at e;subst e;rw [hn] at hc ⊢;exact⟨g,cap,rfl,hc,hB,hg,by simpa using a0,by simpa using a2,b0,b1,b2⟩
theorem scr_set{base:Nat}{v:Value}{ins:List (ByteArray×Int)}{b:ByteArray}{f:Int}(h:w.ownsRow base TInp 2 v (ins.length+1) (ins.flatMap iL++[.string b,.int .i64 f])):∃g cap,v=.slice (some ⟨g,0,none⟩) (ins.length+1) cap/\ins.length+1<=cap/\base<=g/\g<w.heap.size/\w.cell? ⟨g,ins.length*2+1,none⟩=some (.int .i64 f)/\w.frozen? ⟨g,ins.length*2+1,none⟩=false/\∀f':Int,ScrAt (w.setCell ⟨g,ins.length*2+1,none⟩ (.int .i64 f')) v (ins++[(b,f')]):=by
 rcases h.2 with⟨hv,h0⟩ | ⟨g,cap,cur,hv,hg,hc,hcap,hsz,hsz2,hx⟩
 ·omega
 ·have at_:∀i u,(ins.flatMap iL++[.string b,.int .i64 f])[i]?=some u->w.cell? ⟨g,i,none⟩=some u:=fun i u hu=>by
   have:=h.cells (g:=g) (by rw [hv];rfl) i u hu
   rwa [Addr.add_lit,Nat.zero_add] at this
  have hl:=fG ins;have l0:=at_ (ins.length*2) (.string b) (by rw [List.getElem?_append_right (by omega),hl,Nat.sub_self];rfl);have l1:=at_ (ins.length*2+1) (.int .i64 f) (by rw [List.getElem?_append_right (by omega),hl,show ins.length*2+1-ins.length*2=1 by omega];rfl);refine⟨g,cap,hv,hcap,hg,aB hc,l1,aF hc _,fun f'=>⟨some ⟨g,0,none⟩,cap,by rw [hv,List.length_append];rfl,by rw [List.length_append];exact hcap,fun k i hi=>⟨g,rfl,by simpa [World.setCell] using aB hc,?_⟩⟩⟩;have hnew:=aD hc (ins.length*2+1) (.int .i64 f');have hcur:∀i,cur[i]?=w.cell? ⟨g,i,none⟩:=fun i=>(aA hc i).symm;have hlt:ins.length*2+1<cur.size:=by rw [<- hcur] at l1;exact(Array.getElem?_eq_some_iff.1 l1).1
  rw [aA hnew,aA hnew,Array.getElem?_setIfInBounds,Array.getElem?_setIfInBounds,hcur,hcur];rcases Nat.lt_or_ge k ins.length with hk | hk
  ·rw [List.getElem?_append_left hk] at hi;obtain⟨q1,q2⟩:=pM hi;rw [if_neg (by omega),if_neg (by omega)];exact⟨at_ _ _ (by rw [List.getElem?_append_left (List.getElem?_eq_some_iff.1 q1).1];exact q1),at_ _ _ (by rw [List.getElem?_append_left (List.getElem?_eq_some_iff.1 q2).1];exact q2)⟩
  ·rw [List.getElem?_append_right hk] at hi;have h0:=(List.getElem?_eq_some_iff.1 hi).1;have hk0:k-ins.length=0:=by simp at h0;omega
   rw [hk0] at hi;obtain rfl:(b,f')=i:=Option.some.inj hi;obtain rfl:k=ins.length:=by omega
   rw [if_neg (by omega),if_pos rfl,if_pos hlt];exact⟨l0,rfl⟩
structure CtI(w:World)(ins:List (ByteArray×Int))(b:ByteArray)(f:Int)(t:Byt)(lb:Nat)(w5:World)(v2:Value):Prop where
 below:Below w.heap.size w w5
 own:w5.ownsRow w.heap.size TInp 2 v2 (ins.length+1) (ins.flatMap iL++[.string b,.int .i64 f])
 last:w5.heap[lb]?=some (.cells #[.int .i64 2,.string ⟨t.toArray⟩,.int .i64 0] TLn (0,0))
theorem CtI.scr{ins:List (ByteArray×Int)}{b:ByteArray}{f:Int}{t:Byt}{w5:World}{v2:Value}(h:CtI w ins b f t lb w5 v2):ScrAt w5 v2 (ins++[(b,f)]):=scr_of (base:=w.heap.size) (by rw [encI_snoc,List.length_append];exact h.own)
structure CtJ(w:World)(ins:List (ByteArray×Int))(b:ByteArray)(t:Byt)(lb gs cs:Nat)(A:PO)(g1:Nat)(w6:World):Prop where
 below:Below w.heap.size w w6
 lt:w.heap.size<=gs/\gs<w6.heap.size
 cap:ins.length+1<=cs
 cell:w6.cell? ⟨gs,ins.length*2+1,none⟩≠none/\w6.frozen? ⟨gs,ins.length*2+1,none⟩=false
 scr:∀f':Int,ScrAt (w6.setCell ⟨gs,ins.length*2+1,none⟩ (.int .i64 f')) (.slice (some ⟨gs,0,none⟩) (ins.length+1) cs) (ins++[(b,f')])
 last:w6.heap[lb]?=some (.cells #[.int .i64 2,.string ⟨t.toArray⟩,.int .i64 0] TLn (0,0))
 ne:gs≠lb/\gs≠g1/\g1<w6.heap.size
 ans:CellsAt w6 g1 ins.length A
theorem ct_slow{ins:List (ByteArray×Int)}{b:ByteArray}{f:Nat}{t:Byt}{w5:World}{v2:Value}(h:Low w)(hl:ins.length+1<=b5)(hI:CtI w ins b (f:Int) t lb w5 v2) :Calls prog 19 #[v2] w5 fun e w'=>∃g1 gs cs,e=.returned (.slice (some ⟨g1,0,none⟩) (ins.length+1) (ins.length+1))/\v2=.slice (some ⟨gs,0,none⟩) (ins.length+1) cs/\Hid (CtJ w ins b t lb gs cs (hU ins b f) g1 w'):=by
 have hL:=h.below hI.below;refine(aBZ w5 v2 _ hI.scr (by rw [List.length_append];exact hl) hL.glob hL.tab hL.prm hL.gt hL.ge).mono (fun e w' hh=>?_);obtain⟨rv,rfl,k2,k3,g1,hg1,k4⟩:=hh;have hown:=gA hI.own (fun g hg=>k2.block g (hI.own.lt g hg).2);obtain⟨gs,cs,e1,e2,e3,e4,e5,e6,e7⟩:=scr_set hown;rw [List.length_append] at k4;subst k4;have hgs5:gs<w5.heap.size:=(hI.own.lt gs (by rw [e1];rfl)).2;obtain⟨g1',c1',q1,_,q3⟩:=row_at (f:=f) (b:=b) (ins:=ins) k3;simp only [Value.slice.injEq,Option.some.injEq,Addr.mk.injEq,and_true] at q1;obtain⟨rfl,_⟩:=q1;have hgl:g1<w'.heap.size:=World.block_lt_of_cell? _ _ q3.1;refine⟨g1,gs,cs,rfl,e1,hI.below.trans (k2.mono hI.below.size),⟨e3,e4⟩,e2,⟨by rw [e5];simp,e6⟩,by rw [<- e1];exact e7,(k2.block lb (aB hI.last)).trans hI.last,⟨fun e=>?_,by omega,hgl⟩,q3⟩;rcases hI.own.2 with⟨hv,_⟩ | ⟨g,cap,cur,hv,_,hc,_⟩
 ·rw [e1] at hv;cases hv
 ·rw [e1] at hv;simp only [Value.slice.injEq,Option.some.injEq,Addr.mk.injEq,true_and,and_true] at hv;obtain⟨rfl,_⟩:=hv;have:=hI.last;rw [<- e,hc] at this;simp only [Option.some.injEq,Obj.cells.injEq] at this;exact absurd this.2.1 (by unfold TInp TLn;decide)
structure CtK(w:World)(ins:List (ByteArray×Int))(t:Byt)(lb:Nat)(A B:PO)(g1 g2:Nat)(w8:World):Prop where
 below:Below w.heap.size w w8
 last:w8.cell? ⟨lb,1,none⟩=some (.string ⟨t.toArray⟩)
 a:CellsAt w8 g1 ins.length A
 b:CellsAt w8 g2 ins.length B
theorem aD2{ins:List (ByteArray×Int)}{b:ByteArray}{f:Nat}{t:Byt}{gs cs g1:Nat}{A:PO}{w6:World}(h:Low w)(hl:ins.length+1<=b5)(hJ:CtJ w ins b t lb gs cs A g1 w6) :Calls prog 19 #[.slice (some ⟨gs,0,none⟩) (ins.length+1) cs] (w6.setCell ⟨gs,ins.length*2+1,none⟩ (.int .i64 (f:Int))) fun e w'=>∃g2,e=.returned (.slice (some ⟨g2,0,none⟩) (ins.length+1) (ins.length+1))/\Hid (CtK w ins t lb A (hU ins b f) g1 g2 w'):=by have hg:=aE w6 gs (ins.length*2+1) (.int .i64 (f:Int));have hB7:Below w.heap.size w (w6.setCell ⟨gs,ins.length*2+1,none⟩ (.int .i64 (f:Int))):=hJ.below.grown hg hJ.below.size (fun j hj=>by obtain rfl:=Option.some.inj hj;exact hJ.lt.1);have hL:=h.below hB7;refine(aBZ _ _ _ (hJ.scr f) (by rw [List.length_append];exact hl) hL.glob hL.tab hL.prm hL.gt hL.ge).mono (fun e w' hh=>?_);obtain⟨rv,rfl,k2,k3,g2,hg2,k4⟩:=hh;rw [List.length_append] at k4;subst k4;obtain⟨g2',c2',q1,_,q3⟩:=row_at (f:=f) (b:=b) (ins:=ins) k3;simp only [Value.slice.injEq,Option.some.injEq,Addr.mk.injEq,and_true] at q1;obtain⟨rfl,_⟩:=q1;have hlb:=aB hJ.last;have blk:∀k,k<w6.heap.size->gs≠k->w'.heap[k]?=w6.heap[k]? := fun k hk hn=>(k2.block k (Nat.lt_of_lt_of_le hk hg.size)).trans (hg.block k hk (fun e=>hn (Option.some.inj e).symm));have c1:=blk g1 hJ.ne.2.2 hJ.ne.2.1;obtain⟨a0,a1,a2⟩:=hJ.ans;refine⟨g2,rfl,hB7.trans (k2.mono hB7.size),?_,⟨(World.cell?_of_block (w:=w6) c1).trans a0,(World.cell?_of_block (w:=w6) c1).trans a1,(World.cell?_of_block (w:=w6) c1).trans a2⟩,q3⟩;exact aA ((blk lb hlb hJ.ne.1).trans hJ.last) 1
theorem ct_no(w:World)(v:Value)(b:ByteArray)(c:Nat)(hc:c≠0)
  (HAw:Hid (Calls prog 26 #[] w fun e w'=>e=.returned (.bool true)/\Hid (Below w.heap.size w w')))
  (HT7:Hid (∀w1,Below w.heap.size w w1->Calls prog 23 #[.slice none 0 0,.string ⟨#[55]⟩,.int .i64 1000000] w1 fun e w'=>∃ao cap,e=.returned (.tuple #[.slice ao 2 cap,.int .i64 0])/\Hid (Below w.heap.size w w')))
  (HTr:Hid (∀w1,Below w.heap.size w w1->Calls prog 23 #[v,.string b,.int .i64 2000] w1 fun e w'=>∃ao cap,e=.returned (.tuple #[.slice ao 0 cap,.int .i64 (c:Int)])/\Hid (Below w.heap.size w w')))
  (HCk:Hid (∀w1,Below w.heap.size w w1->Calls prog 15 #[.string b] w1 fun e w'=>e=.returned (.int .i64 (c:Int))/\Hid (Below w.heap.size w w'))) :
  Calls prog 7 #[v,.string b] w fun e w'=>e=.returned (.bool true)/\Below w.heap.size w w':=by
 have hne:((c:Int)==0)=false:=by simpa using hc
 go_enter func7,ntmps7
 go_upto_region 2 with(go_at_call 26;refine Calls.mono HAw.out ?_;rintro e w1 ⟨rfl,HB1⟩)
 go_upto_region 3 with(go_at_call 23;refine Calls.mono (HT7.out _ HB1.out) ?_;rintro e w2 ⟨ao7,cap7,rfl,HB2⟩)
 go_upto_region 4 with fail
 go_upto_region 5 with(go_at_call 23;refine Calls.mono (HTr.out _ HB2.out) ?_;rintro e w3 ⟨ao3,cap3,rfl,HB3⟩)
 go_upto_region 7 with(go_at_call 15;refine Calls.mono (HCk.out _ HB3.out) ?_;rintro e w4 ⟨rfl,HB4⟩)
 clear HAw HT7 HTr HCk HB1 HB2 HB3;go_wp2_with fail;go_ret;exact⟨rfl,HB4.out⟩
theorem ct_long(w:World)(v:Value)(b:ByteArray)(n:Nat)(x:Ln)(hn:n+1=2000)
  (HAw:Hid (Calls prog 26 #[] w fun e w'=>e=.returned (.bool true)/\Hid (Below w.heap.size w w')))
  (HT7:Hid (∀w1,Below w.heap.size w w1->Calls prog 23 #[.slice none 0 0,.string ⟨#[55]⟩,.int .i64 1000000] w1 fun e w'=>∃ao cap,e=.returned (.tuple #[.slice ao 2 cap,.int .i64 0])/\Hid (Below w.heap.size w w')))
  (HTr:Hid (∀w1,Below w.heap.size w w1->Calls prog 23 #[v,.string b,.int .i64 2000] w1 fun e w'=>∃g cap,e=.returned (.tuple #[.slice (some ⟨g,0,none⟩) (n+1) cap,.int .i64 0])/\n+1<=cap/\Hid (TQ w w' g n x)))
  (HCk:Hid (∀w1 g,TQ w w1 g n x->Calls prog 15 #[.string b] w1 fun e w'=>e=.returned (.int .i64 0)/\Hid (TQ w w' g n x))) :
  Calls prog 7 #[v,.string b] w fun e w'=>e=.returned (.bool true)/\Below w.heap.size w w':=by
 obtain rfl:n=1999:=by omega
 go_enter func7,ntmps7
 go_upto_region 2 with(go_at_call 26;refine Calls.mono HAw.out ?_;rintro e w1 ⟨rfl,HB1⟩)
 go_upto_region 3 with(go_at_call 23;refine Calls.mono (HT7.out _ HB1.out) ?_;rintro e w2 ⟨ao7,cap7,rfl,HB2⟩)
 go_upto_region 4 with fail
 go_upto_region 5 with(go_at_call 23;refine Calls.mono (HTr.out _ HB2.out) ?_;rintro e w3 ⟨g,cap3,rfl,hcap3,HQ3⟩)
 go_upto_region 7 with(go_at_call 15;refine Calls.mono (HCk.out _ _ HQ3.out) ?_;rintro e w4 ⟨rfl,HQ4⟩)
 obtain⟨hB4,hg4,c0,c2,l0,l1,l2⟩:=HQ4.out;clear HAw HT7 HTr HCk HB1 HB2 HQ3;have HB4:Hid (Below w.heap.size w w4):=hB4;clear hB4 HQ4;obtain⟨x1,xt,x2⟩:=x;dsimp only [Nat.reduceMul,Nat.reduceAdd] at *;go_wp2_with fail;go_ret;exact⟨rfl,HB4.out.alloc HB4.out.size _⟩
theorem ct_work(w:World)(v:Value)(b:ByteArray)(n:Nat)(x:Ln)(hn:n+1<2000)(hx:x.1≠2)
  (HAw:Hid (Calls prog 26 #[] w fun e w'=>e=.returned (.bool true)/\Hid (Below w.heap.size w w')))
  (HT7:Hid (∀w1,Below w.heap.size w w1->Calls prog 23 #[.slice none 0 0,.string ⟨#[55]⟩,.int .i64 1000000] w1 fun e w'=>∃ao cap,e=.returned (.tuple #[.slice ao 2 cap,.int .i64 0])/\Hid (Below w.heap.size w w')))
  (HTr:Hid (∀w1,Below w.heap.size w w1->Calls prog 23 #[v,.string b,.int .i64 2000] w1 fun e w'=>∃g cap,e=.returned (.tuple #[.slice (some ⟨g,0,none⟩) (n+1) cap,.int .i64 0])/\n+1<=cap/\Hid (TQ w w' g n x)))
  (HCk:Hid (∀w1 g,TQ w w1 g n x->Calls prog 15 #[.string b] w1 fun e w'=>e=.returned (.int .i64 0)/\Hid (TQ w w' g n x))) :
  Calls prog 7 #[v,.string b] w fun e w'=>e=.returned (.bool true)/\Below w.heap.size w w':=by
 have hd:((n:Int)+1==2000)=false:=by simp;omega
 have hd1:((x.1:Int)==2)=false:=by simp;omega
 have hw0:IntKind.i64.wrap (n:Int)=(n:Int):=IntWalk.i64_in _ (by omega);have hz:((n:Int)+1==0)=false:=by simp;omega
 go_enter func7,ntmps7
 go_upto_region 2 with(go_at_call 26;refine Calls.mono HAw.out ?_;rintro e w1 ⟨rfl,HB1⟩)
 go_upto_region 3 with(go_at_call 23;refine Calls.mono (HT7.out _ HB1.out) ?_;rintro e w2 ⟨ao7,cap7,rfl,HB2⟩)
 go_upto_region 4 with fail
 go_upto_region 5 with(go_at_call 23;refine Calls.mono (HTr.out _ HB2.out) ?_;rintro e w3 ⟨g,cap3,rfl,hcap3,HQ3⟩)
 go_upto_region 7 with(go_at_call 15;refine Calls.mono (HCk.out _ _ HQ3.out) ?_;rintro e w4 ⟨rfl,HQ4⟩)
 obtain⟨hB4,hg4,c0,c2,l0,l1,l2⟩:=HQ4.out;clear HAw HT7 HTr HCk HB1 HB2 HQ3;have HB4:Hid (Below w.heap.size w w4):=hB4;clear hB4 HQ4;obtain⟨x1,xt,x2⟩:=x;dsimp only at *;go_wp2_with fail;go_ret;exact⟨rfl,HB4.out.alloc HB4.out.size _⟩
theorem ct_fr(w:World)(v:Value)(b:ByteArray)(n:Nat)(x:Ln)(hn:n+1<2000)(hx:x.1=2)(hy:x.2.2≠0)
  (HAw:Hid (Calls prog 26 #[] w fun e w'=>e=.returned (.bool true)/\Hid (Below w.heap.size w w')))
  (HT7:Hid (∀w1,Below w.heap.size w w1->Calls prog 23 #[.slice none 0 0,.string ⟨#[55]⟩,.int .i64 1000000] w1 fun e w'=>∃ao cap,e=.returned (.tuple #[.slice ao 2 cap,.int .i64 0])/\Hid (Below w.heap.size w w')))
  (HTr:Hid (∀w1,Below w.heap.size w w1->Calls prog 23 #[v,.string b,.int .i64 2000] w1 fun e w'=>∃g cap,e=.returned (.tuple #[.slice (some ⟨g,0,none⟩) (n+1) cap,.int .i64 0])/\n+1<=cap/\Hid (TQ w w' g n x)))
  (HCk:Hid (∀w1 g,TQ w w1 g n x->Calls prog 15 #[.string b] w1 fun e w'=>e=.returned (.int .i64 0)/\Hid (TQ w w' g n x))) :
  Calls prog 7 #[v,.string b] w fun e w'=>e=.returned (.bool true)/\Below w.heap.size w w':=by
 have hd:((n:Int)+1==2000)=false:=by simp;omega
 have hd1:((x.1:Int)==2)=true:=by simp;omega
 have hd2:((x.2.2:Int)==0)=false:=by simp;omega
 have hw0:IntKind.i64.wrap (n:Int)=(n:Int):=IntWalk.i64_in _ (by omega);have hz:((n:Int)+1==0)=false:=by simp;omega
 go_enter func7,ntmps7
 go_upto_region 2 with(go_at_call 26;refine Calls.mono HAw.out ?_;rintro e w1 ⟨rfl,HB1⟩)
 go_upto_region 3 with(go_at_call 23;refine Calls.mono (HT7.out _ HB1.out) ?_;rintro e w2 ⟨ao7,cap7,rfl,HB2⟩)
 go_upto_region 4 with fail
 go_upto_region 5 with(go_at_call 23;refine Calls.mono (HTr.out _ HB2.out) ?_;rintro e w3 ⟨g,cap3,rfl,hcap3,HQ3⟩)
 go_upto_region 7 with(go_at_call 15;refine Calls.mono (HCk.out _ _ HQ3.out) ?_;rintro e w4 ⟨rfl,HQ4⟩)
 obtain⟨hB4,hg4,c0,c2,l0,l1,l2⟩:=HQ4.out;clear HAw HT7 HTr HCk HB1 HB2 HQ3;have HB4:Hid (Below w.heap.size w w4):=hB4;clear hB4 HQ4;obtain⟨x1,xt,x2⟩:=x;dsimp only at *;go_wp2_with fail;go_ret;exact⟨rfl,HB4.out.alloc HB4.out.size _⟩
end
end Go.Proofs.YtkgbdddkcjpgfaaGreatDoor
