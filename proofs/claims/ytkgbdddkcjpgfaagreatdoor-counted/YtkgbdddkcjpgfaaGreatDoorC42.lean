import Derived.Test.YtkgbdddkcjpgfaaGreatDoorC31
import Derived.Lib.ItoaLen
import Derived.Lib.AppendIntMem
import Derived.Test.YtkgbdddkcjpgfaaGreatDoorC41
import Derived.Test.YtkgbdddkcjpgfaaGreatDoorC06
import Derived.Test.YtkgbdddkcjpgfaaGreatDoorC14
import Derived.Deep.SlicePairs
import Derived.WideShapes
import Derived.ChangeMaps5
import Derived.Test.YtkgbdddkcjpgfaaGreatDoorRows
import Derived.OpenShut
import Derived.ChangeSame
import Derived.FnData
import Derived.ReadAgain
namespace Go.Proofs.YtkgbdddkcjpgfaaGreatDoor
set_option maxHeartbeats 1000000
set_option maxRecDepth 100000
section
open Go.RowKit
theorem pM:∀{ins:List (ByteArray×Int)} {k:Nat} {i:ByteArray×Int},ins[k]?=some i->(ins.flatMap iL)[k*2]?=some (.string i.1)/\(ins.flatMap iL)[k*2+1]?=some (.int .i64 i.2)
 | [],_,_,h=>by simp at h
 | x::r,0,i,h=>by simp only [List.getElem?_cons_zero,Option.some.injEq] at h;subst h;simp [iL]
 | x::r,k+1,i,h=>by rw [List.getElem?_cons_succ] at h;obtain⟨h1,h2⟩:=pM h;rw [List.flatMap_cons,show(k+1)*2=k*2+1+1 from by omega];exact⟨by simpa [iL] using h1,by simpa [iL] using h2⟩
theorem scr_of{w:World}{base:Nat}{v:Value}{ins:List (ByteArray×Int)}(h:w.ownsRow base TInp 2 v ins.length (ins.flatMap iL)):ScrAt w v ins:=by
 rcases h.2 with⟨hv,h0⟩ | ⟨g,cap,cur,hv,_,hg,hc,_,_,ht⟩
 ·have:ins=[]:=List.eq_nil_of_length_eq_zero h0;subst this;exact⟨none,0,hv,Nat.le_refl _,fun k i hi=>by simp at hi⟩
 ·refine⟨some ⟨g,0,none⟩,cap,hv,hc,fun k i hi=>⟨g,rfl,aB hg,?_,?_⟩⟩
  ·have:=h.cells (g:=g) (by rw [hv];rfl) (k*2) (.string i.1) (pM hi).1
   rwa [Addr.add_lit,Nat.zero_add] at this
  ·have:=h.cells (g:=g) (by rw [hv];rfl) (k*2+1) (.int .i64 i.2) (pM hi).2
   rwa [Addr.add_lit,Nat.zero_add] at this
end
open Pl (PO)
section
open Go.RowKit Go.Lib Go.Maps
variable {w:World} {v:Value}
theorem OutAt.below{w':World}{l:List PO}(h:OutAt w v l)(hb:Below w.heap.size w w'):OutAt w' v l:=by obtain⟨ao,cap,e,hc,hk⟩:=h;refine⟨ao,cap,e,hc,fun k o ho=>?_⟩;obtain⟨g,e1,hg,d1,d2,d3⟩:=hk k o ho;exact⟨g,e1,Nat.lt_of_lt_of_le hg hb.size,(hb.cell (p:=⟨g,_,none⟩) hg).trans d1,(hb.cell (p:=⟨g,_,none⟩) hg).trans d2,(hb.cell (p:=⟨g,_,none⟩) hg).trans d3⟩
theorem ScrAt.below{w':World}{l:List (ByteArray×Int)}(h:ScrAt w v l)(hb:Below w.heap.size w w'):ScrAt w' v l:=by obtain⟨ao,cap,e,hc,hk⟩:=h;refine⟨ao,cap,e,hc,fun k o ho=>?_⟩;obtain⟨g,e1,hg,d1,d2⟩:=hk k o ho;exact⟨g,e1,Nat.lt_of_lt_of_le hg hb.size,(hb.cell (p:=⟨g,_,none⟩) hg).trans d1,(hb.cell (p:=⟨g,_,none⟩) hg).trans d2⟩
theorem ScrAt.slice{l:List (ByteArray×Int)}(h:ScrAt w v l):∃ao n cap,v=.slice ao n cap:=by obtain⟨ao,cap,e,_⟩:=h;exact⟨ao,_,cap,e⟩
theorem OutAt.slice{l:List PO}(h:OutAt w v l):∃ao n cap,v=.slice ao n cap:=by obtain⟨ao,cap,e,_⟩:=h;exact⟨ao,_,cap,e⟩
end
open Go.Proofs.Tryz
open Pl (arity)
section
open Go.ChangeShapes Go.WideShapes Go.RowKit Go.Deep
variable {W:World}
theorem Tryz.cellsIn:prog.cellsOf 41=2:=by kernel_rfl
theorem Tryz.cellsI:prog.cellsOf 3=1:=by kernel_rfl
theorem Tryz.cellsSt:prog.cellsOf 9=1:=by kernel_rfl
def inOf(a b:Value):ByteArray×Int:=match a,b with
 | .string s,.int _ n=>(s,n)
 | _,_=>(ByteArray.empty,0)
theorem rK{H:Type}{enc:TypeId×Value->H}{W':World}{base:Nat}{t:TypeId}{v:Value}{d:DataW H}{ps:List MemPlace}(hd:DataW.Trod enc prog W base (fun _=>true) true t v d ps)(hl:∀p∈ps,p.block<W.heap.size)(hb:Below W.heap.size W W'):DataW.Trod enc prog W' base (fun _=>true) true t v d ps:=by obtain⟨fuel,hf⟩:=hd;exact⟨fuel,DataW.trod_carry fuel t _ _ hf (fun p hp=>hb.same (hl p hp))⟩
theorem Tryz.gPrm:prog.globalNamed "stepper/value.primitives"=some 1:=by kernel_rfl
theorem Tryz.gPrmT:(prog.globals[1]?).map (·.type)=some 245:=by kernel_rfl
theorem Tryz.cells244:prog.cellsOf 244=2:=by kernel_rfl
def primD:List (DataW Unit):=Pl.prims.take 12 |>.map fun nm=>.agg [.lit (.string nm),.lit (.int .i64 (arity nm:Nat))]
theorem sY:(Rows.laid_stepper_value_primitives:DataW Unit)=.agg primD:=rfl
theorem oQ{rest:List (String×DataW Unit)}(h:laidMet prog (("stepper/value.primitives",Rows.laid_stepper_value_primitives)::rest) W):Prm W:=by
 obtain⟨ps,⟨g',t',cs,fuel,p,q,hg',ht',hvar,hd,_,_⟩,_⟩:=h;obtain rfl:=Option.some.inj (Tryz.gPrm.symm.trans hg');obtain rfl:=Option.some.inj (Tryz.gPrmT.symm.trans ht');rw [sY] at hd;obtain⟨xs,m,_,hx,hl,hn,hall⟩:=DataW.trod_array Tryz.under245 hd;simp only [Prod.mk.injEq,DataW.agg.injEq] at hx;intro k nm hk h12;have hi:=hall k h12;obtain⟨x,hxk⟩:∃x,xs[k]?=some x:=⟨xs[k]'(by omega),List.getElem?_eq_getElem _⟩
 rw [hxk,Tryz.cells244] at hi
 have hx1:x.1=.agg [.lit (.string nm),.lit (.int .i64 (arity nm:Nat))]:=by
  have e:(xs.map (·.1))[k]?=some x.1:=by rw [List.getElem?_map,hxk];rfl
  rw [<- hx.1] at e;unfold primD at e;rw [List.getElem?_map,List.getElem?_take_of_lt h12,hk] at e;exact(Option.some.inj e).symm
 obtain⟨y0,y1,n,e1,_,e3,e4⟩:=trod_struct2 underlying244 hi;obtain⟨s,f1,f2,_⟩:=DataW.trod_string underlying9 e3;obtain⟨z,f3,f4,_⟩:=DataW.trod_int underlying3 e4;rw [e1,f2,f4] at hx1;simp only [DataW.agg.injEq,List.cons.injEq,DataW.lit.injEq,Lit.string.injEq,Lit.int.injEq,and_true,true_and] at hx1;obtain⟨g1,g2⟩:=hx1;rw [show prog.cellsOf 9=1 from Tryz.cellsSt] at f1;rw [show prog.cellsOf 3=1 from Tryz.cellsI] at f3;have get:∀(l:List Value)(i j:Nat)(u:Value),((l.drop i).drop j).take 1=[u]->l[i+j]?=some u:=fun l i j u hu=>by have:=congrArg (fun l=>l[0]?) hu;simpa using this
 have c0:cs.toList[k*2+0]?=some (.string s):=by have:=congrArg (fun l=>l[0]?) f1;simpa [List.getElem?_take,List.getElem?_drop] using this
 have c1:cs.toList[k*2+1]?=some (.int .i64 z):=by have:=congrArg (fun l=>l[0]?) f3;simpa [List.getElem?_take,List.getElem?_drop] using this
 have es:s=⟨nm.toArray⟩:=by obtain⟨⟨sl⟩⟩:=s;simp only at g1;rw [<- g1]
 rw [World.var?_cell Tryz.gPrm hvar,World.var?_cell Tryz.gPrm hvar];rw [es] at c0;rw [g2] at c1;exact⟨by simpa using c0,by simpa using c1⟩
def InT(t:TypeId):Prop:=t=26\/t=41\/t=9\/t=3
theorem kidsIn:Kids prog InT:=by
 refine⟨fun {t e} hT h=>?_,fun {t e} hT h=>?_,fun {t e n} hT h=>?_,fun {t fs} hT h=>?_,fun {t k e} hT h=>?_⟩
 ·rcases hT with rfl | rfl | rfl | rfl
  ·rw [underlying26] at h;cases h
  ·rw [underlying41] at h;cases h
  ·rw [underlying9] at h;cases h
  ·rw [underlying3] at h;cases h
 ·rcases hT with rfl | rfl | rfl | rfl
  ·rw [underlying26] at h;cases h;exact .inr (.inl rfl)
  ·rw [underlying41] at h;cases h
  ·rw [underlying9] at h;cases h
  ·rw [underlying3] at h;cases h
 ·rcases hT with rfl | rfl | rfl | rfl
  ·rw [underlying26] at h;cases h
  ·rw [underlying41] at h;cases h
  ·rw [underlying9] at h;cases h
  ·rw [underlying3] at h;cases h
 ·rcases hT with rfl | rfl | rfl | rfl
  ·rw [underlying26] at h;cases h
  ·rw [underlying41] at h
   cases h
   refine⟨fun f hf=>?_,?_,fun j f hf=>?_⟩
   ·simp only [List.mem_cons,List.not_mem_nil,or_false] at hf;rcases hf with rfl | rfl
    ·exact .inr (.inr (.inl rfl))
    ·exact .inr (.inr (.inr rfl))
   ·rw [Tryz.cellsIn];simp [Tryz.cellsSt,Tryz.cellsI]
   ·rcases j with _ | _ | j
    ·obtain rfl:=Option.some.inj hf;rfl
    ·obtain rfl:=Option.some.inj hf;simp [Tryz.cellsSt]
    ·cases hf
  ·rw [underlying9] at h;cases h
  ·rw [underlying3] at h;cases h
 ·rcases hT with rfl | rfl | rfl | rfl
  ·rw [underlying26] at h;cases h
  ·rw [underlying41] at h;cases h
  ·rw [underlying9] at h;cases h
  ·rw [underlying3] at h;cases h
theorem tX{H:Type}{enc:TypeId×Value->H}{W':World}{v:Value}{d:DataW H}{ps:List MemPlace}(hd:DataW.Trod enc prog W 0 (fun _=>true) true 26 v d ps)(hl:∀p∈ps,p.block<W.heap.size)(hb:Below W.heap.size W W'):DataW.Trod enc prog W' 0 (fun b=>decide (b<W.heap.size)) true 26 v d ps :=
 (rK hd hl hb).respare kidsIn (fun t e hT h=>by
  rcases hT with rfl | rfl | rfl | rfl
  ·rw [underlying26] at h;cases h;rw [Tryz.cellsIn];omega
  ·rw [underlying41] at h;cases h
  ·rw [underlying9] at h;cases h
  ·rw [underlying3] at h;cases h) (.inl rfl) (fun p hp=>decide_eq_true (hl p hp))
end
open Pl (newW)
section
open Go.RowKit Go.Lib Go.Maps
variable {w:World}
structure Low(w:World):Prop where
 glob:8<=w.heap.size
 tab:Lib.TabIs prog w oS .u64 Lib.pow10Tab
 prm:Prm w
 gt:GT w
 ge:GE w
theorem Low.below{w1:World}(h:Low w)(hB:Below w.heap.size w w1):Low w1:=by
 have hgs:Gs w (fun _=>False):=⟨h.glob,fun _ _ h=>h,h.tab⟩
 have g1:=hgs.below hB;exact⟨g1.size,g1.tab,h.prm.stp hgs (Stp.of_below hB),h.gt.below hB,h.ge.below hB⟩
theorem p_slowL(w:World)(v:Value)(ins:List (ByteArray×Int))(hS:ScrAt w v ins)(hl:ins.length<=b5)(h:Low w) :Calls prog 19 #[v] w fun e w'=>∃rv,e=.returned rv/\Below w.heap.size w w'/\OutAt w' rv (Pl.session newW (ins.map inP)).2:=p_slow w v ins hS hl h.glob h.tab h.prm h.gt h.ge
theorem p_inK(w:World)(s:ByteArray):Calls prog 35 #[.string s] w fun e w'=>e=.returned (.agg #[.string s,.int .i64 2000])/\Below w.heap.size w w':=by
 go_enter func35,ntmps35
 go_wp2_with fail
 (try simp only [Exit.inBlock,Exit.then])
 refine bodyPost_ret (v:=.agg #[.string s,.int .i64 2000]) ?_ rfl ?_
 ·rw [aO rfl]
  go_simp
  try rfl
 exact⟨rfl,(Below.refl _ _).alloc (Nat.le_refl _) _⟩
theorem b6{a b:ByteArray}:a.toList=b.toList↔a=b:=by rw [Lib.toList_data,Lib.toList_data];exact⟨fun e=>by cases a;cases b;simpa using e,fun e=>by rw [e]⟩
theorem aAT(w:World)(c:Int)(o t a b:ByteArray):Calls prog 39 #[.agg #[.int .i64 c,.string o,.string t],.string a,.string b] w fun e w'=>e=.returned (.bool (decide (c=0/\t=a/\o=b)))/\Below w.heap.size w w':=by
 by_cases h1:c=0
 ·by_cases h2:t=a
  ·by_cases h3:o=b
   ·subst h1 h2 h3;go_enter func39,ntmps39;go_wp2_with fail;go_ret;exact⟨by simp,(Below.refl _ _).alloc (Nat.le_refl _) _⟩
   ·subst h1 h2;have hb:(o.toList==b.toList)=false:=by rw [beq_eq_false_iff_ne];exact fun e=>h3 (by rw [<- b6];exact e)
    go_enter func39,ntmps39
    go_wp2_with fail
    go_ret;exact⟨by simp [h3],(Below.refl _ _).alloc (Nat.le_refl _) _⟩
  ·subst h1;have hb:(t.toList==a.toList)=false:=by rw [beq_eq_false_iff_ne];exact fun e=>h2 (by rw [<- b6];exact e)
   go_enter func39,ntmps39
   go_wp2_with fail
   go_ret;exact⟨by simp [h2],(Below.refl _ _).alloc (Nat.le_refl _) _⟩
 ·have hb:(c==0)=false:=by simpa using h1
  go_enter func39,ntmps39
  go_wp2_with fail
  go_ret;exact⟨by simp [h1],(Below.refl _ _).alloc (Nat.le_refl _) _⟩
def awakeI:List (ByteArray×Int):=[(⟨#[55]⟩,1),(⟨#[55]⟩,0),(⟨#[120]⟩,2000),(⟨#[40]⟩,2000),(⟨#[55]⟩,1000000)]
theorem u5:(Pl.session newW (awakeI.map inP)).2=[⟨0,[],[55]⟩,⟨7,[],[]⟩,⟨8,[],[]⟩,⟨2,[],[]⟩,⟨0,[],[55]⟩]:=by kernel_rfl
theorem qB{l:List (ByteArray×Int)}{g:Nat}{cs:Array Value}{T:TypeId}(hb:w.heap[g]?=some (.cells cs T (0,0)))(h:∀(k:Nat)(i:ByteArray×Int),l[k]?=some i->cs[k*2]?=some (.string i.1)/\cs[k*2+1]?=some (.int .i64 i.2))(cap:Nat)(hc:l.length<=cap):ScrAt w (.slice (some ⟨g,0,none⟩) l.length cap) l :=⟨some ⟨g,0,none⟩,cap,rfl,hc,fun k i hi=>⟨g,rfl,aB hb,(aA hb _).trans (h k i hi).1,(aA hb _).trans (h k i hi).2⟩⟩
def m5:Array Value:=#[.string ⟨#[55]⟩,.int .i64 1,.string ⟨#[55]⟩,.int .i64 0,.string ⟨#[120]⟩,.int .i64 2000,.string ⟨#[40]⟩,.int .i64 2000,.string ⟨#[55]⟩,.int .i64 1000000]
theorem y3(w:World):ScrAt (w.alloc (.cells m5 41)) (.slice (some ⟨w.heap.size,0,none⟩) 5 5) awakeI:=by refine qB (l:=awakeI) (heap_alloc_new w _) (fun k i hi=>?_) 5 (by decide);have hk:k<5:=(List.getElem?_eq_some_iff.1 hi).1;rcases(show k=0\/k=1\/k=2\/k=3\/k=4 from by omega) with rfl | rfl | rfl | rfl | rfl<;>(obtain rfl:=Option.some.inj hi;exact⟨rfl,rfl⟩)
def AwQ(w w':World)(g cap:Nat):Prop:=Below w.heap.size w w'/\5<=cap/\g<w'.heap.size/\w'.cell? ⟨g,0,none⟩=some (.int .i64 0)/\w'.cell? ⟨g,1,none⟩=some (.string ⟨#[]⟩)/\w'.cell? ⟨g,2,none⟩=some (.string ⟨#[55]⟩)/\w'.cell? ⟨g,3,none⟩=some (.int .i64 7)/\w'.cell? ⟨g,6,none⟩=some (.int .i64 8)/\w'.cell? ⟨g,9,none⟩=some (.int .i64 2)/\w'.cell? ⟨g,12,none⟩=some (.int .i64 0)/\w'.cell? ⟨g,13,none⟩=some (.string ⟨#[]⟩)/\w'.cell? ⟨g,14,none⟩=some (.string ⟨#[55]⟩)
theorem AwQ.later{w1 w2:World}{g cap:Nat}(h:AwQ w w1 g cap)(hB:Below w1.heap.size w1 w2):AwQ w w2 g cap:=by obtain⟨h1,h2,h3,a0,a1,a2,a3,a4,a5,a6,a7,a8⟩:=h;exact⟨h1.trans (hB.mono h1.size),h2,Nat.lt_of_lt_of_le h3 hB.size,(hB.cell (p:=⟨g,_,none⟩) h3).trans a0,(hB.cell (p:=⟨g,_,none⟩) h3).trans a1,(hB.cell (p:=⟨g,_,none⟩) h3).trans a2,(hB.cell (p:=⟨g,_,none⟩) h3).trans a3,(hB.cell (p:=⟨g,_,none⟩) h3).trans a4,(hB.cell (p:=⟨g,_,none⟩) h3).trans a5,(hB.cell (p:=⟨g,_,none⟩) h3).trans a6,(hB.cell (p:=⟨g,_,none⟩) h3).trans a7,(hB.cell (p:=⟨g,_,none⟩) h3).trans a8⟩
theorem awake_q{w':World}{rv:Value}(hB:Below w.heap.size w w')(h:OutAt w' rv [⟨0,[],[55]⟩,⟨7,[],[]⟩,⟨8,[],[]⟩,⟨2,[],[]⟩,⟨0,[],[55]⟩]):∃g cap,rv=.slice (some ⟨g,0,none⟩) 5 cap/\AwQ w w' g cap:=by obtain⟨ao,cap,rfl,hc,hk⟩:=h;obtain⟨g,rfl,hg,a0,a1,a2⟩:=hk 0 _ rfl;obtain⟨g1,e1,_,b0,_,_⟩:=hk 1 _ rfl;obtain⟨g2,e2,_,c0,_,_⟩:=hk 2 _ rfl;obtain⟨g3,e3,_,d0,_,_⟩:=hk 3 _ rfl;obtain⟨g4,e4,_,f0,f1,f2⟩:=hk 4 _ rfl;simp only [Option.some.injEq,Addr.mk.injEq,and_true] at e1 e2 e3 e4;subst e1 e2 e3 e4;exact⟨g,cap,rfl,hB,hc,hg,a0,a1,a2,b0,c0,d0,f0,f1,f2⟩
theorem p_awake(w:World)(h:Low w):Calls prog 26 #[] w fun e w'=>e=.returned (.bool true)/\Below w.heap.size w w':=by
 have HI:Hid (∀(w1:World)(s:ByteArray),Below w.heap.size w w1->Calls prog 35 #[.string s] w1 fun e w'=>e=.returned (.agg #[.string s,.int .i64 2000])/\Hid (Below w.heap.size w w')):=fun w1 s hB=>(p_inK w1 s).mono (fun e w' ⟨k1,k2⟩=>⟨k1,hB.trans (k2.mono hB.size)⟩);have HS:Hid (∀w2:World,Below w.heap.size w w2->Calls prog 19 #[.slice (some ⟨w2.heap.size,0,none⟩) 5 5] (w2.alloc (.cells m5 41)) fun e w'=>∃g cap,e=.returned (.slice (some ⟨g,0,none⟩) 5 cap)/\Hid (AwQ w w' g cap)):=fun w2 hB=>by have hB2:Below w.heap.size w (w2.alloc (.cells m5 41)):=hB.alloc hB.size _;refine(p_slowL _ _ awakeI (y3 w2) (by decide) (h.below hB2)).mono (fun e w' ⟨rv,k1,k2,k3⟩=>?_);rw [u5] at k3;obtain⟨g,cap,rfl,hq⟩:=awake_q (hB2.trans (k2.mono hB2.size)) k3;exact⟨g,cap,k1,hq⟩
 have HE:Hid (∀w1 g cap,AwQ w w1 g cap->Calls prog 39 #[.agg #[.int .i64 0,.string ⟨#[]⟩,.string ⟨#[55]⟩],.string ⟨#[55]⟩,.string ⟨#[]⟩] w1 fun e w'=>e=.returned (.bool true)/\Hid (AwQ w w' g cap)):=fun w1 g cap hq=>(aAT w1 0 _ _ _ _).mono (fun e w' ⟨k1,k2⟩=>⟨by rw [k1];simp,hq.later k2⟩);unfold m5 at HS;clear h;go_enter func26,ntmps26
 go_wp2_with (first
  | (go_at_call 35;refine(HI.out _ _ (by first | exact HB1.out | exact Below.refl _ _)).mono ?_;rintro e w1 ⟨rfl,HB1⟩)
  | (go_at_call 19;refine(HS.out _ HB1.out).mono ?_;rintro e w3 ⟨g,cap,rfl,HQ⟩;obtain⟨_,hcap,hg,a0,a1,a2,a3,a4,a5,a6,a7,a8⟩:=HQ.out)
  | (go_at_call 39;refine(HE.out _ _ _ HQ.out).mono ?_;rintro e w4 ⟨rfl,HQ4⟩;clear HQ a0 a1 a2 a3 a4 a5 a6 a7 a8;have HQ:=HQ4;clear HQ4;obtain⟨_,hcap,hg,a0,a1,a2,a3,a4,a5,a6,a7,a8⟩:=HQ.out))
 go_ret;exact⟨rfl,HQ.out.1⟩
end
end Go.Proofs.YtkgbdddkcjpgfaaGreatDoor
