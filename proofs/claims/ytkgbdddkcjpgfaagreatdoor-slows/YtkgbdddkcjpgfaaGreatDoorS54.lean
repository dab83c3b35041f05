/- For every script stepperlaw.Slows returns true (what Slow answers to the script, cut to 60 inputs and fuels of 3000, and to 7 behind it, is what the document's reference answers) and the script reads as it did: the tied card. Conditions: the package-level variables start as the program's text lays them (tied by the given tie); the card's own looks. -/
import Derived.Test.YtkgbdddkcjpgfaaGreatDoorS44
import Derived.Test.YtkgbdddkcjpgfaaGreatDoorS52
import Derived.Test.YtkgbdddkcjpgfaaGreatDoorS18
import Derived.Deep.SlicePairs
import Derived.WideShapes
import Derived.ChangeMaps5
import Derived.Test.YtkgbdddkcjpgfaaGreatDoorRows
import Derived.OpenShut
import Derived.ChangeSame
import Derived.FnData
import Derived.ReadAgain
import Derived.LaidLaws
import Derived.Leaving
import Derived.Conc.HoldsTime
import Derived.ProofKit
import Derived.LaidMore
import Derived.LaidHandle
import Derived.Stop.Joined
import Derived.Stop.LaidErr
import Derived.Test.YtkgbdddkcjpgfaaGreatDoorS53
import Derived.Test.YtkgbdddkcjpgfaaGreatDoorTie
import Derived.Test.YtkgbdddkcjpgfaaGreatDoorCards
import Derived.SevenTiedAt
namespace Go.Proofs.YtkgbdddkcjpgfaaGreatDoor
set_option maxHeartbeats 1000000
set_option maxRecDepth 100000
section
open Go.RowKit
theorem tU(fuel:Int)(ins:List (ByteArray×Int)):(eD fuel ins).length<=61:=by unfold eD;simp;omega
theorem xL(ins:List (ByteArray×Int))(hs:∀i∈ins,i.1.size<=maxLen)(fuel:Int)(hf:fuel<=3000):∀i∈eD fuel ins,tJ (inP i)/\i.1.size<=maxLen:=by
 intro i hi;unfold eD at hi;rcases List.mem_append.1 hi with hi | hi
 ·obtain⟨⟨s,n⟩,hj,rfl⟩:=List.mem_map.1 hi;have hsz:=hs _ (List.mem_of_mem_take hj);unfold jT;by_cases h:fuel<n/\n<=1000000
  ·rw [if_pos h];exact⟨.inr (.inl hf),hsz⟩
  ·rw [if_neg h];refine⟨?_,hsz⟩;by_cases h1:1000000<n
   ·exact .inl (by simp [Pl.over,inP,h1])
   ·refine .inr (.inl ?_);show n<=3000;omega
 ·simp only [List.mem_singleton] at hi;subst hi;exact⟨.inr (.inr rfl),by simp [maxLen,ByteArray.size]⟩
theorem pM:∀{ins:List (ByteArray×Int)} {k:Nat} {i:ByteArray×Int},ins[k]?=some i->(ins.flatMap iL)[k*2]?=some (.string i.1)/\(ins.flatMap iL)[k*2+1]?=some (.int .i64 i.2)
 | [],_,_,h=>by simp at h
 | x::r,0,i,h=>by simp only [List.getElem?_cons_zero,Option.some.injEq] at h;subst h;simp [iL]
 | x::r,k+1,i,h=>by rw [List.getElem?_cons_succ] at h;obtain⟨h1,h2⟩:=pM h;rw [List.flatMap_cons,show(k+1)*2=k*2+1+1 from by omega];exact⟨by simpa [iL] using h1,by simpa [iL] using h2⟩
theorem scr_of{w:World}{base:Nat}{v:Value}{ins:List (ByteArray×Int)}(h:w.ownsRow base TInp 2 v ins.length (ins.flatMap iL)):ScrAt w v ins:=by
 rcases h.2 with⟨hv,h0⟩ | ⟨g,cap,cur,hv,_,hg,hc,_,_,ht⟩
 ·have:ins=[]:=List.eq_nil_of_length_eq_zero h0;subst this;exact⟨none,0,hv,Nat.le_refl _,fun k i hi=>by simp at hi⟩
 ·refine⟨some ⟨g,0,none⟩,cap,hv,hc,fun k i hi=>⟨g,rfl,aB hg,?_,?_⟩⟩
  ·have:=h.cells (g:=g) (by rw [hv];rfl) (k*2) (.string i.1) (pM hi).1
   rwa [Addr.add_lit,Nat.zero_add] at this
  ·have:=h.cells (g:=g) (by rw [hv];rfl) (k*2+1) (.int .i64 i.2) (pM hi).2
   rwa [Addr.add_lit,Nat.zero_add] at this
end
open Go.Proofs.Tryz
open Pl (PO newW)
section
open Go.RowKit Go.Lib Go.Maps
variable {w:World} {v:Value}
theorem qW:∀(l:List PO)(k:Nat)(o:PO),l[k]?=some o->(l.flatMap oC)[k*3]?=some (.int .i64 (o.code:Int))/\(l.flatMap oC)[k*3+1]?=some (.string ⟨o.out.toArray⟩)/\(l.flatMap oC)[k*3+2]?=some (.string ⟨o.val.toArray⟩)
 | [],k,o,h=>by simp at h
 | x::l,0,o,h=>by obtain rfl:x=o:=Option.some.inj h;exact⟨rfl,rfl,rfl⟩
 | x::l,k+1,o,h=>by have ih:=qW l k o h;have e:(x::l).flatMap oC=.int .i64 (x.code:Int)::.string ⟨x.out.toArray⟩::.string ⟨x.val.toArray⟩::l.flatMap oC:=rfl;rw [e,show(k+1)*3=k*3+3 by omega];exact ih
theorem out_of{base:Nat}{l:List PO}{n:Nat}(hn:n=l.length)(h:w.ownsRow base TOut 3 v n (l.flatMap oC)):OutAt w v l:=by
 subst hn;rcases h.2 with⟨hv,h0⟩ | ⟨g,cap,cur,hv,_,hg,hc,_,_,ht⟩
 ·have:l=[]:=List.eq_nil_of_length_eq_zero h0;subst this;exact⟨none,0,hv,Nat.le_refl _,fun k i hi=>by simp at hi⟩
 ·refine⟨some ⟨g,0,none⟩,cap,hv,hc,fun k o hk=>?_⟩
  have get:∀j u,(l.flatMap oC)[j]?=some u->w.cell? ⟨g,j,none⟩=some u:=fun j u hj=>by
   have:=h.cells (g:=g) (by rw [hv];rfl) j u hj
   rwa [Addr.add_lit,Nat.zero_add] at this
  obtain⟨d1,d2,d3⟩:=qW l k o hk;exact⟨g,rfl,aB hg,get _ _ d1,get _ _ d2,get _ _ d3⟩
theorem OutAt.below{w':World}{l:List PO}(h:OutAt w v l)(hb:Below w.heap.size w w'):OutAt w' v l:=by obtain⟨ao,cap,e,hc,hk⟩:=h;refine⟨ao,cap,e,hc,fun k o ho=>?_⟩;obtain⟨g,e1,hg,d1,d2,d3⟩:=hk k o ho;exact⟨g,e1,Nat.lt_of_lt_of_le hg hb.size,(hb.cell (p:=⟨g,_,none⟩) hg).trans d1,(hb.cell (p:=⟨g,_,none⟩) hg).trans d2,(hb.cell (p:=⟨g,_,none⟩) hg).trans d3⟩
theorem ScrAt.below{w':World}{l:List (ByteArray×Int)}(h:ScrAt w v l)(hb:Below w.heap.size w w'):ScrAt w' v l:=by obtain⟨ao,cap,e,hc,hk⟩:=h;refine⟨ao,cap,e,hc,fun k o ho=>?_⟩;obtain⟨g,e1,hg,d1,d2⟩:=hk k o ho;exact⟨g,e1,Nat.lt_of_lt_of_le hg hb.size,(hb.cell (p:=⟨g,_,none⟩) hg).trans d1,(hb.cell (p:=⟨g,_,none⟩) hg).trans d2⟩
theorem ScrAt.slice{l:List (ByteArray×Int)}(h:ScrAt w v l):∃ao n cap,v=.slice ao n cap:=by obtain⟨ao,cap,e,_⟩:=h;exact⟨ao,_,cap,e⟩
theorem OutAt.slice{l:List PO}(h:OutAt w v l):∃ao n cap,v=.slice ao n cap:=by obtain⟨ao,cap,e,_⟩:=h;exact⟨ao,_,cap,e⟩
theorem p_slows(w:World)(v:Value)(ins:List (ByteArray×Int))(hS:ScrIn w v ins)(hbig:ins.length<=maxLen)(hsz:∀i∈ins,i.1.size<=maxLen)(hgz:8<=w.heap.size)(htab:Lib.TabIs prog w oS .u64 Lib.pow10Tab)(hp:Prm w)(hgt:GT w)(hge:GE w) :Calls prog 4 #[v] w fun e w'=>e=.returned (.bool true)/\Below w.heap.size w w':=by
 have hsh:=xL ins hsz 3000 (by omega);have hsl:=tU 3000 ins;generalize hss:eD 3000 ins=ss at *
 have low:∀w1,Below w.heap.size w w1->8<=w1.heap.size/\Lib.TabIs prog w1 oS .u64 Lib.pow10Tab/\Prm w1/\GT w1/\GE w1:=fun w1 hB=>by
  have hgs:Gs w (fun _=>False):=⟨hgz,fun _ _ h=>h,htab⟩
  have g1:=hgs.below hB;exact⟨g1.size,g1.tab,hp.stp hgs (Stp.of_below hB),hgt.below hB,hge.below hB⟩
 have hlen:(Pl.session newW (ss.map inP)).2.length=ss.length:=by rw [Pl.session_len,List.length_map]
 have H1:Hid (Calls prog 18 #[v,.int .i64 3000] w fun e w'=>∃rv,e=.returned rv/\Hid (Below w.heap.size w w'/\ScrAt w' rv ss)):=(p_short w v 3000 ins hS hbig).mono (fun e w' ⟨rv,h1,h2,h3⟩=>by
  rw [hss] at h3
  exact⟨rv,h1,h2,scr_of h3⟩)
 have H2:Hid (∀w1 rv,Below w.heap.size w w1/\ScrAt w1 rv ss->Calls prog 19 #[rv] w1 fun e w'=>∃r1,e=.returned r1/\Hid (Below w.heap.size w w'/\ScrAt w' rv ss/\OutAt w' r1 (Pl.session newW (ss.map inP)).2)):=fun w1 rv ⟨h1,h2⟩=>by obtain⟨l1,l2,l3,l4,l5⟩:=low w1 h1;exact(p_slow w1 rv ss h2 hsl (fun i hi=>(hsh i hi).1) l1 l2 l3 l4 l5).mono (fun e w' ⟨r1,k1,k2,k3⟩=>⟨r1,k1,h1.trans (k2.mono h1.size),h2.below k2,k3⟩)
 have H3:Hid (∀w2 rv r1,Below w.heap.size w w2/\ScrAt w2 rv ss/\OutAt w2 r1 (Pl.session newW (ss.map inP)).2->Calls prog 20 #[rv] w2 fun e w'=>∃r2,e=.returned r2/\Hid (Below w.heap.size w w'/\OutAt w' r1 (Pl.session newW (ss.map inP)).2/\OutAt w' r2 (Pl.session newW (ss.map inP)).2)):=fun w2 rv r1 ⟨h1,h2,h3⟩=>by obtain⟨l1,l2,l3,l4,l5⟩:=low w2 h1;exact(rf_slow wE w2 rv ss h2 hsl hsh l1 l2).mono (fun e w' ⟨r2,k1,k2,k3⟩=>⟨r2,k1,h1.trans (k2.mono h1.size),h3.below k2,out_of hlen.symm k3⟩)
 have H4:Hid (∀w3 r1 r2,Below w.heap.size w w3/\OutAt w3 r1 (Pl.session newW (ss.map inP)).2/\OutAt w3 r2 (Pl.session newW (ss.map inP)).2->Calls prog 21 #[r1,r2] w3 fun e w'=>e=.returned (.bool true)/\Hid (Below w.heap.size w w')):=fun w3 r1 r2 ⟨h1,h2,h3⟩=>by exact(p_same w3 r1 r2 _ h2 h3 (by omega)).mono (fun e w' ⟨k1,n,k2⟩=>⟨k1,by subst k2;exact h1.trans ((belN w3 n).mono h1.size)⟩)
 obtain⟨ao,cap,rfl,_,_⟩:=hS;clear hsh hsl hlen low hbig hsz hgz htab hp hgt hge hss;go_enter func4,ntmps4
 go_wp2_with (first
  | (go_at_call 18;refine Calls.mono H1.out ?_;rintro e w1 ⟨rv,rfl,HQ1⟩;obtain⟨ao1,n1,cap1,rfl⟩:=HQ1.out.2.slice)
  | (go_at_call 19;refine Calls.mono (H2.out _ _ HQ1.out) ?_;rintro e w2 ⟨r1,rfl,HQ2⟩;obtain⟨ao2,n2,cap2,rfl⟩:=HQ2.out.2.2.slice)
  | (go_at_call 20;refine Calls.mono (H3.out _ _ _ HQ2.out) ?_;rintro e w3 ⟨r2,rfl,HQ3⟩;obtain⟨ao3,n3,cap3,rfl⟩:=HQ3.out.2.2.slice)
  | (go_at_call 21;refine Calls.mono (H4.out _ _ _ HQ3.out) ?_;rintro e w4 ⟨rfl,HQ4⟩))
 go_ret;exact⟨rfl,HQ4.out⟩
end
open Pl (arity)
section
open Go.ChangeShapes Go.WideShapes Go.RowKit Go.Deep
variable {W:World} {v:Value}
theorem Tryz.cellsIn:prog.cellsOf 41=2:=by kernel_rfl
theorem Tryz.cellsI:prog.cellsOf 3=1:=by kernel_rfl
theorem Tryz.cellsSt:prog.cellsOf 9=1:=by kernel_rfl
def inOf(a b:Value):ByteArray×Int:=match a,b with
 | .string s,.int _ n=>(s,n)
 | _,_=>(ByteArray.empty,0)
theorem xN{H:Type}{enc:TypeId×Value->H}{r:Reach}{b0 base:Nat}{d:DataW H}{ps:List MemPlace}(hval:Value.okWide prog W r b0 26 v)(hd:DataW.Trod enc prog W base (fun _=>true) true 26 v d ps) :∃ins,ScrIn W v ins/\ins.length<=maxLen/\∀i∈ins,i.1.size<=maxLen:=by
 obtain⟨a,len,cap,rfl⟩:=okWide_slice underlying26 hval;obtain⟨fuel,hf⟩:=hd;rcases open_slice_pairs underlying26 underlying41 Tryz.cellsIn rfl rfl Tryz.cellsSt Tryz.cellsI hf with⟨hc,hx⟩ | ⟨a',len',cap',m,n,V0,V1,D0,D1,P0,P1,hc,_,hl,hm,hmm,hx,hall⟩
 ·simp only [Value.cells,List.cons.injEq,Value.slice.injEq,and_true] at hc;obtain⟨rfl,rfl,rfl⟩:=hc;exact⟨[],⟨none,0,rfl,Nat.le_refl _,fun k i hi=>by simp at hi⟩,Nat.zero_le _,fun i hi=>by cases hi⟩
 ·simp only [Value.cells,List.cons.injEq,Value.slice.injEq,and_true] at hc;obtain⟨rfl,rfl,rfl⟩:=hc;simp only [if_true] at hmm;have each:∀i,i<len->∃(s:ByteArray)(z:Int),W.cell? (a'.add (i*2))=some (.string s)/\W.cell? (a'.add (i*2+1))=some (.int .i64 z)/\inOf (V0 i) (V1 i)=(s,z)/\s.size<=maxLen:=fun i hi=>by obtain⟨h1,h2,h3,h4⟩:=hall i (by omega);obtain⟨s,e1,_,e2⟩:=DataW.trod_string underlying9 h3;obtain⟨z,e3,_,_⟩:=DataW.trod_int underlying3 h4;simp only [List.cons.injEq,and_true] at e1 e3;rw [e1] at h1;rw [e3] at h2;exact⟨s,z,h1,h2,by rw [e1,e3];rfl,e2⟩
  refine⟨(List.range len).map fun i=>inOf (V0 i) (V1 i),⟨some a',cap,by simp,by simpa using hl,fun k i hi=>?_⟩,by simp;omega,fun i hi=>?_⟩
  ·rw [List.getElem?_map] at hi;obtain⟨j,hj,e⟩:=Option.map_eq_some_iff.1 hi;have hkl:=(List.getElem?_eq_some_iff.1 hj).1;rw [List.length_range] at hkl;rw [List.getElem?_range hkl] at hj;obtain rfl:=Option.some.inj hj;obtain⟨s,z,h1,h2,h3,_⟩:=each k hkl;obtain⟨_,_,q1,_⟩:=each 0 (by omega);rw [h3] at e;subst e;obtain⟨b,off,spot⟩:=a';obtain rfl:spot=none:=by simpa [Addr.add] using World.cell?_spot q1
   rw [Addr.add_mid] at h1 h2;exact⟨b,off,rfl,World.block_lt_of_cell? _ _ h1,h1,by rw [Nat.add_assoc];exact h2⟩
  ·obtain⟨j,hj,rfl⟩:=List.mem_map.1 hi;obtain⟨s,z,_,_,h3,h4⟩:=each j (List.mem_range.1 hj);rw [h3];exact h4
theorem rK{H:Type}{enc:TypeId×Value->H}{W':World}{base:Nat}{t:TypeId}{d:DataW H}{ps:List MemPlace}(hd:DataW.Trod enc prog W base (fun _=>true) true t v d ps)(hl:∀p∈ps,p.block<W.heap.size)(hb:Below W.heap.size W W'):DataW.Trod enc prog W' base (fun _=>true) true t v d ps:=by obtain⟨fuel,hf⟩:=hd;exact⟨fuel,DataW.trod_carry fuel t _ _ hf (fun p hp=>hb.same (hl p hp))⟩
theorem Tryz.gPrm:prog.globalNamed "stepper/value.primitives"=some 1:=by kernel_rfl
theorem Tryz.gPrmT:(prog.globals[1]?).map (·.type)=some 245:=by kernel_rfl
theorem Tryz.cells244:prog.cellsOf 244=2:=by kernel_rfl
def primD:List (DataW Unit):=Pl.prims.take 12 |>.map fun nm=>.agg [.lit (.string nm),.lit (.int .i64 (arity nm:Nat))]
theorem sY:(Rows.laid_stepper_value_primitives:DataW Unit)=.agg primD:=rfl
theorem oQ{rest:List (String×DataW Unit)}(h:laidMet prog (("stepper/value.primitives",Rows.laid_stepper_value_primitives)::rest) W):Prm W:=by
 obtain⟨ps,⟨g',t',cs,fuel,p,q,hg',ht',hvar,hd,_,_⟩,_⟩:=h;obtain rfl:=Option.some.inj (Tryz.gPrm.symm.trans hg');obtain rfl:=Option.some.inj (Tryz.gPrmT.symm.trans ht');rw [sY] at hd;obtain⟨xs,m,_,hx,hl,hn,hall⟩:=DataW.trod_array Tryz.under245 hd;simp only [Prod.mk.injEq,DataW.agg.injEq] at hx;intro k nm hk h12;have hi:=hall k h12;obtain⟨x,hxk⟩:∃x,xs[k]?=some x:=⟨xs[k]'(by omega),List.getElem?_eq_getElem _⟩
 rw [hxk,Tryz.cells244] at hi
 have hx1:x.1=.agg [.lit (.string nm),.lit (.int .i64 (arity nm:Nat))]:=by
  have e:(xs.map (·.1))[k]?=some x.1:=by rw [List.getElem?_map,hxk];rfl
  rw [<- hx.1] at e;unfold primD at e;rw [List.getElem?_map,List.getElem?_take_of_lt h12,hk] at e;exact(Option.some.inj e).symm
 obtain⟨y0,y1,n,e1,_,e3,e4⟩:=trod_struct2 underlying244 hi;obtain⟨s,f1,f2,_⟩:=DataW.trod_string underlying9 e3;obtain⟨z,f3,f4,_⟩:=DataW.trod_int underlying3 e4;rw [e1,f2,f4] at hx1;simp only [DataW.agg.injEq,List.cons.injEq,DataW.lit.injEq,Lit.string.injEq,Lit.int.injEq,and_true,true_and] at hx1;obtain⟨g1,g2⟩:=hx1;rw [show prog.cellsOf 9=1 from Tryz.cellsSt] at f1;rw [show prog.cellsOf 3=1 from Tryz.cellsI] at f3;have get:∀(l:List Value)(i j:Nat)(u:Value),((l.drop i).drop j).take 1=[u]->l[i+j]?=some u:=fun l i j u hu=>by have:=congrArg (fun l=>l[0]?) hu;simpa using this
 have c0:cs.toList[k*2+0]?=some (.string s):=by have:=congrArg (fun l=>l[0]?) f1;simpa [List.getElem?_take,List.getElem?_drop] using this
 have c1:cs.toList[k*2+1]?=some (.int .i64 z):=by have:=congrArg (fun l=>l[0]?) f3;simpa [List.getElem?_take,List.getElem?_drop] using this
 have es:s=⟨nm.toArray⟩:=by obtain⟨⟨sl⟩⟩:=s;simp only at g1;rw [<- g1]
 rw [World.var?_cell Tryz.gPrm hvar,World.var?_cell Tryz.gPrm hvar];rw [es] at c0;rw [g2] at c1;exact⟨by simpa using c0,by simpa using c1⟩
def InT(t:TypeId):Prop:=t=26\/t=41\/t=9\/t=3
theorem kidsIn:Kids prog InT:=by
 refine⟨fun {t e} hT h=>?_,fun {t e} hT h=>?_,fun {t e n} hT h=>?_,fun {t fs} hT h=>?_,fun {t k e} hT h=>?_⟩
 ·rcases hT with rfl | rfl | rfl | rfl
  ·rw [underlying26] at h;cases h
  ·rw [underlying41] at h;cases h
  ·rw [underlying9] at h;cases h
  ·rw [underlying3] at h;cases h
 ·rcases hT with rfl | rfl | rfl | rfl
  ·rw [underlying26] at h;cases h;exact .inr (.inl rfl)
  ·rw [underlying41] at h;cases h
  ·rw [underlying9] at h;cases h
  ·rw [underlying3] at h;cases h
 ·rcases hT with rfl | rfl | rfl | rfl
  ·rw [underlying26] at h;cases h
  ·rw [underlying41] at h;cases h
  ·rw [underlying9] at h;cases h
  ·rw [underlying3] at h;cases h
 ·rcases hT with rfl | rfl | rfl | rfl
  ·rw [underlying26] at h;cases h
  ·rw [underlying41] at h
   cases h
   refine⟨fun f hf=>?_,?_,fun j f hf=>?_⟩
   ·simp only [List.mem_cons,List.not_mem_nil,or_false] at hf;rcases hf with rfl | rfl
    ·exact .inr (.inr (.inl rfl))
    ·exact .inr (.inr (.inr rfl))
   ·rw [Tryz.cellsIn];simp [Tryz.cellsSt,Tryz.cellsI]
   ·rcases j with _ | _ | j
    ·obtain rfl:=Option.some.inj hf;rfl
    ·obtain rfl:=Option.some.inj hf;simp [Tryz.cellsSt]
    ·cases hf
  ·rw [underlying9] at h;cases h
  ·rw [underlying3] at h;cases h
 ·rcases hT with rfl | rfl | rfl | rfl
  ·rw [underlying26] at h;cases h
  ·rw [underlying41] at h;cases h
  ·rw [underlying9] at h;cases h
  ·rw [underlying3] at h;cases h
theorem tX{H:Type}{enc:TypeId×Value->H}{W':World}{d:DataW H}{ps:List MemPlace}(hd:DataW.Trod enc prog W 0 (fun _=>true) true 26 v d ps)(hl:∀p∈ps,p.block<W.heap.size)(hb:Below W.heap.size W W'):DataW.Trod enc prog W' 0 (fun b=>decide (b<W.heap.size)) true 26 v d ps :=
 (rK hd hl hb).respare kidsIn (fun t e hT h=>by
  rcases hT with rfl | rfl | rfl | rfl
  ·rw [underlying26] at h;cases h;rw [Tryz.cellsIn];omega
  ·rw [underlying41] at h;cases h
  ·rw [underlying9] at h;cases h
  ·rw [underlying3] at h;cases h) (.inl rfl) (fun p hp=>decide_eq_true (hl p hp))
end
section
open Go
theorem gV{a:Assume}{C:Checked}{os:Os}{f:FuncId}{r:Reach}{Pre:World->Array Value->Prop}{Post:World->Array Value->Value->World->Prop}(h:ReturnsInHanded a C os f r Pre Post):ReturnsInLeavingWide a C os f r Pre Post :=fun e=>ReturnsInOpen.mono (fun _ _ _ x=>⟨x.2.1,onlyLeaving_of_quiet x.1,x.2.2⟩) (fun _ x=>x) (h e)
section
variable {H:Type} {enc:TypeId×Value->H}
theorem mI{C:Checked}{os:Os}{f:FuncId}{fn:Func}{s:ChangeSpec}{conds:List PathCond}{apart:Bool}{X:World->Array Value->Prop}(w0:World)(args:Array Value)(fuel:Nat)(hos:w0.os=os)
  (hsh:(w0.forCall (fun _ _=>0) ⟨#[],args,[]⟩).Shaped C.prog)
  (hok:Input.okWideB C.prog (w0.forCall (fun _ _=>0) ⟨#[],args,[]⟩) f ⟨#[],args,[]⟩=true)
  (hpre:s.preB enc C.prog fn conds apart (w0.forCall (fun _ _=>0) ⟨#[],args,[]⟩).memory args fuel=true)
  (hsz:s.sizedB enc C.prog fn apart (w0.forCall (fun _ _=>0) ⟨#[],args,[]⟩).memory args fuel=true)
  (hx:X (w0.forCall (fun _ _=>0) ⟨#[],args,[]⟩).memory args) :
  ∃(w:World)(tape:Tape)(i:Input),w.os=os/\(w.forCall tape i).Shaped C.prog/\i.vars=[]/\Input.okWide C.prog (w.forCall tape i) .any w.heap.size f i /\
   ((s.pre enc C.prog fn conds apart (w.forCall tape i).memory i.args/\X (w.forCall tape i).memory i.args)/\sizedMet enc C.prog fn (OpenSpec.ofChange s) apart (w.forCall tape i).memory i.args)/\({calm:=true}:Assume).holds C.prog (lone (Frame.enter C.prog f i.args .normal) [] (w.forCall tape i)) :=
 ⟨w0,fun _ _=>0,⟨#[],args,[]⟩,hos,hsh,(Input.okWide_of_okWideB (base:=0) hok).1,(Input.okWide_of_okWideB hok).2,⟨⟨ChangeSpec.pre_of_preB hpre,hx⟩,sizedMet_of_sizedB hsz⟩,by
  simp only [Assume.holds]
  exact⟨by simp,fun _ _ _ _=>rfl,by simp,by simp,by simp⟩⟩
end
section
variable {H:Type} {enc:TypeId×Value->H}
theorem dV{a:Assume}{C:Checked}{os:Os}{f:FuncId}{fn:Func}{s:ChangeSpec}{F:Stop.Interp}{conds:List PathCond}{apart fresh handsOn:Bool}{X:World->Array Value->Prop}
  (hX:∀(w w':World)(args:Array Value),w.heap=w'.heap->X w args->X w' args)
  (own:ownKnob C.prog.godebug=none) (started:os.Started) (noInit:C.prog.inits.idxOf? f=none) (hfn:C.prog.funcs[f]?=some fn)
  (witness:∃(w:World)(tape:Tape)(i:Input),w.os=os/\(w.forCall tape i).Shaped C.prog/\i.vars=[]/\Input.okWide C.prog (w.forCall tape i) .any w.heap.size f i /\
   ((s.pre enc C.prog fn conds apart (w.forCall tape i).memory i.args/\X (w.forCall tape i).memory i.args)/\sizedMet enc C.prog fn (OpenSpec.ofChange s) apart (w.forCall tape i).memory i.args)/\a.holds C.prog (lone (Frame.enter C.prog f i.args .normal) [] (w.forCall tape i)))
  (contract:∀(W:World)(base:Nat)(args:Array Value) (ds gs:List (DataW H)) (before:List MemPlace),W.ShapedOpen C.prog ->
   (∀(j:Nat) t v,fn.params[j]?=some t->args[j]?=some v->Value.okWide C.prog W .any base t v) ->
   DataW.Whole enc C.prog fn.params.toList s.vars apart W args.toList ds gs before ->
   conds.all (PathCond.test C.prog ⟨fn.params.toList,ds,s.plain.varTypes C.prog,gs⟩)=true ->
   (DataW.weightsEach C.prog (fn.params.toList++s.plain.varTypes C.prog) (ds++gs)).all (·<=reachBytes)=true->X W args ->
   Calls C.prog f args W fun e W'=>∃v,e=.returned v/\s.post enc C.prog fn apart fresh handsOn false W args v W'/\W'.os=W.os) :
  ReturnsInLeavingWide a C os f .any (fun w args=>(s.pre enc C.prog fn conds apart w args/\X w args)/\sizedMet enc C.prog fn (OpenSpec.ofChange s) apart w args) ((OpenSpec.ofChange s).postWith enc C.prog fn F (outsideKept [.timePasses]) apart fresh handsOn):=by
 refine gV (returnsInHanded_of_calls own started noInit witness ?_);intro w tape i _ hsh _ hok hpre _;obtain⟨_,_,_,fn',hfn',_,_,_,_,hval⟩:=hok;have e:fn'=fn:=Option.some.inj (hfn'.symm.trans hfn);subst e;obtain⟨⟨⟨ds,gs,before,hw,hc⟩,hx⟩,hz⟩:=hpre;have hw':=DataW.Whole.of_heap (w':=w.forCall tape i) (by rfl) hw;refine(contract (w.forCall tape i) w.heap.size i.args ds gs before hsh hval hw' hc (hz.weights hw) (hX _ _ _ (by rfl) hx)).mono fun e W' ⟨v,he,hp,hos⟩=>?_;subst he;refine postWith_blind (postWith_of_post (by rw [<- hos];exact hp) ⟨0,by rw [hos];rfl⟩)
end
theorem Tryz.glob7:(((begin prog (fun _ _=>0) default).world.heap[7]?).bind Obj.row?).isSome=true:=by kernel_rfl
theorem Tryz.globN:7<prog.globals.size:=of_decide_eq_true (by kernel_rfl)
theorem j9{W:World}(h:W.ShapedOpen prog):8<=W.heap.size:=by obtain⟨⟨z,t⟩,hx⟩:=Option.isSome_iff_exists.1 Tryz.glob7;obtain⟨cs,h1,_⟩:=h.1 7 z t Tryz.globN hx;have:=(Array.getElem?_eq_some_iff.1 h1).1;omega
end
section
open Go.ChangeShapes Go.WideShapes Go.ChangeAt Go.RowKit
variable {W:World}
theorem Tryz.own:ownKnob prog.godebug=none:=by kernel_rfl
theorem Tryz.et:prog.globalNamed "errors.errorType"=some 0:=by kernel_rfl
theorem Tryz.rt:(prog.cutTypes.find? (·.1 == "internal/reflectlite.rtype")).map (·.2)=some 301:=by kernel_rfl
theorem Tryz.size:prog.types.size=538:=by kernel_rfl
theorem Tryz.oneRow:((List.range 538).filter fun t=>prog.rowNamed t [101,114,114,111,114])=[63]:=by kernel_rfl
theorem Tryz.gRange:prog.globalNamed "strconv.ErrRange"=some 6:=by kernel_rfl
theorem Tryz.gRangeT:(prog.globals[6]?).map (·.type)=some 63:=by kernel_rfl
theorem Tryz.cellsES:prog.cellsOf 408=1:=by kernel_rfl
theorem Tryz.cellsS:prog.cellsOf 9=1:=by kernel_rfl
theorem nameES : "*" ++ "errors.errorString" = "*errors.errorString":=by decide
theorem Tryz.rowES(u:TypeId)(h:prog.typeName? 3 u=some "*errors.errorString"):u=406 :=typeName_ptr_named (nm := "errors.errorString") (by rw [nameES];kernel_rfl) (by kernel_rfl) (by decide) u (by rw [nameES];exact h)
theorem kK(h:laidMetH prog Rows.slowsRow.laid W):GT W:=by
 have h':laidMet prog _ W/\handlesMet prog [("errors.errorType",Rows.laid_errors_errorType)] W:=h;obtain⟨name,u,ty,e1,e2,e3,e4,e5⟩:=h'.2 _ (List.mem_singleton.2 rfl);have en:name=[101,114,114,111,114]:=(Option.some.inj e1).symm;subst en;obtain rfl:=Option.some.inj (Tryz.rt.symm.trans e2);have hm:ty∈(List.range 538).filter fun t=>prog.rowNamed t [101,114,114,111,114]:=List.mem_filter.2 ⟨List.mem_range.2 (by rw [<- Tryz.size];exact e3),e4⟩;rw [Tryz.oneRow] at hm;obtain rfl:=List.mem_singleton.1 hm;have hh:typeHandle prog 63=.pointer (some ⟨8,63,none⟩):=by kernel_rfl
 rw [hh] at e5;simpa [GT] using World.var?_cell Tryz.et e5 0
theorem lO(h:laidMetH prog Rows.slowsRow.laid W):GE W:=by have h':laidMet prog [("math/bits.deBruijn32tab",Rows.laid_math_bits_deBruijn32tab),("math/bits.deBruijn64tab",Rows.laid_math_bits_deBruijn64tab),("internal/strconv.uint64pow10",Rows.laid_internal_strconv_uint64pow10),("strconv.ErrRange",Rows.laid_strconv_ErrRange),("strconv.ErrSyntax",Rows.laid_strconv_ErrSyntax),("stepper/value.primitives",Rows.laid_stepper_value_primitives)] W/\handlesMet prog [("errors.errorType",Rows.laid_errors_errorType)] W:=h;obtain⟨a0,s0,hv0,_⟩:=laid_sentinel h'.1.tail.tail.tail Tryz.gRange Tryz.gRangeT underlying63 Tryz.rowES underlying406 underlying408 rfl rfl underlying9 Tryz.cellsES Tryz.cellsS;exact⟨_,by simpa using World.var?_cell Tryz.gRange hv0 0,.inr ⟨_,_,rfl⟩⟩
theorem Tryz.gPow:prog.globalNamed "internal/strconv.uint64pow10"=some 2:=by kernel_rfl
theorem jO(h:laidMetH prog Rows.slowsRow.laid W):Lib.TabIs prog W oS .u64 Lib.pow10Tab/\Prm W:=by have h':laidMet prog [("math/bits.deBruijn32tab",Rows.laid_math_bits_deBruijn32tab),("math/bits.deBruijn64tab",Rows.laid_math_bits_deBruijn64tab),("internal/strconv.uint64pow10",Rows.laid_internal_strconv_uint64pow10),("strconv.ErrRange",Rows.laid_strconv_ErrRange),("strconv.ErrSyntax",Rows.laid_strconv_ErrSyntax),("stepper/value.primitives",Rows.laid_stepper_value_primitives)] W/\handlesMet prog [("errors.errorType",Rows.laid_errors_errorType)] W:=h;exact⟨Lib.tabIs_of_head (n:=20) (t:=358) (e:=101) Tryz.gPow (by kernel_rfl) (by kernel_rfl) (by kernel_rfl) (by kernel_rfl) (by kernel_rfl) h'.1.tail.tail,oQ h'.1.tail.tail.tail.tail.tail⟩
theorem aAK(os:Os)(args:Array Value):laidMetH prog Rows.slowsRow.laid ((World.doorLaid prog 86 os).forCall (fun _ _=>0) ⟨#[],args,[]⟩).memory :=laidMetH_of_parts3 (fuel:=8) (laidMet_of_run' 8 (by kernel_rfl) (by kernel_rfl)) (by kernel_rfl) (by kernel_rfl)
theorem mO(os:Os)(started:os.Started)(H:Type)(enc:TypeId×Value->H)(F:Stop.Interp) :ReturnsInLeavingWide {calm:=true} checked os 4 .any (fun w args=>(Rows.slowsSpec.pre enc prog Tryz.f4 [] false w args/\laidMetH prog Rows.slowsRow.laid w)/\sizedMet enc prog Tryz.f4 (OpenSpec.ofChange Rows.slowsSpec) false w args)
   ((OpenSpec.ofChange Rows.slowsSpec).postWith enc prog Tryz.f4 F (outsideKept [.timePasses]) false true false):=by
 refine dV (C:=checked) (X:=fun w _=>laidMetH prog Rows.slowsRow.laid w) (fun _ _ _ hh h=>h.of_heap hh) Tryz.own started (by kernel_rfl) func4
  (mI (enc:=enc) (C:=checked) (os:=os) (X:=fun w _=>laidMetH prog Rows.slowsRow.laid w) (World.doorLaid prog 86 os) #[.slice none 0 0] 8 rfl (World.shaped_of_RefB (by kernel_rfl) (by kernel_rfl)) (by kernel_rfl) (by kernel_rfl) (by kernel_rfl) (aAK os _)) ?_
 intro W base args ds gs before hsh hval0 hW _ _ hL;have hval:∀(j:Nat) t v,Tryz.f4.params[j]?=some t->args[j]?=some v->Value.okWide prog W .any base t v:=hval0;have hW':=hW;obtain⟨p,q,hA0,hV,rfl,hfz,hnd⟩:=hW;have hA:DataW.TrodAll enc prog W 0 (fun _=>true) true Tryz.f4.params.toList args.toList ds p:=hA0;rw [params4] at hA hval;obtain⟨v0,d0,rfl,rfl,h0⟩:=trodAll_one hA;obtain⟨rfl,rfl⟩:=trodVars_none hV;have hlt:∀x∈p,x.block<W.heap.size:=DataW.TrodAll.lt hA;obtain⟨ins,hS,hbig,hsz⟩:=xN (hval 0 26 v0 rfl rfl) h0;clear hA0 hval0;simp only [List.append_nil] at hW';refine(p_slows W v0 ins hS hbig hsz (j9 hsh) (jO hL).1 (jO hL).2 (kK hL) (lO hL)).mono fun e W' ⟨he,hb⟩=>?_;subst he;refine⟨_,rfl,⟨_,_,_,[],p,[],hW',?_,?_,?_,hb.frame _,fun h=>by cases h⟩,hb.os⟩
 ·exact trodAll_mk1 (shut_bool underlying4 true)
 ·exact trodAll_mk1 (tX h0 hlt hb)
 ·rfl
theorem oI:Rows.SlowsSaid :=
 OpenClaim.holds_of_wide_leaving_time 4 Tryz.f4 rfl rfl rfl rfl rfl rfl rfl ⟨rfl,rfl,rfl,rfl,rfl⟩ rfl rfl rfl rfl rfl (by kernel_rfl) func4 mP
  (of_decide_eq_true (by kernel_rfl)) (by unfold Func.isWrapper;rw [if_neg (of_decide_eq_false (by kernel_rfl))];exact⟨rfl,rfl⟩)
  (fun os started H enc _ F=>mO os started H enc F)
end
section
open Go
theorem mN(Lk:Looks){p:Pinned}{s:OpenSpec}{c:OpenClaim}(g:Bool)(kinds:List LaidKind)(tests:Bool)(har:Bool×String)(lk:Bool)
  (hc:c.holds p s) (hw:c.wfByText s=true) (htie:c.laidByTextAt Lk p kinds tests)
  (hst:c.start=.entering) (hnb:c.noBlocks=false/\c.again=false) (hm:p.checked.prog.mainIs=some (har.1,har.2.toList)) (hn:(!har.1&&har.2.isEmpty&&!lk)=false)
  (hl:∀f fn,p.checked.prog.funcNamed c.func=some f->p.checked.prog.funcs[f]?=some fn->lk=p.checked.prog.looks []/\∀(j:Nat) t,fn.params[j]?=some t->p.checked.prog.wantsStandIn t=false)
  (hg:g=c.goesBy p.checked.prog) :
  Claim7.holds p (.plain s) {stood:={row:=c,standIns:=[],harness:=har,looks:=lk},kinds:=[],alts:=[],goes:=g,laidByText:=true,laidKinds:=kinds,laidTests:=tests,laidLooks:=Lk}:=by
 have h6:∀r:OpenClaim,Claim7.isSixth {stood:={row:=r,standIns:=[],harness:=har,looks:=lk},kinds:=[]}=false:=fun r=>by simpa [Claim7.isSixth] using hn
 exact⟨Claim7.tied_new_at Lk kinds tests (Claim7.new_of_sixth hc har lk hst hnb hm (h6 c) hl) hw,fun D hD=>(by cases hD),htie,(fun h=>by cases h),hg⟩
theorem slows_card_holds:Rows.SlowsCardSaid :=
 mN .later true [.data,.data,.data,.handle,.sentinel,.sentinel,.data] true Rows.slowsCard.stood.harness true
  oI (by kernel_rfl) slows_row_tie rfl ⟨rfl,rfl⟩ (by kernel_rfl) rfl
  (fun f fn hf hfn=>by
   obtain rfl:f=4:=Option.some.inj ((show prog.funcNamed "stepper/stepperlaw.Slows"=some 4 by kernel_rfl).symm.trans hf) |>.symm;obtain rfl:fn=Tryz.f4:=(Option.some.inj (func4.symm.trans hfn)).symm
   exact⟨by kernel_rfl,fun j t ht=>by
    rw [params4] at ht
    have h3:t=26:=by
     rcases j with _ | j
     ·simpa using ht.symm
     ·simp at ht
    subst h3
    exact(show prog.wantsStandIn 26=false by kernel_rfl)⟩)
  (by kernel_rfl)
end
end Go.Proofs.YtkgbdddkcjpgfaaGreatDoor
