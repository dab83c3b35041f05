import Derived.Test.YtkgbdddkcjpgfaaGreatDoorT06
import Derived.BigRegion
import Derived.Deep.RegionHeld3
import Derived.Deep.RegionLaw
import Derived.Laws.AppendOwnNone
namespace Go.Proofs.YtkgbdddkcjpgfaaGreatDoor
open Go.Proofs.Tryz
open Pl (isName)
section
open Go.RowKit
variable {w wr:World} {ok:Nat->Prop} {v u kn vv:Value} {k n G a b m:Nat} {nm:List (List UInt8)} {vs nvs vvs:List Value}
def TF:TypeId:=69
theorem Tryz.TY:(prog.info? 69).map (fun i=>(i.zero,i.size,i.bytes))=some (some (.pointer none),1,8):=by kernel_rfl
def OQ(w:World)(r:Bool)(e:Ending)(w':World):Prop :=Below w.heap.size w w'/\((r=true/\∃b,e=.returned (.pointer (some ⟨b,0,none⟩)))\/(r=false/\e=.returned (.pointer none)))
def F0(w:World)(v:Value)(vs:List Value):Prop :=∃ao cap,v=.slice ao vs.length cap/\vs.length<=cap/\∀(i:Nat)(u:Value),vs[i]?=some u->∃g off,ao=some ⟨g,off,none⟩/\g<w.heap.size/\w.cell? ⟨g,off+i,none⟩=some u
theorem bC{base:Nat}{e:TypeId}(h:w.ownsRow base e 1 v n vs):F0 w v vs:=by
 have k:=h.1;rcases h.2 with⟨a,d⟩ | ⟨g,b,f,a,_,j,l,_,_,m⟩
 ·subst d;have:vs=[]:=e_ (by omega);subst this;exact⟨none,0,a,n_,fun i u c=>by simp at c⟩
 ·have e:vs.length=n:=by omega
  refine⟨some ⟨g,0,none⟩,b,by rw [e];exact a,by omega,fun i u c=>⟨g,0,rfl,aB j,?_⟩⟩;have:=h.cells (g:=g) (by rw [a];rfl) i u c
  rwa [Addr.add_lit] at this
def QE(n:Nat)(w:World)(vs:List Value)(ts:List Tr):Prop:=vs.length=ts.length/\∃ok,∀(i:Nat)(u:Value)(x:Tr),vs[i]?=some u->ts[i]?=some x->AJ ok n w u x
theorem eA{f:Tr->Bool}{a:List Tr}{x:Tr}(h:(a.take k).all f=true)(b:a[k]?=some x)(c:f x=true):(a.take (k+1)).all f=true:=by rw [List.take_add_one,b,List.all_append,h];simp [c]
theorem gJ{f:Tr->Bool}{a:List Tr}{x:Tr}(b:a[k]?=some x)(c:f x=false):a.all f=false:=by rw [List.all_eq_false];exact⟨x,q_ b,by simp [c]⟩
theorem bP{W w1:World}(a:Below W.heap.size W w1):(∀b o,b<W.heap.size->w1.cell? ⟨b,o,none⟩=W.cell? ⟨b,o,none⟩)/\(∀b o,b<W.heap.size->w1.frozen? ⟨b,o,none⟩=W.frozen? ⟨b,o,none⟩) :=⟨fun b o h=>a.cell (p:=⟨b,o,none⟩) h,fun b o h=>a.frozen (p:=⟨b,o,none⟩) h⟩
theorem AJ.list{d:List Tr}(h:AJ ok (n+1) w v (.agg d)) :∃b a c,v=.pointer (some ⟨b,0,none⟩)/\b<w.heap.size/\w.cell? ⟨b,0,none⟩=some s6/\w.cell? ⟨b,3,none⟩=some a/\F0 w a c/\c.length=d.length/\∀(i:Nat)(u:Value)(x:Tr),c[i]?=some u->d[i]?=some x->AJ ok n w u x:=by obtain⟨b,g,_,a,c,e,_,f,j,_⟩:=h;refine⟨b,a,c,g,aB e,aA e 0,aA e 3,bC f,by have:=f.1;omega,j⟩
theorem AJ.short{a:List Tr}(h:AJ ok n w v (.agg a)):a.length<=1000:=by
 cases n with
 | zero=>exact h.elim
 | succ n=>obtain⟨_,_,_,_,_,_,_,_,_,b⟩:=h;exact b
theorem F0.cell0{us:List Value}(h:F0 w v (u::us)):∃g a b,v=.slice (some ⟨g,a,none⟩) (us.length+1) b/\us.length+1<=b/\g<w.heap.size/\w.cell? ⟨g,a,none⟩=some u/\∀(i:Nat)(x:Value),us[i]?=some x->w.cell? ⟨g,a+(i+1),none⟩=some x:=by obtain⟨n,b,rfl,c,d⟩:=h;obtain⟨g,a,rfl,j,k⟩:=d 0 u rfl;refine⟨g,a,b,rfl,by simpa using c,j,by simpa using k,fun i x l=>?_⟩;obtain⟨o,f,e,_,m⟩:=d (i+1) x (by simpa using l);simp only [o_,Addr.mk.injEq,and_true] at e;obtain⟨rfl,rfl⟩:=e;exact m
theorem AJ.EB{t:Tr}(h:AJ ok n w v t):∃b,v=.pointer (some ⟨b,0,none⟩)/\b<w.heap.size/\w.cell? ⟨b,0,none⟩=some (gF t)/\w.cell? ⟨b,2,none⟩=some (.string ⟨(Pl.strOf t).toArray⟩):=by obtain⟨b,N,c,d,a⟩:=h.open_;exact⟨b,d,aB a,aA a 0,aA a 2⟩
theorem AJ.later{w':World}{t:Tr}(h:AJ ok n w v t)(a:Below w.heap.size w w'):AJ ok n w' v t:=AJ.keep (CU.AA a) _ _ _ h
theorem U3{W w1:World}(c:Below W.heap.size W w1):∀(a:Obj) b o,b<W.heap.size->(w1.alloc a).cell? ⟨b,o,none⟩=W.cell? ⟨b,o,none⟩ :=fun a b o h=>(c.alloc c.size a).cell (p:=⟨b,o,none⟩) h
theorem kY{a b:World}{B:Nat}(h:Below B a b):Below B a b.drew:=h.drew
theorem mR{base:Nat}(h:w.ownsRow base 9 1 v k (nm.map eB)) :∃d a,v=.slice d k a/\k<=a/\∀(i:Nat)(t:List UInt8),nm[i]?=some t->∃g,d=some ⟨g,0,none⟩/\w.cell? ⟨g,i,none⟩=some (.string ⟨t.toArray⟩):=by
 have e:=h.1;rw [List.length_map] at e;rcases h.2 with⟨b,f⟩ | ⟨g,a,j,b,_,n,l,_,_,o⟩
 ·subst f;have:nm=[]:=e_ (by omega);subst this;exact⟨none,0,b,n_,fun i t c=>by simp at c⟩
 ·refine⟨some ⟨g,0,none⟩,a,b,l,fun i t c=>⟨g,rfl,?_⟩⟩;have m:(nm.map eB)[i]?=some (eB t):=by rw [List.getElem?_map,c];rfl
  have:=h.cells (g:=g) (by rw [b];rfl) i (eB t) m
  rwa [show(⟨g,0,none⟩:Addr).add i=⟨g,i,none⟩ from by rw [Addr.add_lit,Nat.zero_add]] at this
def Seen(ts:List Tr)(k:Nat)(nm:List (List UInt8)):Prop:=nm=(ts.take k).map Pl.strOf/\(ts.take k).all isName=true/\nm.Nodup
theorem Seen.start(a:List Tr):Seen a 0 []:=⟨by simp,by simp,List.nodup_nil⟩
theorem Seen.more{c:List Tr}{x:Tr}(h:Seen c k nm)(d:c[k]?=some x)(g:isName x=true)(i:Pl.strOf x∉nm):Seen c (k+1) (nm++[Pl.strOf x]):=by
 refine⟨?_,eA h.2.1 d g,?_⟩
 ·rw [List.take_add_one,d,h.1];simp
 ·rw [List.nodup_append];refine⟨h.2.2,by simp,?_⟩;intro a j b f e;simp only [List.mem_singleton] at f;subst f e;exact i j
theorem Seen.done{a:List Tr}(h:Seen a k nm)(d:a.length<=k):Pl.CJ a=true:=by obtain⟨b,c,e⟩:=h;rw [List.take_of_length_le d] at b c;unfold Pl.CJ;rw [c,<-b];simpa using e
theorem Seen.bad{a:List Tr}{x:Tr}(b:a[k]?=some x)(c:isName x=false):Pl.CJ a=false:=by unfold Pl.CJ;rw [gJ b c];rfl
theorem Seen.ZY{a:List Tr}{x:Tr}(h:Seen a k nm)(g:a[k]?=some x){j:Nat}{t:List UInt8}(b:nm[j]?=some t)(i:t=Pl.strOf x):Pl.CJ a=false:=by
 have c:j<k:=by have:=(s_ b).1;rw [h.1,List.length_map,List.length_take] at this;omega
 have d:¬(a.map Pl.strOf).Nodup:=by
  intro d;have f:(a.map Pl.strOf)[j]?=some t:=by rw [h.1,List.getElem?_map,List.getElem?_take] at b;rw [List.getElem?_map];simpa [c] using b
  have l:(a.map Pl.strOf)[k]?=some t:=by rw [List.getElem?_map,g,i];rfl
  have e:=(s_ f).1;have:=(List.getElem?_inj e d).1 (f.trans l.symm);omega
 unfold Pl.CJ;rw [Bool.and_eq_false_iff];right;simpa using d
theorem vO{t:List UInt8}(h:∀(j:Nat)(x:List UInt8),nm[j]?=some x->¬x=t):t∉nm:=by intro a;obtain⟨j,b⟩:=List.mem_iff_getElem?.1 a;exact h j t b rfl
structure D7(w wr:World)(G a b:Nat)(kn vv:Value)(nvs vvs:List Value):Prop where
 below:Below w.heap.size w wr
 out:wr.heap[G]?=some (.cells #[s6,.int .i64 0,tI,kn] TD (0,0))
 G0:wr.ownsRow (G+1) TP 1 kn a nvs
 I6:wr.ownsRow (G+1) TP 1 vv b vvs
 apart:∀r,kn.ownBlock=some r->vv.ownBlock≠some r
 FH:w.heap.size<=G
theorem D7.start(o:Obj)(a:o=.cells #[s6,.int .i64 0,tI,.slice none 0 0] TD (0,0)):D7 w (w.alloc o) w.heap.size 0 0 (.slice none 0 0) (.slice none 0 0) [] [] where
 below:=r_.alloc n_ o
 out:=by rw [cB rfl,a]
 G0:=World.ownsRow_nil _ _ _ _
 I6:=World.ownsRow_nil _ _ _ _
 apart:=fun r h=>by simp [Value.ownBlock] at h
 FH:=n_
theorem l9{a b:World}{row:Option Nat}(h:a.drew.grownBy b row):a.grownBy b row:=⟨h.os,h.tape,h.output,h.size,h.block⟩
theorem D7.S2{w3:World}(h:D7 w wr G a b kn vv nvs vvs){o:Obj}{g' cap':Nat}
  (d:w3.ownsRow (G+1) TP 1 (.slice (some ⟨g',0,none⟩) (a+1) cap') (a+1) (nvs++[u])) (y:(wr.alloc o).grownBy w3 kn.ownBlock) (p:kn.ownBlock=some g'\/g'=wr.heap.size+1) :
  D7 w (w3.setCell ⟨G,3,none⟩ (.slice (some ⟨g',0,none⟩) (a+1) cap')) G (a+1) b (.slice (some ⟨g',0,none⟩) (a+1) cap') vv (nvs++[u]) vvs:=by
 have f:G<wr.heap.size:=aB h.out;have g:=h.FH;have i:=h.G0.lt;have j:some G≠kn.ownBlock:=fun e=>by have:=(i G e.symm).1;omega
 have l:∀k,k<wr.heap.size->some k≠kn.ownBlock->w3.heap[k]?=wr.heap[k]? := fun k m q=>(y.block k (by simp;omega) q).trans (k_ m);have c:w3.heap[G]?=some (.cells #[s6,.int .i64 0,tI,kn] TD (0,0)):=(l G f j).trans h.out;have z:∀(v:Value) k,k≠G->(w3.setCell ⟨G,3,none⟩ v).heap[k]?=w3.heap[k]? := fun v k m=>Below.heap_setCell _ _ _ _ m;refine⟨?_,?_,ownsRow_setCell_below d (by show G<G+1;omega) _,?_,?_,g⟩
 ·refine(((h.below.alloc h.below.size o).grown y ?_ ?_).setCell ?_ _)
  ·have:=h.below.size;simp;omega
  ·intro k m;have:=(i k m).1;omega
  ·exact g
 ·rw [aD c 3 _];rfl
 ·refine ownsRow_setCell_below ?_ (by show G<G+1;omega) _;refine⟨h.I6.1,?_⟩;rcases h.I6.2 with E | ⟨x,s,t,A,F,B,n⟩
  ·exact .inl E
  ·refine .inr ⟨x,s,t,A,F,?_,n⟩;rw [l x (aB B) (fun e=>h.apart x e.symm (by rw [A];rfl))];exact B
 ·intro r C;simp only [Value.ownBlock,o_] at C;subst C;rcases p with D | D
  ·exact h.apart _ D
  ·intro e;have:=(h.I6.lt _ e).2;omega
theorem D7.S0{w3:World}(h:D7 w wr G a b kn vv nvs vvs){o:Obj}{g' cap':Nat}
  (c:w3.ownsRow (G+1) TP 1 (.slice (some ⟨g',0,none⟩) (b+1) cap') (b+1) (vvs++[u])) (s:(wr.alloc o).grownBy w3 vv.ownBlock) (j:vv.ownBlock=some g'\/g'=wr.heap.size+1) :
  D7 w w3 G a (b+1) kn (.slice (some ⟨g',0,none⟩) (b+1) cap') nvs (vvs++[u]):=by
 have d:G<wr.heap.size:=aB h.out;have l:=h.FH;have f:=h.I6.lt;have g:∀k,k<wr.heap.size->some k≠vv.ownBlock->w3.heap[k]?=wr.heap[k]? := fun k m n=>(s.block k (by simp;omega) n).trans (k_ m);refine⟨?_,?_,?_,c,?_,l⟩
 ·refine(h.below.alloc h.below.size o).grown s ?_ ?_
  ·have:=h.below.size;simp;omega
  ·intro k m;have:=(f k m).1;omega
 ·exact(g G d (fun e=>by have:=(f G e.symm).1;omega)).trans h.out
 ·refine⟨h.G0.1,?_⟩;rcases h.G0.2 with A | ⟨x,p,q,t,B,v,i⟩
  ·exact .inl A
  ·refine .inr ⟨x,p,q,t,B,?_,i⟩;rw [g x (aB v) (fun e=>h.apart x (by rw [t];rfl) e.symm)];exact v
 ·intro r y e;simp only [Value.ownBlock,o_] at e;subst e;rcases j with z | z
  ·exact h.apart _ y z
  ·have:=(h.G0.lt _ y).2;omega
theorem D7.drew(h:D7 w wr G a b kn vv nvs vvs):D7 w wr.drew G a b kn vv nvs vvs :=⟨h.below.drew,h.out,h.G0,h.I6,h.apart,h.FH⟩
def MJ(ok:Nat->Prop)(m:Nat)(w:World)(vs:List Value)(xs:List Tr):Prop:=vs.length=xs.length/\∀(i:Nat)(u:Value)(x:Tr),vs[i]?=some u->xs[i]?=some x->AJ ok m w u x
theorem MJ.nil(ok:Nat->Prop)(m:Nat)(w:World):MJ ok m w [] []:=⟨rfl,fun i u x a=>by simp at a⟩
theorem MJ.snoc{c:List Tr}{x:Tr}(h:MJ ok m w vs c)(d:AJ ok m w u x):MJ ok m w (vs++[u]) (c++[x]):=by
 refine⟨by simp [h.1],fun i f g a b=>?_⟩;have l:=h.1;by_cases j:i<vs.length
 ·rw [List.getElem?_append_left j] at a;rw [List.getElem?_append_left (by omega)] at b;exact h.2 i f g a b
 ·have e:i=vs.length:=by
   have:=(s_ a).1;simp at this;omega
  subst e;rw [List.getElem?_append_right n_] at a;rw [List.getElem?_append_right (by omega)] at b;have k:vs.length-c.length=0:=by omega
  rw [k] at b;simp at a b;subst a b;exact d
theorem MJ.later{w':World}{a:List Tr}(h:MJ ok m w vs a)(b:Below w.heap.size w w'):MJ ok m w' vs a:=⟨h.1,fun i u x c d=>(h.2 i u x c d).later b⟩
theorem MJ.all{a:List Tr}(h:MJ ok m w vs a)(b:m<=n):QE n w vs a:=⟨h.1,ok,fun i u x c d=>AJ.up m n u x b (h.2 i u x c d)⟩
theorem D7.names(h:D7 w wr G a b kn vv nvs vvs){d:List Tr}(j:MJ ok m w nvs d)(k:d.length=a)(l:d.length<=1000):AJ (fun _=>True) (m+1) wr (.pointer (some ⟨G,0,none⟩)) (.agg d):=by
 refine⟨G,rfl,trivial,kn,nvs,h.out,fun _ _=>trivial,?_,?_,l⟩
 ·rw [k];exact⟨h.G0.1,h.G0.2.imp id (fun⟨g,e,f,a,b,c⟩=>⟨g,e,f,a,Nat.zero_le _,c⟩)⟩
 ·intro i u x n o;exact AJ.mono (fun _ _ _=>trivial) _ _ _ ((j.2 i u x n o).later h.below)
theorem AJ.KQ{t:Tr}(h:AJ ok n w v t)(a:¬∃b,t=.agg b):∃c:List UInt8,gF t=.string ⟨c.toArray⟩/\(c==[108,105,115,116])=false:=by
 cases n with
 | zero=>exact h.elim
 | succ m =>
  obtain⟨_,_,_,d⟩:=h
  match t,d with
  | .lit (.int _ _),_=>exact⟨[110,117,109,98,101,114],rfl,by decide⟩
  | .lit (.bool _),_=>exact⟨[116,114,117,116,104],rfl,by decide⟩
  | .lit (.string _),_=>exact⟨[110,97,109,101],rfl,by decide⟩
  | .agg b,_=>exact absurd ⟨b,rfl⟩ a
theorem c8{α:Type}(f:Tr->α){a:List Tr}{x:Tr}(b:a[k]?=some x):(a.take (k+1)).map f=(a.take k).map f++[f x]:=by rw [List.take_add_one,b];simp
theorem lZ(w:World)(e:TypeId)(u:Value):(w.alloc (.cells #[u] e)).ownsRow w.heap.size e 1 (.slice (some ⟨w.heap.size,0,none⟩) 1 1) 1 [u] :=⟨rfl,.inr ⟨w.heap.size,1,#[u],rfl,n_,heap_alloc_new _ _,n_,by unfold maxLen;omega,rfl,rfl⟩⟩
end
end Go.Proofs.YtkgbdddkcjpgfaaGreatDoor
