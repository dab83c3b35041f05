import Derived.Laws.OwnMore
import Derived.Test.YtkgbdddkcjpgfaaGreatDoorT27
import Derived.Test.YtkgbdddkcjpgfaaGreatDoorT25
namespace Go.Proofs.YtkgbdddkcjpgfaaGreatDoor
set_option maxHeartbeats 4000000
set_option maxRecDepth 100000
open Go.Proofs.Tryz
open Pl (PV PF FR AD BB BN EF)
section
open Go.RowKit
variable {w:World} {vs:List Value} {base n m:Nat} {M:Nat->Prop} {v:Value}
theorem iV{P:Program}(t f e:TypeId)(i:TypeInfo)(g:P.underlying t=some (.slice e))(hi:P.info? e=some i)(d:Addr)(n a:Nat)(b:n<=a)(p:Option Addr)(c:Nat) :(Builtin.append_ #[t,t] f #[.slice (some d) n a,.slice p 0 c]).run P w=.ok (.slice (some d) n a) w:=by cases p<;>simp [Builtin.append_,run_underlying g,sizeOf,typeInfo,hi,Builtin.lenOf,Builtin.firstCells,b,storeCells,loadCells,loadCellsFrom]
theorem iC{P:Program}{d:Array Oper}{o:Oper}{a:Act}{K:Act->World->Prop}{Q:Exit->Act->World->Prop}{E:Prop}(g:o.guard=none)(s x:Operand)(t:TypeId)
  (l:o.op=.call {callee:=.builtin .append,args:=#[s,x],argTypes:=#[t,t]})
  (e:TypeId) (i:TypeInfo) (m:P.underlying t=some (.slice e)) (hi:P.info? e=some i)
  (j:Addr) (n b:Nat) (k:n<=b) (p:Option Addr) (c:Nat) (q:a.eval s=.slice (some j) n b) (r:a.eval x=.slice p 0 c)
  (h:K (a.put o.dst (.slice (some j) n b)) w):if Region.wanted o (yielded d a.tmps)=true then Oper.wp P o a w K Q else E:=by
 have u:Region.wanted o (yielded d a.tmps)=true:=by simp [Region.wanted,g]
 rw [if_pos u];have f:=iV (P:=P) (w:=w) t o.type e i m hi j n b k p c;unfold Oper.wp;simp [execOp,l,resolve,invoke,builtin,q,r,f,Result.andThen];exact h
theorem tP{P:Program}{g:Array Oper}{o:Oper}{a:Act}{K:Act->World->Prop}{Q:Exit->Act->World->Prop}{E:Prop}(k:o.guard=none)(f:FuncId)(m:Array Operand)(n:Array TypeId)
  (p:o.op=.call {callee:=.value (.func f),args:=m,argTypes:=n}) {l:Func} {c:Code} (q:P.funcs[f]?=some l) (d:(l.name == "runtime.NumGoroutine")=false) (r:l.body=some c)
  (b:Array Value) (s:m.map a.eval=b) {R:Ending->World->Prop} (t:Calls P f b w R) (h:∀e j,R e j->∃v,e=.returned v/\K (a.put o.dst v) j):if Region.wanted o (yielded g a.tmps)=true then Oper.wp P o a w K Q else E:=by
 have u:Region.wanted o (yielded g a.tmps)=true:=by simp [Region.wanted,k]
 rw [if_pos u];have i:=Go.MuLone.run_callFunc_enter (P:=P) q d r b w;have x:(execOp a.eval o).run P w=.ok (.enter f b) w:=by subst s;simp [execOp,p,resolve,invoke,Deferred.ofValue,Act.eval,i]
 unfold Oper.wp;rw [x,Oper.upon_enter];refine t.mono (fun e j y=>?_);obtain⟨v,rfl,z⟩:=h e j y;exact z
theorem kO{P:Program}{d:Array Oper}{o:Oper}{a:Act}{K:Act->World->Prop}{Q:Exit->Act->World->Prop}{E:Prop}(g:o.guard=none)(f:FuncId)(i j:Operand)(n:Array TypeId)
  (q:o.op=.call {callee:=.value (.func f),args:=#[i,j],argTypes:=n}) {k:Func} {c:Code} (r:P.funcs[f]?=some k) (b:(k.name == "runtime.NumGoroutine")=false) (s:k.body=some c)
  (l m:Value) (t:a.eval i=l) (u:a.eval j=m) {R:Ending->World->Prop} (x:Calls P f #[l,m] w R) (h:∀e p,R e p->∃v,e=.returned v/\K (a.put o.dst v) p):if Region.wanted o (yielded d a.tmps)=true then Oper.wp P o a w K Q else E :=
 tP g f #[i,j] n q r b s #[l,m] (by simp [t,u]) x h
structure I5(w wr:World)(a b:Nat)(nS vS:Value)(nvs vvs:List Value):Prop where
 below:Below w.heap.size w wr
 G0:wr.ownsRow w.heap.size PT 1 nS a nvs
 I6:wr.ownsRow w.heap.size PT 1 vS b vvs
 apart:∀r,nS.ownBlock=some r->vS.ownBlock≠some r
theorem qT(w:World)(e:TypeId)(h:base<=w.heap.size):(w.alloc (.cells #[] e)).ownsRow base e 1 (.slice (some ⟨w.heap.size,0,none⟩) 0 0) 0 [] :=⟨rfl,.inr ⟨w.heap.size,0,#[],rfl,h,heap_alloc_new _ _,n_,by unfold maxLen;omega,rfl,rfl⟩⟩
theorem I5.start(w:World):Hid (I5 w ((w.alloc (.cells #[] PT)).alloc (.cells #[] PT)) 0 0 (.slice (some ⟨w.heap.size,0,none⟩) 0 0) (.slice (some ⟨w.heap.size+1,0,none⟩) 0 0) [] []):=by
 have e:(w.alloc (.cells #[] PT)).heap.size=w.heap.size+1:=by simp
 refine I5.mk (b_.alloc (by simp) _) ((qT w PT n_).alloc _) ?_ (fun r h=>by simp [Value.ownBlock] at h ⊢;omega);rw [<- e];exact qT _ PT (by simp)
theorem kV{a b:World}{x:Value}(h:a.ownsRow base PT 1 v n vs)(l:a.grownBy b x.ownBlock)(d:∀r,v.ownBlock=some r->x.ownBlock≠some r):b.ownsRow base PT 1 v n vs:=by
 refine⟨h.1,?_⟩;rcases h.2 with m | ⟨g,f,i,j,o,k,c⟩
 ·exact .inl m
 ·refine .inr ⟨g,f,i,j,o,?_,c⟩;rw [l.block g (aB k) (fun e=>d g (by rw [j];rfl) e.symm)];exact k
theorem I5.S2{wr w3:World}{a b:Nat}{nS vS:Value}{nvs vvs:List Value}(h:I5 w wr a b nS vS nvs vvs){o:Obj}{g' cap':Nat}{u:Value}
  (c:w3.ownsRow w.heap.size PT 1 (.slice (some ⟨g',0,none⟩) (a+1) cap') (a+1) (nvs++[u])) (i:(wr.alloc o).grownBy w3 nS.ownBlock) (f:nS.ownBlock=some g'\/g'=wr.heap.size+1) :
  I5 w w3 (a+1) b (.slice (some ⟨g',0,none⟩) (a+1) cap') vS (nvs++[u]) vvs:=by
 have g:=h.G0.lt;refine⟨?_,c,kV (h.I6.alloc o) i (fun r d e=>h.apart r e d),?_⟩
 ·refine(h.below.alloc h.below.size o).grown i ?_ ?_
  ·have:=h.below.size;simp;omega
  ·intro k l;have:=(g k l).1;omega
 ·intro r d;simp only [Value.ownBlock,o_] at d;subst d;rcases f with j | j
  ·exact h.apart _ j
  ·intro e;have:=(h.I6.lt _ e).2;omega
theorem I5.S0{wr w3:World}{a b:Nat}{nS vS:Value}{nvs vvs:List Value}(h:I5 w wr a b nS vS nvs vvs){o:Obj}{g' cap':Nat}{u:Value}
  (c:w3.ownsRow w.heap.size PT 1 (.slice (some ⟨g',0,none⟩) (b+1) cap') (b+1) (vvs++[u])) (g:(wr.alloc o).grownBy w3 vS.ownBlock) (d:vS.ownBlock=some g'\/g'=wr.heap.size+1) :
  I5 w w3 a (b+1) nS (.slice (some ⟨g',0,none⟩) (b+1) cap') nvs (vvs++[u]):=by
 have f:=h.I6.lt;refine⟨?_,kV (h.G0.alloc o) g h.apart,c,?_⟩
 ·refine(h.below.alloc h.below.size o).grown g ?_ ?_
  ·have:=h.below.size;simp;omega
  ·intro k l;have:=(f k l).1;omega
 ·intro r i e;simp only [Value.ownBlock,o_] at e;subst e;rcases d with j | j
  ·exact h.apart _ i j
  ·have:=(h.G0.lt _ i).2;omega
theorem zL(h:w.ownsRow base PT 1 v n vs):w.ownsRow 0 PT 1 v n vs:=⟨h.1,h.2.imp id (fun⟨g,b,d,a,_,c⟩=>⟨g,b,d,a,Nat.zero_le _,c⟩)⟩
theorem qU(w:World)(e:TypeId)(h:base<=w.heap.size)(u:Value):(w.alloc (.cells #[u] e)).ownsRow base e 1 (.slice (some ⟨w.heap.size,0,none⟩) 1 1) 1 [u] :=⟨rfl,.inr ⟨w.heap.size,1,#[u],rfl,h,heap_alloc_new _ _,n_,by unfold maxLen;omega,rfl,rfl⟩⟩
theorem XR{a:List Tr}(d:∀k,M k->k<base)(h:C9 M n w vs a)(c:w.ownsRow base PT 1 v a.length vs)(e:a.length<=1000):AN (fun k=>¬M k) (n+1) w (.iface 115 v) (.agg a) :=⟨v,vs,rfl,fun r b f=>by have:=(c.lt r b).1;have:=d r f;omega,zL c,h.2,e⟩
theorem qV(h:∀k,M k->k<base)(e:w.ownsRow base PT 1 v n vs):CD M w v vs:=by
 have f:vs.length=n:=e.1.trans (Nat.mul_one _);refine⟨by simp,?_⟩;rcases e.2 with⟨b,j⟩ | ⟨g,c,d,b,l,m,p,_,_,o⟩
 ·exact⟨none,0,by rw [f,j];exact b,by omega,.inl (by omega)⟩
 ·refine⟨some ⟨g,0,none⟩,c,by rw [f];exact b,by omega,.inr ⟨g,0,d,rfl,fun x=>by have:=h g x;omega,m,?_⟩⟩;intro i u a;rw [Nat.zero_add];rw [<- o,List.getElem?_take] at a;split at a
  ·simpa using a
  ·cases a
theorem rR{nv bv:Value}{ns bd:Tr}(f:∀k,M k->k<w.heap.size)(d:AN (fun k=>¬M k) n w nv ns)(g:AN (fun k=>¬M k) n w bv bd)(o:Obj)(h:o=.cells #[.iface 117 (.string ⟨#[108,97,109,98,100,97]⟩),nv,bv] PT (0,0)) :AN (fun k=>¬M k) (n+1) (w.alloc o) (.iface 115 (.slice (some ⟨w.heap.size,0,none⟩) 3 3)) (.agg [.lit (.string Pl.C3),ns,bd]):=by
 have c:Below w.heap.size w (w.alloc o):=bB w o;refine⟨_,[.iface 117 (.string ⟨#[108,97,109,98,100,97]⟩),nv,bv],rfl,fun r e j=>by simp [Value.ownBlock] at e;subst e;have:=f _ j;omega,⟨rfl,.inr ⟨w.heap.size,3,_,rfl,Nat.zero_le _,by rw [h];exact heap_alloc_new _ _,by simp,by simp [maxLen],rfl,rfl⟩⟩,?_,by simp⟩;intro i u x a b
 match i,a,b with
 | 0,a,b =>
  simp only [List.getElem?_cons_zero,o_] at a b;subst a b
  cases n with
  | zero=>exact d.elim
  | succ n=>rfl
 | 1,a,b =>simp at a b;subst a b;exact d.go (Stp.AA c)
 | 2,a,b =>simp at a b;subst a b;exact g.go (Stp.AA c)
 | _+3,a,_=>simp at a
theorem lA{ok:Nat->Prop}:∀(n m:Nat)(v:Value)(t:Tr),AN ok n w v t->n<=m->BB m t=BB n t
 | 0,_,_,_,h,_=>h.elim
 | _+1,0,_,_,_,h=>by omega
 | n+1,m+1,v,t,h,j=>by
  match t,h with
  | .lit (.int _ _),_=>rfl
  | .lit (.bool _),_=>rfl
  | .lit (.string _),_=>rfl
  | .agg a,h =>
   obtain⟨k,b,_,_,d,e,_⟩:=h;show(a.map (BB m)).sum=(a.map (BB n)).sum
   congr 1
   apply List.map_congr_left;intro x f;obtain⟨i,c⟩:=List.mem_iff_getElem?.1 f;have l:b.length=a.length:=d.1.trans (Nat.mul_one _);have g:=(s_ c).1;exact lA n m _ x (e i b[i] x (g_ (by omega)) c) (by omega)
theorem X7(o:Option PF)(f:Tr->Option PF)(a:List Tr)(b:Nat):(Pl.GG (EF o::a.map fun t=>EF (f t)) b).map (fun r=>(BN .call [] .nil r.1 [],r.2))=EF (o.bind fun h=>(Pl.B1 f a).map fun r=>BN .call [] .nil (h::r) []) b:=by
 simp only [Pl.GG]
 cases o with
 | none=>rfl
 | some h =>
  simp only [EF,Option.map_some,Option.bind_some];rw [Pl.KP]
  cases Pl.B1 f a with
  | none=>rfl
  | some l=>simp [BN,Pl.BC,Pl.BO]
def JG(n:Nat):Prop:=∀(M:Nat->Prop)(w:World)(v:Value)(a b:Tr),AN (fun k=>¬M k) (n+1) w v (.agg [.lit (.string Pl.C3),a,b])->cL n a->cL n b->JI M w v (EF (Pl.EA (AD n) a b)) (BB n a+BB n b)
theorem nX{x:Tr}(h:¬∃a b,x=.agg [a,b]):Pl.BI x=false:=by
 unfold Pl.BI;split
 ·exact absurd ⟨_,_,rfl⟩ h
 ·rfl
theorem vY{f:Tr->Option PF}{a:List Tr}(h:¬a.length=2):Pl.J8 f a=none:=by
 match a,h with
 | [],_=>rfl
 | [_],_=>rfl
 | _::_::_::_,_=>rfl
theorem q9{f:Tr->Option PF}{l:List Tr}{b:Tr}(h:l.all Pl.BI=false):Pl.D5 f (.agg l) b=none:=by simp [Pl.D5,h]
theorem pD{f:Tr->Option PF}{p b:Tr}(h:¬∃l,p=.agg l):Pl.D5 f p b=none:=by
 unfold Pl.D5;split
 ·exact absurd ⟨_,rfl⟩ h
 ·rfl
theorem X9{f:Tr->Option PF}{l:List Tr}{b:Tr}(h:l.all Pl.BI=true):Pl.D5 f (.agg l) b=(Pl.EA f (.agg (l.map Pl.DC)) b).bind fun h=>(Pl.B1 f (l.map Pl.BU)).map fun r=>BN .call [] .nil (h::r) []:=by simp [Pl.D5,h]
theorem vV{ok:Nat->Prop}:∀{l:List Tr},BY (AN ok (m+1) w) vs l->l.all Pl.BI=true->((l.map Pl.DC).map (BB (m+1))).sum+((l.map Pl.BU).map (BB (m+1+1))).sum=(l.map (BB (m+1))).sum:=by
 intro l c d
 induction l generalizing vs with
 | nil=>rfl
 | cons x r h =>
  match vs,c with
  | [],c=>have:=c.1;simp at this
  | v::vs,c =>
   simp only [List.all_cons,Bool.and_eq_true] at d;have j:BY (AN ok (m+1) w) vs r:=⟨by have:=c.1;simpa using this,fun i u y k n=>c.2 (i+1) u y (by simpa using k) (by simpa using n)⟩
   have o:=c.2 0 v x rfl rfl;have:=h j d.2
   obtain⟨a,b,rfl⟩:∃a b,x=.agg [a,b]:=by
    unfold Pl.BI at d;split at d
    ·exact⟨_,_,rfl⟩
    ·simp at d
   obtain⟨C,p,_,_,q,e,_⟩:=o;have s:p.length=2:=q.1.trans (Nat.mul_one _);obtain⟨f,g,rfl⟩:=fO s;have t:=e 0 f a rfl rfl;have z:=e 1 g b rfl rfl;have A:=lA m (m+1) f a t (by omega);have B:=lA m (m+1+1) g b z (by omega);simp only [List.map_cons,List.sum_cons,Pl.DC,Pl.BU,A,B];show _=([a,b].map (BB m)).sum+_;simp only [List.map_cons,List.map_nil,List.sum_cons,List.sum_nil];omega
theorem vW{l:List Tr}(h:C9 M m w vs l)(j:∀x∈l,cL m x)(hp:l.all Pl.BI=true)(q:Nat):(∀a∈l.map Pl.DC,cL q a)/\(∀a∈l.map Pl.BU,cL q a):=by
 have e:∀x∈l,∃a b,x=.agg [a,b]/\cL q a/\cL q b:=by
  intro x c;obtain⟨i,k⟩:=List.mem_iff_getElem?.1 c;obtain⟨u,_,n⟩:=h.at_ k;have g:=mF m (q+1) u x n (j x c);have d:=List.all_eq_true.1 hp x c;unfold Pl.BI at d;split at d
  ·next a b=>exact⟨a,b,rfl,g a (by simp),g b (by simp)⟩
  ·simp at d
 constructor
 ·intro a f;obtain⟨x,c,rfl⟩:=List.mem_map.1 f;obtain⟨a,b,rfl,o,_⟩:=e x c;exact o
 ·intro a f;obtain⟨x,c,rfl⟩:=List.mem_map.1 f;obtain⟨a,b,rfl,_,p⟩:=e x c;exact p
theorem X6{l:List Tr}{bd:Tr}(a:C9 M m w vs l)(hp:l.all Pl.BI=true):((BB (m+1) (.agg (l.map Pl.DC))+BB (m+1) bd)::(l.map Pl.BU).map (BB (m+1))).sum=BB (m+1) (.agg l)+BB (m+1) bd:=by
 rw [List.sum_cons];show((l.map Pl.DC).map (BB m)).sum+_+_=(l.map (BB m)).sum+_
 cases m with
 | zero =>
  cases l with
  | nil=>simp
  | cons x r =>obtain⟨u,_,h⟩:=a.at_ (i:=0) (x:=x) rfl;exact h.elim
 | succ m =>have:=vV a hp;omega
theorem LM.from_{wz:World}{s:Sg}{tb mb:Nat}{ps:List (PV×PV)}{o:FR}{z:Nat}{ev:Value}{w':World}(h:LM M wz s tb mb ps o z v ev w')(a:Below w.heap.size w wz):LM M w s tb mb ps o z v ev w':=⟨aM (aI a) h.1,h.2⟩
theorem zW(m:Nat)(L:GB (m+1))(N:JG (m+1))(M:Nat->Prop)(w u:World)(s:Sg)(tb mb:Nat)(ps:List (PV×PV))(l:List Tr)(bd:Tr)(O:List Value)(A:Value)(a:List Value)(P:BM M w s tb mb ps)(H:Below w.heap.size w u)(B:C9 M m w O l)(I:∀x∈l,cL m x)(C:cL (m+1) bd)(hp:l.all Pl.BI=true)(J:l.length<=1000)
  (n:AN (fun k=>¬M k) (m+1+1) u A (.agg [.lit (.string Pl.C3),.agg (l.map Pl.DC),bd])) (D:C9 M m w a (l.map Pl.BU)) (Q:s.ns.length+(BB (m+1) (.agg l)+BB (m+1) bd)<=BS) (o:FR) (R:o=EF (Pl.D5 (AD (m+1)) (.agg l) bd) ps.length) :
  ∀(c:World)(b:Value),Below u.heap.size u c->CD M c b (A::a)->Calls prog 156 #[.agg #[.pointer (some ⟨tb,0,none⟩)],b] c fun e K=>∃v y,e=.returned (.tuple #[v,y])/\Hid (LM M w s tb mb ps o (BB (m+1) (.agg l)+BB (m+1) bd) v y K):=by
 intro c b p S;have f:Below w.heap.size w c:=H.trans (p.mono H.size);obtain⟨U,X⟩:=vW B I hp m;obtain⟨_,V⟩:=vW B I hp (m+1);have E:a.length=l.length:=by have:=D.1;simpa using this
 have d:=X6 (bd:=bd) B hp
 have:=S7 M c s tb mb ps b (A::a) (EF (Pl.EA (AD (m+1)) (.agg (l.map Pl.DC)) bd)::(l.map Pl.BU).map fun t=>EF (AD (m+1) t)) ((BB (m+1) (.agg (l.map Pl.DC))+BB (m+1) bd)::(l.map Pl.BU).map (BB (m+1))) (P.below f) S (by simp [E]) (by simp) (by simp;omega) (by simp) (by rw [d];exact Q) (fun v W=>by
   rcases List.mem_cons.1 W with rfl | h
   ·obtain⟨T,x,e,_⟩:=n.iface;exact⟨T,x,e⟩
   ·exact D.iface v h) (fun i v F z j g q=>by
   cases i with
   | zero =>simp only [List.getElem?_cons_zero,o_] at j g q;subst j g q;exact N M c _ _ _ (n.go (Stp.AA p)) U C
   | succ i =>
    rw [List.getElem?_cons_succ] at j g q;rw [List.getElem?_map,Option.map_eq_some_iff] at g q;obtain⟨t,G,rfl⟩:=g;obtain⟨Y,r,rfl⟩:=q;rw [G] at r;obtain rfl:=i_ r
    exact L M c v t (AN.up _ _ _ _ (Nat.le_succ _) ((D.2 i v t j G).go (Stp.AA f))) (V t (q_ G))) o (by rw [X7,R,X9 hp])
 rw [d] at this;refine this.mono (fun e K h=>?_);obtain⟨v,y,j,g⟩:=h.one;exact⟨v,y,j,g.from_ f⟩
end
open Pl (CW AE Env)
section
open Go.RowKit Go.Lib
variable {w w':World} {rb:Nat} {cs:Array Value} {M:Nat->Prop}
structure AI(w:World)(rb:Nat)(cs:Array Value)(w':World):Prop where
 os:w'.os=w.os
 tape:w'.tape=w.tape
 output:w'.output=w.output
 size:w.heap.size<=w'.heap.size
 blk:w'.heap[rb]?=some (.cells cs BT (0,0))
 other:∀k,k<w.heap.size->k≠rb->w'.heap[k]?=w.heap[k]?
theorem AI.mv{cs0:Array Value}(h:AI w rb cs w')(c:w.heap[rb]?=some (.cells cs0 BT (0,0)))(d:M rb):Mv M w M w' :=
 ⟨⟨h.os,h.tape,h.output,h.size,fun k a b=>⟨h.other k a (fun e=>b (by rw [e];exact d)),b⟩⟩,fun k a f=>⟨f,by
  by_cases e:k=rb
  ·subst e;exact .inr ⟨cs0,BT,(0,0),c,by decide⟩
  ·exact .inl (h.other k a e)⟩,fun g k a=>l_ (g k a) h.size⟩
theorem AI.after{w1:World}(h:AI w1 rb cs w')(a:Below w.heap.size w w1):AI w rb cs w' :=⟨h.os.trans a.os,h.tape.trans a.tape,h.output.trans a.output,t_ a.size h.size,h.blk,fun k b e=>(h.other k (l_ b a.size) e).trans (a.block k b)⟩
theorem AI.trans{w1:World}{cs':Array Value}(h:AI w rb cs w1)(k:AI w1 rb cs' w'):AI w rb cs' w' :=⟨k.os.trans h.os,k.tape.trans h.tape,k.output.trans h.output,t_ h.size k.size,k.blk,fun i a e=>(k.other i (l_ a h.size) e).trans (h.other i a e)⟩
theorem AI.set{cs0:Array Value}(a:w.heap[rb]?=some (.cells cs0 BT (0,0)))(o:Nat)(v:Value)(b:cs0.setIfInBounds o v=cs):AI w rb cs (w.setCell ⟨rb,o,none⟩ v) :=⟨rfl,rfl,rfl,by simp [World.setCell],by subst b;exact aD a o v,fun k _ e=>Below.heap_setCell _ _ _ _ (fun x=>e (by simpa using x))⟩
theorem AI.alloc(h:AI w rb cs w')(o:Obj):AI w rb cs (w'.alloc o) :=⟨h.os,h.tape,h.output,by simp;have:=h.size;omega,(k_ (aB h.blk)).trans h.blk,fun k a e=>(k_ (l_ a h.size)).trans (h.other k a e)⟩
theorem AI.drew(h:AI w rb cs w'):AI w rb cs w'.drew:=⟨h.os,h.tape,h.output,h.size,h.blk,h.other⟩
theorem jF(w:World)(a:Nat)(c g h i d f v:Value)(b:w.heap[a]?=some (.cells #[c,g,h,i,d,f] BT (0,0)))(l:∃T x,v=.iface T x) :Calls prog 169 #[.pointer (some ⟨a,1,none⟩),v] w fun e m=>e=.returned (.tuple #[])/\AI w a #[c,.nilIface,.pointer none,v,d,f] m:=by
 obtain⟨T,x,rfl⟩:=l;have p:w.cell? ⟨a,1,none⟩=some g:=aA b 1;have q:w.cell? ⟨a,2,none⟩=some h:=aA b 2;have r:w.cell? ⟨a,3,none⟩=some i:=aA b 3;have s:w.frozen? ⟨a,1,none⟩=false:=aF b 1;have t:w.frozen? ⟨a,2,none⟩=false:=aF b 2;have u:w.frozen? ⟨a,3,none⟩=false:=aF b 3;have n:Hid (AI w a #[c,.nilIface,.pointer none,.iface T x,d,f] (((w.setCell ⟨a,1,none⟩ .nilIface).setCell ⟨a,2,none⟩ (.pointer none)).setCell ⟨a,3,none⟩ (.iface T x))):=by have j:=AI.set b 1 .nilIface rfl;have k:=AI.set j.blk 2 (.pointer none) rfl;have o:=AI.set k.blk 3 (.iface T x) rfl;exact(j.trans k).trans o
 clear b;go_enter func169,ntmps169;go_wp2_with fail
 go_end0
 exact⟨rfl,n⟩
theorem cU(w:World)(a:Nat)(c i j k d f g h:Value)(b:w.heap[a]?=some (.cells #[c,i,j,k,d,f] BT (0,0)))(n:∃T x,g=.iface T x)(p:∃o,h=.pointer o) :Calls prog 172 #[.pointer (some ⟨a,1,none⟩),g,h] w fun e q=>e=.returned (.tuple #[])/\AI w a #[c,g,h,.nilIface,d,f] q:=by
 obtain⟨T,x,rfl⟩:=n;obtain⟨o,rfl⟩:=p;have t:w.cell? ⟨a,1,none⟩=some i:=aA b 1;have u:w.cell? ⟨a,2,none⟩=some j:=aA b 2;have v:w.cell? ⟨a,3,none⟩=some k:=aA b 3;have y:w.frozen? ⟨a,1,none⟩=false:=aF b 1;have z:w.frozen? ⟨a,2,none⟩=false:=aF b 2;have A:w.frozen? ⟨a,3,none⟩=false:=aF b 3;have r:Hid (AI w a #[c,.iface T x,.pointer o,.nilIface,d,f] (((w.setCell ⟨a,1,none⟩ (.iface T x)).setCell ⟨a,2,none⟩ (.pointer o)).setCell ⟨a,3,none⟩ .nilIface)):=by have l:=AI.set b 1 (.iface T x) rfl;have m:=AI.set l.blk 2 (.pointer o) rfl;have s:=AI.set m.blk 3 .nilIface rfl;exact(l.trans m).trans s
 clear b;go_enter func172,ntmps172;go_wp2_with fail
 go_end0
 exact⟨rfl,r⟩
def LI(w:World)(kv:Value)(n:Nat):Prop:=(kv=.pointer none/\n=0)\/∃b top up,kv=.pointer (some ⟨b,0,none⟩)/\w.heap[b]?=some (.cells #[top,up,.int .i64 (n:Int)] DQ (0,0))
theorem GW.J7{s:Sg}{kv:Value}{a:List CW}(h:GW M w s kv a):LI w kv a.length:=by
 cases a with
 | nil=>exact .inl ⟨h,rfl⟩
 | cons f r =>obtain⟨b,c,d,e,_,g,_⟩:=h;exact .inr ⟨b,c,d,e,g⟩
theorem LI.below{kv:Value}{n:Nat}(h:LI w kv n)(d:Below w.heap.size w w'):LI w' kv n:=by
 rcases h with h | ⟨b,a,e,f,c⟩
 ·exact .inl h
 ·exact .inr ⟨b,a,e,f,(d.block b (aB c)).trans c⟩
theorem yK(w:World)(a:Value)(n:Nat)(h:LI w a n):Calls prog 127 #[a] w fun e d=>e=.returned (.int .i64 (n:Int))/\w=d:=by
 rcases h with⟨rfl,rfl⟩ | ⟨b,f,g,rfl,c⟩
 ·go_enter func127,ntmps127
  go_wp2_with fail
  go_ret;exact⟨rfl,rfl⟩
 ·have i:w.cell? ⟨b,2,none⟩=some (.int .i64 (n:Int)):=aA c 2;clear c;go_enter func127,ntmps127;go_wp2_with fail;go_ret;exact⟨rfl,rfl⟩
theorem kS(w:World)(b:Nat)(h i j k d l f:Value)(n:Nat)(c:w.heap[b]?=some (.cells #[h,i,j,k,d,l] BT (0,0)))(q:∃T x,f=.iface T x)(r:∃o,d=.pointer o)(hp:LI w d n)(z:n<=6500000000000000000) :Calls prog 171 #[.pointer (some ⟨b,1,none⟩),f] w fun e a=>e=.returned (.tuple #[])/\∃p,w.heap.size<=p/\a.heap[p]?=some (.cells #[f,d,.int .i64 ((n+1:Nat):Int)] DQ (0,0))/\AI w b #[h,i,j,k,.pointer (some ⟨p,0,none⟩),l] a:=by
 obtain⟨T,x,rfl⟩:=q;obtain⟨o,rfl⟩:=r;have s:Hid (∀a,Below w.heap.size w a->Calls prog 127 #[.pointer o] a fun e t=>e=.returned (.int .i64 (n:Int))/\a=t):=fun a u=>yK a _ n (hp.below u);have A:w.cell? ⟨b,4,none⟩=some (.pointer o):=aA c 4;have B:w.frozen? ⟨b,4,none⟩=false:=aF c 4;have v:IntKind.i64.wrap ((n:Int)+1)=((n+1:Nat):Int):=by rw [IntKind.wrap_i64];omega
 have y:=aB c;have m:=h_ c;clear c hp;go_enter func171,ntmps171;go_wp2_with fail;go_region_with (go_at_call 127;refine(s _ (r_.drew)).mono ?_;rintro e a ⟨rfl,rfl⟩)
 all_goals
  go_wp2_with fail
  go_end0
  refine⟨rfl,w.heap.size,n_,?_,?_⟩
  ·have g:=heap_alloc_new (w.setCell ⟨b,4,none⟩ (.pointer (some ⟨w.heap.size,0,none⟩))) (.cells #[.iface T x,.pointer o,.int .i64 ((n+1:Nat):Int)] DQ);rw [show(w.setCell ⟨b,4,none⟩ (.pointer (some ⟨w.heap.size,0,none⟩))).heap.size=w.heap.size from by simp [World.setCell]] at g;first | exact g | (rw [v];exact g)
  ·first | exact((AI.set m 4 _ rfl).alloc _).drew | exact((AI.set m 4 _ rfl).drew.alloc _)
theorem cV{l:List AE}(a:l.Nodup){i:Nat}{t:AE}(h:l[i]?=some t):l.idxOf t=i:=by obtain⟨b,rfl⟩:=s_ h;exact a.idxOf_getElem i b
theorem eN:∀(c:List AE)(a:Nat)(b:AE),b∉c->Pl.find (Pl.C1 c a) b=none
 | [],_,_,_=>rfl
 | x::r,a,b,h=>by simp only [List.mem_cons,not_or] at h;simp only [Pl.C1,Pl.find,eN r (a+1) b h.2];rw [if_neg (fun e=>h.1 e.symm)]
theorem n9:∀(d:List AE)(a i:Nat)(b:AE),d.Nodup->d[i]?=some b->Pl.find (Pl.C1 d a) b=some (a+i)
 | [],_,_,_,_,h=>by simp at h
 | x::r,a,0,b,c,h=>by simp only [List.getElem?_cons_zero,o_] at h;subst h;simp only [List.nodup_cons] at c;simp only [Pl.C1,Pl.find,eN r (a+1) x c.1];simp
 | x::r,a,i+1,b,c,h=>by
  simp only [List.getElem?_cons_succ] at h;simp only [List.nodup_cons] at c;simp only [Pl.C1,Pl.find,n9 r (a+1) i b c.2 h]
  congr 1
  omega
def L7(w:World):Nat->Value->Prop
 | 0,v=>v=.pointer none
 | n+1,v=>∃b nv sv up,v=.pointer (some ⟨b,0,none⟩)/\w.heap[b]?=some (.cells #[nv,sv,up] M8 (0,0))/\L7 w n up
theorem L7.uniq:∀{n m:Nat} {v:Value},L7 w n v->L7 w m v->n=m
 | 0,0,_,_,_=>rfl
 | 0,m+1,v,h,k=>by
  obtain⟨b,_,_,_,e,_⟩:=k;rw [show v=.pointer none from h] at e
  cases e
 | n+1,0,v,h,k=>by
  obtain⟨b,_,_,_,e,_⟩:=h;rw [show v=.pointer none from k] at e
  cases e
 | n+1,m+1,v,h,k=>by obtain⟨b,l,o,p,rfl,d,c⟩:=h;obtain⟨q,f,g,i,e,a,j⟩:=k;simp only [Value.pointer.injEq,o_,Addr.mk.injEq,and_true] at e;subst e;rw [d] at a;simp only [o_,Obj.cells.injEq,Array.mk.injEq,List.cons.injEq,and_true] at a;rw [a.2.2] at c;rw [L7.uniq c j]
theorem CX.dep{s:Sg}{v:Value}{env:Env}(h:CX M w s v env):∃n,L7 w n v:=by
 induction h with
 | nil=>exact⟨0,rfl⟩
 | cons b c d j e a k env f _ _ _ _ _ g =>obtain⟨n,i⟩:=g;exact⟨n+1,b,c,_,d,rfl,f,i⟩
theorem Y9(w:World):∃a:Value->Nat,∀v n,L7 w n v->a v=n :=⟨fun v=>Classical.epsilon (fun n=>L7 w n v),fun _ _ h=>L7.uniq (Classical.epsilon_spec (p:=fun n=>L7 w n _) ⟨_,h⟩) h⟩
def VG(s:Sg)(env:Env)(nm:AE)(e:Ending):Prop :=(Pl.find env nm=none/\e=.returned (.pointer none))\/(∃i g o,Pl.find env nm=some i/\s.lp[i]?=some (some (g,o))/\e=.returned (.pointer (some ⟨g,o,none⟩)))
theorem X0{f:Option Addr}{n cap:Nat}{ns:List AE}{ks:List Nat}(h:Sl M w B6 2 (.slice f n cap) ns.length (d7 ns ks)){i k:Nat}{t:AE}(l:ns[i]?=some t)(o:ks[i]?=some k) :∃g a,f=some ⟨g,a,none⟩/\g<w.heap.size/\n=ns.length/\ns.length<=cap/\w.cell? ⟨g,a+i*2,none⟩=some (.string ⟨t.toArray⟩)/\w.cell? ⟨g,a+i*2+1,none⟩=some (.int .i64 (k:Int)):=by
 obtain⟨_,q,m,e,r,s⟩:=h;simp only [Value.slice.injEq] at e;obtain⟨rfl,rfl,rfl⟩:=e;have y:=(s_ l).1;rcases s with z | ⟨g,a,u,rfl,_,d,b⟩
 ·omega
 ·have v:(List.zip ns ks)[i]?=some (t,k):=by rw [List.getElem?_zip_eq_some];exact⟨l,o⟩
  have c:∀j,j<2->(d7 ns ks)[i*2+j]?=(gU t k)[j]? := fun j x=>by unfold d7;exact aX (fun p=>gU p.1 p.2) 2 (fun _=>rfl) _ i j (t,k) v x
  refine⟨g,a,rfl,aB d,rfl,r,?_,?_⟩
  ·rw [aA d];exact b (i*2) _ (c 0 (by decide))
  ·rw [Nat.add_assoc,aA d];exact b (i*2+1) _ (c 1 (by decide))
theorem uW(M:Nat->Prop)(w:World)(s:Sg)(ev:Value)(env:Env)(nm:AE)(k:Nat)(P:s.ns.Nodup)(he:CX M w s ev env)(hk:s.ns[k]?=some nm) :Calls prog 194 #[ev,.agg #[.string ⟨nm.toArray⟩,.int .i64 (k:Int)]] w fun e w'=>Below w.heap.size w w'/\VG s env nm e:=by
 have HN:=h_ P;have HE:=h_ he;have HK:=h_ hk;obtain⟨ad,D⟩:=Y9 w;have HD:=h_ D;have Q:Below w.heap.size w (w.alloc (.cells #[.string ⟨nm.toArray⟩,.int .i64 (k:Int)] B6)):=b_;have ae:=h_ Q;clear P he hk D Q;go_enter func194,ntmps194;go_wp2_with fail
 go_loopw [0] (fun v wr=>∃r,Hid (CX M w s v r/\Pl.find env nm=Pl.find r nm/\Below w.heap.size w wr/\wr.heap[w.heap.size]?=some (.cells #[.string ⟨nm.toArray⟩,.int .i64 (k:Int)] B6 (0,0)))) (fun v _=>ad v)
 case atStart=>exact⟨env,HE,rfl,ae,heap_alloc_new w _⟩
 case round =>
  obtain⟨r,HI⟩:=hrel;obtain⟨af,A,u,x⟩:=HI.out
  cases af with
  | nil =>have HF:=h_ A;have HB:=h_ u;clear A u x HI;go_wp2_with fail;go_ret;exact⟨HB,.inl ⟨HF,rfl⟩⟩
  | cons b nv up ao R m c y hb hm ag am hp S =>
   obtain⟨⟨ks,T,H⟩,U,E⟩:=ag;have V:=H;obtain⟨_,I,z,rfl,ah,_⟩:=V;have q:Hid (CX M w s up y/\Pl.find env nm=Pl.find (y++Pl.C1 c m) nm/\w.heap[b]?=some (.cells #[.slice I c.length z,.slice ao c.length R,up] M8 (0,0))/\BY (fun k t=>s.ns[k]?=some t) ks c/\Sl M w B6 2 (.slice I c.length z) c.length (d7 c ks)/\c.Nodup/\c.length<=1000):=⟨S,A,hb,T,H,U,E⟩
   have HP:=h_ hp;have HB:=h_ u;have J:=aB hb;have W:=(u.block b J).trans hb;have c0:wr.cell? ⟨b,0,none⟩=some (.slice I c.length z):=aA W 0;have ai:=h_ x;clear hb hm T H U E hp S A u W x HI;go_wp2_with fail
   go_loopw [18] (fun iv wq=>∃i:Nat,iv=.int .i64 (i:Int)/\i<=c.length/\Hid (Below w.heap.size w wq/\wq.heap[w.heap.size]?=some (.cells #[.string ⟨nm.toArray⟩,.int .i64 (k:Int)] B6 (0,0))/\∀j,j<i->c[j]? ≠ some nm)) (fun iv _=>c.length-(RowKit.intOf iv).toNat)
   case atStart=>exact⟨0,rfl,Nat.zero_le _,HB,ai,fun j X=>absurd X (Nat.not_lt_zero _)⟩
   case round =>
    obtain⟨i,rfl,hi,HQ⟩:=hrel;have ap:=q.2.2.2.2.2.2;obtain⟨d,a,f⟩:=HQ.out;by_cases K:i<c.length
    ·obtain⟨t,O⟩:∃t,c[i]?=some t:=⟨_,g_ K⟩
     obtain⟨k2,L,B⟩:=q.2.2.2.1.at_ O;obtain⟨g2,F,rfl,Y,_,_,d0,d1⟩:=X0 q.2.2.2.2.1 O L;have aq:=(d.cell (p:=⟨g2,F+i*2,none⟩) Y).trans d0;have ar:=(d.cell (p:=⟨g2,F+i*2+1,none⟩) Y).trans d1;have b0:wr.cell? ⟨w.heap.size,1,none⟩=some (.int .i64 (k:Int)):=aA a 1;have aj:w.heap.size<wr.heap.size:=aB a;have G:(i:Int)<(c.length:Int):=by omega
     have h0:(0:Int)<=(i:Int):=by omega
     have h:=(d.block b J).trans q.2.2.1;have c1:wr.cell? ⟨b,1,none⟩=some (.slice ao c.length R):=aA h 1;have an:b<wr.heap.size:=aB h;have o:=h_ d;have l:=h_ a;have ak:=h_ f;by_cases N:k2=k
     ·subst N;have C:t=nm:=by have:=B.symm.trans HK;exact i_ this
      subst C;obtain⟨g,Z,rfl,aa⟩:=HP.out i K;have HF:Hid (VG s env t (.returned (.pointer (some ⟨g,Z+i,none⟩)))):=.inr ⟨m+i,g,Z+i,by rw [q.2.1,Pl.FJ,n9 c m i t q.2.2.2.2.2.1 O],aa,rfl⟩;clear d a f d0 d1 h aa O L B HQ;go_wp2_with fail;go_ret;exact⟨(o.alloc o.size _),HF⟩
     ·have au:((k2:Int)==(k:Int))=false:=beq_eq_false_iff_ne.2 (by omega);have C:t≠nm:=fun e=>by subst e;refine N ?_;have h1:=cV HN B;have h2:=cV HN HK;omega
      have HT:Hid (t≠nm/\c[i]?=some t):=⟨C,O⟩
      clear d a f d0 d1 h O L B HQ C N;go_wp2_with fail
      go_roundw
      case rel =>
       refine⟨i+1,by go_num,K,o.alloc o.size _,(k_ aj).trans l,fun j X e=>?_⟩;rcases Nat.lt_or_ge j i with ab | ab
       ·exact ak.out j ab e
       ·obtain rfl:j=i:=by omega
        rw [HT.2] at e;exact HT.1 (i_ e)
      case measure=>simp only [RowKit.intOf];omega
    ·have G:i=c.length:=by omega
     subst G;have al:Hid (nm∉c):=fun ac=>by obtain⟨j,X⟩:=List.getElem?_of_mem ac;exact f j (s_ X).1 X
     have h:=(d.block b J).trans q.2.2.1;obtain⟨ou,rfl⟩:=q.1.ptr;have c2:wr.cell? ⟨b,2,none⟩=some (.pointer ou):=aA h 2;have o:=h_ d;have l:=h_ a;clear d a f h HQ;go_wp2_with fail
     go_roundw
     case rel =>refine⟨y,q.1,?_,o,l⟩;rw [q.2.1,Pl.FJ,eN c m nm al.out]
     case measure =>obtain⟨n,P⟩:=q.1.dep;rw [HD.out _ n P,HD.out _ (n+1) ⟨b,_,_,_,rfl,q.2.2.1,P⟩];omega
end
end Go.Proofs.YtkgbdddkcjpgfaaGreatDoor
