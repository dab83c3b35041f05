import Derived.Laws.OwnMore
import Derived.Test.YtieooapcfpimlaaGreatDoorL11
namespace Go.Proofs.YtieooapcfpimlaaGreatDoor
set_option maxHeartbeats 4000000
set_option maxRecDepth 100000
open Go.Proofs.Tryz
open Pl (PV PF FR AD BB BN EF)
section
open Go.RowKit
variable {w:World} {vs:List Value} {base n m:Nat} {M:Nat->Prop} {v:Value}
theorem iV{P:Program}(t f e:TypeId)(i:TypeInfo)(g:P.underlying t=some (.slice e))(hi:P.info? e=some i)(d:Addr)(n a:Nat)(b:n<=a)(p:Option Addr)(c:Nat) :(Builtin.append_ #[t,t] f #[.slice (some d) n a,.slice p 0 c]).run P w=.ok (.slice (some d) n a) w:=by cases p<;>simp [Builtin.append_,run_underlying g,sizeOf,typeInfo,hi,Builtin.lenOf,Builtin.firstCells,b,storeCells,loadCells,loadCellsFrom]
theorem iC{P:Program}{d:Array Oper}{o:Oper}{a:Act}{K:Act->World->Prop}{Q:Exit->Act->World->Prop}{E:Prop}(g:o.guard=none)(s x:Operand)(t:TypeId)
  (l:o.op=.call {callee:=.builtin .append,args:=#[s,x],argTypes:=#[t,t]})
  (e:TypeId) (i:TypeInfo) (m:P.underlying t=some (.slice e)) (hi:P.info? e=some i)
  (j:Addr) (n b:Nat) (k:n<=b) (p:Option Addr) (c:Nat) (q:a.eval s=.slice (some j) n b) (r:a.eval x=.slice p 0 c)
  (h:K (a.put o.dst (.slice (some j) n b)) w):if Region.wanted o (yielded d a.tmps)=true then Oper.wp P o a w K Q else E:=by
 have u:Region.wanted o (yielded d a.tmps)=true:=by simp [Region.wanted,g]
 rw [if_pos u];have f:=iV (P:=P) (w:=w) t o.type e i m hi j n b k p c;unfold Oper.wp;simp [execOp,l,resolve,invoke,builtin,q,r,f,Result.andThen];exact h
theorem tP{P:Program}{g:Array Oper}{o:Oper}{a:Act}{K:Act->World->Prop}{Q:Exit->Act->World->Prop}{E:Prop}(k:o.guard=none)(f:FuncId)(m:Array Operand)(n:Array TypeId)
  (p:o.op=.call {callee:=.value (.func f),args:=m,argTypes:=n}) {l:Func} {c:Code} (q:P.funcs[f]?=some l) (d:(l.name == "runtime.NumGoroutine")=false) (r:l.body=some c)
  (b:Array Value) (s:m.map a.eval=b) {R:Ending->World->Prop} (t:Calls P f b w R) (h:∀e j,R e j->∃v,e=.returned v/\K (a.put o.dst v) j):if Region.wanted o (yielded g a.tmps)=true then Oper.wp P o a w K Q else E:=by
 have u:Region.wanted o (yielded g a.tmps)=true:=by simp [Region.wanted,k]
 rw [if_pos u];have i:=Go.MuLone.run_callFunc_enter (P:=P) q d r b w;have x:(execOp a.eval o).run P w=.ok (.enter f b) w:=by subst s;simp [execOp,p,resolve,invoke,Deferred.ofValue,Act.eval,i]
 unfold Oper.wp;rw [x,Oper.upon_enter];refine t.mono (fun e j y=>?_);obtain⟨v,rfl,z⟩:=h e j y;exact z
theorem kO{P:Program}{d:Array Oper}{o:Oper}{a:Act}{K:Act->World->Prop}{Q:Exit->Act->World->Prop}{E:Prop}(g:o.guard=none)(f:FuncId)(i j:Operand)(n:Array TypeId)
  (q:o.op=.call {callee:=.value (.func f),args:=#[i,j],argTypes:=n}) {k:Func} {c:Code} (r:P.funcs[f]?=some k) (b:(k.name == "runtime.NumGoroutine")=false) (s:k.body=some c)
  (l m:Value) (t:a.eval i=l) (u:a.eval j=m) {R:Ending->World->Prop} (x:Calls P f #[l,m] w R) (h:∀e p,R e p->∃v,e=.returned v/\K (a.put o.dst v) p):if Region.wanted o (yielded d a.tmps)=true then Oper.wp P o a w K Q else E :=
 tP g f #[i,j] n q r b s #[l,m] (by simp [t,u]) x h
structure I5(w wr:World)(a b:Nat)(nS vS:Value)(nvs vvs:List Value):Prop where
 below:Below w.heap.size w wr
 G0:wr.ownsRow w.heap.size PT 1 nS a nvs
 I6:wr.ownsRow w.heap.size PT 1 vS b vvs
 apart:∀r,nS.ownBlock=some r->vS.ownBlock≠some r
theorem qT(w:World)(e:TypeId)(h:base<=w.heap.size):(w.alloc (.cells #[] e)).ownsRow base e 1 (.slice (some ⟨w.heap.size,0,none⟩) 0 0) 0 [] :=⟨rfl,.inr ⟨w.heap.size,0,#[],rfl,h,heap_alloc_new _ _,n_,by unfold maxLen;omega,rfl,rfl⟩⟩
theorem I5.start(w:World):Hid (I5 w ((w.alloc (.cells #[] PT)).alloc (.cells #[] PT)) 0 0 (.slice (some ⟨w.heap.size,0,none⟩) 0 0) (.slice (some ⟨w.heap.size+1,0,none⟩) 0 0) [] []):=by
 have e:(w.alloc (.cells #[] PT)).heap.size=w.heap.size+1:=by simp
 refine I5.mk (b_.alloc (by simp) _) ((qT w PT n_).alloc _) ?_ (fun r h=>by simp [Value.ownBlock] at h ⊢;omega);rw [<- e];exact qT _ PT (by simp)
theorem kV{a b:World}{x:Value}(h:a.ownsRow base PT 1 v n vs)(l:a.grownBy b x.ownBlock)(d:∀r,v.ownBlock=some r->x.ownBlock≠some r):b.ownsRow base PT 1 v n vs:=by
 refine⟨h.1,?_⟩;rcases h.2 with m | ⟨g,f,i,j,o,k,c⟩
 ·exact .inl m
 ·refine .inr ⟨g,f,i,j,o,?_,c⟩;rw [l.block g (aB k) (fun e=>d g (by rw [j];rfl) e.symm)];exact k
theorem I5.LE{wr w3:World}{a b:Nat}{nS vS:Value}{nvs vvs:List Value}(h:I5 w wr a b nS vS nvs vvs){o:Obj}{g' cap':Nat}{u:Value}
  (c:w3.ownsRow w.heap.size PT 1 (.slice (some ⟨g',0,none⟩) (a+1) cap') (a+1) (nvs++[u])) (i:(wr.alloc o).grownBy w3 nS.ownBlock) (f:nS.ownBlock=some g'\/g'=wr.heap.size+1) :
  I5 w w3 (a+1) b (.slice (some ⟨g',0,none⟩) (a+1) cap') vS (nvs++[u]) vvs:=by
 have g:=h.G0.lt;refine⟨?_,c,kV (h.I6.alloc o) i (fun r d e=>h.apart r e d),?_⟩
 ·refine(h.below.alloc h.below.size o).grown i ?_ ?_
  ·have:=h.below.size;simp;omega
  ·intro k l;have:=(g k l).1;omega
 ·intro r d;simp only [Value.ownBlock,o_] at d;subst d;rcases f with j | j
  ·exact h.apart _ j
  ·intro e;have:=(h.I6.lt _ e).2;omega
theorem I5.KK{wr w3:World}{a b:Nat}{nS vS:Value}{nvs vvs:List Value}(h:I5 w wr a b nS vS nvs vvs){o:Obj}{g' cap':Nat}{u:Value}
  (c:w3.ownsRow w.heap.size PT 1 (.slice (some ⟨g',0,none⟩) (b+1) cap') (b+1) (vvs++[u])) (g:(wr.alloc o).grownBy w3 vS.ownBlock) (d:vS.ownBlock=some g'\/g'=wr.heap.size+1) :
  I5 w w3 a (b+1) nS (.slice (some ⟨g',0,none⟩) (b+1) cap') nvs (vvs++[u]):=by
 have f:=h.I6.lt;refine⟨?_,kV (h.G0.alloc o) g h.apart,c,?_⟩
 ·refine(h.below.alloc h.below.size o).grown g ?_ ?_
  ·have:=h.below.size;simp;omega
  ·intro k l;have:=(f k l).1;omega
 ·intro r i e;simp only [Value.ownBlock,o_] at e;subst e;rcases d with j | j
  ·exact h.apart _ i j
  ·have:=(h.G0.lt _ i).2;omega
theorem zL(h:w.ownsRow base PT 1 v n vs):w.ownsRow 0 PT 1 v n vs:=⟨h.1,h.2.imp id (fun⟨g,b,d,a,_,c⟩=>⟨g,b,d,a,Nat.zero_le _,c⟩)⟩
theorem qU(w:World)(e:TypeId)(h:base<=w.heap.size)(u:Value):(w.alloc (.cells #[u] e)).ownsRow base e 1 (.slice (some ⟨w.heap.size,0,none⟩) 1 1) 1 [u] :=⟨rfl,.inr ⟨w.heap.size,1,#[u],rfl,h,heap_alloc_new _ _,n_,by unfold maxLen;omega,rfl,rfl⟩⟩
theorem XR{a:List Tr}(d:∀k,M k->k<base)(h:C9 M n w vs a)(c:w.ownsRow base PT 1 v a.length vs)(e:a.length<=1000):AN (fun k=>¬M k) (n+1) w (.iface 118 v) (.agg a) :=⟨v,vs,rfl,fun r b f=>by have:=(c.lt r b).1;have:=d r f;omega,zL c,h.2,e⟩
theorem qV(h:∀k,M k->k<base)(e:w.ownsRow base PT 1 v n vs):CD M w v vs:=by
 have f:vs.length=n:=e.1.trans (Nat.mul_one _);refine⟨by simp,?_⟩;rcases e.2 with⟨b,j⟩ | ⟨g,c,d,b,l,m,p,_,_,o⟩
 ·exact⟨none,0,by rw [f,j];exact b,by omega,.inl (by omega)⟩
 ·refine⟨some ⟨g,0,none⟩,c,by rw [f];exact b,by omega,.inr ⟨g,0,d,rfl,fun x=>by have:=h g x;omega,m,?_⟩⟩;intro i u a;rw [Nat.zero_add];rw [<- o,List.getElem?_take] at a;split at a
  ·simpa using a
  ·cases a
theorem rR{nv bv:Value}{ns bd:Tr}(f:∀k,M k->k<w.heap.size)(d:AN (fun k=>¬M k) n w nv ns)(g:AN (fun k=>¬M k) n w bv bd)(o:Obj)(h:o=.cells #[.iface 120 (.string ⟨#[108,97,109,98,100,97]⟩),nv,bv] PT (0,0)) :AN (fun k=>¬M k) (n+1) (w.alloc o) (.iface 118 (.slice (some ⟨w.heap.size,0,none⟩) 3 3)) (.agg [.lit (.string Pl.C3),ns,bd]):=by
 have c:Below w.heap.size w (w.alloc o):=bB w o;refine⟨_,[.iface 120 (.string ⟨#[108,97,109,98,100,97]⟩),nv,bv],rfl,fun r e j=>by simp [Value.ownBlock] at e;subst e;have:=f _ j;omega,⟨rfl,.inr ⟨w.heap.size,3,_,rfl,Nat.zero_le _,by rw [h];exact heap_alloc_new _ _,by simp,by simp [maxLen],rfl,rfl⟩⟩,?_,by simp⟩;intro i u x a b
 match i,a,b with
 | 0,a,b =>
  simp only [List.getElem?_cons_zero,o_] at a b;subst a b
  cases n with
  | zero=>exact d.elim
  | succ n=>rfl
 | 1,a,b =>simp at a b;subst a b;exact d.go (Stp.AA c)
 | 2,a,b =>simp at a b;subst a b;exact g.go (Stp.AA c)
 | _+3,a,_=>simp at a
theorem lA{ok:Nat->Prop}:∀(n m:Nat)(v:Value)(t:Tr),AN ok n w v t->n<=m->BB m t=BB n t
 | 0,_,_,_,h,_=>h.elim
 | _+1,0,_,_,_,h=>by omega
 | n+1,m+1,v,t,h,j=>by
  match t,h with
  | .lit (.int _ _),_=>rfl
  | .lit (.bool _),_=>rfl
  | .lit (.string _),_=>rfl
  | .agg a,h =>
   obtain⟨k,b,_,_,d,e,_⟩:=h;show(a.map (BB m)).sum=(a.map (BB n)).sum
   congr 1
   apply List.map_congr_left;intro x f;obtain⟨i,c⟩:=List.mem_iff_getElem?.1 f;have l:b.length=a.length:=d.1.trans (Nat.mul_one _);have g:=(s_ c).1;exact lA n m _ x (e i b[i] x (g_ (by omega)) c) (by omega)
theorem X7(o:Option PF)(f:Tr->Option PF)(a:List Tr)(b:Nat):(Pl.GG (EF o::a.map fun t=>EF (f t)) b).map (fun r=>(BN .call [] .nil r.1 [],r.2))=EF (o.bind fun h=>(Pl.B1 f a).map fun r=>BN .call [] .nil (h::r) []) b:=by
 simp only [Pl.GG]
 cases o with
 | none=>rfl
 | some h =>
  simp only [EF,Option.map_some,Option.bind_some];rw [Pl.KP]
  cases Pl.B1 f a with
  | none=>rfl
  | some l=>simp [BN,Pl.BC,Pl.BO]
def JG(n:Nat):Prop:=∀(M:Nat->Prop)(w:World)(v:Value)(a b:Tr),AN (fun k=>¬M k) (n+1) w v (.agg [.lit (.string Pl.C3),a,b])->cL n a->cL n b->JI M w v (EF (Pl.EA (AD n) a b)) (BB n a+BB n b)
theorem nX{x:Tr}(h:¬∃a b,x=.agg [a,b]):Pl.BI x=false:=by
 unfold Pl.BI;split
 ·exact absurd ⟨_,_,rfl⟩ h
 ·rfl
theorem vY{f:Tr->Option PF}{a:List Tr}(h:¬a.length=2):Pl.J8 f a=none:=by
 match a,h with
 | [],_=>rfl
 | [_],_=>rfl
 | _::_::_::_,_=>rfl
theorem letF_bad{f:Tr->Option PF}{l:List Tr}{b:Tr}(h:l.all Pl.BI=false):Pl.D5 f (.agg l) b=none:=by simp [Pl.D5,h]
theorem pD{f:Tr->Option PF}{p b:Tr}(h:¬∃l,p=.agg l):Pl.D5 f p b=none:=by
 unfold Pl.D5;split
 ·exact absurd ⟨_,rfl⟩ h
 ·rfl
theorem X9{f:Tr->Option PF}{l:List Tr}{b:Tr}(h:l.all Pl.BI=true):Pl.D5 f (.agg l) b=(Pl.EA f (.agg (l.map Pl.DC)) b).bind fun h=>(Pl.B1 f (l.map Pl.BU)).map fun r=>BN .call [] .nil (h::r) []:=by simp [Pl.D5,h]
theorem vV{ok:Nat->Prop}:∀{l:List Tr},BY (AN ok (m+1) w) vs l->l.all Pl.BI=true->((l.map Pl.DC).map (BB (m+1))).sum+((l.map Pl.BU).map (BB (m+1+1))).sum=(l.map (BB (m+1))).sum:=by
 intro l c d
 induction l generalizing vs with
 | nil=>rfl
 | cons x r h =>
  match vs,c with
  | [],c=>have:=c.1;simp at this
  | v::vs,c =>
   simp only [List.all_cons,Bool.and_eq_true] at d;have j:BY (AN ok (m+1) w) vs r:=⟨by have:=c.1;simpa using this,fun i u y k n=>c.2 (i+1) u y (by simpa using k) (by simpa using n)⟩
   have o:=c.2 0 v x rfl rfl;have:=h j d.2
   obtain⟨a,b,rfl⟩:∃a b,x=.agg [a,b]:=by
    unfold Pl.BI at d;split at d
    ·exact⟨_,_,rfl⟩
    ·simp at d
   obtain⟨C,p,_,_,q,e,_⟩:=o;have s:p.length=2:=q.1.trans (Nat.mul_one _);obtain⟨f,g,rfl⟩:=fO s;have t:=e 0 f a rfl rfl;have z:=e 1 g b rfl rfl;have A:=lA m (m+1) f a t (by omega);have B:=lA m (m+1+1) g b z (by omega);simp only [List.map_cons,List.sum_cons,Pl.DC,Pl.BU,A,B];show _=([a,b].map (BB m)).sum+_;simp only [List.map_cons,List.map_nil,List.sum_cons,List.sum_nil];omega
theorem vW{l:List Tr}(h:C9 M m w vs l)(j:∀x∈l,cL m x)(hp:l.all Pl.BI=true)(q:Nat):(∀a∈l.map Pl.DC,cL q a)/\(∀a∈l.map Pl.BU,cL q a):=by
 have e:∀x∈l,∃a b,x=.agg [a,b]/\cL q a/\cL q b:=by
  intro x c;obtain⟨i,k⟩:=List.mem_iff_getElem?.1 c;obtain⟨u,_,n⟩:=h.at_ k;have g:=mF m (q+1) u x n (j x c);have d:=List.all_eq_true.1 hp x c;unfold Pl.BI at d;split at d
  ·next a b=>exact⟨a,b,rfl,g a (by simp),g b (by simp)⟩
  ·simp at d
 constructor
 ·intro a f;obtain⟨x,c,rfl⟩:=List.mem_map.1 f;obtain⟨a,b,rfl,o,_⟩:=e x c;exact o
 ·intro a f;obtain⟨x,c,rfl⟩:=List.mem_map.1 f;obtain⟨a,b,rfl,_,p⟩:=e x c;exact p
theorem X6{l:List Tr}{bd:Tr}(a:C9 M m w vs l)(hp:l.all Pl.BI=true):((BB (m+1) (.agg (l.map Pl.DC))+BB (m+1) bd)::(l.map Pl.BU).map (BB (m+1))).sum=BB (m+1) (.agg l)+BB (m+1) bd:=by
 rw [List.sum_cons];show((l.map Pl.DC).map (BB m)).sum+_+_=(l.map (BB m)).sum+_
 cases m with
 | zero =>
  cases l with
  | nil=>simp
  | cons x r =>obtain⟨u,_,h⟩:=a.at_ (i:=0) (x:=x) rfl;exact h.elim
 | succ m =>have:=vV a hp;omega
theorem LM.from_{wz:World}{s:Sg}{tb mb:Nat}{ps:List (PV×PV)}{o:FR}{z:Nat}{ev:Value}{w':World}(h:LM M wz s tb mb ps o z v ev w')(a:Below w.heap.size w wz):LM M w s tb mb ps o z v ev w':=⟨aM (aI a) h.1,h.2⟩
theorem zW(m:Nat)(L:GB (m+1))(N:JG (m+1))(M:Nat->Prop)(w u:World)(s:Sg)(tb mb:Nat)(ps:List (PV×PV))(l:List Tr)(bd:Tr)(O:List Value)(A:Value)(a:List Value)(P:BM M w s tb mb ps)(H:Below w.heap.size w u)(B:C9 M m w O l)(I:∀x∈l,cL m x)(C:cL (m+1) bd)(hp:l.all Pl.BI=true)(J:l.length<=1000)
  (n:AN (fun k=>¬M k) (m+1+1) u A (.agg [.lit (.string Pl.C3),.agg (l.map Pl.DC),bd])) (D:C9 M m w a (l.map Pl.BU)) (Q:s.ns.length+(BB (m+1) (.agg l)+BB (m+1) bd)<=BS) (o:FR) (R:o=EF (Pl.D5 (AD (m+1)) (.agg l) bd) ps.length) :
  ∀(c:World)(b:Value),Below u.heap.size u c->CD M c b (A::a)->Calls prog 78 #[.agg #[.pointer (some ⟨tb,0,none⟩)],b] c fun e K=>∃v y,e=.returned (.tuple #[v,y])/\Hid (LM M w s tb mb ps o (BB (m+1) (.agg l)+BB (m+1) bd) v y K):=by
 intro c b p S;have f:Below w.heap.size w c:=H.trans (p.mono H.size);obtain⟨U,X⟩:=vW B I hp m;obtain⟨_,V⟩:=vW B I hp (m+1);have E:a.length=l.length:=by have:=D.1;simpa using this
 have d:=X6 (bd:=bd) B hp
 have:=S7 M c s tb mb ps b (A::a) (EF (Pl.EA (AD (m+1)) (.agg (l.map Pl.DC)) bd)::(l.map Pl.BU).map fun t=>EF (AD (m+1) t)) ((BB (m+1) (.agg (l.map Pl.DC))+BB (m+1) bd)::(l.map Pl.BU).map (BB (m+1))) (P.below f) S (by simp [E]) (by simp) (by simp;omega) (by simp) (by rw [d];exact Q) (fun v W=>by
   rcases List.mem_cons.1 W with rfl | h
   ·obtain⟨T,x,e,_⟩:=n.iface;exact⟨T,x,e⟩
   ·exact D.iface v h) (fun i v F z j g q=>by
   cases i with
   | zero =>simp only [List.getElem?_cons_zero,o_] at j g q;subst j g q;exact N M c _ _ _ (n.go (Stp.AA p)) U C
   | succ i =>
    rw [List.getElem?_cons_succ] at j g q;rw [List.getElem?_map,Option.map_eq_some_iff] at g q;obtain⟨t,G,rfl⟩:=g;obtain⟨Y,r,rfl⟩:=q;rw [G] at r;obtain rfl:=i_ r
    exact L M c v t (AN.up _ _ _ _ (Nat.le_succ _) ((D.2 i v t j G).go (Stp.AA f))) (V t (q_ G))) o (by rw [X7,R,X9 hp])
 rw [d] at this;refine this.mono (fun e K h=>?_);obtain⟨v,y,j,g⟩:=h.one;exact⟨v,y,j,g.from_ f⟩
theorem p_let(n:Nat)(hF:GB n)(hL:JG n)(M:Nat->Prop)(w:World)(s:Sg)(tb mb:Nat)(ps:List (PV×PV))(sl:Value)(vs:List Value)(ts:List Tr)(hR:BM M w s tb mb ps)(hS:CD M w sl vs)(hA:C9 M n w vs ts)(hB:∀x∈ts,cL n x)(hz:s.ns.length+(ts.map (BB n)).sum<=BS)(o:FR)(ho:o=EF (Pl.J8 (AD n) ts) ps.length) :Calls prog 77 #[D2 tb,sl] w fun e E=>A5 M w s tb mb ps o (ts.map (BB n)).sum e E:=by
 obtain⟨i0,ad,av,aw,ax⟩:=info_parts Tryz.TX;have dm:=Tryz.EO;have dn:=Tryz.E7;have dp:=Tryz.FN;have dq:=Tryz.ET;have S:Hid (BM M w s tb mb ps):=hR;have bo:Hid (Below w.heap.size w (w.alloc (A0 tb))):=bB w _;have ch:Hid ((w.alloc (A0 tb)).heap[w.heap.size]?=some (A0 tb)):=heap_alloc_new _ _;have U:=hA.1;unfold D2;by_cases q:ts.length=2
 ·obtain⟨pr,G,rfl⟩:=fO q;obtain⟨u1,u2,rfl⟩:=fO (U.trans q);have r1:=hA.2 0 u1 pr rfl rfl;have r2:=hA.2 1 u2 G rfl rfl;obtain⟨g,F,ci,rfl,bp,hg,k0,ks⟩:=(Sl.C7 hS).cell0;have k1:=ks 0 _ rfl;simp only [Nat.zero_add,c_,z_] at k1 bp ⊢;have cj:Hid (AN (fun k=>¬M k) n w u2 G):=r2;have bq:Hid (cL n G/\cL n pr):=⟨hB G (by simp),hB pr (by simp)⟩
  obtain⟨T2,x2,rfl,L⟩:=r2.iface;have HF:Hid (GB n):=hF;have HL:Hid (JG n):=hL;have HO:Hid (o=EF (Pl.D5 (AD n) pr G) ps.length):=ho;have HZ:Hid (s.ns.length+(BB n pr+BB n G)<=BS/\([pr,G].map (BB n)).sum=BB n pr+BB n G):=⟨by simpa using hz,by simp⟩
  clear hA hS hF hL r2 U q ks L hR hB hz ho;by_cases ae:∃l,pr=.agg l
  ·obtain⟨l,rfl⟩:=ae
   obtain⟨m,rfl⟩:∃m,n=m+1:=by
    cases n with
    | zero=>exact r1.elim
    | succ m=>exact⟨m,rfl⟩
   obtain⟨sb,bs,rfl,ay,az,an⟩:=r1.RQ;have ba:=az.1;have ck:Hid (CD M w sb bs):=ay;obtain⟨ao,di,rfl,bb,V⟩:=Sl.C7 ay;rw [ba] at k0 bb;have HV:Hid (bs.length=l.length):=ba;have HC:Hid (∀(i:Nat)(u:Value),bs[i]?=some u->∃g F,ao=some ⟨g,F,none⟩/\g<w.heap.size/\w.cell? ⟨g,F+i,none⟩=some u):=V;have HA:Hid (C9 M m w bs l):=az;clear ba V az r1 ay ck;go_enter func77,ntmps77;go_wp2_with fail
   go_loopw [8,9,33] (fun nS vS i wr=>∃(k:Nat)(f c:List Value),k<=l.length/\i=.int .i64 k/\Hid (I5 (w.alloc (A0 tb)) wr k k nS vS f c)/\Hid ((l.take k).all Pl.BI=true)/\Hid (C9 M m w f ((l.take k).map Pl.DC))/\Hid (C9 M m w c ((l.take k).map Pl.BU))) (fun _ _ i _=>l.length-(intOf i).toNat)
   case atStart =>refine⟨0,[],[],Nat.zero_le _,rfl,?_,by simp [Hid],BY.nil _,BY.nil _⟩;have:=I5.start (w.alloc (A0 tb));rw [show(w.alloc (A0 tb)).heap.size=w.heap.size+1 from by simp] at this;exact this
   case round =>
    obtain⟨k,f,c,hk,rfl,W,HP,af,X⟩:=hrel
    have bc:Hid (Below (w.heap.size+1) (w.alloc (A0 tb)) wr):=show Below _ _ _ from by
     have:=W.below
     rwa [show(w.alloc (A0 tb)).heap.size=w.heap.size+1 from by simp] at this
    have H:Hid (Below w.heap.size w wr):=show Below _ _ _ from bo.trans (bc.mono (by omega));have dr:w.heap.size+1<=wr.heap.size:=by have:=bc.size;simpa using this
    by_cases br:k<l.length
    ·obtain⟨u,hu⟩:∃u,bs[k]?=some u:=⟨bs[k]'(by have:=HV.out;omega),g_ (by have:=HV.out;omega)⟩
     obtain⟨x,hx⟩:∃x,l[k]?=some x:=⟨l[k],g_ br⟩
     obtain⟨g1,ap,rfl,cl,hc⟩:=HC.out k u hu;have cm:wr.cell? ⟨g1,ap+k,none⟩=some u:=(H.cell (p:=⟨g1,ap+k,none⟩) cl).trans hc;have hr:=HA.2 k u x hu hx;have HX:Hid (l[k]?=some x):=hx;clear hu hx hc;have dj:(k:Int)<(l.length:Int):=by omega
     by_cases ag:∃xs,x=.agg xs
     ·obtain⟨xs,rfl⟩:=ag
      obtain⟨m',rfl⟩:∃m',m=m'+1:=by
       cases m with
       | zero=>exact hr.elim
       | succ m'=>exact⟨m',rfl⟩
      obtain⟨sx,vx,rfl,ah,N,_⟩:=hr.RQ;by_cases Y:xs.length=2
      ·obtain⟨x0,x1,rfl⟩:=fO Y;obtain⟨y0,y1,rfl⟩:=fO (N.1.trans Y);obtain⟨gx,I,bt,rfl,be,bu,z0,zs⟩:=(Sl.C7 ah).cell0;have z1:=zs 0 y1 rfl;simp only [Nat.zero_add,c_,z_] at z1 be cm;have bf:AN (fun k=>¬M k) (m'+1) w y0 x0:=AN.up _ _ _ _ (Nat.le_succ _) (N.2 0 y0 x0 rfl rfl);have bg:AN (fun k=>¬M k) (m'+1) w y1 x1:=AN.up _ _ _ _ (Nat.le_succ _) (N.2 1 y1 x1 rfl rfl);have cn:Hid ((l.take (k+1)).all Pl.BI=true):=eA HP HX rfl;have co:Hid (C9 M (m'+1) w (f++[y0]) ((l.take (k+1)).map Pl.DC)):=show BY _ _ _ from by rw [c8 _ HX.out];exact af.snoc bf
       have cp:Hid (C9 M (m'+1) w (c++[y1]) ((l.take (k+1)).map Pl.BU)):=show BY _ _ _ from by rw [c8 _ HX.out];exact X.snoc bg
       obtain⟨O,P,rfl,cq⟩:=bf.iface;obtain⟨ai,aj,rfl,cr⟩:=bg.iface;have ds:wr.cell? ⟨gx,I,none⟩=some (.iface O P):=(H.cell (p:=⟨gx,I,none⟩) bu).trans z0
       have cs:Hid (wr.ownsRow (w.heap.size+1) PT 1 u8 k f):=show World.ownsRow _ _ _ _ _ _ _ from by
        have:=W.G0
        rwa [show(w.alloc (A0 tb)).heap.size=w.heap.size+1 from by simp] at this
       have ct:Hid (∀(A:World)(R d:Nat)(o:Obj),A.ownsRow (w.heap.size+1) PT 1 (.slice (some ⟨R,0,none⟩) (k+1) d) (k+1) (f++[.iface O P])->(wr.alloc o).grownBy A u8.ownBlock->(u8.ownBlock=some R\/R=wr.heap.size+1)->I5 (w.alloc (A0 tb)) A (k+1) k (.slice (some ⟨R,0,none⟩) (k+1) d) u9 (f++[.iface O P]) c/\A.cell? ⟨gx,I+1,none⟩=some (.iface ai aj)/\w.heap.size+1<=A.heap.size/\A.ownsRow (w.heap.size+1) PT 1 u9 k c):=fun A R d o Q q h3=>by
        have hq:=W.LE (o:=o) (by rw [show(w.alloc (A0 tb)).heap.size=w.heap.size+1 from by simp];exact Q) q h3;have e1:(w.alloc (A0 tb)).heap.size=w.heap.size+1:=by simp
        have bh:=hq.below;have Z:=hq.I6;rw [e1] at bh Z;have bv:Below w.heap.size w A:=bo.trans (bh.mono (by omega));exact⟨hq,(bv.cell (p:=⟨gx,I+1,none⟩) bu).trans z1,by have:=bh.size;omega,Z⟩
       have cu:Hid (∀(A w4:World)(R d g4 B:Nat)(o:Obj),I5 (w.alloc (A0 tb)) A (k+1) k (.slice (some ⟨R,0,none⟩) (k+1) d) u9 (f++[.iface O P]) c->w4.ownsRow (w.heap.size+1) PT 1 (.slice (some ⟨g4,0,none⟩) (k+1) B) (k+1) (c++[.iface ai aj])->(A.alloc o).grownBy w4 u9.ownBlock->(u9.ownBlock=some g4\/g4=A.heap.size+1)->I5 (w.alloc (A0 tb)) w4 (k+1) (k+1) (.slice (some ⟨R,0,none⟩) (k+1) d) (.slice (some ⟨g4,0,none⟩) (k+1) B) (f++[.iface O P]) (c++[.iface ai aj])):=fun A w4 R d g4 B o hq Q q h3 =>hq.KK (o:=o) (by rw [show(w.alloc (A0 tb)).heap.size=w.heap.size+1 from by simp];exact Q) q h3;clear ah N zs Y HP af X bf bg hr W;go_wp2_with (first | (at_builtin;refine wpList_append_lies _ rfl _ _ 118 rfl (w.heap.size+1) 112 i0 .nilIface 1 16 underlying118 ad av aw ax rfl (by decide) u8 k f rfl (cs.alloc _) ⟨wr.heap.size,0,none⟩ 1 1 [.iface O P] rfl rfl (cell_one_new _ _ _) (fun y hy=>by simp at hy;subst hy;exact cq) (by decide) (by unfold maxLen;omega) (by omega) (by simp;omega) (wr.heap.size+1) (by simp) ?_;intro R d A aa J aq _;obtain⟨bw,dt,dk,Z⟩:=ct.out A R d _ aa J aq;have cv:Hid (I5 _ _ _ _ _ _ _ _):=bw;have cw:Hid (World.ownsRow _ _ _ _ _ _ _):=Z;clear aa J aq bw Z) | (at_builtin;refine wpList_append_lies _ rfl _ _ 118 rfl (w.heap.size+1) 112 i0 .nilIface 1 16 underlying118 ad av aw ax rfl (by decide) u9 k c rfl (cw.alloc _) ⟨A.heap.size,0,none⟩ 1 1 [.iface ai aj] rfl rfl (cell_one_new _ _ _) (fun y hy=>by simp at hy;subst hy;exact cr) (by decide) (by unfold maxLen;omega) (by omega) (by simp;omega) (A.heap.size+1) (by simp) ?_;intro g4 B w4 bi ak bx _))
       go_roundw
       case rel=>exact⟨k+1,_,_,by omega,by go_num,cu A w4 R d g4 B _ cv bi ak bx,cn,co,cp⟩
       case measure=>simp [intOf];omega
      ·have HE:Hid (o=none):=show o=none from by rw [HO.out,letF_bad (gJ HX (nX (by rintro⟨a,b,e⟩;rw [DataW.agg.injEq] at e;subst e;exact Y rfl)))];rfl
       have bz:=N.1;obtain⟨du,bt,rfl,_⟩:=Sl.C7 ah;have cx:((vx.length:Int)!=2)=true:=by simp;omega
       clear bz N hr Y ah;go_wp2_with (go_at_call 71;refine(aS _ _).mono ?_;rintro e E ⟨rfl,rfl⟩);go_ret2;exact⟨aI H,s,DK.refl _,Nat.le_add_right _ _,.inr ⟨HE,rfl,S.below H,_,_,rfl⟩⟩
     ·have HE:Hid (o=none):=show o=none from by rw [HO.out,letF_bad (gJ HX (nX (by rintro⟨a,b,e⟩;exact ag ⟨_,e⟩)))];rfl
      obtain⟨y,hy⟩:=hr.KR ag;clear hr ag;rcases hy with rfl | rfl | rfl
      ·go_wp2_with (go_at_call 71;refine(aS _ _).mono ?_;rintro e E ⟨rfl,rfl⟩)
       go_ret2;exact⟨aI H,s,DK.refl _,Nat.le_add_right _ _,.inr ⟨HE,rfl,S.below H,_,_,rfl⟩⟩
      ·go_wp2_with (go_at_call 71;refine(aS _ _).mono ?_;rintro e E ⟨rfl,rfl⟩)
       go_ret2;exact⟨aI H,s,DK.refl _,Nat.le_add_right _ _,.inr ⟨HE,rfl,S.below H,_,_,rfl⟩⟩
      ·go_wp2_with (go_at_call 71;refine(aS _ _).mono ?_;rintro e E ⟨rfl,rfl⟩)
       go_ret2;exact⟨aI H,s,DK.refl _,Nat.le_add_right _ _,.inr ⟨HE,rfl,S.below H,_,_,rfl⟩⟩
    ·have cy:k=l.length:=by omega
     subst cy;rw [List.take_length] at HP af X;have ca:(w.alloc (A0 tb)).heap.size=w.heap.size+1:=by simp
     have bj:∀j,M j->j<w.heap.size+1:=fun j hj=>by have:=S.mlt j hj;omega
     have cz:wr.cell? ⟨g,F+1,none⟩=some (.iface T2 x2):=(H.cell (p:=⟨g,F+1,none⟩) hg).trans k1;have c0:wr.cell? ⟨w.heap.size,0,none⟩=some (.pointer (some ⟨tb,0,none⟩)):=aA ((bc.block w.heap.size (by omega)).trans ch) 0;have al:wr.ownsRow (w.heap.size+1) PT 1 u8 l.length f:=by have:=W.G0;rwa [ca] at this
     have bk:wr.ownsRow (w.heap.size+1) PT 1 u9 l.length c:=by have:=W.I6;rwa [ca] at this
     have bl:Hid (wr.ownsRow (w.heap.size+1) PT 1 u9 l.length c):=bk;have cb:Hid (Stp M w M wr):=Stp.AA H;have bm:Hid (AN (fun k=>¬M k) (m+1) wr (.iface 118 u8) (.agg (l.map Pl.DC))):=XR bj (af.mono (fun _ _ h=>h.go cb)) (by simpa using al) (by simpa using an);have ar:Hid (AN (fun k=>¬M k) (m+1) wr (.iface T2 x2) G):=cj.go cb;obtain⟨ab,C,rfl,_⟩:=bC al;have U:c.length=l.length:=by have:=bk.1;omega
     have cc:f.length=l.length:=by have:=al.1;omega
     rw [cc] at bm ⊢;have da:Hid (BM M wr s tb mb ps):=S.below H;have db:Hid (AN (fun k=>¬M k) (m+1+1) (wr.alloc (.cells #[.iface 120 (.string ⟨#[108,97,109,98,100,97]⟩),.iface 118 (.slice ab l.length C),.iface T2 x2] PT (0,0))) (.iface 118 (.slice (some ⟨wr.heap.size,0,none⟩) 3 3)) (.agg [.lit (.string Pl.C3),.agg (l.map Pl.DC),G])):=rR da.mlt bm ar _ rfl;have HK:Hid (∀(wz:World)(am:Value),Below (wr.heap.size+1) (wr.alloc (.cells #[.iface 120 (.string ⟨#[108,97,109,98,100,97]⟩),.iface 118 (.slice ab l.length C),.iface T2 x2] PT (0,0))) wz->CD M wz am (.iface 118 (.slice (some ⟨wr.heap.size,0,none⟩) 3 3)::c)->Calls prog 78 #[.agg #[.pointer (some ⟨tb,0,none⟩)],am] wz fun e E=>∃v ev,e=.returned (.tuple #[v,ev])/\Hid (LM M w s tb mb ps o (BB (m+1) (.agg l)+BB (m+1) G) v ev E)):=fun wz am Q q =>zW m HF HL M w _ s tb mb ps l G bs _ c S (H.alloc (by omega) _) HA bq.2 bq.1 HP an db X HZ.1 o HO wz am (by simpa using Q) q;have cd:∀u∈c,u.oneCell'=true:=fun u hu=>by obtain⟨T,x,rfl⟩:=X.iface u hu;rfl
     have ce:Hid (∀j,M j->j<w.heap.size+1):=bj;have q1:∀z:Obj,(wr.alloc z).cell? ⟨w.heap.size,0,none⟩=some (.pointer (some ⟨tb,0,none⟩)):=fun z=>((bB wr z).cell (p:=⟨w.heap.size,0,none⟩) (by show w.heap.size<_;omega)).trans c0;have q2:∀z L:Obj,((wr.alloc z).alloc L).cell? ⟨w.heap.size,0,none⟩=some (.pointer (some ⟨tb,0,none⟩)):=fun z L=>((bA wr z L).cell (p:=⟨w.heap.size,0,none⟩) (by show w.heap.size<_;omega)).trans c0;have q3:∀z:Obj,(wr.alloc z).cell? ⟨g,F+1,none⟩=some (.iface T2 x2):=fun z=>((bB wr z).cell (p:=⟨g,F+1,none⟩) (by show g<_;omega)).trans cz;clear hk br bm ar HP cc W al bk bj k0;by_cases hz:l.length=0
     ·have dc:l=[]:=e_ hz;subst dc;obtain rfl:c=[]:=e_ U;obtain⟨dv,dl,rfl,_⟩:=bC bl;have dd:Hid (∀o:Obj,CD M ((wr.alloc o).alloc (.cells #[.iface 118 (.slice (some ⟨wr.heap.size,0,none⟩) 3 3)] PT)).drew (.slice (some ⟨wr.heap.size+1,0,none⟩) 1 1) [.iface 118 (.slice (some ⟨wr.heap.size,0,none⟩) 3 3)]):=fun o=>by have:=qV (M:=M) (fun j hj=>by have:=ce.out j hj;omega) (qU (wr.alloc o) PT (base:=w.heap.size+1) (by simp;omega) (.iface 118 (.slice (some ⟨wr.heap.size,0,none⟩) 3 3)));rw [show(wr.alloc o).heap.size=wr.heap.size+1 by simp] at this;exact Sl.AQ (Stp.AA r_.drew) this
      have bn:Hid (Calls prog 78 #[.agg #[.pointer (some ⟨tb,0,none⟩)],.slice (some ⟨wr.heap.size+1,0,none⟩) 1 1] ((wr.alloc (.cells #[.iface 120 (.string ⟨#[108,97,109,98,100,97]⟩),.iface 118 (.slice ab 0 C),.iface T2 x2] 112)).alloc (.cells #[.iface 118 (.slice (some ⟨wr.heap.size,0,none⟩) 3 3)] 112)).drew fun e E=>∃v ev,e=.returned (.tuple #[v,ev])/\Hid (LM M w s tb mb ps o (BB (m+1) (.agg [])+BB (m+1) G) v ev E)):=HK.out _ _ ((r_.alloc (by simp) _).drew) (dd _)
      go_upto_region 60 with fail
      go_region_law (first | (refine iC (by rfl) _ _ 118 (by rfl) 112 i0 underlying118 ad ⟨wr.heap.size+1,0,none⟩ 1 1 n_ _ _ (by rfl) (by rfl) ?_) | (refine kO (by rfl) 78 _ _ _ (by rfl) func78 (by kernel_rfl) rfl _ _ (by rfl) (by rfl) bn ?_;rintro e w2 ⟨v,ev,rfl,W⟩;refine⟨_,rfl,?_⟩))
      all_goals
       go_wp2_with fail
       go_ret2;obtain⟨hg,t,Q,q,h3⟩:=W.out;rcases h3 with⟨r,a1,rfl,a3,a4⟩ | ⟨a1,a2,a3,es,rfl⟩
       ·exact⟨hg,t,Q,by rw [HZ.2];exact q,.inl ⟨r,_,a1,rfl,a3,a4⟩⟩
       ·exact⟨hg,t,Q,by rw [HZ.2];exact q,.inr ⟨a1,a2,a3,_,_,rfl⟩⟩
     ·obtain⟨g7,au,rfl,_,_⟩:=bl.form (by omega)
      have de:Hid (∀(o:Obj)(u:Value),((wr.alloc o).alloc (.cells #[u] PT)).drew.ownsRow (wr.heap.size+1) PT 1 (.slice (some ⟨wr.heap.size+1,0,none⟩) 1 1) 1 [u]):=fun o u=>by
       have e:(wr.alloc o).heap.size=wr.heap.size+1:=by simp
       have:=qU (wr.alloc o) PT n_ u;rw [e] at this;exact this
      have df:Hid (∀z L:Obj,((wr.alloc z).alloc L).drew.ownsRow (w.heap.size+1) PT 1 (.slice (some ⟨g7,0,none⟩) l.length au) l.length c):=fun z L=>(bl.alloc z).alloc L;have dg:Hid (∀z L:Obj,Below (wr.heap.size+1) (wr.alloc z) ((wr.alloc z).alloc L).drew):=fun z L=>(r_.alloc (by simp) L).drew
      have bn:Hid (∀(w6:World)(g6 D:Nat),w6.ownsRow (wr.heap.size+1) PT 1 (.slice (some ⟨g6,0,none⟩) (1+l.length) D) (1+l.length) ([.iface 118 (.slice (some ⟨wr.heap.size,0,none⟩) 3 3)]++c)->((wr.alloc (.cells #[.iface 120 (.string ⟨#[108,97,109,98,100,97]⟩),.iface 118 (.slice ab l.length C),.iface T2 x2] 112)).alloc (.cells #[.iface 118 (.slice (some ⟨wr.heap.size,0,none⟩) 3 3)] 112)).drew.grownBy w6 (Value.ownBlock (.slice (some ⟨wr.heap.size+1,0,none⟩) 1 1)) ->
        Calls prog 78 #[.agg #[.pointer (some ⟨tb,0,none⟩)],.slice (some ⟨g6,0,none⟩) (1+l.length) D] w6 (fun e E=>∃v ev,e=.returned (.tuple #[v,ev])/\Hid (LM M w s tb mb ps o (BB (m+1) (.agg l)+BB (m+1) G) v ev E))/\w6.cell? ⟨w.heap.size,0,none⟩=some (.pointer (some ⟨tb,0,none⟩))):=fun w6 g6 D Q q=>by
       have cf:Below (wr.heap.size+1) (wr.alloc (.cells #[.iface 120 (.string ⟨#[108,97,109,98,100,97]⟩),.iface 118 (.slice ab l.length C),.iface T2 x2] PT (0,0))) w6:=(dg _ _).grown q (by show _<=((wr.alloc _).alloc _).heap.size;simp) (fun j hj=>by simp [Value.ownBlock] at hj;omega);refine⟨HK w6 _ cf (qV (fun j hj=>by have:=ce.out j hj;omega) Q),?_⟩;exact(cf.cell (p:=⟨w.heap.size,0,none⟩) (by show w.heap.size<_;omega)).trans (q1 _)
      go_upto_region 60 with fail
      go_region_law (first | (refine step_append_lies _ (by rfl) _ _ 118 (by rfl) (wr.heap.size+1) 112 i0 .nilIface 1 16 underlying118 ad av aw ax rfl (by decide) (.slice (some ⟨wr.heap.size+1,0,none⟩) 1 1) 1 _ (by rfl) (de _ _) ⟨g7,0,none⟩ l.length au c (by rfl) (by omega) ((df _ _).cells rfl) cd (by omega) (by unfold maxLen;omega) (by omega) (by show _<=((wr.alloc _).alloc _).heap.size;simp) (wr.heap.size+1+1) (by show((wr.alloc _).alloc _).heap.size=_;simp) ?_;intro g6 D w6 ac K _ _;obtain⟨cg,c6⟩:=bn.out w6 g6 D ac K;have dh:Hid (Calls _ _ _ _ _):=cg;clear ac K cg) | (refine kO (by rfl) 78 _ _ _ (by rfl) func78 (by kernel_rfl) rfl _ _ (by rfl) (by rfl) dh ?_;rintro e w2 ⟨v,ev,rfl,W⟩;refine⟨_,rfl,?_⟩))
      all_goals
       go_wp2_with fail
       go_ret2;obtain⟨hg,t,Q,q,h3⟩:=W.out;rcases h3 with⟨r,a1,rfl,a3,a4⟩ | ⟨a1,a2,a3,es,rfl⟩
       ·exact⟨hg,t,Q,by rw [HZ.2];exact q,.inl ⟨r,_,a1,rfl,a3,a4⟩⟩
       ·exact⟨hg,t,Q,by rw [HZ.2];exact q,.inr ⟨a1,a2,a3,_,_,rfl⟩⟩
  ·have HE:Hid (o=none):=show o=none from by rw [HO.out,pD ae];rfl
   obtain⟨y,hy⟩:=r1.KR ae;clear r1 ae;rcases hy with rfl | rfl | rfl
   ·go_enter func77,ntmps77
    go_wp2_with (go_at_call 71;refine(aS _ _).mono ?_;rintro e E ⟨rfl,rfl⟩)
    go_ret2;exact⟨aI (bB w _),s,DK.refl _,Nat.le_add_right _ _,.inr ⟨HE,rfl,S.below (bB w _),_,_,rfl⟩⟩
   ·go_enter func77,ntmps77
    go_wp2_with (go_at_call 71;refine(aS _ _).mono ?_;rintro e E ⟨rfl,rfl⟩)
    go_ret2;exact⟨aI (bB w _),s,DK.refl _,Nat.le_add_right _ _,.inr ⟨HE,rfl,S.below (bB w _),_,_,rfl⟩⟩
   ·go_enter func77,ntmps77
    go_wp2_with (go_at_call 71;refine(aS _ _).mono ?_;rintro e E ⟨rfl,rfl⟩)
    go_ret2;exact⟨aI (bB w _),s,DK.refl _,Nat.le_add_right _ _,.inr ⟨HE,rfl,S.below (bB w _),_,_,rfl⟩⟩
 ·have HE:Hid (o=none):=show o=none from by rw [ho,vY q];rfl
  obtain⟨ao,ci,rfl,_⟩:=Sl.C7 hS;have cx:((vs.length:Int)!=2)=true:=by simp;omega
  clear hA hF hL q U hS hR hB hz ho;go_enter func77,ntmps77;go_wp2_with (go_at_call 71;refine(aS _ _).mono ?_;rintro e E ⟨rfl,rfl⟩);go_ret2;exact⟨aI (bB w _),s,DK.refl _,Nat.le_add_right _ _,.inr ⟨HE,rfl,S.below (bB w _),_,_,rfl⟩⟩
end
end Go.Proofs.YtieooapcfpimlaaGreatDoor
