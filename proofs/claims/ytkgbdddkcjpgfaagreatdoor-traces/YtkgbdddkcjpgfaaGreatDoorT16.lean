import Derived.Test.YtkgbdddkcjpgfaaGreatDoorT10
namespace Go.Proofs.YtkgbdddkcjpgfaaGreatDoor
set_option maxHeartbeats 2000000
set_option maxRecDepth 100000
open Go.Proofs.Tryz
open Pl (PV PF AE FK AD BN EE isName)
section
open Go.RowKit
variable {lo hi n m b a base lo' hi' mid k:Nat} {w w' wr w3 w2:World} {us:List Value} {u v dv kv sv:Value} {o2:Obj} {q:Bool} {ok:Nat->Prop}
def CA(R:Nat->Nat->Value->PF->Prop)(lo hi:Nat)(us:List Value)(ks:List PF):Prop :=
 us.length=ks.length/\∃cs:List (Nat×Nat),cs.length=ks.length/\(∀(i:Nat)(p:Nat×Nat)(u:Value)(x:PF),cs[i]?=some p->us[i]?=some u->ks[i]?=some x->lo<=p.1/\p.2<=hi/\R p.1 p.2 u x) /\
  ∀(i j:Nat)(p q:Nat×Nat),i<j->cs[i]?=some p->cs[j]?=some q->p.2<=q.1
theorem CA.nil(R:Nat->Nat->Value->PF->Prop)(lo hi:Nat):CA R lo hi [] []:=⟨rfl,[],rfl,fun i p u x h=>by simp at h,fun i j p q _ h=>by simp at h⟩
theorem CA.mono{R Q:Nat->Nat->Value->PF->Prop}{c:List PF}(h:CA R lo hi us c)(s:lo'<=lo)(t:hi<=hi')(d:∀a b u x,lo<=a->b<=hi->R a b u x->Q a b u x):CA Q lo' hi' us c:=by obtain⟨e,f,g,j,k⟩:=h;refine⟨e,f,g,fun i p u x l m n=>?_,k⟩;obtain⟨o,q,r⟩:=j i p u x l m n;exact⟨by omega,by omega,d _ _ _ _ o q r⟩
theorem CA.snoc{R:Nat->Nat->Value->PF->Prop}{f:List PF}(h:CA R lo mid us f){x:PF}(s:lo<=mid)(E:mid<=hi)(t:R mid hi u x):CA R lo hi (us++[u]) (f++[x]):=by
 obtain⟨n,g,o,r,w⟩:=h;refine⟨by simp [n],g++[(mid,hi)],by simp [o],fun i p v y a b c=>?_,fun i j p q k a d=>?_⟩
 ·by_cases z:i<f.length
  ·rw [List.getElem?_append_left (by omega)] at a b c;obtain⟨A,F,B⟩:=r i p v y a b c;exact⟨A,by omega,B⟩
  ·have l:=(s_ c).1;have e:i=f.length:=by simp at l;omega
   subst e;rw [<- o] at a;rw [<- n] at b;simp at a b c;subst a b c;exact⟨s,n_,t⟩
 ·have m:=(s_ d).1;simp only [a_,c_,z_] at m;rw [List.getElem?_append_left (by omega)] at a;by_cases C:j<g.length
  ·rw [List.getElem?_append_left C] at d;exact w i j p q k a d
  ·have e:j=g.length:=by omega
   subst e;simp at d;subst d;have D:=(s_ a).1;exact(r i p _ _ a (g_ (by omega)) (g_ (by omega))).2.1
theorem CA.cons{R:Nat->Nat->Value->PF->Prop}{e:List PF}(h:CA R mid hi us e){x:PF}(z:lo<=mid)(g:mid<=hi)(k:R lo mid u x):CA R lo hi (u::us) (x::e):=by
 obtain⟨l,m,n,f,o⟩:=h;refine⟨by simp [l],(lo,mid)::m,by simp [n],fun i p v y a b c=>?_,fun i j p q r a d=>?_⟩
 ·cases i with
  | zero=>simp at a b c;subst a b c;exact⟨n_,g,k⟩
  | succ i =>simp at a b c;obtain⟨A,s,t⟩:=f i p v y a b c;exact⟨by omega,s,t⟩
 ·cases j with
  | zero=>omega
  | succ j =>
   simp at d
   cases i with
   | zero =>simp at a;subst a;have w:=(s_ d).1;exact(f j q _ _ d (g_ (by omega)) (g_ (by omega))).1
   | succ i =>simp at a;exact o i j p q (by omega) a d
def fI(lo hi:Nat)(v:Value):Prop:=∀g,v.ownBlock=some g->lo<=g/\g<hi
theorem fI.wide(h:fI lo hi v)(b:lo'<=lo)(c:hi<=hi'):fI lo' hi' v:=fun g a=>by have:=h g a;omega
theorem fI.none(lo hi:Nat):fI lo hi (.slice none 0 0):=fun g a=>by simp [Value.ownBlock] at a
def dF:Nat->Tr->Prop
 | 0,_=>True
 | n+1,t=>match t with
  | .lit (.int _ m)=>gW m
  | .lit (.string s)=>s.length<=300
  | .agg ts=>ts.length<=900/\∀x∈ts,dF n x
  | _=>True
theorem dF.CG:∀(n:Nat)(t:Tr),dF n t->cL n t
 | 0,_,_=>trivial
 | n+1,t,h=>by
  cases t with
  | agg b=>exact fun x a=>dF.CG n x (h.2 x a)
  | lit x=>cases x<;>first | trivial | exact h
  | _=>trivial
theorem pE:∀(n m:Nat)(v:Value)(t:Tr),AJ ok n w v t->dF n t->dF m t
 | 0,_,_,_,h,_=>h.elim
 | _+1,0,_,_,_,_=>trivial
 | n+1,m+1,v,t,h,a=>by
  cases t with
  | agg g =>refine⟨a.1,fun x c=>?_⟩;obtain⟨b,_,_,d,e,_,_,j,k,_⟩:=h;obtain⟨i,f⟩:=List.mem_iff_getElem?.1 c;have l:e.length=g.length:=j.1.trans (Nat.mul_one _);have o:=(s_ f).1;exact pE n m _ x (k i e[i] x (g_ (by omega)) f) (a.2 x c)
  | lit x=>cases x<;>first | trivial | exact a
  | _=>trivial
def uG:Tr->Prop
 | .agg ts=>ts.length=2
 | _=>True
def valOk(q:Bool)(k:FK)(pv:PV)(c0 c1 c2:Value):Prop:=if q then(k=.const->[c0,c1,c2]=cZ pv) else(c0=AM []/\c1=.int .i64 0/\c2=AM [])
def AX(q:Bool):Nat->World->Nat->Nat->Value->PF->Prop
 | 0,_,_,_,_,_=>False
 | n+1,w,lo,hi,v,.mk k nm d pv ks ns=>∃b dv kv nv c0 c1 c2 us,v=.pointer (some ⟨b,0,none⟩)/\lo<=b/\b<hi /\
   w.heap[b]?=some (.cells #[AM (FW k),AM nm,dv,kv,nv,c0,c1,c2] G3 (0,0))/\valOk q k pv c0 c1 c2 /\
   w.ownsRow 0 LN 1 kv ks.length us/\CA (AX q n w) lo b us ks /\
   w.ownsRow 0 TS 1 nv ns.length (ns.map AM)/\(k=.const->∃m,m<=1000/\AJ (fun _=>True) m w dv d/\cL m d/\uG d)/\shape k ks.length/\ks.length<=1000/\ns.length<=1000/\fI lo hi kv/\fI lo hi nv
def exT(e:TypeId):Prop:=e=G3\/e=LN\/e=TS
def E1(lo hi:Nat)(w w':World):Prop:=∀(k:Nat)(cur:Array Value)(e:TypeId),RH e->(exT e->k<lo\/hi<=k)->w.heap[k]?=some (.cells cur e (0,0))->w'.heap[k]?=some (.cells cur e (0,0))
theorem E1.AA(h:Below w.heap.size w w'):E1 lo hi w w':=fun k _ _ _ _ a=>(h.block k (aB a)).trans a
theorem E1.trans{a b c:World}(h:E1 lo hi a b)(k:E1 lo hi b c):E1 lo hi a c:=fun i d e f g j=>k i d e f g (h i d e f g j)
theorem E1.mono{a b:World}(h:E1 lo hi a b)(j:lo'<=lo)(k:hi<=hi'):E1 lo' hi' a b:=fun i c e d f g=>h i c e d (fun x=>(f x).imp (fun y=>by omega) (fun y=>by omega)) g
theorem E1.ME(h:E1 lo hi w w'):CU (fun _=>True) w w':=fun k a e _ b c=>h k a e (b.elim .inl (fun x=>.inr (.inl x))) (fun x=>by rcases b with rfl | rfl<;>rcases x with x | x | x<;>exact absurd x (by decide)) c
theorem f8{xs:List Value}{T:TypeId}(i:E1 lo hi w w')(j:RH T)(e:fI a b v)(m:b<=lo\/hi<=a)(h:w.ownsRow 0 T 1 v n xs):w'.ownsRow 0 T 1 v n xs:=by
 refine⟨h.1,?_⟩;rcases h.2 with e | ⟨g,f,c,rfl,k,l,d⟩
 ·exact .inl e
 ·exact .inr ⟨g,f,c,rfl,k,i g c T j (fun _=>by have:=e g rfl;omega) l,d⟩
theorem AX.keep(g:E1 lo hi w w'):∀(n:Nat)(a b:Nat)(v:Value)(f:PF),(b<=lo\/hi<=a)->AX q n w a b v f->AX q n w' a b v f
 | 0,_,_,_,_,_,h=>h
 | n+1,a,b,v,.mk k P d Q R S,l,h=>by
  obtain⟨x,r,s,t,z,A,B,C,D,E,F,G,H,I,J,K,L,M,N,o,i,j⟩:=h
  exact⟨x,r,s,t,z,A,B,C,D,E,F,g x _ _ (.inr (.inr (.inl rfl))) (fun _=>by rcases l with h | h<;>omega) G,H,f8 g (.inr (.inr (.inr (.inl rfl)))) i l I,
   J.mono n_ n_ (fun c d u y T U O=>AX.keep g n c d u y (by rcases l with h | h<;>omega) O),f8 g (.inr (.inr (.inr (.inr (.inl rfl))))) j l K,fun e=>(L e).elim fun m p=>⟨m,p.1,AJ.keep g.ME _ _ _ p.2.1,p.2.2⟩,M,N,o,i,j⟩
theorem AX.later{f:PF}(h:AX q n w a b v f)(c:Below w.heap.size w w'):AX q n w' a b v f:=AX.keep (E1.AA (lo:=a) (hi:=a) c) n a b v f (.inr n_) h
theorem AX.up:∀(n m:Nat)(a b:Nat)(v:Value)(f:PF),n<=m->AX q n w a b v f->AX q m w a b v f
 | 0,_,_,_,_,_,_,h=>h.elim
 | _+1,0,_,_,_,_,e,_=>by omega
 | n+1,m+1,a,b,v,.mk k G d H I J,e,h=>by obtain⟨x,g,i,j,l,o,p,r,s,t,z,A,B,C,D,E⟩:=h;exact⟨x,g,i,j,l,o,p,r,s,t,z,A,B,C,D.mono n_ n_ (fun c d u y _ _ F=>AX.up n m c d u y (by omega) F),E⟩
theorem AX.wide{a' b':Nat}{f:PF}(c:a'<=a)(j:b<=b')(h:AX q n w a b v f):AX q n w a' b' v f:=by
 match n,f,h with
 | n+1,.mk k G d H I J,h =>obtain⟨x,l,m,o,p,r,s,t,u,K,L,y,z,A,B,C,D,E,F,e,g,i⟩:=h;exact⟨x,l,m,o,p,r,s,t,u,by omega,by omega,y,z,A,B.mono c n_ (fun _ _ _ _ _ _ k=>k),C,D,E,F,e,g.wide c j,i.wide c j⟩
theorem AX.settled:∀(n:Nat)(a b:Nat)(v:Value)(f:PF),AX true n w a b v f->G4 n w v f
 | 0,_,_,_,_,h=>h.elim
 | n+1,a,b,v,.mk k J d K L M,h=>by obtain⟨x,o,p,q,r,s,t,z,A,N,O,B,C,D,⟨P,Q,R,E,_⟩,F,G,c,g,j,_⟩:=h;refine⟨x,o,p,q,r,s,t,z,A,B,D,fun i u y H l=>?_,F,fun e=>⟨C e,(G e).elim fun m I=>⟨m,I.2.1⟩⟩,c,g,j⟩;have S:=(s_ l).1;exact AX.settled n _ _ u y (E i _ u y (g_ (by omega)) H l).2.2
theorem AX.ptr{f:PF}(h:AX q n w a b v f):∃x,v=.pointer (some ⟨x,0,none⟩):=by
 match n,f,h with
 | n+1,.mk k e d g i j,⟨x,_,_,_,_,_,_,_,c,_⟩=>exact⟨x,c⟩
def C5(w:World)(o:Option PF)(e:Ending)(w':World):Prop :=Below w.heap.size w w'/\((∃f b,o=some f/\e=.returned (.pointer (some ⟨b,0,none⟩))/\∃m,AX false m w' w.heap.size w'.heap.size (.pointer (some ⟨b,0,none⟩)) f)\/(o=none/\e=.returned (.pointer none)))
def EL(n:Nat):Prop:=∀(ok:Nat->Prop)(w:World)(v:Value)(t:Tr),AJ ok n w v t->dF n t->Calls prog 122 #[v] w fun e w'=>C5 w (AD n t) e w'
def ZT(w:World)(o:Option (List PF))(len:Nat)(e:Ending)(w':World):Prop :=Below w.heap.size w w'/\((∃fs v us,o=some fs/\e=.returned (.tuple #[v,.bool true])/\w'.ownsRow w.heap.size TF 1 v len us/\(len=0->v=.slice none 0 0)/\(∀u∈us,u.oneCell'=true)/\∃m,CA (AX false m w') w.heap.size w'.heap.size us fs)\/(o=none/\∃v,e=.returned (.tuple #[v,.bool false])))
def ZS(n:Nat):Prop:=∀(w:World)(v:Value)(vs:List Value)(ts:List Tr),F0 w v vs->QE n w vs ts->ts.length<=1000->(∀x∈ts,dF n x)->Calls prog 163 #[v] w fun e w'=>ZT w (Pl.B1 (AD n) ts) ts.length e w'
theorem AX.leaf{k:FK}{nm:AE}{d:Tr}(a:lo<=b)(c:b<hi)(e:w.heap[b]?=some (.cells #[AM (FW k),AM nm,dv,.slice none 0 0,.slice none 0 0,AM [],.int .i64 0,AM []] G3 (0,0)))(f:k=.const->∃m,m<=1000/\AJ (fun _=>True) m w dv d/\cL m d/\uG d)(g:shape k 0):AX false 1 w lo hi (.pointer (some ⟨b,0,none⟩)) (BN k nm d [] []) :=⟨b,dv,_,_,_,_,_,[],rfl,a,c,e,⟨rfl,rfl,rfl⟩,World.ownsRow_nil _ _ _ _,CA.nil _ _ _,World.ownsRow_nil _ _ _ _,f,g,by simp,by simp,fI.none _ _,fI.none _ _⟩
theorem AX.node{k:FK}{nm:AE}{nv:Value}{a:List PF}{ns:List AE}(c:lo<=b)(d:b<hi)(i:w.heap[b]?=some (.cells #[AM (FW k),AM nm,dv,kv,nv,AM [],.int .i64 0,AM []] G3 (0,0)))(j:w.ownsRow 0 LN 1 kv a.length us)(l:CA (AX false n w) lo b us a)(m:w.ownsRow 0 TS 1 nv ns.length (ns.map AM))(o:k≠.const)(p:shape k a.length)(q:a.length<=1000)(f:ns.length<=1000)(g:fI lo hi kv)(h:fI lo hi nv):AX false (n+1) w lo hi (.pointer (some ⟨b,0,none⟩)) (BN k nm .nil a ns) :=⟨b,dv,kv,nv,_,_,_,us,rfl,c,d,i,⟨rfl,rfl,rfl⟩,j,l,m,fun e=>absurd e o,p,q,f,g,h⟩
theorem AX.many{k:FK}{b:List PF}(d:wr.ownsRow base LN 1 kv b.length us)(j:lo<=base)(u:lo<=wr.heap.size)(l:CA (AX false m wr) lo wr.heap.size us b)(n:k≠.const)(o:shape k b.length)(p:b.length<=1000)
  (q:o2=.cells #[AM (FW k),AM [],dv,kv,.slice none 0 0,AM [],.int .i64 0,AM []] G3 (0,0)) (r:w=wr.alloc o2) :
  AX false (m+1) w lo w.heap.size (.pointer (some ⟨wr.heap.size,0,none⟩)) (BN k [] .nil b []):=by
 subst r;have s:(wr.alloc o2).heap.size=wr.heap.size+1:=by simp
 have e:Below wr.heap.size wr (wr.alloc o2):=b_;refine AX.node (by omega) (by omega) (by rw [<- q];exact heap_alloc_new _ _) ⟨d.1,(d.alloc _).2.imp id (fun⟨g,f,i,a,_,c⟩=>⟨g,f,i,a,Nat.zero_le _,c⟩)⟩ (l.mono n_ n_ (fun _ _ _ _ _ _ h=>h.later e)) (World.ownsRow_nil _ _ _ _) n o p (by simp) (fun g t=>?_) (fI.none _ _);have:=d.lt g t;omega
theorem oG{f:Tr->Option PF}:∀{l:List Tr} {r:List PF} {x:Tr} {a:PF},Pl.B1 f l=some r->f x=some a->Pl.B1 f (l++[x])=some (r++[a])
 | [],r,x,a,h,c=>by obtain rfl:=i_ h;simp [Pl.B1,c]
 | y::l,r,x,a,h,c=>by
  unfold Pl.B1 at h
  cases d:f y with
  | none=>rw [d] at h;simp at h
  | some b =>rw [d] at h;simp only [Option.bind_some,Option.map_eq_some_iff] at h;obtain⟨q,e,rfl⟩:=h;have g:=oG (x:=x) e c;simp only [List.cons_append];unfold Pl.B1;rw [d,g];rfl
theorem wV{f:Tr->Option PF}{l:List Tr}{x:Tr}(a:l[k]?=some x)(b:f x=none):Pl.B1 f l=none:=by have:=Pl.II f l;rw [show(l.all fun x=>(f x).isSome)=false from by rw [List.all_eq_false];exact⟨x,q_ a,by simp [b]⟩] at this;simpa using this
theorem wU{f:Tr->Option PF}{l:List Tr}{x:Tr}{r:List PF}{a:PF}(h:Pl.B1 f (l.take k)=some r)(b:l[k]?=some x)(c:f x=some a):Pl.B1 f (l.take (k+1))=some (r++[a]):=by rw [List.take_add_one,b];exact oG h c
def ID(m:Nat)(wr:World)(lo:Nat)(sv:Value)(us:List Value)(fs:List PF):Prop:=CA (fun a b u x=>AX false m wr a b u x/\∀g,sv.ownBlock=some g->g<a\/b<=g) lo wr.heap.size us fs
theorem ID.start(w:World)(lo:Nat):Hid (ID 0 w lo (.slice none 0 0) [] []):=(CA.nil _ _ _:ID 0 w lo (.slice none 0 0) [] [])
theorem AX.Z6{T:TypeId}{o:Obj}(l:w2.ownsRow base T 1 sv n us)(p:exT T)(q:(w2.alloc o).grownBy w3 sv.ownBlock){x:PF}(r:∀g,sv.ownBlock=some g->g<a\/b<=g)(h:AX false m w2 a b u x):AX false m w3 a b u x:=by
 have c:∀i,i<w2.heap.size->sv.ownBlock≠some i->w3.heap[i]?=w2.heap[i]? := fun i s t=>by rw [q.block i (by simp;omega) (fun e=>t e.symm),Below.heap_alloc w2 o i s]
 cases f:sv.ownBlock with
 | none=>exact AX.keep (lo:=a) (hi:=a) (fun i j e _ _ d=>(c i (aB d) (by rw [f];simp)).trans d) m a b u x (.inr n_) h
 | some g =>
  refine AX.keep (lo:=g) (hi:=g+1) (fun i j e _ v d=>?_) m a b u x (by have:=r g f;omega) h;by_cases w:i=g
  ·subst w;obtain⟨k,y⟩:=aN l i f;obtain⟨_,rfl⟩:=aK d y;have:=v p;omega
  ·exact(c i (aB d) (by rw [f];simp;omega)).trans d
theorem ID.push{m2:Nat}{j:List PF}{f:PF}{o:Obj}{g' cap':Nat}(h:ID m wr w.heap.size sv us j)(t:w.heap.size<=wr.heap.size)(p:Below wr.heap.size wr w2)(v:AX false m2 w2 wr.heap.size w2.heap.size u f)
  (q:w2.ownsRow w.heap.size TF 1 sv k us) (d:∀g,sv.ownBlock=some g->g<wr.heap.size) (l:(w2.alloc o).grownBy w3 sv.ownBlock) (i:sv.ownBlock=some g'\/g'=w2.heap.size+1):ID (m+m2) w3 w.heap.size (.slice (some ⟨g',0,none⟩) (k+1) cap') (us++[u]) (j++[f]):=by
 have n:=p.size;have y:w2.heap.size+1<=w3.heap.size:=by have:=l.size;simpa using this
 have r:exT TF:=.inr (.inl rfl)
 have z:CA (fun a b u x=>AX false (m+m2) w3 a b u x/\∀g,(Value.slice (some ⟨g',0,none⟩) (k+1) cap').ownBlock=some g->g<a\/b<=g) w.heap.size wr.heap.size us j :=
  h.mono n_ n_ (fun a b u x _ A ⟨B,s⟩=>⟨(AX.up _ _ _ _ _ _ (by omega) (B.later p)).Z6 q r l s,fun g c=>by
   simp only [Value.ownBlock,o_] at c;subst c;rcases i with e | e
   ·exact s _ e
   ·right;omega⟩)
 refine(z.snoc (hi:=w2.heap.size) t n ⟨(AX.up _ _ _ _ _ _ (by omega) v).Z6 q r l (fun g c=>.inl (d g c)),fun g c=>?_⟩).mono n_ (by omega) (fun _ _ _ _ _ _ k=>k);simp only [Value.ownBlock,o_] at c;subst c;rcases i with e | e
 ·exact .inl (d _ e)
 ·right;omega
theorem ID.plain{a:List PF}(h:ID m wr lo sv us a):CA (AX false m wr) lo wr.heap.size us a:=h.mono n_ n_ (fun _ _ _ _ _ _ k=>k.1)
theorem cI(n:Nat)(hF:EL n):ZS n:=by
 intro w v vs d hS hA af I;have R:=h_ I;clear I;obtain⟨i0,S,T,U,V⟩:=info_parts Tryz.TY;obtain⟨ao,ah,rfl,J,l⟩:=hS;obtain⟨B,ok,a⟩:=hA;rw [B] at J ⊢;have HV:=h_ B;clear B;have HC:=h_ l;have W:=h_ a;have X:=h_ hF;clear l a hF;go_enter func163,ntmps163;go_wp2_with fail
 go_loopw [4,5] (fun Y i wr=>∃(k:Nat)(s:List Value)(E:List PF)(m:Nat),k<=d.length/\i=.int .i64 k/\Hid (wr.ownsRow w.heap.size TF 1 Y k s)/\Hid (Below w.heap.size w wr)/\Hid (Pl.B1 (AD n) (d.take k)=some E)/\Hid (k=0->Y=.slice none 0 0)/\Hid (∀u∈s,u.oneCell'=true)/\Hid (ID m wr w.heap.size Y s E)) (fun _ i _=>d.length-(intOf i).toNat)
 case atStart=>exact⟨0,[],[],0,Nat.zero_le _,rfl,World.ownsRow_nil _ _ _ _,r_,rfl,fun _=>rfl,(fun u C=>by simp at C),ID.start _ _⟩
 case round =>
  obtain⟨k,s,E,m,hk,rfl,K,A,Q,HZ,HU,Z⟩:=hrel;by_cases aa:k<d.length
  ·obtain⟨u,C⟩:∃u,vs[k]?=some u:=⟨vs[k]'(by have:=HV.out;omega),g_ (by have:=HV.out;omega)⟩
   obtain⟨x,F⟩:∃x,d[k]?=some x:=⟨d[k],g_ aa⟩
   obtain⟨g,L,rfl,hg,hc⟩:=HC.out k u C;have M:wr.cell? ⟨g,L+k,none⟩=some u:=(A.cell (p:=⟨g,L+k,none⟩) hg).trans hc;have t:AJ ok n wr u x:=AJ.keep (CU.AA A) _ _ _ (W k u x C F);have ag:(k:Int)<(d.length:Int):=by omega
   clear hc C;have HX:=h_ F;clear F;obtain⟨bu,rfl⟩:=t.ptr;have HR:=h_ t;clear t;go_wp2_with fail;refine(X ok _ _ x HR (R x (q_ HX))).mono ?_;rintro e G ⟨c,⟨f,bf,t,rfl,m2,a⟩ | ⟨t,rfl⟩⟩
   ·have y:=h_ (A.trans (c.mono A.size));have q:Hid (G.ownsRow w.heap.size TF 1 u4 k s):=K.kept (aQ none c) (by cases hv:Value.ownBlock u4<;>simp);have ab:=h_ (wU Q HX t);have ac:Hid (∀(N:World)(o:Obj)(O r:Nat),(G.alloc o).grownBy N u4.ownBlock->(u4.ownBlock=some O\/O=G.heap.size+1)->ID (m+m2) N w.heap.size (.slice (some ⟨O,0,none⟩) (k+1) r) (s++[.pointer (some ⟨bf,0,none⟩)]) (E++[f])):=fun N o O r H h2 =>Z.push A.size c a q (fun g hg=>(K.lt g hg).2) H h2;have ad:w.heap.size<=G.heap.size:=y.size;clear c t K Q M a Z;go_wp2_with (first | (at_builtin;refine wpList_append_lies _ rfl _ _ 180 rfl w.heap.size 69 i0 (.pointer none) 1 8 underlying180 S T U V rfl (by decide) u4 k s rfl (q.alloc _) ⟨G.heap.size,0,none⟩ 1 1 [.pointer (some ⟨bf,0,none⟩)] rfl rfl (cell_one_new _ _ _) (fun x F=>by simp at F;subst F;rfl) (by decide) (by unfold maxLen;omega) (by omega) (by simp;omega) (G.heap.size+1) (by simp) ?_;intro O r N D b P _))
    go_roundw
    case rel =>
     refine⟨k+1,_,_,_,by omega,by go_num,D,?_,ab,fun h=>by omega,?_,ac N _ _ _ b P⟩
     ·exact(y.alloc ad _).grown b (by simp;omega) (fun j hj=>(q.lt j hj).1)
     ·intro u C;rcases List.mem_append.1 C with H | H
      ·exact HU.out u H
      ·simp at H;subst H;rfl
    case measure=>simp [intOf];omega
   ·have HE:=h_ (wV HX t);have y:=h_ (A.trans (c.mono A.size));clear c t K Q M;go_wp2_with fail;go_ret2;exact⟨y,.inr ⟨HE,_,rfl⟩⟩
  ·have z:k=d.length:=by omega
   have HE:Hid (Pl.B1 (AD n) d=some E):=by have:=Q.out;rw [z,List.take_length] at this;exact this
   have q:Hid (wr.ownsRow w.heap.size TF 1 u4 d.length s):=by have:=K.out;rw [z] at this;exact this
   have ae:Hid (d.length=0->u4=.slice none 0 0):=by have:=HZ.out;rw [z] at this;exact this
   clear z;go_wp2_with fail;go_ret2;exact⟨A,.inl ⟨E,_,s,HE,rfl,q,ae,HU,m,Z.plain⟩⟩
theorem CA.one{R:Nat->Nat->Value->PF->Prop}{x:PF}(h:R a b u x)(f:lo<=a)(g:b<=hi):CA R lo hi [u] [x] :=
 ⟨rfl,[(a,b)],rfl,fun i p v y c d e=>by
  cases i with
  | zero=>simp at c d e;subst c d e;exact⟨f,g,h⟩
  | succ i=>simp at c,fun i j p q k c l=>by
  cases j with
  | zero=>omega
  | succ j=>simp at l⟩
theorem kM(w:World)(a b:Obj):((w.alloc a).alloc b).heap[w.heap.size+1]?=some b:=by have:=heap_alloc_new (w.alloc a) b;rw [show(w.alloc a).heap.size=w.heap.size+1 from by simp] at this;exact this
theorem qD{e:TypeId}{vs:List Value}(h:w.ownsRow base e 1 v n vs):w.ownsRow 0 e 1 v n vs:=⟨h.1,h.2.imp id (fun⟨g,b,d,a,_,c⟩=>⟨g,b,d,a,Nat.zero_le _,c⟩)⟩
theorem AX.single{k:FK}{nm:AE}{nv:Value}{f:PF}{ns:List AE}(e:lo<=mid)(b:mid<=wr.heap.size)(h:AX false m wr lo mid u f)(c:k=.set\/k=.define\/k=.lambda)
  (i:o2=.cells #[AM (FW k),AM nm,dv,.slice (some ⟨wr.heap.size,0,none⟩) 1 1,nv,AM [],.int .i64 0,AM []] G3 (0,0)) (d:wr.ownsRow mid TS 1 nv ns.length (ns.map AM)) (j:ns.length<=1000) (l:w=(wr.alloc (.cells #[u] LN)).alloc o2) :
  AX false (m+1) w lo w.heap.size (.pointer (some ⟨wr.heap.size+1,0,none⟩)) (BN k nm .nil [f] ns):=by
 subst l i;have n:((wr.alloc (.cells #[u] LN)).alloc (.cells #[AM (FW k),AM nm,dv,.slice (some ⟨wr.heap.size,0,none⟩) 1 1,nv,AM [],.int .i64 0,AM []] G3 (0,0))).heap.size=wr.heap.size+2:=by simp
 have o:Below wr.heap.size wr ((wr.alloc (.cells #[u] LN)).alloc (.cells #[AM (FW k),AM nm,dv,.slice (some ⟨wr.heap.size,0,none⟩) 1 1,nv,AM [],.int .i64 0,AM []] G3 (0,0))):=b_.alloc (by simp) _;refine AX.node (by omega) (by omega) (kM _ _ _) (qD ((lZ wr LN u).alloc _)) (CA.one (h.later o) n_ (by omega)) (qD ((d.alloc _).alloc _)) (by rcases c with rfl | rfl | rfl<;>simp) (by rcases c with rfl | rfl | rfl<;>rfl) (by simp) j (fun g a=>?_) (fun g a=>?_)
 ·simp [Value.ownBlock] at a;omega
 ·have:=d.lt g a;omega
theorem iY(n:Nat)(V:EL n)(i:FK)(u:i=.set\/i=.define)(ok:Nat->Prop)(w:World)(v:Value)(r:List Tr)(h:AJ ok (n+1) w v (.agg (.lit (.string (FW i))::r)))(y:∀x∈r,dF n x) :Calls prog 121 #[v] w fun e w'=>C5 w (Pl.E6 i (AD n) r) e w':=by
 have HF:=h_ V;have G:=h_ y;clear y;have H:=h_ u;clear u;clear V;obtain⟨b,W,X,rfl,hb,c0,I,J,D,z⟩:=h.list;clear h;by_cases K:r.length=2
 ·obtain⟨k,m,rfl⟩:∃k m,r=[k,m]:=by
   match r,K with
   | [a,b],_=>exact⟨a,b,rfl⟩
  obtain⟨L,E,F,rfl⟩:∃L E F,X=[L,E,F]:=by
   match X,D with
   | [a,b,c],_=>exact⟨a,b,c,rfl⟩
  obtain⟨g,aa,M,rfl,A,hg,k0,N⟩:=J.cell0;have k1:=N 0 E rfl;have k2:=N 1 F rfl;simp only [Nat.zero_add] at k1 k2;have Y:=z 0 L (.lit (.string (FW i))) rfl rfl;have O:=z 1 E k rfl rfl;have P:=z 2 F m rfl rfl;obtain⟨b0,rfl,ab,_,s0⟩:=Y.EB;obtain⟨b1,rfl,ac,_,s1⟩:=O.EB;obtain⟨b2,rfl⟩:=P.ptr;have R1:=h_ O;have R2:=h_ P;clear z N J D Y O P K;simp only [c_,z_,Nat.zero_add] at I A;have ad:((3:Int)!=3)=false:=by decide
  go_enter func121,ntmps121
  go_wp2_with fail
  refine(aV ok n _ _ k R1).mono ?_;rintro e w1 ⟨rfl,o⟩;obtain⟨q1,_⟩:=bP o;have l:=h_ o;clear o;go_wp2_with fail;refine(HF ok _ _ m (R2.later l) (G m (by simp))).mono ?_;rintro e w2 ⟨p,q⟩;have d:=h_ (l.trans (p.mono l.size));obtain⟨q2,_⟩:=bP d;have B:=p.size;clear q1 p;rcases q with⟨f,bf,t,rfl,m2,j⟩ | ⟨t,rfl⟩
  ·by_cases Q:isName k=true
   ·have s:Hid (Pl.E6 i (AD n) [k,m]=some (BN i (Pl.strOf k) .nil [f] [])):=by simp [Hid,Pl.E6,Q,t]
    have R:=h_ j;have Z:=l.size;have C:=h_ B;have q3:=U3 d;have S:=d.size;clear t j;go_wp2_with fail
    go_region
    go_wp2_with fail
    go_ret;exact⟨((d.alloc S _).alloc (by simp;omega) _).drew,.inl ⟨_,_,s,rfl,m2+1,(AX.wide (by omega) n_ (AX.single (nv:=.slice none 0 0) (dv:=.pointer none) C n_ R (H.imp id .inl) rfl (World.ownsRow_nil _ _ _ _) (by simp) rfl)).later r_.drew⟩⟩
   ·have T:isName k=false:=by simpa using Q
    have s:Hid (Pl.E6 i (AD n) [k,m]=none):=by simp [Hid,Pl.E6,T]
    clear t Q j;go_wp2_with fail;go_ret;exact⟨d,.inr ⟨s,rfl⟩⟩
  ·have s:Hid (Pl.E6 i (AD n) [k,m]=none):=by simp [Hid,Pl.E6,t]
   clear t;go_wp2_with fail
   all_goals
    go_ret;exact⟨d,.inr ⟨s,rfl⟩⟩
 ·have s:Hid (Pl.E6 i (AD n) r=none):=by
   show Pl.E6 _ _ _=none;unfold Pl.E6;split
   ·simp at K
   ·rfl
  obtain⟨ao,M,rfl,_⟩:=J;rw [D] at I;have U:(((.lit (.string (FW i))::r:List Tr).length:Int)!=3)=true:=by simp;omega
  simp only [c_] at I U;clear D z;go_enter func121,ntmps121;go_wp2_with fail;go_ret;exact⟨r_,.inr ⟨s,rfl⟩⟩
theorem mT(n:Nat)(hF:EL n)(ok ok':Nat->Prop)(w:World)(nv bv:Value)(ns bd:Tr)(h:AJ ok n w nv ns)(H:AJ ok' n w bv bd)(aa:dF n bd) :Calls prog 164 #[nv,bv] w fun e w'=>C5 w (Pl.EA (AD n) ns bd) e w':=by
 obtain⟨i0,ab,ac,ad,ae⟩:=info_parts Tryz.QN;have HF:=h_ hF;have U:=h_ h;obtain⟨b,rfl,hb,P,_⟩:=h.EB;obtain⟨bb,rfl⟩:=H.ptr;have af:=h_ H;clear hF h H;go_enter func164,ntmps164;go_wp2_with fail;refine(HF ok' _ _ bd af aa).mono ?_;rintro e B ⟨I,t⟩;obtain⟨q1,_⟩:=bP I;have d:=h_ I;clear I;by_cases C:∃a,ns=.agg a
 ·obtain⟨a,rfl⟩:=C;have V:=U.short
  obtain⟨m,rfl⟩:∃m,n=m+1:=by
   cases n with
   | zero=>exact U.elim
   | succ m=>exact⟨m,rfl⟩
  have ag:w.cell? ⟨b,0,none⟩=some (.string ⟨#[108,105,115,116]⟩):=P;clear P;rcases t with⟨f,bf,D,rfl,m2,o⟩ | ⟨D,rfl⟩
  ·obtain⟨b',ax,vs,e,_,_,c3,hS,J,hA⟩:=U.list;simp only [Value.pointer.injEq,o_,Addr.mk.injEq,and_true] at e;subst e;obtain⟨ao,be,rfl,W,v⟩:=hS;rw [J] at c3 W;have HV:=h_ J;have HC:=h_ v;have HA:=h_ hA;have Q:=h_ D;have ah:=h_ o;have bg:=d.size;clear J v hA D o;go_wp2_with fail
   go_loopw [6,7] (fun lv i wr=>∃(k:Nat) (q:List (List UInt8)),k<=a.length/\i=.int .i64 k/\Hid (wr.ownsRow B.heap.size 9 1 lv k (q.map eB))/\Hid (Below B.heap.size B wr)/\Hid (Seen a k q)) (fun _ i _=>a.length-(intOf i).toNat)
   case atStart=>exact⟨0,[],Nat.zero_le _,rfl,World.ownsRow_nil _ _ _ _,r_,Seen.start _⟩
   case round =>
    obtain⟨k,q,hk,rfl,X,A,HS⟩:=hrel;have R:=h_ (d.trans (A.mono d.size));clear q1;obtain⟨q1,_⟩:=bP R;by_cases ai:k<a.length
    ·obtain⟨u,hu⟩:∃u,vs[k]?=some u:=⟨vs[k]'(by have:=HV.out;omega),g_ (by have:=HV.out;omega)⟩
     obtain⟨x,S⟩:∃x,a[k]?=some x:=⟨a[k],g_ ai⟩
     obtain⟨g,bh,rfl,hg,hc⟩:=HC.out k u hu;have hr:=HA.out k u x hu S;have HX:=h_ S;clear hu S;obtain⟨bu,rfl,bi,_,cs⟩:=hr.EB;have HR:=h_ (hr.later R);clear hr;have ay:(k:Int)<(a.length:Int):=by omega
     go_wp2_with fail
     refine(aV ok m _ _ x HR).mono ?_;rintro e K ⟨rfl,E⟩;have l:=h_ (R.trans (E.mono R.size));obtain⟨q2,_⟩:=bP l;have c:=h_ (A.trans (E.mono A.size));have F:Hid (K.ownsRow B.heap.size 9 1 u6 k (q.map eB)):=X.kept (aQ none E) (by cases hv:Value.ownBlock u6<;>simp);have aj:B.heap.size<=K.heap.size:=c.size;clear E X q1;by_cases r:isName x=true
     ·obtain⟨ak,Y,rfl,L,p⟩:=mR F;have al:=h_ p;have M:Hid (q.length=k):=show q.length=k from by have:=F.1;simpa using this
      clear p;go_wp2_with fail
      go_loopw [9] (fun jj wq=>∃(j mm:Nat),j<=k/\jj=.int .i64 j/\wq=K.drewN mm/\Hid (∀(i:Nat)(y:List UInt8),i<j->q[i]?=some y->¬y=Pl.strOf x)) (fun jj _=>k-(intOf jj).toNat)
      case atStart=>exact⟨0,0,Nat.zero_le _,rfl,rfl,fun i y hi=>by omega⟩
      case round =>
       obtain⟨j,mm,hj,rfl,rfl,HJ⟩:=hrel;by_cases bj:j<k
       ·obtain⟨y,Z⟩:∃y,q[j]?=some y:=⟨q[j]'(by have:=M.out;omega),g_ (by have:=M.out;omega)⟩
        obtain⟨g2,rfl,bk⟩:=al.out j y Z;have az:(j:Int)<(k:Int):=by omega
        by_cases s:y=Pl.strOf x
        ·have HT:Hid (Pl.EA (AD (m+1)) (.agg a) bd=none):=by
          have:=HS.ZY HX Z s;simp [Hid,Pl.EA,this]
         have e1:(y==Pl.strOf x)=true:=by simpa using s
         clear Z s;go_wp2_with fail
         go_quiet (fail)
         go_wp2_with fail
         go_ret;refine⟨⟨l.os,l.tape,l.output,l.size,l.block⟩,.inr ⟨HT,rfl⟩⟩
        ·have am:Hid (∀(i:Nat)(z:List UInt8),i<j+1->q[i]?=some z->¬z=Pl.strOf x):=by
          intro i z hi T;by_cases e:i=j
          ·subst e;rw [Z] at T;obtain rfl:=i_ T;exact s
          ·exact HJ.out i z (by omega) T
         have e1:(y==Pl.strOf x)=false:=by simpa using s
         clear Z s;go_wp2_with fail
         go_quiet (fail)
         go_wp2_with fail
         go_roundw
         case rel=>exact⟨j+1,_,by omega,by go_num,rfl,am⟩
         case measure=>simp [intOf];omega
       ·have an:Hid (Seen a (k+1) (q++[Pl.strOf x])):=HS.more HX r (vO fun i z T=>HJ.out i z (by have:=(s_ T).1;have:=M.out;omega) T);clear HJ;go_wp2_with (first | (at_builtin;refine wpList_append_lies _ rfl _ _ 131 rfl B.heap.size 9 i0 (.string ByteArray.empty) 1 16 underlying131 ab ac ad ae rfl (by decide) _ k (q.map eB) rfl (World.ownsRow.alloc (w:=K.drewN mm) F _) ⟨K.heap.size,0,none⟩ 1 1 [.string ⟨(Pl.strOf x).toArray⟩] rfl rfl (cell_one_new _ _ _) (fun x S=>by simp at S;subst S;rfl) (by decide) (by unfold maxLen;omega) (by omega) (by simp;omega) (K.heap.size+1) (by simp) ?_;intro g' ba w3 N G bc _))
        go_roundw
        case rel =>
         refine⟨k+1,_,by omega,by go_num,?_,?_,an⟩
         ·have:=N;rw [List.map_append];exact this
         ·exact(Below.alloc (w:=K.drewN mm) ⟨c.os,c.tape,c.output,c.size,c.block⟩ aj _).grown G (by simp;omega) (fun j hj=>(F.lt j hj).1)
        case measure=>simp [intOf];omega
     ·have ap:isName x=false:=by simpa using r
      have HT:Hid (Pl.EA (AD (m+1)) (.agg a) bd=none):=by have:=Seen.bad HX ap;simp [Hid,Pl.EA,this]
      clear r;go_wp2_with fail;go_ret;exact⟨l,.inr ⟨HT,rfl⟩⟩
    ·have HT:Hid (Pl.EA (AD (m+1)) (.agg a) bd=some (BN .lambda [] .nil [f] (a.map Pl.strOf))):=by
      have:=HS.done (by omega);simp [Hid,Pl.EA,this,Q.out]
     obtain rfl:k=a.length:=by omega
     have r:q=a.map Pl.strOf:=by have:=HS.1;rw [List.take_length] at this;exact this
     have aq:Hid (wr.ownsRow B.heap.size TS 1 u6 (a.map Pl.strOf).length ((a.map Pl.strOf).map AM)):=by have:=X.out;rw [r] at this;rw [List.length_map];exact this
     have ar:=h_ (ah.later A);have O:Hid (w.heap.size<=B.heap.size/\B.heap.size<=wr.heap.size/\a.length<=1000):=⟨d.size,A.size,V⟩
     clear r;have au:=R.size;obtain⟨ak,Y,rfl,L,_⟩:=mR X;clear X;go_wp2_with fail;go_ret;exact⟨(R.alloc au _).alloc (by simp;omega) _,.inl ⟨_,_,HT,rfl,m2+1,AX.single (dv:=.pointer none) O.1 O.2.1 ar (.inr (.inr rfl)) rfl aq (by rw [List.length_map];exact O.2.2) rfl⟩⟩
  ·have Q:Hid (Pl.EA (AD (m+1)) (.agg a) bd=none):=by
    simp [Hid,Pl.EA,D]
   clear D;go_wp2_with fail;go_ret;exact⟨d,.inr ⟨Q,rfl⟩⟩
 ·have Q:Hid (Pl.EA (AD n) ns bd=none):=by
   show Pl.EA _ _ _=_;unfold Pl.EA;split
   ·exact absurd ⟨_,rfl⟩ C
   ·rfl
  have av:∃kk:List UInt8,w.cell? ⟨b,0,none⟩=some (.string ⟨kk.toArray⟩)/\(kk==[108,105,115,116])=false:=by
   cases n with
   | zero=>exact U.elim
   | succ m =>
    obtain⟨_,_,_,hh⟩:=U.out
    match ns,hh with
    | .lit (.int _ _),_=>exact⟨[110,117,109,98,101,114],P,by decide⟩
    | .lit (.bool _),_=>exact⟨[116,114,117,116,104],P,by decide⟩
    | .lit (.string _),_=>exact⟨[110,97,109,101],P,by decide⟩
    | .agg a,_=>exact absurd ⟨a,rfl⟩ C
  obtain⟨kk,ag,aw⟩:=av;have bl:(kk !=[108,105,115,116])=true:=by rw [bne,aw];rfl
  clear P C;rcases t with⟨f,bf,D,rfl,m2,o⟩ | ⟨D,rfl⟩
  ·clear D o;go_wp2_with fail;go_ret;exact⟨d,.inr ⟨Q,rfl⟩⟩
  ·clear D;go_wp2_with fail;go_ret;exact⟨d,.inr ⟨Q,rfl⟩⟩
theorem X8{vvs vs:List Value}{d:List Tr}(k:MJ ok m w vvs (d.map Pl.BU))(n:∀(i:Nat)(u:Value)(x:Tr),vs[i]?=some u->d[i]?=some x->AJ ok m w u x)(o:vs.length=d.length)(p:d.all Pl.BI=true)(q:dF (m+1) (.agg d)):∀x∈d.map Pl.BU,dF (m+1) x:=by
 intro b r;obtain⟨x,f,rfl⟩:=List.mem_map.1 r;obtain⟨i,g⟩:=List.mem_iff_getElem?.1 f;have e:=List.all_eq_true.1 p x f;have s:=(s_ g).1;have l:vvs.length=d.length:=by have:=k.1;simpa using this
 have t:=k.2 i vvs[i] (Pl.BU x) (g_ (by omega)) (by rw [List.getElem?_map,g];rfl);have h:=q.2 x f;refine pE m (m+1) _ _ t ?_;have j:=n i vs[i] x (g_ (by omega)) g;unfold Pl.BI at e;split at e
 ·next a c =>have:=pE m (m+1) _ _ j h;exact this.2 c (by simp)
 ·simp at e
theorem zV{d:PF}{a:List PF}(e:CA (AX false m w3) lo w3.heap.size (u::us) (d::a))(b:lo<=w3.heap.size)(j:a.length=n)(l:n=0)(c:us.length=0)
  (f:o2=.cells #[AM (FW .call),AM [],.pointer none,.slice (some ⟨w3.heap.size,0,none⟩) 1 1,.slice none 0 0,AM [],.int .i64 0,AM []] G3 (0,0)) :
  AX false (m+1) ((w3.alloc (.cells #[u] LN)).alloc o2) lo ((w3.alloc (.cells #[u] LN)).alloc o2).heap.size (.pointer (some ⟨w3.heap.size+1,0,none⟩)) (BN .call [] .nil (d::a) []):=by
 obtain rfl:us=[]:=e_ c;obtain rfl:a=[]:=e_ (by omega);have g:(w3.alloc (.cells #[u] LN)).heap.size=w3.heap.size+1:=by simp
 have i:Below w3.heap.size w3 (w3.alloc (.cells #[u] LN)):=b_;have:=AX.many (k:=.call) (lo:=lo) (base:=w3.heap.size) (lZ w3 LN u) b (by omega) (e.mono n_ (by omega) (fun _ _ _ _ _ _ h=>h.later i)) (by simp) n_ (by simp) f rfl;rw [g] at this;exact this
theorem zU{w6:World}{f:PF}{e:List PF}{L:Nat}{o1:Obj}{row:Option Nat}(g:CA (AX false m w3) lo w3.heap.size (u::us) (f::e))(i:lo<=w3.heap.size)(j:e.length=n)(q:n<=900)
  (b:w6.ownsRow base LN 1 kv L ([u]++us)) (c:(w3.alloc o1).grownBy w6 row) (d:∀k,row=some k->w3.heap.size<=k) (a:lo<=base) (l:L=n+1)
  (o:o2=.cells #[AM (FW .call),AM [],.pointer none,kv,.slice none 0 0,AM [],.int .i64 0,AM []] G3 (0,0)) :
  AX false (m+1) (w6.alloc o2) lo (w6.alloc o2).heap.size (.pointer (some ⟨w6.heap.size,0,none⟩)) (BN .call [] .nil (f::e) []):=by
 subst l j;have r:w3.heap.size+1<=w6.heap.size:=by have:=c.size;simpa using this
 have p:Below w3.heap.size w3 w6:=(r_.alloc n_ o1).grown c (by simp) d;exact AX.many (k:=.call) (lo:=lo) (base:=base) b a (by omega) (g.mono n_ (by omega) (fun _ _ _ _ _ _ h=>h.later p)) (by simp) (by show 1<=_;simp) (by simp;omega) o rfl
theorem rf_let(n:Nat)(hF:EL n)(ok ok':Nat->Prop)(w:World)(pv bv:Value)(ps bd:Tr)(h:AJ ok n w pv ps)(ad:AJ ok' n w bv bd)(au:dF n ps)(av:dF n bd) :Calls prog 165 #[pv,bv] w fun e w'=>C5 w (Pl.D5 (AD n) ps bd) e w':=by
 obtain⟨i0,aw,ax,ay,az⟩:=info_parts Tryz.TZ;obtain⟨i1,ba,bz,ca,cb⟩:=info_parts Tryz.TY;have HF:=h_ hF;have ae:Hid (dF n ps/\dF n bd):=⟨au,av⟩
 clear au av;have HN:=h_ h;obtain⟨b,rfl,hb,ck,_⟩:=h.EB;obtain⟨bb,rfl⟩:=ad.ptr;have cc:=h_ ad;clear hF h ad;by_cases N:∃d,ps=.agg d
 ·obtain⟨d,rfl⟩:=N;have F:=HN.short
  obtain⟨m,rfl⟩:∃m,n=m+1:=by
   cases n with
   | zero=>exact HN.elim
   | succ m=>exact⟨m,rfl⟩
  have dd:w.cell? ⟨b,0,none⟩=some (.string ⟨#[108,105,115,116]⟩):=ck;clear ck;obtain⟨b',ct,vs,e,_,_,c3,hS,af,hA⟩:=HN.list;simp only [Value.pointer.injEq,o_,Addr.mk.injEq,and_true] at e;subst e;obtain⟨ao,de,rfl,bc,G⟩:=hS;rw [af] at c3 bc;have HV:=h_ af;have HC:=h_ G;have HA:=h_ hA;clear af G hA;go_enter func165,ntmps165;go_wp2_with fail
  go_loopw [6,7] (fun vv i wr=>∃(k:Nat)(kn:Value)(H A:List Value),k<=d.length/\i=.int .i64 k/\Hid (D7 w wr w.heap.size k k kn vv H A)/\Hid ((d.take k).all Pl.BI=true)/\Hid (MJ ok m w H ((d.take k).map Pl.DC))/\Hid (MJ ok m w A ((d.take k).map Pl.BU))) (fun _ i _=>d.length-(intOf i).toNat)
  case atStart=>exact⟨0,_,[],[],Nat.zero_le _,rfl,D7.start _ rfl,by simp [Hid],by simpa [Hid] using MJ.nil ok m w,by simpa [Hid] using MJ.nil ok m w⟩
  case round =>
   obtain⟨k,kn,H,A,hk,rfl,q,HP,O,D⟩:=hrel;obtain⟨q1,_⟩:=bP q.below;have cG:=aA q.out.out 3;have fG:=aF q.out.out 3;by_cases be:k<d.length
   ·obtain⟨u,hu⟩:∃u,vs[k]?=some u:=⟨vs[k]'(by have:=HV.out;omega),g_ (by have:=HV.out;omega)⟩
    obtain⟨x,hx⟩:∃x,d[k]?=some x:=⟨d[k],g_ be⟩
    obtain⟨g,df,rfl,hg,hc⟩:=HC.out k u hu;have hr:=HA.out k u x hu hx;have HX:=h_ hx;clear hu hx;have cu:(k:Int)<(d.length:Int):=by omega
    have HR:=h_ hr;obtain⟨bu,rfl,cd,ag,_⟩:=hr.EB;clear hr;by_cases P:∃X,x=.agg X
    ·obtain⟨X,rfl⟩:=P;have cv:w.cell? ⟨bu,0,none⟩=some (.string ⟨#[108,105,115,116]⟩):=ag;clear ag
     obtain⟨Q,rfl⟩:∃Q,m=Q+1:=by
      cases m with
      | zero=>exact HR.elim
      | succ Q=>exact⟨Q,rfl⟩
     obtain⟨dg,kx,vx,e,_,_,ah,ai,B,R⟩:=HR.list;simp only [Value.pointer.injEq,o_,Addr.mk.injEq,and_true] at e;subst e;by_cases h2:X.length=2
     ·obtain⟨x0,x1,rfl⟩:∃x0 x1,X=[x0,x1]:=by
       match X,h2 with
       | [a,b],_=>exact⟨a,b,rfl⟩
      obtain⟨y0,y1,rfl⟩:∃y0 y1,vx=[y0,y1]:=by
       match vx,B with
       | [a,b],_=>exact⟨a,b,rfl⟩
      obtain⟨gx,I,Y,rfl,aj,ce,z0,zs⟩:=ai.cell0;have z1:=zs 0 y1 rfl;simp only [Nat.zero_add,c_,z_] at z1 ah aj;have r0:AJ ok (Q+1) w y0 x0:=AJ.up _ _ _ _ (Nat.le_succ _) (R 0 y0 x0 rfl rfl);have r1:AJ ok (Q+1) w y1 x1:=AJ.up _ _ _ _ (Nat.le_succ _) (R 1 y1 x1 rfl rfl);have cf:Hid ((d.take (k+1)).all Pl.BI=true):=eA HP HX rfl;have cg:Hid (MJ ok (Q+1) w (H++[y0]) ((d.take (k+1)).map Pl.DC)):=show MJ _ _ _ _ _ from by rw [c8 _ HX.out];exact O.snoc r0
      have ch:Hid (MJ ok (Q+1) w (A++[y1]) ((d.take (k+1)).map Pl.BU)):=show MJ _ _ _ _ _ from by rw [c8 _ HX.out];exact D.snoc r1
      obtain⟨ak,rfl⟩:=r0.ptr;obtain⟨ci,rfl⟩:=r1.ptr;clear ai B R zs h2 HP O D r0 r1;have al:=q.below.size;have Z:w.heap.size<wr.heap.size:=aB q.out.out;have aG:kn.ownBlock≠some w.heap.size:=fun e=>by have:=(q.G0.lt _ e).1;omega
      have dh:kn.ownBlock≠some bu:=fun e=>by have:=(q.G0.lt _ e).1;omega
      have di:kn.ownBlock≠some gx:=fun e=>by have:=(q.G0.lt _ e).1;omega
      have bf:wr.cell? ⟨bu,3,none⟩=some (.slice (some ⟨gx,I,none⟩) 2 Y):=(q1 bu 3 cd).trans ah;have cj:wr.cell? ⟨gx,I,none⟩=some (.pointer (some ⟨ak,0,none⟩)):=(q1 gx I ce).trans z0;have fA:∀ob:Obj,(wr.alloc ob).frozen? ⟨w.heap.size,3,none⟩=false:=fun ob=>aF ((Below.heap_alloc wr ob _ Z).trans q.out.out) 3;have cA:∀ob:Obj,(wr.alloc ob).cell? ⟨w.heap.size,3,none⟩=some kn:=fun ob=>aA ((Below.heap_alloc wr ob _ Z).trans q.out.out) 3;have q2:=U3 q.below;go_wp2_with fail
      go_region_law ((refine step_append_lies _ (by rfl) _ _ _ (by rfl) (w.heap.size+1) 135 i0 _ 1 8 underlying237 aw ax ay az rfl (by omega) kn k H (by rfl) ((q.G0.alloc _).drew) ⟨wr.heap.size,0,none⟩ 1 1 [.pointer (some ⟨ak,0,none⟩)] (by rfl) (by rfl) (World.news_of_block (cs:=#[.pointer (some ⟨ak,0,none⟩)]) (t:=135) (fr:=(0,0)) (heap_alloc_new wr _)) (by simp [Value.oneCell']) (by omega) (by unfold maxLen;omega) (by omega) (by simp;omega) (wr.heap.size+1) (by simp) ?_;intro g3 bg S J o aa bi;have cl:=(o.cell_far ⟨w.heap.size,3,none⟩ (by simp;omega) (Ne.symm aG)).trans (cA _);have cm:=(o.frozen_far ⟨w.heap.size,3,none⟩ (by simp;omega) (Ne.symm aG)).trans (fA _)))
      all_goals
       have T:=h_ (q.S2 J (l9 o) aa);clear cl cm o J aa bi q cG fG q1 q2 cA fA bf cj;generalize S.setCell ⟨w.heap.size,3,none⟩ (.slice (some ⟨g3,0,none⟩) (k+1) bg)=W3 at *;obtain⟨q1,_⟩:=bP T.below;have cw:w.heap.size<W3.heap.size:=aB T.out.out;go_wp2_with (first | (at_builtin;refine wpList_append_lies _ rfl _ _ 237 rfl (w.heap.size+1) 135 i0 (.pointer none) 1 8 underlying237 aw ax ay az rfl (by decide) u6 k A rfl (T.I6.alloc _) ⟨W3.heap.size,0,none⟩ 1 1 [.pointer (some ⟨ci,0,none⟩)] rfl rfl (cell_one_new _ _ _) (fun x hx=>by simp at hx;subst hx;rfl) (by decide) (by unfold maxLen;omega) (by omega) (by simp;omega) (W3.heap.size+1) (by simp) ?_;intro g4 cx w4 am U bj _))
       go_roundw
       case rel=>exact⟨k+1,_,_,_,by omega,by go_num,T.S0 am U bj,cf,cg,ch⟩
       case measure=>simp [intOf];omega
     ·have E:Hid (Pl.D5 (AD (Q+1+1)) (.agg d) bd=none):=by
       have hf:Pl.BI (.agg X)=false:=by
        match X,h2 with
        | [],_=>rfl
        | [_],_=>rfl
        | _::_::_::_,_=>rfl
       have:=gJ (f:=Pl.BI) HX hf;simp [Hid,Pl.D5,this]
      obtain⟨dj,Y,rfl,_,_⟩:=ai;rw [B] at ah;have dk:((X.length:Int)!=2)=true:=by simp;omega
      clear B R;go_wp2_with fail;go_ret;exact⟨q.below,.inr ⟨E,rfl⟩⟩
    ·have E:Hid (Pl.D5 (AD (m+1)) (.agg d) bd=none):=by
      have hf:Pl.BI x=false:=by
       unfold Pl.BI;split
       ·exact absurd ⟨_,rfl⟩ P
       ·rfl
      have:=gJ (f:=Pl.BI) HX hf;simp [Hid,Pl.D5,this]
     obtain⟨kk,K,an⟩:=HR.KQ P;rw [K] at ag;have cn:(kk !=[108,105,115,116])=true:=by rw [bne,an];rfl
     clear K P;go_wp2_with fail;go_ret;exact⟨q.below,.inr ⟨E,rfl⟩⟩
   ·have co:k=d.length:=by omega
    subst co;rw [List.take_length] at HP O D;have bk:AJ (fun _=>True) (m+1) wr (.pointer (some ⟨w.heap.size,0,none⟩)) (.agg (d.map Pl.DC)):=q.names O (by simp) (by simpa using F);have bl:=h_ bk;clear bk hk be;have al:=q.below.size;go_wp2_with fail;refine(mT (m+1) HF _ ok' _ _ _ (.agg (d.map Pl.DC)) bd bl (cc.later q.below) ae.2).mono ?_;rintro e w2 ⟨V,l⟩;have L:=h_ (q.below.trans (V.mono al));have cp:Hid (w2.ownsRow (w.heap.size+1) TP 1 u6 d.length A):=q.I6.kept (aQ none V) (by cases hv:Value.ownBlock u6<;>simp);have ap:=h_ l;have bm:=V.size;clear V l bl cG fG q1 q;have aq:=bC cp;obtain⟨dl,cy,rfl,_⟩:=id aq;have bn:=h_ aq;clear aq;have ab:=L.size;have bo:=h_ (X8 D HA HV HP ae.1);have W:Hid (w.heap.size<=wr.heap.size/\wr.heap.size<=w2.heap.size/\d.length<=900):=⟨al,bm,ae.1.1⟩
    rcases ap.out with⟨fh,bh,M,rfl,mh,bp⟩ | ⟨M,rfl⟩
    ·have bq:=h_ M;have cq:=h_ bp;clear M ap bp;go_wp2_with fail;refine(cI (m+1) HF _ _ A (d.map Pl.BU) bn ((D.later L).all (Nat.le_succ _)) (by simpa using F) bo).mono ?_;rintro e S ⟨v,l⟩;have r:=h_ (L.trans (v.mono ab));have ac:=r.size;rcases l with⟨gs,rv,fs,y,rfl,c,s,C,mr,p⟩ | ⟨y,rv,rfl⟩
     ·have E:Hid (Pl.D5 (AD (m+1)) (.agg d) bd=some (BN .call [] .nil (fh::gs) [])):=by
       have h1:=bq.out;show Pl.D5 _ _ _=_;unfold Pl.D5;dsimp only;rw [if_pos HP.out,h1,y];rfl
      have br:Hid (CA (AX false (mh+mr) S) w.heap.size S.heap.size (.pointer (some ⟨bh,0,none⟩)::fs) (fh::gs)):=show CA _ _ _ _ _ from CA.cons (p.mono n_ n_ (fun _ _ _ _ _ _ h=>AX.up _ _ _ _ _ _ (by omega) h)) (t_ W.1 W.2.1) v.size (AX.wide W.1 n_ (AX.up _ _ _ _ _ _ (by omega) (cq.later v)));rw [List.length_map] at c s;have bs:Hid (gs.length=d.length):=show gs.length=d.length from by have h1:=p.1;have h2:=c.1;omega
      clear y v p;by_cases hz:d.length=0
      ·have hv:=s hz;subst hv;have bt:=h_ hz;have bw:Hid (fs.length=0):=show fs.length=0 from by have:=c.1;omega
       clear s c C hz;go_wp2_with (first | (at_builtin;refine wpList_append_own_none rfl _ _ 180 rfl S.heap.size 69 i1 1 underlying180 ba _ 1 _ rfl (lZ _ _ _) rfl ?_));go_ret;exact⟨(r.alloc ac _).alloc (by simp;omega) _,.inl ⟨_,_,E,rfl,_,zV br r.size bs bt bw rfl⟩⟩
      ·have cz:=c.lt;obtain⟨g,bx,rfl,_,_⟩:=c.form (by omega);have cr:=h_ c;have dm:fs.length=d.length:=by have:=c.1;omega
       clear c s;go_wp2_with (first | (at_builtin;refine wpList_append_lies _ rfl _ _ 180 rfl S.heap.size 69 i1 (.pointer none) 1 8 underlying180 ba bz ca cb rfl (by decide) (.slice (some ⟨S.heap.size,0,none⟩) 1 1) 1 _ rfl (lZ _ _ _) ⟨g,0,none⟩ d.length bx fs rfl (by omega) ((cr.alloc _).cells rfl) C (by omega) (by unfold maxLen;omega) (by omega) (by simp) (S.heap.size+1) (by simp) ?_;intro g6 da w6 ar z db dc));go_ret;refine⟨Below.alloc ?_ ?_ _,.inl ⟨_,_,E,rfl,_,zU br r.size bs W.2.2 ar z (fun j hj=>by simp [Value.ownBlock] at hj;omega) r.size (by omega) rfl⟩⟩
       ·exact(r.alloc ac _).grown z (by simp;omega) (fun j hj=>by simp [Value.ownBlock] at hj;omega)
       ·have:=z.size;simp at this;omega
     ·have E:Hid (Pl.D5 (AD (m+1)) (.agg d) bd=none):=by
       show Pl.D5 _ _ _=none;unfold Pl.D5;dsimp only;rw [if_pos HP.out,bq.out,y];rfl
      clear v y;go_wp2_with fail;go_ret;exact⟨r,.inr ⟨E,rfl⟩⟩
    ·have E:Hid (Pl.D5 (AD (m+1)) (.agg d) bd=none):=by
      show Pl.D5 _ _ _=none;unfold Pl.D5;dsimp only;rw [if_pos HP.out,M];rfl
     clear M ap;go_wp2_with fail;refine(cI (m+1) HF _ _ A (d.map Pl.BU) bn ((D.later L).all (Nat.le_succ _)) (by simpa using F) bo).mono ?_;rintro e S ⟨v,l⟩;have r:=h_ (L.trans (v.mono ab));rcases l with⟨gs,rv,fs,y,rfl,c,s,C,mr,p⟩ | ⟨y,rv,rfl⟩
     ·clear v y c s C p;go_wp2_with fail;go_ret;exact⟨r,.inr ⟨E,rfl⟩⟩
     ·clear v y;go_wp2_with fail;go_ret;exact⟨r,.inr ⟨E,rfl⟩⟩
 ·have E:Hid (Pl.D5 (AD n) ps bd=none):=by
   show Pl.D5 _ _ _=none;unfold Pl.D5;split
   ·exact absurd ⟨_,rfl⟩ N
   ·rfl
  obtain⟨kk,K,an⟩:=HN.KQ N;rw [K] at ck;have cn:(kk !=[108,105,115,116])=true:=by rw [bne,an];rfl
  clear K N;go_enter func165,ntmps165;go_wp2_with fail;go_ret;exact⟨r_,.inr ⟨E,rfl⟩⟩
theorem iZ{w1:World}{t:Tr}(f:n<=1000)(h:AJ ok n w v t)(a:cL n t)(b:uG t)(e:Below w.heap.size w w1)(c:lo<=w1.heap.size)(g:o2=.cells #[AM (FW .const),AM [],v,.slice none 0 0,.slice none 0 0,AM [],.int .i64 0,AM []] G3 (0,0))(i:w'=w1.alloc o2):AX false 1 w' lo w'.heap.size (.pointer (some ⟨w1.heap.size,0,none⟩)) (BN .const [] t [] []):=by subst i;have d:Below w.heap.size w (w1.alloc o2):=e.alloc e.size _;exact AX.leaf c (by simp) (by rw [<- g];exact heap_alloc_new _ _) (fun _=>⟨n,f,AJ.mono (fun _ _ _=>trivial) _ _ _ (h.later d),a,b⟩) rfl
theorem xQ{w1:World}{s:AE}(a:lo<=w1.heap.size)(b:o2=.cells #[AM (FW .name),AM s,.pointer none,.slice none 0 0,.slice none 0 0,AM [],.int .i64 0,AM []] G3 (0,0))(c:w'=w1.alloc o2):AX false 1 w' lo w'.heap.size (.pointer (some ⟨w1.heap.size,0,none⟩)) (BN .name s .nil [] []):=by subst c;exact AX.leaf a (by simp) (by rw [<- b];exact heap_alloc_new _ _) (fun e=>by cases e) rfl
theorem fS{w5:World}{k:FK}{rv:Value}{b:List PF}{len:Nat}(d:w.heap.size<=w2.heap.size)(f:w2.heap.size<=w5.heap.size)(a:w5.ownsRow w2.heap.size TF 1 rv len us)(e:CA (AX false m w5) w2.heap.size w5.heap.size us b)(g:k≠.const)(i:shape k b.length)(j:b.length<=1000)
  (l:o2=.cells #[AM (FW k),AM [],.pointer none,rv,.slice none 0 0,AM [],.int .i64 0,AM []] G3 (0,0)):AX false (m+1) (w5.alloc o2) w.heap.size (w5.alloc o2).heap.size (.pointer (some ⟨w5.heap.size,0,none⟩)) (BN k [] .nil b []):=by
 have c:b.length=len:=by have n:=e.1;have d:=a.1;omega
 subst c;exact AX.many a d (t_ d f) (e.mono d n_ (fun _ _ _ _ _ _ h=>h)) g i j l rfl
theorem mV(n:Nat)(A:n+1<=1000)(ok:Nat->Prop)(w:World)(v:Value)(t:Tr)(h:AJ ok (n+1) w v t)(l:cL (n+1) t)(f:¬∃B,t=.agg B) :Calls prog 122 #[v] w fun e C=>C5 w (AD (n+1) t) e C:=by
 have g:=h_ h;have o:=h_ l;clear l;obtain⟨b,rfl,F,i,q⟩:=h.EB;rcases h.kinds with⟨k,m,rfl⟩ | ⟨x,rfl⟩ | ⟨s,rfl⟩ | r
 ·have p:w.cell? ⟨b,0,none⟩=some (.string ⟨#[110,117,109,98,101,114]⟩):=i;clear i q h f;go_enter func122,ntmps122;go_wp2_with fail;refine(aV ok (n+1) _ _ _ g).mono ?_;rintro e u ⟨rfl,a⟩;obtain⟨y,_⟩:=bP a;have c:=h_ a;have d:=a.size;clear a;go_wp2_with fail;go_ret;exact⟨c.alloc d _,.inl ⟨_,_,rfl,rfl,1,iZ A g o trivial c d rfl rfl⟩⟩
 ·have p:w.cell? ⟨b,0,none⟩=some (.string ⟨#[116,114,117,116,104]⟩):=i;clear i q h f;go_enter func122,ntmps122;go_wp2_with fail;refine(aV ok (n+1) _ _ _ g).mono ?_;rintro e u ⟨rfl,a⟩;obtain⟨y,_⟩:=bP a;have c:=h_ a;have d:=a.size;clear a;go_wp2_with fail;go_ret;exact⟨c.alloc d _,.inl ⟨_,_,rfl,rfl,1,iZ A g o trivial c d rfl rfl⟩⟩
 ·have p:w.cell? ⟨b,0,none⟩=some (.string ⟨#[110,97,109,101]⟩):=i;have D:w.cell? ⟨b,2,none⟩=some (.string ⟨s.toArray⟩):=q;clear i q h f;by_cases j:EE s=true
  ·have E:isName (.lit (.string s))=false:=by simp [isName,j]
   have z:Hid (AD (n+1) (.lit (.string s))=none):=by simp [Hid,AD,j]
   clear j;go_enter func122,ntmps122;go_wp2_with fail;refine(aV ok (n+1) _ _ _ g).mono ?_;rintro e u ⟨rfl,a⟩;obtain⟨y,_⟩:=bP a;have c:=h_ a;have d:=a.size;clear a;go_wp2_with fail;go_ret;exact⟨c,.inr ⟨z,rfl⟩⟩
  ·have E:isName (.lit (.string s))=true:=by simp [isName,j]
   have z:Hid (AD (n+1) (.lit (.string s))=some (BN .name s .nil [] [])):=by simp [Hid,AD,j]
   clear j;go_enter func122,ntmps122;go_wp2_with fail;refine(aV ok (n+1) _ _ _ g).mono ?_;rintro e u ⟨rfl,a⟩;obtain⟨y,_⟩:=bP a;have c:=h_ a;have d:=a.size;clear a;go_wp2_with fail;go_ret;exact⟨c.alloc d _,.inl ⟨_,_,z,rfl,1,xQ d rfl rfl⟩⟩
 ·exact absurd r f
theorem oO(n:Nat)(ok:Nat->Prop)(w:World)(v:Value)(h:AJ ok (n+1) w v (.agg [])) :Calls prog 122 #[v] w fun e j=>C5 w (AD (n+1) (.agg [])) e j:=by have k:=h_ h;obtain⟨b,d,q,rfl,r,f,g,l,i,_⟩:=h.list;have m:w.cell? ⟨b,0,none⟩=some (.string ⟨#[108,105,115,116]⟩):=f;obtain⟨s,o,rfl,_⟩:=l;rw [i] at g;simp only [z_] at g;clear f i h;go_enter func122,ntmps122;go_wp2_with fail;refine(aV ok (n+1) _ _ _ k).mono ?_;rintro e t ⟨rfl,a⟩;obtain⟨u,_⟩:=bP a;have c:=h_ a;have p:=a.size;clear a;go_wp2_with fail;go_ret;exact⟨c,.inr ⟨rfl,rfl⟩⟩
theorem wL(n:Nat)(k:Tr)(r:List Tr)(a:Pl.BJ (k::r)=none):AD (n+1) (.agg (k::r))=(Pl.B1 (AD n) (k::r)).map fun l=>BN .call [] .nil l []:=by show(match Pl.BJ (k::r) with | some h=>Pl.IN (AD n) (.agg (k::r)) h r | none=>(Pl.B1 (AD n) (k::r)).map fun l=>BN .call [] .nil l [])=_;rw [a]
theorem d9(n:Nat)(h:List UInt8)(r:List Tr)(a:EE h=true):AD (n+1) (.agg (.lit (.string h)::r))=Pl.IN (AD n) (.agg (.lit (.string h)::r)) h r:=by
 have:Pl.BJ (.lit (.string h)::r)=some h:=by unfold Pl.BJ;simp [a]
 show(match Pl.BJ (.lit (.string h)::r) with | some b=>Pl.IN (AD n) (.agg (.lit (.string h)::r)) b r | none=>(Pl.B1 (AD n) (.lit (.string h)::r)).map fun l=>BN .call [] .nil l [])=_;rw [this]
theorem MN(n:Nat)(T:EL n)(ok:Nat->Prop)(w:World)(v:Value)(k:Tr)(r:List Tr)(h:AJ ok (n+1) w v (.agg (k::r)))(A:∀x∈(k::r),dF n x)(K:Pl.BJ (k::r)=none) :Calls prog 122 #[v] w fun e w'=>C5 w (AD (n+1) (.agg (k::r))) e w':=by
 have U:=h_ (wL n k r K);by_cases D:∃s,k=.lit (.string s)
 ·obtain⟨s,rfl⟩:=D
  have ah:EE s=false:=by
   unfold Pl.BJ at K;by_cases hq:EE s=true
   ·simp [hq] at K
   ·simpa using hq
  clear K;have W:=h_ h;have X:=h_ T;have j:((.lit (.string s))::r).length<=1000:=h.short;simp only [c_] at j;obtain⟨b,g,Y,Z,u0,us,rfl,hb,ck,c3,L,hg,c0,M,q,E,N,t⟩:=h.cons;have HS:=h_ M;have HA:=h_ N;have aa:=h_ t;have HL:=h_ q;obtain⟨V,rfl,ab,l,F⟩:=E.EB;have R0:=h_ E;have G:=h_ A;clear h T A M N t q E;have ac:w.cell? ⟨V,0,none⟩=some (.string ⟨#[110,97,109,101]⟩):=l;have ai:w.cell? ⟨V,2,none⟩=some (.string ⟨s.toArray⟩):=F;clear l F;have e1:isName (.agg ((.lit (.string s))::r))=false:=rfl;have ad:((r.length:Int)+1==0)=false:=by simp;omega
  go_enter func122,ntmps122
  go_wp2_with fail
  refine(aV ok (n+1) _ _ _ W).mono ?_;rintro e w1 ⟨rfl,f⟩;obtain⟨q1,_⟩:=bP f;have p:=h_ f;have u:=f.size;clear f;go_wp2_with fail;refine(aR s _).mono ?_;rintro e w2 ⟨rfl,O⟩;have y:=h_ (p.trans (O.mono u));obtain⟨q2,_⟩:=bP y;have C:=y.size;rw [show EE s=false from by first | assumption | decide];clear O q1 p u;go_wp2_with fail;refine(cI n X _ _ _ ((.lit (.string s))::r) (HS.later y) (HA.later y) (by simpa using j) G).mono ?_;rintro e H ⟨i,m⟩;have o:=h_ (y.trans (i.mono C));have z:=o.size;rcases m with⟨P,Q,fs,d,rfl,a,_,_,R,c⟩ | ⟨d,Q,rfl⟩
  ·have I:Hid (AD (n+1) (.agg ((.lit (.string s))::r))=some (BN .call [] .nil P [])):=U.trans (by rw [d];rfl);have HU:=(show Hid (∀B,B=Obj.cells #[AM (FW .call),AM [],.pointer none,Q,.slice none 0 0,AM [],.int .i64 0,AM []] G3 (0,0)->AX false (R+1) (H.alloc B) w.heap.size (H.alloc B).heap.size (.pointer (some ⟨H.heap.size,0,none⟩)) (BN .call [] .nil P [])) from fun B ho=>fS C i.size a c (by simp) (by show 1<=_;have:=c.1;have:=a.1;simp at this;omega) (by have:=c.1;have:=a.1;simp at this;omega) ho)
   have J:fs.length=((.lit (.string s))::r).length:=by have:=a.1;omega
   obtain⟨ae,S,rfl,_⟩:=bC a;clear i d a c;go_wp2_with fail;go_ret;exact⟨o.alloc z _,.inl ⟨_,_,I,rfl,R+1,HU _ (by rw [J];rfl)⟩⟩
  ·have I:Hid (AD (n+1) (.agg ((.lit (.string s))::r))=none):=U.trans (by rw [d];rfl);clear i d;go_wp2_with fail;go_ret;exact⟨o,.inr ⟨I,rfl⟩⟩
 ·clear K;have W:=h_ h;have X:=h_ T;have j:(k::r).length<=1000:=h.short;simp only [c_] at j;obtain⟨b,g,Y,Z,u0,us,rfl,hb,ck,c3,L,hg,c0,M,q,E,N,t⟩:=h.cons;have HS:=h_ M;have HA:=h_ N;have aa:=h_ t;have HL:=h_ q;obtain⟨V,rfl,ab,l,F⟩:=E.EB;have R0:=h_ E;have G:=h_ A;clear h T A M N t q E
  have af:∃kk:List UInt8,w.cell? ⟨V,0,none⟩=some (.string ⟨kk.toArray⟩)/\(kk==[110,97,109,101])=false:=by
   rcases R0.kinds with⟨_,_,rfl⟩ | ⟨_,rfl⟩ | ⟨s,rfl⟩ | ⟨_,rfl⟩
   ·exact⟨[110,117,109,98,101,114],l,by decide⟩
   ·exact⟨[116,114,117,116,104],l,by decide⟩
   ·exact absurd ⟨s,rfl⟩ D
   ·exact⟨[108,105,115,116],l,by decide⟩
  obtain⟨kk,ac,ag⟩:=af;clear l D;have e1:isName (.agg (k::r))=false:=rfl;have ad:((r.length:Int)+1==0)=false:=by simp;omega
  go_enter func122,ntmps122
  go_wp2_with fail
  refine(aV ok (n+1) _ _ _ W).mono ?_;rintro e w1 ⟨rfl,f⟩;obtain⟨q1,_⟩:=bP f;have p:=h_ f;have u:=f.size;clear f;go_wp2_with fail;refine(cI n X _ _ _ (k::r) (HS.later p) (HA.later p) (by simpa using j) G).mono ?_;rintro e H ⟨i,m⟩;have o:=h_ (p.trans (i.mono u));have z:=o.size;rcases m with⟨P,Q,fs,d,rfl,a,_,_,R,c⟩ | ⟨d,Q,rfl⟩
  ·have I:Hid (AD (n+1) (.agg (k::r))=some (BN .call [] .nil P [])):=U.trans (by rw [d];rfl);have HU:=(show Hid (∀B,B=Obj.cells #[AM (FW .call),AM [],.pointer none,Q,.slice none 0 0,AM [],.int .i64 0,AM []] G3 (0,0)->AX false (R+1) (H.alloc B) w.heap.size (H.alloc B).heap.size (.pointer (some ⟨H.heap.size,0,none⟩)) (BN .call [] .nil P [])) from fun B ho=>fS u i.size a c (by simp) (by show 1<=_;have:=c.1;have:=a.1;simp at this;omega) (by have:=c.1;have:=a.1;simp at this;omega) ho)
   have J:fs.length=(k::r).length:=by have:=a.1;omega
   obtain⟨ae,S,rfl,_⟩:=bC a;clear i d a c;go_wp2_with fail;go_ret;exact⟨o.alloc z _,.inl ⟨_,_,I,rfl,R+1,HU _ (by rw [J];rfl)⟩⟩
  ·have I:Hid (AD (n+1) (.agg (k::r))=none):=U.trans (by rw [d];rfl);clear i d;go_wp2_with fail;go_ret;exact⟨o,.inr ⟨I,rfl⟩⟩
end
end Go.Proofs.YtkgbdddkcjpgfaaGreatDoor
