import Derived.Test.YtbgghmjmcapmlaaGreatDoorF04
namespace Go.Proofs.YtbgghmjmcapmlaaGreatDoor
set_option maxHeartbeats 4000000
set_option maxRecDepth 100000
open Go.Proofs.Tryz
open Pl (PV PF AE FK AD BN EE isName)
theorem zI6{P:Prop}(h:P:=by
 refine(cI n R _ _ S r ((T.tail r.length U _ _ x8 (by intro Z;first | rfl | (exfalso;omega))).later f) (A.later f) x8 B).mono ?_;rintro e C ⟨i,k⟩;have m:=h_ (f.trans (i.mono o));have q:=m.size;rcases k with⟨G,D,Q,d,rfl,a,_,_,H,c⟩ | ⟨d,D,rfl⟩
 ·have s:Hid (AD (n+1) (.agg (.lit (.string [105,102])::r))=some (BN .iff [] .nil G [])):=F.trans (by rw [d,if_pos d9];rfl);have I:Q.length=r.length:=by have:=a.1;omega
  have HU:=(show Hid (∀E,E=Obj.cells #[AM (H5 .iff),AM [],.pointer none,D,.slice none 0 0,AM [],Q1 0,AM []] NE (0,0)->AX false (H+1) (C.alloc E) w.heap.size (C.alloc E).heap.size (Q0 C.heap.size) (BN .iff [] .nil G [])) from fun E ho=>fS o i.size a c w9 (by show _=3;have:=c.1;have:=a.1;simp at j;omega) (by have:=c.1;have:=a.1;omega) ho)
  obtain⟨J,z,rfl,_⟩:=bC a;clear i d a j c;go_wp2_with fail;go_ret;exact⟨m.alloc q _,.inl ⟨_,_,s,rfl,H+1,HU _ (by rw [I];rfl)⟩⟩
 ·have s:Hid (AD (n+1) (.agg (.lit (.string [105,102])::r))=none):=F.trans (by rw [d];simp);clear i d j;go_wp2_with fail;go_ret;exact⟨m,.inr ⟨s,rfl⟩⟩):P:=h
theorem zI7{P:Prop}(h:P:=by
 refine(cI n P _ _ Q r ((S.tail r.length T _ _ x8 zM5).later f) (A.later f) x8 B).mono ?_;rintro e K ⟨j,k⟩;have m:=h_ (f.trans (j.mono p));have u:=m.size;rcases k with⟨M,D,X,d,rfl,a,_,_,N,c⟩ | ⟨d,D,rfl⟩
 ·have y:Hid (AD (n+1) (.agg (.lit (.string [98,101,103,105,110])::r))=none):=C.trans (by rw [if_neg (by simp [i])]);obtain⟨L,z,rfl,_⟩:=bC a;clear j d a i c;go_wp2_with fail;go_ret;exact⟨m,.inr ⟨y,rfl⟩⟩
 ·have y:Hid (AD (n+1) (.agg (.lit (.string [98,101,103,105,110])::r))=none):=C.trans (by rw [d];simp);clear j d i;go_wp2_with fail;go_ret;exact⟨m,.inr ⟨y,rfl⟩⟩):P:=h
theorem zI8{P:Prop}(h:P:=by
 refine(cI n R _ _ S r ((T.tail r.length U _ _ x8 (by intro Z;first | rfl | (exfalso;omega))).later f) (A.later f) x8 B).mono ?_;rintro e C ⟨i,k⟩;have m:=h_ (f.trans (i.mono o));have q:=m.size;rcases k with⟨G,D,Q,d,rfl,a,_,_,H,c⟩ | ⟨d,D,rfl⟩
 ·have s:Hid (AD (n+1) (.agg (.lit (.string [105,102])::r))=none):=F.trans (by rw [if_neg (by simp [j])]);obtain⟨J,z,rfl,_⟩:=bC a;clear i d a j c;go_wp2_with fail;go_ret;exact⟨m,.inr ⟨s,rfl⟩⟩
 ·have s:Hid (AD (n+1) (.agg (.lit (.string [105,102])::r))=none):=F.trans (by rw [d];simp);clear i d j;go_wp2_with fail;go_ret;exact⟨m,.inr ⟨s,rfl⟩⟩):P:=h
theorem zI9{P:Prop}(h:P:=by clear i q h f;go_enter func39,ntmps39;go_wp2_with fail;refine(aV ok (n+1) _ _ _ g).mono ?_;rintro e u ⟨rfl,a⟩;obtain⟨y,_⟩:=bP a;have c:=h_ a;have d:=a.size;clear a;go_wp2_with fail;go_ret;exact⟨c.alloc d _,.inl ⟨_,_,rfl,rfl,1,iZ A g o trivial c d rfl rfl⟩⟩):P:=h
theorem zJ0{P:Prop}(h:P:=by obtain⟨ae,S,rfl,_⟩:=bC a;clear i d a c;go_wp2_with fail;go_ret;exact⟨o.alloc z _,.inl ⟨_,_,I,rfl,R+1,HU _ (by rw [J];rfl)⟩⟩):P:=h
theorem zJ1{P:Prop}(h:P:=by go_wp2_with fail;go_ret;exact⟨r,.inr ⟨E,rfl⟩⟩):P:=h
theorem zJ2{P:Prop}(h:P:=by go_wp2_with fail;go_ret;exact⟨d,.inr ⟨Q,rfl⟩⟩):P:=h
section
open Go.RowKit
variable {w w' wr w3 w2:World} {lo hi n m b a base mid k:Nat} {us:List Value} {u v dv kv sv:Value} {o2:Obj} {q:Bool} {f x:PF} {ks fs gs:List PF} {ok:Q5} {nm:AE}
def CA(R:Nat->Nat->Value->PF->Prop)(lo hi:Nat)(us:List Value)(ks:List PF):Prop :=
 us.length=ks.length/\∃cs:List (Nat×Nat),cs.length=ks.length/\(∀(i:Nat)(p:Nat×Nat)(u:Value)(x:PF),cs[i]?=some p->us[i]?=some u->ks[i]?=some x->lo<=p.1/\p.2<=hi/\R p.1 p.2 u x) /\
  ∀(i j:Nat)(p q:Nat×Nat),i<j->cs[i]?=some p->cs[j]?=some q->p.2<=q.1
theorem CA.nil(R:Nat->Nat->Value->PF->Prop)(lo hi:Nat):CA R lo hi [] []:=⟨rfl,[],rfl,fun i p u x h=>by simp at h,fun i j p q _ h=>by simp at h⟩
theorem CA.mono{R Q:Nat->Nat->Value->PF->Prop}{lo' hi':Nat}(h:CA R lo hi us ks)(r:lo'<=lo)(s:hi<=hi')(c:∀a b u x,lo<=a->b<=hi->R a b u x->Q a b u x):CA Q lo' hi' us ks:=by obtain⟨d,e,f,g,j⟩:=h;refine⟨d,e,f,fun i p u x k l m=>?_,j⟩;obtain⟨n,o,q⟩:=g i p u x k l m;exact⟨x8,x8,c _ _ _ _ n o q⟩
theorem CA.snoc{R:Nat->Nat->Value->PF->Prop}(h:CA R lo mid us ks)(r:lo<=mid)(D:mid<=hi)(s:R mid hi u x):CA R lo hi (us++[u]) (ks++[x]):=by
 obtain⟨m,f,n,o,t⟩:=h;refine⟨by simp [m],f++[(mid,hi)],by simp [n],fun i p v y a b c=>?_,fun i j p q g a d=>?_⟩
 ·by_cases w:i<ks.length
  ·rw [List.getElem?_append_left x8] at a b c;obtain⟨z,E,A⟩:=o i p v y a b c;exact⟨z,x8,A⟩
  ·have k:=(s_ c).1;have e:i=ks.length:=by simp at k;omega
   subst e;rw [<- n] at a;rw [<- m] at b;simp at a b c;subst a b c;exact⟨r,n_,s⟩
 ·have l:=(s_ d).1;simp only [a_,c_,z_] at l;rw [List.getElem?_append_left x8] at a;by_cases B:j<f.length
  ·rw [List.getElem?_append_left B] at d;exact t i j p q g a d
  ·have e:j=f.length:=by omega
   subst e;simp at d;subst d;have C:=(s_ a).1;exact(o i p _ _ a (g_ x8) (g_ x8)).2.1
theorem CA.cons{R:Nat->Nat->Value->PF->Prop}(h:CA R mid hi us ks)(w:lo<=mid)(f:mid<=hi)(g:R lo mid u x):CA R lo hi (u::us) (x::ks):=by
 obtain⟨k,l,m,e,n⟩:=h;refine⟨by simp [k],(lo,mid)::l,by simp [m],fun i p v y a b c=>?_,fun i j p q o a d=>?_⟩
 ·cases i with
  | zero=>simp at a b c;subst a b c;exact⟨n_,f,g⟩
  | succ i =>simp at a b c;obtain⟨z,r,s⟩:=e i p v y a b c;exact⟨x8,r,s⟩
 ·cases j with
  | zero=>omega
  | succ j =>
   simp at d
   cases i with
   | zero =>simp at a;subst a;have t:=(s_ d).1;exact(e j q _ _ d (g_ x8) (g_ x8)).1
   | succ i =>simp at a;exact n i j p q x8 a d
def fI(lo hi:Nat)(v:Value):Prop:=∀g,v.ownBlock=some g->lo<=g/\g<hi
theorem fI.wide{lo' hi':Nat}(h:fI lo hi v)(b:lo'<=lo)(c:hi<=hi'):fI lo' hi' v:=fun g a=>by have:=h g a;omega
theorem fI.none(lo hi:Nat):fI lo hi (.slice none 0 0):=fun g a=>by simp [Value.ownBlock] at a
def dF:Nat->Tr->Prop
 | 0,_=>True
 | n+1,t=>match t with
  | .lit (.int _ m)=>gW m
  | .lit (.string s)=>s.length<=300
  | .agg ts=>ts.length<=900/\∀x∈ts,dF n x
  | _=>True
theorem dF.CG:∀(n:Nat)(t:Tr),dF n t->cL n t
 | 0,_,_=>trivial
 | n+1,t,h=>by
  cases t with
  | agg b=>exact fun x a=>dF.CG n x (h.2 x a)
  | lit x=>cases x<;>first | trivial | exact h
  | _=>trivial
theorem pE:∀(n m:Nat)(v:Value)(t:Tr),AJ ok n w v t->dF n t->dF m t
 | 0,_,_,_,h,_=>h.elim
 | _+1,0,_,_,_,_=>trivial
 | n+1,m+1,v,t,h,a=>by
  cases t with
  | agg g =>refine⟨a.1,fun x c=>?_⟩;obtain⟨b,_,_,d,e,_,_,j,k,_⟩:=h;obtain⟨i,f⟩:=List.mem_iff_getElem?.1 c;have l:e.length=g.length:=j.1.trans (Nat.mul_one _);have o:=(s_ f).1;exact pE n m _ x (k i e[i] x (g_ x8) f) (a.2 x c)
  | lit x=>cases x<;>first | trivial | exact a
  | _=>trivial
def uG:Tr->Prop
 | .agg ts=>ts.length=2
 | _=>True
def valOk(q:Bool)(k:FK)(pv:PV)(c0 c1 c2:Value):Prop:=if q then(k=.const->[c0,c1,c2]=cZ pv) else(c0=AM []/\c1=.int .i64 0/\c2=AM [])
def AX(q:Bool):Nat->World->Nat->Nat->Value->PF->Prop
 | 0,_,_,_,_,_=>False
 | n+1,w,lo,hi,v,.mk k nm d pv ks ns=>∃b dv kv nv c0 c1 c2 us,v=(Q0 b)/\lo<=b/\b<hi /\
   w.heap[b]?=some (.cells #[AM (H5 k),AM nm,dv,kv,nv,c0,c1,c2] NE (0,0))/\valOk q k pv c0 c1 c2 /\
   w.ownsRow 0 LN 1 kv ks.length us/\CA (AX q n w) lo b us ks /\
   w.ownsRow 0 TS 1 nv ns.length (ns.map AM)/\(k=.const->∃m,m<=1000/\AJ (fun _=>True) m w dv d/\cL m d/\uG d)/\shape k ks.length/\ks.length<=1000/\ns.length<=1000/\fI lo hi kv/\fI lo hi nv
def exT(e:TypeId):Prop:=e=NE\/e=LN\/e=TS
def E1(lo hi:Nat)(w w':World):Prop:=∀(k:Nat)(cur:Array Value)(e:TypeId),RH e->(exT e->k<lo\/hi<=k)->w.heap[k]?=some (.cells cur e (0,0))->w'.heap[k]?=some (.cells cur e (0,0))
theorem E1.AA(h:Q3 w w'):E1 lo hi w w':=fun k _ _ _ _ a=>(h.block k (aB a)).trans a
theorem E1.ME(h:E1 lo hi w w'):CU (fun _=>True) w w':=fun k a e _ b c=>h k a e (b.elim .inl (fun x=>.inr (.inl x))) (fun x=>by rcases b with rfl | rfl<;>rcases x with x | x | x<;>exact absurd x w8) c
theorem f8{xs:List Value}{T:TypeId}(i:E1 lo hi w w')(j:RH T)(e:fI a b v)(m:b<=lo\/hi<=a)(h:w.ownsRow 0 T 1 v n xs):w'.ownsRow 0 T 1 v n xs:=by
 refine⟨h.1,?_⟩;rcases h.2 with e | ⟨g,f,c,rfl,k,l,d⟩
 ·exact .inl e
 ·exact .inr ⟨g,f,c,rfl,k,i g c T j (fun _=>by have:=e g rfl;omega) l,d⟩
theorem AX.keep(g:E1 lo hi w w'):∀(n:Nat)(a b:Nat)(v:Value)(f:PF),(b<=lo\/hi<=a)->AX q n w a b v f->AX q n w' a b v f
 | 0,_,_,_,_,_,h=>h
 | n+1,a,b,v,.mk k P d Q R S,l,h=>by
  obtain⟨x,r,s,t,z,A,B,C,D,E,F,G,H,I,J,K,L,M,N,o,i,j⟩:=h
  exact⟨x,r,s,t,z,A,B,C,D,E,F,g x _ _ (.inr (.inr (.inl rfl))) (fun _=>by rcases l with h | h<;>omega) G,H,f8 g (.inr (.inr (.inr (.inl rfl)))) i l I,
   J.mono n_ n_ (fun c d u y T U O=>AX.keep g n c d u y (by rcases l with h | h<;>omega) O),f8 g (.inr (.inr (.inr (.inr (.inl rfl))))) j l K,fun e=>(L e).elim fun m p=>⟨m,p.1,AJ.keep g.ME _ _ _ p.2.1,p.2.2⟩,M,N,o,i,j⟩
theorem AX.later(h:AX q n w a b v f)(c:Q3 w w'):AX q n w' a b v f:=AX.keep (E1.AA (lo:=a) (hi:=a) c) n a b v f (.inr n_) h
theorem AX.up:∀(n m:Nat)(a b:Nat)(v:Value)(f:PF),n<=m->AX q n w a b v f->AX q m w a b v f
 | 0,_,_,_,_,_,_,h=>h.elim
 | _+1,0,_,_,_,_,e,_=>by omega
 | n+1,m+1,a,b,v,.mk k G d H I J,e,h=>by obtain⟨x,g,i,j,l,o,p,r,s,t,z,A,B,C,D,E⟩:=h;exact⟨x,g,i,j,l,o,p,r,s,t,z,A,B,C,D.mono n_ n_ (fun c d u y _ _ F=>AX.up n m c d u y x8 F),E⟩
theorem AX.wide{a' b':Nat}(c:a'<=a)(j:b<=b')(h:AX q n w a b v f):AX q n w a' b' v f:=by
 match n,f,h with
 | n+1,.mk k G d H I J,h =>obtain⟨x,l,m,o,p,r,s,t,u,K,L,y,z,A,B,C,D,E,F,e,g,i⟩:=h;exact⟨x,l,m,o,p,r,s,t,u,x8,x8,y,z,A,B.mono c n_ (fun _ _ _ _ _ _ k=>k),C,D,E,F,e,g.wide c j,i.wide c j⟩
theorem AX.settled:∀(n:Nat)(a b:Nat)(v:Value)(f:PF),AX true n w a b v f->LT n w v f
 | 0,_,_,_,_,h=>h.elim
 | n+1,a,b,v,.mk k J d K L M,h=>by obtain⟨x,o,p,q,r,s,t,z,A,N,O,B,C,D,⟨P,Q,R,E,_⟩,F,G,c,g,j,_⟩:=h;refine⟨x,o,p,q,r,s,t,z,A,B,D,fun i u y H l=>?_,F,fun e=>⟨C e,(G e).elim fun m I=>⟨m,I.2.1⟩⟩,c,g,j⟩;have S:=(s_ l).1;exact AX.settled n _ _ u y (E i _ u y (g_ x8) H l).2.2
theorem AX.ptr(h:AX q n w a b v f):∃x,v=(Q0 x):=by
 match n,f,h with
 | n+1,.mk k e d g i j,⟨x,_,_,_,_,_,_,_,c,_⟩=>exact⟨x,c⟩
def C5(w:World)(o:Option PF)(e:Ending)(w':World):Prop :=Q3 w w'/\((∃f b,o=some f/\e=.returned (Q0 b)/\∃m,AX false m w' w.heap.size w'.heap.size (Q0 b) f)\/(o=none/\e=.returned (.pointer none)))
def EL(n:Nat):Prop:=∀(ok:Q5)(w:World)(v:Value)(t:Tr),AJ ok n w v t->dF n t->Q2 39 #[v] w fun e w'=>C5 w (AD n t) e w'
def ZT(w:World)(o:Option (List PF))(len:Nat)(e:Ending)(w':World):Prop :=Q3 w w'/\((∃fs v us,o=some fs/\e=.returned (.tuple #[v,.bool true])/\w'.ownsRow w.heap.size TF 1 v len us/\(len=0->v=.slice none 0 0)/\(∀u∈us,u.oneCell'=true)/\∃m,CA (AX false m w') w.heap.size w'.heap.size us fs)\/(o=none/\∃v,e=.returned (.tuple #[v,.bool false])))
def ZS(n:Nat):Prop:=∀(w:World)(v:Value)(vs:List Value)(ts:List Tr),DB w v vs->QE n w vs ts->ts.length<=1000->(∀x∈ts,dF n x)->Q2 53 #[v] w fun e w'=>ZT w (Pl.B1 (AD n) ts) ts.length e w'
theorem AX.leaf{k:FK}{d:Tr}(a:lo<=b)(c:b<hi)(e:w.heap[b]?=some (.cells #[AM (H5 k),AM nm,dv,.slice none 0 0,.slice none 0 0,AM [],Q1 0,AM []] NE (0,0)))(f:k=.const->∃m,m<=1000/\AJ (fun _=>True) m w dv d/\cL m d/\uG d)(g:shape k 0):AX false 1 w lo hi (Q0 b) (BN k nm d [] []) :=⟨b,dv,_,_,_,_,_,[],rfl,a,c,e,⟨rfl,rfl,rfl⟩,World.ownsRow_nil _ _ _ _,CA.nil _ _ _,World.ownsRow_nil _ _ _ _,f,g,w9,w9,fI.none _ _,fI.none _ _⟩
theorem AX.node{k:FK}{nv:Value}{ns:List AE}(a:lo<=b)(c:b<hi)(h:w.heap[b]?=some (.cells #[AM (H5 k),AM nm,dv,kv,nv,AM [],Q1 0,AM []] NE (0,0)))(i:w.ownsRow 0 LN 1 kv ks.length us)(j:CA (AX false n w) lo b us ks)(l:w.ownsRow 0 TS 1 nv ns.length (ns.map AM))(m:k≠.const)(o:shape k ks.length)(p:ks.length<=1000)(d:ns.length<=1000)(f:fI lo hi kv)(g:fI lo hi nv):AX false (n+1) w lo hi (Q0 b) (BN k nm .nil ks ns) :=⟨b,dv,kv,nv,_,_,_,us,rfl,a,c,h,⟨rfl,rfl,rfl⟩,i,j,l,fun e=>absurd e m,o,p,d,f,g⟩
theorem AX.many{k:FK}(b:wr.ownsRow base LN 1 kv fs.length us)(i:lo<=base)(t:lo<=wr.heap.size)(j:CA (AX false m wr) lo wr.heap.size us fs)(l:k≠.const)(n:shape k fs.length)(o:fs.length<=1000)
  (p:o2=.cells #[AM (H5 k),AM [],dv,kv,.slice none 0 0,AM [],Q1 0,AM []] NE (0,0)) (q:w=wr.alloc o2) :
  AX false (m+1) w lo w.heap.size (Q0 wr.heap.size) (BN k [] .nil fs []):=by
 subst q;have r:(wr.alloc o2).heap.size=wr.heap.size+1:=by simp
 have d:Q3 wr (wr.alloc o2):=b_;refine AX.node x8 x8 (by rw [<- p];exact heap_alloc_new _ _) ⟨b.1,(b.alloc _).2.imp id (fun⟨g,e,f,a,_,c⟩=>⟨g,e,f,a,Nat.zero_le _,c⟩)⟩ (j.mono n_ n_ (fun _ _ _ _ _ _ h=>h.later d)) (World.ownsRow_nil _ _ _ _) l n o w9 (fun g s=>?_) (fI.none _ _);have:=b.lt g s;omega
theorem oG{f:Tr->Option PF}:∀{l:List Tr} {r:List PF} {x:Tr} {a:PF},Pl.B1 f l=some r->f x=some a->Pl.B1 f (l++[x])=some (r++[a])
 | [],r,x,a,h,c=>by obtain rfl:=i_ h;simp [Pl.B1,c]
 | y::l,r,x,a,h,c=>by
  unfold Pl.B1 at h
  cases d:f y with
  | none=>rw [d] at h;simp at h
  | some b =>rw [d] at h;simp only [Option.bind_some,Option.map_eq_some_iff] at h;obtain⟨q,e,rfl⟩:=h;have g:=oG (x:=x) e c;simp only [List.cons_append];unfold Pl.B1;rw [d,g];rfl
theorem wV{f:Tr->Option PF}{l:List Tr}{x:Tr}(a:l[k]?=some x)(b:f x=none):Pl.B1 f l=none:=by have:=Pl.II f l;rw [show(l.all fun x=>(f x).isSome)=false from by rw [List.all_eq_false];exact⟨x,q_ a,by simp [b]⟩] at this;simpa using this
theorem wU{f:Tr->Option PF}{l:List Tr}{x:Tr}{r:List PF}{a:PF}(h:Pl.B1 f (l.take k)=some r)(b:l[k]?=some x)(c:f x=some a):Pl.B1 f (l.take (k+1))=some (r++[a]):=by rw [List.take_add_one,b];exact oG h c
def ID(m:Nat)(wr:World)(lo:Nat)(sv:Value)(us:List Value)(fs:List PF):Prop:=CA (fun a b u x=>AX false m wr a b u x/\∀g,sv.ownBlock=some g->g<a\/b<=g) lo wr.heap.size us fs
theorem ID.start(w:World)(lo:Nat):Hid (ID 0 w lo (.slice none 0 0) [] []):=(CA.nil _ _ _:ID 0 w lo (.slice none 0 0) [] [])
theorem AX.Z6{T:TypeId}{o:Obj}(l:w2.ownsRow base T 1 sv n us)(p:exT T)(q:(w2.alloc o).grownBy w3 sv.ownBlock)(r:∀g,sv.ownBlock=some g->g<a\/b<=g)(h:AX false m w2 a b u x):AX false m w3 a b u x:=by
 have c:∀i,i<w2.heap.size->sv.ownBlock≠some i->w3.heap[i]?=w2.heap[i]? := fun i s t=>by rw [q.block i r7 (fun e=>t e.symm),Below.heap_alloc w2 o i s]
 cases f:sv.ownBlock with
 | none=>exact AX.keep (lo:=a) (hi:=a) (fun i j e _ _ d=>(c i (aB d) (by rw [f];simp)).trans d) m a b u x (.inr n_) h
 | some g =>
  refine AX.keep (lo:=g) (hi:=g+1) (fun i j e _ v d=>?_) m a b u x (by have:=r g f;omega) h;by_cases w:i=g
  ·subst w;obtain⟨k,y⟩:=aN l i f;obtain⟨_,rfl⟩:=aK d y;have:=v p;omega
  ·exact(c i (aB d) (by rw [f];simp;omega)).trans d
theorem ID.push{m2:Nat}{o:Obj}{g' cap':Nat}(h:ID m wr w.heap.size sv us fs)(s:w.heap.size<=wr.heap.size)(n:Q3 wr w2)(t:AX false m2 w2 wr.heap.size w2.heap.size u f)
  (p:w2.ownsRow w.heap.size TF 1 sv k us) (d:∀g,sv.ownBlock=some g->g<wr.heap.size) (j:(w2.alloc o).grownBy w3 sv.ownBlock) (i:sv.ownBlock=some g'\/g'=w2.heap.size+1):ID (m+m2) w3 w.heap.size (.slice (some ⟨g',0,none⟩) (k+1) cap') (us++[u]) (fs++[f]):=by
 have l:=n.size;have v:w2.heap.size+1<=w3.heap.size:=by have:=j.size;simpa using this
 have q:exT TF:=.inr (.inl rfl)
 have y:CA (fun a b u x=>AX false (m+m2) w3 a b u x/\∀g,(Value.slice (some ⟨g',0,none⟩) (k+1) cap').ownBlock=some g->g<a\/b<=g) w.heap.size wr.heap.size us fs :=
  h.mono n_ n_ (fun a b u x _ z ⟨A,r⟩=>⟨(AX.up _ _ _ _ _ _ x8 (A.later n)).Z6 p q j r,fun g c=>by
   simp only [Value.ownBlock,o_] at c;subst c;rcases i with e | e
   ·exact r _ e
   ·right;omega⟩)
 refine(y.snoc (hi:=w2.heap.size) s l ⟨(AX.up _ _ _ _ _ _ x8 t).Z6 p q j (fun g c=>.inl (d g c)),fun g c=>?_⟩).mono n_ x8 (fun _ _ _ _ _ _ k=>k);simp only [Value.ownBlock,o_] at c;subst c;rcases i with e | e
 ·exact .inl (d _ e)
 ·right;omega
theorem ID.plain(h:ID m wr lo sv us fs):CA (AX false m wr) lo wr.heap.size us fs:=h.mono n_ n_ (fun _ _ _ _ _ _ k=>k.1)
theorem cI(n:Nat)(hF:EL n):ZS n:=by
 intro w v vs d hS hA af I;have R:=h_ I;clear I;obtain⟨i0,S,T,U,V⟩:=info_parts Tryz.TY;obtain⟨ao,ah,rfl,J,l⟩:=hS;obtain⟨B,ok,a⟩:=hA;rw [B] at J ⊢;have HV:=h_ B;clear B;have HC:=h_ l;have W:=h_ a;have X:=h_ hF;clear l a hF;go_enter func53,ntmps53;go_wp2_with fail
 go_loopw [4,5] (fun Y i wr=>∃(k:Nat)(s:List Value)(E:List PF)(m:Nat),k<=d.length/\i=.int .i64 k/\Hid (wr.ownsRow w.heap.size TF 1 Y k s)/\Hid (Q3 w wr)/\Hid (Pl.B1 (AD n) (d.take k)=some E)/\Hid (k=0->Y=.slice none 0 0)/\Hid (∀u∈s,u.oneCell'=true)/\Hid (ID m wr w.heap.size Y s E)) (fun _ i _=>d.length-(intOf i).toNat)
 case atStart=>exact⟨0,[],[],0,Nat.zero_le _,rfl,World.ownsRow_nil _ _ _ _,r_,rfl,fun _=>rfl,(fun u C=>by simp at C),ID.start _ _⟩
 case round =>
  obtain⟨k,s,E,m,hk,rfl,K,A,Q,HZ,HU,Z⟩:=hrel;by_cases aa:k<d.length
  ·obtain⟨u,C⟩:∃u,vs[k]?=some u:=⟨vs[k]' zL7,g_ zL7⟩
   obtain⟨x,F⟩:∃x,d[k]?=some x:=⟨d[k],g_ aa⟩
   obtain⟨g,L,rfl,hg,hc⟩:=HC.out k u C;have M:wr.cell? ⟨g,L+k,none⟩=some u:=(A.cell (p:=⟨g,L+k,none⟩) hg).trans hc;have t:AJ ok n wr u x:=AJ.keep (CU.AA A) _ _ _ (W k u x C F);have ag:(k:Int)<(d.length:Int):=by omega
   clear hc C;have HX:=h_ F;clear F;obtain⟨bu,rfl⟩:=t.ptr;have HR:=h_ t;clear t;go_wp2_with fail;refine(X ok _ _ x HR (R x (q_ HX))).mono ?_;rintro e G ⟨c,⟨f,bf,t,rfl,m2,a⟩ | ⟨t,rfl⟩⟩
   ·have y:=h_ (A.trans (c.mono A.size));have q:Hid (G.ownsRow w.heap.size TF 1 u4 k s):=K.kept (aQ none c) (by cases hv:Value.ownBlock u4<;>simp);have ab:=h_ (wU Q HX t);have ac:Hid (∀(N:World)(o:Obj)(O r:Nat),(G.alloc o).grownBy N u4.ownBlock->(u4.ownBlock=some O\/O=G.heap.size+1)->ID (m+m2) N w.heap.size (.slice (some ⟨O,0,none⟩) (k+1) r) (s++[Q0 bf]) (E++[f])):=fun N o O r H h2 =>Z.push A.size c a q (fun g hg=>(K.lt g hg).2) H h2;have ad:w.heap.size<=G.heap.size:=y.size;clear c t K Q M a Z;go_wp2_with (first | (at_builtin;refine wpList_append_lies _ rfl _ _ 126 rfl w.heap.size 38 i0 (.pointer none) 1 8 underlying126 S T U V rfl w8 u4 k s rfl (q.alloc _) ⟨G.heap.size,0,none⟩ 1 1 [Q0 bf] rfl rfl (cell_one_new _ _ _) (fun x F=>by simp at F;subst F;rfl) w8 o6 x8 r7 (G.heap.size+1) w9 ?_;intro O r N D b P _))
    go_roundw
    case rel =>
     refine⟨k+1,_,_,_,x8,k7,D,?_,ab,fun h=>by omega,?_,ac N _ _ _ b P⟩
     ·exact(y.alloc ad _).grown b r7 (fun j hj=>(q.lt j hj).1)
     ·intro u C;rcases List.mem_append.1 C with H | H
      ·exact HU.out u H
      ·simp at H;subst H;rfl
    case measure=>simp [intOf];omega
   ·have HE:=h_ (wV HX t);have y:=h_ (A.trans (c.mono A.size));clear c t K Q M;go_wp2_with fail;go_ret2;exact⟨y,.inr ⟨HE,_,rfl⟩⟩
  ·have z:k=d.length:=by omega
   have HE:Hid (Pl.B1 (AD n) d=some E):=by have:=Q.out;rw [z,List.take_length] at this;exact this
   have q:Hid (wr.ownsRow w.heap.size TF 1 u4 d.length s):=by have:=K.out;rw [z] at this;exact this
   have ae:Hid (d.length=0->u4=.slice none 0 0):=by have:=HZ.out;rw [z] at this;exact this
   clear z;go_wp2_with fail;go_ret2;exact⟨A,.inl ⟨E,_,s,HE,rfl,q,ae,HU,m,Z.plain⟩⟩
theorem CA.one{R:Nat->Nat->Value->PF->Prop}(h:R a b u x)(f:lo<=a)(g:b<=hi):CA R lo hi [u] [x] :=
 ⟨rfl,[(a,b)],rfl,fun i p v y c d e=>by
  cases i with
  | zero=>simp at c d e;subst c d e;exact⟨f,g,h⟩
  | succ i=>simp at c,fun i j p q k c l=>by
  cases j with
  | zero=>omega
  | succ j=>simp at l⟩
theorem kM(w:World)(a b:Obj):((w.alloc a).alloc b).heap[w.heap.size+1]?=some b:=by have:=heap_alloc_new (w.alloc a) b;rw [show(w.alloc a).heap.size=w.heap.size+1 from by simp] at this;exact this
theorem qD{e:TypeId}{vs:List Value}(h:w.ownsRow base e 1 v n vs):w.ownsRow 0 e 1 v n vs:=⟨h.1,h.2.imp id (fun⟨g,b,d,a,_,c⟩=>⟨g,b,d,a,Nat.zero_le _,c⟩)⟩
theorem AX.single{k:FK}{nv:Value}{ns:List AE}(e:lo<=mid)(b:mid<=wr.heap.size)(h:AX false m wr lo mid u f)(c:k=.set\/k=.define\/k=.lambda)
  (i:o2=.cells #[AM (H5 k),AM nm,dv,.slice (some ⟨wr.heap.size,0,none⟩) 1 1,nv,AM [],Q1 0,AM []] NE (0,0)) (d:wr.ownsRow mid TS 1 nv ns.length (ns.map AM)) (j:ns.length<=1000) (l:w=(wr.alloc (.cells #[u] LN)).alloc o2) :
  AX false (m+1) w lo w.heap.size (Q0 (wr.heap.size+1)) (BN k nm .nil [f] ns):=by
 subst l i;have n:((wr.alloc (.cells #[u] LN)).alloc (.cells #[AM (H5 k),AM nm,dv,.slice (some ⟨wr.heap.size,0,none⟩) 1 1,nv,AM [],Q1 0,AM []] NE (0,0))).heap.size=wr.heap.size+2:=by simp
 have o:Q3 wr ((wr.alloc (.cells #[u] LN)).alloc (.cells #[AM (H5 k),AM nm,dv,.slice (some ⟨wr.heap.size,0,none⟩) 1 1,nv,AM [],Q1 0,AM []] NE (0,0))):=b_.alloc w9 _;refine AX.node x8 x8 (kM _ _ _) (qD ((lZ wr LN u).alloc _)) (CA.one (h.later o) n_ x8) (qD ((d.alloc _).alloc _)) (by rcases c with rfl | rfl | rfl<;>simp) (by rcases c with rfl | rfl | rfl<;>rfl) w9 j (fun g a=>?_) (fun g a=>?_)
 ·simp [Value.ownBlock] at a;omega
 ·have:=d.lt g a;omega
theorem iY(n:Nat)(V:EL n)(i:FK)(u:i=.set\/i=.define)(ok:Q5)(w:World)(v:Value)(r:List Tr)(h:AJ ok (n+1) w v (.agg (.lit (.string (H5 i))::r)))(y:∀x∈r,dF n x) :Q2 38 #[v] w fun e w'=>C5 w (Pl.E6 i (AD n) r) e w':=by
 have HF:=h_ V;have G:=h_ y;clear y;have H:=h_ u;clear u;clear V;obtain⟨b,W,X,rfl,hb,c0,I,J,D,z⟩:=h.list;clear h;by_cases K:r.length=2
 ·obtain⟨k,m,rfl⟩:∃k m,r=[k,m]:=by
   match r,K with
   | [a,b],_=>exact⟨a,b,rfl⟩
  obtain⟨L,E,F,rfl⟩:∃L E F,X=[L,E,F]:=by
   match X,D with
   | [a,b,c],_=>exact⟨a,b,c,rfl⟩
  obtain⟨g,aa,M,rfl,A,hg,k0,N⟩:=J.cell0;have k1:=N 0 E rfl;have k2:=N 1 F rfl;simp only [Nat.zero_add] at k1 k2;have Y:=z 0 L (.lit (.string (H5 i))) rfl rfl;have O:=z 1 E k rfl rfl;have P:=z 2 F m rfl rfl;obtain⟨b0,rfl,ab,_,s0⟩:=Y.EB;obtain⟨b1,rfl,ac,_,s1⟩:=O.EB;obtain⟨b2,rfl⟩:=P.ptr;have R1:=h_ O;have R2:=h_ P;clear z N J D Y O P K;simp only [c_,z_,Nat.zero_add] at I A;have ad:((3:Int)!=3)=false:=by decide
  go_enter func38,ntmps38
  go_wp2_with fail
  refine(aV ok n _ _ k R1).mono ?_;rintro e w1 ⟨rfl,o⟩;obtain⟨q1,_⟩:=bP o;have l:=h_ o;clear o;go_wp2_with fail;refine(HF ok _ _ m (R2.later l) (G m w9)).mono ?_;rintro e w2 ⟨p,q⟩;have d:=h_ (l.trans (p.mono l.size));obtain⟨q2,_⟩:=bP d;have B:=p.size;clear q1 p;rcases q with⟨f,bf,t,rfl,m2,j⟩ | ⟨t,rfl⟩
  ·by_cases Q:isName k=true
   ·have s:Hid (Pl.E6 i (AD n) [k,m]=some (BN i (Pl.strOf k) .nil [f] [])):=by simp [Hid,Pl.E6,Q,t]
    have R:=h_ j;have Z:=l.size;have C:=h_ B;have q3:=U3 d;have S:=d.size;clear t j;go_wp2_with fail
    go_region
    go_wp2_with fail
    go_ret;exact⟨((d.alloc S _).alloc r7 _).drew,.inl ⟨_,_,s,rfl,m2+1,(AX.wide x8 n_ (AX.single (nv:=.slice none 0 0) (dv:=.pointer none) C n_ R (H.imp id .inl) rfl (World.ownsRow_nil _ _ _ _) w9 rfl)).later r_.drew⟩⟩
   ·have T:isName k=false:=by simpa using Q
    have s:Hid (Pl.E6 i (AD n) [k,m]=none):=by simp [Hid,Pl.E6,T]
    clear t Q j;go_wp2_with fail;go_ret;exact⟨d,.inr ⟨s,rfl⟩⟩
  ·have s:Hid (Pl.E6 i (AD n) [k,m]=none):=by simp [Hid,Pl.E6,t]
   clear t;go_wp2_with fail
   all_goals
    go_ret;exact⟨d,.inr ⟨s,rfl⟩⟩
 ·have s:Hid (Pl.E6 i (AD n) r=none):=by
   show Pl.E6 _ _ _=none;unfold Pl.E6;split
   ·simp at K
   ·rfl
  obtain⟨ao,M,rfl,_⟩:=J;rw [D] at I;have U:(((.lit (.string (H5 i))::r:List Tr).length:Int)!=3)=true:=by simp;omega
  simp only [c_] at I U;clear D z;go_enter func38,ntmps38;go_wp2_with fail;go_ret;exact⟨r_,.inr ⟨s,rfl⟩⟩
theorem mT(n:Nat)(hF:EL n)(ok ok':Q5)(w:World)(nv bv:Value)(ns bd:Tr)(h:AJ ok n w nv ns)(H:AJ ok' n w bv bd)(aa:dF n bd) :Q2 54 #[nv,bv] w fun e w'=>C5 w (Pl.EA (AD n) ns bd) e w':=by
 obtain⟨i0,ab,ac,ad,ae⟩:=info_parts Tryz.QN;have HF:=h_ hF;have U:=h_ h;obtain⟨b,rfl,hb,P,_⟩:=h.EB;obtain⟨bb,rfl⟩:=H.ptr;have af:=h_ H;clear hF h H;go_enter func54,ntmps54;go_wp2_with fail;refine(HF ok' _ _ bd af aa).mono ?_;rintro e B ⟨I,t⟩;obtain⟨q1,_⟩:=bP I;have d:=h_ I;clear I;by_cases C:∃a,ns=.agg a
 ·obtain⟨a,rfl⟩:=C;have V:=U.short
  obtain⟨m,rfl⟩:∃m,n=m+1:=by
   cases n with
   | zero=>exact U.elim
   | succ m=>exact⟨m,rfl⟩
  have ag:w.cell? ⟨b,0,none⟩=some (.string ⟨#[108,105,115,116]⟩):=P;clear P;rcases t with⟨f,bf,D,rfl,m2,o⟩ | ⟨D,rfl⟩
  ·obtain⟨b',ax,vs,e,_,_,c3,hS,J,hA⟩:=U.list;simp only [Value.pointer.injEq,o_,Addr.mk.injEq,and_true] at e;subst e;obtain⟨ao,be,rfl,W,v⟩:=hS;rw [J] at c3 W;have HV:=h_ J;have HC:=h_ v;have HA:=h_ hA;have Q:=h_ D;have ah:=h_ o;have bg:=d.size;clear J v hA D o;go_wp2_with fail
   go_loopw [6,7] (fun lv i wr=>∃(k:Nat) (q:Q6),k<=a.length/\i=.int .i64 k/\Hid (wr.ownsRow B.heap.size 9 1 lv k (q.map eB))/\Hid (Q3 B wr)/\Hid (Seen a k q)) (fun _ i _=>a.length-(intOf i).toNat)
   case atStart=>exact⟨0,[],Nat.zero_le _,rfl,World.ownsRow_nil _ _ _ _,r_,Seen.start _⟩
   case round =>
    obtain⟨k,q,hk,rfl,X,A,HS⟩:=hrel;have R:=h_ (d.trans (A.mono d.size));clear q1;obtain⟨q1,_⟩:=bP R;by_cases ai:k<a.length
    ·obtain⟨u,hu⟩:∃u,vs[k]?=some u:=⟨vs[k]' zL7,g_ zL7⟩
     obtain⟨x,S⟩:∃x,a[k]?=some x:=⟨a[k],g_ ai⟩
     obtain⟨g,bh,rfl,hg,hc⟩:=HC.out k u hu;have hr:=HA.out k u x hu S;have HX:=h_ S;clear hu S;obtain⟨bu,rfl,bi,_,cs⟩:=hr.EB;have HR:=h_ (hr.later R);clear hr;have ay:(k:Int)<(a.length:Int):=by omega
     go_wp2_with fail
     refine(aV ok m _ _ x HR).mono ?_;rintro e K ⟨rfl,E⟩;have l:=h_ (R.trans (E.mono R.size));obtain⟨q2,_⟩:=bP l;have c:=h_ (A.trans (E.mono A.size));have F:Hid (K.ownsRow B.heap.size 9 1 u6 k (q.map eB)):=X.kept (aQ none E) (by cases hv:Value.ownBlock u6<;>simp);have aj:B.heap.size<=K.heap.size:=c.size;clear E X q1;by_cases r:isName x=true
     ·obtain⟨ak,Y,rfl,L,p⟩:=mR F;have al:=h_ p;have M:Hid (q.length=k):=show q.length=k from by have:=F.1;simpa using this
      clear p;go_wp2_with fail
      go_loopw [9] (fun jj wq=>∃(j mm:Nat),j<=k/\jj=.int .i64 j/\wq=K.drewN mm/\Hid (∀(i:Nat)(y:Q7),i<j->q[i]?=some y->¬y=Pl.strOf x)) (fun jj _=>k-(intOf jj).toNat)
      case atStart=>exact⟨0,0,Nat.zero_le _,rfl,rfl,fun i y hi=>by omega⟩
      case round =>
       obtain⟨j,mm,hj,rfl,rfl,HJ⟩:=hrel;by_cases bj:j<k
       ·obtain⟨y,Z⟩:∃y,q[j]?=some y:=⟨q[j]'(by have:=M.out;omega),g_ (by have:=M.out;omega)⟩
        obtain⟨g2,rfl,bk⟩:=al.out j y Z;have az:(j:Int)<(k:Int):=by omega
        by_cases s:y=Pl.strOf x
        ·have HT:Hid (Pl.EA (AD (m+1)) (.agg a) bd=none):=by
          have:=HS.ZY HX Z s;simp [Hid,Pl.EA,this]
         have e1:(y==Pl.strOf x)=true:=by simpa using s
         clear Z s;go_wp2_with fail
         go_quiet (fail)
         go_wp2_with fail
         go_ret;refine⟨⟨l.os,l.tape,l.output,l.size,l.block⟩,.inr ⟨HT,rfl⟩⟩
        ·have am:Hid (∀(i:Nat)(z:Q7),i<j+1->q[i]?=some z->¬z=Pl.strOf x):=by
          intro i z hi T;by_cases e:i=j
          ·subst e;rw [Z] at T;obtain rfl:=i_ T;exact s
          ·exact HJ.out i z x8 T
         have e1:(y==Pl.strOf x)=false:=by simpa using s
         clear Z s;go_wp2_with fail
         go_quiet (fail)
         go_wp2_with fail
         go_roundw
         case rel=>exact⟨j+1,_,x8,k7,rfl,am⟩
         case measure=>simp [intOf];omega
       ·have an:Hid (Seen a (k+1) (q++[Pl.strOf x])):=HS.more HX r (vO fun i z T=>HJ.out i z (by have:=(s_ T).1;have:=M.out;omega) T);clear HJ;go_wp2_with (first | (at_builtin;refine wpList_append_lies _ rfl _ _ 75 rfl B.heap.size 9 i0 (.string ByteArray.empty) 1 16 underlying75 ab ac ad ae rfl w8 _ k (q.map eB) rfl (World.ownsRow.alloc (w:=K.drewN mm) F _) ⟨K.heap.size,0,none⟩ 1 1 [.string ⟨(Pl.strOf x).toArray⟩] rfl rfl (cell_one_new _ _ _) (fun x S=>by simp at S;subst S;rfl) w8 o6 x8 r7 (K.heap.size+1) w9 ?_;intro g' ba w3 N G bc _))
        go_roundw
        case rel =>
         refine⟨k+1,_,x8,k7,?_,?_,an⟩
         ·have:=N;rw [List.map_append];exact this
         ·exact(Below.alloc (w:=K.drewN mm) ⟨c.os,c.tape,c.output,c.size,c.block⟩ aj _).grown G r7 (fun j hj=>(F.lt j hj).1)
        case measure=>simp [intOf];omega
     ·have ap:isName x=false:=by simpa using r
      have HT:Hid (Pl.EA (AD (m+1)) (.agg a) bd=none):=by have:=Seen.bad HX ap;simp [Hid,Pl.EA,this]
      clear r;go_wp2_with fail;go_ret;exact⟨l,.inr ⟨HT,rfl⟩⟩
    ·have HT:Hid (Pl.EA (AD (m+1)) (.agg a) bd=some (BN .lambda [] .nil [f] (a.map Pl.strOf))):=by
      have:=HS.done x8;simp [Hid,Pl.EA,this,Q.out]
     obtain rfl:k=a.length:=by omega
     have r:q=a.map Pl.strOf:=by have:=HS.1;rw [List.take_length] at this;exact this
     have aq:Hid (wr.ownsRow B.heap.size TS 1 u6 (a.map Pl.strOf).length ((a.map Pl.strOf).map AM)):=by have:=X.out;rw [r] at this;rw [List.length_map];exact this
     have ar:=h_ (ah.later A);have O:Hid (w.heap.size<=B.heap.size/\B.heap.size<=wr.heap.size/\a.length<=1000):=⟨d.size,A.size,V⟩
     clear r;have au:=R.size;obtain⟨ak,Y,rfl,L,_⟩:=mR X;clear X;go_wp2_with fail;go_ret;exact⟨(R.alloc au _).alloc r7 _,.inl ⟨_,_,HT,rfl,m2+1,AX.single (dv:=.pointer none) O.1 O.2.1 ar (.inr (.inr rfl)) rfl aq (by rw [List.length_map];exact O.2.2) rfl⟩⟩
  ·have Q:Hid (Pl.EA (AD (m+1)) (.agg a) bd=none):=by
    simp [Hid,Pl.EA,D]
   clear D;exact zJ2
 ·have Q:Hid (Pl.EA (AD n) ns bd=none):=by
   show Pl.EA _ _ _=_;unfold Pl.EA;split
   ·exact absurd ⟨_,rfl⟩ C
   ·rfl
  have av:∃kk:Q7,w.cell? ⟨b,0,none⟩=some (.string ⟨kk.toArray⟩)/\(kk==[108,105,115,116])=false:=by
   cases n with
   | zero=>exact U.elim
   | succ m =>
    obtain⟨_,_,_,hh⟩:=U.out
    match ns,hh with
    | .lit (.int _ _),_=>exact⟨[110,117,109,98,101,114],P,w8⟩
    | .lit (.bool _),_=>exact⟨[116,114,117,116,104],P,w8⟩
    | .lit (.string _),_=>exact⟨[110,97,109,101],P,w8⟩
    | .agg a,_=>exact absurd ⟨a,rfl⟩ C
  obtain⟨kk,ag,aw⟩:=av;have bl:(kk !=[108,105,115,116])=true:=by rw [bne,aw];rfl
  clear P C;rcases t with⟨f,bf,D,rfl,m2,o⟩ | ⟨D,rfl⟩
  ·clear D o;exact zJ2
  ·clear D;exact zJ2
theorem X8{vvs vs:List Value}{d:List Tr}(k:MJ ok m w vvs (d.map Pl.BU))(n:∀(i:Nat)(u:Value)(x:Tr),vs[i]?=some u->d[i]?=some x->AJ ok m w u x)(o:vs.length=d.length)(p:d.all Pl.BI=true)(q:dF (m+1) (.agg d)):∀x∈d.map Pl.BU,dF (m+1) x:=by
 intro b r;obtain⟨x,f,rfl⟩:=List.mem_map.1 r;obtain⟨i,g⟩:=List.mem_iff_getElem?.1 f;have e:=List.all_eq_true.1 p x f;have s:=(s_ g).1;have l:vvs.length=d.length:=by have:=k.1;simpa using this
 have t:=k.2 i vvs[i] (Pl.BU x) (g_ x8) (by rw [List.getElem?_map,g];rfl);have h:=q.2 x f;refine pE m (m+1) _ _ t ?_;have j:=n i vs[i] x (g_ x8) g;unfold Pl.BI at e;split at e
 ·next a c =>have:=pE m (m+1) _ _ j h;exact this.2 c w9
 ·simp at e
theorem zV{fh:PF}(c:CA (AX false m w3) lo w3.heap.size (u::us) (fh::gs))(a:lo<=w3.heap.size)(g:gs.length=n)(i:n=0)(b:us.length=0)
  (d:o2=.cells #[AM (H5 .call),AM [],.pointer none,.slice (some ⟨w3.heap.size,0,none⟩) 1 1,.slice none 0 0,AM [],Q1 0,AM []] NE (0,0)) :
  AX false (m+1) ((w3.alloc (.cells #[u] LN)).alloc o2) lo ((w3.alloc (.cells #[u] LN)).alloc o2).heap.size (Q0 (w3.heap.size+1)) (BN .call [] .nil (fh::gs) []):=by
 obtain rfl:us=[]:=e_ b;obtain rfl:gs=[]:=e_ x8;have e:(w3.alloc (.cells #[u] LN)).heap.size=w3.heap.size+1:=by simp
 have f:Q3 w3 (w3.alloc (.cells #[u] LN)):=b_;have:=AX.many (k:=.call) (lo:=lo) (base:=w3.heap.size) (lZ w3 LN u) a x8 (c.mono n_ x8 (fun _ _ _ _ _ _ h=>h.later f)) w9 n_ w9 d rfl;rw [e] at this;exact this
theorem zU{w6:World}{fh:PF}{L:Nat}{o1:Obj}{row:Option Nat}(e:CA (AX false m w3) lo w3.heap.size (u::us) (fh::gs))(f:lo<=w3.heap.size)(g:gs.length=n)(o:n<=900)
  (b:w6.ownsRow base LN 1 kv L ([u]++us)) (c:(w3.alloc o1).grownBy w6 row) (d:∀k,row=some k->w3.heap.size<=k) (a:lo<=base) (i:L=n+1)
  (j:o2=.cells #[AM (H5 .call),AM [],.pointer none,kv,.slice none 0 0,AM [],Q1 0,AM []] NE (0,0)) :
  AX false (m+1) (w6.alloc o2) lo (w6.alloc o2).heap.size (Q0 w6.heap.size) (BN .call [] .nil (fh::gs) []):=by
 subst i g;have p:w3.heap.size+1<=w6.heap.size:=by have:=c.size;simpa using this
 have l:Q3 w3 w6:=(r_.alloc n_ o1).grown c w9 d;exact AX.many (k:=.call) (lo:=lo) (base:=base) b a x8 (e.mono n_ x8 (fun _ _ _ _ _ _ h=>h.later l)) w9 (by show 1<=_;simp) r7 j rfl
theorem rf_let(n:Nat)(hF:EL n)(ok ok':Q5)(w:World)(pv bv:Value)(ps bd:Tr)(h:AJ ok n w pv ps)(ad:AJ ok' n w bv bd)(au:dF n ps)(av:dF n bd) :Q2 55 #[pv,bv] w fun e w'=>C5 w (Pl.D5 (AD n) ps bd) e w':=by
 obtain⟨i0,aw,ax,ay,az⟩:=info_parts Tryz.TZ;obtain⟨i1,ba,bz,ca,cb⟩:=info_parts Tryz.TY;have HF:=h_ hF;have ae:Hid (dF n ps/\dF n bd):=⟨au,av⟩
 clear au av;have HN:=h_ h;obtain⟨b,rfl,hb,ck,_⟩:=h.EB;obtain⟨bb,rfl⟩:=ad.ptr;have cc:=h_ ad;clear hF h ad;by_cases N:∃d,ps=.agg d
 ·obtain⟨d,rfl⟩:=N;have F:=HN.short
  obtain⟨m,rfl⟩:∃m,n=m+1:=by
   cases n with
   | zero=>exact HN.elim
   | succ m=>exact⟨m,rfl⟩
  have dd:w.cell? ⟨b,0,none⟩=some (.string ⟨#[108,105,115,116]⟩):=ck;clear ck;obtain⟨b',ct,vs,e,_,_,c3,hS,af,hA⟩:=HN.list;simp only [Value.pointer.injEq,o_,Addr.mk.injEq,and_true] at e;subst e;obtain⟨ao,de,rfl,bc,G⟩:=hS;rw [af] at c3 bc;have HV:=h_ af;have HC:=h_ G;have HA:=h_ hA;clear af G hA;go_enter func55,ntmps55;go_wp2_with fail
  go_loopw [6,7] (fun vv i wr=>∃(k:Nat)(kn:Value)(H A:List Value),k<=d.length/\i=.int .i64 k/\Hid (D7 w wr w.heap.size k k kn vv H A)/\Hid ((d.take k).all Pl.BI=true)/\Hid (MJ ok m w H ((d.take k).map Pl.DC))/\Hid (MJ ok m w A ((d.take k).map Pl.BU))) (fun _ i _=>d.length-(intOf i).toNat)
  case atStart=>exact⟨0,_,[],[],Nat.zero_le _,rfl,D7.start _ rfl,zQ6,by simpa [Hid] using MJ.nil ok m w,by simpa [Hid] using MJ.nil ok m w⟩
  case round =>
   obtain⟨k,kn,H,A,hk,rfl,q,HP,O,D⟩:=hrel;obtain⟨q1,_⟩:=bP q.below;have cG:=aA q.out.out 3;have fG:=aF q.out.out 3;by_cases be:k<d.length
   ·obtain⟨u,hu⟩:∃u,vs[k]?=some u:=⟨vs[k]' zL7,g_ zL7⟩
    obtain⟨x,hx⟩:∃x,d[k]?=some x:=⟨d[k],g_ be⟩
    obtain⟨g,df,rfl,hg,hc⟩:=HC.out k u hu;have hr:=HA.out k u x hu hx;have HX:=h_ hx;clear hu hx;have cu:(k:Int)<(d.length:Int):=by omega
    have HR:=h_ hr;obtain⟨bu,rfl,cd,ag,_⟩:=hr.EB;clear hr;by_cases P:∃X,x=.agg X
    ·obtain⟨X,rfl⟩:=P;have cv:w.cell? ⟨bu,0,none⟩=some (.string ⟨#[108,105,115,116]⟩):=ag;clear ag
     obtain⟨Q,rfl⟩:∃Q,m=Q+1:=by
      cases m with
      | zero=>exact HR.elim
      | succ Q=>exact⟨Q,rfl⟩
     obtain⟨dg,kx,vx,e,_,_,ah,ai,B,R⟩:=HR.list;simp only [Value.pointer.injEq,o_,Addr.mk.injEq,and_true] at e;subst e;by_cases h2:X.length=2
     ·obtain⟨x0,x1,rfl⟩:∃x0 x1,X=[x0,x1]:=by
       match X,h2 with
       | [a,b],_=>exact⟨a,b,rfl⟩
      obtain⟨y0,y1,rfl⟩:∃y0 y1,vx=[y0,y1]:=by
       match vx,B with
       | [a,b],_=>exact⟨a,b,rfl⟩
      obtain⟨gx,I,Y,rfl,aj,ce,z0,zs⟩:=ai.cell0;have z1:=zs 0 y1 rfl;simp only [Nat.zero_add,c_,z_] at z1 ah aj;have r0:AJ ok (Q+1) w y0 x0:=AJ.up _ _ _ _ (Nat.le_succ _) (R 0 y0 x0 rfl rfl);have r1:AJ ok (Q+1) w y1 x1:=AJ.up _ _ _ _ (Nat.le_succ _) (R 1 y1 x1 rfl rfl);have cf:Hid ((d.take (k+1)).all Pl.BI=true):=eA HP HX rfl;have cg:Hid (MJ ok (Q+1) w (H++[y0]) ((d.take (k+1)).map Pl.DC)):=show MJ _ _ _ _ _ from by rw [c8 _ HX.out];exact O.snoc r0
      have ch:Hid (MJ ok (Q+1) w (A++[y1]) ((d.take (k+1)).map Pl.BU)):=show MJ _ _ _ _ _ from by rw [c8 _ HX.out];exact D.snoc r1
      obtain⟨ak,rfl⟩:=r0.ptr;obtain⟨ci,rfl⟩:=r1.ptr;clear ai B R zs h2 HP O D r0 r1;have al:=q.below.size;have Z:w.heap.size<wr.heap.size:=aB q.out.out;have aG:kn.ownBlock≠some w.heap.size:=fun e=>by have:=(q.G0.lt _ e).1;omega
      have dh:kn.ownBlock≠some bu:=fun e=>by have:=(q.G0.lt _ e).1;omega
      have di:kn.ownBlock≠some gx:=fun e=>by have:=(q.G0.lt _ e).1;omega
      have bf:wr.cell? ⟨bu,3,none⟩=some (.slice (some ⟨gx,I,none⟩) 2 Y):=(q1 bu 3 cd).trans ah;have cj:wr.cell? ⟨gx,I,none⟩=some (Q0 ak):=(q1 gx I ce).trans z0;have fA:∀ob:Obj,(wr.alloc ob).frozen? ⟨w.heap.size,3,none⟩=false:=fun ob=>aF ((Below.heap_alloc wr ob _ Z).trans q.out.out) 3;have cA:∀ob:Obj,(wr.alloc ob).cell? ⟨w.heap.size,3,none⟩=some kn:=fun ob=>aA ((Below.heap_alloc wr ob _ Z).trans q.out.out) 3;have q2:=U3 q.below;go_wp2_with fail
      go_region_law ((refine step_append_lies _ m6 _ _ _ m6 (w.heap.size+1) 85 i0 _ 1 8 underlying123 aw ax ay az rfl x8 kn k H m6 ((q.G0.alloc _).drew) ⟨wr.heap.size,0,none⟩ 1 1 [Q0 ak] m6 m6 (World.news_of_block (cs:=#[Q0 ak]) (t:=85) (fr:=(0,0)) (heap_alloc_new wr _)) zO7 x8 o6 x8 r7 (wr.heap.size+1) w9 ?_;intro g3 bg S J o aa bi;have cl:=(o.cell_far ⟨w.heap.size,3,none⟩ r7 (Ne.symm aG)).trans (cA _);have cm:=(o.frozen_far ⟨w.heap.size,3,none⟩ r7 (Ne.symm aG)).trans (fA _)))
      all_goals
       have T:=h_ (q.LE J (l9 o) aa);clear cl cm o J aa bi q cG fG q1 q2 cA fA bf cj;generalize S.setCell ⟨w.heap.size,3,none⟩ (.slice (some ⟨g3,0,none⟩) (k+1) bg)=W3 at *;obtain⟨q1,_⟩:=bP T.below;have cw:w.heap.size<W3.heap.size:=aB T.out.out;go_wp2_with (first | (at_builtin;refine wpList_append_lies _ rfl _ _ 123 rfl (w.heap.size+1) 85 i0 (.pointer none) 1 8 underlying123 aw ax ay az rfl w8 u6 k A rfl (T.I6.alloc _) ⟨W3.heap.size,0,none⟩ 1 1 [Q0 ci] rfl rfl (cell_one_new _ _ _) (fun x hx=>by simp at hx;subst hx;rfl) w8 o6 x8 r7 (W3.heap.size+1) w9 ?_;intro g4 cx w4 am U bj _))
       go_roundw
       case rel=>exact⟨k+1,_,_,_,x8,k7,T.KK am U bj,cf,cg,ch⟩
       case measure=>simp [intOf];omega
     ·have E:Hid (Pl.D5 (AD (Q+1+1)) (.agg d) bd=none):=by
       have hf:Pl.BI (.agg X)=false:=by
        match X,h2 with
        | [],_=>rfl
        | [_],_=>rfl
        | _::_::_::_,_=>rfl
       have:=gJ (f:=Pl.BI) HX hf;simp [Hid,Pl.D5,this]
      obtain⟨dj,Y,rfl,_,_⟩:=ai;rw [B] at ah;have dk:((X.length:Int)!=2)=true:=by simp;omega
      clear B R;go_wp2_with fail;go_ret;exact⟨q.below,.inr ⟨E,rfl⟩⟩
    ·have E:Hid (Pl.D5 (AD (m+1)) (.agg d) bd=none):=by
      have hf:Pl.BI x=false:=by
       unfold Pl.BI;split
       ·exact absurd ⟨_,rfl⟩ P
       ·rfl
      have:=gJ (f:=Pl.BI) HX hf;simp [Hid,Pl.D5,this]
     obtain⟨kk,K,an⟩:=HR.KQ P;rw [K] at ag;have cn:(kk !=[108,105,115,116])=true:=by rw [bne,an];rfl
     clear K P;go_wp2_with fail;go_ret;exact⟨q.below,.inr ⟨E,rfl⟩⟩
   ·have co:k=d.length:=by omega
    subst co;rw [List.take_length] at HP O D;have bk:AJ (fun _=>True) (m+1) wr (Q0 w.heap.size) (.agg (d.map Pl.DC)):=q.names O w9 zO5;have bl:=h_ bk;clear bk hk be;have al:=q.below.size;go_wp2_with fail;refine(mT (m+1) HF _ ok' _ _ _ (.agg (d.map Pl.DC)) bd bl (cc.later q.below) ae.2).mono ?_;rintro e w2 ⟨V,l⟩;have L:=h_ (q.below.trans (V.mono al));have cp:Hid (w2.ownsRow (w.heap.size+1) TP 1 u6 d.length A):=q.I6.kept (aQ none V) (by cases hv:Value.ownBlock u6<;>simp);have ap:=h_ l;have bm:=V.size;clear V l bl cG fG q1 q;have aq:=bC cp;obtain⟨dl,cy,rfl,_⟩:=id aq;have bn:=h_ aq;clear aq;have ab:=L.size;have bo:=h_ (X8 D HA HV HP ae.1);have W:Hid (w.heap.size<=wr.heap.size/\wr.heap.size<=w2.heap.size/\d.length<=900):=⟨al,bm,ae.1.1⟩
    rcases ap.out with⟨fh,bh,M,rfl,mh,bp⟩ | ⟨M,rfl⟩
    ·have bq:=h_ M;have cq:=h_ bp;clear M ap bp;go_wp2_with fail;refine(cI (m+1) HF _ _ A (d.map Pl.BU) bn ((D.later L).all (Nat.le_succ _)) zO5 bo).mono ?_;rintro e S ⟨v,l⟩;have r:=h_ (L.trans (v.mono ab));have ac:=r.size;rcases l with⟨gs,rv,fs,y,rfl,c,s,C,mr,p⟩ | ⟨y,rv,rfl⟩
     ·have E:Hid (Pl.D5 (AD (m+1)) (.agg d) bd=some (BN .call [] .nil (fh::gs) [])):=by
       have h1:=bq.out;show Pl.D5 _ _ _=_;unfold Pl.D5;dsimp only;rw [if_pos HP.out,h1,y];rfl
      have br:Hid (CA (AX false (mh+mr) S) w.heap.size S.heap.size ((Q0 bh)::fs) (fh::gs)):=show CA _ _ _ _ _ from CA.cons (p.mono n_ n_ (fun _ _ _ _ _ _ h=>AX.up _ _ _ _ _ _ x8 h)) (t_ W.1 W.2.1) v.size (AX.wide W.1 n_ (AX.up _ _ _ _ _ _ x8 (cq.later v)));rw [List.length_map] at c s;have bs:Hid (gs.length=d.length):=show gs.length=d.length from by have h1:=p.1;have h2:=c.1;omega
      clear y v p;by_cases hz:d.length=0
      ·have hv:=s hz;subst hv;have bt:=h_ hz;have bw:Hid (fs.length=0):=show fs.length=0 from by have:=c.1;omega
       clear s c C hz;go_wp2_with (first | (at_builtin;refine wpList_append_own_none rfl _ _ 126 rfl S.heap.size 38 i1 1 underlying126 ba _ 1 _ rfl (lZ _ _ _) rfl ?_));go_ret;exact⟨(r.alloc ac _).alloc r7 _,.inl ⟨_,_,E,rfl,_,zV br r.size bs bt bw rfl⟩⟩
      ·have cz:=c.lt;obtain⟨g,bx,rfl,_,_⟩:=c.form x8;have cr:=h_ c;have dm:fs.length=d.length:=by have:=c.1;omega
       clear c s;go_wp2_with (first | (at_builtin;refine wpList_append_lies _ rfl _ _ 126 rfl S.heap.size 38 i1 (.pointer none) 1 8 underlying126 ba bz ca cb rfl w8 (.slice (some ⟨S.heap.size,0,none⟩) 1 1) 1 _ rfl (lZ _ _ _) ⟨g,0,none⟩ d.length bx fs rfl x8 ((cr.alloc _).cells rfl) C x8 o6 x8 w9 (S.heap.size+1) w9 ?_;intro g6 da w6 ar z db dc));go_ret;refine⟨Below.alloc ?_ ?_ _,.inl ⟨_,_,E,rfl,_,zU br r.size bs W.2.2 ar z (fun j hj=>by simp [Value.ownBlock] at hj;omega) r.size x8 rfl⟩⟩
       ·exact(r.alloc ac _).grown z r7 (fun j hj=>by simp [Value.ownBlock] at hj;omega)
       ·have:=z.size;simp at this;omega
     ·have E:Hid (Pl.D5 (AD (m+1)) (.agg d) bd=none):=by
       show Pl.D5 _ _ _=none;unfold Pl.D5;dsimp only;rw [if_pos HP.out,bq.out,y];rfl
      clear v y;exact zJ1
    ·have E:Hid (Pl.D5 (AD (m+1)) (.agg d) bd=none):=by
      show Pl.D5 _ _ _=none;unfold Pl.D5;dsimp only;rw [if_pos HP.out,M];rfl
     clear M ap;go_wp2_with fail;refine(cI (m+1) HF _ _ A (d.map Pl.BU) bn ((D.later L).all (Nat.le_succ _)) zO5 bo).mono ?_;rintro e S ⟨v,l⟩;have r:=h_ (L.trans (v.mono ab));rcases l with⟨gs,rv,fs,y,rfl,c,s,C,mr,p⟩ | ⟨y,rv,rfl⟩
     ·clear v y c s C p;exact zJ1
     ·clear v y;exact zJ1
 ·have E:Hid (Pl.D5 (AD n) ps bd=none):=by
   show Pl.D5 _ _ _=none;unfold Pl.D5;split
   ·exact absurd ⟨_,rfl⟩ N
   ·rfl
  obtain⟨kk,K,an⟩:=HN.KQ N;rw [K] at ck;have cn:(kk !=[108,105,115,116])=true:=by rw [bne,an];rfl
  clear K N;go_enter func55,ntmps55;go_wp2_with fail;go_ret;exact⟨r_,.inr ⟨E,rfl⟩⟩
theorem iZ{w1:World}{t:Tr}(f:n<=1000)(h:AJ ok n w v t)(a:cL n t)(b:uG t)(e:Q3 w w1)(c:lo<=w1.heap.size)(g:o2=.cells #[AM (H5 .const),AM [],v,.slice none 0 0,.slice none 0 0,AM [],Q1 0,AM []] NE (0,0))(i:w'=w1.alloc o2):AX false 1 w' lo w'.heap.size (Q0 w1.heap.size) (BN .const [] t [] []):=by subst i;have d:Q3 w (w1.alloc o2):=e.alloc e.size _;exact AX.leaf c w9 (by rw [<- g];exact heap_alloc_new _ _) (fun _=>⟨n,f,AJ.mono (fun _ _ _=>trivial) _ _ _ (h.later d),a,b⟩) rfl
theorem xQ{w1:World}{s:AE}(a:lo<=w1.heap.size)(b:o2=.cells #[AM (H5 .name),AM s,.pointer none,.slice none 0 0,.slice none 0 0,AM [],Q1 0,AM []] NE (0,0))(c:w'=w1.alloc o2):AX false 1 w' lo w'.heap.size (Q0 w1.heap.size) (BN .name s .nil [] []):=by subst c;exact AX.leaf a w9 (by rw [<- b];exact heap_alloc_new _ _) (fun e=>by cases e) rfl
theorem fS{w5:World}{k:FK}{rv:Value}{len:Nat}(c:w.heap.size<=w2.heap.size)(e:w2.heap.size<=w5.heap.size)(a:w5.ownsRow w2.heap.size TF 1 rv len us)(d:CA (AX false m w5) w2.heap.size w5.heap.size us gs)(f:k≠.const)(g:shape k gs.length)(i:gs.length<=1000)
  (j:o2=.cells #[AM (H5 k),AM [],.pointer none,rv,.slice none 0 0,AM [],Q1 0,AM []] NE (0,0)):AX false (m+1) (w5.alloc o2) w.heap.size (w5.alloc o2).heap.size (Q0 w5.heap.size) (BN k [] .nil gs []):=by
 have b:gs.length=len:=by have l:=d.1;have c:=a.1;omega
 subst b;exact AX.many a c (t_ c e) (d.mono c n_ (fun _ _ _ _ _ _ h=>h)) f g i j rfl
theorem mV(n:Nat)(A:n+1<=1000)(ok:Q5)(w:World)(v:Value)(t:Tr)(h:AJ ok (n+1) w v t)(l:cL (n+1) t)(f:¬∃B,t=.agg B) :Q2 39 #[v] w fun e C=>C5 w (AD (n+1) t) e C:=by
 have g:=h_ h;have o:=h_ l;clear l;obtain⟨b,rfl,F,i,q⟩:=h.EB;rcases h.kinds with⟨k,m,rfl⟩ | ⟨x,rfl⟩ | ⟨s,rfl⟩ | r
 ·have p:w.cell? ⟨b,0,none⟩=some (.string ⟨#[110,117,109,98,101,114]⟩):=i;exact zI9
 ·have p:w.cell? ⟨b,0,none⟩=some (.string ⟨#[116,114,117,116,104]⟩):=i;exact zI9
 ·have p:w.cell? ⟨b,0,none⟩=some (.string ⟨#[110,97,109,101]⟩):=i;have D:w.cell? ⟨b,2,none⟩=some (.string ⟨s.toArray⟩):=q;clear i q h f;by_cases j:EE s=true
  ·have E:isName (.lit (.string s))=false:=by simp [isName,j]
   have z:Hid (AD (n+1) (.lit (.string s))=none):=by simp [Hid,AD,j]
   clear j;go_enter func39,ntmps39;go_wp2_with fail;refine(aV ok (n+1) _ _ _ g).mono ?_;rintro e u ⟨rfl,a⟩;obtain⟨y,_⟩:=bP a;have c:=h_ a;have d:=a.size;clear a;go_wp2_with fail;go_ret;exact⟨c,.inr ⟨z,rfl⟩⟩
  ·have E:isName (.lit (.string s))=true:=by simp [isName,j]
   have z:Hid (AD (n+1) (.lit (.string s))=some (BN .name s .nil [] [])):=by simp [Hid,AD,j]
   clear j;go_enter func39,ntmps39;go_wp2_with fail;refine(aV ok (n+1) _ _ _ g).mono ?_;rintro e u ⟨rfl,a⟩;obtain⟨y,_⟩:=bP a;have c:=h_ a;have d:=a.size;clear a;go_wp2_with fail;go_ret;exact⟨c.alloc d _,.inl ⟨_,_,z,rfl,1,xQ d rfl rfl⟩⟩
 ·exact absurd r f
theorem oO(n:Nat)(ok:Q5)(w:World)(v:Value)(h:AJ ok (n+1) w v (.agg [])) :Q2 39 #[v] w fun e j=>C5 w (AD (n+1) (.agg [])) e j:=by have k:=h_ h;obtain⟨b,d,q,rfl,r,f,g,l,i,_⟩:=h.list;have m:w.cell? ⟨b,0,none⟩=some (.string ⟨#[108,105,115,116]⟩):=f;obtain⟨s,o,rfl,_⟩:=l;rw [i] at g;simp only [z_] at g;clear f i h;go_enter func39,ntmps39;go_wp2_with fail;refine(aV ok (n+1) _ _ _ k).mono ?_;rintro e t ⟨rfl,a⟩;obtain⟨u,_⟩:=bP a;have c:=h_ a;have p:=a.size;clear a;go_wp2_with fail;go_ret;exact⟨c,.inr ⟨rfl,rfl⟩⟩
theorem wL(n:Nat)(k:Tr)(r:List Tr)(a:Pl.BJ (k::r)=none):AD (n+1) (.agg (k::r))=(Pl.B1 (AD n) (k::r)).map fun l=>BN .call [] .nil l []:=by show(match Pl.BJ (k::r) with | some h=>Pl.IN (AD n) (.agg (k::r)) h r | none=>(Pl.B1 (AD n) (k::r)).map fun l=>BN .call [] .nil l [])=_;rw [a]
theorem form_key(n:Nat)(h:Q7)(r:List Tr)(a:EE h=true):AD (n+1) (.agg (.lit (.string h)::r))=Pl.IN (AD n) (.agg (.lit (.string h)::r)) h r:=by
 have:Pl.BJ (.lit (.string h)::r)=some h:=by unfold Pl.BJ;simp [a]
 show(match Pl.BJ (.lit (.string h)::r) with | some b=>Pl.IN (AD n) (.agg (.lit (.string h)::r)) b r | none=>(Pl.B1 (AD n) (.lit (.string h)::r)).map fun l=>BN .call [] .nil l [])=_;rw [this]
theorem mU(n:Nat)(T:EL n)(ok:Q5)(w:World)(v:Value)(k:Tr)(r:List Tr)(h:AJ ok (n+1) w v (.agg (k::r)))(A:∀x∈(k::r),dF n x)(K:Pl.BJ (k::r)=none) :Q2 39 #[v] w fun e w'=>C5 w (AD (n+1) (.agg (k::r))) e w':=by
 have U:=h_ (wL n k r K);by_cases D:∃s,k=.lit (.string s)
 ·obtain⟨s,rfl⟩:=D
  have ah:EE s=false:=by
   unfold Pl.BJ at K;by_cases hq:EE s=true
   ·simp [hq] at K
   ·simpa using hq
  clear K;have W:=h_ h;have X:=h_ T;have j:((.lit (.string s))::r).length<=1000:=h.short;simp only [c_] at j;obtain⟨b,g,Y,Z,u0,us,rfl,hb,ck,c3,L,hg,c0,M,q,E,N,t⟩:=h.cons;have HS:=h_ M;have HA:=h_ N;have aa:=h_ t;have HL:=h_ q;obtain⟨V,rfl,ab,l,F⟩:=E.EB;have R0:=h_ E;have G:=h_ A;clear h T A M N t q E;have ac:w.cell? ⟨V,0,none⟩=some (.string ⟨#[110,97,109,101]⟩):=l;have ai:w.cell? ⟨V,2,none⟩=some (.string ⟨s.toArray⟩):=F;clear l F;have e1:isName (.agg ((.lit (.string s))::r))=false:=rfl;have ad:((r.length:Int)+1==0)=false:=by simp;omega
  go_enter func39,ntmps39
  go_wp2_with fail
  refine(aV ok (n+1) _ _ _ W).mono ?_;rintro e w1 ⟨rfl,f⟩;obtain⟨q1,_⟩:=bP f;have p:=h_ f;have u:=f.size;clear f;go_wp2_with fail;refine(aR s _).mono ?_;rintro e w2 ⟨rfl,O⟩;have y:=h_ (p.trans (O.mono u));obtain⟨q2,_⟩:=bP y;have C:=y.size;rw [show EE s=false from by first | assumption | decide];clear O q1 p u;go_wp2_with fail;refine(cI n X _ _ _ ((.lit (.string s))::r) (HS.later y) (HA.later y) (by simpa using j) G).mono ?_;rintro e H ⟨i,m⟩;have o:=h_ (y.trans (i.mono C));have z:=o.size;rcases m with⟨P,Q,fs,d,rfl,a,_,_,R,c⟩ | ⟨d,Q,rfl⟩
  ·have I:Hid (AD (n+1) (.agg ((.lit (.string s))::r))=some (BN .call [] .nil P [])):=U.trans zQ8;have HU:=(show Hid (∀B,B=Obj.cells #[AM (H5 .call),AM [],.pointer none,Q,.slice none 0 0,AM [],Q1 0,AM []] NE (0,0)->AX false (R+1) (H.alloc B) w.heap.size (H.alloc B).heap.size (Q0 H.heap.size) (BN .call [] .nil P [])) from fun B ho=>fS C i.size a c w9 zO0 (by have:=c.1;have:=a.1;simp at this;omega) ho)
   have J:fs.length=((.lit (.string s))::r).length:=by have:=a.1;omega
   exact zJ0
  ·have I:Hid (AD (n+1) (.agg ((.lit (.string s))::r))=none):=U.trans zQ8;clear i d;go_wp2_with fail;go_ret;exact⟨o,.inr ⟨I,rfl⟩⟩
 ·clear K;have W:=h_ h;have X:=h_ T;have j:(k::r).length<=1000:=h.short;simp only [c_] at j;obtain⟨b,g,Y,Z,u0,us,rfl,hb,ck,c3,L,hg,c0,M,q,E,N,t⟩:=h.cons;have HS:=h_ M;have HA:=h_ N;have aa:=h_ t;have HL:=h_ q;obtain⟨V,rfl,ab,l,F⟩:=E.EB;have R0:=h_ E;have G:=h_ A;clear h T A M N t q E
  have af:∃kk:Q7,w.cell? ⟨V,0,none⟩=some (.string ⟨kk.toArray⟩)/\(kk==[110,97,109,101])=false:=by
   rcases R0.kinds with⟨_,_,rfl⟩ | ⟨_,rfl⟩ | ⟨s,rfl⟩ | ⟨_,rfl⟩
   ·exact⟨[110,117,109,98,101,114],l,w8⟩
   ·exact⟨[116,114,117,116,104],l,w8⟩
   ·exact absurd ⟨s,rfl⟩ D
   ·exact⟨[108,105,115,116],l,w8⟩
  obtain⟨kk,ac,ag⟩:=af;clear l D;have e1:isName (.agg (k::r))=false:=rfl;have ad:((r.length:Int)+1==0)=false:=by simp;omega
  go_enter func39,ntmps39
  go_wp2_with fail
  refine(aV ok (n+1) _ _ _ W).mono ?_;rintro e w1 ⟨rfl,f⟩;obtain⟨q1,_⟩:=bP f;have p:=h_ f;have u:=f.size;clear f;go_wp2_with fail;refine(cI n X _ _ _ (k::r) (HS.later p) (HA.later p) (by simpa using j) G).mono ?_;rintro e H ⟨i,m⟩;have o:=h_ (p.trans (i.mono u));have z:=o.size;rcases m with⟨P,Q,fs,d,rfl,a,_,_,R,c⟩ | ⟨d,Q,rfl⟩
  ·have I:Hid (AD (n+1) (.agg (k::r))=some (BN .call [] .nil P [])):=U.trans zQ8;have HU:=(show Hid (∀B,B=Obj.cells #[AM (H5 .call),AM [],.pointer none,Q,.slice none 0 0,AM [],Q1 0,AM []] NE (0,0)->AX false (R+1) (H.alloc B) w.heap.size (H.alloc B).heap.size (Q0 H.heap.size) (BN .call [] .nil P [])) from fun B ho=>fS u i.size a c w9 zO0 (by have:=c.1;have:=a.1;simp at this;omega) ho)
   have J:fs.length=(k::r).length:=by have:=a.1;omega
   exact zJ0
  ·have I:Hid (AD (n+1) (.agg (k::r))=none):=U.trans zQ8;clear i d;go_wp2_with fail;go_ret;exact⟨o,.inr ⟨I,rfl⟩⟩
theorem lC(n:Nat)(K:n+1<=1000)(E:EL n)(ok:Q5)(w:World)(v:Value)(r:List Tr)(h:AJ ok (n+1) w v (.agg (.lit (.string [113,117,111,116,101])::r)))(t:Hid (cL (n+1) (.agg (.lit (.string [113,117,111,116,101])::r))))(k:∀x∈r,dF n x) :Q2 39 #[v] w fun e L=>C5 w (AD (n+1) (.agg (.lit (.string [113,117,111,116,101])::r))) e L:=by
 have F:Hid (AD (n+1) (.agg (.lit (.string [113,117,111,116,101])::r))=if r.length==1 then some (BN .const [] (.agg (.lit (.string [113,117,111,116,101])::r)) [] []) else none):=form_key n _ r w8;have u:=h_ h;have X:=h_ E;have l:((.lit (.string [113,117,111,116,101]))::r).length<=1000:=h.short;simp only [c_] at l;obtain⟨b,g,M,N,Y,Z,rfl,hb,ck,c3,G,hg,c0,H,m,y,I,o⟩:=h.cons;have HS:=h_ H;have HA:=h_ I;have O:=h_ o;have HL:=h_ m;obtain⟨J,rfl,P,p,q⟩:=y.EB;have R0:=h_ y;have Q:=h_ k;clear h E k H I o m y;have R:w.cell? ⟨J,0,none⟩=some (.string ⟨#[110,97,109,101]⟩):=p;have S:w.cell? ⟨J,2,none⟩=some (.string ⟨([113,117,111,116,101]).toArray⟩):=q;clear p q;by_cases s:r.length=1
 ·have z:((r.length:Int)+1==2)=true:=by simp;omega
  have A:Hid (AD (n+1) (.agg (.lit (.string [113,117,111,116,101])::r))=some (BN .const [] (.agg (.lit (.string [113,117,111,116,101])::r)) [] [])):=F.trans (if_pos (by simpa using s));have B:Hid (uG (.agg (.lit (.string [113,117,111,116,101])::r))):=by show List.length (_::r)=2;simp [s]
  clear s;have T:isName (.agg ((.lit (.string [113,117,111,116,101]))::r))=false:=rfl;have C:((r.length:Int)+1==0)=false:=by simp;omega
  go_enter func39,ntmps39
  go_wp2_with fail
  refine(aV ok (n+1) _ _ _ u).mono ?_;rintro e U ⟨rfl,a⟩;obtain⟨D,_⟩:=bP a;have d:=h_ a;have f:=a.size;clear a;go_wp2_with fail;refine(aR [113,117,111,116,101] _).mono ?_;rintro e V ⟨rfl,i⟩;have c:=h_ (d.trans (i.mono f));obtain⟨W,_⟩:=bP c;have j:=c.size;rw [show EE [113,117,111,116,101]=true from by first | assumption | decide];clear i D d f;go_wp2_with fail;go_ret;exact⟨c.alloc j _,.inl ⟨_,_,A,rfl,1,iZ K u t B c j rfl rfl⟩⟩
 ·have z:((r.length:Int)+1==2)=false:=by simp;omega
  have A:Hid (AD (n+1) (.agg (.lit (.string [113,117,111,116,101])::r))=none):=F.trans (if_neg (by simpa using s));clear s;have T:isName (.agg ((.lit (.string [113,117,111,116,101]))::r))=false:=rfl;have C:((r.length:Int)+1==0)=false:=by simp;omega
  go_enter func39,ntmps39
  go_wp2_with fail
  refine(aV ok (n+1) _ _ _ u).mono ?_;rintro e U ⟨rfl,a⟩;obtain⟨D,_⟩:=bP a;have d:=h_ a;have f:=a.size;clear a;go_wp2_with fail;refine(aR [113,117,111,116,101] _).mono ?_;rintro e V ⟨rfl,i⟩;have c:=h_ (d.trans (i.mono f));obtain⟨W,_⟩:=bP c;have j:=c.size;rw [show EE [113,117,111,116,101]=true from by first | assumption | decide];clear i D d f;go_wp2_with fail;go_ret;exact⟨c,.inr ⟨A,rfl⟩⟩
theorem kD(n:Nat)(s:EL n)(ok:Q5)(w:World)(v:Value)(r:List Tr)(h:AJ ok (n+1) w v (.agg (.lit (.string [100,101,102,105,110,101])::r)))(d:∀x∈r,dF n x) :Q2 39 #[v] w fun e B=>C5 w (AD (n+1) (.agg (.lit (.string [100,101,102,105,110,101])::r))) e B:=by
 have C:Hid (AD (n+1) (.agg (.lit (.string [100,101,102,105,110,101])::r))=none):=(form_key n _ r w8).trans rfl;have D:=h_ h;have N:=h_ s;have f:((.lit (.string [100,101,102,105,110,101]))::r).length<=1000:=h.short;simp only [c_] at f;obtain⟨b,g,E,F,O,P,rfl,Q,R,S,t,T,U,u,i,q,y,j⟩:=h.cons;have V:=h_ u;have W:=h_ y;have G:=h_ j;have X:=h_ i;obtain⟨z,rfl,H,k,l⟩:=q.EB;have Y:=h_ q;have I:=h_ d;clear h s d u y j i q;have J:w.cell? ⟨z,0,none⟩=some (.string ⟨#[110,97,109,101]⟩):=k;have K:w.cell? ⟨z,2,none⟩=some (.string ⟨([100,101,102,105,110,101]).toArray⟩):=l;clear k l;have Z:isName (.agg ((.lit (.string [100,101,102,105,110,101]))::r))=false:=rfl;have L:((r.length:Int)+1==0)=false:=by simp;omega
 go_enter func39,ntmps39
 go_wp2_with fail
 refine(aV ok (n+1) _ _ _ D).mono ?_;rintro e w1 ⟨rfl,a⟩;obtain⟨M,_⟩:=bP a;have m:=h_ a;have o:=a.size;clear a;go_wp2_with fail;refine(aR [100,101,102,105,110,101] _).mono ?_;rintro e w2 ⟨rfl,p⟩;have c:=h_ (m.trans (p.mono o));obtain⟨q2,_⟩:=bP c;have A:=c.size;rw [show EE [100,101,102,105,110,101]=true from by first | assumption | decide];clear p M m o;go_wp2_with fail;go_ret;exact⟨c,.inr ⟨C,rfl⟩⟩
theorem oN(n:Nat)(E:EL n)(ok:Q5)(w:World)(v:Value)(r:List Tr)(h:AJ ok (n+1) w v (.agg (.lit (.string [115,101,116,33])::r)))(l:∀x∈r,dF n x) :Q2 39 #[v] w fun e N=>C5 w (AD (n+1) (.agg (.lit (.string [115,101,116,33])::r))) e N:=by
 have F:Hid (AD (n+1) (.agg (.lit (.string [115,101,116,33])::r))=Pl.E6 .set (AD n) r):=(form_key n _ r w8).trans rfl;have G:=h_ h;have O:=h_ E;have m:((.lit (.string [115,101,116,33]))::r).length<=1000:=h.short;simp only [c_] at m;obtain⟨b,g,P,Q,Y,Z,rfl,hb,ck,c3,H,hg,c0,I,o,A,J,p⟩:=h.cons;have HS:=h_ I;have HA:=h_ J;have R:=h_ p;have HL:=h_ o;obtain⟨K,rfl,S,q,s⟩:=A.EB;have R0:=h_ A;have B:=h_ l;clear h E l I J p o A;have T:w.cell? ⟨K,0,none⟩=some (.string ⟨#[110,97,109,101]⟩):=q;have U:w.cell? ⟨K,2,none⟩=some (.string ⟨([115,101,116,33]).toArray⟩):=s;clear q s;have e1:isName (.agg ((.lit (.string [115,101,116,33]))::r))=false:=rfl;have V:((r.length:Int)+1==0)=false:=by simp;omega
 go_enter func39,ntmps39
 go_wp2_with fail
 refine(aV ok (n+1) _ _ _ G).mono ?_;rintro e w1 ⟨rfl,d⟩;obtain⟨W,_⟩:=bP d;have t:=h_ d;have u:=d.size;clear d;go_wp2_with fail;refine(aR [115,101,116,33] _).mono ?_;rintro e w2 ⟨rfl,y⟩;have a:=h_ (t.trans (y.mono u));obtain⟨q2,_⟩:=bP a;have c:=a.size;rw [show EE [115,101,116,33]=true from by first | assumption | decide];clear y W t u;go_wp2_with fail;refine(iY n O .set (.inl rfl) ok _ _ r (G.later a) B).mono ?_;rintro e L ⟨i,⟨f,X,z,rfl,M,j⟩ | ⟨z,rfl⟩⟩
 ·have k:=h_ (a.trans (i.mono c));have C:=h_ (F.trans z);have D:Hid (AX false M L w.heap.size L.heap.size (Q0 X) f):=j.wide c n_;clear i z j;go_wp2_with fail;go_ret;exact⟨k,.inl ⟨_,_,C,rfl,M,D⟩⟩
 ·have k:=h_ (a.trans (i.mono c));have C:=h_ (F.trans z);clear i z;go_wp2_with fail;go_ret;exact⟨k,.inr ⟨C,rfl⟩⟩
theorem rQ(n:Nat)(hF:EL n)(ok:Q5)(w:World)(v:Value)(r:List Tr)(h:AJ ok (n+1) w v (.agg (.lit (.string [105,102])::r)))(K:∀x∈r,dF n x) :Q2 39 #[v] w fun e w'=>C5 w (AD (n+1) (.agg (.lit (.string [105,102])::r))) e w':=by
 have F:Hid (AD (n+1) (.agg (.lit (.string [105,102])::r))=if(r.length==3) then(Pl.B1 (AD n) r).map fun l=>BN .iff [] .nil l [] else none):=(form_key n _ r w8).trans rfl;have HR:=h_ h;have R:=h_ hF;have L:((.lit (.string [105,102]))::r).length<=1000:=h.short;simp only [c_] at L;obtain⟨b,g,ab,ac,u0,S,rfl,hb,ck,c3,aa,hg,c0,hS,M,V,hA,N⟩:=h.cons;have T:=h_ hS;have HA:=h_ hA;have A:=h_ N;have U:=h_ M;obtain⟨b0,rfl,ad,O,P⟩:=V.EB;have R0:=h_ V;have B:=h_ K;clear h hF K hS hA N M V;have ae:w.cell? ⟨b0,0,none⟩=some (.string ⟨#[110,97,109,101]⟩):=O;have af:w.cell? ⟨b0,2,none⟩=some (.string ⟨([105,102]).toArray⟩):=P;clear O P;by_cases j:(r.length==3)=true
 ·have W:((r.length:Int)+1==4)=true:=by simp at j;simp;omega
  have e1:isName (.agg ((.lit (.string [105,102]))::r))=false:=rfl;have X:((r.length:Int)+1==0)=false:=by simp;omega
  go_enter func39,ntmps39
  go_wp2_with fail
  refine(aV ok (n+1) _ _ _ HR).mono ?_;rintro e w1 ⟨rfl,p⟩;obtain⟨Y,_⟩:=bP p;have t:=h_ p;have u:=p.size;clear p;go_wp2_with fail;refine(aR [105,102] _).mono ?_;rintro e w2 ⟨rfl,y⟩;have f:=h_ (t.trans (y.mono u));obtain⟨q2,_⟩:=bP f;have o:=f.size;rw [show EE [105,102]=true from by first | assumption | decide];clear y Y t u;go_wp2_with fail
  ·exact zI6
  ·exact zI6
 ·have j:(r.length==3)=false:=by simpa using j
  have W:((r.length:Int)+1==4)=false:=by simp at j;simp;omega
  have e1:isName (.agg ((.lit (.string [105,102]))::r))=false:=rfl;have X:((r.length:Int)+1==0)=false:=by simp;omega
  go_enter func39,ntmps39
  go_wp2_with fail
  refine(aV ok (n+1) _ _ _ HR).mono ?_;rintro e w1 ⟨rfl,p⟩;obtain⟨Y,_⟩:=bP p;have t:=h_ p;have u:=p.size;clear p;go_wp2_with fail;refine(aR [105,102] _).mono ?_;rintro e w2 ⟨rfl,y⟩;have f:=h_ (t.trans (y.mono u));obtain⟨q2,_⟩:=bP f;have o:=f.size;rw [show EE [105,102]=true from by first | assumption | decide];clear y Y t u;go_wp2_with fail
  ·exact zI8
  ·exact zI8
theorem lD(n:Nat)(Z:EL n)(ok:Q5)(w:World)(v:Value)(r:List Tr)(h:AJ ok (n+1) w v (.agg (.lit (.string [98,101,103,105,110])::r)))(E:∀x∈r,dF n x) :Q2 39 #[v] w fun e w'=>C5 w (AD (n+1) (.agg (.lit (.string [98,101,103,105,110])::r))) e w':=by
 have C:Hid (AD (n+1) (.agg (.lit (.string [98,101,103,105,110])::r))=if(!r.isEmpty) then(Pl.B1 (AD n) r).map fun l=>BN .begin [] .nil l [] else none):=(form_key n _ r w8).trans rfl;have HR:=h_ h;have P:=h_ Z;have F:((.lit (.string [98,101,103,105,110]))::r).length<=1000:=h.short;simp only [c_] at F;obtain⟨b,g,ab,ac,u0,Q,rfl,hb,ck,c3,aa,hg,c0,hS,G,R,hA,H⟩:=h.cons;have S:=h_ hS;have HA:=h_ hA;have A:=h_ H;have T:=h_ G;obtain⟨b0,rfl,ad,I,J⟩:=R.EB;have R0:=h_ R;have B:=h_ E;clear h Z E hS hA H G R;have ae:w.cell? ⟨b0,0,none⟩=some (.string ⟨#[110,97,109,101]⟩):=I;have af:w.cell? ⟨b0,2,none⟩=some (.string ⟨([98,101,103,105,110]).toArray⟩):=J;clear I J;by_cases i:(!r.isEmpty)=true
 ·have U:(1:Int)<(r.length:Int)+1:=by cases r<;>simp at i⊢<;> omega
  have e1:isName (.agg ((.lit (.string [98,101,103,105,110]))::r))=false:=rfl;have V:((r.length:Int)+1==0)=false:=by simp;omega
  go_enter func39,ntmps39
  go_wp2_with fail
  refine(aV ok (n+1) _ _ _ HR).mono ?_;rintro e w1 ⟨rfl,o⟩;obtain⟨W,_⟩:=bP o;have q:=h_ o;have s:=o.size;clear o;go_wp2_with fail;refine(aR [98,101,103,105,110] _).mono ?_;rintro e w2 ⟨rfl,t⟩;have f:=h_ (q.trans (t.mono s));obtain⟨q2,_⟩:=bP f;have p:=f.size;rw [show EE [98,101,103,105,110]=true from by first | assumption | decide];clear t W q s;go_wp2_with fail;refine(cI n P _ _ Q r ((S.tail r.length T _ _ x8 zM5).later f) (A.later f) x8 B).mono ?_;rintro e K ⟨j,k⟩;have m:=h_ (f.trans (j.mono p));have u:=m.size;rcases k with⟨M,D,X,d,rfl,a,_,_,N,c⟩ | ⟨d,D,rfl⟩
  ·have y:Hid (AD (n+1) (.agg (.lit (.string [98,101,103,105,110])::r))=some (BN .begin [] .nil M [])):=C.trans (by rw [d,if_pos d9];rfl);have Y:X.length=r.length:=by have:=a.1;omega
   have HU:=(show Hid (∀O,O=Obj.cells #[AM (H5 .begin),AM [],.pointer none,D,.slice none 0 0,AM [],Q1 0,AM []] NE (0,0)->AX false (N+1) (K.alloc O) w.heap.size (K.alloc O).heap.size (Q0 K.heap.size) (BN .begin [] .nil M [])) from fun O ho=>fS p j.size a c w9 (by show 1<=_;have:=c.1;have:=a.1;have:r.length≠0:=(by intro h0;have:=e_ h0;subst this;simp at i);omega) (by have:=c.1;have:=a.1;omega) ho)
   obtain⟨L,z,rfl,_⟩:=bC a;clear j d a i c;go_wp2_with fail;go_ret;exact⟨m.alloc u _,.inl ⟨_,_,y,rfl,N+1,HU _ (by rw [Y];rfl)⟩⟩
  ·have y:Hid (AD (n+1) (.agg (.lit (.string [98,101,103,105,110])::r))=none):=C.trans (by rw [d];simp);clear j d i;go_wp2_with fail;go_ret;exact⟨m,.inr ⟨y,rfl⟩⟩
 ·have i:(!r.isEmpty)=false:=by simpa using i
  have U:decide ((1:Int)<(r.length:Int)+1)=false:=by cases r<;>simp at i⊢<;> omega
  have e1:isName (.agg ((.lit (.string [98,101,103,105,110]))::r))=false:=rfl;have V:((r.length:Int)+1==0)=false:=by simp;omega
  go_enter func39,ntmps39
  go_wp2_with fail
  refine(aV ok (n+1) _ _ _ HR).mono ?_;rintro e w1 ⟨rfl,o⟩;obtain⟨W,_⟩:=bP o;have q:=h_ o;have s:=o.size;clear o;go_wp2_with fail;refine(aR [98,101,103,105,110] _).mono ?_;rintro e w2 ⟨rfl,t⟩;have f:=h_ (q.trans (t.mono s));obtain⟨q2,_⟩:=bP f;have p:=f.size;rw [show EE [98,101,103,105,110]=true from by first | assumption | decide];clear t W q s;go_wp2_with fail
  ·exact zI7
  ·exact zI7
theorem C5.one{o:Option PF}{e:Ending}(h:C5 w o e w'):∃a,e=.returned (.pointer a)/\Q3 w w'/\((∃f b,o=some f/\a=some ⟨b,0,none⟩/\∃m,AX false m w' w.heap.size w'.heap.size (Q0 b) f)\/(o=none/\a=none)):=by
 obtain⟨d,⟨f,b,c,rfl,g⟩ | ⟨c,rfl⟩⟩:=h
 ·exact⟨_,rfl,d,.inl ⟨f,b,c,rfl,g⟩⟩
 ·exact⟨_,rfl,d,.inr ⟨c,rfl⟩⟩
theorem kC(n:Nat)(hF:EL n)(ok:Q5)(w:World)(v:Value)(r:List Tr)(h:AJ ok (n+1) w v (.agg (.lit (.string [108,97,109,98,100,97])::r)))(A:∀x∈r,dF n x) :Q2 39 #[v] w fun e u=>C5 w (AD (n+1) (.agg (.lit (.string [108,97,109,98,100,97])::r))) e u:=by
 have O:Hid (AD (n+1) (.agg (.lit (.string [108,97,109,98,100,97])::r))=Pl.J9 (AD n) r):=(form_key n _ r w8).trans rfl;have HR:=h_ h;have HF:=h_ hF;have B:((.lit (.string [108,97,109,98,100,97]))::r).length<=1000:=h.short;simp only [c_] at B;obtain⟨b,g,i,P,u0,us,rfl,hb,ck,Q,C,L,c0,hS,D,R,y,E⟩:=h.cons;have HS:=h_ hS;have HA:=h_ y;have S:=h_ E;have HL:=h_ D;obtain⟨b0,rfl,ac,F,G⟩:=R.EB;have R0:=h_ R;have T:=h_ A;clear h hF A hS y E D R;have ad:w.cell? ⟨b0,0,none⟩=some (.string ⟨#[110,97,109,101]⟩):=F;have ae:w.cell? ⟨b0,2,none⟩=some (.string ⟨([108,97,109,98,100,97]).toArray⟩):=G;clear F G;by_cases M:r.length=2
 ·obtain⟨z,t,rfl⟩:∃z t,r=[z,t]:=by
   match r,M with
   | [a,b],_=>exact⟨a,b,rfl⟩
  obtain⟨H,I,rfl⟩:∃H I,us=[H,I]:=by
   match us,HL with
   | [a,b],_=>exact⟨a,b,rfl⟩
  obtain⟨g',aa,ab,eS,_,_,_,U⟩:=HS.cell0;simp only [Value.slice.injEq,o_,Addr.mk.injEq,and_true] at eS;obtain⟨⟨rfl,rfl⟩,_,rfl⟩:=eS;have V:=U 0 H rfl;have W:=U 1 I rfl;simp only [Nat.zero_add,c_,z_] at V W Q C;obtain⟨X,s,y⟩:=S.out;have Y:AJ s n w H z:=y 0 H z rfl rfl;have Z:AJ s n w I t:=y 1 I t rfl rfl;obtain⟨d1,rfl⟩:=Y.ptr;obtain⟨d2,rfl⟩:=Z.ptr;have R1:=h_ Y;have R2:=h_ Z;clear U Y Z y X M;have e1:isName (.agg ((.lit (.string [108,97,109,98,100,97]))::[z,t]))=false:=rfl;go_enter func39,ntmps39;go_wp2_with fail;refine(aV ok (n+1) _ _ _ HR).mono ?_;rintro e w1 ⟨rfl,c⟩;obtain⟨q1,_⟩:=bP c;have k:=h_ c;have l:=c.size;clear c;go_wp2_with fail;refine(aR [108,97,109,98,100,97] _).mono ?_;rintro e w2 ⟨rfl,m⟩;have d:=h_ (k.trans (m.mono l));obtain⟨N,_⟩:=bP d;have o:=d.size;rw [show EE [108,97,109,98,100,97]=true from by first | assumption | decide];clear m q1 k l;go_wp2_with fail;have j3:=(N b 3 hb).trans Q;have j1:=(N g (i+1) L).trans V;have j2:=(N g (i+(1+1)) L).trans W
  go_region_held3 (fun u=>u.cell? ⟨b,3,none⟩=some (.slice (some ⟨g,i,none⟩) 3 P)/\u.cell? ⟨g,i+1,none⟩=some (Q0 d1)/\u.cell? ⟨g,i+2,none⟩=some (Q0 d2)/\Hid (Q3 w u))
   (first
    | (go_split_ands;exact⟨d9,d9,d9,kY d9⟩)
    | exact⟨j5,j6,j7,j⟩
    | go_keep)
   (first | (go_at_call 54;refine(mT n HF s s _ _ _ z t (R1.later d.drew) (R2.later d.drew) (T t w9)).mono ?_;rintro e w5 hp;obtain⟨po,rfl,J,q⟩:=C5.one hp;have j:=h_ ((d.drew.trans (J.mono o)));have j5:=(j.cell (p:=⟨b,3,none⟩) hb).trans Q;have j6:=(j.cell (p:=⟨g,i+1,none⟩) L).trans V;have j7:=(j.cell (p:=⟨g,i+(1+1),none⟩) L).trans W))
  have HC:=h_ q;clear q hp j5 j6 j7 J;go_wp2_with fail;go_ret;rcases HC.out with⟨f,bf,hr,rfl,m5,K⟩ | ⟨hr,rfl⟩
  ·exact⟨j,.inl ⟨_,_,O.trans hr,rfl,m5,K.wide o n_⟩⟩
  ·exact⟨j,.inr ⟨O.trans hr,rfl⟩⟩
 ·have af:((r.length:Int)+1==3)=false:=by simp;omega
  have HE:Hid (AD (n+1) (.agg (.lit (.string [108,97,109,98,100,97])::r))=none):=O.trans (by
   unfold Pl.J9;split
   ·simp at M
   ·rfl)
  clear M;have e1:isName (.agg ((.lit (.string [108,97,109,98,100,97]))::r))=false:=rfl;have ag:((r.length:Int)+1==0)=false:=by simp;omega
  go_enter func39,ntmps39
  go_wp2_with fail
  refine(aV ok (n+1) _ _ _ HR).mono ?_;rintro e w1 ⟨rfl,c⟩;obtain⟨q1,_⟩:=bP c;have k:=h_ c;have l:=c.size;clear c;go_wp2_with fail;refine(aR [108,97,109,98,100,97] _).mono ?_;rintro e w2 ⟨rfl,m⟩;have d:=h_ (k.trans (m.mono l));obtain⟨N,_⟩:=bP d;have o:=d.size;rw [show EE [108,97,109,98,100,97]=true from by first | assumption | decide];clear m q1 k l;go_wp2_with fail;go_ret;exact⟨d,.inr ⟨HE,rfl⟩⟩
theorem oP(n:Nat)(hF:EL n)(ok:Q5)(w:World)(v:Value)(r:List Tr)(h:AJ ok (n+1) w v (.agg (.lit (.string [108,101,116])::r)))(A:∀x∈r,dF n x) :Q2 39 #[v] w fun e y=>C5 w (AD (n+1) (.agg (.lit (.string [108,101,116])::r))) e y:=by
 have P:Hid (AD (n+1) (.agg (.lit (.string [108,101,116])::r))=Pl.J8 (AD n) r):=(form_key n _ r w8).trans rfl;have HR:=h_ h;have HF:=h_ hF;have B:((.lit (.string [108,101,116]))::r).length<=1000:=h.short;simp only [c_] at B;obtain⟨b,g,i,Q,u0,us,rfl,hb,ck,R,C,M,c0,hS,D,S,z,E⟩:=h.cons;have HS:=h_ hS;have HA:=h_ z;have T:=h_ E;have HL:=h_ D;obtain⟨b0,rfl,ac,F,G⟩:=S.EB;have R0:=h_ S;have H:=h_ A;clear h hF A hS z E D S;have ad:w.cell? ⟨b0,0,none⟩=some (.string ⟨#[110,97,109,101]⟩):=F;have ae:w.cell? ⟨b0,2,none⟩=some (.string ⟨([108,101,116]).toArray⟩):=G;clear F G;by_cases N:r.length=2
 ·obtain⟨t,u,rfl⟩:∃t u,r=[t,u]:=by
   match r,N with
   | [a,b],_=>exact⟨a,b,rfl⟩
  obtain⟨I,J,rfl⟩:∃I J,us=[I,J]:=by
   match us,HL with
   | [a,b],_=>exact⟨a,b,rfl⟩
  obtain⟨g',aa,ab,eS,_,_,_,U⟩:=HS.cell0;simp only [Value.slice.injEq,o_,Addr.mk.injEq,and_true] at eS;obtain⟨⟨rfl,rfl⟩,_,rfl⟩:=eS;have V:=U 0 I rfl;have W:=U 1 J rfl;simp only [Nat.zero_add,c_,z_] at V W R C;obtain⟨X,s,z⟩:=T.out;have Y:AJ s n w I t:=z 0 I t rfl rfl;have Z:AJ s n w J u:=z 1 J u rfl rfl;obtain⟨d1,rfl⟩:=Y.ptr;obtain⟨d2,rfl⟩:=Z.ptr;have R1:=h_ Y;have R2:=h_ Z;clear U Y Z z X N;have e1:isName (.agg ((.lit (.string [108,101,116]))::[t,u]))=false:=rfl;go_enter func39,ntmps39;go_wp2_with fail;refine(aV ok (n+1) _ _ _ HR).mono ?_;rintro e w1 ⟨rfl,c⟩;obtain⟨q1,_⟩:=bP c;have k:=h_ c;have l:=c.size;clear c;go_wp2_with fail;refine(aR [108,101,116] _).mono ?_;rintro e w2 ⟨rfl,m⟩;have d:=h_ (k.trans (m.mono l));obtain⟨O,_⟩:=bP d;have o:=d.size;rw [show EE [108,101,116]=true from by first | assumption | decide];clear m q1 k l;go_wp2_with fail;have j3:=(O b 3 hb).trans R;have j1:=(O g (i+1) M).trans V;have j2:=(O g (i+(1+1)) M).trans W
  go_region_held3 (fun y=>y.cell? ⟨b,3,none⟩=some (.slice (some ⟨g,i,none⟩) 3 Q)/\y.cell? ⟨g,i+1,none⟩=some (Q0 d1)/\y.cell? ⟨g,i+2,none⟩=some (Q0 d2)/\Hid (Q3 w y))
   (first
    | (go_split_ands;exact⟨d9,d9,d9,kY d9⟩)
    | exact⟨j5,j6,j7,j⟩
    | go_keep)
   (first | (go_at_call 55;refine(rf_let n HF s s _ _ _ t u (R1.later d.drew) (R2.later d.drew) (H t w9) (H u w9)).mono ?_;rintro e w5 hp;obtain⟨po,rfl,K,q⟩:=C5.one hp;have j:=h_ ((d.drew.trans (K.mono o)));have j5:=(j.cell (p:=⟨b,3,none⟩) hb).trans R;have j6:=(j.cell (p:=⟨g,i+1,none⟩) M).trans V;have j7:=(j.cell (p:=⟨g,i+(1+1),none⟩) M).trans W))
  have HC:=h_ q;clear q hp j5 j6 j7 K;go_wp2_with fail;go_ret;rcases HC.out with⟨f,bf,hr,rfl,m5,L⟩ | ⟨hr,rfl⟩
  ·exact⟨j,.inl ⟨_,_,P.trans hr,rfl,m5,L.wide o n_⟩⟩
  ·exact⟨j,.inr ⟨P.trans hr,rfl⟩⟩
 ·have af:((r.length:Int)+1==3)=false:=by simp;omega
  have HE:Hid (AD (n+1) (.agg (.lit (.string [108,101,116])::r))=none):=P.trans (by
   unfold Pl.J8;split
   ·simp at N
   ·rfl)
  clear N;have e1:isName (.agg ((.lit (.string [108,101,116]))::r))=false:=rfl;have ag:((r.length:Int)+1==0)=false:=by simp;omega
  go_enter func39,ntmps39
  go_wp2_with fail
  refine(aV ok (n+1) _ _ _ HR).mono ?_;rintro e w1 ⟨rfl,c⟩;obtain⟨q1,_⟩:=bP c;have k:=h_ c;have l:=c.size;clear c;go_wp2_with fail;refine(aR [108,101,116] _).mono ?_;rintro e w2 ⟨rfl,m⟩;have d:=h_ (k.trans (m.mono l));obtain⟨O,_⟩:=bP d;have o:=d.size;rw [show EE [108,101,116]=true from by first | assumption | decide];clear m q1 k l;go_wp2_with fail;go_ret;exact⟨d,.inr ⟨HE,rfl⟩⟩
theorem gP:∀n:Nat,n<=1000->EL n
 | 0,_=>fun _ _ _ _ h=>h.elim
 | n+1,i=>by
  have b:=gP n x8;intro a w v t h e;by_cases d:∃f,t=.agg f
  ·obtain⟨f,rfl⟩:=d
   cases f with
   | nil=>exact oO n a w v h
   | cons k r =>
    have c:∀x∈r,dF n x:=fun x m=>e.2 x (List.mem_cons_of_mem _ m)
    cases j:Pl.BJ (k::r) with
    | none=>exact mU n b a w v k r h e.2 j
    | some o =>
     obtain⟨rfl,g⟩:=pO j;have l:=(Pl.IH o).1 g;simp only [Pl.RZ,List.mem_cons,List.not_mem_nil,or_false] at l;rcases l with rfl | rfl | rfl | rfl | rfl | rfl | rfl
     ·exact lC n i b a w v r h (dF.CG _ _ e) c
     ·exact rQ n b a w v r h c
     ·exact kC n b a w v r h c
     ·exact oN n b a w v r h c
     ·exact kD n b a w v r h c
     ·exact lD n b a w v r h c
     ·exact oP n b a w v r h c
  ·exact mV n i a w v t h (dF.CG _ _ e) d
end
end Go.Proofs.YtbgghmjmcapmlaaGreatDoor
