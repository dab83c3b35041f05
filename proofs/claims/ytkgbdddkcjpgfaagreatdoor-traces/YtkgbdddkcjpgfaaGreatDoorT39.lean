import Derived.Test.YtkgbdddkcjpgfaaGreatDoorT36
import Derived.Test.YtkgbdddkcjpgfaaGreatDoorT32
import Derived.Test.YtkgbdddkcjpgfaaGreatDoorT13
namespace Go.Proofs.YtkgbdddkcjpgfaaGreatDoor
set_option maxHeartbeats 2000000
set_option maxRecDepth 100000
open Go.Proofs.Tryz
open Pl (PV PW PF AE FK)
section
open Go.RowKit Go.Lib
variable {w:World} {b:Nat} {v sl:Value} {M:Nat->Prop} {xs:List Value}
theorem D9.later{w':World}{sz n:Nat}(h:D9 b w sl sz n xs)(k:GP b w w'):D9 b w' sl sz n xs:=by obtain⟨l,m,a,e,o,p⟩:=h;refine⟨l,m,a,e,o,p.imp id ?_⟩;rintro⟨g,d,f,T,q,i,j,r,s⟩;exact⟨g,d,f,T,q,i,j,k.kept g _ r i (fun c t e=>j (by cases e;rfl)),s⟩
theorem XE(w:World)(b:Nat)(l:AE)(s:AE)(k:Int)(x:Value)(p:AE)(g:Nat)(z:A6 w b l)(A:s.length<=300)(B:L4 b w x p g)(hi:∃T v,x=.iface T v)(D:l.length+(g+700)<=1000000000) :Calls prog 381 #[.agg #[.string ⟨s.toArray⟩,.int .i64 k,x],.pointer (some ⟨b,0,none⟩)] w fun e c=>BE w b l (Pl.AP [Pl.KD,s,p]) (g+700) e c:=by
 have E:Hid (∀(d:World)(s:ByteArray),Below w.heap.size w d->Calls prog 339 #[.string s] d fun e c=>e=.returned (.agg #[.string s,.int .i64 0])/\Hid (Below w.heap.size w c)/\Hid (Below d.heap.size d c)):=fun d s q=>(aA3 d s).mono (fun e c ⟨F,C⟩=>⟨F,q.trans (C.mono q.size),C⟩)
 have G:Hid (∀j,Below w.heap.size w j->Calls prog 338 #[.pointer (some ⟨b,0,none⟩),.slice (some ⟨j.heap.size,0,none⟩) 3 3] (j.alloc (.cells #[.iface 214 (.agg #[.string ⟨#[115,101,116,33]⟩,.int .i64 0]),.iface 214 (.agg #[.string ⟨s.toArray⟩,.int .i64 k]),x] 61)) fun e c=>BE w b l (Pl.AP [Pl.KD,s,p]) (g+700) e c):=fun j q=>(aBC (T:=61) [VM Pl.KD,.iface 214 (.agg #[.string ⟨s.toArray⟩,.int .i64 k]),x] [Pl.KD,s,p] (m4 300 300 g 0) z (by decide) q rfl (fun i u t f m=>by
   rcases i with _ | _ | _ | i
   ·obtain rfl:=i_ f;obtain rfl:=i_ m;exact J_ b w Pl.KD 0 (by decide)
   ·obtain rfl:=i_ f;obtain rfl:=i_ m;exact J_ b w _ k A
   ·obtain rfl:=i_ f;obtain rfl:=i_ m;exact B
   ·simp at f) (by simp only [c_,z_,BP,m4];omega)).mono (fun e c h=>⟨h.1,h.2.1,by obtain⟨H,I,J,K⟩:=h.2.2;exact⟨H,I,J,by simp only [c_,z_,BP,m4] at K;omega⟩⟩)
 obtain⟨L,M,rfl⟩:=hi;have n:∀o:Obj,Below w.heap.size w (w.alloc o):=fun o=>r_.alloc n_ o;clear z B D A;go_enter func381,ntmps381;go_wp2_with fail
 go_region_with (first
  | (go_at_call 339;refine(E _ _ (by first | exact(n _).drew | exact n _)).mono ?_;rintro e d ⟨rfl,r,y⟩;have a:=(y.block w.heap.size (by simp)).trans (by first | exact heap_alloc_new w _ | rfl);have N:=aA a 0;have O:=aA a 1;have P:=aA a 2)
  | (go_at_call 338;refine(G _ r).mono ?_;rintro e j ⟨rfl,f,m⟩))
 all_goals
  go_wp2_with fail
  go_end0
  exact⟨rfl,f,m⟩
theorem aCI(w:World)(b:Nat)(l:AE)(s:AE)(k:Int)(x:Value)(p:AE)(g:Nat)(z:A6 w b l)(A:s.length<=300)(B:L4 b w x p g)(hi:∃T v,x=.iface T v)(D:l.length+(g+700)<=1000000000) :Calls prog 336 #[.agg #[.string ⟨s.toArray⟩,.int .i64 k,x],.pointer (some ⟨b,0,none⟩)] w fun e c=>BE w b l (Pl.AP [Pl.D4,s,p]) (g+700) e c:=by
 have E:Hid (∀(d:World)(s:ByteArray),Below w.heap.size w d->Calls prog 339 #[.string s] d fun e c=>e=.returned (.agg #[.string s,.int .i64 0])/\Hid (Below w.heap.size w c)/\Hid (Below d.heap.size d c)):=fun d s q=>(aA3 d s).mono (fun e c ⟨F,C⟩=>⟨F,q.trans (C.mono q.size),C⟩)
 have G:Hid (∀j,Below w.heap.size w j->Calls prog 338 #[.pointer (some ⟨b,0,none⟩),.slice (some ⟨j.heap.size,0,none⟩) 3 3] (j.alloc (.cells #[.iface 214 (.agg #[.string ⟨#[100,101,102,105,110,101]⟩,.int .i64 0]),.iface 214 (.agg #[.string ⟨s.toArray⟩,.int .i64 k]),x] 61)) fun e c=>BE w b l (Pl.AP [Pl.D4,s,p]) (g+700) e c):=fun j q=>(aBC (T:=61) [VM Pl.D4,.iface 214 (.agg #[.string ⟨s.toArray⟩,.int .i64 k]),x] [Pl.D4,s,p] (m4 300 300 g 0) z (by decide) q rfl (fun i u t f m=>by
   rcases i with _ | _ | _ | i
   ·obtain rfl:=i_ f;obtain rfl:=i_ m;exact J_ b w Pl.D4 0 (by decide)
   ·obtain rfl:=i_ f;obtain rfl:=i_ m;exact J_ b w _ k A
   ·obtain rfl:=i_ f;obtain rfl:=i_ m;exact B
   ·simp at f) (by simp only [c_,z_,BP,m4];omega)).mono (fun e c h=>⟨h.1,h.2.1,by obtain⟨H,I,J,K⟩:=h.2.2;exact⟨H,I,J,by simp only [c_,z_,BP,m4] at K;omega⟩⟩)
 obtain⟨L,M,rfl⟩:=hi;have n:∀o:Obj,Below w.heap.size w (w.alloc o):=fun o=>r_.alloc n_ o;clear z B D A;go_enter func336,ntmps336;go_wp2_with fail
 go_region_with (first
  | (go_at_call 339;refine(E _ _ (by first | exact(n _).drew | exact n _)).mono ?_;rintro e d ⟨rfl,r,y⟩;have a:=(y.block w.heap.size (by simp)).trans (by first | exact heap_alloc_new w _ | rfl);have N:=aA a 0;have O:=aA a 1;have P:=aA a 2)
  | (go_at_call 338;refine(G _ r).mono ?_;rintro e j ⟨rfl,f,m⟩))
 all_goals
  go_wp2_with fail
  go_end0
  exact⟨rfl,f,m⟩
theorem aDZ(w:World)(b:Nat)(l:AE)(sl:Value)(a:List Value)(d:List AE)(f:Nat->Nat)(k:A6 w b l)(m:D9 b w sl 1 a.length a)(c:d.length=a.length)(g:∀(i:Nat)(u:Value)(t:AE),a[i]?=some u->d[i]?=some t->L4 b w u t (f i))(r:l.length+2+BP f a.length<=1000000000) :Calls prog 388 #[.agg #[sl],.pointer (some ⟨b,0,none⟩)] w fun e j=>BE w b l (Pl.AP d) (2+BP f a.length) e j:=by
 have v:Hid (∀o:Obj,Calls prog 338 #[.pointer (some ⟨b,0,none⟩),sl] (w.alloc o) fun e j=>BE w b l (Pl.AP d) (2+BP f a.length) e j):=fun o=>by have n:=CE w b o (Nat.le_of_lt k.lt);exact(aB1 _ b l sl a d f (k.alloc o) (m.later n) c (fun i u t p q=>(g i u t p q).later n) r).mono (fun e j h=>h.pre n)
 obtain⟨y,x,rfl,s⟩:=m.slice;clear k m c g r;go_enter func388,ntmps388;go_wp2_with (go_at_call 338;refine(v _).mono ?_;rintro e z ⟨rfl,p,q⟩)
 go_end0
 exact⟨rfl,p,q⟩
theorem Tryz.v_(b:Option Addr)(n a:Nat)(w:World):(Go.method 638 515 (.slice b n a) "Spell").run prog w=.ok (406,.slice b n a) w:=by kernel_rfl
theorem Tryz.Y0:Enters 406:=enters_of func406 (by kernel_rfl) rfl
theorem WE{ns:List AE}{ks:List Nat}(c:D9 b w sl 2 ns.length (d7 ns ks))(a:ns.length=ks.length)(e:∀x∈ns,x.length<=300):L4 b w (.iface 515 sl) (Pl.AP ns) (2+BP (fun _=>300) ns.length):=fun d l f g i=>by obtain⟨j,h,rfl,_⟩:=c.slice;exact⟨_,_,_,_,rfl,Tryz.v_ _ _ _ d,Tryz.Y0,XF d b l _ ns ks g (c.later f) a e (by omega)⟩
theorem WC{W:PW}(a:OU W){s:Sg}(c:QB w s W.pairs b){p:PV}(d:RV s v p)(g:BL W p):L4 b w v (Pl.text W.pairs p) 711:=fun h l i j z=>by obtain⟨T,x,f,k,e,m,n,o⟩:=uP W a s b (Pl.B7 p) h l v p j (c.below i.below) d g n_ (by omega);exact⟨T,x,f,k,e,m,n,o.mono (fun e A ⟨q,r,t,u,y,B⟩=>⟨q,r,t,u,y,by omega⟩)⟩
theorem aCH(w:World)(b:Nat)(l:AE)(sl:Value)(ns:List AE)(C:List Nat)(x:Value)(r:AE)(k:Nat)(D:A6 w b l)(z:D9 b w sl 2 ns.length (d7 ns C))(a:ns.length=C.length)(m:∀x∈ns,x.length<=300)(E:L4 b w x r k)(hi:∃T v,x=.iface T v)(H:l.length+(k+BP (fun _=>300) ns.length+400)<=1000000000) :Calls prog 375 #[.agg #[sl,x],.pointer (some ⟨b,0,none⟩)] w fun e c=>BE w b l (Pl.AP [Pl.D3,Pl.AP ns,r]) (k+BP (fun _=>300) ns.length+400) e c:=by
 have d:=WE z a m;have I:Hid (∀(g:World)(s:ByteArray),Below w.heap.size w g->Calls prog 339 #[.string s] g fun e c=>e=.returned (.agg #[.string s,.int .i64 0])/\Hid (Below w.heap.size w c)/\Hid (Below g.heap.size g c)):=fun g s y=>(aA3 g s).mono (fun e c ⟨J,F⟩=>⟨J,y.trans (F.mono y.size),F⟩)
 have K:Hid (∀n,Below w.heap.size w n->Calls prog 342 #[.pointer (some ⟨b,0,none⟩),.slice (some ⟨n.heap.size,0,none⟩) 3 3] (n.alloc (.cells #[.iface 214 (.agg #[.string ⟨#[108,97,109,98,100,97]⟩,.int .i64 0]),.iface 515 sl,x] 319)) fun e c=>BE w b l (Pl.AP [Pl.D3,Pl.AP ns,r]) (k+BP (fun _=>300) ns.length+400) e c):=fun n y=>(aBU (T:=319) [VM Pl.D3,.iface 515 sl,x] [Pl.D3,Pl.AP ns,r] (m4 300 (2+BP (fun _=>300) ns.length) k 0) D (by decide) y rfl (fun i u t j p=>by
   rcases i with _ | _ | _ | i
   ·obtain rfl:=i_ j;obtain rfl:=i_ p;exact J_ b w Pl.D3 0 (by decide)
   ·obtain rfl:=i_ j;obtain rfl:=i_ p;exact d
   ·obtain rfl:=i_ j;obtain rfl:=i_ p;exact E
   ·simp at j) (by simp only [c_,z_,BP,m4];omega)).mono (fun e c h=>⟨h.1,h.2.1,by obtain⟨L,M,N,O⟩:=h.2.2;exact⟨L,M,N,by simp only [c_,z_,BP,m4] at O;omega⟩⟩)
 obtain⟨Q,R,rfl⟩:=hi;obtain⟨S,P,rfl,G⟩:=z.slice;have q:∀o:Obj,Below w.heap.size w (w.alloc o):=fun o=>r_.alloc n_ o;clear D E H z a m d;go_enter func375,ntmps375;go_wp2_with fail
 go_region_with (first
  | (go_at_call 339;refine(I _ _ (by first | exact(q _).drew | exact q _)).mono ?_;rintro e g ⟨rfl,A,B⟩;have f:=(B.block w.heap.size (by simp)).trans (by first | exact heap_alloc_new w _ | rfl);have U:=aA f 0;have V:=aA f 1)
  | (go_at_call 342;refine(K _ A).mono ?_;rintro e n ⟨rfl,j,p⟩))
 all_goals
  go_wp2_with fail
  go_end0
  exact⟨rfl,j,p⟩
theorem aCG(w:World)(b:Nat)(l:AE)(x:Value)(k:AE)(r:A6 w b l)(y:L4 b w x k 711)(hi:∃T v,x=.iface T v)(A:l.length+1500<=1000000000) :Calls prog 340 #[.agg #[x,.bool true],.pointer (some ⟨b,0,none⟩)] w fun e a=>BE w b l (Pl.AP [Pl.FB,k]) 1500 e a:=by
 have B:Hid (∀(d:World)(s:ByteArray),Below w.heap.size w d->Calls prog 339 #[.string s] d fun e a=>e=.returned (.agg #[.string s,.int .i64 0])/\Hid (Below w.heap.size w a)/\Hid (Below d.heap.size d a)):=fun d s m=>(aA3 d s).mono (fun e a ⟨C,z⟩=>⟨C,m.trans (z.mono m.size),z⟩)
 have D:Hid (∀f,Below w.heap.size w f->Calls prog 342 #[.pointer (some ⟨b,0,none⟩),.slice (some ⟨f.heap.size,0,none⟩) 2 2] (f.alloc (.cells #[.iface 214 (.agg #[.string ⟨#[113,117,111,116,101]⟩,.int .i64 0]),x] 319)) fun e a=>BE w b l (Pl.AP [Pl.FB,k]) 1500 e a):=fun f m=>(aBU (T:=319) [VM Pl.FB,x] [Pl.FB,k] (m4 300 711 0 0) r (by decide) m rfl (fun i u t g n=>by
   rcases i with _ | _ | i
   ·obtain rfl:=i_ g;obtain rfl:=i_ n;exact J_ b w Pl.FB 0 (by decide)
   ·obtain rfl:=i_ g;obtain rfl:=i_ n;exact y
   ·simp at g) (by simp only [c_,z_,BP,m4];omega)).mono (fun e a h=>⟨h.1,h.2.1,by obtain⟨E,F,G,H⟩:=h.2.2;exact⟨E,F,G,by simp only [c_,z_,BP,m4] at H;omega⟩⟩)
 obtain⟨I,J,rfl⟩:=hi;have j:∀o:Obj,Below w.heap.size w (w.alloc o):=fun o=>r_.alloc n_ o;clear r y A;go_enter func340,ntmps340;go_wp2_with fail
 go_region_with (first
  | (go_at_call 339;refine(B _ _ (by first | exact(j _).drew | exact j _)).mono ?_;rintro e d ⟨rfl,p,q⟩;have c:=(q.block w.heap.size (by simp)).trans (by first | exact heap_alloc_new w _ | rfl);have K:=aA c 0;have L:=aA c 1)
  | (go_at_call 342;refine(D _ p).mono ?_;rintro e f ⟨rfl,g,n⟩))
 all_goals
  go_wp2_with fail
  go_end0
  exact⟨rfl,g,n⟩
theorem aDD(w:World)(b:Nat)(l:AE)(x:Value)(g:AE)(i:A6 w b l)(k:L4 b w x g 711)(n:l.length+1500<=1000000000) :Calls prog 340 #[.agg #[x,.bool false],.pointer (some ⟨b,0,none⟩)] w fun e d=>BE w b l g 1500 e d:=by
 have j:=CE w b (.cells #[x,.bool false] 223) (Nat.le_of_lt i.lt);obtain⟨T,v,f,o,rfl,m,c,a⟩:=k _ l j (i.alloc _) (by omega);unfold Enters at c;have p:Hid (Calls prog f #[o,.pointer (some ⟨b,0,none⟩)] (w.alloc (.cells #[.iface T v,.bool false] 223)) fun e d=>BE w b l g 1500 e d):=a.mono (fun e d h=>by obtain⟨q,r,s,t,u,A⟩:=h;exact⟨q,j.trans r,s,t,u,by omega⟩);clear i k n a j;go_enter func340,ntmps340;go_wp2_with (refine Calls.mono p ?_;rintro e B ⟨rfl,y,z⟩)
 go_end0
 exact⟨rfl,y,z⟩
theorem aA2{P:Program}{d:Array Oper}{o:Oper}{a:Act}{K:Act->World->Prop}{Q:Exit->Act->World->Prop}{E:Prop}(g:o.guard=none)(f:FuncId)(i:Operand)(l:Array TypeId)
  (n:o.op=.call {callee:=.value (.func f),args:=#[i],argTypes:=l}) {j:Func} {c:Code} (p:P.funcs[f]?=some j) (b:(j.name == "runtime.NumGoroutine")=false) (q:j.body=some c)
  (k:Value) (r:a.eval i=k) {R:Ending->World->Prop} (s:Calls P f #[k] w R) (h:∀e m,R e m->∃v,e=.returned v/\K (a.put o.dst v) m):if Region.wanted o (yielded d a.tmps)=true then Oper.wp P o a w K Q else E :=
 tP g f #[i] l n p b q #[k] (by simp [r]) s h
def mC(m:Nat)(ms:Nat->Nat):Nat->Nat
 | 0=>m
 | i+1=>ms i
theorem aBA(m:Nat)(a:Nat->Nat)(n:Nat):BP (mC m a) (1+n)=m+1+BP a n:=by
 induction n with
 | zero=>simp [BP,mC]
 | succ n b =>rw [show 1+(n+1)=(1+n)+1 by omega];simp only [BP];rw [b,show 1+n=n+1 by omega];simp only [mC];omega
theorem WX{base:Nat}(l:b<base)(h:w.ownsRow base 61 1 sl xs.length xs):D9 b w sl 1 xs.length xs:=by
 refine⟨by simp,?_⟩;rcases h.2 with⟨c,f⟩ | ⟨g,d,e,c,m,j,a,_,_,n⟩
 ·exact⟨none,0,by rw [c,f],by omega,.inl f⟩
 ·refine⟨some ⟨g,0,none⟩,d,c,a,.inr ⟨g,0,e,_,rfl,by omega,by decide,j,fun i u k=>?_⟩⟩;have:=h.cells (g:=g) (by rw [c];rfl) i u k;rw [Addr.add_lit,Nat.zero_add] at this;rw [aA j i] at this;rw [Nat.zero_add];exact this
theorem aDE(w:World)(b:Nat)(l:AE)(sl:Value)(c:List Value)(B:List AE)(A:Nat->Nat)(K:A6 w b l)(hr:D9 b w sl 1 c.length c)(P:0<c.length)(C:∀u∈c,u.oneCell'=true)(D:B.length=c.length)(E:∀(i:Nat)(u:Value)(t:AE),c[i]?=some u->B[i]?=some t->L4 b w u t (A i))(hb:l.length+(303+BP A c.length)<=1000000000) :Calls prog 386 #[.agg #[sl],.pointer (some ⟨b,0,none⟩)] w fun e q=>BE w b l (Pl.AP (Pl.D6::B)) (303+BP A c.length) e q:=by
 obtain⟨i0,Q,R,S,T⟩:=info_parts Tryz.T6;have ad:c.length<=1000000000:=t_ (aBN A _) (by omega);have ae:=K.lt;have HK:Hid (∀(a:World)(s:ByteArray),Below w.heap.size w a->Calls prog 339 #[.string s] a fun e q=>e=.returned (.agg #[.string s,.int .i64 0])/\Hid (Below w.heap.size w q)/\Hid (Below a.heap.size a q)):=fun a s p=>(aA3 a s).mono (fun e q ⟨F,L⟩=>⟨F,p.trans (L.mono p.size),L⟩)
 have HF:=(show Hid (∀(a r:World)(o:Obj)(G d:Nat),Below w.heap.size w a->r.ownsRow a.heap.size 61 1 (.slice (some ⟨G,0,none⟩) (1+c.length) d) (1+c.length) ([VM Pl.D6]++c)->(a.alloc o).grownBy r (some a.heap.size)->Calls prog 338 #[.pointer (some ⟨b,0,none⟩),.slice (some ⟨G,0,none⟩) (1+c.length) d] r fun e q=>BE w b l (Pl.AP (Pl.D6::B)) (303+BP A c.length) e q) from fun a r o G d p v hg=>by
  have H:=p.size;have U:Below w.heap.size w r:=(p.alloc H o).grown hg (by simp;omega) (fun j hj=>by obtain rfl:=i_ hj;exact H);obtain⟨F,L⟩:=K.IE U;have M:([VM Pl.D6]++c).length=1+c.length:=by simp;omega
  rw [<- M] at v ⊢
  have hp:=aB1 r b l _ _ (Pl.D6::B) (mC 300 A) L (WX (by omega) v) (by rw [M];simp;omega) (fun i u t N O=>by
   rcases i with _ | i
   ·obtain rfl:=i_ N;obtain rfl:=i_ O;exact(J_ b w Pl.D6 0 (by decide)).later F
   ·exact(E i u t (by simpa using N) (by simpa using O)).later F) (by rw [M,aBA];omega)
  refine hp.mono (fun e q h=>(BE.pre F ⟨h.1,h.2.1,?_⟩));obtain⟨l',q1,q2,q3⟩:=h.2.2
  exact⟨l',q1,q2,by rw [M,aBA] at q3;omega⟩)
 have V:=(show Hid (∀a,Below w.heap.size w a->∀i u,c[i]?=some u->∃g f m,sl=.slice (some ⟨g,f,none⟩) c.length m/\a.cell? ⟨g,f+i,none⟩=some u) from fun a p i u W=>by
  obtain⟨g,f,m,e,_,_,y⟩:=hr.cell (K.IE p).1 W
  exact⟨g,f,m,e,y⟩)
 obtain⟨g,f,m,rfl,_⟩:=V.out w r_ 0 (c[0]'P) (g_ P)
 have HC:=(show Hid (∀a,Below w.heap.size w a->∀j u,c[j]?=some u->a.cell? (Addr.add ⟨g,f,none⟩ j)=some u) from fun a p j u W=>by
  obtain⟨g',aa,ab,e,y⟩:=V.out a p j u W;simp only [Value.slice.injEq,o_,Addr.mk.injEq,true_and,and_true] at e;obtain⟨⟨rfl,rfl⟩,_⟩:=e;rw [Addr.add_mid]
  exact y)
 have X:Hid (∀a:World,(a.alloc (.cells #[VM Pl.D6] 61)).ownsRow a.heap.size 61 1 (.slice (some ⟨a.heap.size,0,none⟩) 1 1) 1 [VM Pl.D6]):=fun a=>qU a _ n_ _;have I:∀o:Obj,Below w.heap.size w (w.alloc o):=fun o=>r_.alloc n_ o;clear K hr E hb V D;unfold VM Pl.D6 at *;go_enter func386,ntmps386;go_wp2_with fail
 go_region_law (first
  | (refine aA2 (by rfl) 339 _ _ (by rfl) func339 (by kernel_rfl) rfl (.string ⟨#[98,101,103,105,110]⟩) (by rfl) (HK _ _ (by first | exact(I _).drew | exact I _)) ?_;rintro e a ⟨rfl,z,Y⟩;refine⟨_,rfl,?_⟩;have x:=(Y.block w.heap.size (by simp)).trans (by first | exact heap_alloc_new w _ | rfl);have d0:=aA x 0;have J:=aB x;have ac:w.heap.size≠a.heap.size:=Nat.ne_of_lt J)
  | (refine step_append_lies _ (by rfl) _ _ 345 (by rfl) a.heap.size 61 i0 .nilIface 1 16 underlying345 Q R S T rfl (by decide) (.slice (some ⟨a.heap.size,0,none⟩) 1 1) 1 _ (by rfl) (X a) ⟨g,f,none⟩ c.length m c (by rfl) (by omega) (HC _ (z.alloc z.size _)) C P (by unfold maxLen;omega) (by omega) (by simp) (a.heap.size+1) (by simp) ?_;intro G d r n k _ _;have Z:=(show Hid _ from HF.out a r _ G d z n k);clear n k)
  | (refine kO (by rfl) 338 _ _ _ (by rfl) func338 (by kernel_rfl) rfl _ _ (by rfl) (by rfl) Z ?_;rintro e w4 ⟨rfl,N,O⟩;refine⟨_,rfl,?_⟩))
 all_goals
  go_wp2_with fail
  go_end0
  exact⟨rfl,N,O⟩
mutual
def fK:PF->Nat
 | .mk _ _ _ _ ks ns=>1500+301*ns.length+VO ks
def VO:List PF->Nat
 | []=>0
 | x::r=>fK x+1+VO r
end
theorem ZK(k:FK)(nm:AE)(d:Pl.A9)(v:PV)(a:List PF)(ns:List AE):fK (.mk k nm d v a ns)=1500+301*ns.length+VO a:=by simp [fK]
theorem I_(x:PF)(r:List PF):VO (x::r)=fK x+1+VO r:=by simp [VO]
theorem aA7:VO []=0:=by simp [VO]
def VL(ks:List PF)(i:Nat):Nat:=(ks[i]?.map fK).getD 0
theorem aB4:∀a:List PF,BP (VL a) a.length=VO a
 | []=>by simp [BP,aA7]
 | x::r=>by
  have e:VL (x::r)=mC (fK x) (VL r):=by
   funext i
   cases i with
   | zero=>rfl
   | succ i=>simp [VL,mC]
  rw [e,c_,Nat.add_comm,aBA,aB4 r,I_]
theorem aBJ(n:Nat):BP (fun _=>300) n=301*n:=by
 induction n with
 | zero=>rfl
 | succ n a=>simp only [BP];omega
theorem fK_le{W:PW}{f:PF}(h:EU W f):fK f<=92200*IU f:=by
 induction h with
 | mk k o d v i p q s t u j w _ _ m =>
  have c:∀l:List PF,(∀x∈l,fK x<=92200*IU x)->VO l<=92200*OT l+l.length:=fun l=>by
   induction l with
   | nil=>intro _;rw [aA7];omega
   | cons y r e =>intro g;have a:=g y (by simp);have b:=e (fun x n=>g x (List.mem_cons_of_mem _ n));rw [I_,ZL,c_];omega
  have:=c i m;rw [ZK,OL];have:=j.1;omega
theorem aC8{l:AE}{T:TypeId}{sz n:Nat}(k:A6 w b l)(f:T≠L3/\T≠JM)(h:Sl M w T sz v n xs):D9 b w v sz n xs:=by obtain⟨m,o,a,e,p,q⟩:=h;refine⟨m,o,a,e,p,q.imp id ?_⟩;rintro⟨g,c,d,r,_,i,s⟩;obtain⟨t,j,_⟩:=k;exact⟨g,c,d,T,r,fun e=>by subst e;rw [i] at j;cases j;exact f.1 rfl,f.2,i,s⟩
theorem Tryz.x_(x y z:Value)(w:World):(Go.method 638 335 (.agg #[x,y,z]) "Spell").run prog w=.ok (378,.agg #[x,y,z]) w:=by kernel_rfl
theorem Tryz.Y2:Enters 378:=enters_of func378 (by kernel_rfl) rfl
theorem Tryz.WJ(x y z:Value)(w:World):(Go.method 638 340 (.agg #[x,y,z]) "Spell").run prog w=.ok (381,.agg #[x,y,z]) w:=by kernel_rfl
theorem Tryz.UN:Enters 381:=enters_of func381 (by kernel_rfl) rfl
theorem Tryz.WL(x y z:Value)(w:World):(Go.method 638 218 (.agg #[x,y,z]) "Spell").run prog w=.ok (336,.agg #[x,y,z]) w:=by kernel_rfl
theorem Tryz.UP:Enters 336:=enters_of func336 (by kernel_rfl) rfl
theorem Tryz.WK(x y:Value)(w:World):(Go.method 638 329 (.agg #[x,y]) "Spell").run prog w=.ok (375,.agg #[x,y]) w:=by kernel_rfl
theorem Tryz.UO:Enters 375:=enters_of func375 (by kernel_rfl) rfl
theorem Tryz.WM(x y:Value)(w:World):(Go.method 638 223 (.agg #[x,y]) "Spell").run prog w=.ok (340,.agg #[x,y]) w:=by kernel_rfl
theorem Tryz.UQ:Enters 340:=enters_of func340 (by kernel_rfl) rfl
theorem Tryz.WO(x:Value)(w:World):(Go.method 638 347 (.agg #[x]) "Spell").run prog w=.ok (386,.agg #[x]) w:=by kernel_rfl
theorem Tryz.US:Enters 386:=enters_of func386 (by kernel_rfl) rfl
theorem Tryz.WN(x:Value)(w:World):(Go.method 638 349 (.agg #[x]) "Spell").run prog w=.ok (388,.agg #[x]) w:=by kernel_rfl
theorem Tryz.UR:Enters 388:=enters_of func388 (by kernel_rfl) rfl
theorem BE.more{w':World}{l t:AE}{m m':Nat}{e:Ending}(h:BE w b l t m e w')(i:m<=m'):BE w b l t m' e w':=by obtain⟨a,c,d,f,g,j⟩:=h;exact⟨a,c,d,f,g,by omega⟩
theorem CP.one{s:Sg}{f:PF}(h:CP M w s v f):v.oneCell'=true:=by obtain⟨T,x,rfl⟩:=h.iface;rfl
theorem p_spF{W:PW}(Y:OU W){s:Sg}{Z:AE}(F:A6 w b Z)(hL:QB w s W.pairs b){f:PF}(h:CP M w s v f):EU W f->L4 b w v (Pl.fT W.pairs f) (fK f):=by
 have Q:D8≠L3/\D8≠JM:=by decide
 have T2:B6≠L3/\B6≠JM:=by decide
 induction h with
 | const x q g d v j o h hq =>
  intro m c l n p r;have R:=WC Y hL h (m.val rfl);rw [ZK] at r ⊢;obtain⟨T,y,rfl⟩:=h.iface;refine⟨_,_,_,_,rfl,Tryz.WM _ _ c,Tryz.UQ,?_⟩;have e:Pl.fT W.pairs (.mk .const g d v j o)=if isQ d then Pl.AP [Pl.FB,Pl.text W.pairs v] else Pl.text W.pairs v:=by simp [Pl.fT]
  rw [e,<-hq]
  cases q with
  | true=>exact(aCG c b l _ _ p (R.later n) ⟨_,_,rfl⟩ (by omega)).mono (fun e E h=>h.more (by omega))
  | false=>exact(aDD c b l _ _ p (R.later n) (by omega)).mono (fun e E h=>h.more (by omega))
 | name k g d v j o h =>
  intro m c l n p r;rw [ZK] at r ⊢;have e:Pl.fT W.pairs (.mk .name g d v j o)=g:=by simp [Pl.fT]
  rw [e];exact⟨_,_,_,_,rfl,Tryz.QG _ _ c,Tryz.MY,(aB9 c b l g k p (by omega) m.lnm).mono (fun e E h=>h.more (by omega))⟩
 | iff x y z S U V g d v o B C K J L i3 =>
  intro m c l n p r;have A:=J (m.KG (by simp [Pl.PF.ks]));have G:=L (m.KG (by simp [Pl.PF.ks]));have k3:=i3 (m.KG (by simp [Pl.PF.ks]));rw [ZK,I_,I_,I_,aA7] at r ⊢;have e:Pl.fT W.pairs (.mk .iff g d v [S,U,V] o)=Pl.AP [Pl.UB,Pl.fT W.pairs S,Pl.fT W.pairs U,Pl.fT W.pairs V]:=by simp [Pl.fT,Pl.GD]
  rw [e];exact⟨_,_,_,_,rfl,Tryz.x_ _ _ _ c,Tryz.Y2,(p_spIf c b l x y z _ _ _ _ _ _ p (A.later n) (G.later n) (k3.later n) ⟨B.iface,C.iface,K.iface⟩ (by omega)).mono (fun e E h=>h.more (by omega))⟩
 | set k a x g d v o h B J =>
  intro m c l n p r;have A:=J (m.KG (by simp [Pl.PF.ks]));rw [ZK,I_,aA7] at r ⊢;have e:Pl.fT W.pairs (.mk .set g d v [x] o)=Pl.AP [Pl.KD,g,Pl.fT W.pairs x]:=by simp [Pl.fT,Pl.GD]
  rw [e];exact⟨_,_,_,_,rfl,Tryz.WJ _ _ _ c,Tryz.UN,(XE c b l g k a _ _ p m.lnm (A.later n) B.iface (by omega)).mono (fun e E h=>h.more (by omega))⟩
 | define k a x g d v o h B J =>
  intro m c l n p r;have A:=J (m.KG (by simp [Pl.PF.ks]));rw [ZK,I_,aA7] at r ⊢;have e:Pl.fT W.pairs (.mk .define g d v [x] o)=Pl.AP [Pl.D4,g,Pl.fT W.pairs x]:=by simp [Pl.fT,Pl.GD]
  rw [e];exact⟨_,_,_,_,rfl,Tryz.WL _ _ _ c,Tryz.UP,(aCI c b l g k a _ _ p m.lnm (A.later n) B.iface (by omega)).mono (fun e E h=>h.more (by omega))⟩
 | begin H I g d v j o B C K g4 g5 N =>
  intro m c l n p r;have O:D9 b w H 1 I.length I:=by rw [C];exact aC8 F Q B
  rw [ZK,<-aB4,<-C] at r ⊢;have e:Pl.fT W.pairs (.mk .begin g d v j o)=Pl.AP (Pl.D6::Pl.GD W.pairs j):=by simp [Pl.fT]
  rw [e]
  exact⟨_,_,_,_,rfl,Tryz.WO _ c,Tryz.US,(aDE c b l H I _ (VL j) p (O.later n) (by omega) (fun u hu=>by
   obtain⟨i,X⟩:=List.getElem?_of_mem hu;obtain⟨x,D⟩:∃x,j[i]?=some x:=⟨_,g_ (by have:=(s_ X).1;omega)⟩
   exact(K i u x X D).one) (by rw [Pl.JD,C]) (fun i u t A G=>by
   obtain⟨x,D⟩:∃x,j[i]?=some x:=⟨_,g_ (by have:=(s_ A).1;omega)⟩
   rw [Pl.KT W.pairs j i x D] at G;obtain rfl:=i_ G;have P:VL j i=fK x:=by simp [VL,D]
   rw [P]
   exact(N i u x A D (m.KG (q_ D))).later n) (by omega)).mono (fun e E h=>h.more (by omega))⟩
 | call H I g d v j o B C K g4 g5 N =>
  intro m c l n p r;have O:D9 b w H 1 I.length I:=by rw [C];exact aC8 F Q B
  rw [ZK,<-aB4,<-C] at r ⊢;have e:Pl.fT W.pairs (.mk .call g d v j o)=Pl.AP (Pl.GD W.pairs j):=by simp [Pl.fT]
  rw [e]
  exact⟨_,_,_,_,rfl,Tryz.WN _ c,Tryz.UR,(aDZ c b l H I _ (VL j) p (O.later n) (by rw [Pl.JD,C]) (fun i u t A G=>by
   obtain⟨x,D⟩:∃x,j[i]?=some x:=⟨_,g_ (by have:=(s_ A).1;omega)⟩
   rw [Pl.KT W.pairs j i x D] at G;obtain rfl:=i_ G;have P:VL j i=fK x:=by simp [VL,D]
   rw [P]
   exact(N i u x A D (m.KG (q_ D))).later n) (by omega)).mono (fun e E h=>h.more (by omega))⟩
 | lambda H a x g d v o B C L =>
  intro m c l n p r;have A:=L (m.KG (by simp [Pl.PF.ks]));obtain⟨⟨j,j1,j2⟩,_,_⟩:=B;have hl:o.length=j.length:=j1.1.symm;rw [ZK,I_,aA7] at r ⊢;have e:Pl.fT W.pairs (.mk .lambda g d v [x] o)=Pl.AP [Pl.D3,Pl.AP o,Pl.fT W.pairs x]:=by simp [Pl.fT,Pl.GD]
  rw [e];exact⟨_,_,_,_,rfl,Tryz.WK _ _ c,Tryz.UO,(aCH c b l H o j a _ _ p ((aC8 F T2 j2).later n) hl m.lnx (A.later n) C.iface (by rw [aBJ];omega)).mono (fun e E h=>h.more (by rw [aBJ];omega))⟩
theorem aD0{W:PW}(r:OU W){s:Sg}(t:QB w s W.pairs w.heap.size)(b:Stp M w M (w.alloc (.cells #[.slice none 0 0] L3))){f:PF}(h:CP M w s v f)(i:EU W f) :Calls prog 126 #[v] w fun e u=>e=.returned (.string ⟨(Pl.cut (Pl.fT W.pairs f)).toArray⟩)/\Below w.heap.size w u:=by
 have j:Below w.heap.size w (w.alloc (.cells #[.slice none 0 0] L3)):=cX w _ _ n_;have y:=fK_le i;have z:=i.nd;obtain⟨T,x,g,D,rfl,c,d,a⟩:=p_spF r (aBW w) (t.below j) (h.go b (Sg.Le.refl _)) i _ [] (GP.refl _ _) (aBW w) (by simp only [z_];omega);have A:=h_ j;have B:=h_ a;have C:Hid (fK f<=140000000000000):=show fK f<=_ from by omega
 unfold Enters at d;unfold L3 at c;clear a t h i j r y z b;go_enter func126,ntmps126
 go_wp2_with (first
  | (go_at_call 168;refine(S4 _ _ k l m).mono ?_;rintro e E ⟨rfl,rfl⟩)
  | (refine Calls.mono B ?_;rintro e F ⟨rfl,n,k,o,p,q⟩;have l:=h_ o;have m:Hid (k.length<=140000000000000):=show k.length<=_ from(by have:=C.out;simp only [z_] at q;omega)))
 go_ret;exact⟨by rw [p.cut];rfl,A.trans n.below⟩
theorem aCK(w:World)(g:Nat)(y z A k B:Value)(T:TypeId)(x:Value)(t:ByteArray)(n:Int)(h:w.heap[g]?=some (.cells #[y,.iface T x,z,A,k,B] BT (0,0)))(C:∃o,k=.pointer o)
  (i:∀a,Below w.heap.size w a->Calls prog 126 #[.iface T x] a fun e b=>e=.returned (.string t)/\Below a.heap.size a b)
  (j:∀a,Below w.heap.size w a->Calls prog 127 #[k] a fun e b=>e=.returned (.int .i64 n)/\a=b) :
  Calls prog 80 #[.pointer (some ⟨g,1,none⟩)] w fun e b=>e=.returned (.agg #[.int .i64 1,.string t,.int .i64 n])/\Below w.heap.size w b:=by
 have l:=aB h;have F:w.cell? ⟨g,1,none⟩=some (.iface T x):=aA h 1;have G:w.cell? ⟨g,4,none⟩=some k:=aA h 4;obtain⟨o,rfl⟩:=C;have c:∀o:Obj,Below w.heap.size w (w.alloc o):=fun o=>r_.alloc n_ o;have m:Hid (∀a,Below w.heap.size w a->Calls prog 126 #[.iface T x] a fun e b=>e=.returned (.string t)/\Hid (Below w.heap.size w b)/\Hid (Below a.heap.size a b)):=fun a p=>(i a p).mono (fun e b ⟨D,s⟩=>⟨D,p.trans (s.mono p.size),s⟩);have q:=h_ j;have E:=h_ h;clear i j h;go_enter func80,ntmps80;go_wp2_with fail
 go_region_law (first
  | (refine aA2 (by rfl) 126 _ _ (by rfl) func126 (by kernel_rfl) rfl (.iface T x) (by rfl) (m _ (by first | exact(c _).drew | exact c _)) ?_;rintro e a ⟨rfl,f,r⟩;refine⟨_,rfl,?_⟩;have d:=(r.block w.heap.size (by simp)).trans (by first | exact heap_alloc_new w _ | rfl);have H:a.cell? ⟨g,4,none⟩=some (.pointer o):=aA ((f.block g l).trans E) 4;have u:=aB d;obtain⟨I,J,K,L,M,N,O,P,Q⟩:=FA d)
  | (refine aA2 (by rfl) 127 _ _ (by rfl) func127 (by kernel_rfl) rfl (.pointer o) (by rfl) (q _ (by first | exact f.out | exact(c _).drew | exact c _)) ?_;rintro e R ⟨rfl,rfl⟩;refine⟨_,rfl,?_⟩))
 all_goals
  go_wp2_with fail
  (try simp only [Exit.inBlock,Exit.then])
  refine bodyPost_ret (v:=.agg #[.int .i64 1,.string t,.int .i64 n]) ?_ rfl ?_
  ·rw [aO rfl]
   go_simp
   try rfl
  exact⟨rfl,bO (bO (bO f n_ _ _) n_ _ _) n_ _ _⟩
theorem aCL(w:World)(b:Nat)(z A l B:Value)(T:TypeId)(x:Value)(t:ByteArray)(n:Int)(h:w.heap[b]?=some (.cells #[z,.nilIface,A,.iface T x,l,B] BT (0,0)))(C:∃o,l=.pointer o)
  (i:∀a,Below w.heap.size w a->Calls prog 126 #[.iface T x] a fun e c=>e=.returned (.string t)/\Below a.heap.size a c)
  (j:∀a,Below w.heap.size w a->Calls prog 127 #[l] a fun e c=>e=.returned (.int .i64 n)/\a=c) :
  Calls prog 80 #[.pointer (some ⟨b,1,none⟩)] w fun e c=>e=.returned (.agg #[.int .i64 2,.string t,.int .i64 n])/\Below w.heap.size w c:=by
 have k:=aB h;have E:w.cell? ⟨b,1,none⟩=some .nilIface:=aA h 1;have F:w.cell? ⟨b,3,none⟩=some (.iface T x):=aA h 3;have G:w.cell? ⟨b,4,none⟩=some l:=aA h 4;obtain⟨o,rfl⟩:=C;have d:∀o:Obj,Below w.heap.size w (w.alloc o):=fun o=>r_.alloc n_ o;have m:Hid (∀a,Below w.heap.size w a->Calls prog 126 #[.iface T x] a fun e c=>e=.returned (.string t)/\Hid (Below w.heap.size w c)/\Hid (Below a.heap.size a c)):=fun a p=>(i a p).mono (fun e c ⟨D,s⟩=>⟨D,p.trans (s.mono p.size),s⟩);have q:=h_ j;have u:=h_ h;clear i j h;go_enter func80,ntmps80;go_wp2_with fail
 go_region_law (first
  | (refine aA2 (by rfl) 126 _ _ (by rfl) func126 (by kernel_rfl) rfl (.iface T x) (by rfl) (m _ (by first | exact(d _).drew | exact d _)) ?_;rintro e a ⟨rfl,f,r⟩;refine⟨_,rfl,?_⟩;have g:=(r.block w.heap.size (by simp)).trans (by first | exact heap_alloc_new w _ | rfl);have H:a.cell? ⟨b,3,none⟩=some (.iface T x):=aA ((f.block b k).trans u) 3;have I:a.cell? ⟨b,4,none⟩=some (.pointer o):=aA ((f.block b k).trans u) 4;have y:=aB g;obtain⟨J,K,L,M,N,O,P,Q,R⟩:=FA g)
  | (refine aA2 (by rfl) 127 _ _ (by rfl) func127 (by kernel_rfl) rfl (.pointer o) (by rfl) (q _ (by first | exact f.out | exact(d _).drew | exact d _)) ?_;rintro e S ⟨rfl,rfl⟩;refine⟨_,rfl,?_⟩))
 all_goals
  go_wp2_with fail
  (try simp only [Exit.inBlock,Exit.then])
  refine bodyPost_ret (v:=.agg #[.int .i64 2,.string t,.int .i64 n]) ?_ rfl ?_
  ·rw [aO rfl]
   go_simp
   try rfl
  exact⟨rfl,bO (bO (bO f n_ _ _) n_ _ _) n_ _ _⟩
end
end Go.Proofs.YtkgbdddkcjpgfaaGreatDoor
