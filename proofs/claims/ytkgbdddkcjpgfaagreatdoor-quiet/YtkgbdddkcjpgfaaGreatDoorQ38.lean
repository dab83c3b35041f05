import Derived.Test.YtkgbdddkcjpgfaaGreatDoorQ37
namespace Go.Proofs.YtkgbdddkcjpgfaaGreatDoor
set_option maxHeartbeats 4000000
set_option maxRecDepth 100000
open Go.Proofs.Tryz
open Pl (PV PW PF AE)
section
open Go.RowKit Go.Maps Go.Lib
variable {w w2 wy w':World} {M O P M':Nat->Prop} {N b:Nat} {l:List Nat}
theorem aF6{x:Option Obj}(h:w.heap[b]?=x):w.drew.heap[b]?=x:=h
theorem aF5{x o:Obj}(h:w.heap[b]?=some x):(w.alloc o).heap[b]?=some x:=(k_ (aB h)).trans h
theorem aF7{c:Array Value}{T:TypeId}(h:b=w.heap.size):(w.alloc (.cells c T)).heap[b]?=some (.cells c T (0,0)):=by subst h;exact heap_alloc_new w _
theorem aGC{z v:Value}{T:TypeId}(h:w.heap[b]?=some (.cells #[z] T (0,0))):(w.setCell ⟨b,0,none⟩ v).heap[b]?=some (.cells #[v] T (0,0)):=aD h 0 v
theorem aGA{b' o:Nat}{v:Value}{x:Obj}(a:b≠b')(h:w.heap[b]?=some x):(w.setCell ⟨b',o,none⟩ v).heap[b]?=some x:=(Below.heap_setCell _ _ _ _ (fun e=>a (by simpa using e))).trans h
def Ml(M:Nat->Prop):List Nat->Nat->Prop
 | []=>M
 | b::l=>Ms (Ml M l) b
theorem Ml.not:∀{l:List Nat} {b:Nat},b∈l->¬Ml M l b
 | a::l,b,h=>fun x=>by
  rcases List.mem_cons.1 h with rfl | h
  ·exact x.2 rfl
  ·exact Ml.not h x.1
theorem Ml.le:∀{l:List Nat} {b:Nat},Ml M l b->M b
 | [],_,h=>h
 | _::l,_,h=>Ml.le (l:=l) h.1
theorem Ml.of:∀{l:List Nat} {b:Nat},M b->b∉l->Ml M l b
 | [],_,h,_=>h
 | _::_,_,h,a=>⟨Ml.of h (fun x=>a (List.mem_cons_of_mem _ x)),fun e=>a (e▸List.mem_cons_self ..)⟩
theorem Stp.shutl(M:Nat->Prop)(l:List Nat)(w:World):Stp M w (Ml M l) w:=⟨rfl,rfl,rfl,n_,fun _ _ a=>⟨rfl,fun x=>a (Ml.le x)⟩⟩
structure Cw(L:Lo)(M O P:Nat->Prop)(w:World)(F:Fg)(W:PW)(M':Nat->Prop)(w2:World)(G:Fg)(N:Nat)(l:List Nat)(wy:World):Prop where
 cmp:Cmp L M O P w F W M' wy G N
 AQ:Stp M' w2 M' wy
 cr:∀k∈l,Cr M' wy G k
 ne:∀k∈l,¬P k
theorem Cw.set{L:Lo}{F G:Fg}{W:PW}(h:Cw L M O P w F W M' w2 G N l wy)(q:b∈l)(o:Nat)(v:Value):Cw L M O P w F W M' w2 G N l (wy.setCell ⟨b,o,none⟩ v):=by
 have c:=h.cr b q;obtain⟨y,r,i⟩:=h.cmp.fw.codeSet c o v;have m:∀k,P k->k≠b:=fun k n e=>h.ne b q (e▸n)
 have d:∀k,Cr M' wy G k->Cr M' (wy.setCell ⟨b,o,none⟩ v) G k:=fun k ⟨g,⟨f,T,s,t⟩,u⟩=>by
  by_cases e:k=b
  ·subst e;exact⟨g,⟨_,T,aD s o v,t⟩,u⟩
  ·exact⟨g,⟨f,T,(i k e).trans s,t⟩,u⟩
 obtain⟨A,⟨f,B,g,z⟩,C⟩:=c;refine⟨⟨h.cmp.AQ.trans r,h.cmp.le,h.cmp.s,y,fun j a=>?_,fun j a=>(i j (m j a)).trans (h.cmp.row j a),fun j a=>d j (h.cmp.cr j a)⟩,h.AQ.trans r,fun k n=>d k (h.cr k n),h.ne⟩;obtain⟨_,⟨x,p⟩,_⟩:=h.cmp.fw.oth j a;exact(i j (aGF p g (tCs z).1)).trans (h.cmp.oth j a)
theorem Cw.below{L:Lo}{wz:World}{F G:Fg}{W:PW}(h:Cw L M O P w F W M' w2 G N l wy)(a:Below wy.heap.size wy wz):Cw L M O P w F W M' w2 G N l wz:=⟨h.cmp.below a,h.AQ.trans (Stp.AA a),fun k b=>(h.cr k b).below a,h.ne⟩
theorem Cw.alloc{L:Lo}{F G:Fg}{W:PW}(h:Cw L M O P w F W M' w2 G N l wy){o:Obj}:Cw L M O P w F W M' w2 G N l (wy.alloc o):=h.below b_
theorem Cw.drew{L:Lo}{F G:Fg}{W:PW}(h:Cw L M O P w F W M' w2 G N l wy):Cw L M O P w F W M' w2 G N l wy.drew:=h.below (r_.drew)
theorem FW.codeEndl{L:Lo}{F:Fg}{W:PW}(h:FW L M O w F N W):∀{l:List Nat},l.Nodup->(∀k∈l,Cr M w F k)->FW L (Ml M l) O w F N W
 | [],_,_=>h
 | b::l,a,c=>by have d:=FW.codeEndl h (List.nodup_cons.1 a).2 (fun k e=>c k (List.mem_cons_of_mem _ e));obtain⟨f,g,i⟩:=c b (List.mem_cons_self ..);exact d.codeEnd ⟨Ml.of f (List.nodup_cons.1 a).1,g,i⟩
theorem Cw.shut{L:Lo}{F G:Fg}{W:PW}(h:Cw L M O P w F W M' w2 G N l wy)(b:l.Nodup):Cmp L M O P w F W (Ml M' l) wy G N/\Stp M' w2 (Ml M' l) wy:=by
 have s:=Stp.shutl M' l wy
 exact⟨⟨h.cmp.AQ.trans s,h.cmp.le,h.cmp.s,h.cmp.fw.codeEndl b h.cr,h.cmp.oth,h.cmp.row,fun k a=>by
  obtain⟨c,d,e⟩:=h.cmp.cr k a
  exact⟨Ml.of c (fun x=>h.ne k x a),d,e⟩⟩,h.AQ.trans s⟩
def Ah(w:World)(w':World)(l:List Nat):Prop:=l.Nodup/\Below w.heap.size w w'/\∀k∈l,w.heap.size<=k/\∃z T,w'.heap[k]?=some (.cells #[z] T (0,0))/\(T=TCod\/T=TInt)
def Ml2(M:Nat->Prop)(l:List Nat):Nat->Prop:=Mn M (fun k=>k∈l)
theorem Ah.go{L:Lo}{F:Fg}{W:PW}(m:Ah w w' l)(h:FW L M O w F N W)(i:∀k,P k->Cr M w F k):FW L (Ml2 M l) O w' F N W/\Stp M w (Ml2 M l) w'/\(∀k,(P k\/k∈l)->Cr (Ml2 M l) w' F k)/\∀k∈l,¬P k:=by
 obtain⟨u,j,b⟩:=m;obtain⟨n,o⟩:=h.more j (fun k=>k∈l) (fun k a=>(b k a).1) (fun k a=>by obtain⟨_,_,_,q,_⟩:=b k a;exact aB q);refine⟨n,o,fun k a=>?_,fun k a x=>by have:=(i k x).lt;have:=(b k a).1;omega⟩;rcases a with a | a
 ·obtain⟨d,f,p⟩:=(i k a).below j;exact⟨.inl d,f,p⟩
 ·obtain⟨v,z,T,d,f⟩:=b k a;refine⟨.inr a,⟨_,T,d,.inl f⟩,fun r g=>?_⟩;obtain⟨y,A,B,c,e,s,t,_⟩:=(h.sit r g).ex;have:=aB s;have:=aB t;omega
theorem Cw.of{L:Lo}{F G:Fg}{W:PW}{N':Nat}(e:Ah w w' l)(h:FW L M O w F N W)(f:∀k,P k->Cr M w F k)(c:Cmp L (Ml2 M l) O (fun k=>P k\/k∈l) w' F W M' w2 G N'):Cw L M O P w F W M' w2 G N' l w2:=by obtain⟨_,s,_,d⟩:=e.go h f;obtain⟨_,g,_⟩:=e;exact⟨⟨s.trans c.AQ,c.le,c.s,c.fw,fun b i=>(c.oth b i).trans (g.block b (h.olt i)),fun k a=>(c.row k (.inl a)).trans (g.block k (f k a).lt),fun k a=>c.cr k (.inl a)⟩,Stp.refl _ _,fun k a=>c.cr k (.inr a),d⟩
def AhQ(L:Lo)(M O P:Nat->Prop)(w:World)(F:Fg)(W:PW)(x:PF)(sc:List (List AE))(N:Nat)(l:List Nat)(w':World)(e:Ending)(w2:World):Prop:=∃ku cu,e=.returned (.func (.func ku) #[] cu)/\w'.heap.size<=w2.heap.size/\(∀k,w.heap.size<=k->k<w'.heap.size->w2.heap[k]?=w'.heap[k]?)/\∃M2 G,Cw L M O P w F W M2 w2 G N l w2/\RC M2 w2 G (fnV ku cu) x sc
theorem AhQ.of{L:Lo}{F:Fg}{W:PW}{N':Nat}{x:PF}{sc:List (List AE)}{e:Ending}(f:Ah w w' l)(h:FW L M O w F N W)(g:∀k,P k->Cr M w F k)(c:CmpQ L (Ml2 M l) O (fun k=>P k\/k∈l) w' F W x sc N' e w2):AhQ L M O P w F W x sc N' l w' e w2:=by
 obtain⟨u,i,G,rfl,a,d⟩:=c;obtain⟨j,m,rfl⟩:=d.func;refine⟨j,m,rfl,a.AQ.size,fun k n b=>?_,i,G,Cw.of f h g a,d⟩;by_cases e:k∈l
 ·exact a.row k (.inr e)
 ·exact(a.AQ.block k b (fun x=>by
   rcases x with x | x
   ·have:=h.mlt k x;omega
   ·exact e x)).1
theorem ahA(w:World):Ah w w.drew []:=⟨List.nodup_nil,r_.drew,fun k a=>by cases a⟩
theorem ahB(w:World)(z:Value)(T:TypeId)(a:T=TCod\/T=TInt):Ah w (w.alloc (.cells #[z] T)).drew [w.heap.size]:=⟨by simp,b_.drew,fun k b=>by
 obtain rfl:=List.mem_singleton.1 b
 exact⟨n_,z,T,heap_alloc_new w _,a⟩⟩
theorem ahD(w:World)(z d:Value)(T a:TypeId)(e:T=TCod\/T=TInt)(b:a=TCod\/a=TInt):Ah w ((w.alloc (.cells #[z] T)).alloc (.cells #[d] a)).drew [w.heap.size,w.heap.size+1]:=⟨by simp,(b_.alloc (by simp) _).drew,fun k c=>by
 rcases List.mem_cons.1 c with rfl | c
 ·exact⟨n_,z,T,aF5 (aF7 rfl),e⟩
 ·obtain rfl:=List.mem_singleton.1 c
  exact⟨by omega,d,a,aF7 (by simp),b⟩⟩
theorem aG9{L:Lo}{M2:Nat->Prop}{F G:Fg}{W:PW}{u:Value}{x:PF}{ns:List AE}{sc:List (List AE)}(g:RC M2 w2 G u x (ns::sc))(i:Cw L M O P w F W M2 w2 G N l w2)(h:Cw L M O P w F W M2 w2 G N l wy){b7 b8:Nat}(j:wy.heap[b7]?=some (.cells #[.int .i64 (ns.length:Int)] TInt (0,0)))(k:wy.heap[b8]?=some (.cells #[u] TCod (0,0)))(m:b7∈l\/w2.heap.size<=b7)(n:b8∈l\/w2.heap.size<=b8)(o:l.Nodup)(f:ns.Nodup)(nm:AE)(d:Pl.A9)(v:PV) :CmpQ L M O P w F W (.mk .lambda nm d v [x] ns) sc N (.returned (fnV 293 #[pt b7,pt b8])) wy:=by
 obtain⟨c,s⟩:=h.shut o
 have a:∀b,(b∈l\/w2.heap.size<=b)->¬Ml M2 l b:=fun b e=>by
  rcases e with e | e
  ·exact Ml.not e
  ·exact fun x=>by have:=i.cmp.mlt b (Ml.le x);omega
 exact⟨_,_,G,rfl,c,.lambda b7 b8 u x nm d v ns sc ⟨a _ m,j⟩ ⟨a _ n,k⟩ f (g.go s (Fg.Le.refl _))⟩
theorem aKD{L:Lo}{F:Fg}{W:PW}(h:FW L M O w F N W)(hP:∀k,P k->Cr M w F k){sl a av:Value}{x:PF}{ns:List AE}(I:EI M w F.s sl ns)(K:ns.Nodup)(hx:CP M w F.s a x)(ih:CmpOk L O W x){sc:List (List AE)}(hs:ScR M w F.s av sc)(hl:sc.length+1+IU x<=1100)(hN:N+(1+IU x)<=9000000000000000000)(nm:AE)(d:Pl.A9)(v:PV) :Calls prog 274 #[.pointer (some ⟨L.sb,0,none⟩),.agg #[sl,a],av] w (CmpQ L M O P w F W (.mk .lambda nm d v [x] ns) sc (N+(1+IU x))):=by
 obtain⟨w1,Q⟩:∃w1,w1=w.alloc (.cells #[sl,a] TLam):=⟨_,rfl⟩
 have C:Below w.heap.size w w1:=by rw [Q];exact b_
 have R:Hid (∀S l,Ah w1 S l->Calls prog 292 #[.pointer (some ⟨L.sb,0,none⟩),.agg #[sl,a],av] S (AhQ L M O P w F W x (ns::sc) (N+(1+IU x)) l S)):=fun S l hA=>by
  have U:Ah w S l:=⟨hA.1,C.trans (hA.2.1.mono C.size),fun k o=>⟨t_ C.size (hA.2.2 k o).1,(hA.2.2 k o).2⟩⟩
  obtain⟨f,s,cr,_⟩:=U.go h hP;have l0:=Sg.Le.refl F.s;refine(p_body f cr (I.go s l0) (hx.go s l0) ih (hs.go s l0) hl (by omega)).mono (fun e b t=>?_);obtain⟨u,M',G,e1,c1,H⟩:=t;exact AhQ.of U h hP ⟨u,M',G,e1,c1.up (by omega),H⟩
 have J:Hid ns.Nodup:=K;obtain⟨oa,rfl⟩:=hs.ptr;obtain⟨T,y,rfl⟩:=hx.iface;obtain⟨A,c,rfl⟩:∃A c,sl=.slice A ns.length c:=by obtain⟨⟨_,_,h2⟩,_,_⟩:=I;obtain⟨A,c,e,_⟩:=h2.shape;exact⟨A,c,e⟩
 subst Q;clear h hP I hx ih hs C K;go_enter func274,ntmps274;have HS:Hid (∀D:World,D.heap[w.heap.size]?=some (.cells #[.slice A ns.length c,.iface T y] TLam (0,0))->w.heap.size<D.heap.size/\D.cell? ⟨w.heap.size,0,none⟩=some (.slice A ns.length c)/\D.cell? ⟨w.heap.size,1,none⟩=some (.iface T y)):=fun D q=>⟨aB q,aA q 0,aA q 1⟩
 go_upto_region 1 with fail
 have ac:∀(a:Addr)(fn:Fn)(first c:Array Value)(w:World),(store a (.func fn first c)).run prog w=stored prog w a (.func fn first c) .plain:=fun _ _ _ _ _=>run_store _ _ _ _ _ rfl
 go_region_held3 (fun D=>w.heap.size<D.heap.size/\D.cell? ⟨w.heap.size,0,none⟩=some (.slice A ns.length c)/\D.cell? ⟨w.heap.size,1,none⟩=some (.iface T y))
  ((refine HS.out _ ?_;repeat' first | exact B.out | exact aF7 rfl | apply aF6 | (refine aGA (by omega) ?_) | apply aF5))
  ((go_at_call 292;first
  | (refine(Calls.mono (R _ _ (ahD _ _ _ TInt TCod (.inr rfl) (.inl rfl))) ?_);rintro e b ⟨ku,cu,rfl,g,o,M2,G,t⟩;have p:b.heap[w.heap.size+1]?=some (.cells #[_] TInt (0,0)):=(o _ (by first | omega | (simp;done) | (simp;omega)) (by first | omega | (simp;done) | (simp;omega))).trans (aF6 (aF5 (aF7 (by first | omega | (simp;done) | (simp;omega)))));have r:b.heap[w.heap.size+1+1]?=some (.cells #[_] TCod (0,0)):=(o _ (by first | omega | (simp;done) | (simp;omega)) (by first | omega | (simp;done) | (simp;omega))).trans (aF6 (aF7 (by first | omega | (simp;done) | (simp;omega))));have i:b.heap[w.heap.size]?=some (.cells #[_,_] TLam (0,0)):=(o _ n_ (by first | omega | (simp;done) | (simp;omega))).trans (aF6 (aF5 (aF5 (aF7 rfl))));have V:b.cell? ⟨_,0,none⟩=some (.int .i64 0):=aA p 0;have X:=aF p 0;have Y:=aB p;have j:=(show Hid _ from p);clear p;have Z:b.cell? ⟨_,0,none⟩=some .nilFunc:=aA r 0;have aa:=aF r 0;have ab:=aB r;have m:=(show Hid _ from r);clear r;have HQ:=(show Hid _ from t);clear t o;have z:w.heap.size+1<=b.heap.size:=(by simp at g;omega);have d0:b.cell? ⟨w.heap.size,0,none⟩=some (.slice A ns.length c):=aA i 0;have d1:b.cell? ⟨w.heap.size,1,none⟩=some (.iface T y):=aA i 1;have E:=aB i;have B:=(show Hid _ from i);clear i g)
  | (refine(Calls.mono (R _ _ (ahD _ _ _ TCod TInt (.inl rfl) (.inr rfl))) ?_);rintro e b ⟨ku,cu,rfl,g,o,M2,G,t⟩;have r:b.heap[w.heap.size+1]?=some (.cells #[_] TCod (0,0)):=(o _ (by first | omega | (simp;done) | (simp;omega)) (by first | omega | (simp;done) | (simp;omega))).trans (aF6 (aF5 (aF7 (by first | omega | (simp;done) | (simp;omega)))));have p:b.heap[w.heap.size+1+1]?=some (.cells #[_] TInt (0,0)):=(o _ (by first | omega | (simp;done) | (simp;omega)) (by first | omega | (simp;done) | (simp;omega))).trans (aF6 (aF7 (by first | omega | (simp;done) | (simp;omega))));have i:b.heap[w.heap.size]?=some (.cells #[_,_] TLam (0,0)):=(o _ n_ (by first | omega | (simp;done) | (simp;omega))).trans (aF6 (aF5 (aF5 (aF7 rfl))));have Z:b.cell? ⟨_,0,none⟩=some .nilFunc:=aA r 0;have aa:=aF r 0;have ab:=aB r;have m:=(show Hid _ from r);clear r;have V:b.cell? ⟨_,0,none⟩=some (.int .i64 0):=aA p 0;have X:=aF p 0;have Y:=aB p;have j:=(show Hid _ from p);clear p;have HQ:=(show Hid _ from t);clear t o;have z:w.heap.size+1<=b.heap.size:=(by simp at g;omega);have d0:b.cell? ⟨w.heap.size,0,none⟩=some (.slice A ns.length c):=aA i 0;have d1:b.cell? ⟨w.heap.size,1,none⟩=some (.iface T y):=aA i 1;have E:=aB i;have B:=(show Hid _ from i);clear i g)
  | (refine(Calls.mono (R _ _ (ahB _ _ TInt (.inr rfl))) ?_);rintro e b ⟨ku,cu,rfl,g,o,M2,G,t⟩;have p:b.heap[w.heap.size+1]?=some (.cells #[_] TInt (0,0)):=(o _ (by first | omega | (simp;done) | (simp;omega)) (by first | omega | (simp;done) | (simp;omega))).trans (aF6 (aF7 (by first | omega | (simp;done) | (simp;omega))));have i:b.heap[w.heap.size]?=some (.cells #[_,_] TLam (0,0)):=(o _ n_ (by first | omega | (simp;done) | (simp;omega))).trans (aF6 (aF5 (aF7 rfl)));have V:b.cell? ⟨_,0,none⟩=some (.int .i64 0):=aA p 0;have X:=aF p 0;have Y:=aB p;have j:=(show Hid _ from p);clear p;have HQ:=(show Hid _ from t);clear t o;have z:w.heap.size+1<=b.heap.size:=(by simp at g;omega);have d0:b.cell? ⟨w.heap.size,0,none⟩=some (.slice A ns.length c):=aA i 0;have d1:b.cell? ⟨w.heap.size,1,none⟩=some (.iface T y):=aA i 1;have E:=aB i;have B:=(show Hid _ from i);clear i g)
  | (refine(Calls.mono (R _ _ (ahB _ _ TCod (.inl rfl))) ?_);rintro e b ⟨ku,cu,rfl,g,o,M2,G,t⟩;have r:b.heap[w.heap.size+1]?=some (.cells #[_] TCod (0,0)):=(o _ (by first | omega | (simp;done) | (simp;omega)) (by first | omega | (simp;done) | (simp;omega))).trans (aF6 (aF7 (by first | omega | (simp;done) | (simp;omega))));have i:b.heap[w.heap.size]?=some (.cells #[_,_] TLam (0,0)):=(o _ n_ (by first | omega | (simp;done) | (simp;omega))).trans (aF6 (aF5 (aF7 rfl)));have Z:b.cell? ⟨_,0,none⟩=some .nilFunc:=aA r 0;have aa:=aF r 0;have ab:=aB r;have m:=(show Hid _ from r);clear r;have HQ:=(show Hid _ from t);clear t o;have z:w.heap.size+1<=b.heap.size:=(by simp at g;omega);have d0:b.cell? ⟨w.heap.size,0,none⟩=some (.slice A ns.length c):=aA i 0;have d1:b.cell? ⟨w.heap.size,1,none⟩=some (.iface T y):=aA i 1;have E:=aB i;have B:=(show Hid _ from i);clear i g)
  | (refine(Calls.mono (R _ _ (ahA _)) ?_);rintro e b ⟨ku,cu,rfl,g,o,M2,G,t⟩;have i:b.heap[w.heap.size]?=some (.cells #[_,_] TLam (0,0)):=(o _ n_ (by first | omega | (simp;done) | (simp;omega))).trans (aF6 (aF7 rfl));have HQ:=(show Hid _ from t);clear t o;have z:w.heap.size+1<=b.heap.size:=(by simp at g;omega);have d0:b.cell? ⟨w.heap.size,0,none⟩=some (.slice A ns.length c):=aA i 0;have d1:b.cell? ⟨w.heap.size,1,none⟩=some (.iface T y):=aA i 1;have E:=aB i;have B:=(show Hid _ from i);clear i g)))
 all_goals
  go_wp2_with fail
  go_ret;obtain⟨n,H⟩:=HQ.out;first
  | (show CmpQ L M O P w F W (.mk .lambda nm d v [x] ns) sc (N+(1+IU x)) (.returned (fnV 293 #[pt (b.heap.size),pt (b.heap.size+1)])) _;exact(aG9 (b7:=b.heap.size) (b8:=b.heap.size+1) H n (by repeat' first | exact n | apply Cw.drew | (refine Cw.set ?_ ?_ _ _) | apply Cw.alloc | (simp;done)) (by repeat' first | exact j.out | exact m.out | exact aF7 (by simp) | apply aF6 | apply aGC | (refine aGA (by omega) ?_) | apply aF5) (by repeat' first | exact j.out | exact m.out | exact aF7 (by simp) | apply aF6 | apply aGC | (refine aGA (by omega) ?_) | apply aF5) (by first | (left;simp;done) | (right;omega) | (right;simp;done)) (by first | (left;simp;done) | (right;omega) | (right;simp;done)) (by simp) J nm d v))
  | (show CmpQ L M O P w F W (.mk .lambda nm d v [x] ns) sc (N+(1+IU x)) (.returned (fnV 293 #[pt (b.heap.size+1),pt (b.heap.size)])) _;exact(aG9 (b7:=b.heap.size+1) (b8:=b.heap.size) H n (by repeat' first | exact n | apply Cw.drew | (refine Cw.set ?_ ?_ _ _) | apply Cw.alloc | (simp;done)) (by repeat' first | exact j.out | exact m.out | exact aF7 (by simp) | apply aF6 | apply aGC | (refine aGA (by omega) ?_) | apply aF5) (by repeat' first | exact j.out | exact m.out | exact aF7 (by simp) | apply aF6 | apply aGC | (refine aGA (by omega) ?_) | apply aF5) (by first | (left;simp;done) | (right;omega) | (right;simp;done)) (by first | (left;simp;done) | (right;omega) | (right;simp;done)) (by simp) J nm d v))
  | (show CmpQ L M O P w F W (.mk .lambda nm d v [x] ns) sc (N+(1+IU x)) (.returned (fnV 293 #[pt (w.heap.size+1),pt (b.heap.size)])) _;exact(aG9 (b7:=w.heap.size+1) (b8:=b.heap.size) H n (by repeat' first | exact n | apply Cw.drew | (refine Cw.set ?_ ?_ _ _) | apply Cw.alloc | (simp;done)) (by repeat' first | exact j.out | exact m.out | exact aF7 (by simp) | apply aF6 | apply aGC | (refine aGA (by omega) ?_) | apply aF5) (by repeat' first | exact j.out | exact m.out | exact aF7 (by simp) | apply aF6 | apply aGC | (refine aGA (by omega) ?_) | apply aF5) (by first | (left;simp;done) | (right;omega) | (right;simp;done)) (by first | (left;simp;done) | (right;omega) | (right;simp;done)) (by simp) J nm d v))
  | (show CmpQ L M O P w F W (.mk .lambda nm d v [x] ns) sc (N+(1+IU x)) (.returned (fnV 293 #[pt (b.heap.size),pt (w.heap.size+1)])) _;exact(aG9 (b7:=b.heap.size) (b8:=w.heap.size+1) H n (by repeat' first | exact n | apply Cw.drew | (refine Cw.set ?_ ?_ _ _) | apply Cw.alloc | (simp;done)) (by repeat' first | exact j.out | exact m.out | exact aF7 (by simp) | apply aF6 | apply aGC | (refine aGA (by omega) ?_) | apply aF5) (by repeat' first | exact j.out | exact m.out | exact aF7 (by simp) | apply aF6 | apply aGC | (refine aGA (by omega) ?_) | apply aF5) (by first | (left;simp;done) | (right;omega) | (right;simp;done)) (by first | (left;simp;done) | (right;omega) | (right;simp;done)) (by simp) J nm d v))
  | (show CmpQ L M O P w F W (.mk .lambda nm d v [x] ns) sc (N+(1+IU x)) (.returned (fnV 293 #[pt (w.heap.size+1),pt (w.heap.size+1+1)])) _;exact(aG9 (b7:=w.heap.size+1) (b8:=w.heap.size+1+1) H n (by repeat' first | exact n | apply Cw.drew | (refine Cw.set ?_ ?_ _ _) | apply Cw.alloc | (simp;done)) (by repeat' first | exact j.out | exact m.out | exact aF7 (by simp) | apply aF6 | apply aGC | (refine aGA (by omega) ?_) | apply aF5) (by repeat' first | exact j.out | exact m.out | exact aF7 (by simp) | apply aF6 | apply aGC | (refine aGA (by omega) ?_) | apply aF5) (by first | (left;simp;done) | (right;omega) | (right;simp;done)) (by first | (left;simp;done) | (right;omega) | (right;simp;done)) (by simp) J nm d v))
  | (show CmpQ L M O P w F W (.mk .lambda nm d v [x] ns) sc (N+(1+IU x)) (.returned (fnV 293 #[pt (w.heap.size+1+1),pt (w.heap.size+1)])) _;exact(aG9 (b7:=w.heap.size+1+1) (b8:=w.heap.size+1) H n (by repeat' first | exact n | apply Cw.drew | (refine Cw.set ?_ ?_ _ _) | apply Cw.alloc | (simp;done)) (by repeat' first | exact j.out | exact m.out | exact aF7 (by simp) | apply aF6 | apply aGC | (refine aGA (by omega) ?_) | apply aF5) (by repeat' first | exact j.out | exact m.out | exact aF7 (by simp) | apply aF6 | apply aGC | (refine aGA (by omega) ?_) | apply aF5) (by first | (left;simp;done) | (right;omega) | (right;simp;done)) (by first | (left;simp;done) | (right;omega) | (right;simp;done)) (by simp) J nm d v))
end
end Go.Proofs.YtkgbdddkcjpgfaaGreatDoor
