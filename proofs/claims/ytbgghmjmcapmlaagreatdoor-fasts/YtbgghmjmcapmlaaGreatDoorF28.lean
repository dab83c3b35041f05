import Derived.Test.YtbgghmjmcapmlaaGreatDoorF27
import Derived.Shelf.Abstract
namespace Go.Proofs.YtbgghmjmcapmlaaGreatDoor
set_option maxHeartbeats 2000000
set_option maxRecDepth 100000
open Go.Proofs.Tryz
open Pl (PV PW PS PF CW SR AE arity AO B0 AH BH A4 BA BR BW IA CS C8 DN DY DW A7)
theorem zK1{P:Prop}(h:P:=by unfold Hid;go_wp2_with (go_at_call 222;refine(aGM _ _ _ _ _).mono ?_;rintro e w3 ⟨rfl,rfl⟩);go_ret2;exact HX):P:=h
section
open Go.RowKit Go.Maps Go.Lib
variable {w w' w0:World} {M O M' M0 P:Q5} {F G F0:Fg} {W W':PW} {c:Cx} {k g N n z b4 m n' b b5 i N' gb:Nat} {S S0:PS} {kv av v v0:Value} {K:List CW} {us xs:List Value} {args:List PV} {L:Lo} {fr:CW} {t nm:AE} {T:TypeId} {e:Ending} {s:Sg} {cs:Array Value} {x:PF} {o:Obj} {p:PV}
theorem Tryz.infoFrm:(prog.info? TFrm).map (fun i=>(i.zero,i.size,i.bytes))=some (some .nilFunc,1,8):=by kernel_rfl
theorem aM1:∃i,prog.info? TFrm=some i/\i.zero=some .nilFunc/\i.size=1/\i.bytes=8:=by obtain⟨i,b,a⟩:=m_ Tryz.infoFrm;simp only [Prod.mk.injEq] at a;exact⟨i,b,a.1,a.2.1,a.2.2⟩
theorem tLf:TFrm≠B9/\TFrm≠TGlb/\TFrm≠TCod/\TFrm≠TInt/\TFrm≠TFMc/\TFrm≠JM:=by decide
theorem aH0{P:Program}(w:World)(t D e:TypeId)(i:TypeInfo)(z:Value)(d:Nat)(I:P.underlying t=some (.slice e))(hi:P.info? e=some i)(J:i.zero=some z)(b:i.size=1)(p:i.bytes=d)(E:z.cells.size=1)
  (v:Value) (n:Nat) (F:List Value) (h:w.ownsRow 0 e 1 v n F) (a:Addr) (u:Value) (c:Nat) (T:w.cell? a=some u) (U:u.oneCell'=true) (Z:n<=1100000) (K:d<=16) :
  ∃q s,(Builtin.append_ #[t,t] D #[v,.slice (some a) 1 c]).run P w=.ok q s/\s.ownsRow 0 e 1 q (n+1) (F++[u])/\w.grownBy s v.ownBlock/\∀g,q.ownBlock=some g->v.ownBlock=some g\/w.heap.size<=g:=by
 have f:∀(j:Nat)(y:Value),[u][j]?=some y->w.cell? (a.add j)=some y:=fun j y L=>by
  cases j with
  | zero=>simp at L;subst L;simpa [Addr.add] using T
  | succ j=>simp at L
 have m:∀y∈[u],y.oneCell'=true:=fun y R=>by simp at R;subst R;exact U
 have x:(n+1)*d<=140737488355328:=t_ (Nat.mul_le_mul (show n+1<=1100001 from by omega) K) w8;have A:n+1<=maxLen:=by unfold maxLen;omega
 rcases h.2 with⟨rfl,rfl⟩ | ⟨g,o,B,rfl,_,M,V,W,N,O⟩
 ·have X:F=[]:=e_ (by simpa using h.1);subst X;obtain⟨q,s,G,H,Q,_⟩:=run_append_own (P:=P) w w.heap.size t D e i z 1 d I hi J b p E w8 (.slice none 0 0) 0 [] (World.ownsRow_nil _ _ _ _) a 1 c [u] rfl f m A x n_;exact⟨q,s,G,⟨H.1,H.2.imp id (fun⟨g,o,B,Y,_,r⟩=>⟨g,o,B,Y,Nat.zero_le _,r⟩)⟩,Q,fun g M=>.inr (H.lt g M).1⟩
 ·obtain⟨q,s,G,H,Q,_⟩:=run_append_own (P:=P) w 0 t D e i z 1 d I hi J b p E w8 _ n F h a 1 c [u] rfl f m A x (Nat.zero_le _);refine⟨q,s,G,H,Q,fun k S=>?_⟩;by_cases C:n+1<=o
  ·have l:=run_append_room (P:=P) w t D e i I hi g n o B M a 1 c [u] zN5 f m C (by rw [b];simp at N ⊢;omega);rw [G] at l;simp only [Result.ok.injEq] at l;obtain⟨rfl,_⟩:=l;exact .inl S
  ·have l:=run_append_grow (P:=P) w t D e i z I hi J ⟨g,0,none⟩ n o F (by rw [b];simpa using h.1) (h.cells (g:=g) rfl) a 1 c [u] zN5 f x8 (by unfold maxLen at A;omega) (by rw [p];exact growslice_fits x8 x);rw [G] at l;simp only [Result.ok.injEq] at l;obtain⟨rfl,_⟩:=l;simp only [Value.ownBlock,o_] at S;exact .inr x8
theorem Mf.own{v':Value}{xs':List Value}(o:w.ownsRow 0 T 1 v n xs)(j:∀g,v.ownBlock=some g->M g)(b:w.grownBy w' v.ownBlock)(c:w'.ownsRow 0 T 1 v' n' xs')(d:∀g,v'.ownBlock=some g->v.ownBlock=some g\/w.heap.size<=g)(p:T≠B9)(q:T≠TGlb)(r:T≠TCod)(s:T≠TInt) :Mf M w (Mn M (fun k=>v'.ownBlock=some k/\w.heap.size<=k)) w'/\∀g,v'.ownBlock=some g->Mn M (fun k=>v'.ownBlock=some k/\w.heap.size<=k) g:=by
 refine⟨⟨⟨b.os,b.tape,b.output,b.size,fun k a l=>⟨b.block k a (fun e=>l (j k e.symm)),fun x=>x.elim l (fun y=>by have:=y.2;omega)⟩⟩,fun k a f=>⟨.inl f,?_⟩,fun t k a=>?_⟩,fun g m=>?_⟩
 ·by_cases e:some k=v.ownBlock
  ·right;rcases o.2 with⟨rfl,_⟩ | ⟨z,u,h,rfl,_,i,_⟩
   ·cases e
   ·simp only [Value.ownBlock,o_] at e;subst e;exact⟨h,T,(0,0),i,p,q,r,s⟩
  ·exact .inl (b.block k a e)
 ·rcases a with a | a
  ·exact l_ (t k a) b.size
  ·exact(c.lt k a.1).2
 ·exact(d g m).imp (j g) (fun x=>⟨m,x⟩)
theorem ArgsAt.mf(h:ArgsAt M O w s v us)(d:Mf M w M' w'):ArgsAt M' O w' s v us:=by obtain⟨e,a,f,i,j⟩:=h;refine⟨e,a,f,i,j.imp id ?_⟩;rintro⟨g,b,c,k,l,m,n,o,p⟩;obtain⟨q,r⟩:=d.same l n (.inl rfl);exact⟨g,b,c,k,q,m,r,o,p⟩
theorem DS.keepF{l:AE}(h:DS M w v l)(a:∀g,v.ownBlock=some g->w'.heap[g]?=w.heap[g]?)(b:∀k,M k->M' k):DS M' w' v l:=⟨aGD h.1 a,fun g c=>b g (h.2 g c)⟩
theorem aF9{base sz:Nat}(h:w.ownsRow base T sz v n xs)(b:v.ownBlock=some g):∃a,w.heap[g]?=some (.cells a T (0,0)):=by
 rcases h.2 with⟨rfl,_⟩ | ⟨e,d,a,rfl,_,c,_⟩
 ·cases b
 ·simp only [Value.ownBlock,o_] at b;subst b;exact⟨a,c⟩
theorem aGF{a:Nat}{U:TypeId}{c d:Array Value}(g:w.heap[a]?=some (.cells c T (0,0)))(f:w.heap[b]?=some (.cells d U (0,0)))(h:T≠U):a≠b:=fun e=>by subst e;rw [g] at f;simp only [o_,Obj.cells.injEq] at f;exact h f.2.1
theorem aLN{lv gv ov fv:Value}{fs:List Value}{Fs:List CW}{fx:PV}(I:FW c.L M O w F (c.B+n) W)(s:Mch c M w kv lv av gv n ov)(J:LfR M w lv fs)(K:BY (FrF M w F) fs Fs)(L:DS M w ov W.out)(S:RV F.s av fx)(T:ArgsAt M O w F.s gv us)(U:BY (RV F.s) us args)(bd:c.B+c.T<=9000000000000000000/\c.T<=1010000/\c.z<=1000000)(V:PnW W fx args)(N:FrF M w F fv fr)(hl:Fs.length<=1010000) :∃d f,(Builtin.append_ #[318,318] 318 #[lv,.slice (some ⟨w.heap.size,0,none⟩) 1 1]).run prog (w.alloc (.cells #[fv] TFrm))=.ok d f/\(∃a l k,d=.slice a l k)/\f.cell? ⟨c.rb,1,none⟩=some lv/\f.frozen? ⟨c.rb,1,none⟩=false/\∃Q,Stp M w Q (f.setCell ⟨c.rb,1,none⟩ d)/\(∀b,O b->(f.setCell ⟨c.rb,1,none⟩ d).heap[b]?=w.heap[b]?)/\Pend c Q O (f.setCell ⟨c.rb,1,none⟩ d) F kv n W (Fs++[fr]) fx args:=by
 have p:Q3 w (w.alloc (.cells #[fv] TFrm)):=b_;obtain⟨X,v,y,z,A⟩:=aM1;have t:=aGK p J.1;obtain⟨d,f,Y,u,B,Z⟩:=aH0 (P:=prog) (w.alloc (.cells #[fv] TFrm)) 318 318 TFrm X .nilFunc 8 underlying318 v y z A rfl lv fs.length fs t ⟨w.heap.size,0,none⟩ fv 1 (aA (heap_alloc_new w _) 0) (by obtain⟨kf,C,rfl⟩:=N.func;rfl) (by have:=K.1;omega) w8;obtain⟨q1,q2⟩:=Mf.own (M:=M) t J.2 B u Z tLf.1 tLf.2.1 tLf.2.2.1 tLf.2.2.2.1;have m:=s.below p;have D:some c.rb≠lv.ownBlock:=fun e=>by obtain⟨j,h⟩:=aF9 t e.symm;exact aGF m.blk h tMc.2.2.2.2.1 rfl
 have i:f.heap[c.rb]?=some (.cells #[kv,lv,av,gv,Q1 n,Q1 c.z,ov] TFMc (0,0)):=(B.block _ (aB m.blk) D).trans m.blk;have E:Mch c (Mn M (fun k=>d.ownBlock=some k/\(w.alloc (.cells #[fv] TFrm)).heap.size<=k)) f kv lv av gv n ov:=⟨i,.inl s.m⟩
 have q3:=E.mf 1 d;have o:=(Mf.below p).trans (q1.trans q3)
 have q:∀g,ov.ownBlock=some g->(f.setCell ⟨c.rb,1,none⟩ d).heap[g]?=w.heap[g]? := fun g G=>by
  obtain⟨j,h⟩:=aF9 L.1 G;have r:=(p.block g (aB h)).trans h;have e1:g≠c.rb:=aGF h s.blk tMc.2.2.2.2.2.symm;have e2:some g≠lv.ownBlock:=fun e=>by obtain⟨R,H⟩:=aF9 t e.symm;exact aGF r H tLf.2.2.2.2.2.symm rfl
  rw [Below.heap_setCell _ _ _ _ (fun x=>e1 zM2),B.block g (aB r) e2,p.block g (aB h)]
 refine⟨d,f,Y,?_,aA i 1,aF i 1,_,o.AQ,fun b hb=>?_,I.mf o,⟨d,av,gv,ov,fs++[fv],us,⟨aD i 1 d,.inl s.m⟩,⟨?_,q2⟩,BY.snoc (K.mono (fun _ _ x=>x.go o.AQ (Fg.Le.refl _))) (N.go o.AQ (Fg.Le.refl _)),L.keepF q (fun k x=>.inl x),S,T.mf o,U⟩,bd,V⟩
 ·rcases u.2 with⟨rfl,_⟩ | ⟨g',C,j,rfl,_⟩<;>exact⟨_,_,_,rfl⟩
 ·obtain⟨hm,⟨j,h⟩,_⟩:=I.oth b hb;exact(o.same hm h (.inl rfl)).2.trans h.symm
 ·have:(fs++[fv]).length=fs.length+1:=by simp
  rw [this]
  exact aGD u (fun g G=>Below.heap_setCell _ _ _ _ (fun x=>by
   obtain⟨j,h⟩:=aF9 u G
   exact aGF h i tLf.2.2.2.2.1 zM2))
theorem aJW{fv:Value}{Fs:List CW}{fx:PV}(h:Pend c M O w F kv n W Fs fx args)(d:FrF M w F fv fr)(x:Fs.length<=1010000) :Q2 222 #[Q0 c.rb,.nilIface,fv] w fun e f=>e=aGG .nilIface .nilIface/\∃a,Stp M w a f/\(∀b,O b->f.heap[b]?=w.heap[b]?)/\Pend c a O f F kv n W (Fs++[fr]) fx args:=by
 obtain⟨y,E,G,H,I,J,g,i,m,o,p,q,r⟩:=h.mc;obtain⟨j,k,z,⟨K,L,N,l⟩,A,B,a,s,t,u⟩:=aLN h.fw g i m o p q r h.bd h.wf d x;have C:Hid (∃a,Stp M w a (k.setCell ⟨c.rb,1,none⟩ j)/\(∀b,O b->(k.setCell ⟨c.rb,1,none⟩ j).heap[b]?=w.heap[b]?)/\Pend c a O (k.setCell ⟨c.rb,1,none⟩ j) F kv n W (Fs++[fr]) fx args):=⟨a,s,t,u⟩
 have P:w.cell? ⟨c.rb,1,none⟩=some y:=aA g.blk 1;obtain⟨Q,D,rfl⟩:=d.func;obtain⟨R,v,rfl,_⟩:=cJ i.1;subst l;clear h g i m o p q r d s t u;go_enter func222,ntmps222;go_wp2_with (at_builtin;refine dC _ rfl _ _ 318 318 rfl _ rfl _ rfl 318 rfl z ?_);go_ret2;exact⟨rfl,C⟩
theorem aGM(w:World)(b c:Value)(a:Q8)(x:Int):Q2 222 #[b,aY a x,c] w fun e d=>e=aGG .nilIface (aY a x)/\w=d:=by unfold aY;go_enter func222,ntmps222;go_wp2_with fail;go_ret2;exact⟨rfl,rfl⟩
theorem PoR.wide{z':Nat}(h:PoR c M O w F kv K k z W S e)(g:z<=z'):PoR c M O w F kv K k z' W S e:=by
 cases h with
 | val v i j a l m d n h=>exact .val v i j a l m d n h
 | err f x o a p h=>exact .err f x o a p h
 | spent f g h=>exact .spent f g h
 | pend q r s b a d t h=>exact .pend q r s b a d x8 h
theorem Post.after{M2:Q5}{w3:World}{z':Nat}(d:Stp M w M2 w3)(f:∀b,O b->w3.heap[b]?=w.heap[b]?)(l:Fg.Le F G)(h:Post c M2 O w3 G kv K n' z' e w')(s:n<=n')(t:n'+z'<=n+z):Post c M O w F kv K n z e w':=by obtain⟨g,i,k,W,S,j,m,o,p,q,u,v,r⟩:=h;exact⟨g,i,k,W,S,d.trans j,fun b a=>(m b a).trans (f b a),l.trans o,p,q,x8,x8,r.wide x8⟩
theorem Post.tup(h:Post c M O w F kv K n z e w'):∃v x,e=aGG v x:=by
 obtain⟨b,d,k,W,S,f,g,i,j,l,m,o,a⟩:=h
 cases a<;>exact⟨_,_,rfl⟩
theorem FW.olt(h:FW L M O w F N W)(a:O b):b<w.heap.size:=by obtain⟨_,⟨c,d⟩,_⟩:=h.oth b a;exact aB d
theorem CodeUp.ok{u:Value}{f:PF}{sc:List (List AE)}(h:CodeUp c M w F u f sc):CodeOk c M w F u f sc:=by obtain⟨b,a,d,g,i⟩:=h;exact⟨b,a,d,g,fun M O w F j k K n W S l m o p q r s t=>(i M O w F j k K n W S l m o p q r s t).mono (fun e x v=>v.after (Stp.refl _ _) (fun _ _=>rfl) (Fg.Le.refl _) x8 (by have:=aGO f;omega))⟩
theorem aK5{b1 b2 b3 j:Nat}{u tk:Value}{sc:List (List AE)}{zt:Nat}(h1:Bx M0 w0 b1 (.int .i64 (j:Int)) TInt)(h2:Bx M0 w0 b2 u TCod)(h3:Bx M0 w0 b3 tk TTak)(hu:CodeOk c M0 w0 F0 u x sc)(hr:RT M0 w0 F0 tk fr sc)(ht:TakeOk c M0 w0 F0 tk fr sc zt)
  {M O:Q5} {w:World} {F:Fg} {kv hv:Value} {K:List CW} {n z:Nat} {W:PW} {S1:PS} (B:Stp M0 w0 M w) (l:Fg.Le F0 F) (h:St c M O w F kv n W) (he:EnvF M w F.s hv fr.env sc) (ha:c.At (n+j) W S1) (hf:S1.form=some x) (ab:S1.env=fr.env) (hK:S1.AB=fr::K) (hT:n+z<=c.T) (hz:j+2*IU x+zt<=z) (ai:1<=zt) (hj:1<=j/\j<=3) :
  Q2 221 #[Q0 c.rb,hv,Q0 b1,Q0 b2,Q0 b3] w (Post c M O w F kv K (n+1) (z-1)):=by
 obtain⟨kf,ag,rfl,eg,J⟩:=hu;obtain⟨kt,L,rfl,et,N⟩:=ht;obtain⟨c4,_,f4⟩:=h.cells;have aj:=h.bd.2.1;have hn:n<=1010000:=by omega
 have d1:=(h1.go B).cell;have d2:=(h2.go B).cell;have d3:=(h3.go B).cell;have n1:=h.ne (h1.go B).1;have n2:=h.ne (h2.go B).1;have n3:=h.ne (h3.go B).1;obtain⟨o,rfl⟩:=he.ptr;have l1:=aB (h1.go B).2;have l2:=aB (h2.go B).2;have l3:=aB (h3.go B).2;have l4:c.rb<w.heap.size:=World.block_lt_of_cell? _ _ c4;obtain⟨t1,t2,t3⟩:=h.tick (n+j);obtain⟨H,Y⟩:∃H,H=w.setCell ⟨c.rb,4,none⟩ (.int .i64 ((n+j:Nat):Int)):=⟨_,rfl⟩
 have ac:H.heap.size=w.heap.size:=by rw [Y];simp [World.setCell]
 rw [<- Y] at t1 t2 t3;have S:Q3 H (H.alloc (.cells #[.pointer o] TPlP)).drew:=b_.drew;have ad:=t1.below S;have U:=t2.trans (Stp.AA (M:=M) S);have ae:=fun b (p:O b)=>(S.block b (t1.fw.olt p)).trans (t3 b p);have bx:Bx M (H.alloc (.cells #[.pointer o] TPlP)).drew w.heap.size (.pointer o) TPlP:=⟨fun x=>by have:=h.fw.CY.mlt _ x;omega,by rw [<- ac];exact heap_alloc_new H _⟩
 have HC:Hid (Q2 kf (#[pt c.rb,.pointer o]++ag) (H.alloc (.cells #[.pointer o] TPlP)).drew (Post c M O (H.alloc (.cells #[.pointer o] TPlP)).drew F kv (fr::K) (n+j) (2*IU x))):=J M O _ F kv (.pointer o) (fr::K) (n+j) W S1 (B.trans U) l (ad.up x8) (by rw [ab];exact he.go U (Sg.Le.refl _)) ha hf hK x8;have HV:Hid (∀f G k g i d,Stp M w f d->(∀b,O b->d.heap[b]?=w.heap[b]?)->Fg.Le F G->c.At k g i->i.ended=false->n+j<=k+1->k+2<=n+j+2*IU x->∀v Z V,Pl.step g i=⟨0,Z,V⟩->(c.z<=k->Z.out=g.out)->V.form=none->V.AB=fr::K->RV G.s v V.val->St c f O d G kv (k+1) Z->Q2 kt (#[pt c.rb,.pointer o,v]++L) (d.setCell ⟨c.rb,4,none⟩ (.int .i64 ((k+1+1:Nat):Int))) (Post c M O w F kv K (n+1) (z-1))):=fun f G k g i d m C r D E P Q v Z V s t R I r5 r6=>by obtain⟨y1,y2,y3⟩:=r6.tick (k+1+1);refine(N f O _ G kv (.pointer o) v K (k+1) Z V ((B.trans m).trans y2) (l.trans r) y1 (he.go (m.trans y2) r.s) (D.next E s t x8) R I r5 x8).mono ?_;intro e w' X;exact X.after (m.trans y2) (fun b p=>(y3 b p).trans (C b p)) r x8 x8
 have HP:Hid (∀f G k g i d,Stp M w f d->(∀b,O b->d.heap[b]?=w.heap[b]?)->Fg.Le F G->c.At k g i->i.ended=false->n+j<=k+1->k+2<=n+j+2*IU x->Bx f d w.heap.size (.pointer o) TPlP->∀Fs S0 fx a,Pl.step g i=Pl.apply g S0 fx a->S0.AB=Fs++fr::K->Fs.length<=2*IU x->Pend c f O d G kv (k+1) g Fs fx a->Q2 222 #[Q0 c.rb,.nilIface,fnV 223 #[pt b3,pt w.heap.size]] d fun e w'=>e=aGG .nilIface .nilIface/\Post c M O w F kv K (n+1) (z-1) (aGG .nilIface .nilIface) w'):=fun f G k g i d m C r D E P Q qb Fs S0 fx a s t R I=>by have af:=B.trans m;have l2:=l.trans r;refine(aJW I (fr:=fr) (.hand b3 w.heap.size (fnV kt L) (.pointer o) fr sc (h3.go af) qb (he.go m r.s) (hr.go af l2)) x8).mono ?_;rintro e w' ⟨rfl,M',y1,y2,y3⟩;exact⟨rfl,M',G,k,g,i,m.trans y1,fun b p=>(y2 b p).trans (C b p),r,D,E,x8,x8,.pend (Fs++[fr]) S0 fx a s (by rw [t];simp) r7 y3⟩
 have HN:Hid (∀f G k g i d,Stp M w f d->(∀b,O b->d.heap[b]?=w.heap[b]?)->Fg.Le F G->c.At k g i->i.ended=false->n+j<=k+1->k+2<=n+j+2*IU x->∀e,PoR c f O d G kv K k (z-1) g i e->Post c M O w F kv K (n+1) (z-1) e d):=fun f G k g i d m C r D E P Q e qr=>⟨f,G,k,g,i,m,C,r,D,E,x8,x8,qr⟩
 have A:Hid (Stp M w M (H.alloc (.cells #[.pointer o] TPlP)).drew/\(∀b,O b->(H.alloc (.cells #[.pointer o] TPlP)).drew.heap[b]?=w.heap[b]?)/\Bx M (H.alloc (.cells #[.pointer o] TPlP)).drew w.heap.size (.pointer o) TPlP):=⟨U,ae,bx⟩
 have HD:Hid (∀f d,Stp M w f d->d.cell? ⟨b3,0,none⟩=some (fnV kt L)):=fun f d q=>((h3.go B).go q).cell;have ak:∀(a:Array Value)(w:World),(callFunc kf a).run prog w=.ok (.enter kf a) w:=eg;have al:∀(a:Array Value)(w:World),(callFunc kt a).run prog w=.ok (.enter kt a) w:=et;subst Y;clear J N h ad t1 t2 t3 U ae bx he ha hf ab hK hr h1 h2 h3 B l S ac eg et;go_enter func221,ntmps221;go_wp2_with fail
 go_region
 go_wp2_with (go_at_fn kf;(refine(Calls.mono HC ?_);rintro e d ⟨f,G,k,g,i,m,C,r,D,E,P,Q,qr⟩;rcases qr with⟨v,Z,V,s,t,R,I,r5,r6⟩ | ⟨es,y,s,t,R,I⟩ | ⟨es,s,t⟩ | ⟨Fs,S0,fx,a,s,t,R,I⟩<;>refine Hid.out ?_))
 ·have ah:Hid _:=HV.out f G k g i d (A.1.trans m) (fun b p=>(C b p).trans (A.2.1 b p)) r D E P Q v Z V s t R I r5 r6;obtain⟨k4,_,g4⟩:=r6.cells;have hk:k<=1010000:=by omega
  have am:=(A.2.2.go m).cell;obtain⟨T,y,rfl⟩:=r5.iface;have an:=HD.out f d (A.1.trans m);have n4:w.heap.size≠c.rb:=by omega
  clear m C r D E P Q s t R I r5 r6 HC HV HP HN A HD;unfold Hid;go_wp2_with (go_at_fn kt;refine(Calls.mono ah ?_);intro e w3 X;obtain⟨v',x',rfl⟩:=X.tup;have aa:=(show Hid _ from X);clear X);go_ret2;exact aa
 ·have HX:Hid _:=HN.out f G k g i d (A.1.trans m) (fun b p=>(C b p).trans (A.2.1 b p)) r D E P Q _ (.err es y s t R I);clear m C r D E P Q s t R I HC HV HP HN A HD;exact zK1
 ·have HX:Hid _:=HN.out f G k g i d (A.1.trans m) (fun b p=>(C b p).trans (A.2.1 b p)) r D E P Q _ (.spent es s t);clear m C r D E P Q s t HC HV HP HN A HD;exact zK1
 ·have HX:Hid _:=HP.out f G k g i d (A.1.trans m) (fun b p=>(C b p).trans (A.2.1 b p)) r D E P Q (A.2.2.go m) Fs S0 fx a s t R I;clear m C r D E P Q s t R I HC HV HP HN A HD;unfold Hid;go_wp2_with (go_at_call 222;refine(Calls.mono HX ?_);rintro e w3 ⟨rfl,X⟩;have aa:=(show Hid _ from X);clear X);go_ret2;exact aa
theorem FW.NH(h:FW L M O w F N W):IS F.s:=.inr ⟨h.tq,h.tc⟩
theorem tk_iff{y z:PF}(b:S.form=none)(c:S.AB=fr::K)(d:fr.form.k=.iff)(a:fr.form.ks=[x,y,z]):Pl.step W S=⟨0,W,({S with AB:=K}:PS).work (some (if S.val=.AT false then z else y)) fr.env⟩:=by unfold Pl.step;rw [b];simp only [Pl.taken,c,d,a];by_cases h:S.val=.AT false<;>simp [h,Pl.PS.work]
theorem Fs.entChoice:Enters 205:=enters_of func205 t8 rfl
theorem aJQ{v1 v2:Value}{y z:PF}{sc:List (List AE)}(D:fr.form.k=.iff)(g:fr.form.ks=[x,y,z])(E:Bx M0 w0 b4 v2 TCod)(G:Bx M0 w0 b5 v1 TCod)(P:CodeOk c M0 w0 F0 v1 y sc)(Q:CodeOk c M0 w0 F0 v2 z sc):TakeOk c M0 w0 F0 (fnV 205 #[pt b4,pt b5]) fr sc (1+2*(IU y+IU z)):=by
 refine⟨_,_,rfl,Fs.entChoice,?_⟩;intro M O w F s R v K k W S p l h q H I t f hT;show Q2 205 #[Q0 c.rb,R,v,Q0 b4,Q0 b5] w _;obtain⟨A,U,rfl,J,i⟩:=P;obtain⟨B,V,rfl,L,j⟩:=Q;have d4:=(E.go p).cell;have d5:=(G.go p).cell;have r:=f.eqFalse h.fw.NH;obtain⟨T,u,rfl⟩:=f.iface;obtain⟨o,rfl⟩:=q.ptr;have X:∀(a:Array Value)(w:World),(callFunc A a).run prog w=.ok (.enter A a) w:=J;have Y:∀(a:Array Value)(w:World),(callFunc B a).run prog w=.ok (.enter B a) w:=L;have m:=tk_iff (W:=W) I t D g;have b:=H.next (aF8 t) m (fun _=>rfl) x8;by_cases C:S.val=.AT false
 ·rw [if_pos C] at b;have N:Hid (Q2 B (#[pt c.rb,.pointer o]++V) w (Post c M O w F s K (k+1) (1+2*(IU y+IU z)))):=(j M O w F s (.pointer o) K (k+1) W _ p l (h.up x8) q b rfl rfl x8).mono (fun e Z d=>d.after (Stp.refl _ _) (fun _ _=>rfl) (Fg.Le.refl _) x8 x8);simp only [C,decide_true] at r;clear i j h q H b m p l E G I t f D g J L;go_enter func205,ntmps205;go_wp2_with (go_at_fn B;refine(Calls.mono N ?_);intro e w3 d;obtain⟨v',x',rfl⟩:=d.tup;have n:=(show Hid _ from d);clear d);go_ret2;exact n
 ·rw [if_neg C] at b;have N:Hid (Q2 A (#[pt c.rb,.pointer o]++U) w (Post c M O w F s K (k+1) (1+2*(IU y+IU z)))):=(i M O w F s (.pointer o) K (k+1) W _ p l (h.up x8) q b rfl rfl x8).mono (fun e Z d=>d.after (Stp.refl _ _) (fun _ _=>rfl) (Fg.Le.refl _) x8 x8);simp only [C,decide_false] at r;clear i j h q H b m p l E G I t f D g J L;go_enter func205,ntmps205;go_wp2_with (go_at_fn A;refine(Calls.mono N ?_);intro e w3 d;obtain⟨v',x',rfl⟩:=d.tup;have n:=(show Hid _ from d);clear d);go_ret2;exact n
structure Och(w:World)(g:Nat)(o:Obj)(w':World):Prop where
 os:w'.os=w.os
 tape:w'.tape=w.tape
 output:w'.output=w.output
 size:w'.heap.size=w.heap.size
 blk:w'.heap[g]?=some o
 other:∀k,k≠g->w'.heap[k]?=w.heap[k]?
theorem Och.set(a:w.heap[g]?=some (.cells cs T (0,0)))(o:Nat)(v:Value):Och w g (.cells (cs.setIfInBounds o v) T (0,0)) (w.setCell ⟨g,o,none⟩ v) :=⟨rfl,rfl,rfl,zN1,aD a o v,fun k e=>Below.heap_setCell _ _ _ _ (fun x=>e zM2)⟩
theorem Och.trans{w1 w2:World}{a b:Obj}(h:Och w g a w1)(k:Och w1 g b w2):Och w g b w2 :=⟨k.os.trans h.os,k.tape.trans h.tape,k.output.trans h.output,k.size.trans h.size,k.blk,fun i e=>(k.other i e).trans (h.other i e)⟩
theorem Och.AQ(h:Och w g o w')(b:M g):Stp M w M w':=⟨h.os,h.tape,h.output,Nat.le_of_eq h.size.symm,fun k _ a=>⟨h.other k (fun e=>a (by rw [e];exact b)),a⟩⟩
theorem BM.och{tb mb:Nat}{ps:List (PV×PV)}(h:BM M w s tb mb ps)(a:Och w g o w')(d:M g)(b:g≠mb):BM M w' s tb mb ps:=by have c:=a.AQ d;exact⟨h.B3.keep (c.block tb h.B3.lt.1 h.JJ).1 (a.other mb (fun e=>b e.symm)),h.pairs.AQ c,h.FV,h.JJ,fun k f=>by rw [a.size];exact h.mlt k f⟩
theorem aGN{a:Nat}{d:Array MapEntry}{f:Nat×Nat}(g:w.heap[a]?=some (.map d n))(c:w.heap[b]?=some (.cells cs T f)):b≠a:=fun e=>by
 subst e;rw [g] at c
 cases c
theorem SitAt.tys{st:Site}(h:SitAt M w st)(a:w.heap[g]?=some (.cells cs T (0,0)))(b:T≠TCod)(d:T≠TInt):st.mb≠g/\st.sb≠g:=by obtain⟨j,k,l,c,e,f,i,m,_⟩:=h.ex;exact⟨aGF f a b.symm,aGF i a d.symm⟩
theorem tVs:B9≠TCod/\B9≠TInt/\B9≠TGlb/\TGlb≠TCod/\TGlb≠TInt:=by decide
theorem FW.SU(h:FW L M O w F N W){o:Nat}(D:F.s.lp[i]?=some (some (g,o)))(hv:RV F.s v p) :FW L M O (w.setCell ⟨g,o,none⟩ v) F N {W with places:=W.places.set i p}/\Stp M w M (w.setCell ⟨g,o,none⟩ v)/\∀b,O b->(w.setCell ⟨g,o,none⟩ v).heap[b]?=w.heap[b]? := by
 obtain⟨p0,v0,e0,_,e2,Q,E,s⟩:=h.plc D;have ho:o<E.size:=by have:E[o]?=some v0:=(aA s o).symm.trans e2;exact(Array.getElem?_eq_some_iff.1 this).1
 have a:=Och.set s o v;have m:=a.AQ Q;obtain⟨es,n,G⟩:=h.map.F6;obtain⟨aa,n2,u⟩:=h.CY.B3.F6;have H:=Fg.Le.refl F;have t:∀k,O k->k≠g:=fun k A e=>by obtain⟨_,_,l⟩:=h.oth k A;exact l i o (by rw [e];exact D)
 refine⟨⟨h.CY.och a Q (aGN u s),h.NN.go m,h.TH,h.UE,h.map.keep (a.other _ (fun e=>aGN G s e.symm)),h.gn,fun k B hg=>?_,h.ginj,h.gall,h.gpl,fun I d=>?_,h.sn1,h.sn2,h.sgl,h.pql,h.pqi,fun i b q y z l=>(h.pqa i b q y z l).go m H,h.AG.mono (fun b x hx=>hx.go m H),⟨by simp [h.places.len],h.places.inj,?_⟩,fun k A=>?_,h.pr,h.gs.AQ m,h.JQ.AQ h.gs m,(bY h.gs m kT).trans h.gt,?_,h.tq,h.tc,h.nl⟩,m,fun b hb=>a.other b (t b hb)⟩
 ·obtain⟨y,v',c,U,z,l,h4,C⟩:=h.gat k B hg;refine⟨y,v',c,U,z,(a.other B (aGF l s tVs.2.2.1.symm)).trans l,h4,?_⟩;rcases C with C | ⟨K,V,C,h6,h7⟩
  ·exact .inl C
  ·refine .inr ⟨K,V,C,?_,h7⟩
   have R:i≠K:=fun e=>by
    have:=(h.gall U K C).2;rw [<- e,D] at this
    cases this
   show(W.places.set i p)[K]?=some V;rw [List.getElem?_set_ne R];exact h6
 ·obtain⟨k,A⟩:=h.sgl I d;obtain⟨_,_,_,_,_,l,_⟩:=h.gat k _ A;have X:=(h.sit I d).tys s tVs.1 tVs.2.1;exact(h.sit I d).go m (h.sit I d).mb (h.sit I d).sb (a.other _ X.1) (a.other _ X.2) (a.other _ (aGF l s tVs.2.2.1.symm))
 ·intro j B Y q J hq;have r:(W.places.set i p)[j]?=some q:=hq;by_cases e:i=j
  ·subst e;rw [D] at J;simp only [o_,Prod.mk.injEq] at J;obtain⟨rfl,rfl⟩:=J;have S:=(s_ e0).1;rw [List.getElem?_set_self S] at r;obtain rfl:=i_ r;exact⟨Q,_,v,a.blk,by simp [ho],hv⟩
  ·rw [List.getElem?_set_ne e] at r;obtain⟨Z,f,v2,P,k3,k4⟩:=h.places.at_ j B Y q J r;by_cases eg:B=g
   ·subst eg;rw [s] at P;simp only [o_,Obj.cells.injEq,and_true] at P;subst P;have T:o≠Y:=fun q=>by subst q;exact e (h.places.inj i j _ D J)
    exact⟨Z,_,v2,a.blk,by rw [Array.getElem?_setIfInBounds_ne T];exact k3,k4⟩
   ·exact⟨Z,f,v2,(a.other B eg).trans P,k3,k4⟩
 ·obtain⟨y,⟨f,z⟩,l⟩:=h.oth k A;exact⟨y,⟨f,(a.other k (t k A)).trans z⟩,l⟩
 ·obtain⟨v,y,z⟩:=h.ge;exact⟨v,(bY h.gs m kU).trans y,z⟩
theorem FW.gset(h:FW L M O w F N W){c:Nat}(B:F.gl k=some g)(P:F.s.ns[k]?=some nm)(E:w.heap[g]?=some (.cells #[v0,Q1 c] TGlb (0,0)))(d:Och w g (.cells #[v,Q1 ((c+1:Nat):Int)] TGlb (0,0)) w')(hN:N<=N')(hc:c+1<=N')(l:Fg.Le F G)(r:G.gl=F.gl)(Q:G.gn=F.gn)(y:G.cs=F.cs)(s:G.s.ns=F.s.ns)(ab:G.s.pb=F.s.pb)(H:G.s.qb=F.s.qb)(ac:G.s.cb=F.s.cb)(ad:G.pr=F.pr)(ae:W'.pairs=W.pairs)(I:W'.procs=W.procs)(af:W'.AG=W.AG)
  (R:∃i p,Pl.find W'.globals nm=some i/\W'.places[i]?=some p/\RV G.s v p) (S:∀f,f≠nm->Pl.find W'.globals f=Pl.find W.globals f/\∀(i:Nat)(p:PV),Pl.find W.globals f=some i->W.places[i]?=some p->W'.places[i]?=some p)
  (T:∀nm i,Pl.find W'.globals nm=some i->(∃k g,F.s.ns[k]?=some nm/\F.gl k=some g)/\G.s.lp[i]?=some none) (ag:∀a b i,Pl.find W'.globals a=some i->Pl.find W'.globals b=some i->a=b) (z:CM M w' G.s W'.places) (ah:∀(i:Nat)(x:Nat×Nat),G.s.lp[i]?=some (some x)->F.s.lp[i]?=some (some x)) :
  FW L M O w' G N' W'/\Stp M w M w'/\∀b,O b->w'.heap[b]?=w.heap[b]? := by
 have hm:=(h.gat k g B).1;have t:=d.AQ hm;obtain⟨es,n,U⟩:=h.map.F6;obtain⟨al,n2,J⟩:=h.CY.B3.F6;have C:∀k,O k->k≠g:=fun k B e=>by obtain⟨_,⟨am,m⟩,_⟩:=h.oth k B;exact aGF m E tVs.2.2.1 e
 refine⟨⟨by rw [ae];exact(h.CY.och d hm (aGN J E)).leS l.s ab s,h.NN.go t,h.TH,h.UE,?_,by rw [Q];exact t_ h.gn hN,fun k' V hg=>?_,by rw [r];exact h.ginj,?_,ag,?_,by rw [y];exact h.sn1,by rw [y];exact h.sn2,by rw [y,r];exact h.sgl,by rw [H,I];exact h.pql,by rw [H];exact h.pqi,?_,by rw [ac,af];exact h.AG.mono (fun b x hx=>hx.go t l),z,fun k B=>?_,by rw [ad,I];exact h.pr,h.gs.AQ t,h.JQ.AQ h.gs t,(bY h.gs t kT).trans h.gt,?_,by rw [l.s.tq];exact h.tq,by rw [l.s.tc];exact h.tc,by rw [s];exact h.nl⟩,t,fun b E=>d.other b (C b E)⟩
 ·obtain⟨D,u,m⟩:=h.map.keep (d.other _ (fun e=>aGN U E e.symm));exact⟨D,by rw [Q];exact u,m.tidy,by rw [r];exact m.yes,by rw [r];exact m.no⟩
 ·rw [r] at hg;obtain⟨u,v',c',f,m,X,h4,K⟩:=h.gat k' V hg;by_cases ek:k'=k
  ·subst ek;have Y:V=g:=i_ (hg.symm.trans B);subst Y;obtain⟨i,p,e1,e2,Z⟩:=R;exact⟨u,v,c+1,nm,by rw [s];exact P,d.blk,hc,.inr ⟨i,p,e1,e2,Z⟩⟩
  ·have ai:V≠g:=fun e=>ek (h.ginj k' k V hg (by rw [e];exact B));have aj:f≠nm:=fun e=>by rw [e] at m;obtain⟨D,_,hD⟩:=h.CY.B3.map;exact ek ((cV hD.nodup m).symm.trans (cV hD.nodup P))
   obtain⟨o1,o2⟩:=S f aj;refine⟨u,v',c',f,by rw [s];exact m,(d.other V ai).trans X,t_ h4 hN,?_⟩;rw [o1];rcases K with K | ⟨i,p,K,h6,h7⟩
   ·exact .inl K
   ·exact .inr ⟨i,p,K,o2 i p K h6,h7.le l.s⟩
 ·rw [s,r];exact T
 ·rw [y];intro A j;obtain⟨k',an⟩:=h.sgl A j;have hy:=(h.sit A j).tys E tVs.2.2.2.1 tVs.2.2.2.2;by_cases Y:A.g=g
  ·obtain⟨us,mv,gv,c',e,e1,e2,Z,e4,e5,e6,e7,e8⟩:=(h.sit A j).ex;rw [Y,E] at Z;simp only [o_,Obj.cells.injEq,Array.mk.injEq,List.cons.injEq,Value.int.injEq,and_true,true_and] at Z;have ak:c=c':=by have:=Z.2;omega
   subst ak;exact⟨(h.sit A j).mb,(h.sit A j).sb,us,mv,v,c+1,e,(d.other _ hy.1).trans e1,(d.other _ hy.2).trans e2,by rw [Y];exact d.blk,x8,e5.AQ t,e6,e7,fun q=>by omega⟩
  ·exact(h.sit A j).go t (h.sit A j).mb (h.sit A j).sb (d.other _ hy.1) (d.other _ hy.2) (d.other _ Y)
 ·rw [H,I];exact fun i b q u m X=>(h.pqa i b q u m X).go t l
 ·obtain⟨u,⟨aa,m⟩,X⟩:=h.oth k B;exact⟨u,⟨aa,(d.other k (C k B)).trans m⟩,fun i o e=>X i o (ah i (k,o) e)⟩
 ·obtain⟨v,u,m⟩:=h.ge;exact⟨v,(bY h.gs t kU).trans u,m⟩
theorem p_gset(w:World)(g c:Nat)(b v:Value)(a:w.heap[g]?=some (.cells #[b,Q1 c] TGlb (0,0)))(f:∃T x,v=.iface T x)(l:c<=9000000000000000000) :Q2 210 #[Q0 g,v] w fun e h=>e=.returned (.tuple #[])/\Och w g (.cells #[v,Q1 ((c+1:Nat):Int)] TGlb (0,0)) h:=by
 obtain⟨T,x,rfl⟩:=f;have m:w.cell? ⟨g,0,none⟩=some b:=aA a 0;have n:w.cell? ⟨g,1,none⟩=some (Q1 c):=aA a 1;have o:w.frozen? ⟨g,0,none⟩=false:=aF a 0;have p:w.frozen? ⟨g,1,none⟩=false:=aF a 1;have i:wrap64 ((c:Int)+1)=(c:Int)+1:=by unfold wrap64;omega
 have j:Hid (Och w g (.cells #[.iface T x,Q1 ((c+1:Nat):Int)] TGlb (0,0)) ((w.setCell ⟨g,0,none⟩ (.iface T x)).setCell ⟨g,1,none⟩ (.int .i64 ((c+1:Nat):Int)))):=by have d:=Och.set a 0 (.iface T x);have k:=Och.set d.blk 1 (.int .i64 ((c+1:Nat):Int));exact d.trans k
 clear a;go_enter func210,ntmps210;go_wp2_with fail
 go_end0
 exact⟨rfl,j⟩
theorem Stt.och{m':Nat}(h:Stt c M O w F kv n m W)(a:Och w g o w')(d:w.heap[g]?=some (.cells cs T (0,0)))(p:TFMc≠T)(q:TFrm≠T)(r:JM≠T)(s:FW c.L M O w' G (c.B+m') W')(t:W'.out=W.out):Stt c M O w' G kv n m' W':=by
 obtain⟨u,v,x,y,e,f,i⟩:=h.mc;refine⟨s,⟨u,v,x,y,⟨(a.other _ (aGF e.blk d p)).trans e.blk,e.m⟩,⟨aGD f.1 (fun j b=>?_),f.2⟩,?_⟩,h.bd⟩
 ·obtain⟨k,l⟩:=aF9 f.1 b;exact a.other j (aGF l d q)
 ·rw [t];refine⟨aGD i.1 (fun j b=>?_),i.2⟩;obtain⟨k,l⟩:=aF9 i.1 b;exact a.other j (aGF l d r)
theorem tOc:TFMc≠B9/\TFrm≠B9/\JM≠B9/\TFMc≠TGlb/\TFrm≠TGlb/\JM≠TGlb:=by decide
theorem aGY(a:S.form=none):Pl.step W S=Pl.taken W S:=by unfold Pl.step;rw [a]
theorem tk_set(a:S.form=none)(b:S.AB=fr::K)(c:fr.form.k=.set)(d:Pl.DL W fr.env fr.form.nm=some i):Pl.step W S=⟨0,{W with places:=W.places.set i S.val},({S with AB:=K}:PS).A1 .nothing⟩:=by rw [aGY a];simp only [Pl.taken,b,c,d]
theorem aML(a:S.form=none)(b:S.AB=fr::K)(c:fr.form.k=.set)(d:Pl.DL W fr.env fr.form.nm=none):Pl.step W S=⟨8,W,{S with AB:=K}⟩:=by rw [aGY a];simp only [Pl.taken,b,c,d]
theorem aKW(a:S.form=none)(b:S.AB=fr::K)(c:fr.form.k=.define):Pl.step W S=⟨0,Pl.bind W fr.form.nm S.val,({S with AB:=K}:PS).A1 .nothing⟩:=by rw [aGY a];simp only [Pl.taken,b,c]
theorem Post.giveT{S':PS}(d:Stp M w M' w')(e:∀b,O b->w'.heap[b]?=w.heap[b]?)(l:Fg.Le F G)(f:c.At k W S)(g:S.ended=false)(a:Pl.step W S=⟨0,W',S'⟩)(i:c.z<=k->W'.out=W.out)(j:S'.form=none)(n:S'.AB=K)(o:RV G.s v S'.val)(h:Stt c M' O w' G kv (k+1) m W')(q:1<=z)(p:m<=k+1:=by omega):Post c M O w F kv K (k+1) z (aGG v .nilIface) w' :=⟨M',G,k,W,S,d,e,l,f,g,x8,x8,.val v W' S' a i j n o (h.up p)⟩
theorem Post.faultT{x:Nat}(e:Stp M w M' w')(f:∀b,O b->w'.heap[b]?=w.heap[b]?)(l:Fg.Le F G)(g:c.At k W S)(i:S.ended=false)(d:Q8)(j:x≠0)(a:(Pl.step W S).e=x)(n:(Pl.step W S).W=W)(h:Stt c M' O w' G kv (k+1) m W)(p:1<=z)(o:m<=k+1:=by omega):Post c M O w F kv K (k+1) z (aGG .nilIface (aY d (x:Int))) w' :=⟨M',G,k,W,S,e,f,l,g,i,x8,x8,.err d x j a n (h.up o)⟩
theorem Fs.entSetL:Enters 208:=enters_of func208 t8 rfl
theorem Fs.entSetG:Enters 209:=enters_of func209 t8 rfl
theorem Fs.entDef:Enters 211:=enters_of func211 t8 rfl
theorem aIY{dp ix:Nat}{sc:List (List AE)}(D:fr.form.k=.set)(q:Bx M0 w0 b4 (.int .i64 (dp:Int)) TInt)(r:Bx M0 w0 b5 (.int .i64 (ix:Int)) TInt)(d:scF sc fr.form.nm=some (dp,ix))(E:dp<=1100):TakeOk c M0 w0 F0 (fnV 208 #[pt b4,pt b5]) fr sc 1:=by refine⟨_,_,rfl,Fs.entSetL,?_⟩;intro M O w F G H v K k W S f l h j s t m a Q;show Q2 208 #[Q0 c.rb,H,v,Q0 b4,Q0 b5] w _;have R:=(q.go f).cell;have U:=(r.go f).cell;obtain⟨i,g,o,y,n,z⟩:=j.yes d;obtain⟨p,x,I,J,V,_,L,b⟩:=h.fw.plc n;have X:w.frozen? ⟨g,o,none⟩=false:=aF b o;have N:=h_ z;obtain⟨A,B,C⟩:=h.fw.SU n a;have P:Hid (Post c M O w F G K (k+1) 1 (aGG (.iface 242 (.agg #[])) .nilIface) (w.setCell ⟨g,o,none⟩ v)) :=Post.giveT B C (Fg.Le.refl _) s (aF8 m) (tk_set t m D (by unfold Pl.DL;rw [y])) (fun _=>rfl) rfl rfl .nothing (h.och (Och.set b o v) b tOc.1 tOc.2.1 tOc.2.2.1 A rfl) n_;obtain⟨T,u,rfl⟩:=a.iface;obtain⟨Y,rfl⟩:=j.ptr;clear h f j s q r y n z I J b A B C a t m;go_enter func208,ntmps208;go_wp2_with (go_at_call 201;refine(p_at _ _ _ _ _ N E).mono ?_;rintro e Z ⟨rfl,rfl⟩);go_ret2;exact P
theorem FW.setGlob(h:FW L M O w F N W){c:Nat}(B:F.gl k=some g)(n:F.s.ns[k]?=some nm)(y:w.heap[g]?=some (.cells #[v0,Q1 c] TGlb (0,0)))(d:Och w g (.cells #[v,Q1 ((c+1:Nat):Int)] TGlb (0,0)) w')(J:c<=N)(hi:Pl.find W.globals nm=some i)(r:i<W.places.length)(C:RV F.s v p) :FW L M O w' F (N+1) {W with places:=W.places.set i p}/\Stp M w M w'/\∀b,O b->w'.heap[b]?=w.heap[b]? := by
 have D:=(h.gall nm i hi).2;refine h.gset (W':={W with places:=W.places.set i p}) B n y d x8 x8 (Fg.Le.refl F) rfl rfl rfl rfl rfl rfl rfl rfl rfl rfl rfl ⟨i,p,hi,by simp [r],C⟩ (fun s t=>⟨rfl,fun j q f u=>?_⟩) h.gall h.gpl ⟨by simp [h.places.len],h.places.inj,fun j z o q f u=>?_⟩ (fun _ _ x=>x)
 ·have a:i≠j:=fun e=>t (h.gpl s nm j f (by rw [<- e];exact hi));show(W.places.set i p)[j]?=some q;rw [List.getElem?_set_ne a];exact u
 ·have a:i≠j:=fun e=>by rw [<- e,D] at f;cases f
  have l:(W.places.set i p)[j]?=some q:=u;rw [List.getElem?_set_ne a] at l;obtain⟨E,m,G,A,H,I⟩:=h.places.at_ j z o q f l;exact⟨E,m,G,(d.other z (aGF A y tVs.2.2.1)).trans A,H,I⟩
theorem aIL{a b:AE}:Pl.find [(a,n)] b=if a=b then some n else none:=by simp [Pl.find]
def Fg.addN(F:Fg):Fg:={F with s:={F.s with lp:=F.s.lp++[none]}}
theorem Fg.addN_le(F:Fg):Fg.Le F F.addN:=⟨⟨rfl,rfl,List.prefix_refl _,List.prefix_refl _,List.prefix_refl _,List.prefix_append _ _,List.prefix_refl _⟩,fun _ _ x=>x,List.prefix_refl _,List.prefix_refl _⟩
theorem FW.defGlob(h:FW L M O w F N W){c:Nat}(J:F.gl k=some g)(s:F.s.ns[k]?=some nm)(t:w.heap[g]?=some (.cells #[v0,Q1 c] TGlb (0,0)))(u:Och w g (.cells #[v,Q1 ((c+1:Nat):Int)] TGlb (0,0)) w')(hc:c<=N)(hi:Pl.find W.globals nm=none)(P:RV F.s v p)(n:∀a j,Pl.find W.globals a=some j->j<W.places.length) :FW L M O w' F.addN (N+1) {W with places:=W.places++[p],globals:=W.globals++[(nm,W.places.length)]}/\Stp M w M w'/\∀b,O b->w'.heap[b]?=w.heap[b]? := by
 have l:=F.addN_le
 have f:∀a j,Pl.find (W.globals++[(nm,W.places.length)]) a=some j->(a=nm/\j=W.places.length)\/(a≠nm/\Pl.find W.globals a=some j):=fun a j d=>by
  rw [Pl.FJ,aIL] at d;by_cases e:nm=a
  ·rw [if_pos e] at d;simp only [o_] at d;exact .inl ⟨e.symm,d.symm⟩
  ·rw [if_neg e] at d;exact .inr ⟨fun q=>e q.symm,d⟩
 have m:∀(i:Nat)(x:Nat×Nat),(F.s.lp++[none])[i]?=some (some x)->F.s.lp[i]?=some (some x):=fun i x y=>by
  rcases p5 y with y | ⟨_,y⟩
  ·exact y
  ·cases y
 refine h.gset (W':={W with places:=W.places++[p],globals:=W.globals++[(nm,W.places.length)]}) J s t u x8 x8 l rfl rfl rfl rfl rfl rfl rfl rfl rfl rfl rfl ⟨W.places.length,p,?_,w9,P.le l.s⟩ (fun D E=>⟨?_,fun j q d G=>?_⟩) (fun a j d=>?_) (fun a b j Q t=>?_) ⟨by simp [Fg.addN,h.places.len],fun i j x hi d=>h.places.inj i j x (m i x hi) (m j x d),fun j H o q d G=>?_⟩ m
 ·show Pl.find (W.globals++[(nm,W.places.length)]) nm=some W.places.length;rw [Pl.FJ,aIL,if_pos rfl]
 ·show Pl.find (W.globals++[(nm,W.places.length)]) D=_;rw [Pl.FJ,aIL,if_neg (fun e=>E e.symm)]
 ·show(W.places++[p])[j]?=some q;rw [List.getElem?_append_left (n _ _ d)];exact G
 ·rcases f a j d with⟨rfl,rfl⟩ | ⟨_,d⟩
  ·refine⟨⟨k,g,s,J⟩,?_⟩;show(F.s.lp++[none])[W.places.length]?=some none;rw [<- h.places.len];simp
  ·obtain⟨R,S⟩:=h.gall a j d;exact⟨R,bS (List.prefix_append _ _) S⟩
 ·rcases f a j Q with⟨C,T⟩ | ⟨_,C⟩
  ·rcases f b j t with⟨r,_⟩ | ⟨_,r⟩
   ·rw [C,r]
   ·have:=n _ _ r;omega
  ·rcases f b j t with⟨r,U⟩ | ⟨_,r⟩
   ·have:=n _ _ C;omega
   ·exact h.gpl a b j C r
 ·have z:=m j (H,o) d;have I:=(s_ z).1;have A:(W.places++[p])[j]?=some q:=G;rw [List.getElem?_append_left (by rw [<- h.places.len];exact I)] at A;obtain⟨V,B,X,K,Y,Z⟩:=h.places.at_ j H o q z A;exact⟨V,B,X,(u.other H (aGF K t tVs.2.2.1)).trans K,Y,Z.le l.s⟩
theorem Cx.At.ww(h:c.At n W S):∃t,WW W t/\SW W S t:=by obtain⟨_,t,a,b,_⟩:=h.inv;exact⟨t,a,b⟩
theorem Cx.At.glt(h:c.At n W S):∀a j,Pl.find W.globals a=some j->j<W.places.length:=fun a j d=>by obtain⟨t,e,_⟩:=h.ww;obtain⟨b,f,rfl⟩:=mC _ _ _ d;exact e.globals b f
theorem Stt.DI(h:Stt c M O w F kv n m W)(d:F.gl k=some g)(e:F.s.ns[k]?=some nm):∃v,∃a:Nat,w.heap[g]?=some (.cells #[v,Q1 a] TGlb (0,0))/\a<=c.B+m/\((Pl.find W.globals nm=none/\v=.nilIface)\/∃i p,Pl.find W.globals nm=some i/\W.places[i]?=some p/\RV F.s v p):=by obtain⟨_,v,a,b,f,j,l,o⟩:=h.fw.gat k g d;obtain rfl:b=nm:=i_ (f.symm.trans e);exact⟨v,a,j,l,o⟩
theorem aIZ{kn:Nat}{a:Value}{sc:List (List AE)}(J:fr.form.k=.set)(C:Bx M0 w0 b4 (pt g) TGlP)(D:Bk M0 w0 b5 #[.string ⟨fr.form.nm.toArray⟩,Q1 kn,a] TSet)(R:F0.s.ns[kn]?=some fr.form.nm)(U:F0.gl kn=some g)(E:scF sc fr.form.nm=none):TakeOk c M0 w0 F0 (fnV 209 #[pt b4,pt b5]) fr sc 1:=by
 refine⟨_,_,rfl,Fs.entSetG,?_⟩;intro M O w F L V v K k W S y l h z r A n b hT;show Q2 209 #[Q0 c.rb,V,v,Q0 b4,Q0 b5] w _;have d4:=(C.go y).cell;have d5:w.cell? ⟨b5,0,none⟩=some (.string ⟨fr.form.nm.toArray⟩):=aA (D.go y).2 0;have d:=l.gl _ _ U;have f:=bS l.s.ns R;obtain⟨x,X,q,Y,m⟩:=h.DI d f;have j:=z.no E;have c0:w.cell? ⟨g,0,none⟩=some x:=aA q 0;obtain⟨ao,rfl⟩:=z.ptr;have Z:=h.bd;rcases m with⟨m,rfl⟩ | ⟨i,p,m,N,P⟩
 ·have hl:fr.form.nm.length<=300:=by
   obtain⟨t,_,hS⟩:=r.ww;exact(hS.AB.1 fr (by rw [n];simp)).form.lnm
  have aa:(⟨fr.form.nm.toArray⟩:Q8).size<=300:=by simpa [ByteArray.size] using hl
  have o:=aML (W:=W) A n J (by unfold Pl.DL;rw [j];exact m);have HX:Hid (∀G,Post c M O w F L K (k+1) 1 (aGG .nilIface (aY G 8)) w):=fun G=>Post.faultT (x:=8) (Stp.refl _ _) (fun _ _=>rfl) (Fg.Le.refl _) r (aF8 n) G w8 (by rw [o]) (by rw [o]) h n_;obtain⟨T,u,rfl⟩:=b.iface;clear h y z r C D q m b A n j o d f;go_enter func209,ntmps209;go_wp2_with (go_at_call 47;refine(bJ _ _ _).mono ?_;rintro e w3 ⟨rfl,rfl⟩);go_ret2;exact HX.out _
 ·have H:=(s_ N).1
  have HG:Hid (Q2 210 #[Q0 g,v] w fun e Q=>e=.returned (.tuple #[])/\Post c M O w F L K (k+1) 1 (aGG (.iface 242 (.agg #[])) .nilIface) Q):=(p_gset w g X x v q b.iface x8).mono (fun e Q B=>by
   obtain⟨rfl,s⟩:=B;obtain⟨y1,y2,y3⟩:=h.fw.setGlob d f q s Y m H b
   exact⟨rfl,Post.giveT y2 y3 (Fg.Le.refl _) r (aF8 n) (tk_set A n J (by unfold Pl.DL;rw [j];exact m)) (fun _=>rfl) rfl rfl .nothing (h.och (m':=k+1) s q tOc.2.2.2.1 tOc.2.2.2.2.1 tOc.2.2.2.2.2 y1 rfl) n_⟩)
  obtain⟨T,u,rfl⟩:=b.iface;obtain⟨T2,u2,rfl⟩:=P.iface;clear h y z r C D q m N P b A n j d f;go_enter func209,ntmps209;go_wp2_with (go_at_call 210;refine(Calls.mono HG ?_);rintro e w3 ⟨rfl,B⟩;have I:=(show Hid _ from B);clear B);go_ret2;exact I
theorem aHU{kn:Nat}{sc:List (List AE)}(J:fr.form.k=.define)(C:Bx M0 w0 b4 (pt g) TGlP)(L:F0.s.ns[kn]?=some fr.form.nm)(N:F0.gl kn=some g):TakeOk c M0 w0 F0 (fnV 211 #[pt b4]) fr sc 1:=by
 refine⟨_,_,rfl,Fs.entDef,?_⟩;intro M O w F P Q v K k W S D l h E o G q a Y;show Q2 211 #[Q0 c.rb,Q,v,Q0 b4] w _;have Z:=(C.go D).cell;have b:=l.gl _ _ N;have d:=bS l.s.ns L;obtain⟨x,R,n,H,m⟩:=h.DI b d;obtain⟨ao,rfl⟩:=E.ptr;have U:=h.bd
 have V:Hid (Q2 210 #[Q0 g,v] w fun e I=>e=.returned (.tuple #[])/\Post c M O w F P K (k+1) 1 (aGG (.iface 242 (.agg #[])) .nilIface) I):=(p_gset w g R x v n a.iface x8).mono (fun e I r=>by
  obtain⟨rfl,f⟩:=r;refine⟨rfl,?_⟩;have j:=aKW (W:=W) G q J;rcases m with⟨m,_⟩ | ⟨i,p,m,X,_⟩
  ·obtain⟨s,t,y⟩:=h.fw.defGlob b d n f H m a o.glt;have z:Pl.bind W fr.form.nm S.val={W with places:=W.places++[S.val],globals:=W.globals++[(fr.form.nm,W.places.length)]}:=by unfold Pl.bind;rw [m]
   rw [z] at j;exact Post.giveT t y F.addN_le o (aF8 q) j (fun _=>rfl) rfl rfl .nothing (h.och (m':=k+1) f n tOc.2.2.2.1 tOc.2.2.2.2.1 tOc.2.2.2.2.2 s rfl) n_
  ·have A:=(s_ X).1;obtain⟨s,t,y⟩:=h.fw.setGlob b d n f H m A a;have z:Pl.bind W fr.form.nm S.val={W with places:=W.places.set i S.val}:=by unfold Pl.bind;rw [m]
   rw [z] at j
   exact Post.giveT t y (Fg.Le.refl _) o (aF8 q) j (fun _=>rfl) rfl rfl .nothing (h.och (m':=k+1) f n tOc.2.2.2.1 tOc.2.2.2.2.1 tOc.2.2.2.2.2 s rfl) n_)
 obtain⟨T,u,rfl⟩:=a.iface;clear h D E o C n m a G q b d;go_enter func211,ntmps211;go_wp2_with (go_at_call 210;refine(Calls.mono V ?_);rintro e w3 ⟨rfl,r⟩;have B:=(show Hid _ from r);clear r);go_ret2;exact B
theorem FW.TJ(h:FW L M O w F N W):QB w F.s W.pairs w.heap.size:=by
 refine⟨fun i k p b d=>?_,h.CY.pairs.nodup,h.CY.pairs.len,fun i k b e=>?_,fun i k b=>?_,h.gs.B3,h.gs.size,h.NH,h.pqi,h.AG.nodup⟩
 ·obtain⟨_,x,y,a,f⟩:=h.CY.pairs.at_ i k p b d;exact⟨aB a,x,y,a,f⟩
 ·have c:=(s_ b).1;obtain⟨u,g,_,_,a,_⟩:=h.pqa i k _ b (g_ (by rw [<- h.pql];exact c)) e;exact⟨aB a.2,_,by rw [h.tq];exact a.2⟩
 ·obtain⟨q,_,j,a,_⟩:=h.AG.get b;exact⟨aB a.2,_,by rw [h.tc];exact a.2⟩
def ArgR(w:World)(v:Value)(us:List Value):Prop:=∃ao cap,v=.slice ao us.length cap/\us.length<=cap/\∀(i:Nat)(u:Value),us[i]?=some u->∃g off,ao=some ⟨g,off,none⟩/\w.cell? ⟨g,off+i,none⟩=some u
theorem ArgsAt.r(h:ArgsAt M O w s v us):ArgR w v us:=by
 obtain⟨e,a,f,j,c⟩:=h;refine⟨e,a,f,j,fun i u d=>?_⟩;rcases c with c | ⟨g,b,k,rfl,_,_,l,m,_⟩
 ·have:=(s_ d).1;omega
 ·exact⟨g,b,rfl,(aA l _).trans (m i u d)⟩
structure Pm(c:Cx)(M O:Q5)(w:World)(F:Fg)(kv:Value)(K:List CW)(k:Nat)(W:PW)(S S0:PS)(t:AE)(av:Value)(us:List Value)(args:List PV):Prop where
 st:Stt c M O w F kv (k+1) (k+1) W
 at_:c.At k W S
 ne:S.ended=false
 step:Pl.step W S=AH W S0 (.AZ t) args
 fr:S0.AB=K
 row:ArgR w av us
 CH:BY (RV F.s) us args
 wf:∀v∈args,BL W v
theorem Pm.blw(h:Pm c M O w F kv K k W S S0 t av us args)(a:Q3 w w'):Stp M w M w'/\(∀b,O b->w'.heap[b]?=w.heap[b]?)/\Stt c M O w' F kv (k+1) (k+1) W:=⟨Stp.AA a,fun b d=>a.block b (h.st.fw.olt d),h.st.below a⟩
theorem Pm.no(h:Pm c M O w F kv K k W S S0 t av us args)(d:Q3 w w'){x:Nat}(e:x≠0)(a:AH W S0 (.AZ t) args=⟨x,W,S0⟩)(b:Q8):Post c M O w F kv K (k+1) 1 (aGG .nilIface (aY b (x:Int))) w':=by obtain⟨f,g,i⟩:=h.blw d;exact Post.faultT f g (Fg.Le.refl _) h.at_ h.ne b e (by rw [h.step,a]) (by rw [h.step,a]) i n_
theorem Pm.pure(h:Pm c M O w F kv K k W S S0 t av us args)(b:Q3 w w'){d:PS->SR}(a:GZ W F.s d e)(f:AH W S0 (.AZ t) args=d S0):Post c M O w F kv K (k+1) 1 e w':=by
 rcases a with⟨v,q,rfl,g,a⟩ | ⟨i,x,j,rfl,a⟩
 ·obtain⟨l,m,n⟩:=h.blw b;exact Post.giveT l m (Fg.Le.refl _) h.at_ h.ne (h.step.trans (f.trans (a S0))) (fun _=>rfl) rfl h.fr g n n_
 ·exact h.no b j (f.trans (a S0)) i
theorem FW.DD(h:FW L M O w F N W){x y:Value}{p:PV×PV}(c:RV F.s x p.1)(d:RV F.s y p.2):FW L M O (w.alloc (.cells #[x,y] E0)) {F with s:=F.s.DD w.heap.size,pr:=F.pr++[]} N {W with pairs:=W.pairs++[p]}/\RV (F.s.DD w.heap.size) (.iface 272 (Q0 w.heap.size)) (.pair W.pairs.length):=by have e:Q3 w (w.alloc (.cells #[x,y] E0)):=b_;have a:=h.below e;have l:Fg.Le F {F with s:=F.s.DD w.heap.size,pr:=F.pr++[]}:=Fg.le_s (F.s.EK w.heap.size);obtain⟨f,g⟩:=h.CY.pairs.push h.CY.mlt c d;exact⟨a.re l rfl rfl rfl rfl ⟨a.CY.B3,f,a.CY.FV,a.CY.JJ,a.CY.mlt⟩ rfl (fun _ _ x=>x) h.pql h.pqi (fun i b q j k m=>(a.pqa i b q j k m).go (Stp.refl _ _) l) (a.AG.mono (fun b x c=>c.go (Stp.refl _ _) l)) (a.places.le l.s rfl) a.oth (by simp [h.pr]),g⟩
theorem Pm.cons{wa:World}(h:Pm c M O w F kv K k W S S0 t av us args)(g:Q3 w wa){x y:Value}{a b:PV}(i:RV F.s x a)(j:RV F.s y b)(l:AH W S0 (.AZ t) args=⟨0,{W with pairs:=W.pairs++[(a,b)]},S0.A1 (.pair W.pairs.length)⟩):Post c M O w F kv K (k+1) 1 (aGG (.iface 272 (Q0 wa.heap.size)) .nilIface) (wa.alloc (.cells #[x,y] E0)):=by obtain⟨m,n,e⟩:=h.blw g;have d:Q3 wa (wa.alloc (.cells #[x,y] E0)):=b_;obtain⟨o,q⟩:=e.fw.DD (p:=(a,b)) i j;exact Post.giveT (m.trans (Stp.AA d)) (fun b f=>(d.block b (e.fw.olt f)).trans (n b f)) (Fg.le_s (F.s.EK _)) h.at_ h.ne (h.step.trans l) (fun _=>rfl) rfl h.fr q (e.fwd d o rfl) n_
theorem tBy:JM≠B9/\JM≠TGlb/\JM≠TCod/\JM≠TInt/\JM≠TFMc/\JM≠TFrm:=by decide
theorem Pm.disp(h:Pm c M O w F kv K k W S S0 t av us args)(hz:k<c.z){lv av' gv ov:Value}(y:Mch c M w kv lv av' gv (k+1) ov)(z:LfR M w lv [])(I:DS M w ov W.out){a:PV}(Q:OR W w c.rb 6 ov W.out a e w')(J:AH W S0 (.AZ t) args=B0 W S0 A7 a):Post c M O w F kv K (k+1) 1 e w':=by
 have A:B0 W S0 A7 a=if W.out.length+(Pl.cut (Pl.text W.pairs a)).length<=1000 then⟨0,{W with out:=W.out++Pl.cut (Pl.text W.pairs a)},S0.A1 .nothing⟩ else⟨11,W,S0⟩:=if_pos rfl;rcases Q with⟨L,i,R,rfl⟩ | ⟨L,rfl,N,i,r,B,d,j,s,rfl⟩
 ·exact h.no i (x:=11) w8 (by rw [J,A,if_neg x8]) R
 ·rw [if_pos L] at A;have l:=aGK i I.1;have n:=y.below i;obtain⟨T,U⟩:=Mf.own (M:=M) l I.2 j d s tBy.1 tBy.2.1 tBy.2.2.1 tBy.2.2.2.1;have C:some c.rb≠ov.ownBlock:=fun e=>by obtain⟨o,f⟩:=aF9 l e.symm;exact aGF n.blk f tMc.2.2.2.2.2 rfl
  have p:B.heap[c.rb]?=some (.cells #[kv,lv,av',gv,Q1 ((k+1:Nat):Int),Q1 c.z,ov] TFMc (0,0)):=(j.block _ (aB n.blk) C).trans n.blk;have D:Mch c (Mn M (fun k=>r.ownBlock=some k/\N.heap.size<=k)) B kv lv av' gv (k+1) ov:=⟨p,.inl y.m⟩
  have E:=(Mf.below i).trans (T.trans (D.mf 6 r))
  have G:∀g,lv.ownBlock=some g->(B.setCell ⟨c.rb,6,none⟩ r).heap[g]?=w.heap[g]? := fun g u=>by
   obtain⟨o,f⟩:=aF9 z.1 u;have v:=(i.block g (aB f)).trans f;have V:g≠c.rb:=aGF f y.blk tMc.2.2.2.2.1.symm;have X:some g≠ov.ownBlock:=fun e=>by obtain⟨P,H⟩:=aF9 l e.symm;exact aGF v H tBy.2.2.2.2.2.symm rfl
   rw [Below.heap_setCell _ _ _ _ (fun x=>V zM2),j.block g (aB v) X,i.block g (aB f)]
  refine Post.giveT (M':=Mn M (fun k=>r.ownBlock=some k/\N.heap.size<=k)) E.AQ (fun b Y=>?_) (Fg.Le.refl _) h.at_ h.ne (h.step.trans (J.trans A)) (fun q=>by omega) rfl h.fr .nothing (m:=k+1) ⟨(h.st.fw.mf E).outW _,⟨lv,av',gv,r,⟨aD p 6 r,.inl y.m⟩,⟨aGD z.1 G,fun g u=>.inl (z.2 g u)⟩,⟨aGD d (fun g u=>Below.heap_setCell _ _ _ _ (fun x=>?_)),U⟩⟩,h.st.bd⟩ n_
  ·obtain⟨Z,⟨o,f⟩,_⟩:=h.st.fw.oth b Y;exact(E.same Z f (.inl rfl)).2.trans f.symm
  ·obtain⟨o,f⟩:=aF9 d u;exact aGF f p tBy.2.2.2.2.1 zM2
theorem Pm.two(h:Pm c M O w F kv K k W S S0 t av us args)(l:args.length=2):∃u v a b g d i,args=[a,b]/\av=.slice (some ⟨g,d,none⟩) 2 i/\w.cell? ⟨g,d,none⟩=some u/\w.cell? ⟨g,d+1,none⟩=some v/\RV F.s u a/\RV F.s v b:=by
 have j:=h.CH.1
 obtain⟨u,v,rfl⟩:∃u v,us=[u,v]:=by
  match us,j.trans l with
  | [u,v],_=>exact⟨u,v,rfl⟩
 obtain⟨a,b,rfl⟩:∃a b,args=[a,b]:=by
  match args,l with
  | [a,b],_=>exact⟨a,b,rfl⟩
 obtain⟨p,i,rfl,_,f⟩:=h.row;obtain⟨g,d,rfl,n⟩:=f 0 u rfl;obtain⟨q,m,e,o⟩:=f 1 v rfl;simp only [o_,Addr.mk.injEq,and_true] at e;obtain⟨rfl,rfl⟩:=e;exact⟨u,v,a,b,g,d,i,rfl,rfl,n,o,h.CH.2 0 u a rfl rfl,h.CH.2 1 v b rfl rfl⟩
theorem Pm.one(h:Pm c M O w F kv K k W S S0 t av us args)(i:args.length=1):∃u a g b d,args=[a]/\av=.slice (some ⟨g,b,none⟩) 1 d/\w.cell? ⟨g,b,none⟩=some u/\RV F.s u a:=by have f:=h.CH.1;obtain⟨u,rfl⟩:∃u,us=[u]:=List.length_eq_one_iff.1 (f.trans i);obtain⟨a,rfl⟩:∃a,args=[a]:=List.length_eq_one_iff.1 i;obtain⟨l,d,rfl,_,e⟩:=h.row;obtain⟨g,b,rfl,j⟩:=e 0 u rfl;exact⟨u,a,g,b,d,rfl,rfl,j,h.CH.2 0 u a rfl rfl⟩
theorem f_ap0(h:Pm c M O w F kv K k W S S0 BH av us args)(i:args.length=arity BH) :Q2 235 #[Q1 ((0:Nat):Int),av,.pointer (some ⟨c.rb,6,none⟩)] w (Post c M O w F kv K (k+1) 1):=by obtain⟨u,v,a,b,g,d,f,rfl,rfl,j,l,m,n⟩:=h.two i;exact(zE w F.s W g d f u v _ a b h.st.fw.JQ h.st.fw.NH j l m n (h.wf a w9) (h.wf b w9)).mono (fun e q ⟨o,p⟩=>h.pure o p (fM W S0 BH a b w8))
theorem f_ap1(h:Pm c M O w F kv K k W S S0 A4 av us args)(i:args.length=arity A4) :Q2 235 #[Q1 ((1:Nat):Int),av,.pointer (some ⟨c.rb,6,none⟩)] w (Post c M O w F kv K (k+1) 1):=by obtain⟨u,v,a,b,g,d,f,rfl,rfl,j,l,m,n⟩:=h.two i;exact(zD w F.s W g d f u v _ a b h.st.fw.JQ h.st.fw.NH j l m n (h.wf a w9) (h.wf b w9)).mono (fun e q ⟨o,p⟩=>h.pure o p (fM W S0 A4 a b w8))
theorem f_ap2(h:Pm c M O w F kv K k W S S0 BA av us args)(i:args.length=arity BA) :Q2 235 #[Q1 ((2:Nat):Int),av,.pointer (some ⟨c.rb,6,none⟩)] w (Post c M O w F kv K (k+1) 1):=by obtain⟨u,v,a,b,g,d,f,rfl,rfl,j,l,m,n⟩:=h.two i;exact(zC w F.s W g d f u v _ a b h.st.fw.JQ h.st.fw.NH j l m n (h.wf a w9) (h.wf b w9)).mono (fun e q ⟨o,p⟩=>h.pure o p (fM W S0 BA a b w8))
theorem f_ap3(h:Pm c M O w F kv K k W S S0 BW av us args)(i:args.length=arity BW) :Q2 235 #[Q1 ((3:Nat):Int),av,.pointer (some ⟨c.rb,6,none⟩)] w (Post c M O w F kv K (k+1) 1):=by obtain⟨u,v,a,b,g,d,f,rfl,rfl,j,l,m,n⟩:=h.two i;exact(zB w F.s W g d f u v _ a b h.st.fw.JQ h.st.fw.NH j l m n (h.wf a w9) (h.wf b w9)).mono (fun e q ⟨o,p⟩=>h.pure o p (fM W S0 BW a b w8))
theorem f_ap4(h:Pm c M O w F kv K k W S S0 IA av us args)(i:args.length=arity IA) :Q2 235 #[Q1 ((4:Nat):Int),av,.pointer (some ⟨c.rb,6,none⟩)] w (Post c M O w F kv K (k+1) 1):=by obtain⟨u,v,a,b,g,d,f,rfl,rfl,j,l,m,n⟩:=h.two i;exact(zA w F.s W g d f u v _ a b h.st.fw.JQ h.st.fw.NH j l m n (h.wf a w9) (h.wf b w9)).mono (fun e q ⟨o,p⟩=>h.pure o p (fM W S0 IA a b w8))
theorem f_ap6(h:Pm c M O w F kv K k W S S0 DN av us args)(f:args.length=arity DN) :Q2 235 #[Q1 ((6:Nat):Int),av,.pointer (some ⟨c.rb,6,none⟩)] w (Post c M O w F kv K (k+1) 1):=by obtain⟨u,a,g,b,d,rfl,rfl,i,j⟩:=h.one f;exact(y8 M w F.s W g b d u _ a h.st.fw.JQ h.st.fw.CY.pairs h.st.fw.NH i j).mono (fun e n ⟨l,m⟩=>h.pure l m (jX W S0 DN a w8))
theorem f_ap7(h:Pm c M O w F kv K k W S S0 C8 av us args)(f:args.length=arity C8) :Q2 235 #[Q1 ((7:Nat):Int),av,.pointer (some ⟨c.rb,6,none⟩)] w (Post c M O w F kv K (k+1) 1):=by obtain⟨u,a,g,b,d,rfl,rfl,i,j⟩:=h.one f;exact(p_apply7 M w F.s W g b d u _ a h.st.fw.JQ h.st.fw.CY.pairs h.st.fw.NH i j).mono (fun e n ⟨l,m⟩=>h.pure l m (jX W S0 C8 a w8))
theorem f_ap8(h:Pm c M O w F kv K k W S S0 DY av us args)(f:args.length=arity DY) :Q2 235 #[Q1 ((8:Nat):Int),av,.pointer (some ⟨c.rb,6,none⟩)] w (Post c M O w F kv K (k+1) 1):=by obtain⟨u,a,g,b,d,rfl,rfl,i,j⟩:=h.one f;exact(p_apply8 M w F.s W g b d u _ a h.st.fw.JQ h.st.fw.CY.pairs h.st.fw.NH i j).mono (fun e n ⟨l,m⟩=>h.pure l m (jX W S0 DY a w8))
theorem f_ap9(h:Pm c M O w F kv K k W S S0 DW av us args)(f:args.length=arity DW) :Q2 235 #[Q1 ((9:Nat):Int),av,.pointer (some ⟨c.rb,6,none⟩)] w (Post c M O w F kv K (k+1) 1):=by obtain⟨u,a,g,b,d,rfl,rfl,i,j⟩:=h.one f;exact(yZ M w F.s W g b d u _ a h.st.fw.JQ h.st.fw.CY.pairs h.st.fw.NH i j).mono (fun e n ⟨l,m⟩=>h.pure l m (jX W S0 DW a w8))
theorem f_ap10(h:Pm c M O w F kv K k W S S0 BR av us args)(i:args.length=arity BR) :Q2 235 #[Q1 ((10:Nat):Int),av,.pointer (some ⟨c.rb,6,none⟩)] w (Post c M O w F kv K (k+1) 1):=by obtain⟨u,v,a,b,g,d,f,rfl,rfl,j,l,m,n⟩:=h.two i;exact(vE w F.s W g d f _ u v _ a b h.st.fw.JQ h.st.fw.TJ j l m n).mono (fun e q ⟨o,p⟩=>h.pure o p (fM W S0 BR a b w8))
theorem f_ap5(h:Pm c M O w F kv K k W S S0 CS av us args)(l:args.length=arity CS) :Q2 235 #[Q1 ((5:Nat):Int),av,.pointer (some ⟨c.rb,6,none⟩)] w (Post c M O w F kv K (k+1) 1):=by
 obtain⟨u,v,a,b,g,d,f,rfl,rfl,m,n,i,j⟩:=h.two l
 exact(y9 w g d f u v _ h.st.fw.JQ m n i.iface j.iface).mono (fun e r ⟨s,o,p,q⟩=>by
  subst p q
  exact h.cons o i j ((fM W S0 CS a b w8).trans (if_pos rfl)))
theorem f_ap11(h:Pm c M O w F kv K k W S S0 A7 av us args)(j:k<c.z)(l:args.length=arity A7) :Q2 235 #[Q1 ((11:Nat):Int),av,.pointer (some ⟨c.rb,6,none⟩)] w (Post c M O w F kv K (k+1) 1):=by obtain⟨u,a,g,b,d,rfl,rfl,m,n⟩:=h.one l;obtain⟨x,o,y,p,f,q,i⟩:=h.st.mc;obtain⟨r,t,s,_⟩:=h.at_.inv;exact(vD w F.s W (aC2 s) c.rb 6 _ TFMc p W.out g b d u a h.st.fw.JQ h.st.fw.TJ n (h.wf a w9) f.blk rfl i.1 tMc.2.2.2.2.2 r m).mono (fun e z v=>h.disp j f q i v (jX W S0 A7 a w8))
theorem f_apply(h:Pm c M O w F kv K k W S S0 t av us args)(i:k<c.z)(f:Nat)(a:AO[f]?=some t)(d:f<12) :Q2 235 #[Q1 f,av,.pointer (some ⟨c.rb,6,none⟩)] w (Post c M O w F kv K (k+1) 1):=by
 by_cases b:args.length=arity t
 ·match f,d,a with
  | 0,_,a=>obtain rfl:=i_ a;exact f_ap0 h b
  | 1,_,a=>obtain rfl:=i_ a;exact f_ap1 h b
  | 2,_,a=>obtain rfl:=i_ a;exact f_ap2 h b
  | 3,_,a=>obtain rfl:=i_ a;exact f_ap3 h b
  | 4,_,a=>obtain rfl:=i_ a;exact f_ap4 h b
  | 5,_,a=>obtain rfl:=i_ a;exact f_ap5 h b
  | 6,_,a=>obtain rfl:=i_ a;exact f_ap6 h b
  | 7,_,a=>obtain rfl:=i_ a;exact f_ap7 h b
  | 8,_,a=>obtain rfl:=i_ a;exact f_ap8 h b
  | 9,_,a=>obtain rfl:=i_ a;exact f_ap9 h b
  | 10,_,a=>obtain rfl:=i_ a;exact f_ap10 h b
  | 11,_,a=>obtain rfl:=i_ a;exact f_ap11 h i b
  | n+12,d,_=>omega
 ·have j:AH W S0 (.AZ t) args=⟨10,W,S0⟩:=by
   show(if args.length≠arity t then _ else _)=_;rw [if_pos b]
  have l:=h.CH.1;obtain⟨m,g,rfl,_,_⟩:=h.row;exact(vC f t w m us.length g _ h.st.fw.JQ a d (by rw [l];exact b)).mono (fun e r ⟨o,p,q⟩=>by subst q;exact h.no o (x:=10) w8 j p)
theorem aJD(w:World):Q2 185 #[] w fun e a=>∃b,e=.returned (aY b 7)/\w=a:=by
 go_enter func185,ntmps185
 go_wp2_with (go_at_call 47;refine(bJ _ _ _).mono ?_;rintro e c ⟨rfl,rfl⟩)
 go_ret;exact⟨_,rfl,rfl⟩
theorem aK3(h:Pm c M O w F kv K k W S S0 t av us args)(d:Nat)(v:AO[d]?=some t)(l:d<12) :Q2 220 #[Q0 c.rb,Q1 d,av] w (Post c M O w F kv K (k+1) 1):=by
 have m:Q3 w w.drew:=r_.drew;have g:Pm c M O w.drew F kv K k W S S0 t av us args:=by obtain⟨n,a,o,p,q⟩:=h.row;exact⟨h.st.below m,h.at_,h.ne,h.step,h.fr,⟨n,a,o,p,fun i u x=>q i u x⟩,h.CH,h.wf⟩
 obtain⟨E,G,_⟩:=h.st.cells;have y:=h.st.bd;have z:=h.at_.le;obtain⟨n,a,rfl,_,_⟩:=h.row;by_cases A:k<c.z
 ·have B:Hid (Q2 235 #[Q1 d,.slice n us.length a,.pointer (some ⟨c.rb,6,none⟩)] w.drew (Post c M O w F kv K (k+1) 1)):=(f_apply g A d v l).mono (fun e H f=>f.after (Stp.AA m) (fun b _=>rfl) (Fg.Le.refl _) n_ n_);have r:((k+1:Nat):Int)<=(c.z:Int):=by omega
  clear h g;go_enter func220,ntmps220;go_wp2_with fail
  go_region
  go_wp2_with (go_at_call 235;refine(Calls.mono B ?_);intro e C f;obtain⟨I,J,rfl⟩:=f.tup;have s:=(show Hid _ from f);clear f)
  go_ret2;exact s
 ·have D:Hid (∀j,Post c M O w F kv K (k+1) 1 (aGG .nilIface (aY j 7)) w.drew):=fun j=>⟨M,F,k,W,S,Stp.AA m,fun _ _=>rfl,Fg.Le.refl _,h.at_,h.ne,x8,x8,.spent j x8 g.st⟩
  have r:(c.z:Int)<((k+1:Nat):Int):=by omega
  clear h g;go_enter func220,ntmps220;go_wp2_with fail
  go_region
  go_wp2_with (go_at_call 185;refine(aJD _).mono ?_;rintro e C ⟨j,rfl,rfl⟩)
  go_ret2;exact D.out _
def Ow(O:Q5)(v:Value)(k:Nat):Prop:=O k\/v.ownBlock=some k
theorem FW.ownApp{v':Value}{xs':List Value}(h:FW L M (Ow O v) w F N W)(ho:w.ownsRow 0 B9 1 v n xs)(s:w.grownBy w' v.ownBlock)(z:w'.ownsRow 0 B9 1 v' n' xs')(A:∀g,v'.ownBlock=some g->v.ownBlock=some g\/w.heap.size<=g)(hO:∀g,v.ownBlock=some g->¬O g) :FW L (Mn M (fun k=>v'.ownBlock=some k/\w.heap.size<=k)) (Ow O v') w' F N W/\Stp M w (Mn M (fun k=>v'.ownBlock=some k/\w.heap.size<=k)) w'/\(∀k,O k->w'.heap[k]?=w.heap[k]?)/\(∀k,M k->k<w.heap.size->v.ownBlock≠some k->w'.heap[k]?=w.heap[k]?)/\∀g,v'.ownBlock=some g->¬O g:=by
 have B:=h.CY.mlt;have P:∀k,v.ownBlock=some k->M k:=fun k a=>(h.oth k (.inr a)).1;have j:Stp M w (Mn M (fun k=>v'.ownBlock=some k/\w.heap.size<=k)) w':=⟨s.os,s.tape,s.output,s.size,fun k a hn=>⟨s.block k a (fun e=>hn (P k e.symm)),fun x=>x.elim hn (fun y=>by have:=y.2;omega)⟩⟩
 have f:∀k,k<w.heap.size->v.ownBlock≠some k->w'.heap[k]?=w.heap[k]? := fun k a e=>s.block k a (fun q=>e q.symm)
 have r:∀{k:Nat} {T:TypeId} {Q:Array Value},w.heap[k]?=some (.cells Q T (0,0))->T≠B9->w'.heap[k]?=some (.cells Q T (0,0)):=fun {k} {T} {Q} a hT=>(f k (aB a) (fun e=>by
  obtain⟨d,u⟩:=aF9 ho e
  exact aGF a u hT rfl)).trans a
 obtain⟨R,nn,C⟩:=h.map.F6;obtain⟨ab,n2,t⟩:=h.CY.B3.F6
 have l:∀{k:Nat} {R:Array MapEntry} {n:Nat},w.heap[k]?=some (.map R n)->w'.heap[k]?=w.heap[k]? := fun {k} {R} {n} a=>f k (aB a) (fun e=>by
  obtain⟨d,u⟩:=aF9 ho e
  exact aGN a u rfl)
 have hl:=Fg.Le.refl F
 have S:∀g,v'.ownBlock=some g->¬O g:=fun g U D=>by
  rcases A g U with q | q
  ·exact hO g q D
  ·have:=B g (h.oth g (.inl D)).1;omega
 have E:∀k,O k->w'.heap[k]?=w.heap[k]? := fun k a=>by obtain⟨K,⟨d,V⟩,_⟩:=h.oth k (.inl a);exact f k (aB V) (fun e=>hO k e a)
 refine⟨⟨⟨h.CY.B3.keep (j.block _ h.CY.B3.lt.1 h.CY.JJ).1 (l t),h.CY.pairs.AQ j,.inl h.CY.FV,(j.block _ h.CY.B3.lt.1 h.CY.JJ).2,fun k a=>?_⟩,h.NN.go j,.inl h.TH,h.UE,h.map.keep (l C),h.gn,fun k g a=>?_,h.ginj,h.gall,h.gpl,fun G m=>?_,h.sn1,h.sn2,h.sgl,h.pql,h.pqi,fun i b q H I X=>(h.pqa i b q H I X).go j hl,h.AG.mono (fun b x hx=>hx.go j hl),⟨h.places.len,h.places.inj,fun i g o p J Y=>?_⟩,fun k a=>?_,h.pr,h.gs.AQ j,h.JQ.AQ h.gs j,(bY h.gs j kT).trans h.gt,?_,h.tq,h.tc,h.nl⟩,j,E,fun k _ a e=>f k a e,S⟩
 ·rcases a with a | a
  ·exact l_ (B k a) s.size
  ·exact(z.lt k a.1).2
 ·obtain⟨H,v',c,nm,I,X,h4⟩:=h.gat k g a;exact⟨.inl H,v',c,nm,I,r X tVs.2.2.1.symm,h4⟩
 ·obtain⟨k,a⟩:=h.sgl G m;obtain⟨us,mv,gv,c,e,e1,e2,e3,_⟩:=(h.sit G m).ex;exact(h.sit G m).go j (.inl (h.sit G m).mb) (.inl (h.sit G m).sb) ((r e1 tVs.1.symm).trans e1.symm) ((r e2 tVs.2.1.symm).trans e2.symm) ((r e3 tVs.2.2.1.symm).trans e3.symm)
 ·obtain⟨k1,d,x,k2,k3,k4⟩:=h.places.at_ i g o p J Y;exact⟨.inl k1,d,x,(f g (aB k2) (fun e=>(h.oth g (.inr e)).2.2 i o J)).trans k2,k3,k4⟩
 ·rcases a with a | a
  ·obtain⟨K,⟨d,V⟩,Z⟩:=h.oth k (.inl a);exact⟨.inl K,⟨d,(E k a).trans V⟩,Z⟩
  ·obtain⟨d,u⟩:=aF9 z a;rcases A k a with q | q
   ·obtain⟨K,_,Z⟩:=h.oth k (.inr q);exact⟨.inl K,⟨d,u⟩,Z⟩
   ·refine⟨.inr ⟨a,q⟩,⟨d,u⟩,fun i o e=>?_⟩;have aa:=(s_ e).1;obtain⟨p,Y⟩:∃p,W.places[i]?=some p:=⟨_,g_ (by rw [<- h.places.len];exact aa)⟩
    have:=aB (h.places.at_ i k o p e Y).2.choose_spec.choose_spec.1;omega
 ·obtain⟨v,H,I⟩:=h.ge;exact⟨v,(bY h.gs j kU).trans H,I⟩
def Mz(M:Q5)(v:Value)(k:Nat):Prop:=M k/\v.ownBlock≠some k
theorem Stp.freeze(M:Q5)(v:Value)(w:World):Stp M w (Mz M v) w:=⟨rfl,rfl,rfl,n_,fun _ _ a=>⟨rfl,fun x=>a x.1⟩⟩
theorem FW.freeze(h:FW L M (Ow O v) w F N W)(D:w.ownsRow 0 B9 1 v n xs)(H:∀g,v.ownBlock=some g->¬O g):FW L (Mz M v) O w F N W:=by
 have m:=Stp.freeze M v w;have E:=Fg.Le.refl F;have f:∀{k:Nat} {T:TypeId} {G:Array Value},w.heap[k]?=some (.cells G T (0,0))->T≠B9->v.ownBlock≠some k:=fun {k} {T} {G} a I e=>by obtain⟨j,z⟩:=aF9 D e;exact aGF a z I rfl
 have r:∀{k:Nat} {A:Array MapEntry} {n:Nat},w.heap[k]?=some (.map A n)->v.ownBlock≠some k:=fun {k} {A} {n} a e=>by obtain⟨j,z⟩:=aF9 D e;exact aGN a z rfl
 obtain⟨A,nn,s⟩:=h.map.F6;obtain⟨J,n2,l⟩:=h.CY.B3.F6;refine⟨⟨h.CY.B3,h.CY.pairs.AQ m,⟨h.CY.FV,r l⟩,fun x=>h.CY.JJ x.1,fun k a=>h.CY.mlt k a.1⟩,h.NN.go m,⟨h.TH,r s⟩,h.UE,h.map,h.gn,fun k g a=>?_,h.ginj,h.gall,h.gpl,fun u d=>?_,h.sn1,h.sn2,h.sgl,h.pql,h.pqi,fun i b q B C y=>(h.pqa i b q B C y).go m E,h.AG.mono (fun b x K=>K.go m E),⟨h.places.len,h.places.inj,fun i g o p t P=>?_⟩,fun k a=>?_,h.pr,h.gs.AQ m,h.JQ,h.gt,h.ge,h.tq,h.tc,h.nl⟩
 ·obtain⟨B,Q,c,R,C,y,S⟩:=h.gat k g a;exact⟨⟨B,f y tVs.2.2.1.symm⟩,Q,c,R,C,y,S⟩
 ·obtain⟨us,mv,gv,c,e,U,V,e3,_⟩:=(h.sit u d).ex;exact(h.sit u d).go m ⟨(h.sit u d).mb,f U tVs.1.symm⟩ ⟨(h.sit u d).sb,f V tVs.2.1.symm⟩ rfl rfl rfl
 ·obtain⟨X,j,x,Y,Z,k4⟩:=h.places.at_ i g o p t P;exact⟨⟨X,fun e=>(h.oth g (.inr e)).2.2 i o t⟩,j,x,Y,Z,k4⟩
 ·obtain⟨a1,a2,a3⟩:=h.oth k (.inl a);exact⟨⟨a1,fun e=>H k e a⟩,a2,a3⟩
def Cr(M:Q5)(w:World)(F:Fg)(k:Nat):Prop:=M k/\(∃cur T,w.heap[k]?=some (.cells cur T (0,0))/\((T=TCod\/T=TInt)\/T=TFMc))/\∀st∈F.cs,st.mb≠k/\st.sb≠k
theorem tCs(h:(T=TCod\/T=TInt)\/T=TFMc):B9≠T/\TGlb≠T:=by rcases h with(rfl | rfl) | rfl<;>decide
theorem FW.codeSet(h:FW L M O w F N W)(I:Cr M w F k)(o:Nat)(v:Value) :FW L M O (w.setCell ⟨k,o,none⟩ v) F N W/\Stp M w M (w.setCell ⟨k,o,none⟩ v)/\∀b,b≠k->(w.setCell ⟨k,o,none⟩ v).heap[b]?=w.heap[b]? := by
 obtain⟨C,⟨J,T,r,K⟩,z⟩:=I;obtain⟨D,E⟩:=tCs K;have a:=Och.set r o v;have l:=a.AQ C;obtain⟨es,n,A⟩:=h.map.F6;obtain⟨P,n2,s⟩:=h.CY.B3.F6;have B:=Fg.Le.refl F;refine⟨⟨h.CY.och a C (aGN s r),h.NN.go l,h.TH,h.UE,h.map.keep (a.other _ (fun e=>aGN A r e.symm)),h.gn,fun j G Q=>?_,h.ginj,h.gall,h.gpl,fun u d=>?_,h.sn1,h.sn2,h.sgl,h.pql,h.pqi,fun i b q t m y=>(h.pqa i b q t m y).go l B,h.AG.mono (fun b x R=>R.go l B),⟨h.places.len,h.places.inj,fun i g S p U V=>?_⟩,fun j X=>?_,h.pr,h.gs.AQ l,h.JQ.AQ h.gs l,(bY h.gs l kT).trans h.gt,?_,h.tq,h.tc,h.nl⟩,l,fun b Y=>a.other b Y⟩
 ·obtain⟨t,Z,c,nm,m,y,h4⟩:=h.gat j G Q;exact⟨t,Z,c,nm,m,(a.other G (aGF y r E)).trans y,h4⟩
 ·obtain⟨us,mv,gv,c,e,e1,e2,e3,_⟩:=(h.sit u d).ex;exact(h.sit u d).go l (h.sit u d).mb (h.sit u d).sb (a.other _ (z u d).1) (a.other _ (z u d).2) (a.other _ (aGF e3 r E))
 ·obtain⟨k1,f,v2,H,k3⟩:=h.places.at_ i g S p U V;exact⟨k1,f,v2,(a.other g (aGF H r D)).trans H,k3⟩
 ·obtain⟨t,⟨f,m⟩,y⟩:=h.oth j X;exact⟨t,⟨f,(a.other j (aGF m r D)).trans m⟩,y⟩
 ·obtain⟨v,t,m⟩:=h.ge;exact⟨v,(bY h.gs l kU).trans t,m⟩
def Ms(M:Q5)(k j:Nat):Prop:=M j/\j≠k
theorem Stp.shut(M:Q5)(k:Nat)(w:World):Stp M w (Ms M k) w:=⟨rfl,rfl,rfl,n_,fun _ _ a=>⟨rfl,fun x=>a x.1⟩⟩
theorem FW.codeEnd(h:FW L M O w F N W)(v:Cr M w F k):FW L (Ms M k) O w F N W:=by
 obtain⟨hm,⟨m,T,n,H⟩,r⟩:=v;obtain⟨C,I⟩:=tCs H;have f:=Stp.shut M k w;have D:=Fg.Le.refl F;obtain⟨es,nn,s⟩:=h.map.F6;obtain⟨J,n2,d⟩:=h.CY.B3.F6;refine⟨⟨h.CY.B3,h.CY.pairs.AQ f,⟨h.CY.FV,(aGN d n).symm⟩,fun x=>h.CY.JJ x.1,fun k v=>h.CY.mlt k v.1⟩,h.NN.go f,⟨h.TH,(aGN s n).symm⟩,h.UE,h.map,h.gn,fun j g y=>?_,h.ginj,h.gall,h.gpl,fun l a=>?_,h.sn1,h.sn2,h.sgl,h.pql,h.pqi,fun i b q z A u=>(h.pqa i b q z A u).go f D,h.AG.mono (fun b x K=>K.go f D),⟨h.places.len,h.places.inj,fun i g o p B P=>?_⟩,fun j y=>?_,h.pr,h.gs.AQ f,h.JQ,h.gt,h.ge,h.tq,h.tc,h.nl⟩
 ·obtain⟨z,Q,c,R,A,u,S⟩:=h.gat j g y;exact⟨⟨z,aGF u n I⟩,Q,c,R,A,u,S⟩
 ·obtain⟨us,mv,gv,c,e,e1,e2,e3,_⟩:=(h.sit l a).ex;exact(h.sit l a).go f ⟨(h.sit l a).mb,(r l a).1⟩ ⟨(h.sit l a).sb,(r l a).2⟩ rfl rfl rfl
 ·obtain⟨U,m,x,E,V,X⟩:=h.places.at_ i g o p B P;exact⟨⟨U,aGF E n C⟩,m,x,E,V,X⟩
 ·obtain⟨Y,⟨t,G⟩,Z⟩:=h.oth j y;exact⟨⟨Y,aGF G n C⟩,⟨t,G⟩,Z⟩
theorem FW.more(h:FW L M O w F N W)(a:Q3 w w')(X:Q5)(b:∀k,X k->w.heap.size<=k)(c:∀k,X k->k<w'.heap.size):FW L (Mn M X) O w' F N W/\Stp M w (Mn M X) w':=by have:=Mf.wide (M:=M) X b a c;exact⟨h.mf this,this.AQ⟩
structure Cmp(L:Lo)(M O P:Q5)(w:World)(F:Fg)(W:PW)(M':Q5)(w':World)(G:Fg)(N:Nat):Prop where
 AQ:Stp M w M' w'
 le:Fg.Le F G
 s:G.s=F.s
 fw:FW L M' O w' G N W
 oth:∀b,O b->w'.heap[b]?=w.heap[b]?
 row:∀k,P k->w'.heap[k]?=w.heap[k]?
 cr:∀k,P k->Cr M' w' G k
theorem Cmp.refl(h:FW L M O w F N W)(hp:∀k,P k->Cr M w F k):Cmp L M O P w F W M w F N:=⟨Stp.refl _ _,Fg.Le.refl _,rfl,h,fun _ _=>rfl,fun _ _=>rfl,hp⟩
theorem Cmp.trans{M1 M2 M3:Q5}{a b c:World}{H:Fg}(h:Cmp L M1 O P a F W M2 b G N)(k:Cmp L M2 O P b G W M3 c H N'):Cmp L M1 O P a F W M3 c H N' :=⟨h.AQ.trans k.AQ,h.le.trans k.le,k.s.trans h.s,k.fw,fun b d=>(k.oth b d).trans (h.oth b d),fun i e=>(k.row i e).trans (h.row i e),k.cr⟩
theorem Cmp.up(h:Cmp L M O P w F W M' w' G N)(a:N<=N'):Cmp L M O P w F W M' w' G N':=⟨h.AQ,h.le,h.s,h.fw.up a,h.oth,h.row,h.cr⟩
theorem Cr.lt(h:Cr M w F k):k<w.heap.size:=by obtain⟨_,⟨a,_,b,_⟩,_⟩:=h;exact aB b
theorem Cr.below(h:Cr M w F k)(c:Q3 w w'):Cr M w' F k:=by obtain⟨d,⟨a,T,b,e⟩,f⟩:=h;exact⟨d,⟨a,T,(c.block k (aB b)).trans b,e⟩,f⟩
theorem Cmp.below{w2:World}(h:Cmp L M O P w F W M' w' G N)(a:Q3 w' w2):Cmp L M O P w F W M' w2 G N :=⟨h.AQ.trans (Stp.AA a),h.le,h.s,h.fw.below a,fun b d=>(a.block b (h.fw.olt d)).trans (h.oth b d),fun k c=>(a.block k (h.cr k c).lt).trans (h.row k c),fun k c=>(h.cr k c).below a⟩
theorem zeroGl(w:World):(zeroValue 114).run prog w=.ok (.pointer none) w:=by kernel_rfl
theorem gl_yes(h:GmAt w gb F)(f:k<=MH)(i:F.gl k=some g):∀a,a.heap[gb]?=w.heap[gb]? -> (Instr.lookup 107 (.map (some gb)) (.int .i64 (k:Int)) true).run prog a=.ok (.tuple #[pt g,.bool true]) a:=by
 obtain⟨D,⟨j,c,l,m⟩,n⟩:=h;obtain⟨o,p⟩:=n.yes k g i;intro a q;have b:a.ownsMap prog 3 heldE gb F.gn D:=⟨j,c,q.trans l,m⟩
 obtain⟨r,s,d,e⟩:=b.look_ok TN underlying107 (zeroGl a) (zd:=.held (.pointer none)) (zp:=[]) rfl (TQ f);rw [p] at e;simp only [heldE,o_,Prod.mk.injEq,DataW.held.injEq] at e;rw [d,o,e.1]
theorem gl_no(h:GmAt w gb F)(g:k<=MH)(i:F.gl k=none):∀a,a.heap[gb]?=w.heap[gb]? -> (Instr.lookup 107 (.map (some gb)) (.int .i64 (k:Int)) true).run prog a=.ok (.tuple #[.pointer none,.bool false]) a:=by
 obtain⟨D,⟨j,c,l,m⟩,n⟩:=h;have f:=n.no k i;intro a o;have b:a.ownsMap prog 3 heldE gb F.gn D:=⟨j,c,o.trans l,m⟩
 obtain⟨p,q,d,e⟩:=b.look_ok TN underlying107 (zeroGl a) (zd:=.held (.pointer none)) (zp:=[]) rfl (TQ g);rw [atKey_of_not_has f] at e;simp only [heldE,o_,Prod.mk.injEq,DataW.held.injEq] at e;rw [d,f,e.1]
def Fg.addG(F:Fg)(k g:Nat):Fg:={F with gl:=fun j=>if j=k then some g else F.gl j,gn:=F.gn+1}
theorem Fg.addG_le(b:F.gl k=none):Fg.Le F (F.addG k g):=⟨Sg.Le.refl _,fun j x a=>by
 show(if j=k then some g else F.gl j)=some x;rw [if_neg (fun e=>by rw [e,b] at a;cases a)]
 exact a,List.prefix_refl _,List.prefix_refl _⟩
theorem GmD.new{D:DataW Value}(h:GmD D F):GmD (D.put (.int .i64 (k:Int)) (.held (pt g))) (F.addG k g):=by
 have b:WideAt.IsKeyLit (.int .i64 (k:Int)):=trivial;refine⟨h.tidy.put b _,fun j x c=>?_,fun j c=>?_⟩
 ·have a:(if j=k then some g else F.gl j)=some x:=c;by_cases e:j=k
  ·subst e;rw [if_pos rfl] at a;obtain rfl:=i_ a;exact⟨has_put_same h.tidy.isMap b _,fun z=>atKey_put_same h.tidy.isMap b _ z⟩
  ·rw [if_neg e] at a;obtain⟨d,f⟩:=h.yes j x a;exact⟨by rw [has_put_other (eK e)];exact d,fun z=>by rw [atKey_put_other (eK e)];exact f z⟩
 ·have a:(if j=k then some g else F.gl j)=none:=c;by_cases e:j=k
  ·rw [if_pos e] at a;cases a
  ·rw [if_neg e] at a;rw [has_put_other (eK e)];exact h.no j a
theorem BM.map{tb mb:Nat}{ps:List (PV×PV)}(h:BM M w s tb mb ps)(a:w.grownBy w' (some gb))(f:M gb)(b:gb≠mb):BM M w' s tb mb ps:=by have d:Stp M w M w':=Stp.DX a (fun k c=>by obtain rfl:=i_ c;exact f);exact⟨h.B3.keep (d.block tb h.B3.lt.1 h.JJ).1 (a.block mb h.B3.lt.2 (fun e=>b (i_ e).symm)),h.pairs.AQ d,h.FV,h.JJ,fun k c=>l_ (h.mlt k c) a.size⟩
theorem FW.newGlob(h:FW L M O w F N W)(hP:∀k,P k->Cr M w F k)(Z:F.s.ns[k]?=some nm)(hk:F.gl k=none)(hN:N+1<=9000000000000000000){w1:World}(X:Q3 w w1)(af:w.heap.size<=g)(hg:w1.heap[g]?=some (.cells #[.nilIface,Q1 0] TGlb (0,0))) :∃A,(Instr.mapUpdate 107 (.map (some L.gb)) (.int .i64 (k:Int)) (pt g)).run prog w1=.ok () A/\w1.grownBy A (some L.gb)/\Cmp L M O P w F W (Mn M (fun j=>j=g)) A (F.addG k g) (N+1):=by
 obtain⟨m,s2⟩:=h.more X (fun j=>j=g) (fun j n=>by omega) (fun j n=>by subst n;exact aB hg);obtain⟨D,I,hD⟩:=m.map;have aa:F.s.ns.Nodup:=by obtain⟨D,_,hD⟩:=h.CY.B3.map;exact hD.nodup
 have ab:k<=MH:=by have:=(s_ Z).1;have:=h.CY.B3.nsok;unfold CT at this;omega
 have ag:=h.gn;obtain⟨A,J,B,C⟩:=I.store TN underlying107 o6 (TQ ab) (d:=.held (pt g)) (ps:=[]) (val:=pt g) rfl;have Y:=C.grown;obtain⟨es,c,K⟩:=m.map.F6;have z:Stp (Mn M (fun j=>j=g)) w1 (Mn M (fun j=>j=g)) A:=Stp.DX Y (fun j n=>by obtain rfl:=i_ n;exact m.TH);have f:∀{j:Nat} {r:Array Value} {T:TypeId},w1.heap[j]?=some (.cells r T (0,0))->A.heap[j]?=some (.cells r T (0,0)):=fun {j} {r} {T} n=>(Y.block j (aB n) (fun e=>aGN K n (i_ e))).trans n;have l:=Fg.addG_le (g:=g) hk
 have ac:Pl.find W.globals nm=none:=by
  cases hf:Pl.find W.globals nm with
  | none=>rfl
  | some i =>obtain⟨⟨E,Q,G,y⟩,_⟩:=h.gall nm i hf;obtain rfl:E=k:=S8 aa G Z;rw [hk] at y;cases y
 have t:∀{j x:Nat},(F.addG k g).gl j=some x->(j=k/\x=g)\/(j≠k/\F.gl j=some x):=fun {j} {x} n=>by
  have s:(if j=k then some g else F.gl j)=some x:=n;by_cases e:j=k
  ·rw [if_pos e] at s;exact .inl ⟨e,(i_ s).symm⟩
  ·rw [if_neg e] at s;exact .inr ⟨e,s⟩
 have R:∀{j x:Nat},F.gl j=some x->x<w.heap.size:=fun {j} {x} n=>by obtain⟨_,_,_,_,_,q,_⟩:=h.gat j x n;exact aB q
 have ad:FW L (Mn M (fun j=>j=g)) O A (F.addG k g) (N+1) W:=by
  refine⟨m.CY.map Y m.TH m.UE,m.NN.go z,m.TH,m.UE,⟨_,B,hD.new⟩,Nat.succ_le_succ h.gn,fun j x n=>?_,fun a b x ha hb=>?_,fun a i hi=>?_,m.gpl,fun st H=>?_,m.sn1,m.sn2,fun st H=>?_,m.pql,m.pqi,fun i b q a1 a2 a3=>(m.pqa i b q a1 a2 a3).go z l,m.AG.mono (fun b x hx=>hx.go z l),⟨m.places.len,m.places.inj,fun i Q o p hi hp=>?_⟩,fun j n=>?_,m.pr,m.gs.AQ z,m.JQ.AQ m.gs z,(bY m.gs z kT).trans m.gt,?_,m.tq,m.tc,m.nl⟩
  ·rcases t n with⟨rfl,rfl⟩ | ⟨_,s⟩
   ·exact⟨.inr rfl,.nilIface,0,nm,Z,f hg,Nat.zero_le _,.inl ⟨ac,rfl⟩⟩
   ·obtain⟨G,v,c',ae,y,q3,q4,q5⟩:=m.gat j x s;exact⟨G,v,c',ae,y,f q3,x8,q5⟩
  ·rcases t ha with⟨rfl,rfl⟩ | ⟨_,S⟩<;>rcases t hb with⟨rfl,e⟩ | ⟨_,U⟩
   ·rfl
   ·have:=R U;omega
   ·have:=R S;omega
   ·exact h.ginj a b x S U
  ·obtain⟨⟨E,Q,G,y⟩,q3⟩:=h.gall a i hi;exact⟨⟨E,Q,G,l.gl E Q y⟩,q3⟩
  ·have q:=m.sit st H;obtain⟨us,mv,gv,c',e,e1,e2,e3,_⟩:=q.ex;exact q.go z q.mb q.sb ((f e1).trans e1.symm) ((f e2).trans e2.symm) ((f e3).trans e3.symm)
  ·obtain⟨E,q⟩:=h.sgl st H;exact⟨E,l.gl E _ q⟩
  ·obtain⟨k1,r,x,k2,k3⟩:=m.places.at_ i Q o p hi hp;exact⟨k1,r,x,f k2,k3⟩
  ·obtain⟨a1,⟨V,a2⟩,a3⟩:=m.oth j n;exact⟨a1,⟨V,f a2⟩,a3⟩
  ·obtain⟨u,G,y⟩:=m.ge;exact⟨u,(bY m.gs z kU).trans G,y⟩
 refine⟨A,J,Y,s2.trans z,l,rfl,ad,fun b hb=>?_,fun j n=>?_,fun j n=>?_⟩
 ·obtain⟨_,⟨r,q⟩,_⟩:=h.oth b hb;exact(f ((X.block b (aB q)).trans q)).trans q.symm
 ·obtain⟨_,⟨r,_,q,_⟩,_⟩:=hP j n;exact(f ((X.block j (aB q)).trans q)).trans q.symm
 ·obtain⟨q0,⟨r,T,q,hT⟩,y⟩:=hP j n;exact⟨.inl q0,⟨r,T,f ((X.block j (aB q)).trans q),hT⟩,y⟩
end
end Go.Proofs.YtbgghmjmcapmlaaGreatDoor
