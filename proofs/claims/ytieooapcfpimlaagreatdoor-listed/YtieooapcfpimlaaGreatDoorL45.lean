import Derived.Laws.MakeOwn
import Derived.Test.YtieooapcfpimlaaGreatDoorL44
namespace Go.Proofs.YtieooapcfpimlaaGreatDoor
set_option maxHeartbeats 2000000
set_option maxRecDepth 100000
open Go.Proofs.Tryz
open Pl (PV PW PS PF CW AE Env AO)
section
open Go.RowKit Go.Maps Go.Lib
variable {w w0:World} {M M0:Nat->Prop} {us:List Value} {u sl hv:Value} {n b b' m:Nat}
theorem aG8{P:Program}{d:Array Oper}{o:Oper}{a:Act}{K:Act->World->Prop}{Q:Exit->Act->World->Prop}{E:Prop}(g:o.guard=none)(f:FuncId)(i j k l m:Operand)(u:Array TypeId)
  (y:o.op=.call {callee:=.value (.func f),args:=#[i,j,k,l,m],argTypes:=u}) {n:Func} {c:Code} (z:P.funcs[f]?=some n) (b:(n.name == "runtime.NumGoroutine")=false) (A:n.body=some c)
  (p q r s t:Value) (B:a.eval i=p) (C:a.eval j=q) (D:a.eval k=r) (F:a.eval l=s) (G:a.eval m=t) {R:Ending->World->Prop} (H:Calls P f #[p,q,r,s,t] w R) (h:∀e x,R e x->∃v,e=.returned v/\K (a.put o.dst v) x):if Region.wanted o (yielded d a.tmps)=true then Oper.wp P o a w K Q else E :=
 tP g f #[i,j,k,l,m] u y z b A #[p,q,r,s,t] (by simp [B,C,D,F,G]) H h
theorem aJ1(n:Nat)(g:n<=2000):∃e:Array Value,(∀w:World,(Instr.makeSlice 293 (.int .i64 0) (.int .i64 (n:Int))).run prog w=.ok (.slice (some ⟨w.heap.size,0,none⟩) 0 n) (w.alloc (.cells e B9)))/\∀w:World,(w.alloc (.cells e B9)).ownsRow 0 B9 1 (.slice (some ⟨w.heap.size,0,none⟩) 0 n) 0 []:=by
 obtain⟨f,b,c,a,d⟩:=rD;refine⟨madeCells (Value.nilIface).cells (n*1),fun w=>?_,fun w=>?_⟩
 ·have:=run_makeSlice (P:=prog) w 293 B9 f .nilIface underlying293 b c .i64 .i64 0 (n:Int) (by omega) (by omega) (by rw [a];simp;omega) (by rw [d];simp;omega) (by omega);rw [a] at this;simpa using this
 ·exact⟨rfl,.inr ⟨w.heap.size,n,_,rfl,Nat.zero_le _,heap_alloc_new w _,Nat.zero_le _,by unfold maxLen;omega,size_madeCells _ _,by simp⟩⟩
theorem Stt.ownNew{c:Cx}{O:Nat->Prop}{F:Fg}{kv:Value}{nn:Nat}{W:PW}{cs:Array Value}(h:Stt c M O w F kv nn m W)(d:(w.alloc (.cells cs B9)).ownsRow 0 B9 1 (.slice (some ⟨w.heap.size,0,none⟩) 0 n) 0 []) :∃b,Stt c b (Ow O (.slice (some ⟨w.heap.size,0,none⟩) 0 n)) (w.alloc (.cells cs B9)) F kv nn m W/\Stp M w b (w.alloc (.cells cs B9))/\(∀k,O k->(w.alloc (.cells cs B9)).heap[k]?=w.heap[k]?)/\∀g,(Value.slice (some ⟨w.heap.size,0,none⟩) 0 n).ownBlock=some g->¬O g:=by
 have f:Stt c M (Ow O (.slice none 0 0)) w F kv nn m W:=⟨h.fw.less (fun k i=>i.elim id (fun e=>by cases e)),h.mc,h.bd⟩
 obtain⟨j,l,o,p⟩:=f.ownApp (v':=.slice (some ⟨w.heap.size,0,none⟩) 0 n) (World.ownsRow_nil _ _ _ _) (World.grownBy_alloc w _ _) d (fun g a=>.inr (by simp only [Value.ownBlock,o_] at a;omega)) (fun g a=>by cases a);exact⟨_,j,l,o,p⟩
theorem Fs.entAny2:Enters 209:=enters_of func209 (by kernel_rfl) rfl
theorem Fs.entLam2:Enters 202:=enters_of func202 (by kernel_rfl) rfl
theorem aKP{c:Cx}{Q:Fg}{b1 b2:Nat}(nm:AE)(d:Pl.A9)(v:PV)(m:List PF)(ns:List AE)(sc:List (List AE))(o:Bx M0 w0 b1 sl TCds)(p:Bx M0 w0 b2 (fnV 207 #[]) TTkA)(y:Sl M0 w0 TCod 1 sl us.length us)(z:BY (fun u x=>RC M0 w0 Q u x sc) us m)(E:∀(i:Nat)(u:Value)(x:PF),us[i]?=some u->m[i]?=some x->CodeOk c M0 w0 Q u x sc)(h4:1<=m.length)(h5:m.length<=2000):CodeUp c M0 w0 Q (fnV 209 #[pt b1,pt b2]) (.mk .call nm d v m ns) sc:=by
 refine⟨_,_,rfl,Fs.entAny2,?_⟩;intro M O w F kv Z K n W S t l h R ha T hK hT;show Calls prog 209 #[.pointer (some ⟨c.rb,0,none⟩),Z,.pointer (some ⟨b1,0,none⟩),.pointer (some ⟨b2,0,none⟩)] w _;obtain⟨c4,_,f4⟩:=h.cells;have aa:=h.bd.2.1;have U:IU (.mk .call nm d v m ns)=1+OT m:=OL _ _ _ _ _ _;have hn:n<=1010000:=by omega
 have d1:=(o.go t).cell;have d2:=(p.go t).cell;have l1:=aB (o.go t).2;have l2:=aB (p.go t).2;have n1:=h.ne (o.go t).1;have n2:=h.ne (p.go t).1;have l4:c.rb<w.heap.size:=World.block_lt_of_cell? _ _ c4;have V:us.length=m.length:=z.1;obtain⟨X,t2,t3⟩:=h.tick (n+1);obtain⟨D,A⟩:∃D,D=(w.setCell ⟨c.rb,4,none⟩ (.int .i64 ((n+1:Nat):Int))).drew:=⟨_,rfl⟩
 have r:=(Below.refl (w.setCell ⟨c.rb,4,none⟩ (.int .i64 ((n+1:Nat):Int))).heap.size (w.setCell ⟨c.rb,4,none⟩ (.int .i64 ((n+1:Nat):Int)))).drew;have B:=X.below r;have g:=t2.trans (Stp.AA (M:=M) r);have C:=fun b G=>(r.block b (X.fw.olt G)).trans (t3 b G);rw [<- A] at B g C;have H:D.heap.size=w.heap.size:=by rw [A];simp [World.setCell,World.drew]
 obtain⟨cs,ab,j⟩:=aJ1 us.length (by omega);obtain⟨M2,y1,N,y3,y4⟩:=B.ownNew (j D);have I:=aIH (W:=W) T (.inr (.inr (.inr rfl)));have J:=ha.next (aGE T) I (fun _=>rfl) (by omega);have s:=t.trans (g.trans N);have HC:Hid (Calls prog 203 #[.pointer (some ⟨c.rb,0,none⟩),sl,Z,.slice (some ⟨w.heap.size,0,none⟩) 0 us.length,fnV 207 #[]] (D.alloc (.cells cs B9)) (Post c M O w F kv K (n+1) (2*IU (.mk .call nm d v m ns)-1))):=by rw [<- H];refine(aIJ (f:=.mk .call nm d v m ns) (env:=S.env) (sc:=sc) (us:=us) (ws:=[]) (ps:=[]) (a:=[]) (zt:=1) rfl (y.AQ s) (z.mono (fun _ _ q=>q.go s l)) (fun i u x hu hx=>(E i u x hu (by simpa [Pl.PF.ks] using hx)).go s l) (by omega) (by simp) (.any _ _ _) (aL1 _ _) (R.go (g.trans N) (Sg.Le.refl _)) (y1.up (by omega)) (j D) y4 (BY.nil _) (.part _ J (by simp;omega) rfl rfl (by simp [Pl.PS.work,Pl.PS.push,hK])) (by omega) (by simp [Pl.PF.ks];omega)).mono (fun e w' L=>L.after (g.trans N) (fun b G=>(y3 b G).trans (C b G)) (Fg.Le.refl _) (by omega) (by simp [Pl.PF.ks];omega))
 obtain⟨ho,rfl⟩:=R.ptr;obtain⟨P,k,rfl,_⟩:∃P k,sl=.slice P us.length k/\us.length<=k:=by obtain⟨_,P,k,e,hc,_⟩:=y;exact⟨P,k,e,hc⟩
 subst A;clear h t R ha o p y z E X t2 t3 B g C r y1 N y3 y4 I J s j V H U T hK hT;go_enter func209,ntmps209;go_wp2_with fail
 go_region_law (refine aG8 (by rfl) 203 _ _ _ _ _ _ (by rfl) func203 (by kernel_rfl) rfl _ _ _ _ _ (by rfl) (by rfl) (by rfl) (by rfl) (by rfl) HC ?_;intro e w3 L;obtain⟨v',x',rfl⟩:=L.tup;have Y:=(show Hid _ from L);clear L;refine⟨_,rfl,?_⟩)
 all_goals
  go_wp2_with fail
  go_ret2;exact Y
theorem aKN{c:Cx}{F0:Fg}{b1 b2 b3 b4:Nat}{u0:Value}(nm:AE)(d:Pl.A9)(v:PV)(L:List PF)(ns:List AE)(r:AE)(d':Pl.A9)(v':PV)(x:PF)(k:List AE)(sc:List (List AE))(D:Bx M0 w0 b1 sl TCds)(E:Bx M0 w0 b2 (fnV 201 #[pt b3,pt b4]) TTkA)(R:Bx M0 w0 b3 (.int .i64 (k.length:Int)) TInt)(T:Bx M0 w0 b4 u0 TCod)(ae:k.Nodup)(h0:RC M0 w0 F0 u0 x (k::sc))(ho:CodeOk c M0 w0 F0 u0 x (k::sc))(U:Sl M0 w0 TCod 1 sl us.length us)(V:BY (fun u x=>RC M0 w0 F0 u x sc) us L)(af:∀(i:Nat)(u:Value)(x:PF),us[i]?=some u->L[i]?=some x->CodeOk c M0 w0 F0 u x sc)(h5:L.length<=2000):CodeUp c M0 w0 F0 (fnV 202 #[pt b1,pt b2]) (.mk .call nm d v (.mk .lambda r d' v' [x] k::L) ns) sc:=by
 refine⟨_,_,rfl,Fs.entLam2,?_⟩;intro M O w F kv hv K n W S N l h he ha hf hK hT;show Calls prog 202 #[.pointer (some ⟨c.rb,0,none⟩),hv,.pointer (some ⟨b1,0,none⟩),.pointer (some ⟨b2,0,none⟩)] w _;obtain⟨f,t⟩:∃f,f=Pl.PF.mk .call nm d v (.mk .lambda r d' v' [x] k::L) ns:=⟨_,rfl⟩
 obtain⟨g,o⟩:∃g,g=Pl.PF.mk .lambda r d' v' [x] k:=⟨_,rfl⟩
 have H:f.k=.call:=by rw [t];rfl
 have j:f.ks=g::L:=by rw [t,o];rfl
 obtain⟨c4,_,f4⟩:=h.cells;have aq:=h.bd.2.1;have al:IU f=2+IU x+OT L:=by rw [t,OL,ZL,OL,ZL,aA5];omega
 rw [<- t] at hf hT ⊢;have hn:n<=1010000:=by omega
 have d1:=(D.go N).cell;have d2:=(E.go N).cell;have l1:=aB (D.go N).2;have l2:=aB (E.go N).2;have n1:=h.ne (D.go N).1;have n2:=h.ne (E.go N).1;have l4:c.rb<w.heap.size:=World.block_lt_of_cell? _ _ c4;have am:us.length=L.length:=V.1;have an:k.length<=2000:=by have hw:=ha.wf hf;have:=(hw.KG (x:=g) (by rw [j];simp)).lns;rw [o] at this;exact t_ this (by decide)
 have P:=aIH (W:=W) hf (.inr (.inr (.inr H)));have ag:=ha.next (aGE hf) P (fun _=>rfl) (by omega);have X:((S.push ⟨f,[],1,S.env⟩).work f.ks[0]? S.env).form=some g:=by rw [j];rfl
 have Q:=aI0 (W:=W) X (by rw [o];rfl);have Y:=ag.next (aGE X) Q (fun _=>rfl) (by omega);obtain⟨W2,Z⟩:∃W2,W2={W with procs:=W.procs++[(g,S.env)]}:=⟨_,rfl⟩
 have ah:GS c f S.env K [.proc W.procs.length] us.length (n+1+1+1) W2 []:=by
  rw [Z];have aa:((((S.push ⟨f,[],1,S.env⟩).work f.ks[0]? S.env).A1 (.proc W.procs.length)).AB)=⟨f,[],1,S.env⟩::K:=by simp [Pl.PS.A1,Pl.PS.work,Pl.PS.push,hK]
  by_cases h0:us.length=0
  ·exact .all _ ⟨f,[],1,S.env⟩ (n+1+1) rfl Y (by simp [h0]) rfl rfl aa (by show 1=f.ks.length;rw [j,c_];omega) rfl
  ·have ai:=aIG (W:={W with procs:=W.procs++[(g,S.env)]}) (S:=(((S.push ⟨f,[],1,S.env⟩).work f.ks[0]? S.env).A1 (.proc W.procs.length))) rfl aa H (by show 1≠f.ks.length;rw [j,c_];omega);exact .part _ (Y.next (aF8 aa) ai (fun _=>rfl) (by omega)) (by simp;omega) rfl rfl rfl
 obtain⟨t1,t2,t3⟩:=h.tick (n+1+1+1);obtain⟨wt,ab⟩:∃wt,wt=(w.setCell ⟨c.rb,4,none⟩ (.int .i64 ((n+1+1+1:Nat):Int))).drew:=⟨_,rfl⟩
 have I:=(Below.refl (w.setCell ⟨c.rb,4,none⟩ (.int .i64 ((n+1+1+1:Nat):Int))).heap.size (w.setCell ⟨c.rb,4,none⟩ (.int .i64 ((n+1+1+1:Nat):Int)))).drew;have J:=t1.below I;have z:=t2.trans (Stp.AA (M:=M) I);have ac:=fun b hb=>(I.block b (t1.fw.olt hb)).trans (t3 b hb);rw [<- ab] at J z ac;have aj:wt.heap.size=w.heap.size:=by rw [ab];simp [World.setCell,World.drew]
 obtain⟨G,hG⟩:∃G,G={F with s:=F.s.JE 0,pr:=F.pr++[(g,S.env)]}:=⟨_,rfl⟩
 have lG:Fg.Le F G:=by rw [hG];exact Fg.le_s (F.s.LA 0)
 have ak:Stt c M O wt G kv (n+1+1+1) n W2:=by obtain⟨lv,av,gv,ov,m1,m2,m3⟩:=J.mc;rw [hG,Z];exact⟨J.fw.JE (p:=0) (q:=(g,S.env)) (fun q=>absurd rfl q),⟨lv,av,gv,ov,m1,m2,m3⟩,h.bd⟩
 obtain⟨cs,ar,A⟩:=aJ1 us.length (by omega);obtain⟨M2,y1,y2,y3,y4⟩:=ak.ownNew (A wt);have m:=N.trans (z.trans y2);have B:=l.trans lG;have ad:G.pr[W.procs.length]?=some (.mk .lambda r d' v' [x] k,S.env):=by rw [hG,<-o];show(F.pr++[(g,S.env)])[W.procs.length]?=_;rw [h.fw.pr];simp
 have HC:Hid (Calls prog 203 #[.pointer (some ⟨c.rb,0,none⟩),sl,hv,.slice (some ⟨w.heap.size,0,none⟩) 0 us.length,fnV 201 #[pt b3,pt b4]] (wt.alloc (.cells cs B9)) (Post c M O w F kv K (n+1) (2*IU f-1))):=by rw [<- aj];refine(aIJ (f:=f) (env:=S.env) (sc:=sc) (us:=us) (ws:=[]) (ps:=[]) (a:=[.proc W.procs.length]) (zt:=1+2*IU x) H (U.AQ m) ?_ (fun i u y hu hy=>(af i u y hu (by rw [j] at hy;simpa using hy)).go m B) (by omega) (by rw [j];simp) (.lam b3 b4 W.procs.length u0 f x r d' v' k S.env sc (by rw [j,o];rfl) (R.go m) (T.go m) ae (h0.go m B) ad) (aL0 (R.go m) (T.go m) ae (ho.go m B) ad an) (he.go (z.trans y2) lG.s) (y1.up (by omega)) (A wt) y4 (BY.nil _) ah (by omega) (by rw [j];simp;omega)).mono (fun e w' hp=>hp.after (z.trans y2) (fun b hb=>(y3 b hb).trans (ac b hb)) lG (by omega) (by rw [j];simp;omega));rw [j];exact V.mono (fun _ _ q=>q.go m B)
 obtain⟨au,rfl⟩:=he.ptr;obtain⟨ao,C,rfl,_⟩:∃ao C,sl=.slice ao us.length C/\us.length<=C:=by obtain⟨_,ao,C,e,hc,_⟩:=U;exact⟨ao,C,e,hc⟩
 subst ab;clear h N he ha D E R T U V af t1 t2 t3 J z ac I y1 y2 y3 y4 P Q ag Y m A am aj al hf hK hT ak lG B ad ah h0 ho X j H hG Z t o;go_enter func202,ntmps202;go_wp2_with fail
 go_region_law (refine aG8 (by rfl) 203 _ _ _ _ _ _ (by rfl) func203 (by kernel_rfl) rfl _ _ _ _ _ (by rfl) (by rfl) (by rfl) (by rfl) (by rfl) HC ?_;intro e w3 hp;obtain⟨v',x',rfl⟩:=hp.tup;have ap:=(show Hid _ from hp);clear hp;refine⟨_,rfl,?_⟩)
 all_goals
  go_wp2_with fail
  go_ret2;exact ap
theorem aJY(c:Cx){F:Fg}{f:PF}{sc:List (List AE)}(h:RC M w F u f sc):CodeUp c M w F u f sc:=by
 induction h with
 | const b x e d v t j sc A hv=>exact aKM c e d t j sc A hv
 | loc b b' dp ix e d v t j sc A S B R=>exact aM7 c e d v t j sc A S B R
 | DI b b' g k e d v t j sc A S D E B=>exact aLX c e d v t j sc A S D E B
 | iff H I O G P u v1 v2 x y z e d v j sc l m n o p Q hy hz i1 i2 i3=>exact aG7 (r:=[y,z]) (zt:=1+2*(IU y+IU z)) l m n i1.ok (.inl rfl) rfl (by rw [ZL,ZL,aA5];omega) (by omega) (fun q=>.iff G P v1 v2 x y z _ sc rfl rfl o p hy hz) (fun q=>aJQ rfl rfl o p i2.ok i3.ok)
 | begin b sl T e d v t j sc A l m n o p s=>exact aKQ e d v t j sc A l ⟨m,n⟩ (fun i u x a b=>(s i u x a b).ok) o p
 | setL H I O G P dp ix u x e d v j sc l m n o p B R Q s=>exact aG7 (r:=[]) (zt:=1) l m n s.ok (.inr (.inl rfl)) rfl (Nat.le_add_right _ _) n_ (fun q=>.setL G P dp ix _ sc rfl o p B R) (fun q=>aIY rfl o p B R)
 | setG H I O G P g k a u x e d v j sc l m n o p D E B Q s=>exact aG7 (r:=[]) (zt:=1) l m n s.ok (.inr (.inl rfl)) rfl (Nat.le_add_right _ _) n_ (fun q=>.setG G P g k a _ sc rfl o p D E B) (fun q=>aIZ rfl o p D E B)
 | define H I O G g k u x e d v j sc l m n o D E Q s=>exact aG7 (r:=[]) (zt:=1) l m n s.ok (.inr (.inr (.inl rfl))) rfl (Nat.le_add_right _ _) n_ (fun q=>.define G g k _ sc rfl o D E) (fun q=>aHU rfl o D E)
 | lambda H I u x e d v j sc l m J Q s=>exact aJL c e d v j sc l m J Q
 | callA H I sl T e d v t j sc A C l m n o p s=>exact aKP e d v t j sc A C l ⟨m,n⟩ (fun i u x a b=>(s i u x a b).ok) o p
 | callL H I O G sl u0 T e d v t j K U V x L sc A C N W J h0 l m n p i0 s=>exact aKN e d v t j K U V x L sc A C N W J h0 i0.ok l ⟨m,n⟩ (fun i u x a b=>(s i u x a b).ok) p
 | callG H I O k st T e d v t j K U V X L sc Y Z C N D E B l m n p ho s io=>exact aKO e d v t j K U V X L sc Y Z C N D E B l m n (fun i u x a b=>(s i u x a b).ok) io
theorem aGZ(c:Cx){F:Fg}{f:PF}{sc:List (List AE)}(h:RC M w F u f sc):CodeOk c M w F u f sc:=(aJY c h).ok
theorem aLU(f:PF):IU f=1+OT f.ks:=by cases f;rw [OL];rfl
theorem aGS:∀(a:List PF)(j:Nat),OT (a.drop j)<=OT a
 | a,0=>by simp
 | [],j+1=>by simp
 | x::r,j+1=>by rw [List.drop_succ_cons,ZL];have:=aGS r j;omega
theorem p_take(c:Cx){F:Fg}{fr:CW}{sc:List (List AE)}(h:RT M w F u fr sc):∃n,1<=n/\n<=2*IU fr.form/\TakeOk c M w F u fr sc n:=by
 have v:=aLU fr.form
 cases h with
 | iff o A H I x y z _ _ d j e l B C =>rw [j,ZL,ZL,ZL,aA5] at v;exact⟨_,by omega,by omega,aJQ d j e l (aGZ c B) (aGZ c C)⟩
 | setL o A J K _ _ d e l j D=>exact⟨1,by omega,by omega,aIY d e l j D⟩
 | setG o A g k a _ _ d e l p f j=>exact⟨1,by omega,by omega,aIZ d e l p f j⟩
 | define o g k _ _ d e p f=>exact⟨1,by omega,by omega,aHU d e p f⟩
 | one b k t _ _ d m f q r i s=>exact⟨1,by omega,by omega,aJP d m f q r i s⟩
 | two b L k t u x y z _ _ d m f q r i s E G =>rw [m,ZL,ZL,ZL,aA5] at v;exact⟨_,by omega,by omega,aJO d m f q r i s E (aGZ c G)⟩
theorem p_all(c:Cx){F:Fg}{f:PF}{env:Env}{sc:List (List AE)}{a:List PV}(h:RA M w F u f env sc a)(m:∀x∈f.ks,x.ns.length<=2000):∃e,1<=e/\e+2*OT (f.ks.drop a.length)<=2*IU f/\a.length<=f.ks.length/\AllOk c M w F u env sc a e:=by
 have l:=aLU f
 cases h with
 | any=>exact⟨1,by omega,by simp;omega,by simp,aL1 _ _⟩
 | lam t v n z _ x o A B g _ _ b i j k p q =>
  have s:g.length<=2000:=m _ (q_ b)
  cases d:f.ks with
  | nil=>rw [d] at b;cases b
  | cons y r =>rw [d] at b l;simp only [List.getElem?_cons_zero,o_] at b;subst b;rw [ZL,OL,ZL,aA5] at l;exact⟨_,by omega,by simp;omega,by simp,aL0 i j k (aGZ c p) q s⟩
def FrFOk(c:Cx)(M0:Nat->Prop)(w0:World)(F0:Fg)(u:Value)(fr:CW):Prop:=∃kf cap,u=fnV kf cap/\Enters kf/\∀(M O:Nat->Prop)(w:World)(F:Fg)(kv v:Value)(K:List CW)(k:Nat)(W:PW)(S:PS),Stp M0 w0 M w->Fg.Le F0 F->Stt c M O w F kv (k+1) k W->c.At k W S->S.form=none->S.AB=fr::K->RV F.s v S.val->k+1+2*IU fr.form<=c.T ->
 Calls prog kf (#[pt c.rb,v]++cap) w (Post c M O w F kv K (k+1) (2*IU fr.form))
theorem Fs.entHand1:Enters 199:=enters_of func199 (by kernel_rfl) rfl
theorem Fs.entRow1:Enters 200:=enters_of func200 (by kernel_rfl) rfl
theorem Fs.entGath1:Enters 213:=enters_of func213 (by kernel_rfl) rfl
theorem fr_hand{c:Cx}{o:Fg}{tk:Value}{fr:CW}{sc:List (List AE)}(j:Bx M0 w0 b tk TTak)(p:Bx M0 w0 b' hv TPlP)(q:EnvF M0 w0 o.s hv fr.env sc)(x:RT M0 w0 o tk fr sc):FrFOk c M0 w0 o (fnV 199 #[pt b,pt b']) fr:=by
 obtain⟨L,N,D,n,r,rfl,E,a⟩:=p_take c x;refine⟨_,_,rfl,Fs.entHand1,?_⟩;intro M O w F z v K k W S f l h A B C g G;show Calls prog 199 #[.pointer (some ⟨c.rb,0,none⟩),v,.pointer (some ⟨b,0,none⟩),.pointer (some ⟨b',0,none⟩)] w _;have P:=(j.go f).cell;have Q:=(p.go f).cell;have R:=aB (j.go f).2;have U:=aB (p.go f).2
 have H:Hid (∀i,i=w\/i=w.drew->Calls prog n (#[pt c.rb,hv,v]++r) i (Post c M O w F z K (k+1) (2*IU fr.form))):=fun i I=>by
  have s:Below w.heap.size w i:=by
   rcases I with rfl | rfl
   ·exact r_
   ·exact r_.drew
  have t:=Stp.AA (M:=M) s;exact(a M O i F z hv v K k W S (f.trans t) l (h.below s) ((q.go f l.s).go t (Sg.Le.refl _)) A B C g (by omega)).mono (fun e V m=>m.after t (fun b j=>s.block b (h.fw.olt j)) (Fg.Le.refl _) n_ (by omega))
 have J:∀(d:Array Value)(w:World),(callFunc n d).run prog w=.ok (.enter n d) w:=E;obtain⟨X,rfl⟩:=q.ptr;obtain⟨T,y,rfl⟩:=g.iface;clear h f q A j p x a B C G g D;go_enter func199,ntmps199;go_wp2_with (go_at_fn n;refine(Calls.mono (H _ (by first | exact .inl rfl | exact .inr rfl)) ?_);intro e Y m;obtain⟨Z,x',rfl⟩:=m.tup;have u:=(show Hid _ from m);clear m);go_ret2;exact u
theorem Sl.dropN{T:TypeId}{g off cap:Nat}(h:Sl M w T 1 (.slice (some ⟨g,off,none⟩) n cap) us.length us){i c:Nat}(hi:i<=us.length)(p:m=us.length-i)(t:m<=c):Sl M w T 1 (.slice (some ⟨g,off+i,none⟩) m c) (us.drop i).length (us.drop i):=by
 obtain⟨_,v,k,e,_,q⟩:=h;simp only [Value.slice.injEq] at e;obtain⟨r,x,y⟩:=e;refine⟨by simp,_,_,by rw [List.length_drop,p],by rw [List.length_drop];omega,?_⟩;rcases q with z | ⟨A,l,b,d,f,s,a⟩
 ·left;simp;omega
 ·right;rw [<- r] at d;simp only [o_,Addr.mk.injEq,and_true] at d;obtain⟨rfl,rfl⟩:=d;refine⟨g,off+i,b,rfl,f,s,fun j u o=>?_⟩;rw [List.getElem?_drop] at o;have:=a (i+j) u o
  rwa [Nat.add_assoc]
theorem Post.stp9{c:Cx}{O:Nat->Prop}{w':World}{F:Fg}{kv:Value}{K:List CW}{z:Nat}{e:Ending}(h:Post c M O w F kv K n z e w'):∃a,Stp M w a w':=by obtain⟨a,_,_,_,_,b,_⟩:=h;exact⟨a,b⟩
theorem fr_row{c:Cx}{H:Fg}{d i j:Nat}{fr:CW}{sc:List (List AE)}(hk:fr.form.k=.begin)(r:Bx M0 w0 b sl TCds)(D:Bx M0 w0 b' (.int .i64 (i:Int)) TInt)(E:Bx M0 w0 d hv TPlP)(I:EnvF M0 w0 H.s hv fr.env sc)(s:Sl M0 w0 TCod 1 sl us.length us)(h2:BY (fun u x=>RC M0 w0 H u x sc) us (fr.form.ks.drop j))(hp:fr.pos=j+i+1)(hi:i+1<us.length)(h5:us.length<=2000):FrFOk c M0 w0 H (fnV 200 #[pt b,pt b',pt d]) fr:=by
 refine⟨_,_,rfl,Fs.entRow1,?_⟩;intro M O w F kv v K k W S a l h ha hf J t hT;show Calls prog 200 #[.pointer (some ⟨c.rb,0,none⟩),v,.pointer (some ⟨b,0,none⟩),.pointer (some ⟨b',0,none⟩),.pointer (some ⟨d,0,none⟩)] w _;have d1:=(r.go a).cell;have d2:=(D.go a).cell;have d3:=(E.go a).cell;have l1:=aB (r.go a).2;have l2:=aB (D.go a).2;have l3:=aB (E.go a).2;have L:=aLU fr.form;have z:=aJN (W:=W) hf J hk;have A:=ha.next (aF8 J) z (fun _=>rfl) (by omega);have N:OT (fr.form.ks.drop (j+i+1))<=OT fr.form.ks:=aGS _ _;have p:=s.AQ a;obtain⟨ao,m,rfl,B⟩:=s.shape;obtain⟨g,n,rfl,ac,_,_,_,_⟩:=p.get1 (i:=0) (u:=us[0]) (g_ (by omega))
 have HC:Hid (∀P,us.length-(i+1)<=P->Calls prog 184 #[.pointer (some ⟨c.rb,0,none⟩),.slice (some ⟨g,n+(i+1),none⟩) (us.length-(i+1)) P,hv] w.drew (Post c M O w F kv K (k+1) (2*IU fr.form))):=fun P Q=>by
  have R:Below w.heap.size w w.drew:=r_.drew;have G:=Stp.AA (M:=M) R;have s2:=a.trans G
  have C:BY (fun u x=>RC M w.drew F u x sc) (us.drop (i+1)) (fr.form.ks.drop (j+(i+1))):=by
   have:=(h2.mono (fun _ _ q=>q.go s2 l)).drop (i+1)
   rwa [List.drop_drop] at this
  refine(p_row (f:=fr.form) (env:=fr.env) (sc:=sc) (us:=us.drop (i+1)) (j:=j+(i+1)) hk ((p.AQ G).dropN (by omega) rfl Q) C (fun i u x hu hx=>aGZ c (C.2 i u x hu hx)) (by rw [List.length_drop];omega) (by rw [List.length_drop];omega) ((h.below R).up (by omega)) ((I.go a l.s).go G (Sg.Le.refl _)) A ⟨?_,?_,?_⟩ (by rw [<- Nat.add_assoc];omega)).mono (fun e w' hp=>hp.after G (fun b r=>R.block b (h.fw.olt r)) (Fg.Le.refl _) (by omega) (by rw [<- Nat.add_assoc];omega))
  ·rw [hp];split<;>rfl
  ·split<;>rfl
  ·rw [hp];by_cases s:j+i+1+1<fr.form.ks.length
   ·rw [if_pos s,if_pos (by omega)];simp [Pl.PS.work,Pl.PS.push,Nat.add_assoc]
   ·rw [if_neg s,if_neg (by omega)];simp [Pl.PS.work]
 have ad:(us.length:Int)<=(m:Int):=by omega
 have ae:(i:Int)+1<=(us.length:Int):=by omega
 have aa:i<=2000:=by omega
 have af:¬(m=i+1):=by omega
 have ag:(0:Int)<=(i:Int)+1:=by omega
 have ah:IntKind.i64.wrap ((i:Int)+1)=(i:Int)+1:=IntWalk.i64_in _ (by omega);have ab:((i:Int)+1).toNat=i+1:=by omega
 have HI:Hid (i+1<us.length/\us.length<=m):=⟨hi,B⟩
 obtain⟨U,rfl⟩:=I.ptr;have V:Hid (∀M' o,Stp M w M' o->o.cell? ⟨b,0,none⟩=some (.slice (some ⟨g,n,none⟩) us.length m)/\o.cell? ⟨b',0,none⟩=some (.int .i64 (i:Int))/\o.cell? ⟨d,0,none⟩=some (.pointer U)):=fun M' o q=>⟨((r.go a).go q).cell,((D.go a).go q).cell,((E.go a).go q).cell⟩
 obtain⟨T,y,rfl⟩:=t.iface;clear h a I ha r D E s p h2 hf J hT z A L N hp t;have X:Hid (w.drew.cell? ⟨b,0,none⟩=some (.slice (some ⟨g,n,none⟩) us.length m)/\w.drew.cell? ⟨b',0,none⟩=some (.int .i64 (i:Int))/\w.drew.cell? ⟨d,0,none⟩=some (.pointer U)):=⟨d1,d2,d3⟩
 go_enter func200,ntmps200
 go_wp2_with fail
 go_region_held3 (fun o=>o.cell? ⟨b,0,none⟩=some (.slice (some ⟨g,n,none⟩) us.length m)/\o.cell? ⟨b',0,none⟩=some (.int .i64 (i:Int))/\o.cell? ⟨d,0,none⟩=some (.pointer U))
  (first | exact X.out | exact Y)
  ((refine aGJ (by rfl) 184 _ _ _ _ (by rfl) func184 (by kernel_rfl) rfl _ _ _ (by rfl) (by rfl) (by rfl) (HC _ (by have:=HI.out;omega)) ?_;intro e w4 hp;obtain⟨v',x',rfl⟩:=hp.tup;obtain⟨M9,s9⟩:=hp.stp9;have Y:=(show Hid _ from V.out M9 _ s9);have Z:=(show Hid _ from hp);clear hp s9;refine⟨_,rfl,?_⟩))
 all_goals
  go_wp2_with fail
  go_ret2;exact Z
theorem fr_two{c:Cx}{r:Fg}{kp:Nat}{t:AE}{p:PV}{fr:CW}(C:fr.form.k=.call)(s:fr.form.ks.length=3)(x:fr.B8=[.AZ t,p])(hp:fr.pos=3)(D:AO[kp]?=some t)(g:kp<12)(d:Bx M0 w0 b (.int .i64 (kp:Int)) TPrm)(i:Bx M0 w0 b' u B9)(j:RV r.s u p):FrFOk c M0 w0 r (fnV 222 #[pt b,pt b']) fr:=by
 refine⟨_,_,rfl,FsentTwo2,?_⟩;intro M O w F E v K k W S f l h z A B m G;show Calls prog 222 #[.pointer (some ⟨c.rb,0,none⟩),v,.pointer (some ⟨b,0,none⟩),.pointer (some ⟨b',0,none⟩)] w _;have L:=(d.go f).cell;have N:=(i.go f).cell;have P:=aB (d.go f).2;have Q:=aB (i.go f).2;have n:=aGO fr.form
 have H:Hid (∀a,(a=w\/a=w.drew)->Calls prog 196 #[.pointer (some ⟨c.rb,0,none⟩),.int .i64 (kp:Int),.slice (some ⟨a.heap.size,0,none⟩) 2 2] (a.alloc (.cells #[u,v] B9)) (Post c M O w F E K (k+1) (2*IU fr.form))):=fun a I=>by
  have o:Below w.heap.size w a:=by
   rcases I with rfl | rfl
   ·exact r_
   ·exact r_.drew
  have J:=Stp.AA (M:=M) o;exact(aJV (O:=O) ((h.below o).up (by omega)) z A B C s x hp D g (j.le l.s) m).mono (fun e R hp=>hp.after J (fun b d=>o.block b (h.fw.olt d)) (Fg.Le.refl _) n_ (by omega))
 obtain⟨T,y,rfl⟩:=m.iface;obtain⟨U,V,rfl⟩:=j.iface;clear h f z d i A B G m j n x hp s;go_enter func222,ntmps222;go_wp2_with (go_at_call 196;refine(Calls.mono (H _ (by first | exact .inl rfl | exact .inr rfl)) ?_);intro e X hp;obtain⟨Y,Z,rfl⟩:=hp.tup;have q:=(show Hid _ from hp);clear hp);go_ret2;exact q
theorem aHX{P:Program}{b:Array Oper}{o:Oper}{a:Act}{K:Act->World->Prop}{Q:Exit->Act->World->Prop}{E:Prop}(c:o.guard=none)(s x:Operand)(t:TypeId)
  (d:o.op=.call {callee:=.builtin .append,args:=#[s,x],argTypes:=#[t,t]}) (v u:Value) (e:a.eval s=v) (f:a.eval x=u) {v':Value} {w':World} (g:(Builtin.append_ #[t,t] o.type #[v,u]).run P w=.ok v' w')
  (h:K (a.put o.dst v') w'):if Region.wanted o (yielded b a.tmps)=true then Oper.wp P o a w K Q else E:=by
 have i:Region.wanted o (yielded b a.tmps)=true:=by simp [Region.wanted,c]
 rw [if_pos i];unfold Oper.wp;simp [execOp,d,resolve,invoke,builtin,e,f,g,Result.andThen];exact h
theorem aNA{z:Option Addr}(A:Sl M w B9 1 (.slice z m m) us.length us)(a:Addr)(u:Value)(c:Nat)(O:w.cell? a=some u)(V:us.length<=2000) :∃g p B,(Builtin.append_ #[293,293] 293 #[.slice z m m,.slice (some a) 1 c]).run prog w=.ok (.slice (some ⟨g,0,none⟩) (us.length+1) p) B/\B.ownsRow 0 B9 1 (.slice (some ⟨g,0,none⟩) (us.length+1) p) (us.length+1) (us++[u])/\w.grownBy B none/\w.heap.size<=g:=by
 obtain⟨J,q,r,i,s⟩:=rD;have t:prog.underlying 293=some (.slice B9):=underlying293;obtain⟨_,Q,K,e,_,L⟩:=A;simp only [Value.slice.injEq] at e;obtain⟨rfl,rfl,_⟩:=e
 have h:∀(j:Nat)(y:Value),[u][j]?=some y->w.cell? (a.add j)=some y:=fun j y o=>by
  cases j with
  | zero=>simp at o;subst o;simpa [Addr.add] using O
  | succ j=>simp at o
 have C:us.length+1<=maxLen:=by unfold maxLen;omega
 have d:∀(f:Nat),(w.drew.alloc (.cells (us.toArray++[u].toArray++Builtin.zeroCells (Value.nilIface).cells (grownCap w (us.length+1) f B9-(us.length+1))) B9)).ownsRow 0 B9 1 (.slice (some ⟨w.heap.size,0,none⟩) (us.length+1) (grownCap w (us.length+1) f B9)) (us.length+1) (us++[u])/\w.grownBy (w.drew.alloc (.cells (us.toArray++[u].toArray++Builtin.zeroCells (Value.nilIface).cells (grownCap w (us.length+1) f B9-(us.length+1))) B9)) none:=by
  intro f;have D:=grownCap_ge w (us.length+1) f B9;have E:grownCap w (us.length+1) f B9<=maxLen:=grownCap_le_maxLen w (us.length+1) f B9 C;refine⟨⟨by simp,.inr ⟨w.heap.size,_,_,rfl,Nat.zero_le _,heap_alloc_new w.drew _,D,E,?_,?_⟩⟩,⟨rfl,rfl,rfl,by simp,fun k R _=>Below.heap_alloc w.drew _ k R⟩⟩
  ·simp only [Array.size_append,List.size_toArray,size_zeroCells,List.length_singleton,show(Value.nilIface).cells.size=1 from rfl];omega
  ·simp only [Array.toList_append,List.append_assoc];rw [<- List.append_assoc,show(us.length+1)*1=(us++[u]).length from by simp];exact List.take_left
 have F:(us.length+1)*16<=140737488355328:=by omega
 cases z with
 | none =>
  have l:us.length=0:=by
   rcases L with l | ⟨g,x,G,e,_⟩
   ·exact l
   ·cases e
  have H:us=[]:=e_ l;subst H;have I:=run_append_nil (P:=prog) w 293 293 B9 J .nilIface t q r a 1 c [u] (by rw [i];rfl) h (by omega) (by omega) (by rw [s];decide);exact⟨_,_,_,I,(d 0).1,(d 0).2,n_⟩
 | some b =>
  have n:∀j v,us[j]?=some v->w.cell? (b.add j)=some v:=fun j v o=>by
   have S:=(s_ o).1;rcases L with l | ⟨g,x,G,e,_,T,U⟩
   ·omega
   ·simp only [o_] at e;subst e;have N:w.cell? ⟨g,x+j,none⟩=some v:=(aA T _).trans (U j v o);by_cases l:j=0
    ·subst l;simpa [Addr.add] using N
    ·simpa [Addr.add,l] using N
  have I:=run_append_grow (P:=prog) w 293 293 B9 J .nilIface t q r b us.length us.length us (by rw [i];simp) n a 1 c [u] (by rw [i];rfl) h (by omega) (by omega) (by rw [s];exact growslice_fits (by omega) F);exact⟨_,_,_,I,(d _).1,(d _).2,n_⟩
theorem Cx.At.frW{c:Cx}{W:PW}{S:PS}(h:c.At n W S){fr:CW}{K:List CW}(a:S.AB=fr::K):EU W fr.form:=by obtain⟨_,t,_,b,_⟩:=h.inv;exact(b.AB.1 fr (by rw [a];simp)).form
theorem fr_gath{c:Cx}{Q:Fg}{d e:Nat}{gv tk:Value}{vs a:List PV}{fr:CW}{sc:List (List AE)}(R:fr.form.k=.call)(B:Bx M0 w0 b sl TCds)(hc:Bx M0 w0 b' hv TPlP)(hd:Bx M0 w0 d gv TVls)(he:Bx M0 w0 e tk TTk2)(C:EnvF M0 w0 Q.s hv fr.env sc)(h1:Sl M0 w0 TCod 1 sl us.length us)(h2:BY (fun u x=>RC M0 w0 Q u x sc) us (fr.form.ks.drop a.length))(hg:FD M0 w0 Q.s gv vs)(ad:∃U m,gv=.slice U m m)(ha:RA M0 w0 Q tk fr.form fr.env sc a)(t:fr.B8=a++vs)(hp:fr.pos=a.length+vs.length+1)(hi:vs.length<us.length)(h5:us.length<=2000):FrFOk c M0 w0 Q (fnV 213 #[pt b,pt b',pt d,pt e]) fr:=by
 refine⟨_,_,rfl,Fs.entGath1,?_⟩;intro M O w F kv v K k W S n l h D hf hK E hT;show Calls prog 213 #[.pointer (some ⟨c.rb,0,none⟩),v,.pointer (some ⟨b,0,none⟩),.pointer (some ⟨b',0,none⟩),.pointer (some ⟨d,0,none⟩),.pointer (some ⟨e,0,none⟩)] w _;have d1:=(B.go n).cell;have d2:=(hc.go n).cell;have d3:=(hd.go n).cell;have d4:=(he.go n).cell;have l1:=aB (B.go n).2;have l2:=aB (hc.go n).2;have l3:=aB (hd.go n).2;have l4:=aB (he.go n).2;have V:=D.frW hK;obtain⟨ws,X,G⟩:=hg.go n l.s;obtain⟨U,m,rfl⟩:=ad;have ae:ws.length=vs.length:=G.1;have H:Below w.heap.size w w.drew:=r_.drew;have Y:Below w.drew.heap.size w.drew (w.drew.alloc (.cells #[v] B9)):=b_;have I:Below w.heap.size w (w.drew.alloc (.cells #[v] B9)):=H.trans Y;have s1:=Stp.AA (M:=M) I;obtain⟨g,af,w2,hr,r,o,ag⟩:=aNA (X.AQ s1) ⟨w.heap.size,0,none⟩ v 1 (aA (heap_alloc_new w.drew _) 0) (by omega);have h0:Stt c M (Ow O (.slice none 0 0)) (w.drew.alloc (.cells #[v] B9)) F kv (k+1) k W:=by have:=h.below I;exact⟨this.fw.less (fun k R=>R.elim id (fun e=>by cases e)),this.mc,this.bd⟩
 obtain⟨y1,y2,y3,y4⟩:=h0.ownApp (World.ownsRow_nil _ _ _ _) o r (fun g' ah=>.inr (by simp only [Value.ownBlock,o_] at ah;omega)) (fun g hg=>by cases hg);have s2:=s1.trans y2;have P:=n.trans s2;have Z:Below w.heap.size w w2:=I.trans ⟨o.os,o.tape,o.output,o.size,fun k R=>o.block k (by have:=I.size;omega) (by simp)⟩;obtain⟨zt,z1,z2,z3,z⟩:=p_all c (ha.go P l) (fun x A=>by have:=(V.KG A).lns;omega);have J:BY (fun u x=>RC _ w2 F u x sc) us (fr.form.ks.drop a.length):=h2.mono (fun _ _ q=>q.go P l);have aa:a.length+us.length=fr.form.ks.length:=by have:=h2.1;rw [List.length_drop] at this;omega
 have ab:S.AB=⟨fr.form,a++vs,a.length+vs.length+1,fr.env⟩::K:=by rw [hK,<-t,<-hp]
 have ai:OT (fr.form.ks.drop (a.length+(vs++[S.val]).length))<=OT (fr.form.ks.drop a.length):=by rw [<- List.drop_drop];exact aGS _ _
 have ac:=GS.next (l:=us.length) R aa D hf ab hi (by omega);have HC:Hid (Calls prog 203 #[.pointer (some ⟨c.rb,0,none⟩),sl,hv,.slice (some ⟨g,0,none⟩) (ws.length+1) af,tk] w2 (Post c M O w F kv K (k+1) (2*IU fr.form))):=by refine(aIJ (f:=fr.form) (env:=fr.env) (sc:=sc) (us:=us) (ws:=ws++[v]) (ps:=vs++[S.val]) (a:=a) (zt:=zt) R (h1.AQ P) J (fun i u x hu A=>aGZ c (J.2 i u x hu A)) h5 z3 (ha.go P l) z (C.go P l.s) (y1.up (by omega)) (by simpa using r) y4 (G.snoc E) ac z1 (by omega)).mono (fun e w' hp=>hp.after s2 (fun b B=>(y3 b B).trans (I.block b (h.fw.olt B))) (Fg.Le.refl _) n_ (by omega))
 obtain⟨ho,rfl⟩:=C.ptr;obtain⟨T,y,rfl⟩:=E.iface;obtain⟨kt,ct,rfl⟩:∃kt ct,tk=fnV kt ct:=by cases ha<;>exact⟨_,_,rfl⟩
 obtain⟨L,s,rfl,_⟩:=h1.shape;have N:Hid (∀j,Below w.heap.size w j->j.cell? ⟨b,0,none⟩=some (.slice L us.length s)/\j.cell? ⟨b',0,none⟩=some (.pointer ho)/\j.cell? ⟨d,0,none⟩=some (.slice U m m)/\j.cell? ⟨e,0,none⟩=some (.func (.func kt) #[] ct)):=fun j A=>⟨(A.cell (p:=⟨b,0,none⟩) l1).trans d1,(A.cell (p:=⟨b',0,none⟩) l2).trans d2,(A.cell (p:=⟨d,0,none⟩) l3).trans d3,(A.cell (p:=⟨e,0,none⟩) l4).trans d4⟩
 have aj:Hid (∀M' j,Stp M w M' j->j.cell? ⟨b,0,none⟩=some (.slice L us.length s)/\j.cell? ⟨b',0,none⟩=some (.pointer ho)/\j.cell? ⟨d,0,none⟩=some (.slice U m m)/\j.cell? ⟨e,0,none⟩=some (.func (.func kt) #[] ct)):=fun M' j q=>⟨((B.go n).go q).cell,((hc.go n).go q).cell,((hd.go n).go q).cell,((he.go n).go q).cell⟩
 have HB:Hid (Below w.heap.size w w.drew/\Below w.heap.size w (w.drew.alloc (.cells #[.iface T y] B9))/\Below w.heap.size w w2):=⟨H,I,Z⟩
 clear h n C D B hc hd he h1 h2 J hf hK hT t hp E V X G ae H Y I s1 r o ag h0 y1 y2 y3 y4 s2 P Z z2 z3 z aa ab ai ac ha hg hi;go_enter func213,ntmps213;go_wp2_with fail
 go_region_held3 (fun j=>j.cell? ⟨b,0,none⟩=some (.slice L us.length s)/\j.cell? ⟨b',0,none⟩=some (.pointer ho)/\j.cell? ⟨d,0,none⟩=some (.slice U m m)/\j.cell? ⟨e,0,none⟩=some (.func (.func kt) #[] ct))
  (first | exact N.out _ HB.1 | exact N.out _ HB.2.1 | exact N.out _ HB.2.2 | exact ak)
  (first
   | (refine aHX (by rfl) _ _ 293 (by rfl) _ _ (by rfl) (by rfl) hr ?_)
   | (refine aG8 (by rfl) 203 _ _ _ _ _ _ (by rfl) func203 (by kernel_rfl) rfl _ _ _ _ _ (by rfl) (by rfl) (by rfl) (by rfl) (by rfl) HC ?_;intro e w3 hp;obtain⟨v',x',rfl⟩:=hp.tup;obtain⟨M9,s9⟩:=hp.stp9;have ak:=(show Hid _ from aj.out M9 _ s9);have al:=(show Hid _ from hp);clear hp s9;refine⟨_,rfl,?_⟩))
 all_goals
  go_wp2_with fail
  go_ret2;exact al
end
end Go.Proofs.YtieooapcfpimlaaGreatDoor
