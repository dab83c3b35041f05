import Derived.Laws.MakeOwn
import Derived.Test.YtbgghmjmcapmlaaGreatDoorF32
namespace Go.Proofs.YtbgghmjmcapmlaaGreatDoor
set_option maxHeartbeats 2000000
set_option maxRecDepth 100000
open Go.Proofs.Tryz
open Pl (PV PW PS PF CW AE Env AO AH)
section
open Go.RowKit Go.Maps Go.Lib
variable {c:Cx} {w w0:World} {M M0:Q5} {F0 F:Fg} {n b b' m:Nat} {us:List Value} {fr:CW} {u sl hv:Value} {W:PW} {f:PF}
theorem Fs.entLam1:Enters 225:=enters_of func225 t8 rfl
theorem ap_proc{S0:PS}{q:PF×Env}(h:W.procs[n]?=some q)(args:List PV):Pl.apply W S0 (.proc n) args=if args.length≠q.1.ns.length then⟨10,W,S0⟩ else⟨0,{W with places:=W.places++args},S0.work q.1.ks[0]? (q.2++Pl.C1 q.1.ns W.places.length)⟩:=by unfold Pl.apply;rw [if_neg w9];unfold AH;simp only [h]
theorem aL0{b3 b4:Nat}{u0:Value}{x:PF}{nm':AE}{d':Pl.A9}{v':PV}{ns':List AE}{env:Env}{sc:List (List AE)}(s:Bx M0 w0 b3 (.int .i64 (ns'.length:Int)) TInt)(m:Bx M0 w0 b4 u0 TCod)(aa:ns'.Nodup)(h0:CodeOk c M0 w0 F0 u0 x (ns'::sc))(hn:F0.pr[n]?=some (.mk .lambda nm' d' v' [x] ns',env))(ag:ns'.length<=2000):AllOk c M0 w0 F0 (fnV 225 #[pt b3,pt b4]) env sc [.proc n] (1+2*IU x):=by
 refine⟨_,_,rfl,Fs.entLam1,?_⟩;intro M O w F Y C D K fr k W S t E z l h H Z hf I hk o hg hA p J hT;show Q2 225 #[Q0 c.rb,C,D,Q0 b3,Q0 b4] w _;obtain⟨kf,L,rfl,eg,d⟩:=h0;have d3:=(s.go z).cell;have d4:=(m.go z).cell;have l4:=aB (m.go z).2;have a:=aHT (W:=W) (g:=.proc n) (args:=E) hf I hk o hg;have u:W.procs[n]?=some (.mk .lambda nm' d' v' [x] ns',env):=by rw [<- h.fw.pr];exact bS l.pr hn
 rw [ap_proc u] at a;have hl:=p.1;obtain⟨A,f,N,q⟩:∃A f,D=.slice A t.length f/\t.length<=f:=by obtain⟨A,f,e,hc,_⟩:=hA;exact⟨A,f,e,hc⟩
 have P:Hid (Q2 219 #[.string ⟨#[97,32,112,114,111,99,101,100,117,114,101]⟩,Q1 ns'.length,.slice A t.length f] w fun e w'=>w=w'/\((t.length=ns'.length/\e=.returned .nilIface)\/(t.length≠ns'.length/\∃B,e=.returned (aY B 10)))):=gR _ ns'.length A t.length f w x8 w8;have ah:∀(r:Array Value)(w:World),(callFunc kf r).run prog w=.ok (.enter kf r) w:=eg;by_cases j:t.length=ns'.length
 ·have hB:Q3 w (w.alloc (.cells #[D,C] TPlc)):=b_;rw [if_neg (by show ¬(E.length≠ns'.length);omega)] at a;have Q:=Z.next (aF8 I) a (fun _=>rfl) x8;obtain⟨G,lG,R,ab,T,e2,ac,U⟩:=h.fw.enter hA p
  have HC:Hid (Q2 kf (#[pt c.rb,pt w.heap.size]++L) (w.alloc (.cells #[D,C] TPlc)) (Post c M O w F Y K (k+1) (1+2*IU x))):=by
   have v:=Stp.AA (M:=M) hB;have V:St c M O w G Y (k+1) {W with places:=W.places++E}:=by obtain⟨lv,av,gv,ov,m1,m2,m3⟩:=h.mc;exact⟨R,⟨lv,av,gv,ov,m1,m2,m3⟩,h.bd⟩
   have X:EnvF M (w.alloc (.cells #[D,C] TPlc)) G.s (pt w.heap.size) (env++Pl.C1 ns' W.places.length) (ns'::sc):=by refine .cons w.heap.size C ab T W.places.length ns' env sc ⟨fun y=>by have:=h.fw.CY.mlt _ y;omega,?_⟩ x8 aa (fun i hi=>U i x8) (H.go v lG.s);rw [show ns'.length=E.length from by omega,<-e2];exact heap_alloc_new w _
   exact(d M O _ G Y (pt w.heap.size) K (k+1) _ _ (z.trans v) (l.trans lG) (V.below hB) X Q rfl rfl x8).mono (fun e w' o=>o.after v (fun b hb=>hB.block b (h.fw.olt hb)) lG n_ x8)
  have HL:=h_ j;obtain⟨oh,rfl⟩:=H.ptr;subst N;clear h H Z Q a z l j hl J hT q o hk R U d s m hA p hg I hf u hB lG e2 ac hn;go_enter func225,ntmps225
  go_wp2_with (first
   | (go_at_call 219;refine(Calls.mono P ?_);rintro e w3 ⟨rfl,⟨-,rfl⟩ | ⟨ad,_⟩⟩;rotate_left;exact absurd HL.out ad)
   | (go_at_fn kf;refine(Calls.mono HC ?_);intro e w3 o;obtain⟨v',x',rfl⟩:=o.tup;have ae:=(show Hid _ from o);clear o))
  go_ret2;exact ae
 ·rw [if_pos (by show E.length≠ns'.length;omega)] at a;have HX:Hid (∀B,Post c M O w F Y K (k+1) (1+2*IU x) (aGG .nilIface (aY B 10)) w):=fun B=>Post.faultT (x:=10) (Stp.refl _ _) (fun _ _=>rfl) (Fg.Le.refl _) Z (aF8 I) B w8 (by rw [a]) (by rw [a]) h x8;have HL:=h_ j;obtain⟨oh,rfl⟩:=H.ptr;subst N;clear h H Z a z l j hl J hT q o hk d s m hA p hg I hf u hn;go_enter func225,ntmps225;go_wp2_with (go_at_call 219;refine(Calls.mono P ?_);rintro e w3 ⟨rfl,⟨af,_⟩ | ⟨_,B,rfl⟩⟩;exact absurd af HL;unfold aY);go_ret2;exact HX.out _
theorem aG8{P:Program}{d:Array Oper}{o:Oper}{a:Act}{K:Act->World->Prop}{Q:Exit->Act->World->Prop}{E:Prop}(g:o.guard=none)(f:FuncId)(i j k l m:Operand)(u:Array TypeId)
  (y:o.op=.call {callee:=.value (.func f),args:=#[i,j,k,l,m],argTypes:=u}) {n:Func} {c:Code} (z:P.funcs[f]?=some n) (b:(n.name == "runtime.NumGoroutine")=false) (A:n.body=some c)
  (p q r s t:Value) (B:a.eval i=p) (C:a.eval j=q) (D:a.eval k=r) (F:a.eval l=s) (G:a.eval m=t) {R:Ending->World->Prop} (H:Calls P f #[p,q,r,s,t] w R) (h:∀e x,R e x->∃v,e=.returned v/\K (a.put o.dst v) x):if Region.wanted o (yielded d a.tmps)=true then Oper.wp P o a w K Q else E :=
 tP g f #[i,j,k,l,m] u y z b A #[p,q,r,s,t] (by simp [B,C,D,F,G]) H h
theorem aJ1(n:Nat)(g:n<=2000):∃e:Array Value,(∀w:World,(Instr.makeSlice 319 (.int .i64 0) (.int .i64 (n:Int))).run prog w=.ok (.slice (some ⟨w.heap.size,0,none⟩) 0 n) (w.alloc (.cells e B9)))/\∀w:World,(w.alloc (.cells e B9)).ownsRow 0 B9 1 (.slice (some ⟨w.heap.size,0,none⟩) 0 n) 0 []:=by
 obtain⟨f,b,c,a,d⟩:=rD;refine⟨madeCells (Value.nilIface).cells (n*1),fun w=>?_,fun w=>?_⟩
 ·have:=run_makeSlice (P:=prog) w 319 B9 f .nilIface underlying319 b c .i64 .i64 0 (n:Int) x8 x8 (by rw [a];simp;omega) (by rw [d];simp;omega) x8;rw [a] at this;simpa using this
 ·exact⟨rfl,.inr ⟨w.heap.size,n,_,rfl,Nat.zero_le _,heap_alloc_new w _,Nat.zero_le _,o6,size_madeCells _ _,w9⟩⟩
theorem Stt.ownNew{O:Q5}{kv:Value}{nn:Nat}{cs:Array Value}(h:Stt c M O w F kv nn m W)(d:(w.alloc (.cells cs B9)).ownsRow 0 B9 1 (.slice (some ⟨w.heap.size,0,none⟩) 0 n) 0 []) :∃b,Stt c b (Ow O (.slice (some ⟨w.heap.size,0,none⟩) 0 n)) (w.alloc (.cells cs B9)) F kv nn m W/\Stp M w b (w.alloc (.cells cs B9))/\(∀k,O k->(w.alloc (.cells cs B9)).heap[k]?=w.heap[k]?)/\∀g,(Value.slice (some ⟨w.heap.size,0,none⟩) 0 n).ownBlock=some g->¬O g:=by
 have f:Stt c M (Ow O (.slice none 0 0)) w F kv nn m W:=⟨h.fw.less (fun k i=>i.elim id (fun e=>by cases e)),h.mc,h.bd⟩
 obtain⟨j,l,o,p⟩:=f.ownApp (v':=.slice (some ⟨w.heap.size,0,none⟩) 0 n) (World.ownsRow_nil _ _ _ _) (World.grownBy_alloc w _ _) d (fun g a=>.inr (by simp only [Value.ownBlock,o_] at a;omega)) (fun g a=>by cases a);exact⟨_,j,l,o,p⟩
theorem Fs.entAny2:Enters 233:=enters_of func233 t8 rfl
theorem Fs.entLam2:Enters 226:=enters_of func226 t8 rfl
theorem aKP{b1 b2:Nat}(nm:AE)(d:Pl.A9)(v:PV)(m:List PF)(ns:List AE)(sc:List (List AE))(o:Bx M0 w0 b1 sl TCds)(p:Bx M0 w0 b2 (fnV 231 #[]) TTkA)(y:Sl M0 w0 TCod 1 sl us.length us)(z:BY (fun u x=>RC M0 w0 F0 u x sc) us m)(E:∀(i:Nat)(u:Value)(x:PF),us[i]?=some u->m[i]?=some x->CodeOk c M0 w0 F0 u x sc)(h4:1<=m.length)(h5:m.length<=2000):CodeUp c M0 w0 F0 (fnV 233 #[pt b1,pt b2]) (.mk .call nm d v m ns) sc:=by
 refine⟨_,_,rfl,Fs.entAny2,?_⟩;intro M O w F kv Y K n W S t l h Q Z R hK hT;show Q2 233 #[Q0 c.rb,Y,Q0 b1,Q0 b2] w _;obtain⟨c4,_,f4⟩:=h.cells;have aa:=h.bd.2.1;have T:IU (.mk .call nm d v m ns)=1+OT m:=OL _ _ _ _ _ _;have hn:n<=1010000:=by omega
 have d1:=(o.go t).cell;have d2:=(p.go t).cell;have l1:=aB (o.go t).2;have l2:=aB (p.go t).2;have n1:=h.ne (o.go t).1;have n2:=h.ne (p.go t).1;have l4:c.rb<w.heap.size:=World.block_lt_of_cell? _ _ c4;have U:us.length=m.length:=z.1;obtain⟨V,t2,t3⟩:=h.tick (n+1);obtain⟨D,A⟩:∃D,D=(w.setCell ⟨c.rb,4,none⟩ (.int .i64 ((n+1:Nat):Int))).drew:=⟨_,rfl⟩
 have r:=(Below.refl (w.setCell ⟨c.rb,4,none⟩ (.int .i64 ((n+1:Nat):Int))).heap.size (w.setCell ⟨c.rb,4,none⟩ (.int .i64 ((n+1:Nat):Int)))).drew;have B:=V.below r;have g:=t2.trans (Stp.AA (M:=M) r);have C:=fun b G=>(r.block b (V.fw.olt G)).trans (t3 b G);rw [<- A] at B g C;have H:D.heap.size=w.heap.size:=by rw [A];simp [World.setCell,World.drew]
 obtain⟨cs,ab,j⟩:=aJ1 us.length x8;obtain⟨M2,y1,N,y3,y4⟩:=B.ownNew (j D);have I:=aIH (W:=W) R (.inr (.inr (.inr rfl)));have J:=Z.next (aGE R) I (fun _=>rfl) x8;have s:=t.trans (g.trans N);have HC:Hid (Q2 227 #[Q0 c.rb,sl,Y,.slice (some ⟨w.heap.size,0,none⟩) 0 us.length,fnV 231 #[]] (D.alloc (.cells cs B9)) (Post c M O w F kv K (n+1) (2*IU (.mk .call nm d v m ns)-1))):=by rw [<- H];refine(aIJ (f:=.mk .call nm d v m ns) (env:=S.env) (sc:=sc) (us:=us) (ws:=[]) (ps:=[]) (a:=[]) (zt:=1) rfl (y.AQ s) (z.mono (fun _ _ q=>q.go s l)) (fun i u x hu hx=>(E i u x hu (by simpa [Pl.PF.ks] using hx)).go s l) x8 w9 (.any _ _ _) (aL1 _ _) (Q.go (g.trans N) (Sg.Le.refl _)) (y1.up x8) (j D) y4 (BY.nil _) (.part _ J r7 rfl rfl (by simp [Pl.PS.work,Pl.PS.push,hK])) x8 zO8).mono (fun e w' L=>L.after (g.trans N) (fun b G=>(y3 b G).trans (C b G)) (Fg.Le.refl _) x8 zO8)
 obtain⟨ho,rfl⟩:=Q.ptr;obtain⟨P,k,rfl,_⟩:∃P k,sl=.slice P us.length k/\us.length<=k:=by obtain⟨_,P,k,e,hc,_⟩:=y;exact⟨P,k,e,hc⟩
 subst A;clear h t Q Z o p y z E V t2 t3 B g C r y1 N y3 y4 I J s j U H T R hK hT;go_enter func233,ntmps233;go_wp2_with fail
 go_region_law (refine aG8 m6 227 _ _ _ _ _ _ m6 func227 t8 rfl _ _ _ _ _ m6 m6 m6 m6 m6 HC ?_;intro e w3 L;obtain⟨v',x',rfl⟩:=L.tup;have X:=(show Hid _ from L);clear L;refine⟨_,rfl,?_⟩)
 all_goals
  go_wp2_with fail
  go_ret2;exact X
theorem aKN{b1 b2 b3 b4:Nat}{u0:Value}(nm:AE)(d:Pl.A9)(v:PV)(L:List PF)(ns:List AE)(r:AE)(d':Pl.A9)(v':PV)(x:PF)(k:List AE)(sc:List (List AE))(D:Bx M0 w0 b1 sl TCds)(E:Bx M0 w0 b2 (fnV 225 #[pt b3,pt b4]) TTkA)(R:Bx M0 w0 b3 (.int .i64 (k.length:Int)) TInt)(T:Bx M0 w0 b4 u0 TCod)(ae:k.Nodup)(h0:RC M0 w0 F0 u0 x (k::sc))(ho:CodeOk c M0 w0 F0 u0 x (k::sc))(U:Sl M0 w0 TCod 1 sl us.length us)(V:BY (fun u x=>RC M0 w0 F0 u x sc) us L)(af:∀(i:Nat)(u:Value)(x:PF),us[i]?=some u->L[i]?=some x->CodeOk c M0 w0 F0 u x sc)(h5:L.length<=2000):CodeUp c M0 w0 F0 (fnV 226 #[pt b1,pt b2]) (.mk .call nm d v (.mk .lambda r d' v' [x] k::L) ns) sc:=by
 refine⟨_,_,rfl,Fs.entLam2,?_⟩;intro M O w F kv hv K n W S N l h he ha hf hK hT;show Q2 226 #[Q0 c.rb,hv,Q0 b1,Q0 b2] w _;obtain⟨f,t⟩:∃f,f=Pl.PF.mk .call nm d v (.mk .lambda r d' v' [x] k::L) ns:=⟨_,rfl⟩
 obtain⟨g,o⟩:∃g,g=Pl.PF.mk .lambda r d' v' [x] k:=⟨_,rfl⟩
 have H:f.k=.call:=by rw [t];rfl
 have j:f.ks=g::L:=by rw [t,o];rfl
 obtain⟨c4,_,f4⟩:=h.cells;have aq:=h.bd.2.1;have al:IU f=2+IU x+OT L:=by rw [t,OL,ZL,OL,ZL,aA5];omega
 rw [<- t] at hf hT ⊢;have hn:n<=1010000:=by omega
 have d1:=(D.go N).cell;have d2:=(E.go N).cell;have l1:=aB (D.go N).2;have l2:=aB (E.go N).2;have n1:=h.ne (D.go N).1;have n2:=h.ne (E.go N).1;have l4:c.rb<w.heap.size:=World.block_lt_of_cell? _ _ c4;have am:us.length=L.length:=V.1;have an:k.length<=2000:=by have hw:=ha.wf hf;have:=(hw.KG (x:=g) (by rw [j];simp)).lns;rw [o] at this;exact t_ this w8
 have P:=aIH (W:=W) hf (.inr (.inr (.inr H)));have ag:=ha.next (aGE hf) P (fun _=>rfl) x8;have X:((S.push ⟨f,[],1,S.env⟩).work f.ks[0]? S.env).form=some g:=by rw [j];rfl
 have Q:=aI0 (W:=W) X (by rw [o];rfl);have Y:=ag.next (aGE X) Q (fun _=>rfl) x8;obtain⟨W2,Z⟩:∃W2,W2={W with procs:=W.procs++[(g,S.env)]}:=⟨_,rfl⟩
 have ah:GS c f S.env K [.proc W.procs.length] us.length (n+1+1+1) W2 []:=by
  rw [Z];have aa:((((S.push ⟨f,[],1,S.env⟩).work f.ks[0]? S.env).A1 (.proc W.procs.length)).AB)=⟨f,[],1,S.env⟩::K:=by simp [Pl.PS.A1,Pl.PS.work,Pl.PS.push,hK]
  by_cases h0:us.length=0
  ·exact .all _ ⟨f,[],1,S.env⟩ (n+1+1) rfl Y (by simp [h0]) rfl rfl aa (by show 1=f.ks.length;rw [j,c_];omega) rfl
  ·have ai:=aIG (W:={W with procs:=W.procs++[(g,S.env)]}) (S:=(((S.push ⟨f,[],1,S.env⟩).work f.ks[0]? S.env).A1 (.proc W.procs.length))) rfl aa H (by show 1≠f.ks.length;rw [j,c_];omega);exact .part _ (Y.next (aF8 aa) ai (fun _=>rfl) x8) r7 rfl rfl rfl
 obtain⟨t1,t2,t3⟩:=h.tick (n+1+1+1);obtain⟨wt,ab⟩:∃wt,wt=(w.setCell ⟨c.rb,4,none⟩ (.int .i64 ((n+1+1+1:Nat):Int))).drew:=⟨_,rfl⟩
 have I:=(Below.refl (w.setCell ⟨c.rb,4,none⟩ (.int .i64 ((n+1+1+1:Nat):Int))).heap.size (w.setCell ⟨c.rb,4,none⟩ (.int .i64 ((n+1+1+1:Nat):Int)))).drew;have J:=t1.below I;have z:=t2.trans (Stp.AA (M:=M) I);have ac:=fun b hb=>(I.block b (t1.fw.olt hb)).trans (t3 b hb);rw [<- ab] at J z ac;have aj:wt.heap.size=w.heap.size:=by rw [ab];simp [World.setCell,World.drew]
 obtain⟨G,hG⟩:∃G,G={F with s:=F.s.JE 0,pr:=F.pr++[(g,S.env)]}:=⟨_,rfl⟩
 have lG:Fg.Le F G:=by rw [hG];exact Fg.le_s (F.s.LA 0)
 have ak:Stt c M O wt G kv (n+1+1+1) n W2:=by obtain⟨lv,av,gv,ov,m1,m2,m3⟩:=J.mc;rw [hG,Z];exact⟨J.fw.JE (p:=0) (q:=(g,S.env)) (fun q=>absurd rfl q),⟨lv,av,gv,ov,m1,m2,m3⟩,h.bd⟩
 obtain⟨cs,ar,A⟩:=aJ1 us.length x8;obtain⟨M2,y1,y2,y3,y4⟩:=ak.ownNew (A wt);have m:=N.trans (z.trans y2);have B:=l.trans lG;have ad:G.pr[W.procs.length]?=some (.mk .lambda r d' v' [x] k,S.env):=by rw [hG,<-o];show(F.pr++[(g,S.env)])[W.procs.length]?=_;rw [h.fw.pr];simp
 have HC:Hid (Q2 227 #[Q0 c.rb,sl,hv,.slice (some ⟨w.heap.size,0,none⟩) 0 us.length,fnV 225 #[pt b3,pt b4]] (wt.alloc (.cells cs B9)) (Post c M O w F kv K (n+1) (2*IU f-1))):=by rw [<- aj];refine(aIJ (f:=f) (env:=S.env) (sc:=sc) (us:=us) (ws:=[]) (ps:=[]) (a:=[.proc W.procs.length]) (zt:=1+2*IU x) H (U.AQ m) ?_ (fun i u y hu hy=>(af i u y hu (by rw [j] at hy;simpa using hy)).go m B) x8 (by rw [j];simp) (.lam b3 b4 W.procs.length u0 f x r d' v' k S.env sc (by rw [j,o];rfl) (R.go m) (T.go m) ae (h0.go m B) ad) (aL0 (R.go m) (T.go m) ae (ho.go m B) ad an) (he.go (z.trans y2) lG.s) (y1.up x8) (A wt) y4 (BY.nil _) ah x8 (by rw [j];simp;omega)).mono (fun e w' hp=>hp.after (z.trans y2) (fun b hb=>(y3 b hb).trans (ac b hb)) lG x8 (by rw [j];simp;omega));rw [j];exact V.mono (fun _ _ q=>q.go m B)
 obtain⟨au,rfl⟩:=he.ptr;obtain⟨ao,C,rfl,_⟩:∃ao C,sl=.slice ao us.length C/\us.length<=C:=by obtain⟨_,ao,C,e,hc,_⟩:=U;exact⟨ao,C,e,hc⟩
 subst ab;clear h N he ha D E R T U V af t1 t2 t3 J z ac I y1 y2 y3 y4 P Q ag Y m A am aj al hf hK hT ak lG B ad ah h0 ho X j H hG Z t o;go_enter func226,ntmps226;go_wp2_with fail
 go_region_law (refine aG8 m6 227 _ _ _ _ _ _ m6 func227 t8 rfl _ _ _ _ _ m6 m6 m6 m6 m6 HC ?_;intro e w3 hp;obtain⟨v',x',rfl⟩:=hp.tup;have ap:=(show Hid _ from hp);clear hp;refine⟨_,rfl,?_⟩)
 all_goals
  go_wp2_with fail
  go_ret2;exact ap
theorem aJY(c:Cx){sc:List (List AE)}(h:RC M w F u f sc):CodeUp c M w F u f sc:=by
 induction h with
 | const b x e d v t j sc A hv=>exact aKM c e d t j sc A hv
 | loc b b' dp ix e d v t j sc A S B R=>exact aM7 c e d v t j sc A S B R
 | DI b b' g k e d v t j sc A S D E B=>exact aLX c e d v t j sc A S D E B
 | iff H I O G P u v1 v2 x y z e d v j sc l m n o p Q hy hz i1 i2 i3=>exact aG7 (r:=[y,z]) (zt:=1+2*(IU y+IU z)) l m n i1.ok (.inl rfl) rfl (by rw [ZL,ZL,aA5];omega) x8 (fun q=>.iff G P v1 v2 x y z _ sc rfl rfl o p hy hz) (fun q=>aJQ rfl rfl o p i2.ok i3.ok)
 | begin b sl T e d v t j sc A l m n o p s=>exact aKQ e d v t j sc A l ⟨m,n⟩ (fun i u x a b=>(s i u x a b).ok) o p
 | setL H I O G P dp ix u x e d v j sc l m n o p B R Q s=>exact aG7 (r:=[]) (zt:=1) l m n s.ok (.inr (.inl rfl)) rfl (Nat.le_add_right _ _) n_ (fun q=>.setL G P dp ix _ sc rfl o p B R) (fun q=>aIY rfl o p B R)
 | setG H I O G P g k a u x e d v j sc l m n o p D E B Q s=>exact aG7 (r:=[]) (zt:=1) l m n s.ok (.inr (.inl rfl)) rfl (Nat.le_add_right _ _) n_ (fun q=>.setG G P g k a _ sc rfl o p D E B) (fun q=>aIZ rfl o p D E B)
 | define H I O G g k u x e d v j sc l m n o D E Q s=>exact aG7 (r:=[]) (zt:=1) l m n s.ok (.inr (.inr (.inl rfl))) rfl (Nat.le_add_right _ _) n_ (fun q=>.define G g k _ sc rfl o D E) (fun q=>aHU rfl o D E)
 | lambda H I u x e d v j sc l m J Q s=>exact aJL c e d v j sc l m J Q
 | callA H I sl T e d v t j sc A C l m n o p s=>exact aKP e d v t j sc A C l ⟨m,n⟩ (fun i u x a b=>(s i u x a b).ok) o p
 | callL H I O G sl u0 T e d v t j K U V x L sc A C N W J h0 l m n p i0 s=>exact aKN e d v t j K U V x L sc A C N W J h0 i0.ok l ⟨m,n⟩ (fun i u x a b=>(s i u x a b).ok) p
 | callG H I O k st T e d v t j K U V X L sc Y Z C N D E B l m n p ho s io=>exact aKO e d v t j K U V X L sc Y Z C N D E B l m n (fun i u x a b=>(s i u x a b).ok) io
theorem aGZ(c:Cx){sc:List (List AE)}(h:RC M w F u f sc):CodeOk c M w F u f sc:=(aJY c h).ok
theorem aLU(f:PF):IU f=1+OT f.ks:=by cases f;rw [OL];rfl
theorem aGS:∀(a:List PF)(j:Nat),OT (a.drop j)<=OT a
 | a,0=>by simp
 | [],j+1=>by simp
 | x::r,j+1=>by rw [List.drop_succ_cons,ZL];have:=aGS r j;omega
theorem p_take(c:Cx){sc:List (List AE)}(h:RT M w F u fr sc):∃n,1<=n/\n<=2*IU fr.form/\TakeOk c M w F u fr sc n:=by
 have v:=aLU fr.form
 cases h with
 | iff o A H I x y z _ _ d j e l B C =>rw [j,ZL,ZL,ZL,aA5] at v;exact⟨_,x8,x8,aJQ d j e l (aGZ c B) (aGZ c C)⟩
 | setL o A J K _ _ d e l j D=>exact⟨1,x8,x8,aIY d e l j D⟩
 | setG o A g k a _ _ d e l p f j=>exact⟨1,x8,x8,aIZ d e l p f j⟩
 | define o g k _ _ d e p f=>exact⟨1,x8,x8,aHU d e p f⟩
 | one b k t _ _ d m f q r i s=>exact⟨1,x8,x8,aJP d m f q r i s⟩
 | two b L k t u x y z _ _ d m f q r i s E G =>rw [m,ZL,ZL,ZL,aA5] at v;exact⟨_,x8,x8,aJO d m f q r i s E (aGZ c G)⟩
theorem p_all(c:Cx){env:Env}{sc:List (List AE)}{a:List PV}(h:RA M w F u f env sc a)(m:∀x∈f.ks,x.ns.length<=2000):∃e,1<=e/\e+2*OT (f.ks.drop a.length)<=2*IU f/\a.length<=f.ks.length/\AllOk c M w F u env sc a e:=by
 have l:=aLU f
 cases h with
 | any=>exact⟨1,x8,r7,w9,aL1 _ _⟩
 | lam t v n z _ x o A B g _ _ b i j k p q =>
  have s:g.length<=2000:=m _ (q_ b)
  cases d:f.ks with
  | nil=>rw [d] at b;cases b
  | cons y r =>rw [d] at b l;simp only [List.getElem?_cons_zero,o_] at b;subst b;rw [ZL,OL,ZL,aA5] at l;exact⟨_,x8,r7,w9,aL0 i j k (aGZ c p) q s⟩
def FrFOk(c:Cx)(M0:Q5)(w0:World)(F0:Fg)(u:Value)(fr:CW):Prop:=∃kf cap,u=fnV kf cap/\Enters kf/\∀(M O:Q5)(w:World)(F:Fg)(kv v:Value)(K:List CW)(k:Nat)(W:PW)(S:PS),Stp M0 w0 M w->Fg.Le F0 F->Stt c M O w F kv (k+1) k W->c.At k W S->S.form=none->S.AB=fr::K->RV F.s v S.val->k+1+2*IU fr.form<=c.T ->
 Q2 kf (#[pt c.rb,v]++cap) w (Post c M O w F kv K (k+1) (2*IU fr.form))
theorem Fs.entHand1:Enters 223:=enters_of func223 t8 rfl
theorem Fs.entRow1:Enters 224:=enters_of func224 t8 rfl
theorem Fs.entGath1:Enters 237:=enters_of func237 t8 rfl
theorem fr_hand{tk:Value}{sc:List (List AE)}(j:Bx M0 w0 b tk TTak)(o:Bx M0 w0 b' hv TPlP)(p:EnvF M0 w0 F0.s hv fr.env sc)(u:RT M0 w0 F0 tk fr sc):FrFOk c M0 w0 F0 (fnV 223 #[pt b,pt b']) fr:=by
 obtain⟨J,L,C,n,q,rfl,D,a⟩:=p_take c u;refine⟨_,_,rfl,Fs.entHand1,?_⟩;intro M O w F x v K k W S f l h z A B g E;show Q2 223 #[Q0 c.rb,v,Q0 b,Q0 b'] w _;have N:=(j.go f).cell;have P:=(o.go f).cell;have Q:=aB (j.go f).2;have R:=aB (o.go f).2
 have G:Hid (∀i,i=w\/i=w.drew->Q2 n (#[pt c.rb,hv,v]++q) i (Post c M O w F x K (k+1) (2*IU fr.form))):=fun i H=>by
  have r:Q3 w i:=by
   rcases H with rfl | rfl
   ·exact r_
   ·exact r_.drew
  have s:=Stp.AA (M:=M) r;exact(a M O i F x hv v K k W S (f.trans s) l (h.below r) ((p.go f l.s).go s (Sg.Le.refl _)) z A B g x8).mono (fun e U m=>m.after s (fun b j=>r.block b (h.fw.olt j)) (Fg.Le.refl _) n_ x8)
 have I:∀(d:Array Value)(w:World),(callFunc n d).run prog w=.ok (.enter n d) w:=D;obtain⟨V,rfl⟩:=p.ptr;obtain⟨T,y,rfl⟩:=g.iface;clear h f p z j o u a A B E g C;go_enter func223,ntmps223;go_wp2_with (go_at_fn n;refine(Calls.mono (G _ d7) ?_);intro e X m;obtain⟨Y,Z,rfl⟩:=m.tup;have t:=(show Hid _ from m);clear m);go_ret2;exact t
theorem Sl.dropN{T:TypeId}{g off cap:Nat}(h:Sl M w T 1 (.slice (some ⟨g,off,none⟩) n cap) us.length us){i c:Nat}(hi:i<=us.length)(p:m=us.length-i)(t:m<=c):Sl M w T 1 (.slice (some ⟨g,off+i,none⟩) m c) (us.drop i).length (us.drop i):=by
 obtain⟨_,v,k,e,_,q⟩:=h;simp only [Value.slice.injEq] at e;obtain⟨r,x,y⟩:=e;refine⟨w9,_,_,by rw [List.length_drop,p],zP4,?_⟩;rcases q with z | ⟨A,l,b,d,f,s,a⟩
 ·left;simp;omega
 ·right;rw [<- r] at d;simp only [o_,Addr.mk.injEq,and_true] at d;obtain⟨rfl,rfl⟩:=d;refine⟨g,off+i,b,rfl,f,s,fun j u o=>?_⟩;rw [List.getElem?_drop] at o;have:=a (i+j) u o
  rwa [Nat.add_assoc]
theorem Post.stp9{O:Q5}{w':World}{kv:Value}{K:List CW}{z:Nat}{e:Ending}(h:Post c M O w F kv K n z e w'):∃a,Stp M w a w':=by obtain⟨a,_,_,_,_,b,_⟩:=h;exact⟨a,b⟩
theorem fr_row{d i j:Nat}{sc:List (List AE)}(Z:fr.form.k=.begin)(r:Bx M0 w0 b sl TCds)(D:Bx M0 w0 b' (.int .i64 (i:Int)) TInt)(E:Bx M0 w0 d hv TPlP)(H:EnvF M0 w0 F0.s hv fr.env sc)(s:Sl M0 w0 TCod 1 sl us.length us)(h2:BY (fun u x=>RC M0 w0 F0 u x sc) us (fr.form.ks.drop j))(hp:fr.pos=j+i+1)(hi:i+1<us.length)(h5:us.length<=2000):FrFOk c M0 w0 F0 (fnV 224 #[pt b,pt b',pt d]) fr:=by
 refine⟨_,_,rfl,Fs.entRow1,?_⟩;intro M O w F kv v K k W S a l h ha hf I t hT;show Q2 224 #[Q0 c.rb,v,Q0 b,Q0 b',Q0 d] w _;have d1:=(r.go a).cell;have d2:=(D.go a).cell;have d3:=(E.go a).cell;have l1:=aB (r.go a).2;have l2:=aB (D.go a).2;have l3:=aB (E.go a).2;have J:=aLU fr.form;have z:=aJN (W:=W) hf I Z;have A:=ha.next (aF8 I) z (fun _=>rfl) x8;have L:OT (fr.form.ks.drop (j+i+1))<=OT fr.form.ks:=aGS _ _;have p:=s.AQ a;obtain⟨ao,m,rfl,B⟩:=s.shape;obtain⟨g,n,rfl,ac,_,_,_,_⟩:=p.get1 (i:=0) (u:=us[0]) (g_ x8)
 have HC:Hid (∀N,us.length-(i+1)<=N->Q2 207 #[Q0 c.rb,.slice (some ⟨g,n+(i+1),none⟩) (us.length-(i+1)) N,hv] w.drew (Post c M O w F kv K (k+1) (2*IU fr.form))):=fun N P=>by
  have Q:Q3 w w.drew:=r_.drew;have G:=Stp.AA (M:=M) Q;have s2:=a.trans G
  have C:BY (fun u x=>RC M w.drew F u x sc) (us.drop (i+1)) (fr.form.ks.drop (j+(i+1))):=by
   have:=(h2.mono (fun _ _ q=>q.go s2 l)).drop (i+1)
   rwa [List.drop_drop] at this
  refine(p_row (f:=fr.form) (env:=fr.env) (sc:=sc) (us:=us.drop (i+1)) (j:=j+(i+1)) Z ((p.AQ G).dropN x8 rfl P) C (fun i u x hu hx=>aGZ c (C.2 i u x hu hx)) zP4 zP4 ((h.below Q).up x8) ((H.go a l.s).go G (Sg.Le.refl _)) A ⟨?_,?_,?_⟩ (by rw [<- Nat.add_assoc];omega)).mono (fun e w' hp=>hp.after G (fun b r=>Q.block b (h.fw.olt r)) (Fg.Le.refl _) x8 (by rw [<- Nat.add_assoc];omega))
  ·rw [hp];split<;>rfl
  ·split<;>rfl
  ·rw [hp];by_cases s:j+i+1+1<fr.form.ks.length
   ·rw [if_pos s,if_pos x8];simp [Pl.PS.work,Pl.PS.push,Nat.add_assoc]
   ·rw [if_neg s,if_neg x8];simp [Pl.PS.work]
 have ad:(us.length:Int)<=(m:Int):=by omega
 have ae:(i:Int)+1<=(us.length:Int):=by omega
 have aa:i<=2000:=by omega
 have af:¬(m=i+1):=by omega
 have ag:(0:Int)<=(i:Int)+1:=by omega
 have ah:IntKind.i64.wrap ((i:Int)+1)=(i:Int)+1:=IntWalk.i64_in _ x8;have ab:((i:Int)+1).toNat=i+1:=by omega
 have HI:Hid (i+1<us.length/\us.length<=m):=⟨hi,B⟩
 obtain⟨R,rfl⟩:=H.ptr;have U:Hid (∀M' o,Stp M w M' o->o.cell? ⟨b,0,none⟩=some (.slice (some ⟨g,n,none⟩) us.length m)/\o.cell? ⟨b',0,none⟩=some (Q1 i)/\o.cell? ⟨d,0,none⟩=some (.pointer R)):=fun M' o q=>⟨((r.go a).go q).cell,((D.go a).go q).cell,((E.go a).go q).cell⟩
 obtain⟨T,y,rfl⟩:=t.iface;clear h a H ha r D E s p h2 hf I hT z A J L hp t;have V:Hid (w.drew.cell? ⟨b,0,none⟩=some (.slice (some ⟨g,n,none⟩) us.length m)/\w.drew.cell? ⟨b',0,none⟩=some (Q1 i)/\w.drew.cell? ⟨d,0,none⟩=some (.pointer R)):=⟨d1,d2,d3⟩
 go_enter func224,ntmps224
 go_wp2_with fail
 go_region_held3 (fun o=>o.cell? ⟨b,0,none⟩=some (.slice (some ⟨g,n,none⟩) us.length m)/\o.cell? ⟨b',0,none⟩=some (Q1 i)/\o.cell? ⟨d,0,none⟩=some (.pointer R))
  (first | exact V.out | exact X)
  ((refine aGJ m6 207 _ _ _ _ m6 func207 t8 rfl _ _ _ m6 m6 m6 (HC _ (by have:=HI.out;omega)) ?_;intro e w4 hp;obtain⟨v',x',rfl⟩:=hp.tup;obtain⟨M9,s9⟩:=hp.stp9;have X:=(show Hid _ from U.out M9 _ s9);have Y:=(show Hid _ from hp);clear hp s9;refine⟨_,rfl,?_⟩))
 all_goals
  go_wp2_with fail
  go_ret2;exact Y
theorem fr_two{kp:Nat}{t:AE}{p:PV}(B:fr.form.k=.call)(r:fr.form.ks.length=3)(s:fr.B8=[.AZ t,p])(hp:fr.pos=3)(C:AO[kp]?=some t)(g:kp<12)(d:Bx M0 w0 b (.int .i64 (kp:Int)) TPrm)(i:Bx M0 w0 b' u B9)(j:RV F0.s u p):FrFOk c M0 w0 F0 (fnV 246 #[pt b,pt b']) fr:=by
 refine⟨_,_,rfl,FsentTwo2,?_⟩;intro M O w F D v K k W S f l h x z A m E;show Q2 246 #[Q0 c.rb,v,Q0 b,Q0 b'] w _;have J:=(d.go f).cell;have L:=(i.go f).cell;have N:=aB (d.go f).2;have P:=aB (i.go f).2;have n:=aGO fr.form
 have G:Hid (∀a,(a=w\/a=w.drew)->Q2 220 #[Q0 c.rb,Q1 kp,.slice (some ⟨a.heap.size,0,none⟩) 2 2] (a.alloc (.cells #[u,v] B9)) (Post c M O w F D K (k+1) (2*IU fr.form))):=fun a H=>by
  have o:Q3 w a:=by
   rcases H with rfl | rfl
   ·exact r_
   ·exact r_.drew
  have I:=Stp.AA (M:=M) o;exact(aJV (O:=O) ((h.below o).up x8) x z A B r s hp C g (j.le l.s) m).mono (fun e Q hp=>hp.after I (fun b d=>o.block b (h.fw.olt d)) (Fg.Le.refl _) n_ x8)
 obtain⟨T,y,rfl⟩:=m.iface;obtain⟨R,U,rfl⟩:=j.iface;clear h f x d i z A E m j n s hp r;go_enter func246,ntmps246;go_wp2_with (go_at_call 220;refine(Calls.mono (G _ d7) ?_);intro e V hp;obtain⟨X,Y,rfl⟩:=hp.tup;have q:=(show Hid _ from hp);clear hp);go_ret2;exact q
theorem aHX{P:Program}{b:Array Oper}{o:Oper}{a:Act}{K:Act->World->Prop}{Q:Exit->Act->World->Prop}{E:Prop}(c:o.guard=none)(s x:Operand)(t:TypeId)
  (d:o.op=.call {callee:=.builtin .append,args:=#[s,x],argTypes:=#[t,t]}) (v u:Value) (e:a.eval s=v) (f:a.eval x=u) {v':Value} {w':World} (g:(Builtin.append_ #[t,t] o.type #[v,u]).run P w=.ok v' w')
  (h:K (a.put o.dst v') w'):if Region.wanted o (yielded b a.tmps)=true then Oper.wp P o a w K Q else E:=by
 have i:Region.wanted o (yielded b a.tmps)=true:=by simp [Region.wanted,c]
 rw [if_pos i];unfold Oper.wp;simp [execOp,d,resolve,invoke,builtin,e,f,g,Result.andThen];exact h
theorem aNA{z:Option Addr}(A:Sl M w B9 1 (.slice z m m) us.length us)(a:Addr)(u:Value)(c:Nat)(O:w.cell? a=some u)(V:us.length<=2000) :∃g p B,(Builtin.append_ #[319,319] 319 #[.slice z m m,.slice (some a) 1 c]).run prog w=.ok (.slice (some ⟨g,0,none⟩) (us.length+1) p) B/\B.ownsRow 0 B9 1 (.slice (some ⟨g,0,none⟩) (us.length+1) p) (us.length+1) (us++[u])/\w.grownBy B none/\w.heap.size<=g:=by
 obtain⟨J,q,r,i,s⟩:=rD;have t:prog.underlying 319=some (.slice B9):=underlying319;obtain⟨_,Q,K,e,_,L⟩:=A;simp only [Value.slice.injEq] at e;obtain⟨rfl,rfl,_⟩:=e
 have h:∀(j:Nat)(y:Value),[u][j]?=some y->w.cell? (a.add j)=some y:=fun j y o=>by
  cases j with
  | zero=>simp at o;subst o;simpa [Addr.add] using O
  | succ j=>simp at o
 have C:us.length+1<=maxLen:=by unfold maxLen;omega
 have d:∀(f:Nat),(w.drew.alloc (.cells (us.toArray++[u].toArray++Builtin.zeroCells (Value.nilIface).cells (grownCap w (us.length+1) f B9-(us.length+1))) B9)).ownsRow 0 B9 1 (.slice (some ⟨w.heap.size,0,none⟩) (us.length+1) (grownCap w (us.length+1) f B9)) (us.length+1) (us++[u])/\w.grownBy (w.drew.alloc (.cells (us.toArray++[u].toArray++Builtin.zeroCells (Value.nilIface).cells (grownCap w (us.length+1) f B9-(us.length+1))) B9)) none:=by
  intro f;have D:=grownCap_ge w (us.length+1) f B9;have E:grownCap w (us.length+1) f B9<=maxLen:=grownCap_le_maxLen w (us.length+1) f B9 C;refine⟨⟨w9,.inr ⟨w.heap.size,_,_,rfl,Nat.zero_le _,heap_alloc_new w.drew _,D,E,?_,?_⟩⟩,⟨rfl,rfl,rfl,w9,fun k R _=>Below.heap_alloc w.drew _ k R⟩⟩
  ·simp only [Array.size_append,List.size_toArray,size_zeroCells,List.length_singleton,show(Value.nilIface).cells.size=1 from rfl];omega
  ·simp only [Array.toList_append,List.append_assoc];rw [<- List.append_assoc,show(us.length+1)*1=(us++[u]).length from by simp];exact List.take_left
 have F:(us.length+1)*16<=140737488355328:=by omega
 cases z with
 | none =>
  have l:us.length=0:=by
   rcases L with l | ⟨g,x,G,e,_⟩
   ·exact l
   ·cases e
  have H:us=[]:=e_ l;subst H;have I:=run_append_nil (P:=prog) w 319 319 B9 J .nilIface t q r a 1 c [u] (by rw [i];rfl) h x8 x8 (by rw [s];decide);exact⟨_,_,_,I,(d 0).1,(d 0).2,n_⟩
 | some b =>
  have n:∀j v,us[j]?=some v->w.cell? (b.add j)=some v:=fun j v o=>by
   have S:=(s_ o).1;rcases L with l | ⟨g,x,G,e,_,T,U⟩
   ·omega
   ·simp only [o_] at e;subst e;have N:w.cell? ⟨g,x+j,none⟩=some v:=(aA T _).trans (U j v o);by_cases l:j=0
    ·subst l;simpa [Addr.add] using N
    ·simpa [Addr.add,l] using N
  have I:=run_append_grow (P:=prog) w 319 319 B9 J .nilIface t q r b us.length us.length us (by rw [i];simp) n a 1 c [u] (by rw [i];rfl) h x8 x8 (by rw [s];exact growslice_fits x8 F);exact⟨_,_,_,I,(d _).1,(d _).2,n_⟩
theorem Cx.At.frW{S:PS}(h:c.At n W S){K:List CW}(a:S.AB=fr::K):EU W fr.form:=by obtain⟨_,t,_,b,_⟩:=h.inv;exact(b.AB.1 fr (by rw [a];simp)).form
theorem fr_gath{d e:Nat}{gv tk:Value}{vs a:List PV}{sc:List (List AE)}(Q:fr.form.k=.call)(B:Bx M0 w0 b sl TCds)(hc:Bx M0 w0 b' hv TPlP)(hd:Bx M0 w0 d gv TVls)(he:Bx M0 w0 e tk TTk2)(C:EnvF M0 w0 F0.s hv fr.env sc)(h1:Sl M0 w0 TCod 1 sl us.length us)(h2:BY (fun u x=>RC M0 w0 F0 u x sc) us (fr.form.ks.drop a.length))(hg:FD M0 w0 F0.s gv vs)(ac:∃R m,gv=.slice R m m)(ha:RA M0 w0 F0 tk fr.form fr.env sc a)(t:fr.B8=a++vs)(hp:fr.pos=a.length+vs.length+1)(hi:vs.length<us.length)(h5:us.length<=2000):FrFOk c M0 w0 F0 (fnV 237 #[pt b,pt b',pt d,pt e]) fr:=by
 refine⟨_,_,rfl,Fs.entGath1,?_⟩;intro M O w F kv v K k W S n l h D hf hK E hT;show Q2 237 #[Q0 c.rb,v,Q0 b,Q0 b',Q0 d,Q0 e] w _;have d1:=(B.go n).cell;have d2:=(hc.go n).cell;have d3:=(hd.go n).cell;have d4:=(he.go n).cell;have l1:=aB (B.go n).2;have l2:=aB (hc.go n).2;have l3:=aB (hd.go n).2;have l4:=aB (he.go n).2;have U:=D.frW hK;obtain⟨ws,V,G⟩:=hg.go n l.s;obtain⟨R,m,rfl⟩:=ac;have ad:ws.length=vs.length:=G.1;have H:Q3 w w.drew:=r_.drew;have X:Below w.drew.heap.size w.drew (w.drew.alloc (.cells #[v] B9)):=b_;have I:Q3 w (w.drew.alloc (.cells #[v] B9)):=H.trans X;have s1:=Stp.AA (M:=M) I;obtain⟨g,ae,w2,hr,r,o,af⟩:=aNA (V.AQ s1) ⟨w.heap.size,0,none⟩ v 1 (aA (heap_alloc_new w.drew _) 0) x8;have h0:Stt c M (Ow O (.slice none 0 0)) (w.drew.alloc (.cells #[v] B9)) F kv (k+1) k W:=by have:=h.below I;exact⟨this.fw.less (fun k Q=>Q.elim id (fun e=>by cases e)),this.mc,this.bd⟩
 obtain⟨y1,y2,y3,y4⟩:=h0.ownApp (World.ownsRow_nil _ _ _ _) o r (fun g' ag=>.inr (by simp only [Value.ownBlock,o_] at ag;omega)) (fun g hg=>by cases hg);have s2:=s1.trans y2;have P:=n.trans s2;have Y:Q3 w w2:=I.trans ⟨o.os,o.tape,o.output,o.size,fun k Q=>o.block k (by have:=I.size;omega) w9⟩;obtain⟨zt,z1,z2,z3,z⟩:=p_all c (ha.go P l) (fun x A=>by have:=(U.KG A).lns;omega);have J:BY (fun u x=>RC _ w2 F u x sc) us (fr.form.ks.drop a.length):=h2.mono (fun _ _ q=>q.go P l);have Z:a.length+us.length=fr.form.ks.length:=by have:=h2.1;rw [List.length_drop] at this;omega
 have aa:S.AB=⟨fr.form,a++vs,a.length+vs.length+1,fr.env⟩::K:=by rw [hK,<-t,<-hp]
 have ah:OT (fr.form.ks.drop (a.length+(vs++[S.val]).length))<=OT (fr.form.ks.drop a.length):=by rw [<- List.drop_drop];exact aGS _ _
 have ab:=GS.next (l:=us.length) Q Z D hf aa hi x8;have HC:Hid (Q2 227 #[Q0 c.rb,sl,hv,.slice (some ⟨g,0,none⟩) (ws.length+1) ae,tk] w2 (Post c M O w F kv K (k+1) (2*IU fr.form))):=by refine(aIJ (f:=fr.form) (env:=fr.env) (sc:=sc) (us:=us) (ws:=ws++[v]) (ps:=vs++[S.val]) (a:=a) (zt:=zt) Q (h1.AQ P) J (fun i u x hu A=>aGZ c (J.2 i u x hu A)) h5 z3 (ha.go P l) z (C.go P l.s) (y1.up x8) (by simpa using r) y4 (G.snoc E) ab z1 x8).mono (fun e w' hp=>hp.after s2 (fun b B=>(y3 b B).trans (I.block b (h.fw.olt B))) (Fg.Le.refl _) n_ x8)
 obtain⟨ho,rfl⟩:=C.ptr;obtain⟨T,y,rfl⟩:=E.iface;obtain⟨kt,ct,rfl⟩:∃kt ct,tk=fnV kt ct:=by cases ha<;>exact⟨_,_,rfl⟩
 obtain⟨L,s,rfl,_⟩:=h1.shape;have N:Hid (∀j,Q3 w j->j.cell? ⟨b,0,none⟩=some (.slice L us.length s)/\j.cell? ⟨b',0,none⟩=some (.pointer ho)/\j.cell? ⟨d,0,none⟩=some (.slice R m m)/\j.cell? ⟨e,0,none⟩=some (.func (.func kt) #[] ct)):=fun j A=>⟨(A.cell (p:=⟨b,0,none⟩) l1).trans d1,(A.cell (p:=⟨b',0,none⟩) l2).trans d2,(A.cell (p:=⟨d,0,none⟩) l3).trans d3,(A.cell (p:=⟨e,0,none⟩) l4).trans d4⟩
 have ai:Hid (∀M' j,Stp M w M' j->j.cell? ⟨b,0,none⟩=some (.slice L us.length s)/\j.cell? ⟨b',0,none⟩=some (.pointer ho)/\j.cell? ⟨d,0,none⟩=some (.slice R m m)/\j.cell? ⟨e,0,none⟩=some (.func (.func kt) #[] ct)):=fun M' j q=>⟨((B.go n).go q).cell,((hc.go n).go q).cell,((hd.go n).go q).cell,((he.go n).go q).cell⟩
 have HB:Hid (Q3 w w.drew/\Q3 w (w.drew.alloc (.cells #[.iface T y] B9))/\Q3 w w2):=⟨H,I,Y⟩
 clear h n C D B hc hd he h1 h2 J hf hK hT t hp E U V G ad H X I s1 r o af h0 y1 y2 y3 y4 s2 P Y z2 z3 z Z aa ah ab ha hg hi;go_enter func237,ntmps237;go_wp2_with fail
 go_region_held3 (fun j=>j.cell? ⟨b,0,none⟩=some (.slice L us.length s)/\j.cell? ⟨b',0,none⟩=some (.pointer ho)/\j.cell? ⟨d,0,none⟩=some (.slice R m m)/\j.cell? ⟨e,0,none⟩=some (.func (.func kt) #[] ct))
  (first | exact N.out _ HB.1 | exact N.out _ HB.2.1 | exact N.out _ HB.2.2 | exact aj)
  (first
   | (refine aHX m6 _ _ 319 m6 _ _ m6 m6 hr ?_)
   | (refine aG8 m6 227 _ _ _ _ _ _ m6 func227 t8 rfl _ _ _ _ _ m6 m6 m6 m6 m6 HC ?_;intro e w3 hp;obtain⟨v',x',rfl⟩:=hp.tup;obtain⟨M9,s9⟩:=hp.stp9;have aj:=(show Hid _ from ai.out M9 _ s9);have ak:=(show Hid _ from hp);clear hp s9;refine⟨_,rfl,?_⟩))
 all_goals
  go_wp2_with fail
  go_ret2;exact ak
end
end Go.Proofs.YtbgghmjmcapmlaaGreatDoor
