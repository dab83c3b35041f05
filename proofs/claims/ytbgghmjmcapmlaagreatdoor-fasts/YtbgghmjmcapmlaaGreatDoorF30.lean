import Derived.Test.YtbgghmjmcapmlaaGreatDoorF29
namespace Go.Proofs.YtbgghmjmcapmlaaGreatDoor
set_option maxHeartbeats 6000000
set_option maxRecDepth 100000
open Go.Proofs.Tryz
open Pl (PV PW PS PF CW AE Env)
theorem zK3{P:Prop}(h:P:=by
 clear y1 y2 y3 y4 y5 y6 y7 r1 V af I HQ HL s s2 l2 o2 o
 go_wp2_with (first
  | (go_at_call 236;refine(aLB _ _ _ _ ah).mono ?_;rintro e Q ⟨bk,⟨ap,N⟩,rfl,rfl⟩;simp only [Value.slice.injEq,true_and] at N;obtain⟨rfl,rfl⟩:=N)
  | (go_at_call 222;refine(aGM _ _ _ _ _).mono ?_;rintro e Q ⟨rfl,rfl⟩))
 go_ret2;exact HX):P:=h
theorem zK4{P:Prop}(h:P:=by unfold Hid;go_wp2_with (go_at_call 222;refine(aGM _ _ _ _ _).mono ?_;rintro e w3 ⟨rfl,rfl⟩);go_ret2;exact HX):P:=h
section
open Go.RowKit Go.Maps Go.Lib
variable {w wy a w2 w0:World} {M O P M' M0 X:Q5} {W:PW} {F G F0:Fg} {us ws:List Value} {L:Lo} {N n b b5 cap rb k g b4 j b7:Nat} {ks:List PF} {f x:PF} {c:Cx} {kv u v ar sl vv nv:Value} {l:List Nat} {K:List CW} {T:TypeId} {env:Env} {s:Sg} {o:Obj}
theorem aJN{S:PS}{fr:CW}(a:S.form=none)(b:S.AB=fr::K)(c:fr.form.k=.begin):Pl.step W S=⟨0,W,(if fr.pos+1<fr.form.ks.length then({S with AB:=K}:PS).push {fr with B8:=[],pos:=fr.pos+1} else({S with AB:=K}:PS)).work fr.form.ks[fr.pos]? fr.env⟩:=by rw [aGY a];simp only [Pl.taken,b,c]
theorem aGL(a:List PF)(h:a[j]?=some x):OT (a.drop j)=IU x+OT (a.drop (j+1)):=by
 have b:=(s_ h).1;rw [List.drop_eq_getElem_cons b,ZL]
 congr 2
 exact i_ ((g_ b).symm.trans h)
theorem Sl.get1{c:Option Addr}(h:Sl M w T 1 (.slice c n cap) us.length us){i:Nat}(d:us[i]?=some u):∃g a,c=some ⟨g,a,none⟩/\g<w.heap.size/\¬M g/\w.cell? ⟨g,a+i,none⟩=some u/\n=us.length/\us.length<=cap:=by
 obtain⟨_,k,f,e,l,m⟩:=h;simp only [Value.slice.injEq] at e;obtain⟨rfl,rfl,rfl⟩:=e;have q:=(s_ d).1;rcases m with r | ⟨g,a,o,rfl,p,j,b⟩
 ·omega
 ·exact⟨g,a,rfl,aB j,p,(aA j _).trans (b i u d),rfl,l⟩
structure RowS(S:PS)(f:PF)(env:Env)(K:List CW)(j:Nat):Prop where
 f1:S.form=f.ks[j]?
 e1:S.env=env
 k1:S.AB=if j+1<f.ks.length then⟨f,[],j+1,env⟩::K else K
structure RowI(c:Cx)(M O:Q5)(w:World)(F:Fg)(kv hv sl:Value)(K:List CW)(n:Nat)(f:PF)(env:Env)(j i b1 b2:Nat)(wr:World):Prop where
 ex:∃M' G n' W' S',Stp M w M' wr/\(∀b,O b->wr.heap[b]?=w.heap[b]?)/\Fg.Le F G/\St c M' O wr G kv n' W'/\c.At n' W' S'/\RowS S' f env K (j+i)/\n<=n'/\n'+2*OT (f.ks.drop (j+i))<=n+2*OT (f.ks.drop j)/\Bx M' wr b1 sl TCds/\Bx M' wr b2 hv TPlP
theorem RowS.next{S':PS}(b:f.k=.begin)(c:S'.form=none)(d:S'.AB=⟨f,[],j+1,env⟩::K):∃a,Pl.step W S'=⟨0,W,a⟩/\RowS a f env K (j+1):=by
 refine⟨_,aJN c d b,?_⟩;dsimp only;by_cases h:j+1+1<f.ks.length
 ·rw [if_pos h];exact⟨rfl,rfl,by rw [if_pos h];rfl⟩
 ·rw [if_neg h];exact⟨rfl,rfl,by rw [if_neg h];rfl⟩
theorem p_row{hv:Value}{S:PS}{sc:List (List AE)}(hk:f.k=.begin)(C:Sl M w TCod 1 sl us.length us)(P:BY (fun u x=>RC M w F u x sc) us (f.ks.drop j))(ad:∀(i:Nat)(u:Value)(x:PF),us[i]?=some u->(f.ks.drop j)[i]?=some x->CodeOk c M w F u x sc)(h1:1<=us.length)(h2:us.length<=2000)(h:St c M O w F kv n W)(he:EnvF M w F.s hv env sc)(ha:c.At n W S)(hS:RowS S f env K j)(hT:n+2*OT (f.ks.drop j)<=c.T) :Q2 207 #[Q0 c.rb,sl,hv] w (Post c M O w F kv K n (2*OT (f.ks.drop j))):=by
 have aq:=h.bd.2.1;have X:us.length=f.ks.length-j:=by rw [P.1];simp
 have Q:Q3 w ((w.alloc (.cells #[sl] TCds)).alloc (.cells #[hv] TPlP)):=b_.alloc w9 _;have hm:=h.fw.CY.mlt;have ae:Bx M ((w.alloc (.cells #[sl] TCds)).alloc (.cells #[hv] TPlP)) w.heap.size sl TCds:=⟨fun x=>by have:=hm _ x;omega,(k_ w9).trans (heap_alloc_new w _)⟩
 have af:Bx M ((w.alloc (.cells #[sl] TCds)).alloc (.cells #[hv] TPlP)) (w.heap.size+1) hv TPlP:=⟨fun x=>by have:=hm _ x;omega,a7⟩
 have aa:Hid (RowI c M O w F kv hv sl K n f env j 0 w.heap.size (w.heap.size+1) ((w.alloc (.cells #[sl] TCds)).alloc (.cells #[hv] TPlP))):=⟨M,F,n,W,S,Stp.AA Q,fun b s=>Q.block b (h.fw.olt s),Fg.Le.refl _,h.below Q,ha,hS,n_,n_,ae,af⟩
 obtain⟨u0,ag⟩:∃u,us[0]?=some u:=⟨_,g_ x8⟩
 obtain⟨ao,d,rfl,am⟩:∃ao d,sl=.slice ao us.length d/\us.length<=d:=by obtain⟨_,ao,d,e,hc,_⟩:=C;exact⟨ao,d,e,hc⟩
 obtain⟨g,m,rfl,ai,ar,_⟩:=C.get1 ag
 have HC:Hid (∀i wr,RowI c M O w F kv hv (.slice (some ⟨g,m,none⟩) us.length d) K n f env j i w.heap.size (w.heap.size+1) wr->i<us.length->∀J,Q3 wr J->∃t l,wr.cell? ⟨g,m+i,none⟩=some (fnV t l)/\Enters t/\∃r G L W' S' x,f.ks[j+i]?=some x/\Stp M w r J/\(∀b,O b->J.heap[b]?=w.heap[b]?)/\Fg.Le F G/\St c r O J G kv L W'/\n<=L/\L+2*OT (f.ks.drop (j+i))<=n+2*OT (f.ks.drop j)/\Bx r J w.heap.size (.slice (some ⟨g,m,none⟩) us.length d) TCds/\Bx r J (w.heap.size+1) hv TPlP/\(∀k,r k->k<wr.heap.size)/\Q2 t (#[pt c.rb,hv]++l) J (Post c r O J G kv (if j+i+1<f.ks.length then⟨f,[],j+i+1,env⟩::K else K) L (2*IU x))):=fun i wr hI hi J hB=>by
  obtain⟨r,G,L,W',S',B,Y,N,R,q5,q6,q7,q8,Z,T⟩:=hI.ex;obtain⟨u,hu⟩:∃u,us[i]?=some u:=⟨_,g_ hi⟩
  obtain⟨x,hx⟩:∃x,(f.ks.drop j)[i]?=some x:=⟨_,g_ (by rw [<- P.1];exact hi)⟩
  have ab:f.ks[j+i]?=some x:=by simpa using hx
  obtain⟨t,l,rfl,eg,hc⟩:=ad i u x hu hx;have v:wr.cell? ⟨g,m+i,none⟩=some (fnV t l):=by obtain⟨g',an,e,_,_,aj,_⟩:=(C.AQ B).get1 hu;simp only [o_,Addr.mk.injEq,and_true] at e;obtain⟨rfl,rfl⟩:=e;exact aj
  have D:=Stp.AA (M:=r) hB;have hd:=aGL f.ks ab;refine⟨t,l,v,eg,r,G,L,W',S',x,ab,B.trans D,fun b s=>(hB.block b (R.fw.olt s)).trans (Y b s),N,R.below hB,q7,q8,Z.go D,T.go D,R.fw.CY.mlt,?_⟩;exact hc r O J G kv hv _ L W' S' (B.trans D) N (R.below hB) (by rw [q6.e1];exact he.go (B.trans D) N.s) q5 (q6.f1.trans ab) q6.k1 x8
 have HE:Hid (∀i wr,RowI c M O w F kv hv (.slice (some ⟨g,m,none⟩) us.length d) K n f env j i w.heap.size (w.heap.size+1) wr->wr.cell? ⟨w.heap.size,0,none⟩=some (.slice (some ⟨g,m,none⟩) us.length d)/\wr.cell? ⟨w.heap.size+1,0,none⟩=some hv/\w.heap.size+1<wr.heap.size/\g<wr.heap.size):=fun i wr hI=>by obtain⟨r,G,L,W',S',B,Y,N,R,q5,q6,q7,q8,Z,T⟩:=hI.ex;exact⟨Z.cell,T.cell,aB T.2,l_ ai B.size⟩
 obtain⟨ho,rfl⟩:=he.ptr;have HL:=h_ X;have HQ:Hid (Sl M w TCod 1 (.slice (some ⟨g,m,none⟩) us.length d) us.length us/\BY (fun u x=>RC M w F u x sc) us (f.ks.drop j)/\EnvF M w F.s (.pointer ho) env sc):=⟨C,P,he⟩
 clear h he ha hS ae af Q hm ag X C P ad;go_enter func207,ntmps207;go_wp2_with fail
 go_loopw [20] (fun iv wr=>∃i:Nat,iv=.int .i64 (i:Int)/\i<=us.length-1/\Hid (RowI c M O w F kv (.pointer ho) (.slice (some ⟨g,m,none⟩) us.length d) K n f env j i w.heap.size (w.heap.size+1) wr)) (fun iv _=>us.length-(RowKit.intOf iv).toNat)
 case atStart=>exact⟨0,rfl,Nat.zero_le _,aa⟩
 case round =>
  obtain⟨i,rfl,hi,HI⟩:=hrel;obtain⟨d1,d2,d3,d4⟩:=HE.out i wr HI;by_cases au:i<us.length-1
  ·have E:Q3 wr (wr.alloc (.cells #[Q1 i] TInt)):=b_;obtain⟨t,l,v,eg,r,G,L,W',S',x,hx,B,Y,N,R,q5,q6,q7,q8,Z,a⟩:=HC.out i wr HI x8 _ E;have U:j+i+1<f.ks.length:=by have:=HL.out;omega
   rw [if_pos U] at a;have ah:Bx r (wr.alloc (.cells #[Q1 i] TInt)) wr.heap.size (.int .i64 (i:Int)) TInt:=⟨fun y=>by have:=Z _ y;omega,heap_alloc_new wr _⟩
   have hd:=aGL f.ks hx
   have ap:1<=OT (f.ks.drop (j+i+1)):=by
    obtain⟨y,hy⟩:∃y,f.ks[j+i+1]?=some y:=⟨_,g_ U⟩
    rw [aGL f.ks hy];have:=aGO y;omega
   have p:Hid (Stp M w r (wr.alloc (.cells #[Q1 i] TInt))/\(∀b,O b->(wr.alloc (.cells #[Q1 i] TInt)).heap[b]?=w.heap[b]?)/\Fg.Le F G/\Bx r (wr.alloc (.cells #[Q1 i] TInt)) w.heap.size (.slice (some ⟨g,m,none⟩) us.length d) TCds/\Bx r (wr.alloc (.cells #[Q1 i] TInt)) (w.heap.size+1) (.pointer ho) TPlP/\Bx r (wr.alloc (.cells #[Q1 i] TInt)) wr.heap.size (.int .i64 (i:Int)) TInt):=⟨B,Y,N,q7,q8,ah⟩
   have z:=h_ a;have ak:∀(o:Array Value)(w:World),(callFunc t o).run prog w=.ok (.enter t o) w:=eg;have h0:(0:Int)<=(i:Int):=by omega
   have av:(i:Int)<((us.length-1:Nat):Int):=by omega
   clear a eg B Y N R q7 q8 Z ah E HC HE aa HI;go_wp2_with (go_at_fn t;(refine(Calls.mono z ?_);rintro e w2 ⟨M2,G2,k2,W2,S2,A,y2,y3,y4,y5,y6,y7,qr⟩;rcases qr with⟨v2,W3,S3,H,I,r3,V,r5,r6⟩ | ⟨es,y,H,I,r3,V⟩ | ⟨es,H,I⟩ | ⟨Fs,S0,fx,o,H,I,r3,V⟩<;>refine Hid.out ?_))
   ·have HX:Hid (RowI c M O w F kv (.pointer ho) (.slice (some ⟨g,m,none⟩) us.length d) K n f env j (i+1) w.heap.size (w.heap.size+1) (w2.setCell ⟨c.rb,4,none⟩ (.int .i64 ((k2+1+1:Nat):Int)))):=by
     obtain⟨z1,z2,z3⟩:=r6.tick (k2+1+1);have s2:=p.1.trans (A.trans z2);have a1:=y4.next y5 H I x8;obtain⟨S4,b1,b2⟩:=RowS.next (W:=W3) hk r3 V;have a2:=a1.next (aF8 V) b1 (fun _=>rfl) x8;exact⟨M2,G2,k2+1+1,W3,S4,s2,fun b s=>(z3 b s).trans ((y2 b s).trans (p.2.1 b s)),p.2.2.1.trans y3,z1.up x8,a2,b2,x8,by rw [show j+(i+1)=j+i+1 from by omega];omega,p.2.2.2.1.go (A.trans z2),p.2.2.2.2.1.go (A.trans z2)⟩
    obtain⟨k4,_,g4⟩:=r6.cells;have aw:k2<=1010000:=by omega
    obtain⟨T2,yy,rfl⟩:=r5.iface;clear A y2 y3 y4 y5 y6 y7 H I r3 V r5 r6 z p HQ HL;unfold Hid;go_wp2_with fail;exact⟨⟨i+1,rfl,x8,HX⟩,zP5⟩
   ·have HX:Hid (Post c M O w F kv K n (2*OT (f.ks.drop j)) (aGG .nilIface (aY es y)) w2):=⟨M2,G2,k2,W2,S2,p.1.trans A,fun b s=>(y2 b s).trans (p.2.1 b s),p.2.2.1.trans y3,y4,y5,x8,x8,.err es y H I r3 V⟩
    clear A y2 y3 y4 y5 y6 y7 H I r3 V z p HQ HL;exact zK4
   ·have HX:Hid (Post c M O w F kv K n (2*OT (f.ks.drop j)) (aGG .nilIface (aY es 7)) w2):=⟨M2,G2,k2,W2,S2,p.1.trans A,fun b s=>(y2 b s).trans (p.2.1 b s),p.2.2.1.trans y3,y4,y5,x8,x8,.spent es H I⟩
    clear A y2 y3 y4 y5 y6 y7 H I z p HQ HL;exact zK4
   ·have HX:Hid (Q2 222 #[Q0 c.rb,.nilIface,fnV 224 #[pt w.heap.size,pt wr.heap.size,pt (w.heap.size+1)]] w2 fun e w'=>e=aGG .nilIface .nilIface/\Post c M O w F kv K n (2*OT (f.ks.drop j)) (aGG .nilIface .nilIface) w'):=by
     have s2:=p.1.trans A;have l2:=p.2.2.1.trans y3;obtain⟨a1,a2,a3⟩:=HQ.out;refine(aJW V (fr:=⟨f,[],j+i+1,env⟩) (.row w.heap.size wr.heap.size (w.heap.size+1) i j (.slice (some ⟨g,m,none⟩) us.length d) (.pointer ho) us _ sc hk (p.2.2.2.1.go A) (p.2.2.2.2.2.go A) (p.2.2.2.2.1.go A) (a3.go s2 l2.s) (a1.AQ s2) (a2.mono (fun _ _ q=>q.go s2 l2)) rfl x8 h2) x8).mono ?_;rintro e w' ⟨rfl,r,z1,z2,z3⟩;exact⟨rfl,r,G2,k2,W2,S2,s2.trans z1,fun b s=>(z2 b s).trans ((y2 b s).trans (p.2.1 b s)),l2,y4,y5,x8,x8,.pend (Fs++[⟨f,[],j+i+1,env⟩]) S0 fx o H (by rw [I];simp) r7 z3⟩
    clear A y2 y3 y4 y5 y6 y7 H I r3 V z p HQ HL;unfold Hid;go_wp2_with (go_at_call 222;refine(Calls.mono HX ?_);rintro e w3 ⟨rfl,hp⟩;have ac:=(show Hid _ from hp);clear hp);go_ret2;exact ac
  ·have al:i=us.length-1:=by omega
   have E:Q3 wr wr.drew:=r_.drew;obtain⟨t,l,v,eg,r,G,L,W',S',x,hx,B,Y,N,R,q5,q6,q7,q8,Z,a⟩:=HC.out i wr HI x8 _ E;have U:¬(j+i+1<f.ks.length):=by have:=HL.out;omega
   rw [if_neg U] at a;have hd:=aGL f.ks hx;have z:Hid (Q2 t (#[pt c.rb,.pointer ho]++l) wr.drew (Post c M O w F kv K n (2*OT (f.ks.drop j)))):=a.mono (fun e w' hp=>hp.after B Y N x8 x8);have ak:∀(o:Array Value)(w:World),(callFunc t o).run prog w=.ok (.enter t o) w:=eg;subst al;clear a eg B Y N R q7 q8 Z E HC HE aa HI HQ HL;go_wp2_with fail;go_region_with (go_at_fn t;refine(Calls.mono z ?_);intro e w3 hp;obtain⟨v',x',rfl⟩:=hp.tup;have ac:=(show Hid _ from hp);clear hp)
   all_goals
    go_wp2_with fail
    go_ret2;exact ac
theorem aLP:(prog.info? TCod).map (fun i=>(i.zero,i.size,i.bytes))=some (some .nilFunc,1,8):=by kernel_rfl
theorem aLL(n:Nat)(h:n<=2000):∃e:Array Value,e.size=n/\∀w:World,(Instr.makeSlice 340 (.int .i64 (n:Int)) (.int .i64 (n:Int))).run prog w=.ok (.slice (some ⟨w.heap.size,0,none⟩) n n) (w.alloc (.cells e TCod)):=by obtain⟨g,b,f⟩:=m_ aLP;simp only [Prod.mk.injEq] at f;obtain⟨c,a,d⟩:=f;refine⟨madeCells (Value.nilFunc).cells (n*1),by rw [size_madeCells];omega,fun w=>?_⟩;have:=run_makeSlice (P:=prog) w 340 TCod g .nilFunc underlying340 b c .i64 .i64 (n:Int) (n:Int) x8 x8 (by rw [a];simp;omega) (by rw [d];simp;omega) x8;rw [a] at this;simpa using this
theorem Cw.next{M2:Q5}{w3:World}{G2:Fg}{N2:Nat}(h:Cw L M O P w F W M' w2 G N l wy)(c:Cmp L M' O (fun k=>P k\/k∈l) wy G W M2 w3 G2 N2):Cw L M O P w F W M2 w3 G2 N2 l w3 :=⟨⟨h.cmp.AQ.trans c.AQ,h.cmp.le.trans c.le,c.s.trans h.cmp.s,c.fw,fun b d=>(c.oth b d).trans (h.cmp.oth b d),fun k a=>(c.row k (.inl a)).trans (h.cmp.row k a),fun k a=>c.cr k (.inl a)⟩,Stp.refl _ _,fun k a=>c.cr k (.inr a),h.ne⟩
theorem Cw.rebase(h:Cw L M O P w F W M' w2 G N l wy):Cw L M O P w F W M' wy G N l wy:=⟨h.cmp,Stp.refl _ _,h.cr,h.ne⟩
theorem Cw.all(h:Cw L M O P w F W M' w2 G N l wy):∀k,(P k\/k∈l)->Cr M' wy G k:=fun k a=>a.elim (h.cmp.cr k) (h.cr k)
structure CdI(L:Lo)(M O P:Q5)(w:World)(F:Fg)(W:PW)(ks:List PF)(sc:List (List AE))(N rb i:Nat)(wr:World):Prop where
 ex:∃(M':Q5)(G:Fg)(Ni:Nat)(cur:Array Value),Cw L M O P w F W M' wr G Ni [rb] wr/\Ni+OT (ks.drop i)<=N+OT ks/\wr.heap[rb]?=some (.cells cur TCod (0,0))/\cur.size=ks.length/\∀(j:Nat)(x:PF),j<i->ks[j]?=some x->∃u,cur[j]?=some u/\RC M' wr G u x sc
def CdsQ(L:Lo)(M O P:Q5)(w:World)(F:Fg)(W:PW)(ks:List PF)(sc:List (List AE))(N:Nat)(e:Ending)(w':World):Prop:=∃rb M' G us,e=.returned (.slice (some ⟨rb,0,none⟩) ks.length ks.length)/\Cmp L M O P w F W M' w' G N/\rb<w'.heap.size/\Sl M' w' TCod 1 (.slice (some ⟨rb,0,none⟩) ks.length ks.length) us.length us/\us.length=ks.length/\∀(i:Nat)(u:Value)(x:PF),us[i]?=some u->ks[i]?=some x->RC M' w' G u x sc
theorem CdI.done{wr:World}{sc:List (List AE)}(h:CdI L M O P w F W ks sc N rb ks.length wr):CdsQ L M O P w F W ks sc (N+OT ks) (.returned (.slice (some ⟨rb,0,none⟩) ks.length ks.length)) wr:=by
 obtain⟨p,G,q,a,j,r,e,b,k⟩:=h.ex;obtain⟨c,s⟩:=j.shut w9;have f:a.toList.length=ks.length:=by simpa using b
 refine⟨rb,_,G,a.toList,rfl,c.up x8,aB e,?_,f,fun i u x l g=>?_⟩
 ·rw [f];refine⟨by simpa using b,_,_,rfl,n_,.inr ⟨rb,0,a,rfl,Ml.not w9,e,fun i u m=>by simpa using m⟩⟩
 ·obtain⟨t,n,o⟩:=k i x (s_ g).1 g;have d:a[i]?=some u:=by simpa using l
  rw [n] at d;obtain rfl:=i_ d;exact o.go s (Fg.Le.refl _)
theorem aLA(h:FW L M O w F N W)(S:∀k,P k->Cr M w F k){av:Value}(n:Sl M w D8 1 sl us.length us)(A:us.length=ks.length)(hx:∀(i:Nat)(u:Value)(x:PF),us[i]?=some u->ks[i]?=some x->CP M w F.s u x)(ih:∀(i:Nat)(x:PF),ks[i]?=some x->CmpOk L O W x){sc:List (List AE)}(Y:ScR M w F.s av sc)(hl:sc.length+OT ks<=1100)(hN:N+OT ks<=9000000000000000000)(h5:ks.length<=2000) :Q2 190 #[Q0 L.sb,sl,av] w (CdsQ L M O P w F W ks sc (N+OT ks)):=by
 obtain⟨I,Z,ah⟩:=aLL ks.length h5;obtain⟨ao,o,rfl,J⟩:=n.shape;obtain⟨oa,rfl⟩:=Y.ptr;rw [A] at n J ⊢
 have B:Hid (CdI L M O P w F W ks sc N w.heap.size 0 (w.alloc (.cells I TCod))):=by
  have U:Q3 w (w.alloc (.cells I TCod)):=b_;obtain⟨h1,h2⟩:=h.more U (fun k=>k=w.heap.size) (fun k p=>by omega) (fun k p=>by simp;omega);have H:(w.alloc (.cells I TCod)).heap[w.heap.size]?=some (.cells I TCod (0,0)):=heap_alloc_new w _;refine⟨_,F,N,I,⟨⟨h2,Fg.Le.refl _,rfl,h1,fun b H=>U.block b (h.olt H),fun k p=>U.block k (S k p).lt,fun k p=>?_⟩,Stp.refl _ _,fun k p=>?_,fun k p x=>?_⟩,w9,H,Z,fun j x hj=>by omega⟩
  ·obtain⟨q1,q2,q3⟩:=(S k p).below U;exact⟨.inl q1,q2,q3⟩
  ·obtain rfl:=List.mem_singleton.1 p;refine⟨.inr rfl,⟨_,TCod,H,.inl (.inl rfl)⟩,fun st aa=>?_⟩;obtain⟨us,mv,gv,c,e,e1,e2,_⟩:=(h.sit st aa).ex;have:=aB e1;have:=aB e2;omega
  ·obtain rfl:=List.mem_singleton.1 p;exact Nat.lt_irrefl _ (S _ x).lt
 have HC:Hid (∀i wr,CdI L M O P w F W ks sc N w.heap.size i wr->i<ks.length->∃g d T y,ao=some ⟨g,d,none⟩/\wr.cell? ⟨g,d+i,none⟩=some (.iface T y)/\Q2 180 #[Q0 L.sb,.iface T y,.pointer oa] wr fun e K=>∃r s z,e=.returned (.func (.func r) #[] s)/\K.cell? ⟨w.heap.size,i,none⟩=some z/\K.frozen? ⟨w.heap.size,i,none⟩=false/\CdI L M O P w F W ks sc N w.heap.size (i+1) (K.setCell ⟨w.heap.size,i,none⟩ (.func (.func r) #[] s))):=fun i wr hI hi=>by
  obtain⟨M',G,Ni,ab,t,ai,H,ac,hu⟩:=hI.ex;obtain⟨x,f⟩:∃x,ks[i]?=some x:=⟨_,g_ hi⟩
  obtain⟨u,Q⟩:∃u,us[i]?=some u:=⟨_,g_ x8⟩
  have R:Sl M w D8 1 (.slice ao ks.length o) us.length us:=by rw [A];exact n
  obtain⟨g,d,e,_,_,l,_⟩:=(R.AQ t.cmp.AQ).get1 Q;have hf:=(hx i u x Q f).go t.cmp.AQ t.cmp.le.s;obtain⟨T,y,rfl⟩:=hf.iface;have hd:=aGL ks f;have aj:=aDP (q_ f);refine⟨g,d,T,y,e,l,?_⟩;refine(ih i x f M' (fun k=>P k\/k∈[w.heap.size]) wr G Ni _ _ sc t.cmp.fw t.all hf (Y.go t.cmp.AQ t.cmp.le.s) x8 x8).mono (fun e K V=>?_);obtain⟨v,M2,G2,rfl,X,hv⟩:=V;obtain⟨r,s,rfl⟩:=hv.func;have C:=(X.row w.heap.size (.inr w9)).trans H;have D:=(t.next X).set (b:=w.heap.size) w9 i (fnV r s);have ad:=aD C i (fnV r s);obtain⟨z,hz⟩:∃z,ab[i]?=some z:=⟨_,Array.getElem?_eq_getElem x8⟩
  refine⟨r,s,z,rfl,(aA C i).trans hz,aF C i,⟨M2,G2,_,_,D.rebase,x8,ad,by simpa using ac,fun j x' hj E=>?_⟩⟩;by_cases e:j=i
  ·subst e;rw [f] at E;obtain rfl:=i_ E;exact⟨fnV r s,by rw [Array.getElem?_setIfInBounds_self];simp;omega,hv.go D.AQ (Fg.Le.refl _)⟩
  ·obtain⟨u',q1,q2⟩:=hu j x' x8 E;exact⟨u',by rw [Array.getElem?_setIfInBounds_ne (fun q=>e q.symm)];exact q1,(q2.go X.AQ X.le).go D.AQ (Fg.Le.refl _)⟩
 have ak:∀(a:Addr)(fn:Fn)(first o:Array Value)(w:World),(store a (.func fn first o)).run prog w=stored prog w a (.func fn first o) .plain:=fun _ _ _ _ _=>run_store _ _ _ _ _ rfl;clear h S n A hx ih Y;go_enter func190,ntmps190;go_wp2_with fail
 go_loopw [15,8,9] (fun iv _ _ wr=>∃i:Nat,iv=.int .i64 (i:Int)/\i<=ks.length/\Hid (CdI L M O P w F W ks sc N w.heap.size i wr)) (fun iv _ _ _=>ks.length-(RowKit.intOf iv).toNat)
 case atStart=>exact⟨0,rfl,Nat.zero_le _,B⟩
 case round =>
  obtain⟨i,rfl,hi,HI⟩:=hrel;by_cases ae:i<ks.length
  ·obtain⟨g,d,T,y,rfl,l,m⟩:=HC.out i wr HI ae;have af:=h_ m;have h0:(0:Int)<=(i:Int):=by omega
   have al:(i:Int)<(ks.length:Int):=by omega
   clear m HI HC B;go_wp2_with (go_at_call 180;(refine(Calls.mono af ?_);rintro e K ⟨r,s,z,rfl,hz,am,V⟩;have HX:=(show Hid _ from V);clear V));exact⟨⟨i+1,rfl,x8,HX⟩,zP5⟩
  ·have ag:i=ks.length:=by omega
   subst ag;have hn:¬((ks.length:Int)<(ks.length:Int)):=by omega
   have HX:=h_ HI.done;clear HC B;go_wp2_with fail;go_ret;exact HX
theorem aJ3:∃i,prog.info? TCod=some i/\i.zero=some .nilFunc/\i.size=1/\i.bytes=8:=by obtain⟨i,b,a⟩:=m_ aLP;simp only [Prod.mk.injEq] at a;exact⟨i,b,a.1,a.2.1,a.2.2⟩
theorem p_growC(w:World)(n:Nat)(q:0<n)(y:n<=100000):Q2 240 #[.slice none 0 0,Q1 n] w fun e j=>∃a,n<=a/\e=.returned (.slice (some ⟨w.heap.size,0,none⟩) 0 a)/\Q3 w j/\j.ownsRow w.heap.size TCod 1 (.slice (some ⟨w.heap.size,0,none⟩) 0 a) 0 []/\w.heap.size<j.heap.size:=by
 obtain⟨k,d,f,l,c⟩:=aJ3;have g:Builtin.nextslicecap n 0*k.bytes<=281474976710656:=by rw [c];exact growslice_fits x8 x8
 have h:=run_append_grow_zeros (P:=prog) w 340 3 340 TCod k .nilFunc .i64 .i64 underlying340 underlying3 d f none 0 0 [] (by simpa using run_firstCells_none w.drew k.size 0 0 0) n q x8 x8 x8 (by rw [c];omega) (by simpa using g);simp only [Nat.zero_add] at h;have m:=grownCap_ge w n 0 TCod;have p:grownCap w n 0 TCod<=maxLen:=grownCap_le_maxLen w n 0 TCod o6;generalize grownCap w n 0 TCod=a at *;have r:Hid (∀b:Array Value,b.size=a->(w.alloc (.cells b TCod)).drew.ownsRow w.heap.size TCod 1 (.slice (some ⟨w.heap.size,0,none⟩) 0 a) 0 []):=fun b s=>World.ownsRow_made w b a n_ p (by rw [Nat.mul_one];exact s);have t:Hid (∀o,Q3 w (w.alloc o).drew):=fun o=>(r_.alloc n_ o).drew;have u:wrap64 ((n:Int)-0)=(n:Int):=by unfold wrap64;omega
 have v:¬((n:Int)<0):=by omega
 have x:decide ((0:Int)<(n:Int))=true:=by simp;omega
 clear d f l c g;go_enter func240,ntmps240;go_wp2_with (at_builtin;refine dC _ rfl _ _ 340 3 rfl _ rfl _ rfl 340 rfl h ?_);go_ret;refine⟨a,m,rfl,t _,r _ ?_,w9⟩;have i:(#[Value.nilFunc]:Array Value).size=1:=rfl;simp only [Array.size_append,size_zeroCells,i];omega
def CatC(w:World)(l:List Value)(v:Value)(w':World):Prop:=Q3 w w'/\w'.ownsRow w.heap.size TCod 1 v l.length l/\∃g cap,v=.slice (some ⟨g,0,none⟩) l.length cap
theorem aK9(w:World)(t J g l:Nat)(vs:List Value)(v:Value)(P:∀(j:Nat)(u:Value),vs[j]?=some u->w.cell? ⟨g,j,none⟩=some u)(L:g<w.heap.size)(f:∀u∈vs,u.oneCell'=true)(hv:v.oneCell'=true)(hl:vs.length<=2000)(Q:w.cell? ⟨t,0,none⟩=some (.slice (some ⟨J,0,none⟩) 1 1))(R:w.cell? ⟨t,1,none⟩=some (.slice (some ⟨g,0,none⟩) vs.length l))(S:w.cell? ⟨J,0,none⟩=some v) :Q2 230 #[.slice (some ⟨t,0,none⟩) 2 2] w fun e y=>∃x,e=.returned x/\CatC w (v::vs) x y:=by
 obtain⟨T,z,A,B,C⟩:=aJ3;have U:=h_ P;have V:=h_ f;have q:=World.block_lt_of_cell? _ _ Q;have M:=World.block_lt_of_cell? _ _ S;have ac:wrap64 (1+(vs.length:Int))=1+(vs.length:Int):=by unfold wrap64;omega
 have W:¬(1+(vs.length:Int)<0):=by omega
 have D:((vs.length+1:Nat):Int)=1+(vs.length:Int):=by omega
 have X:Hid (Q2 240 #[.slice none 0 0,Q1 (1+(vs.length:Int))] w fun e y=>∃l,vs.length+1<=l/\e=.returned (.slice (some ⟨w.heap.size,0,none⟩) 0 l)/\Q3 w y/\y.ownsRow w.heap.size TCod 1 (.slice (some ⟨w.heap.size,0,none⟩) 0 l) 0 []/\w.heap.size<y.heap.size):=by rw [<- D];exact p_growC w (vs.length+1) x8 x8
 clear P f D;go_enter func230,ntmps230;go_wp2_with fail;refine wp_loop_rounds 3 ?_;rw [rounds_succ];go_wp2_with fail;rw [rounds_succ];go_wp2_with fail;rw [rounds_succ];go_wp2_with (go_at_call 240;refine Calls.mono X ?_;rintro e Y ⟨cg,ad,rfl,m,E,ae⟩;have k0:=(m.cell (p:=⟨t,0,none⟩) q).trans Q;have k1:=(m.cell (p:=⟨t,1,none⟩) q).trans R);have F:∀{x:Value} {n:Nat} {xs:List Value} {K:World},Y.ownsRow w.heap.size TCod 1 x n xs->Y.grownBy K x.ownBlock->Q3 w K:=fun hx L=>m.grown L m.size (fun k N=>(hx.lt k N).1);have HV:=h_ hv;have Z:=(m.cell (p:=⟨J,0,none⟩) M).trans S;refine wp_loop_rounds 3 ?_;clear X;rw [rounds_succ];go_wp2_with (at_builtin;refine wpList_append_own _ rfl _ _ 340 rfl w.heap.size TCod T .nilFunc 1 8 underlying340 z A B C rfl w8 _ 0 [] rfl E ⟨J,0,none⟩ 1 1 [v] rfl w9 (fun j u G=>(by cases j with | zero=>simp at G;subst G;simpa [Addr.add_lit] using Z | succ j=>simp at G)) (fun u hu=>(by simp at hu;subst hu;exact HV)) o6 x8 m.size ?_;intro v1 K a h _);have o:=F E h;simp only [Nat.zero_add,List.nil_append] at a;have q1:=(o.cell (p:=⟨t,1,none⟩) q).trans R;have r:∀(j:Nat)(u:Value),vs[j]?=some u->K.cell? (Addr.add ⟨g,0,none⟩ j)=some u:=fun j u G=>by have:=(o.cell (p:=⟨g,j,none⟩) L).trans (U j u G);simpa [Addr.add_lit] using this
 have f:=V.out;obtain⟨af,aa,rfl,_⟩:=cJ a;have H:=h_ o;clear h k0 k1 Z U V;rw [rounds_succ];go_wp2_with (at_builtin;refine wpList_append_own _ rfl _ _ 340 rfl w.heap.size TCod T .nilFunc 1 8 underlying340 z A B C rfl w8 _ 1 [v] rfl a ⟨g,0,none⟩ vs.length l vs rfl w9 r f o6 x8 o.size ?_;intro v2 O d i s);have I:Q3 w O:=H.grown i H.size (fun k N=>(a.lt k N).1)
 have b:O.ownsRow w.heap.size TCod 1 v2 (v::vs).length (v::vs):=by
  have e:(v::vs).length=1+vs.length:=by simp;omega
  rw [e];simpa using d
 have HX:Hid (CatC w (v::vs) v2 O):=by
  refine⟨I,b,?_⟩;rcases b.2 with⟨_,hz⟩ | ⟨g,c,ag,e,_⟩
  ·simp at hz
  ·exact⟨g,c,e⟩
 obtain⟨ah,ab,rfl,_⟩:=cJ d;clear d i s I b;rw [rounds_succ];go_wp2_with fail;go_ret;exact⟨_,rfl,HX⟩
theorem own_sl{xs:List Value}(h:w.ownsRow b T 1 v n xs)(f:∀k,M k->k<b):Sl M w T 1 v n xs:=by
 refine⟨h.1,?_⟩;rcases h.2 with⟨rfl,rfl⟩ | ⟨g,c,d,rfl,p,j,e,l,m,o⟩
 ·exact⟨none,0,rfl,n_,.inl rfl⟩
 ·refine⟨some ⟨g,0,none⟩,c,rfl,e,.inr ⟨g,0,d,rfl,fun x=>?_,j,fun i u a=>?_⟩⟩
  ·have:=f g x;omega
  ·rw [Nat.zero_add,<-Array.getElem?_toList];rw [<- o] at a;rw [List.getElem?_take] at a;split at a
   ·exact a
   ·cases a
theorem RC.one{sc:List (List AE)}(h:RC M w F v f sc):v.oneCell'=true:=by obtain⟨_,_,rfl⟩:=h.func;rfl
theorem aI2(h:FW L M O w F N W)(Q:∀k,P k->Cr M w F k){u0:Value}{x0:PF}{sc:List (List AE)}(B:RC M w F u0 x0 sc)(C:rb<w.heap.size)(z:Sl M w TCod 1 (.slice (some ⟨rb,0,none⟩) ks.length ks.length) us.length us)(q:us.length=ks.length)(r:∀(i:Nat)(u:Value)(x:PF),us[i]?=some u->ks[i]?=some x->RC M w F u x sc)(V:ks.length+1<=2000)(nm:AE)(d:Pl.A9)(v:PV)(ns:List AE) :Q2 216 #[u0,.slice (some ⟨rb,0,none⟩) ks.length ks.length] w (CmpQ L M O P w F W (.mk .call nm d v (x0::ks) ns) sc N):=by
 obtain⟨s,o⟩:∃s,s=(w.alloc (.cells #[u0] TCod)).alloc (.cells #[.slice (some ⟨w.heap.size,0,none⟩) 1 1,.slice (some ⟨rb,0,none⟩) ks.length ks.length] TCds):=⟨_,rfl⟩
 have f:Q3 w s:=by rw [o];exact b_.alloc w9 _
 have R:s.heap[w.heap.size]?=some (.cells #[u0] TCod (0,0)):=by rw [o];exact aF5 (aF7 rfl)
 have D:s.heap[w.heap.size+1]?=some (.cells #[.slice (some ⟨w.heap.size,0,none⟩) 1 1,.slice (some ⟨rb,0,none⟩) ks.length ks.length] TCds (0,0)):=by rw [o];exact aF7 w9
 have X:Hid (Q2 230 #[.slice (some ⟨w.heap.size+1,0,none⟩) 2 2] s fun e p=>∃E n b,e=.returned (.slice E n b)/\CmpQ L M O P w F W (.mk .call nm d v (x0::ks) ns) sc N (.returned (fnV 233 #[pt p.heap.size,pt (p.heap.size+1)])) ((p.alloc (.cells #[.slice E n b] TCds)).alloc (.cells #[fnV 231 #[]] TTkA))):=by
  refine(aK9 s (w.heap.size+1) w.heap.size rb ks.length us u0 (fun j u Y=>?_) (l_ C f.size) (fun u Z=>?_) B.one x8 (aA D 0) (by rw [q];exact aA D 1) (aA R 0)).mono (fun e p hq=>?_)
  ·obtain⟨g,aa,e,_,_,m,_⟩:=(z.AQ (Stp.AA f)).get1 Y;simp only [o_,Addr.mk.injEq,and_true] at e;obtain⟨rfl,rfl⟩:=e;rw [Nat.zero_add] at m;exact m
  ·obtain⟨i,hi,rfl⟩:=List.mem_iff_getElem.1 Z;exact(r i _ _ (g_ hi) (g_ x8)).one
  ·obtain⟨x,rfl,G,A,g,b,rfl⟩:=hq;have t:=f.trans (G.mono f.size);have c:=(Cmp.refl h Q).below t;have y:Q3 p ((p.alloc (.cells #[.slice (some ⟨g,0,none⟩) (u0::us).length b] TCds)).alloc (.cells #[fnV 231 #[]] TTkA)):=b_.alloc w9 _;have S:=Stp.AA (M:=M) (t.trans (y.mono t.size));have l:=Fg.Le.refl F;refine⟨_,_,_,rfl,_,M,F,rfl,c.below y,.callA _ _ (.slice (some ⟨g,0,none⟩) (u0::us).length b) (u0::us) nm d v (x0::ks) ns sc (aGH c.mlt (aF5 (aF7 rfl))) (aGH (fun k H=>Nat.lt_succ_of_lt (c.mlt k H)) (aF7 w9)) ((own_sl A (fun k H=>l_ (h.mlt k H) f.size)).AQ (Stp.AA y)) (by simp [q]) (fun i u x I J=>?_) w9 (by simpa using V)⟩
   cases i with
   | zero =>simp only [List.getElem?_cons_zero,o_] at I J;subst I J;exact B.go S l
   | succ i=>exact(r i u x (by simpa using I) (by simpa using J)).go S l
 obtain⟨k0,c0,rfl⟩:=B.func;have ab:∀(a:Addr)(T:Fn)(first b:Array Value)(w:World),(store a (.func T first b)).run prog w=stored prog w a (.func T first b) .plain:=fun _ _ _ _ _=>run_store _ _ _ _ _ rfl;subst o;clear h Q B z q r f R D;go_enter func216,ntmps216;go_wp2_with (go_at_call 230;refine(Calls.mono X ?_);rintro e p ⟨E,n,b,rfl,U⟩;have K:=(show Hid _ from U);clear U);go_ret;exact K
theorem aLE(h:FW L M O w F N W)(t:∀k,P k->Cr M w F k){u0:Value}{sc:List (List AE)}{ns':List AE}(o:ns'.Nodup)(p:RC M w F u0 x (ns'::sc))(e:Sl M w TCod 1 (.slice (some ⟨rb,0,none⟩) ks.length ks.length) us.length us)(f:us.length=ks.length)(g:∀(i:Nat)(u:Value)(x:PF),us[i]?=some u->ks[i]?=some x->RC M w F u x sc)(z:ks.length<=2000)(nm:AE)(d:Pl.A9)(v:PV)(ns:List AE)(c:AE)(q:Pl.A9)(v':PV) :Q2 214 #[Q1 ns'.length,u0,.slice (some ⟨rb,0,none⟩) ks.length ks.length] w (CmpQ L M O P w F W (.mk .call nm d v (.mk .lambda c q v' [x] ns'::ks) ns) sc N):=by
 obtain⟨n,b⟩:∃n,n=(((w.alloc (.cells #[Q1 ns'.length] TInt)).alloc (.cells #[u0] TCod)).alloc (.cells #[.slice (some ⟨rb,0,none⟩) ks.length ks.length] TCds)).alloc (.cells #[fnV 225 #[pt w.heap.size,pt (w.heap.size+1)]] TTkA):=⟨_,rfl⟩
 have r:Q3 w n:=by rw [b];exact((b_.alloc w9 _).alloc r7 _).alloc r7 _
 have s:=Stp.AA (M:=M) r;have l:=Fg.Le.refl F
 have A:Hid (CmpQ L M O P w F W (.mk .call nm d v (.mk .lambda c q v' [x] ns'::ks) ns) sc N (.returned (fnV 226 #[pt (w.heap.size+1+1),pt (w.heap.size+1+1+1)])) n) :=
  ⟨_,M,F,rfl,(Cmp.refl h t).below r,.callL _ _ w.heap.size (w.heap.size+1) _ u0 us nm d v ks ns c q v' x ns' sc
   (aGH (fun k j=>by have:=h.mlt k j;omega) (by rw [b];exact aF5 (aF7 w9)))
   (aGH (fun k j=>by have:=h.mlt k j;omega) (by rw [b];exact aF7 w9))
   (aGH h.mlt (by rw [b];exact aF5 (aF5 (aF5 (aF7 rfl)))))
   (aGH (fun k j=>by have:=h.mlt k j;omega) (by rw [b];exact aF5 (aF5 (aF7 w9))))
   o (p.go s l) (e.AQ s) f (fun i u x B C=>(g i u x B C).go s l) z⟩
 obtain⟨E,G,rfl⟩:=p.func;have D:∀(a:Addr)(y:Fn)(first m:Array Value)(w:World),(store a (.func y first m)).run prog w=stored prog w a (.func y first m) .plain:=fun _ _ _ _ _=>run_store _ _ _ _ _ rfl;subst b;clear h t p e f g r s l;go_enter func214,ntmps214;go_wp2_with fail;go_ret;exact A
theorem aLB(w:World)(v:Value)(n:Nat)(c:List Value)(h:w.ownsRow 0 B9 1 v n c):Q2 236 #[v] w fun e d=>∃b,(∃a,v=.slice b n a)/\e=.returned (.slice b n n)/\w=d:=by
 rcases h.2 with⟨rfl,rfl⟩ | ⟨g,a,f,rfl,_,_,j,_⟩
 ·clear h;go_enter func236,ntmps236;go_wp2_with fail;go_ret;exact⟨none,⟨_,rfl⟩,rfl,rfl⟩
 ·clear h;have i:(n:Int)<=(a:Int):=by omega
  go_enter func236,ntmps236
  go_wp2_with fail
  go_ret;exact⟨_,⟨_,rfl⟩,rfl,rfl⟩
theorem aHW{P:Program}{d:Array Oper}{o:Oper}{a:Act}{K:Act->World->Prop}{Q:Exit->Act->World->Prop}{E:Prop}(g:o.guard=none)(i j k:Operand)(p:Array TypeId)
  (r:o.op=.call {callee:=.value i,args:=#[j,k],argTypes:=p}) (f:Nat) (c:Array Value) (l:a.eval i=.func (.func f) #[] c) (s:∀(b:Array Value)(w:World),(callFunc f b).run P w=.ok (.enter f b) w)
  (m n:Value) (t:a.eval j=m) (u:a.eval k=n) {R:Ending->World->Prop} (x:Calls P f (#[m,n]++c) w R) (h:∀e q,R e q->∃v,e=.returned v/\K (a.put o.dst v) q):if Region.wanted o (yielded d a.tmps)=true then Oper.wp P o a w K Q else E :=
 aKB g i #[j,k] p r f c l s #[m,n] (by simp [t,u]) x h
def slLenF:Value->Nat
 | .slice _ n _=>n
 | _=>0
theorem aKU{a:Option Addr}{ps:List PV}(h:w.ownsRow 0 B9 1 (.slice a ws.length cap) ws.length ws)(f:BY (RV s) ws ps):FD (Mz M (.slice a ws.length cap)) w s (.slice a ws.length ws.length) ps:=by
 refine⟨ws,⟨w9,a,ws.length,rfl,n_,?_⟩,f⟩;rcases h.2 with⟨_,j⟩ | ⟨g,c,b,e,_,d,l,_,_,m⟩
 ·exact .inl j
 ·right;simp only [Value.slice.injEq] at e;obtain⟨rfl,_,rfl⟩:=e;refine⟨g,0,b,rfl,fun y=>y.2 rfl,d,fun i u k=>?_⟩;have:=h.cells (g:=g) rfl i u k;rw [Addr.add_lit,Nat.zero_add] at this;rw [Nat.zero_add,<-aA d i];exact this
theorem Pend.below{w':World}{Fs:List CW}{fx:PV}{args:List PV}(h:Pend c M O w F kv n W Fs fx args)(a:Q3 w w'):Pend c M O w' F kv n W Fs fx args:=by obtain⟨b,d,e,f,g,i,j,k,l,m,o,p,q⟩:=h.mc;exact⟨h.fw.below a,⟨b,d,e,f,g,i,j.below a,k.below a,l.mono (fun _ _ x=>x.go (Stp.AA a) (Fg.Le.refl _)),m.belowF a,o,p.mf (Mf.below a),q⟩,h.bd,h.wf⟩
theorem aLY(h:FW L M (Ow O vv) w F N W)(c:w.ownsRow 0 B9 1 vv ws.length ws)(f:∀g,vv.ownBlock=some g->¬O g):ArgsAt M O w F.s vv ws:=by
 rcases c.2 with⟨rfl,d⟩ | ⟨g,a,b,rfl,_,e,j,_,_,n⟩
 ·exact⟨none,0,by rw [d],x8,.inl d⟩
 ·obtain⟨k,_,l⟩:=h.oth g (.inr rfl);refine⟨some ⟨g,0,none⟩,a,rfl,j,.inr ⟨g,0,b,rfl,k,f g rfl,e,fun i u m=>?_,l⟩⟩;have:=c.cells (g:=g) rfl i u m;rw [Addr.add_lit,Nat.zero_add] at this;rw [Nat.zero_add,<-aA e i];exact this
theorem aIJ{hv tk:Value}{sc:List (List AE)}{ps a:List PV}{zt:Nat}(hk:f.k=.call)(aj:Sl M w TCod 1 sl us.length us)(ak:BY (fun u x=>RC M w F u x sc) us (f.ks.drop a.length))(aw:∀(i:Nat)(u:Value)(x:PF),us[i]?=some u->(f.ks.drop a.length)[i]?=some x->CodeOk c M w F u x sc)(h2:us.length<=2000)(cd:a.length<=f.ks.length)(ax:RA M w F tk f env sc a)(bn:AllOk c M w F tk env sc a zt)(he:EnvF M w F.s hv env sc)(h:St c M (Ow O vv) w F kv n W)(ho:w.ownsRow 0 B9 1 vv ws.length ws)(hO:∀g,vv.ownBlock=some g->¬O g)(ay:BY (RV F.s) ws ps)(hg:GS c f env K a us.length n W ps)(hz:1<=zt)(hT:n+2*OT (f.ks.drop (a.length+ps.length))+zt<=c.T) :Q2 227 #[Q0 c.rb,sl,hv,vv,tk] w (Post c M O w F kv K n (2*OT (f.ks.drop (a.length+ps.length))+zt)):=by
 obtain⟨q0,ce⟩:∃q0,q0=n+2*OT (f.ks.drop (a.length+ps.length)):=⟨_,rfl⟩
 have cf:=h.bd.2.1;have am:a.length+us.length=f.ks.length:=by have:=ak.1;rw [List.length_drop] at this;omega
 have aa:Q3 w (((w.alloc (.cells #[sl] TCds)).alloc (.cells #[hv] TPlP)).alloc (.cells #[tk] TTk2)):=(b_.alloc w9 _).alloc r7 _;have hm:=h.fw.CY.mlt;have az:Bx M (((w.alloc (.cells #[sl] TCds)).alloc (.cells #[hv] TPlP)).alloc (.cells #[tk] TTk2)) w.heap.size sl TCds:=⟨fun x=>by have:=hm _ x;omega,(k_ r7).trans ((k_ w9).trans (heap_alloc_new w _))⟩
 have ba:Bx M (((w.alloc (.cells #[sl] TCds)).alloc (.cells #[hv] TPlP)).alloc (.cells #[tk] TTk2)) (w.heap.size+1) hv TPlP:=⟨fun x=>by have:=hm _ x;omega,(k_ w9).trans a7⟩
 have bb:Bx M (((w.alloc (.cells #[sl] TCds)).alloc (.cells #[hv] TPlP)).alloc (.cells #[tk] TTk2)) (w.heap.size+1+1) tk TTk2:=⟨fun x=>by have:=hm _ x;omega,by have:=heap_alloc_new ((w.alloc (.cells #[sl] TCds)).alloc (.cells #[hv] TPlP)) (.cells #[tk] TTk2);rwa [show((w.alloc (.cells #[sl] TCds)).alloc (.cells #[hv] TPlP)).heap.size=w.heap.size+1+1 from by simp] at this⟩
 have aq:Hid (GaI c M O w F kv K n f env a us.length q0 sl hv tk w.heap.size (w.heap.size+1) (w.heap.size+1+1) ws vv (((w.alloc (.cells #[sl] TCds)).alloc (.cells #[hv] TPlP)).alloc (.cells #[tk] TTk2))):=⟨M,F,n,W,ps,Stp.AA aa,fun b D=>aa.block b (h.fw.olt (.inl D)),Fg.Le.refl _,h.below aa,aGK aa ho,hO,ay,hg,n_,x8,az,ba,bb⟩
 obtain⟨ao,t,rfl,bz⟩:∃ao t,sl=.slice ao us.length t/\us.length<=t:=by obtain⟨_,ao,t,e,hc,_⟩:=aj;exact⟨ao,t,e,hc⟩
 obtain⟨v,rfl⟩:=he.ptr;obtain⟨z,A,rfl,bc,bd⟩:=bn
 have HC:Hid (∀d p wr,GaI c M O w F kv K n f env a us.length q0 (.slice ao us.length t) (.pointer v) (fnV z A) w.heap.size (w.heap.size+1) (w.heap.size+1+1) d p wr->d.length<us.length->∀w1,Q3 wr w1->∃kf E g J,ao=some ⟨g,J,none⟩/\g<wr.heap.size/\wr.cell? ⟨g,J+d.length,none⟩=some (fnV kf E)/\Enters kf/\∃H G n' W' j x,f.ks[a.length+j.length]?=some x/\j.length=d.length/\Stp M w H w1/\(∀b,O b->w1.heap[b]?=w.heap[b]?)/\Fg.Le F G/\St c H (Ow O p) w1 G kv n' W'/\w1.ownsRow 0 B9 1 p d.length d/\(∀g,p.ownBlock=some g->¬O g)/\BY (RV G.s) d j/\n<=n'/\n'+2*OT (f.ks.drop (a.length+j.length))<=q0/\Bx H w1 w.heap.size (.slice ao us.length t) TCds/\Bx H w1 (w.heap.size+1) (.pointer v) TPlP/\Bx H w1 (w.heap.size+1+1) (fnV z A) TTk2/\Q2 kf (#[pt c.rb,.pointer v]++E) w1 (Post c H (Ow O p) w1 G kv (⟨f,a++j,a.length+j.length+1,env⟩::K) n' (2*IU x))):=fun d p wr hI hi w1 hB=>by
  obtain⟨H,G,n',W',j,q1,q2,q3,q4,q5,q6,q7,q8,q9,X,R,T,ab⟩:=hI.ex;have ac:j.length=d.length:=q7.1.symm;obtain⟨u,hu⟩:∃u,us[d.length]?=some u:=⟨_,g_ hi⟩
  obtain⟨x,hx⟩:∃x,(f.ks.drop a.length)[d.length]?=some x:=⟨_,g_ (by rw [<- ak.1];exact hi)⟩
  have ar:f.ks[a.length+j.length]?=some x:=by rw [ac];simpa using hx
  obtain⟨kf,E,rfl,eg,hc⟩:=aw d.length u x hu hx;obtain⟨g,J,e,be,_,ad,_⟩:=(aj.AQ q1).get1 hu;have Y:=Stp.AA (M:=H) hB;have hd:=aGL f.ks ar
  cases q8 with
  | all S fr k hn ha hl=>omega
  | part S ha hl hf bf hK =>refine⟨kf,E,g,J,e,be,ad,eg,H,G,n',W',j,x,ar,ac,q1.trans Y,fun b D=>(hB.block b (q4.fw.olt (.inl D))).trans (q2 b D),q3,q4.below hB,aGK hB q5,q6,q7,q9,X,R.go Y,T.go Y,ab.go Y,?_⟩;exact hc H (Ow O p) w1 G kv (.pointer v) _ n' W' S (q1.trans Y) q3 (q4.below hB) (by rw [bf];exact he.go (q1.trans Y) q3.s) ha (hf.trans ar) hK x8
 have HE:Hid (∀d p wr,GaI c M O w F kv K n f env a us.length q0 (.slice ao us.length t) (.pointer v) (fnV z A) w.heap.size (w.heap.size+1) (w.heap.size+1+1) d p wr->wr.cell? ⟨w.heap.size,0,none⟩=some (.slice ao us.length t)/\wr.cell? ⟨w.heap.size+1,0,none⟩=some (.pointer v)/\wr.cell? ⟨w.heap.size+1+1,0,none⟩=some (fnV z A)/\w.heap.size+1+1<wr.heap.size/\d.length<=us.length/\∃m r,p=.slice m d.length r):=fun d p wr hI=>by obtain⟨H,G,n',W',j,q1,q2,q3,q4,q5,q6,q7,q8,q9,X,R,T,ab⟩:=hI.ex;obtain⟨m,r,e2,_⟩:=cJ q5;have ac:=q7.1;exact⟨R.cell,T.cell,ab.cell,aB ab.2,by cases q8<;>omega,m,r,e2⟩
 have HT:Hid (∀d p wr,GaI c M O w F kv K n f env a us.length q0 (.slice ao us.length t) (.pointer v) (fnV z A) w.heap.size (w.heap.size+1) (w.heap.size+1+1) d p wr->d.length=us.length->Q2 z (#[pt c.rb,.pointer v,p]++A) wr (Post c M O w F kv K n (2*OT (f.ks.drop (a.length+ps.length))+zt))):=fun d p wr hI hi=>by
  obtain⟨H,G,n',W',j,q1,q2,q3,q4,q5,q6,q7,q8,q9,X,R,T,ab⟩:=hI.ex;have ac:=q7.1
  cases q8 with
  | part S ha hl hf bf hK=>omega
  | all S fr k hn ha hl hf bg hK U bh =>subst hn;refine(bd H O wr G kv (.pointer v) p K fr k W' S d j q1 q3 ⟨q4.fw.less (fun k hk=>.inl hk),q4.mc,q4.bd⟩ (he.go q1 q3.s) ha hf hK (by rw [bg];exact hk) (by rw [bg];exact U) bh (aLY q4.fw q5 q6) q7 x8 x8).mono (fun e w' U=>U.after q1 q2 q3 x8 x8)
 have HL:=h_ am;have HQ:Hid (Sl M w TCod 1 (.slice ao us.length t) us.length us/\BY (fun u x=>RC M w F u x sc) us (f.ks.drop a.length)/\EnvF M w F.s (.pointer v) env sc/\RA M w F (fnV z A) f env sc a):=⟨aj,ak,he,ax⟩
 have ca:∀(B:Array Value)(w:World),(callFunc z B).run prog w=.ok (.enter z B) w:=bc;obtain⟨cg,cb,bi,_⟩:=cJ ho;clear h he az ba bb aa hm am aj ak aw ax bd bc hg ay hO ho;subst bi;go_enter func227,ntmps227;go_wp2_with fail
 go_loopw [3] (fun p wr=>∃d,Hid (GaI c M O w F kv K n f env a us.length q0 (.slice ao us.length t) (.pointer v) (fnV z A) w.heap.size (w.heap.size+1) (w.heap.size+1+1) d p wr)) (fun p _=>us.length-slLenF p)
 case atStart=>exact⟨ws,aq⟩
 case round =>
  obtain⟨d,HI⟩:=hrel;obtain⟨d1,d2,d3,d4,d5,m,r,rfl⟩:=HE.out _ _ _ HI;by_cases bo:d.length<us.length
  ·have bj:Q3 wr wr.drew:=r_.drew;obtain⟨kf,E,g,J,rfl,be,ad,eg,H,G,n',W',j,x,hx,ac,q1,q2,q3,q4,q5,q6,q7,q8,q9,X,R,T,ae⟩:=HC.out _ _ _ HI bo _ bj;have hd:=aGL f.ks hx;have af:=h_ ae;have bp:∀(B:Array Value)(w:World),(callFunc kf B).run prog w=.ok (.enter kf B) w:=eg;have h0:(0:Int)<=(d.length:Int):=by omega
   have ch:(d.length:Int)<(us.length:Int):=by omega
   have I:Hid (Stp M w H wr.drew/\(∀b,O b->wr.drew.heap[b]?=w.heap[b]?)/\Fg.Le F G/\wr.drew.ownsRow 0 B9 1 (.slice m d.length r) d.length d/\(∀g,(Value.slice m d.length r).ownBlock=some g->¬O g)/\BY (RV G.s) d j/\Bx H wr.drew w.heap.size (.slice (some ⟨g,J,none⟩) us.length t) TCds/\Bx H wr.drew (w.heap.size+1) (.pointer v) TPlP/\Bx H wr.drew (w.heap.size+1+1) (fnV z A) TTk2):=⟨q1,q2,q3,q5,q6,q7,X,R,T⟩
   clear ae eg q1 q2 q3 q4 q5 q6 q7 X R T bj HC HE aq HI HT;go_wp2_with fail
   go_region_law (refine aHW m6 _ _ _ _ m6 kf E m6 bp _ _ m6 m6 af ?_;intro e C U;obtain⟨v',x',rfl⟩:=U.tup;have al:=(show Hid _ from U);clear U;refine⟨_,rfl,?_⟩)
   all_goals
    obtain⟨M2,G2,k2,W2,S2,y1,y2,y3,y4,y5,y6,y7,qr⟩:=al.out;have s:C.ownsRow 0 B9 1 (.slice m d.length r) d.length d:=aGD I.2.2.2.1 (fun g hg=>y2 g (.inr hg));have s2:=I.1.trans y1;have l2:=I.2.2.1.trans y3;have o2:=fun b (D:O b)=>(y2 b (.inl D)).trans (I.2.1 b D);clear al;generalize L:aGG v' x'=ev at qr;rcases qr with⟨v2,W3,S3,r1,V,r3,r4,r5,r6⟩ | ⟨es,y,r1,V,r3,r4⟩ | ⟨es,r1,V⟩ | ⟨Fs,S0,fx,B,r1,V,r3,r4⟩
    ·simp only [Ending.returned.injEq,Value.tuple.injEq,Array.mk.injEq,List.cons.injEq,and_true] at L;obtain⟨rfl,rfl⟩:=L;obtain⟨z1,z2,z3⟩:=r6.tick (k2+1+1);obtain⟨Q,au⟩:∃Q,Q=C.setCell ⟨c.rb,4,none⟩ (.int .i64 ((k2+1+1:Nat):Int)):=⟨_,rfl⟩
     rw [<- au] at z1 z2 z3;have an:Q.heap.size=C.heap.size:=by rw [au];simp [World.setCell]
     have o:Q3 Q (Q.alloc (.cells #[v'] B9)):=b_;have ag:(Q.alloc (.cells #[v'] B9)).ownsRow 0 B9 1 (.slice m d.length r) d.length d:=aGK o (aGD s (fun g hg=>z3 g (.inr hg)));obtain⟨i0,bq,br,bs,bt⟩:=rD;obtain⟨v1,w4,hr,p1,p2,p3⟩:=aH0 (P:=prog) (Q.alloc (.cells #[v'] B9)) 319 319 B9 i0 .nilIface 16 underlying319 bq br bs bt rfl _ d.length d ag ⟨C.heap.size,0,none⟩ v' 1 (by rw [<- an];exact aA (heap_alloc_new Q _) 0) r5.QL x8 w8;obtain⟨b1,b2,b3,b4⟩:=(z1.below o).ownApp ag p2 p1 p3 I.2.2.2.2.1;obtain⟨ci,cc,bu,_⟩:=cJ p1;have HX:Hid (GaI c M O w F kv K n f env a us.length q0 (.slice (some ⟨g,J,none⟩) us.length t) (.pointer v) (fnV z A) w.heap.size (w.heap.size+1) (w.heap.size+1+1) (d++[v']) v1 w4):=by have s6:=(z2.trans (Stp.AA (M:=M2) o)).trans b2;have a1:=y4.next y5 r1 V x8;have gs:=GS.next (l:=us.length) hk HL a1 r3 r4 x8 x8;exact⟨_,G2,k2+1+1,W3,j++[S3.val],s2.trans s6,fun b D=>(b3 b D).trans ((o.block b (z1.fw.olt (.inl D))).trans ((z3 b (.inl D)).trans (o2 b D))),l2,b1.up x8,by simpa using p1,b4,(I.2.2.2.2.2.1.mono (fun _ _ q=>q.le y3.s)).snoc r5,gs,x8,by simp only [a_,List.length_singleton];rw [show a.length+(j.length+1)=a.length+j.length+1 from by omega];omega,I.2.2.2.2.2.2.1.go (y1.trans s6),I.2.2.2.2.2.2.2.1.go (y1.trans s6),I.2.2.2.2.2.2.2.2.go (y1.trans s6)⟩
     obtain⟨k4,_,g4⟩:=r6.cells;have cj:k2<=1010000:=by omega
     have m5:=World.block_lt_of_cell? _ _ k4;obtain⟨T2,yy,rfl⟩:=r5.iface;subst bu;subst au;clear y1 y2 y3 y4 y5 y6 y7 r1 V r3 r4 r5 r6 af I HQ HL s s2 l2 o2 z1 z2 z3 ag p1 p2 p3 b1 b2 b3 b4 o an;go_wp2_with (at_builtin;refine dC _ rfl _ _ 319 319 rfl _ rfl _ rfl 319 rfl hr ?_);exact⟨⟨_,HX⟩,by simp [slLenF];omega⟩
    ·simp only [Ending.returned.injEq,Value.tuple.injEq,Array.mk.injEq,List.cons.injEq,and_true] at L;obtain⟨rfl,rfl⟩:=L;have ah:=h_ s;have o:Q3 C (C.alloc (.cells #[.slice m d.length d.length] TVls)):=b_;have HX:Hid (Post c M O w F kv K n (2*OT (f.ks.drop (a.length+ps.length))+zt) (aGG .nilIface (aY es y)) (C.alloc (.cells #[.slice m d.length d.length] TVls))):=⟨M2,G2,k2,W2,S2,s2.trans (Stp.AA o),fun b D=>(o.block b (r4.fw.olt (.inl D))).trans (o2 b D),l2,y4,y5,x8,x8,.err es y r1 V r3 ⟨(r4.below o).fw.less (fun k hk=>.inl hk),(r4.below o).mc,r4.bd⟩⟩
     exact zK3
    ·simp only [Ending.returned.injEq,Value.tuple.injEq,Array.mk.injEq,List.cons.injEq,and_true] at L;obtain⟨rfl,rfl⟩:=L;have ah:=h_ s;have o:Q3 C (C.alloc (.cells #[.slice m d.length d.length] TVls)):=b_;have HX:Hid (Post c M O w F kv K n (2*OT (f.ks.drop (a.length+ps.length))+zt) (aGG .nilIface (aY es 7)) (C.alloc (.cells #[.slice m d.length d.length] TVls))):=⟨M2,G2,k2,W2,S2,s2.trans (Stp.AA o),fun b D=>(o.block b (V.fw.olt (.inl D))).trans (o2 b D),l2,y4,y5,x8,x8,.spent es r1 ⟨(V.below o).fw.less (fun k hk=>.inl hk),(V.below o).mc,V.bd⟩⟩
     exact zK3
    ·simp only [Ending.returned.injEq,Value.tuple.injEq,Array.mk.injEq,List.cons.injEq,and_true] at L;obtain⟨rfl,rfl⟩:=L;have av:=r4.freeze s I.2.2.2.2.1;have ai:=Stp.freeze M2 (.slice m d.length r) C;have bl:FD (Mz M2 (.slice m d.length r)) C G2.s (.slice m d.length d.length) j:=aKU s (I.2.2.2.2.2.1.mono (fun _ _ q=>q.le y3.s));have o:Q3 C (C.alloc (.cells #[.slice m d.length d.length] TVls)):=b_;have Z:=Stp.AA (M:=Mz M2 (.slice m d.length r)) o
     have HX:Hid (Q2 222 #[Q0 c.rb,.nilIface,fnV 237 #[pt w.heap.size,pt (w.heap.size+1),pt C.heap.size,pt (w.heap.size+1+1)]] (C.alloc (.cells #[.slice m d.length d.length] TVls)) fun e w'=>e=aGG .nilIface .nilIface/\Post c M O w F kv K n (2*OT (f.ks.drop (a.length+ps.length))+zt) (aGG .nilIface .nilIface) w'):=by
      obtain⟨a1,a2,a3,a4⟩:=HQ.out;have s6:=(s2.trans ai).trans Z;have bv:Bx (Mz M2 (.slice m d.length r)) (C.alloc (.cells #[.slice m d.length d.length] TVls)) C.heap.size (.slice m d.length d.length) TVls:=⟨fun y=>by have:=r4.fw.CY.mlt _ y.1;omega,heap_alloc_new C _⟩
      refine(aJW (av.below o) (fr:=⟨f,a++j,a.length+j.length+1,env⟩) (.gath w.heap.size (w.heap.size+1) C.heap.size (w.heap.size+1+1) (.slice (some ⟨g,J,none⟩) us.length t) (.pointer v) (.slice m d.length d.length) (fnV z A) us j a _ sc hk ((I.2.2.2.2.2.2.1.go (y1.trans ai)).go Z) ((I.2.2.2.2.2.2.2.1.go (y1.trans ai)).go Z) bv ((I.2.2.2.2.2.2.2.2.go (y1.trans ai)).go Z) (a3.go s6 l2.s) (a1.AQ s6) (a2.mono (fun _ _ q=>q.go s6 l2)) (bl.go Z (Sg.Le.refl _)) ⟨_,_,rfl⟩ (a4.go s6 l2) rfl rfl x8 h2) x8).mono ?_;rintro e w' ⟨rfl,H,z1,z2,z3⟩;exact⟨rfl,H,G2,k2,W2,S2,s6.trans z1,fun b D=>(z2 b D).trans ((o.block b (av.fw.olt D)).trans (o2 b D)),l2,y4,y5,x8,x8,.pend (Fs++[⟨f,a++j,a.length+j.length+1,env⟩]) S0 fx B r1 (by rw [V];simp) r7 z3⟩
     have ah:=h_ s;clear y1 y2 y3 y4 y5 y6 y7 r1 V r3 r4 af I HQ HL s s2 l2 o2 av ai bl o Z
     go_wp2_with (first
      | (go_at_call 236;refine(aLB _ _ _ _ ah).mono ?_;rintro e Q ⟨bk,⟨ap,N⟩,rfl,rfl⟩;simp only [Value.slice.injEq,true_and] at N;obtain⟨rfl,rfl⟩:=N)
      | (go_at_call 222;refine(Calls.mono HX ?_);rintro e Q ⟨rfl,U⟩;have bw:=(show Hid _ from U);clear U))
     go_ret2;exact bw
  ·have bm:d.length=us.length:=by omega
   have bx:Hid (Q2 z (#[pt c.rb,.pointer v,.slice m d.length r]++A) wr (Post c M O w F kv K n (2*OT (f.ks.drop (a.length+ps.length))+zt))):=HT.out _ _ _ HI bm;have ck:¬((d.length:Int)<(us.length:Int)):=by omega
   clear HC HE aq HI HQ HL HT bm;go_wp2_with (go_at_fn z;refine(Calls.mono bx ?_);intro e Q U;obtain⟨v',x',rfl⟩:=U.tup;have al:=(show Hid _ from U);clear U);go_ret2;exact al
theorem aGJ{P:Program}{d:Array Oper}{o:Oper}{a:Act}{K:Act->World->Prop}{Q:Exit->Act->World->Prop}{E:Prop}(g:o.guard=none)(f:FuncId)(i j k:Operand)(q:Array TypeId)
  (s:o.op=.call {callee:=.value (.func f),args:=#[i,j,k],argTypes:=q}) {l:Func} {c:Code} (t:P.funcs[f]?=some l) (b:(l.name == "runtime.NumGoroutine")=false) (u:l.body=some c)
  (m n p:Value) (x:a.eval i=m) (y:a.eval j=n) (z:a.eval k=p) {R:Ending->World->Prop} (A:Calls P f #[m,n,p] w R) (h:∀e r,R e r->∃v,e=.returned v/\K (a.put o.dst v) r):if Region.wanted o (yielded d a.tmps)=true then Oper.wp P o a w K Q else E :=
 tP g f #[i,j,k] q s t b u #[m,n,p] (by simp [x,y,z]) A h
theorem Fs.entAny1:Enters 231:=enters_of func231 t8 rfl
theorem ArgsAt.tail{l:Option Addr}(h:ArgsAt M O w s (.slice l n cap) (u::us)):∃g a,l=some ⟨g,a,none⟩/\n=us.length+1/\us.length+1<=cap/\w.cell? ⟨g,a,none⟩=some u/\g<w.heap.size/\∀(b:Option Addr)(m c:Nat),m=us.length->m<=c->(m≠0->b=some ⟨g,a+1,none⟩)->ArgsAt M O w s (.slice b m c) us:=by
 obtain⟨r,o,e,t,d⟩:=h;simp only [Value.slice.injEq] at e;obtain⟨rfl,rfl,rfl⟩:=e;rcases d with d | ⟨g,a,f,rfl,v,y,j,p,z⟩
 ·simp at d
 ·refine⟨g,a,rfl,w9,by simpa using t,(aA j a).trans (p 0 u rfl),aB j,fun b m c A k B=>?_⟩;subst A;refine⟨b,c,rfl,k,?_⟩;by_cases q:us.length=0
  ·exact .inl q
  ·refine .inr ⟨g,a+1,f,B q,v,y,j,fun i x C=>?_,z⟩;rw [show a+1+i=a+(i+1) from by omega];exact p (i+1) x zO4
theorem ArgsAt.drew(h:ArgsAt M O w s v us):ArgsAt M O w.drew s v us:=h
theorem aL1(env:Env)(sc:List (List AE)):AllOk c M0 w0 F0 (fnV 231 #[]) env sc [] 1:=by
 refine⟨_,_,rfl,Fs.entAny1,?_⟩;intro M O w F kv G U K fr k W S d V hs l h X A H B Y o C I f p hT;show Q2 231 #[Q0 c.rb,G,U] w _
 obtain⟨r,a,rfl⟩:∃r a,V=r::a:=by
  cases V with
  | nil=>have:=congrArg List.length C;simp at this
  | cons r a=>exact⟨r,a,rfl⟩
 obtain⟨u,d,rfl⟩:∃u J,d=u::J:=by
  cases d with
  | nil=>have:=f.1;simp at this
  | cons u d=>exact⟨u,d,rfl⟩
 have t:=aHT (W:=W) H B Y o C
 have y:∀v∈r::a,BL W v:=fun v G=>by
  have:v∈fr.B8++[S.val]:=by rw [C];exact G
  rcases List.mem_append.1 this with q | q
  ·exact A.B8 B Y v q
  ·rw [List.mem_singleton.1 q];exact A.val H
 have L:RV F.s u r:=f.2 0 u r rfl rfl;have s:BY (RV F.s) d a:=by simpa using f.drop 1
 have N:Q3 w w.drew:=r_.drew;obtain⟨D,n,i,rfl⟩:∃D n i,U=.slice D n i:=by obtain⟨D,i,e,_⟩:=I;exact⟨D,_,i,e⟩
 obtain⟨g,P,rfl,rfl,hc,Q,aa,z⟩:=I.tail;have HP:Hid (∀j m E,m=d.length->m<=E->(m≠0->j=some ⟨g,P+1,none⟩)->Q2 232 #[Q0 c.rb,u,.slice j m E] w.drew (Post c M O w F kv K (k+1) 1)):=fun j m E h1 h2 h3=>(aMT (h.below N) A (aF8 B) t rfl L (z j m E h1 h2 h3).drew s y (by have:=s.1;simp at p;omega)).mono (fun e w' o=>o.after (Stp.AA N) (fun b _=>rfl) (Fg.Le.refl _) n_ n_);obtain⟨T,x,rfl⟩:=L.iface;obtain⟨ho,rfl⟩:=X.ptr;have Z:d.length<=2000:=by simp at p;omega
 have ab:(1:Int)<=(d.length:Int)+1:=by omega
 clear h X A I f t y L s N hs l z H B C hT p;go_enter func231,ntmps231;go_wp2_with fail
 go_region_law (refine aGJ m6 232 _ _ _ _ m6 func232 t8 rfl _ _ _ m6 m6 m6 (HP _ _ _ (by first | rfl | omega) x8 (by intro q;first | rfl | (rw [if_neg x8]))) ?_;intro e w3 o;obtain⟨v',x',rfl⟩:=o.tup;have R:=(show Hid _ from o);clear o;refine⟨_,rfl,?_⟩)
 all_goals go_wp2_with fail
 all_goals
  go_ret2;exact R
theorem FW.enter(h:FW L M O w F N W){args:List PV}(ha:ArgsAt M O w F.s vv us)(Z:BY (RV F.s) us args) :∃G,Fg.Le F G/\FW L M O w G N {W with places:=W.places++args}/\∃E z,vv=.slice E args.length z/\args.length<=z/\∀i,i<args.length->∃g a,E=some ⟨g,a,none⟩/\G.s.lp[W.places.length+i]?=some (some (g,a+i)):=by
 obtain⟨E,z,rfl,hc,h3⟩:=ha;have hl:=Z.1
 obtain⟨A,B,r,K⟩:∃A:List (Option (Nat×Nat)),A.length=args.length/\(∀i,i<args.length->∃g a d,E=some ⟨g,a,none⟩/\A[i]?=some (some (g,a+i))/\M g/\¬O g/\w.heap[g]?=some (.cells d B9 (0,0))/\(∀(i:Nat)(u:Value),us[i]?=some u->d[a+i]?=some u)/\∀i o:Nat,F.s.lp[i]? ≠ some (some (g,o)))/\∀(i j:Nat)(x:Nat×Nat),A[i]?=some (some x)->A[j]?=some (some x)->i=j:=by
  rcases h3 with h3 | ⟨g,a,d,rfl,h4,h5,h6,h7,h8⟩
  ·refine⟨[],r7,fun i f=>by omega,fun i j x f=>by simp at f⟩
  ·refine⟨(List.range args.length).map (fun i=>some (g,a+i)),w9,fun i f=>⟨g,a,d,rfl,by simp [f],h4,h5,h6,h7,h8⟩,fun i j x f I=>?_⟩;obtain⟨aa,P⟩:=s_ f;obtain⟨ab,Q⟩:=s_ I;have:=P.trans Q.symm;simp only [List.getElem_map,List.getElem_range,o_,Prod.mk.injEq] at this;omega
 have l:Fg.Le F {F with s:={F.s with lp:=F.s.lp++A},pr:=F.pr++[]}:=Fg.le_s ⟨rfl,rfl,List.prefix_refl _,List.prefix_refl _,List.prefix_refl _,List.prefix_append _ _,List.prefix_refl _⟩
 have m:∀{i:Nat} {x:Option (Nat×Nat)},(F.s.lp++A)[i]?=some x->F.s.lp[i]?=some x\/(W.places.length<=i/\A[i-W.places.length]?=some x):=fun {i} {x} D=>by
  rw [<- h.places.len];rcases Nat.lt_or_ge i F.s.lp.length with f | f
  ·rw [List.getElem?_append_left f] at D;exact .inl D
  ·rw [List.getElem?_append_right f] at D;exact .inr ⟨f,D⟩
 refine⟨_,l,h.re l rfl rfl rfl rfl (h.CY.leS l.s rfl rfl) rfl (fun i p J=>?_) h.pql h.pqi (fun i b q R S T=>(h.pqa i b q R S T).go (Stp.refl _ _) l) (h.AG.mono (fun b x D=>D.go (Stp.refl _ _) l)) ⟨by simp [h.places.len,B],fun i j x f I=>?_,fun i g o p f J=>?_⟩ (fun k hk=>?_) (by simp [h.pr]),E,z,by rw [hl],x8,fun i f=>?_⟩
 ·have:=(s_ J).1;show(W.places++args)[i]?=some p;rw [List.getElem?_append_left this];exact J
 ·rcases m f with t | ⟨t,c⟩
  ·rcases m I with H | ⟨H,n⟩
   ·exact h.places.inj i j x t H
   ·obtain⟨g,a,d,_,C,_,_,_,_,U⟩:=r (j-W.places.length) (by rw [<- B];exact(s_ n).1);rw [C] at n;simp only [o_] at n;subst n;exact absurd t (U i _)
  ·rcases m I with H | ⟨H,n⟩
   ·obtain⟨g,a,d,_,C,_,_,_,_,U⟩:=r (i-W.places.length) (by rw [<- B];exact(s_ c).1);rw [C] at c;simp only [o_] at c;subst c;exact absurd H (U j _)
   ·have:=K _ _ x c n;omega
 ·have y:(W.places++args)[i]?=some p:=J;rcases m f with t | ⟨t,c⟩
  ·have V:=(s_ t).1;rw [List.getElem?_append_left (by rw [<- h.places.len];exact V)] at y;obtain⟨k1,d,v,k2,k3,k4⟩:=h.places.at_ i g o p t y;exact⟨k1,d,v,k2,k3,k4.le l.s⟩
  ·rw [List.getElem?_append_right t] at y;have X:=(s_ y).1;obtain⟨g',a,d,_,C,e3,_,e5,e6,_⟩:=r (i-W.places.length) X;rw [C] at c;simp only [o_,Prod.mk.injEq] at c;obtain⟨rfl,rfl⟩:=c;obtain⟨u,hu,Y⟩:=Z.at_ y;exact⟨e3,d,u,e5,e6 _ u hu,Y.le l.s⟩
 ·obtain⟨R,S,T⟩:=h.oth k hk;refine⟨R,S,fun i o e=>?_⟩;rcases m e with t | ⟨t,c⟩
  ·exact T i o t
  ·obtain⟨g',a,d,_,C,_,e4,_⟩:=r (i-W.places.length) (by rw [<- B];exact(s_ c).1);rw [C] at c;simp only [o_,Prod.mk.injEq] at c;obtain⟨rfl,_⟩:=c;exact e4 hk
 ·obtain⟨g,a,d,e1,C,_⟩:=r i f;refine⟨g,a,e1,?_⟩;show(F.s.lp++A)[W.places.length+i]?=_;rw [<- h.places.len,List.getElem?_append_right x8];rw [show F.s.lp.length+i-F.s.lp.length=i from by omega];exact C
theorem Tryz.fp_nil(w:World):(Instr.typeAssert .nilIface 113 149 true).run prog w=.ok (.tuple #[Q1 0,.bool false]) w:=by kernel_rfl
theorem Sl.one{c:Option Addr}(h:Sl M w T 1 (.slice c n cap) us.length us){i:Nat}(d:us[i]?=some u):∃g a,c=some ⟨g,a,none⟩/\g<w.heap.size/\w.cell? ⟨g,a+i,none⟩=some u:=by
 obtain⟨_,k,f,e,o,l⟩:=h;simp only [Value.slice.injEq] at e;obtain⟨rfl,rfl,rfl⟩:=e;have p:=(s_ d).1;rcases l with q | ⟨g,a,m,rfl,r,j,b⟩
 ·omega
 ·exact⟨g,a,rfl,aB j,(aA j _).trans (b i u d)⟩
def KnQ(w:World)(us:List Value)(ot gv:Value)(e:Ending)(w':World):Prop:=∃mv,e=.returned mv/\(∃k c,mv=fnV k c)/\Q3 w w'/\∀M:Q5,(∀k,M k->k<w.heap.size)->MadeV M w' us ot gv mv
theorem aHS(w:World)(a:Value)(us:List Value)(ko:Nat)(co:Array Value)(d:Option Addr)(n c:Nat)(e:∀w,(Instr.typeAssert a 113 149 true).run prog w=.ok (.tuple #[Q1 0,.bool false]) w)(b:∀x,a≠.iface TPrm x) :Q2 228 #[a,.slice d n c,fnV ko co] w (KnQ w us (fnV ko co) a):=by
 have f:Hid (KnQ w us (fnV ko co) a (.returned (fnV ko co)) w):=⟨_,rfl,⟨_,_,rfl⟩,r_,fun M g=>.inr ⟨b,rfl⟩⟩
 clear b;go_enter func228,ntmps228;go_wp2_with fail;go_ret;exact f
theorem aLO(J:Q5)(w:World)(b:Nat)(us:List Value)(ko:Nat)(co:Array Value)(F:Option Addr)(o:Nat)(a:Sl J w TCod 1 (.slice F us.length o) us.length us)(d:∀u∈us,∃k c,u=fnV k c)(n:us.length<=2000) :Q2 228 #[.iface TPrm (.int .i64 (b:Int)),.slice F us.length o,fnV ko co] w (KnQ w us (fnV ko co) (.iface TPrm (.int .i64 (b:Int)))):=by
 have Q:=Tryz.vp_p;unfold TPrm
 match us,a,d,n with
 | [],a,d,n =>
  have t:Hid (KnQ w [] (fnV ko co) (.iface TPrm (.int .i64 (b:Int))) (.returned (fnV ko co)) w):=⟨_,rfl,⟨_,_,rfl⟩,r_,fun M f=>.inl ⟨b,rfl,rfl⟩⟩
  clear a d;go_enter func228,ntmps228;go_wp2_with fail;go_ret;exact t
 | [u],a,d,n =>obtain⟨h,j,rfl⟩:=d u w9;obtain⟨g,y,rfl,K,z⟩:=a.one (i:=0) rfl;rw [Nat.add_zero] at z;have A:Hid (Q2 238 #[Q1 b,fnV h j] w (KnQ w [fnV h j] (fnV ko co) (.iface TPrm (.int .i64 (b:Int))))):=(aLD w b h j).mono (fun e L ⟨p,r,s,B,C⟩=>⟨p,r,s,B,fun M f=>.inl ⟨b,rfl,C M f⟩⟩);clear a d;go_enter func228,ntmps228;go_wp2_with (go_at_call 238;refine(Calls.mono A ?_);rintro e N ⟨p,rfl,q⟩;have l:=(show Hid _ from q);clear q);go_ret;exact⟨_,rfl,l⟩
 | [u,v],a,d,n =>
  obtain⟨h,j,rfl⟩:=d u w9;obtain⟨D,E,rfl⟩:=d v w9;obtain⟨g,y,rfl,K,z⟩:=a.one (i:=0) rfl;rw [Nat.add_zero] at z;obtain⟨R,G,H,_,O⟩:=a.one (i:=1) rfl;simp only [o_,Addr.mk.injEq,and_true] at H;obtain⟨rfl,rfl⟩:=H;have I:Q3 w w.drew:=r_.drew;have A:Hid (Q2 239 #[Q1 b,fnV h j,fnV D E] w.drew (KnQ w [fnV h j,fnV D E] (fnV ko co) (.iface TPrm (.int .i64 (b:Int))))):=(aLC w.drew b h D j E).mono (fun e L ⟨p,r,s,B,C⟩=>⟨p,r,s,I.trans B,fun M f=>.inl ⟨b,rfl,C M f⟩⟩);clear a d I;go_enter func228,ntmps228;go_wp2_with fail
  go_region_law (refine aGJ m6 239 _ _ _ _ m6 func239 t8 rfl _ _ _ m6 m6 m6 A ?_;rintro e N ⟨p,rfl,q⟩;have l:=(show Hid _ from q);clear q;refine⟨_,rfl,?_⟩)
  all_goals
   go_wp2_with fail
   go_ret;exact⟨_,rfl,l⟩
 | u::v::x::us,a,d,n =>
  have t:Hid (KnQ w (u::v::x::us) (fnV ko co) (.iface TPrm (.int .i64 (b:Int))) (.returned (fnV ko co)) w):=⟨_,rfl,⟨_,_,rfl⟩,r_,fun M f=>.inl ⟨b,rfl,rfl⟩⟩
  obtain⟨m,f⟩:∃m,m=(u::v::x::us).length:=⟨_,rfl⟩
  have P:3<=m:=by rw [f];simp
  rw [<- f] at n ⊢;have r:¬((m:Int)=1):=by omega
  have s:¬((m:Int)=2):=by omega
  clear a d f;go_enter func228,ntmps228;go_wp2_with fail;go_ret;exact t
def Fg.addC(F:Fg)(st:Site):Fg:={F with cs:=F.cs++[st]}
theorem Fg.addC_le(F:Fg)(a:Site):Fg.Le F (F.addC a):=⟨Sg.Le.refl _,fun _ _ h=>h,List.prefix_append _ _,List.prefix_refl _⟩
theorem FW.addC(h:FW L M O w F N W){st:Site}(g:SitAt M w st)(n:∀s∈F.cs,s.mb≠st.mb)(o:∀s∈F.cs,s.sb≠st.sb)(p:∃k,F.gl k=some st.g):FW L M O w (F.addC st) N W:=by
 have l:=Fg.addC_le F st;have r:=Stp.refl M w;have d:∀(f:Site->Nat),(F.cs.map f).Nodup->(∀s∈F.cs,f s≠f st)->((F.cs++[st]).map f).Nodup:=fun f t u=>by rw [List.map_append,List.nodup_append];refine⟨t,w9,fun a v b m=>?_⟩;obtain⟨s,g,rfl⟩:=List.mem_map.1 v;simp only [List.map_cons,List.map_nil,List.mem_singleton] at m;subst m;exact u s g
 obtain⟨D,e,j⟩:=h.map;refine⟨h.CY,h.NN,h.TH,h.UE,⟨D,e,⟨j.tidy,j.yes,j.no⟩⟩,h.gn,h.gat,h.ginj,h.gall,h.gpl,fun s c=>?_,d _ h.sn1 n,d _ h.sn2 o,fun s c=>?_,h.pql,h.pqi,fun i b q y z A=>(h.pqa i b q y z A).go r l,h.AG.mono (fun b x B=>B.go r l),h.places,h.oth,h.pr,h.gs,h.JQ,h.gt,h.ge,h.tq,h.tc,h.nl⟩
 ·rcases List.mem_append.1 c with q | q
  ·exact h.sit s q
  ·obtain rfl:=List.mem_singleton.1 q;exact g
 ·rcases List.mem_append.1 c with q | q
  ·exact h.sgl s q
  ·obtain rfl:=List.mem_singleton.1 q;exact p
theorem RC.nilsc{nm:AE}{d:Pl.A9}{v:PV}{ns:List AE}(h:RC M w F u (.mk .name nm d v ks ns) []){sc:List (List AE)}(e:scF sc nm=none):RC M w F u (.mk .name nm d v ks ns) sc:=by
 cases h with
 | loc b c m n _ _ _ _ _ _ _ _ a _=>simp [scF] at a
 | DI b c g k _ _ _ _ _ _ f i j l _=>exact .DI b c g k nm d v ks ns sc f i j l e
theorem aK4(h:FW L M O w F N W){c:Nat}(j:F.gl k=some g){gv:Value}(a:w.heap[g]?=some (.cells #[gv,Q1 c] TGlb (0,0))){b:Option Addr}{ko:Nat}{co:Array Value}(d:Sl M w TCod 1 (.slice b us.length cap) us.length us)(l:∀u∈us,∃k c,u=fnV k c)(s:us.length<=2000) :Q2 228 #[gv,.slice b us.length cap,fnV ko co] w (KnQ w us (fnV ko co) gv)/\((∃T x,gv=.iface T x)\/gv=.nilIface):=by
 obtain⟨_,m,v,y,_,q,_,n⟩:=h.gat k g j;rw [a] at q;simp only [o_,Obj.cells.injEq,Array.mk.injEq,List.cons.injEq,and_true] at q;obtain⟨⟨rfl,_⟩,_⟩:=q;rcases n with⟨_,rfl⟩ | ⟨i,p,_,_,o⟩
 ·exact⟨aHS _ _ _ _ _ _ _ _ Tryz.fp_nil (fun x q=>by cases q),.inr rfl⟩
 ·rcases o.isPr h.tq h.tc with⟨r,t,_,_,_,rfl⟩ | ⟨⟨T,x,rfl,e⟩,f⟩
  ·exact⟨aLO M _ r us ko co b cap d l x8,.inl ⟨_,_,rfl⟩⟩
  ·exact⟨aHS _ _ _ _ _ _ _ _ e f,.inl ⟨_,_,rfl⟩⟩
def Xt(a b k:Nat):Prop:=k=a\/k=b
theorem sx_set(c:X b)(o:Nat)(v:Value):Stp X w X (w.setCell ⟨b,o,none⟩ v):=by
 refine⟨rfl,rfl,rfl,zN1,fun k _ a=>⟨Below.heap_setCell _ _ _ _ (fun e=>a ?_),a⟩⟩;have d:k=b:=by simpa using e
 rw [d];exact c
theorem gl_fin{M3:Q5}{w3 wc w4:World}(c:Cmp L M O P w F W M3 w3 G N){ch:Nat}{nm':AE}(I:G.s.ns[k]?=some nm')(X:G.gl k=some g){gv:Value}(y:w3.heap[g]?=some (.cells #[gv,Q1 ch] TGlb (0,0))){b8:Nat}{ot mv:Value}{sc:List (List AE)}(J:Bx M3 w3 b7 (pt g) TGlP)(K:Bx M3 w3 b5 ar TCds)(Q:Bx M3 w3 b8 ot TCod)(hf:scF sc nm'=none)(z:Sl M3 w3 TCod 1 ar us.length us)(R:us.length=ks.length)(S:∀(i:Nat)(u:Value)(x:PF),us[i]?=some u->ks[i]?=some x->RC M3 w3 G u x sc)(h5:ks.length<=2000)(nm:AE)(d:Pl.A9)(v:PV)(ns:List AE)(T:Pl.A9)(v':PV)(o:List PF)(p:List AE)
  (ho:RC M3 w3 G ot (.mk .call nm d v (.mk .name nm' T v' o p::ks) ns) sc) (f:Q3 w3 wc) (h:Q3 wc w4) (U:∃k c,mv=fnV k c) (hM:∀M:Q5,(∀k,M k->k<wc.heap.size)->MadeV M w4 us ot gv mv) {mb sb:Nat} (a:Stp (Xt mb sb) w4 (Xt mb sb) wy) (k1:w3.heap.size<=mb) (k2:w3.heap.size<=sb) (m1:mb<wc.heap.size\/w4.heap.size<=mb) (m2:sb<wc.heap.size\/w4.heap.size<=sb) (Y:wy.heap[mb]?=some (.cells #[mv] TCod (0,0))) (Z:wy.heap[sb]?=some (.cells #[Q1 ch] TInt (0,0))) :
  CmpQ L M O P w F W (.mk .call nm d v (.mk .name nm' T v' o p::ks) ns) sc N (.returned (fnV 229 #[pt sb,pt b7,pt b5,pt b8,pt mb])) wy:=by
 have A:Q3 w3 wy:=⟨a.os.trans (h.os.trans f.os),a.tape.trans (h.tape.trans f.tape),a.output.trans (h.output.trans f.output),t_ f.size (t_ h.size a.size),fun j m=>by
  have j1:=f.size;have j2:=h.size
  exact(a.block j x8 (fun x=>by rcases x with x | x<;>omega)).1.trans ((h.block j x8).trans (f.block j m))⟩
 obtain⟨f1,n⟩:=c.fw.more A (Xt mb sb) (fun j x=>by rcases x with rfl | rfl<;>assumption) (fun j x=>by
  rcases x with rfl | rfl
  ·exact aB Y
  ·exact aB Z)
 have r:MadeV (Mn M3 (Xt mb sb)) wy us ot gv mv:=by
  refine(hM (fun j=>Mn M3 (Xt mb sb) j/\j<wc.heap.size) (fun j x=>x.2)).go ⟨a.os,a.tape,a.output,a.size,fun j m I=>?_⟩
  have B:¬Mn M3 (Xt mb sb) j:=fun x=>I ⟨x,by
   have j1:=f.size;rcases x with x | x | x
   ·have:=c.mlt j x;omega
   ·omega
   ·omega⟩
  exact⟨(a.block j m (fun x=>B (.inr x))).1,B⟩
 have V:=(A.block g (aB y)).trans y;have C:SitAt (Mn M3 (Xt mb sb)) wy ⟨mb,sb,g,ar,ot⟩:=⟨.inr (.inl rfl),.inr (.inr rfl),us,mv,gv,ch,ch,Y,Z,V,n_,z.AQ n,x8,U,fun _=>r⟩
 have D:∀s∈G.cs,s.mb<w3.heap.size/\s.sb<w3.heap.size:=fun s t=>by obtain⟨_,_,_,_,_,E,H,_⟩:=(c.fw.sit s t).ex;exact⟨aB E,aB H⟩
 have f2:=f1.addC C (fun s t e=>by have:=(D s t).1;simp only at e;omega) (fun s t e=>by have:=(D s t).2;simp only at e;omega) ⟨k,X⟩;have l:=Fg.addC_le G ⟨mb,sb,g,ar,ot⟩;refine⟨_,_,_,rfl,⟨c.AQ.trans n,c.le.trans l,c.s,f2,fun b hb=>(A.block b (c.fw.olt hb)).trans (c.oth b hb),fun j m=>(A.block j (c.cr j m).lt).trans (c.row j m),fun j m=>?_⟩,.callG b7 b5 b8 k ⟨mb,sb,g,ar,ot⟩ us nm d v ks ns nm' T v' o p sc (List.mem_append_right _ (List.mem_singleton.2 rfl)) (J.go n) (K.go n) (Q.go n) I X hf (z.AQ n) R (fun i u x E H=>(S i u x E H).go n l) h5 (ho.go n l)⟩;obtain⟨E,H,q3⟩:=(c.cr j m).below A;refine⟨.inl E,H,fun s t=>?_⟩;rcases List.mem_append.1 t with q | q
 ·exact q3 s q
 ·obtain rfl:=List.mem_singleton.1 q;have:=(c.cr j m).lt;exact⟨zM4,zM4⟩
theorem Cw.pre{M4 M5:Q5}{w4 w5:World}{G4 G5:Fg}{N':Nat}(c:Cmp L M O P w F W M4 w4 G4 N)(h:Cw L M4 O P w4 G4 W M5 w5 G5 N' l wy):Cw L M O P w F W M5 w5 G5 N' l wy:=⟨c.trans h.cmp,h.AQ,h.cr,h.ne⟩
def BoxF(b4 b5:Nat)(nv kv ar:Value)(w:World):Prop:=w.heap[b4]?=some (.cells #[nv,kv] B6 (0,0))/\w.heap[b5]?=some (.cells #[ar] TCds (0,0))
theorem BoxF.alloc(h:BoxF b4 b5 nv kv ar w):BoxF b4 b5 nv kv ar (w.alloc o):=⟨aF5 h.1,aF5 h.2⟩
theorem BoxF.drew(h:BoxF b4 b5 nv kv ar w):BoxF b4 b5 nv kv ar w.drew:=h
theorem BoxF.set{o:Nat}(a:b4≠b)(c:b5≠b)(h:BoxF b4 b5 nv kv ar w):BoxF b4 b5 nv kv ar (w.setCell ⟨b,o,none⟩ v):=⟨aGA a h.1,aGA c h.2⟩
def Mid(w4:World)(l:List Nat)(w5:World)(l':List Nat):Prop:=(l'=l/\w5=w4)\/(l=[]/\∃z,l'=[w4.heap.size]/\w5=w4.alloc (.cells #[z] TCod))
def Fi(l:List Nat)(w5 w6:World)(b8:Nat)(u:Value):Prop:=(l=[]/\b8=w5.heap.size/\w6=w5.alloc (.cells #[u] TCod))\/(l=[b8]/\w6=w5.setCell ⟨b8,0,none⟩ u)
def Gl2(L:Lo)(M O P:Q5)(w:World)(F:Fg)(W:PW)(N:Nat)(f:PF)(sc:List (List AE))(k g b5 b7:Nat)(ar:Value)(us:List Value)(ks:List PF)(b8:Nat)(wx:World):Prop:=∃M6 G ko co,Cmp L M O P w F W M6 wx G N/\RC M6 wx G (fnV ko co) f sc/\G.gl k=some g/\Bx M6 wx b8 (fnV ko co) TCod/\Bx M6 wx b5 ar TCds/\Bx M6 wx b7 (pt g) TGlP/\Sl M6 wx TCod 1 ar us.length us/\∀(i:Nat)(u:Value)(x:PF),us[i]?=some u->ks[i]?=some x->RC M6 wx G u x sc
theorem gl2_fin{M5:Q5}{w5 w6:World}{sc:List (List AE)}{b8 ko:Nat}{co:Array Value}(h:Cw L M O P w F W M5 w5 G N l w5)(m:RC M5 w5 G (fnV ko co) f sc)(n:G.gl k=some g)(o:Bx M5 w5 b5 ar TCds)(p:Bx M5 w5 b7 (pt g) TGlP)(a:Sl M5 w5 TCod 1 ar us.length us)(d:∀(i:Nat)(u:Value)(x:PF),us[i]?=some u->ks[i]?=some x->RC M5 w5 G u x sc)(t:∀b∈l,∃z,w5.heap[b]?=some (.cells #[z] TCod (0,0)))(v:Fi l w5 w6 b8 (fnV ko co)):Gl2 L M O P w F W N f sc k g b5 b7 ar us ks b8 w6:=by
 have r:=Fg.Le.refl G;rcases v with⟨rfl,rfl,rfl⟩ | ⟨rfl,rfl⟩
 ·have q:Q3 w5 (w5.alloc (.cells #[fnV ko co] TCod)):=b_;have s:=Stp.AA (M:=M5) q;exact⟨M5,G,ko,co,h.cmp.below q,m.go s r,n,aGH h.cmp.mlt (aF7 rfl),o.go s,p.go s,a.AQ s,fun i u x e j=>(d i u x e j).go s r⟩
 ·obtain⟨z,y⟩:=t b8 w9;obtain⟨c,s⟩:=(h.set (b:=b8) w9 0 (fnV ko co)).shut w9;exact⟨_,G,ko,co,c,m.go s r,n,⟨Ml.not w9,aGC y⟩,o.go s,p.go s,a.AQ s,fun i u x e j=>(d i u x e j).go s r⟩
theorem aI9{B:Nat}(h:Below B a w){o:Nat}(d:B<=b)(v:Value):Below B a (w.setCell ⟨b,o,none⟩ v):=⟨h.os,h.tape,h.output,zM9,fun k c=>(Below.heap_setCell _ _ _ _ (fun e=>by have f:k=b:=(by simpa using e);omega)).trans (h.block k c)⟩
theorem aHL(h:Stp X a X w):Stp X a X (w.alloc o):=h.trans (Stp.AA b_)
theorem aHJ{o:Nat}(h:Stp X a X w)(c:X b):Stp X a X (w.setCell ⟨b,o,none⟩ v):=h.trans (sx_set c o v)
theorem aGB{B:Nat}(h:Below B a w)(b:B<=a.heap.size):Below B a (w.alloc o):=h.alloc (t_ b h.size) _
def MidQ(L:Lo)(M O P:Q5)(w:World)(F:Fg)(W:PW)(N:Nat)(f:PF)(sc:List (List AE))(k g b4 b5 b7:Nat)(nv kv ar:Value)(us:List Value)(ks:List PF)(l:List Nat)(w':World)(e:Ending)(w5:World):Prop:=∃ko co,e=.returned (.func (.func ko) #[] co)/\BoxF b4 b5 nv kv ar w5/\(∀b∈l,w5.heap[b]?=w'.heap[b]?)/\w'.heap.size<=w5.heap.size/\∀w6 b8,Fi l w5 w6 b8 (fnV ko co)->Gl2 L M O P w F W N f sc k g b5 b7 ar us ks b8 w6
def NamQ(L:Lo)(M O P:Q5)(w:World)(F:Fg)(W:PW)(N:Nat)(f:PF)(sc:List (List AE))(k g b4 b5 b7:Nat)(nv kv ar:Value)(us:List Value)(ks:List PF)(l:List Nat)(w':World)(e:Ending)(w4:World):Prop:=∃ku cu,e=.returned (.func (.func ku) #[] cu)/\BoxF b4 b5 nv kv ar w4/\(∀b∈l,w4.heap[b]?=w'.heap[b]?)/\w'.heap.size<=w4.heap.size/\∀w5 l',Mid w4 l w5 l'->Q2 216 #[.func (.func ku) #[] cu,ar] w5 (MidQ L M O P w F W N f sc k g b4 b5 b7 nv kv ar us ks l' w5)
theorem p_namQ{MC:Q5}{wC:World}(c:Cmp L M O P w F W MC wC G N){nm':AE}(hn:G.s.ns[k]?=some nm')(hg:G.gl k=some g){sc:List (List AE)}(h4:Bk MC wC b4 #[.string ⟨nm'.toArray⟩,Q1 k] B6)(U:Bx MC wC b5 (.slice (some ⟨rb,0,none⟩) ks.length ks.length) TCds)(h7:Bx MC wC b7 (pt g) TGlP)(V:rb<wC.heap.size)(E:Sl MC wC TCod 1 (.slice (some ⟨rb,0,none⟩) ks.length ks.length) us.length us)(X:us.length=ks.length)(H:∀(i:Nat)(u:Value)(x:PF),us[i]?=some u->ks[i]?=some x->RC MC wC G u x sc)(hf:scF sc nm'=none)(hl:ks.length+1<=2000)(hN:N+1<=9000000000000000000)(nm:AE)(d:Pl.A9)(v:PV)(ns:List AE)(I:Pl.A9)(v':PV)(n:List PF)(o:List AE)(w':World)(l:List Nat)(hA:Ah wC w' l)(hT:∀b∈l,∃z,w'.heap[b]?=some (.cells #[z] TCod (0,0))) :Q2 187 #[Q0 L.sb,.agg #[.string ⟨nm'.toArray⟩,Q1 k],.pointer none] w' (NamQ L M O P w F W (N+1) (.mk .call nm d v (.mk .name nm' I v' n o::ks) ns) sc k g b4 b5 b7 (.string ⟨nm'.toArray⟩) (.int .i64 (k:Int)) (.slice (some ⟨rb,0,none⟩) ks.length ks.length) us ks l w'):=by
 obtain⟨f,s,cr,_⟩:=hA.go c.fw c.cr;refine(aJX f cr hn (.nil) w9 hN I v' n o).mono (fun e D J=>?_);have Y:=J;obtain⟨u,M4,Z,rfl,S,hu⟩:=Y;obtain⟨ku,cu,rfl⟩:=hu.func;have a:=Cw.of hA c.fw c.cr S;have s4:=a.cmp.AQ;have l4:=a.cmp.le;refine⟨ku,cu,rfl,⟨(h4.go s4).2,(U.go s4).2⟩,fun b j=>S.row b (.inr j),S.AQ.size,fun h r hm=>?_⟩;have aa:=hu.nilsc hf;have K:∀(m P5:Q5)(h:World),FW L m O h Z (N+1) W->Stp M4 D m h->(∀k,P5 k->Cr m h Z k)->Q2 216 #[fnV ku cu,.slice (some ⟨rb,0,none⟩) ks.length ks.length] h (CmpQ L m O P5 h Z W (.mk .call nm d v (.mk .name nm' I v' n o::ks) ns) sc (N+1)):=fun m P5 h f5 s5 ab=>by have q:=s4.trans s5;exact aI2 f5 ab (aa.go s5 (Fg.Le.refl _)) (l_ V q.size) (E.AQ q) X (fun i u x q1 q2=>(H i u x q1 q2).go q l4) hl nm d v ns
 have Q:∀(m:Q5)(A:Fg)(h p:World)(r:List Nat)(t:Nat)(y:Array Value),Cw L MC O P wC G W m p A (N+1) r p->RC m p A (fnV t y) (.mk .call nm d v (.mk .name nm' I v' n o::ks) ns) sc->(∀b∈r,p.heap[b]?=h.heap[b]?)->(∀b∈r,∃z,h.heap[b]?=some (.cells #[z] TCod (0,0)))->h.heap.size<=p.heap.size->MidQ L M O P w F W (N+1) (.mk .call nm d v (.mk .name nm' I v' n o::ks) ns) sc k g b4 b5 b7 (.string ⟨nm'.toArray⟩) (.int .i64 (k:Int)) (.slice (some ⟨rb,0,none⟩) ks.length ks.length) us ks r h (.returned (fnV t y)) p:=fun m A h p r t y hc B T hz ac=>by have q:=hc.cmp.AQ;have lt:=hc.cmp.le;exact⟨t,y,rfl,⟨(h4.go q).2,(U.go q).2⟩,T,ac,fun w7 b8 ad=>gl2_fin (Cw.pre c hc) B (lt.gl _ _ hg) (U.go q) (h7.go q) (E.AQ q) (fun i u x q1 q2=>(H i u x q1 q2).go q lt) (fun b j=>by rw [T b j];exact hz b j) ad⟩
 rcases hm with⟨rfl,rfl⟩ | ⟨rfl,z,rfl,rfl⟩
 ·refine(K M4 (fun k=>P k\/k∈r) h a.cmp.fw (Stp.refl _ _) a.all).mono (fun e p J=>?_);obtain⟨v0,m,A,rfl,C,B⟩:=J;obtain⟨t,y,rfl⟩:=B.func;refine Q m A h p r t y (a.next C) B (fun b j=>C.row b (.inr j)) (fun b j=>?_) C.AQ.size;obtain⟨z,hz⟩:=hT b j;exact⟨z,(S.row b (.inr j)).trans hz⟩
 ·have R:Ah D (D.alloc (.cells #[z] TCod)) [D.heap.size]:=⟨w9,b_,fun k T=>by
   obtain rfl:=List.mem_singleton.1 T
   exact⟨n_,z,TCod,heap_alloc_new D _,.inl rfl⟩⟩
  obtain⟨f2,s2,ae,_⟩:=R.go a.cmp.fw a.cmp.cr;refine(K _ _ _ f2 s2 ae).mono (fun e p J=>?_);obtain⟨v0,m,A,rfl,C,B⟩:=J;obtain⟨t,y,rfl⟩:=B.func;refine Q m A _ p _ t y (Cw.pre a.cmp (Cw.of R a.cmp.fw a.cmp.cr C)) B (fun b j=>C.row b (.inr j)) (fun b j=>?_) C.AQ.size;obtain rfl:=List.mem_singleton.1 j;exact⟨z,heap_alloc_new D _⟩
theorem Fs.entHand:Enters 221:=enters_of func221 t8 rfl
theorem Fs.entRow:Enters 206:=enters_of func206 t8 rfl
theorem aG7{b1 b2 b3:Nat}{tk:Value}{r:List PF}{sc:List (List AE)}{zt:Nat}(o:Bx M0 w0 b1 (.int .i64 1) TInt)(p:Bx M0 w0 b2 u TCod)(q:Bx M0 w0 b3 tk TTak)(s:CodeOk c M0 w0 F0 u x sc)(t:f.k=.iff\/f.k=.set\/f.k=.define\/f.k=.call)(b:f.ks=x::r)(I:zt<=1+2*OT r)(e:1<=zt)(y:∀a,RT M0 w0 F0 tk ⟨f,[],1,a⟩ sc)(z:∀a,TakeOk c M0 w0 F0 tk ⟨f,[],1,a⟩ sc zt):CodeUp c M0 w0 F0 (fnV 221 #[pt b1,pt b2,pt b3]) f sc:=by
 refine⟨_,_,rfl,Fs.entHand,?_⟩;intro M O w F J L K n W S A l h B C m D E;have G:IU f=1+IU x+OT r:=by obtain⟨k,N,d,v,H,P⟩:=f;have:H=x::r:=b;subst this;rw [OL,ZL];omega
 have g:=aIH (W:=W) m t;have i:=C.next (aGE m) g (fun _=>rfl) x8;exact aK5 (fr:=⟨f,[],1,S.env⟩) (j:=1) (zt:=zt) o p q s (y _) (z _) A l h B i zN5 rfl (by simp [Pl.PS.work,Pl.PS.push,D]) E x8 e x8
theorem aKQ(nm:AE)(d:Pl.A9)(v:PV)(a:List PF)(ns:List AE)(sc:List (List AE))(A:Bx M0 w0 b sl TCds)(m:Sl M0 w0 TCod 1 sl us.length us)(k:BY (fun u x=>RC M0 w0 F0 u x sc) us a)(o:∀(i:Nat)(u:Value)(x:PF),us[i]?=some u->a[i]?=some x->CodeOk c M0 w0 F0 u x sc)(X:1<=a.length)(Y:a.length<=2000):CodeUp c M0 w0 F0 (fnV 206 #[pt b]) (.mk .begin nm d v a ns) sc:=by
 refine⟨_,_,rfl,Fs.entRow,?_⟩;intro M O w F P I K n W S t l h B J C D Q;show Q2 206 #[Q0 c.rb,I,Q0 b] w _;obtain⟨Z,_,f4⟩:=h.cells;have R:=h.bd.2.1;have E:IU (.mk .begin nm d v a ns)=1+OT a:=OL _ _ _ _ _ _;have hn:n<=1010000:=by omega
 have d1:=(A.go t).cell;have n1:=h.ne (A.go t).1;have G:us.length=a.length:=k.1;obtain⟨L,y,N⟩:=h.tick (n+1);have g:=t.trans y;have p:=aMO (W:=W) C rfl;have r:=J.next (aGE C) p (fun _=>rfl) x8
 have T:Hid (Q2 207 #[Q0 c.rb,sl,I] (w.setCell ⟨c.rb,4,none⟩ (.int .i64 ((n+1:Nat):Int))) (Post c M O w F P K (n+1) (2*IU (.mk .begin nm d v a ns)-1))):=by
  refine(p_row (f:=.mk .begin nm d v a ns) (env:=S.env) (sc:=sc) (us:=us) (j:=0) rfl (m.AQ g) (by simpa [Pl.PF.ks] using k.mono (fun _ _ q=>q.go g l)) (fun i u x U V=>(o i u x U (by simpa [Pl.PF.ks] using V)).go g l) x8 x8 (L.up x8) (B.go y (Sg.Le.refl _)) r ⟨?_,?_,?_⟩ zO8).mono (fun e w' s=>s.after y N (Fg.Le.refl _) x8 zO8)
  ·split<;>rfl
  ·split<;>rfl
  ·by_cases z:1<a.length
   ·rw [if_pos (by exact z),if_pos (by simpa [Pl.PF.ks] using z)];simp [Pl.PS.work,Pl.PS.push,D]
   ·rw [if_neg (by exact z),if_neg (by simpa [Pl.PF.ks] using z)];simp [Pl.PS.work,D]
 obtain⟨ho,rfl⟩:=B.ptr;clear h t B J A m k o L y N p r g G E C D Q;go_enter func206,ntmps206;go_wp2_with (go_at_call 207;refine(Calls.mono T ?_);intro e w3 s;obtain⟨v',x',rfl⟩:=s.tup;have H:=(show Hid _ from s);clear s);go_ret2;exact H
end
end Go.Proofs.YtbgghmjmcapmlaaGreatDoor
