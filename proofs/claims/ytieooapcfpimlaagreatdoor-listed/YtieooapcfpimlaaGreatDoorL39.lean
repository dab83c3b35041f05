import Derived.Test.YtieooapcfpimlaaGreatDoorL38
namespace Go.Proofs.YtieooapcfpimlaaGreatDoor
set_option maxHeartbeats 4000000
set_option maxRecDepth 100000
open Go.Proofs.Tryz
open Pl (PW PS PF CW AE Env AO)
section
open Go.RowKit Go.Maps Go.Lib
variable {M O P M':Nat->Prop} {w w2 wy:World} {N j n:Nat} {us:List Value} {l:List Nat}
theorem aJO{c:Cx}{M0:Nat->Prop}{w0:World}{F0:Fg}{b b' kp:Nat}{t:AE}{u:Value}{x y z:PF}{fr:CW}{sc:List (List AE)}(hk:fr.form.k=.call)(hl:fr.form.ks=[x,y,z])(hg:fr.B8=[.AZ t])(hp:fr.pos=2)(ht:AO[kp]?=some t)(ac:kp<12)(i:Bx M0 w0 b u TCod)(hc:Bx M0 w0 b' (.int .i64 (kp:Int)) TPrm)(hu:CodeOk c M0 w0 F0 u z sc):TakeOk c M0 w0 F0 (fnV 221 #[pt b,pt b']) fr sc (1+2*IU z):=by
 refine⟨_,_,rfl,FsentTwo,?_⟩;intro M O w F U hv v K k W S P l h he ha hf hK Q hT;show Calls prog 221 #[.pointer (some ⟨c.rb,0,none⟩),hv,v,.pointer (some ⟨b,0,none⟩),.pointer (some ⟨b',0,none⟩)] w _;obtain⟨kf,ae,rfl,eg,I⟩:=hu;have d1:=(i.go P).cell;have d2:=(hc.go P).cell;have l1:=aB (i.go P).2;have l2:=aB (hc.go P).2;have ai:=h.bd.2.1;have hB:Below w.heap.size w (w.alloc (.cells #[v] B9)):=b_;have R:=Stp.AA (M:=M) hB;have ad:=aIG (W:=W) hf hK hk (by rw [hp,hl];simp);have V:=ha.next (aF8 hK) ad (fun _=>rfl) (by omega);obtain⟨f,E⟩:∃f,f={fr with B8:=fr.B8++[S.val],pos:=fr.pos+1}:=⟨_,rfl⟩
 have X:f.form.k=.call:=by rw [E];exact hk
 have Y:f.form.ks.length=3:=by rw [E];show fr.form.ks.length=3;rw [hl];rfl
 have Z:f.B8=[.AZ t,S.val]:=by rw [E];show fr.B8++[S.val]=_;rw [hg];rfl
 have aa:f.pos=3:=by rw [E];show fr.pos+1=3;rw [hp]
 rw [<- E,hp,hl] at V;have bx:Bx M (w.alloc (.cells #[v] B9)) w.heap.size v B9:=⟨fun x=>by have:=h.fw.CY.mlt _ x;omega,heap_alloc_new w _⟩
 have HC:Hid (Calls prog kf (#[pt c.rb,hv]++ae) (w.alloc (.cells #[v] B9)) (Post c M O (w.alloc (.cells #[v] B9)) F U (f::K) (k+1) (2*IU z))):=I M O _ F U hv (f::K) (k+1) W _ (P.trans R) l ((h.below hB).up (by omega)) (he.go R (Sg.Le.refl _)) V rfl rfl (by omega)
 have HV:Hid (∀q G a j m g,Stp M w q g->(∀b,O b->g.heap[b]?=w.heap[b]?)->Fg.Le F G->c.At a j m->m.ended=false->k+1<=a+1->a+2<=k+1+2*IU z->∀v2 W' S',Pl.step j m=⟨0,W',S'⟩->(c.z<=a->W'.out=j.out)->S'.form=none->S'.AB=f::K->RV G.s v2 S'.val->St c q O g G U (a+1) W'->∀w3,w3=g.setCell ⟨c.rb,4,none⟩ (.int .i64 ((a+1+1:Nat):Int))->Calls prog 196 #[.pointer (some ⟨c.rb,0,none⟩),.int .i64 (kp:Int),.slice (some ⟨g.heap.size,0,none⟩) 2 2] (w3.alloc (.cells #[v,v2] B9)) (Post c M O w F U K (k+1) (1+2*IU z))):=fun q G a j m g n B r C D J L v2 W' S' s A N H r5 r6 w3 af=>by
  subst af;obtain⟨y1,y2,y3⟩:=r6.tick (a+1+1);have ag:(g.setCell ⟨c.rb,4,none⟩ (.int .i64 ((a+1+1:Nat):Int))).heap.size=g.heap.size:=by simp [World.setCell]
  rw [<- ag];refine(aJV (y1.up (by omega)) (C.next D s A (by omega)) N H X Y Z aa ht ac (Q.le r.s) r5).mono ?_;intro e w' hp;exact hp.after (n.trans y2) (fun b i=>(y3 b i).trans (B b i)) r (by omega) (by omega)
 have HP:Hid (∀q G a j m g,Stp M w q g->(∀b,O b->g.heap[b]?=w.heap[b]?)->Fg.Le F G->c.At a j m->m.ended=false->k+1<=a+1->a+2<=k+1+2*IU z->Bx q g w.heap.size v B9->∀Fs S0 fx d,Pl.step j m=Pl.apply j S0 fx d->S0.AB=Fs++f::K->Fs.length<=2*IU z->Pend c q O g G U (a+1) j Fs fx d->Calls prog 198 #[.pointer (some ⟨c.rb,0,none⟩),.nilIface,fnV 222 #[pt b',pt w.heap.size]] g fun e w'=>e=aGG .nilIface .nilIface/\Post c M O w F U K (k+1) (1+2*IU z) (aGG .nilIface .nilIface) w'):=fun q G a j m g n B r C D J L qb Fs S0 fx d s A N H=>by refine(aJW H (fr:=f) (.two b' w.heap.size kp t v S.val f X Y Z aa ht ac (hc.go (P.trans n)) qb (Q.le r.s)) (by omega)).mono ?_;rintro e w' ⟨rfl,M',y1,y2,y3⟩;exact⟨rfl,M',G,a,j,m,n.trans y1,fun b i=>(y2 b i).trans (B b i),r,C,D,by omega,by omega,.pend (Fs++[f]) S0 fx d s (by rw [A];simp) (by simp;omega) y3⟩
 have HN:Hid (∀q G a j m g,Stp M w q g->(∀b,O b->g.heap[b]?=w.heap[b]?)->Fg.Le F G->c.At a j m->m.ended=false->k+1<=a+1->a+2<=k+1+2*IU z->∀e,PoR c q O g G U K a (1+2*IU z) j m e->Post c M O w F U K (k+1) (1+2*IU z) e g):=fun q G a j m g n B r C D J L e qr=>⟨q,G,a,j,m,n,B,r,C,D,by omega,by omega,qr⟩
 have p:Hid (Stp M w M (w.alloc (.cells #[v] B9))/\(∀b,O b->(w.alloc (.cells #[v] B9)).heap[b]?=w.heap[b]?)/\Bx M (w.alloc (.cells #[v] B9)) w.heap.size v B9/\Bx M w b' (.int .i64 (kp:Int)) TPrm):=⟨R,fun b i=>hB.block b (h.fw.olt i),bx,hc.go P⟩
 have aj:∀(d:Array Value)(w:World),(callFunc kf d).run prog w=.ok (.enter kf d) w:=eg;have n4:w.heap.size≠c.rb:=fun e=>by obtain⟨c4,_⟩:=h.cells;have:=World.block_lt_of_cell? _ _ c4;simp only [<- e] at this;omega
 have n2:=h.ne (hc.go P).1;obtain⟨T,uu,rfl⟩:=Q.iface;obtain⟨o,rfl⟩:=he.ptr;clear I h ad V R bx he ha hf hK i hc P l hB eg Q X Y Z aa E;go_enter func221,ntmps221;go_wp2_with (go_at_fn kf;(refine(Calls.mono HC ?_);rintro e g ⟨q,G,a,j,m,n,B,r,C,D,J,L,qr⟩;rcases qr with⟨v2,W',S',s,A,N,H,r5,r6⟩ | ⟨es,y,s,A,N,H⟩ | ⟨es,s,A⟩ | ⟨Fs,S0,fx,d,s,A,N,H⟩<;>refine Hid.out ?_))
 ·have ah:Hid _:=HV.out q G a j m g (p.1.trans n) (fun b i=>(B b i).trans (p.2.1 b i)) r C D J L v2 W' S' s A N H r5 r6 _ rfl;obtain⟨k4,_,g4⟩:=r6.cells;have ak:a<=1010000:=by omega
  have al:=(p.2.2.1.go n).cell;have am:=(p.2.2.2.go (p.1.trans n)).cell;have m3:=aB (p.2.2.1.go n).2;have m4:=aB (p.2.2.2.go (p.1.trans n)).2;have m5:=World.block_lt_of_cell? _ _ k4;obtain⟨T2,y2,rfl⟩:=r5.iface;clear n B r C D J L s A N H r5 r6 HC HV HP HN p;unfold Hid;go_wp2_with (go_at_call 196;refine(Calls.mono ah ?_);intro e w3 hp;obtain⟨v',x',rfl⟩:=hp.tup;have ab:=(show Hid _ from hp);clear hp);go_ret2;exact ab
 ·have HX:Hid _:=HN.out q G a j m g (p.1.trans n) (fun b i=>(B b i).trans (p.2.1 b i)) r C D J L _ (.err es y s A N H);clear n B r C D J L s A N H HC HV HP HN p;unfold Hid;go_wp2_with (go_at_call 198;refine(aGM _ _ _ _ _).mono ?_;rintro e w3 ⟨rfl,rfl⟩);go_ret2;exact HX
 ·have HX:Hid _:=HN.out q G a j m g (p.1.trans n) (fun b i=>(B b i).trans (p.2.1 b i)) r C D J L _ (.spent es s A);clear n B r C D J L s A HC HV HP HN p;unfold Hid;go_wp2_with (go_at_call 198;refine(aGM _ _ _ _ _).mono ?_;rintro e w3 ⟨rfl,rfl⟩);go_ret2;exact HX
 ·have HX:Hid _:=HP.out q G a j m g (p.1.trans n) (fun b i=>(B b i).trans (p.2.1 b i)) r C D J L (p.2.2.1.go n) Fs S0 fx d s A N H;clear n B r C D J L s A N H HC HV HP HN p;unfold Hid;go_wp2_with (go_at_call 198;refine(Calls.mono HX ?_);rintro e w3 ⟨rfl,hp⟩;have ab:=(show Hid _ from hp);clear hp);go_ret2;exact ab
theorem aJN{W:PW}{S:PS}{fr:CW}{K:List CW}(a:S.form=none)(b:S.AB=fr::K)(c:fr.form.k=.begin):Pl.step W S=⟨0,W,(if fr.pos+1<fr.form.ks.length then({S with AB:=K}:PS).push {fr with B8:=[],pos:=fr.pos+1} else({S with AB:=K}:PS)).work fr.form.ks[fr.pos]? fr.env⟩:=by rw [aGY a];simp only [Pl.taken,b,c]
theorem aGL(a:List PF){x:PF}(h:a[j]?=some x):OT (a.drop j)=IU x+OT (a.drop (j+1)):=by
 have b:=(s_ h).1;rw [List.drop_eq_getElem_cons b,ZL]
 congr 2
 exact i_ ((g_ b).symm.trans h)
theorem Sl.get1{T:TypeId}{c:Option Addr}{cap:Nat}(h:Sl M w T 1 (.slice c n cap) us.length us){i:Nat}{u:Value}(d:us[i]?=some u):∃g a,c=some ⟨g,a,none⟩/\g<w.heap.size/\¬M g/\w.cell? ⟨g,a+i,none⟩=some u/\n=us.length/\us.length<=cap:=by
 obtain⟨_,k,f,e,l,m⟩:=h;simp only [Value.slice.injEq] at e;obtain⟨rfl,rfl,rfl⟩:=e;have q:=(s_ d).1;rcases m with r | ⟨g,a,o,rfl,p,j,b⟩
 ·omega
 ·exact⟨g,a,rfl,aB j,p,(aA j _).trans (b i u d),rfl,l⟩
structure RowS(S:PS)(f:PF)(env:Env)(K:List CW)(j:Nat):Prop where
 f1:S.form=f.ks[j]?
 e1:S.env=env
 k1:S.AB=if j+1<f.ks.length then⟨f,[],j+1,env⟩::K else K
structure RowI(c:Cx)(M O:Nat->Prop)(w:World)(F:Fg)(kv hv sl:Value)(K:List CW)(n:Nat)(f:PF)(env:Env)(j i b1 b2:Nat)(wr:World):Prop where
 ex:∃M' G n' W' S',Stp M w M' wr/\(∀b,O b->wr.heap[b]?=w.heap[b]?)/\Fg.Le F G/\St c M' O wr G kv n' W'/\c.At n' W' S'/\RowS S' f env K (j+i)/\n<=n'/\n'+2*OT (f.ks.drop (j+i))<=n+2*OT (f.ks.drop j)/\Bx M' wr b1 sl TCds/\Bx M' wr b2 hv TPlP
theorem RowS.next{S':PS}{W:PW}{f:PF}{env:Env}{K:List CW}(b:f.k=.begin)(c:S'.form=none)(d:S'.AB=⟨f,[],j+1,env⟩::K):∃a,Pl.step W S'=⟨0,W,a⟩/\RowS a f env K (j+1):=by
 refine⟨_,aJN c d b,?_⟩;dsimp only;by_cases h:j+1+1<f.ks.length
 ·rw [if_pos h];exact⟨rfl,rfl,by rw [if_pos h];rfl⟩
 ·rw [if_neg h];exact⟨rfl,rfl,by rw [if_neg h];rfl⟩
theorem p_row{c:Cx}{F:Fg}{kv hv sl:Value}{K:List CW}{W:PW}{S:PS}{f:PF}{env:Env}{sc:List (List AE)}(hk:f.k=.begin)(C:Sl M w TCod 1 sl us.length us)(P:BY (fun u x=>RC M w F u x sc) us (f.ks.drop j))(ad:∀(i:Nat)(u:Value)(x:PF),us[i]?=some u->(f.ks.drop j)[i]?=some x->CodeOk c M w F u x sc)(h1:1<=us.length)(h2:us.length<=2000)(h:St c M O w F kv n W)(he:EnvF M w F.s hv env sc)(ha:c.At n W S)(hS:RowS S f env K j)(hT:n+2*OT (f.ks.drop j)<=c.T) :Calls prog 184 #[.pointer (some ⟨c.rb,0,none⟩),sl,hv] w (Post c M O w F kv K n (2*OT (f.ks.drop j))):=by
 have aq:=h.bd.2.1;have X:us.length=f.ks.length-j:=by rw [P.1];simp
 have Q:Below w.heap.size w ((w.alloc (.cells #[sl] TCds)).alloc (.cells #[hv] TPlP)):=b_.alloc (by simp) _;have hm:=h.fw.CY.mlt;have ae:Bx M ((w.alloc (.cells #[sl] TCds)).alloc (.cells #[hv] TPlP)) w.heap.size sl TCds:=⟨fun x=>by have:=hm _ x;omega,(k_ (by simp)).trans (heap_alloc_new w _)⟩
 have af:Bx M ((w.alloc (.cells #[sl] TCds)).alloc (.cells #[hv] TPlP)) (w.heap.size+1) hv TPlP:=⟨fun x=>by have:=hm _ x;omega,by have:=heap_alloc_new (w.alloc (.cells #[sl] TCds)) (.cells #[hv] TPlP);rwa [show(w.alloc (.cells #[sl] TCds)).heap.size=w.heap.size+1 from by simp] at this⟩
 have aa:Hid (RowI c M O w F kv hv sl K n f env j 0 w.heap.size (w.heap.size+1) ((w.alloc (.cells #[sl] TCds)).alloc (.cells #[hv] TPlP))):=⟨M,F,n,W,S,Stp.AA Q,fun b s=>Q.block b (h.fw.olt s),Fg.Le.refl _,h.below Q,ha,hS,n_,n_,ae,af⟩
 obtain⟨u0,ag⟩:∃u,us[0]?=some u:=⟨_,g_ (by omega)⟩
 obtain⟨ao,d,rfl,am⟩:∃ao d,sl=.slice ao us.length d/\us.length<=d:=by obtain⟨_,ao,d,e,hc,_⟩:=C;exact⟨ao,d,e,hc⟩
 obtain⟨g,m,rfl,ai,ar,_⟩:=C.get1 ag
 have HC:Hid (∀i wr,RowI c M O w F kv hv (.slice (some ⟨g,m,none⟩) us.length d) K n f env j i w.heap.size (w.heap.size+1) wr->i<us.length->∀J,Below wr.heap.size wr J->∃t l,wr.cell? ⟨g,m+i,none⟩=some (fnV t l)/\Enters t/\∃r G L W' S' x,f.ks[j+i]?=some x/\Stp M w r J/\(∀b,O b->J.heap[b]?=w.heap[b]?)/\Fg.Le F G/\St c r O J G kv L W'/\n<=L/\L+2*OT (f.ks.drop (j+i))<=n+2*OT (f.ks.drop j)/\Bx r J w.heap.size (.slice (some ⟨g,m,none⟩) us.length d) TCds/\Bx r J (w.heap.size+1) hv TPlP/\(∀k,r k->k<wr.heap.size)/\Calls prog t (#[pt c.rb,hv]++l) J (Post c r O J G kv (if j+i+1<f.ks.length then⟨f,[],j+i+1,env⟩::K else K) L (2*IU x))):=fun i wr hI hi J hB=>by
  obtain⟨r,G,L,W',S',B,Y,N,R,q5,q6,q7,q8,Z,T⟩:=hI.ex;obtain⟨u,hu⟩:∃u,us[i]?=some u:=⟨_,g_ hi⟩
  obtain⟨x,hx⟩:∃x,(f.ks.drop j)[i]?=some x:=⟨_,g_ (by rw [<- P.1];exact hi)⟩
  have ab:f.ks[j+i]?=some x:=by simpa using hx
  obtain⟨t,l,rfl,eg,hc⟩:=ad i u x hu hx;have v:wr.cell? ⟨g,m+i,none⟩=some (fnV t l):=by obtain⟨g',an,e,_,_,aj,_⟩:=(C.AQ B).get1 hu;simp only [o_,Addr.mk.injEq,and_true] at e;obtain⟨rfl,rfl⟩:=e;exact aj
  have D:=Stp.AA (M:=r) hB;have hd:=aGL f.ks ab;refine⟨t,l,v,eg,r,G,L,W',S',x,ab,B.trans D,fun b s=>(hB.block b (R.fw.olt s)).trans (Y b s),N,R.below hB,q7,q8,Z.go D,T.go D,R.fw.CY.mlt,?_⟩;exact hc r O J G kv hv _ L W' S' (B.trans D) N (R.below hB) (by rw [q6.e1];exact he.go (B.trans D) N.s) q5 (q6.f1.trans ab) q6.k1 (by omega)
 have HE:Hid (∀i wr,RowI c M O w F kv hv (.slice (some ⟨g,m,none⟩) us.length d) K n f env j i w.heap.size (w.heap.size+1) wr->wr.cell? ⟨w.heap.size,0,none⟩=some (.slice (some ⟨g,m,none⟩) us.length d)/\wr.cell? ⟨w.heap.size+1,0,none⟩=some hv/\w.heap.size+1<wr.heap.size/\g<wr.heap.size):=fun i wr hI=>by obtain⟨r,G,L,W',S',B,Y,N,R,q5,q6,q7,q8,Z,T⟩:=hI.ex;exact⟨Z.cell,T.cell,aB T.2,l_ ai B.size⟩
 obtain⟨ho,rfl⟩:=he.ptr;have HL:=h_ X;have HQ:Hid (Sl M w TCod 1 (.slice (some ⟨g,m,none⟩) us.length d) us.length us/\BY (fun u x=>RC M w F u x sc) us (f.ks.drop j)/\EnvF M w F.s (.pointer ho) env sc):=⟨C,P,he⟩
 clear h he ha hS ae af Q hm ag X C P ad;go_enter func184,ntmps184;go_wp2_with fail
 go_loopw [20] (fun iv wr=>∃i:Nat,iv=.int .i64 (i:Int)/\i<=us.length-1/\Hid (RowI c M O w F kv (.pointer ho) (.slice (some ⟨g,m,none⟩) us.length d) K n f env j i w.heap.size (w.heap.size+1) wr)) (fun iv _=>us.length-(RowKit.intOf iv).toNat)
 case atStart=>exact⟨0,rfl,Nat.zero_le _,aa⟩
 case round =>
  obtain⟨i,rfl,hi,HI⟩:=hrel;obtain⟨d1,d2,d3,d4⟩:=HE.out i wr HI;by_cases au:i<us.length-1
  ·have E:Below wr.heap.size wr (wr.alloc (.cells #[.int .i64 (i:Int)] TInt)):=b_;obtain⟨t,l,v,eg,r,G,L,W',S',x,hx,B,Y,N,R,q5,q6,q7,q8,Z,a⟩:=HC.out i wr HI (by omega) _ E;have U:j+i+1<f.ks.length:=by have:=HL.out;omega
   rw [if_pos U] at a;have ah:Bx r (wr.alloc (.cells #[.int .i64 (i:Int)] TInt)) wr.heap.size (.int .i64 (i:Int)) TInt:=⟨fun y=>by have:=Z _ y;omega,heap_alloc_new wr _⟩
   have hd:=aGL f.ks hx
   have ap:1<=OT (f.ks.drop (j+i+1)):=by
    obtain⟨y,hy⟩:∃y,f.ks[j+i+1]?=some y:=⟨_,g_ U⟩
    rw [aGL f.ks hy];have:=aGO y;omega
   have p:Hid (Stp M w r (wr.alloc (.cells #[.int .i64 (i:Int)] TInt))/\(∀b,O b->(wr.alloc (.cells #[.int .i64 (i:Int)] TInt)).heap[b]?=w.heap[b]?)/\Fg.Le F G/\Bx r (wr.alloc (.cells #[.int .i64 (i:Int)] TInt)) w.heap.size (.slice (some ⟨g,m,none⟩) us.length d) TCds/\Bx r (wr.alloc (.cells #[.int .i64 (i:Int)] TInt)) (w.heap.size+1) (.pointer ho) TPlP/\Bx r (wr.alloc (.cells #[.int .i64 (i:Int)] TInt)) wr.heap.size (.int .i64 (i:Int)) TInt):=⟨B,Y,N,q7,q8,ah⟩
   have z:=h_ a;have ak:∀(o:Array Value)(w:World),(callFunc t o).run prog w=.ok (.enter t o) w:=eg;have h0:(0:Int)<=(i:Int):=by omega
   have av:(i:Int)<((us.length-1:Nat):Int):=by omega
   clear a eg B Y N R q7 q8 Z ah E HC HE aa HI;go_wp2_with (go_at_fn t;(refine(Calls.mono z ?_);rintro e w2 ⟨M2,G2,k2,W2,S2,A,y2,y3,y4,y5,y6,y7,qr⟩;rcases qr with⟨v2,W3,S3,H,I,r3,V,r5,r6⟩ | ⟨es,y,H,I,r3,V⟩ | ⟨es,H,I⟩ | ⟨Fs,S0,fx,o,H,I,r3,V⟩<;>refine Hid.out ?_))
   ·have HX:Hid (RowI c M O w F kv (.pointer ho) (.slice (some ⟨g,m,none⟩) us.length d) K n f env j (i+1) w.heap.size (w.heap.size+1) (w2.setCell ⟨c.rb,4,none⟩ (.int .i64 ((k2+1+1:Nat):Int)))):=by
     obtain⟨z1,z2,z3⟩:=r6.tick (k2+1+1);have s2:=p.1.trans (A.trans z2);have a1:=y4.next y5 H I (by omega);obtain⟨S4,b1,b2⟩:=RowS.next (W:=W3) hk r3 V;have a2:=a1.next (aF8 V) b1 (fun _=>rfl) (by omega);exact⟨M2,G2,k2+1+1,W3,S4,s2,fun b s=>(z3 b s).trans ((y2 b s).trans (p.2.1 b s)),p.2.2.1.trans y3,z1.up (by omega),a2,b2,by omega,by rw [show j+(i+1)=j+i+1 from by omega];omega,p.2.2.2.1.go (A.trans z2),p.2.2.2.2.1.go (A.trans z2)⟩
    obtain⟨k4,_,g4⟩:=r6.cells;have aw:k2<=1010000:=by omega
    obtain⟨T2,yy,rfl⟩:=r5.iface;clear A y2 y3 y4 y5 y6 y7 H I r3 V r5 r6 z p HQ HL;unfold Hid;go_wp2_with fail;exact⟨⟨i+1,rfl,by omega,HX⟩,by simp [RowKit.intOf];omega⟩
   ·have HX:Hid (Post c M O w F kv K n (2*OT (f.ks.drop j)) (aGG .nilIface (aY es y)) w2):=⟨M2,G2,k2,W2,S2,p.1.trans A,fun b s=>(y2 b s).trans (p.2.1 b s),p.2.2.1.trans y3,y4,y5,by omega,by omega,.err es y H I r3 V⟩
    clear A y2 y3 y4 y5 y6 y7 H I r3 V z p HQ HL;unfold Hid;go_wp2_with (go_at_call 198;refine(aGM _ _ _ _ _).mono ?_;rintro e w3 ⟨rfl,rfl⟩);go_ret2;exact HX
   ·have HX:Hid (Post c M O w F kv K n (2*OT (f.ks.drop j)) (aGG .nilIface (aY es 7)) w2):=⟨M2,G2,k2,W2,S2,p.1.trans A,fun b s=>(y2 b s).trans (p.2.1 b s),p.2.2.1.trans y3,y4,y5,by omega,by omega,.spent es H I⟩
    clear A y2 y3 y4 y5 y6 y7 H I z p HQ HL;unfold Hid;go_wp2_with (go_at_call 198;refine(aGM _ _ _ _ _).mono ?_;rintro e w3 ⟨rfl,rfl⟩);go_ret2;exact HX
   ·have HX:Hid (Calls prog 198 #[.pointer (some ⟨c.rb,0,none⟩),.nilIface,fnV 200 #[pt w.heap.size,pt wr.heap.size,pt (w.heap.size+1)]] w2 fun e w'=>e=aGG .nilIface .nilIface/\Post c M O w F kv K n (2*OT (f.ks.drop j)) (aGG .nilIface .nilIface) w'):=by
     have s2:=p.1.trans A;have l2:=p.2.2.1.trans y3;obtain⟨a1,a2,a3⟩:=HQ.out;refine(aJW V (fr:=⟨f,[],j+i+1,env⟩) (.row w.heap.size wr.heap.size (w.heap.size+1) i j (.slice (some ⟨g,m,none⟩) us.length d) (.pointer ho) us _ sc hk (p.2.2.2.1.go A) (p.2.2.2.2.2.go A) (p.2.2.2.2.1.go A) (a3.go s2 l2.s) (a1.AQ s2) (a2.mono (fun _ _ q=>q.go s2 l2)) rfl (by omega) h2) (by omega)).mono ?_;rintro e w' ⟨rfl,r,z1,z2,z3⟩;exact⟨rfl,r,G2,k2,W2,S2,s2.trans z1,fun b s=>(z2 b s).trans ((y2 b s).trans (p.2.1 b s)),l2,y4,y5,by omega,by omega,.pend (Fs++[⟨f,[],j+i+1,env⟩]) S0 fx o H (by rw [I];simp) (by simp;omega) z3⟩
    clear A y2 y3 y4 y5 y6 y7 H I r3 V z p HQ HL;unfold Hid;go_wp2_with (go_at_call 198;refine(Calls.mono HX ?_);rintro e w3 ⟨rfl,hp⟩;have ac:=(show Hid _ from hp);clear hp);go_ret2;exact ac
  ·have al:i=us.length-1:=by omega
   have E:Below wr.heap.size wr wr.drew:=r_.drew;obtain⟨t,l,v,eg,r,G,L,W',S',x,hx,B,Y,N,R,q5,q6,q7,q8,Z,a⟩:=HC.out i wr HI (by omega) _ E;have U:¬(j+i+1<f.ks.length):=by have:=HL.out;omega
   rw [if_neg U] at a;have hd:=aGL f.ks hx;have z:Hid (Calls prog t (#[pt c.rb,.pointer ho]++l) wr.drew (Post c M O w F kv K n (2*OT (f.ks.drop j)))):=a.mono (fun e w' hp=>hp.after B Y N (by omega) (by omega));have ak:∀(o:Array Value)(w:World),(callFunc t o).run prog w=.ok (.enter t o) w:=eg;subst al;clear a eg B Y N R q7 q8 Z E HC HE aa HI HQ HL;go_wp2_with fail;go_region_with (go_at_fn t;refine(Calls.mono z ?_);intro e w3 hp;obtain⟨v',x',rfl⟩:=hp.tup;have ac:=(show Hid _ from hp);clear hp)
   all_goals
    go_wp2_with fail
    go_ret2;exact ac
theorem aLP:(prog.info? TCod).map (fun i=>(i.zero,i.size,i.bytes))=some (some .nilFunc,1,8):=by kernel_rfl
theorem aLL(n:Nat)(h:n<=2000):∃e:Array Value,e.size=n/\∀w:World,(Instr.makeSlice 323 (.int .i64 (n:Int)) (.int .i64 (n:Int))).run prog w=.ok (.slice (some ⟨w.heap.size,0,none⟩) n n) (w.alloc (.cells e TCod)):=by obtain⟨g,b,f⟩:=m_ aLP;simp only [Prod.mk.injEq] at f;obtain⟨c,a,d⟩:=f;refine⟨madeCells (Value.nilFunc).cells (n*1),by rw [size_madeCells];omega,fun w=>?_⟩;have:=run_makeSlice (P:=prog) w 323 TCod g .nilFunc underlying323 b c .i64 .i64 (n:Int) (n:Int) (by omega) (by omega) (by rw [a];simp;omega) (by rw [d];simp;omega) (by omega);rw [a] at this;simpa using this
theorem Cw.next{L:Lo}{M2:Nat->Prop}{w3:World}{F G d:Fg}{W:PW}{N2:Nat}(h:Cw L M O P w F W M' w2 G N l wy)(c:Cmp L M' O (fun k=>P k\/k∈l) wy G W M2 w3 d N2):Cw L M O P w F W M2 w3 d N2 l w3 :=⟨⟨h.cmp.AQ.trans c.AQ,h.cmp.le.trans c.le,c.s.trans h.cmp.s,c.fw,fun b e=>(c.oth b e).trans (h.cmp.oth b e),fun k a=>(c.row k (.inl a)).trans (h.cmp.row k a),fun k a=>c.cr k (.inl a)⟩,Stp.refl _ _,fun k a=>c.cr k (.inr a),h.ne⟩
theorem Cw.rebase{L:Lo}{F G:Fg}{W:PW}(h:Cw L M O P w F W M' w2 G N l wy):Cw L M O P w F W M' wy G N l wy:=⟨h.cmp,Stp.refl _ _,h.cr,h.ne⟩
theorem Cw.all{L:Lo}{F G:Fg}{W:PW}(h:Cw L M O P w F W M' w2 G N l wy):∀k,(P k\/k∈l)->Cr M' wy G k:=fun k a=>a.elim (h.cmp.cr k) (h.cr k)
structure CdI(L:Lo)(M O P:Nat->Prop)(w:World)(F:Fg)(W:PW)(ks:List PF)(sc:List (List AE))(N rb i:Nat)(wr:World):Prop where
 ex:∃(M':Nat->Prop)(G:Fg)(Ni:Nat)(cur:Array Value),Cw L M O P w F W M' wr G Ni [rb] wr/\Ni+OT (ks.drop i)<=N+OT ks/\wr.heap[rb]?=some (.cells cur TCod (0,0))/\cur.size=ks.length/\∀(j:Nat)(x:PF),j<i->ks[j]?=some x->∃u,cur[j]?=some u/\RC M' wr G u x sc
def CdsQ(L:Lo)(M O P:Nat->Prop)(w:World)(F:Fg)(W:PW)(ks:List PF)(sc:List (List AE))(N:Nat)(e:Ending)(w':World):Prop:=∃rb M' G us,e=.returned (.slice (some ⟨rb,0,none⟩) ks.length ks.length)/\Cmp L M O P w F W M' w' G N/\rb<w'.heap.size/\Sl M' w' TCod 1 (.slice (some ⟨rb,0,none⟩) ks.length ks.length) us.length us/\us.length=ks.length/\∀(i:Nat)(u:Value)(x:PF),us[i]?=some u->ks[i]?=some x->RC M' w' G u x sc
theorem CdI.done{L:Lo}{wr:World}{F:Fg}{W:PW}{b:List PF}{sc:List (List AE)}{rb:Nat}(h:CdI L M O P w F W b sc N rb b.length wr):CdsQ L M O P w F W b sc (N+OT b) (.returned (.slice (some ⟨rb,0,none⟩) b.length b.length)) wr:=by
 obtain⟨q,G,r,a,k,t,f,d,l⟩:=h.ex;obtain⟨c,s⟩:=k.shut (by simp);have g:a.toList.length=b.length:=by simpa using d
 refine⟨rb,_,G,a.toList,rfl,c.up (by omega),aB f,?_,g,fun i u x m j=>?_⟩
 ·rw [g];refine⟨by simpa using d,_,_,rfl,n_,.inr ⟨rb,0,a,rfl,Ml.not (by simp),f,fun i u n=>by simpa using n⟩⟩
 ·obtain⟨v,o,p⟩:=l i x (s_ j).1 j;have e:a[i]?=some u:=by simpa using m
  rw [o] at e;obtain rfl:=i_ e;exact p.go s (Fg.Le.refl _)
theorem aLA{L:Lo}{F:Fg}{W:PW}(h:FW L M O w F N W)(U:∀k,P k->Cr M w F k){sl av:Value}{d:List PF}(o:Sl M w D8 1 sl us.length us)(B:us.length=d.length)(hx:∀(i:Nat)(u:Value)(x:PF),us[i]?=some u->d[i]?=some x->CP M w F.s u x)(ih:∀(i:Nat)(x:PF),d[i]?=some x->CmpOk L O W x){sc:List (List AE)}(Z:ScR M w F.s av sc)(hl:sc.length+OT d<=1100)(hN:N+OT d<=9000000000000000000)(h5:d.length<=2000) :Calls prog 168 #[.pointer (some ⟨L.sb,0,none⟩),sl,av] w (CdsQ L M O P w F W d sc (N+OT d)):=by
 obtain⟨J,aa,ai⟩:=aLL d.length h5;obtain⟨ao,p,rfl,K⟩:=o.shape;obtain⟨oa,rfl⟩:=Z.ptr;rw [B] at o K ⊢
 have C:Hid (CdI L M O P w F W d sc N w.heap.size 0 (w.alloc (.cells J TCod))):=by
  have V:Below w.heap.size w (w.alloc (.cells J TCod)):=b_;obtain⟨h1,h2⟩:=h.more V (fun k=>k=w.heap.size) (fun k r=>by omega) (fun k r=>by simp;omega);have I:(w.alloc (.cells J TCod)).heap[w.heap.size]?=some (.cells J TCod (0,0)):=heap_alloc_new w _;refine⟨_,F,N,J,⟨⟨h2,Fg.Le.refl _,rfl,h1,fun b I=>V.block b (h.olt I),fun k r=>V.block k (U k r).lt,fun k r=>?_⟩,Stp.refl _ _,fun k r=>?_,fun k r x=>?_⟩,by simp,I,aa,fun j x hj=>by omega⟩
  ·obtain⟨q1,q2,q3⟩:=(U k r).below V;exact⟨.inl q1,q2,q3⟩
  ·obtain rfl:=List.mem_singleton.1 r;refine⟨.inr rfl,⟨_,TCod,I,.inl (.inl rfl)⟩,fun st ab=>?_⟩;obtain⟨us,mv,gv,c,e,e1,e2,_⟩:=(h.sit st ab).ex;have:=aB e1;have:=aB e2;omega
  ·obtain rfl:=List.mem_singleton.1 r;exact Nat.lt_irrefl _ (U _ x).lt
 have HC:Hid (∀i wr,CdI L M O P w F W d sc N w.heap.size i wr->i<d.length->∃g f T y,ao=some ⟨g,f,none⟩/\wr.cell? ⟨g,f+i,none⟩=some (.iface T y)/\Calls prog 160 #[.pointer (some ⟨L.sb,0,none⟩),.iface T y,.pointer oa] wr fun e Q=>∃s t z,e=.returned (.func (.func s) #[] t)/\Q.cell? ⟨w.heap.size,i,none⟩=some z/\Q.frozen? ⟨w.heap.size,i,none⟩=false/\CdI L M O P w F W d sc N w.heap.size (i+1) (Q.setCell ⟨w.heap.size,i,none⟩ (.func (.func s) #[] t))):=fun i wr hI hi=>by
  obtain⟨M',G,Ni,ac,A,aj,I,ad,hu⟩:=hI.ex;obtain⟨x,l⟩:∃x,d[i]?=some x:=⟨_,g_ hi⟩
  obtain⟨u,R⟩:∃u,us[i]?=some u:=⟨_,g_ (by omega)⟩
  have S:Sl M w D8 1 (.slice ao d.length p) us.length us:=by rw [B];exact o
  obtain⟨g,f,e,_,_,m,_⟩:=(S.AQ A.cmp.AQ).get1 R;have hf:=(hx i u x R l).go A.cmp.AQ A.cmp.le.s;obtain⟨T,y,rfl⟩:=hf.iface;have hd:=aGL d l;have ak:=aDP (q_ l);refine⟨g,f,T,y,e,m,?_⟩;refine(ih i x l M' (fun k=>P k\/k∈[w.heap.size]) wr G Ni _ _ sc A.cmp.fw A.all hf (Z.go A.cmp.AQ A.cmp.le.s) (by omega) (by omega)).mono (fun e Q X=>?_);obtain⟨v,M2,G2,rfl,Y,hv⟩:=X;obtain⟨s,t,rfl⟩:=hv.func;have D:=(Y.row w.heap.size (.inr (by simp))).trans I;have E:=(A.next Y).set (b:=w.heap.size) (by simp) i (fnV s t);have ae:=aD D i (fnV s t);obtain⟨z,hz⟩:∃z,ac[i]?=some z:=⟨_,Array.getElem?_eq_getElem (by omega)⟩
  refine⟨s,t,z,rfl,(aA D i).trans hz,aF D i,⟨M2,G2,_,_,E.rebase,by omega,ae,by simpa using ad,fun j x' hj H=>?_⟩⟩;by_cases e:j=i
  ·subst e;rw [l] at H;obtain rfl:=i_ H;exact⟨fnV s t,by rw [Array.getElem?_setIfInBounds_self];simp;omega,hv.go E.AQ (Fg.Le.refl _)⟩
  ·obtain⟨u',q1,q2⟩:=hu j x' (by omega) H;exact⟨u',by rw [Array.getElem?_setIfInBounds_ne (fun q=>e q.symm)];exact q1,(q2.go Y.AQ Y.le).go E.AQ (Fg.Le.refl _)⟩
 have al:∀(a:Addr)(fn:Fn)(first p:Array Value)(w:World),(store a (.func fn first p)).run prog w=stored prog w a (.func fn first p) .plain:=fun _ _ _ _ _=>run_store _ _ _ _ _ rfl;clear h U o B hx ih Z;go_enter func168,ntmps168;go_wp2_with fail
 go_loopw [15,8,9] (fun iv _ _ wr=>∃i:Nat,iv=.int .i64 (i:Int)/\i<=d.length/\Hid (CdI L M O P w F W d sc N w.heap.size i wr)) (fun iv _ _ _=>d.length-(RowKit.intOf iv).toNat)
 case atStart=>exact⟨0,rfl,Nat.zero_le _,C⟩
 case round =>
  obtain⟨i,rfl,hi,HI⟩:=hrel;by_cases af:i<d.length
  ·obtain⟨g,f,T,y,rfl,m,n⟩:=HC.out i wr HI af;have ag:=h_ n;have h0:(0:Int)<=(i:Int):=by omega
   have am:(i:Int)<(d.length:Int):=by omega
   clear n HI HC C;go_wp2_with (go_at_call 160;(refine(Calls.mono ag ?_);rintro e Q ⟨s,t,z,rfl,hz,an,X⟩;have HX:=(show Hid _ from X);clear X));exact⟨⟨i+1,rfl,by omega,HX⟩,by simp [RowKit.intOf];omega⟩
  ·have ah:i=d.length:=by omega
   subst ah;have hn:¬((d.length:Int)<(d.length:Int)):=by omega
   have HX:=h_ HI.done;clear HC C;go_wp2_with fail;go_ret;exact HX
theorem aJ3:∃i,prog.info? TCod=some i/\i.zero=some .nilFunc/\i.size=1/\i.bytes=8:=by obtain⟨i,b,a⟩:=m_ aLP;simp only [Prod.mk.injEq] at a;exact⟨i,b,a.1,a.2.1,a.2.2⟩
theorem p_growC(w:World)(n:Nat)(q:0<n)(y:n<=100000):Calls prog 216 #[.slice none 0 0,.int .i64 (n:Int)] w fun e j=>∃a,n<=a/\e=.returned (.slice (some ⟨w.heap.size,0,none⟩) 0 a)/\Below w.heap.size w j/\j.ownsRow w.heap.size TCod 1 (.slice (some ⟨w.heap.size,0,none⟩) 0 a) 0 []/\w.heap.size<j.heap.size:=by
 obtain⟨k,d,f,l,c⟩:=aJ3;have g:Builtin.nextslicecap n 0*k.bytes<=281474976710656:=by rw [c];exact growslice_fits (by omega) (by omega)
 have h:=run_append_grow_zeros (P:=prog) w 323 3 323 TCod k .nilFunc .i64 .i64 underlying323 underlying3 d f none 0 0 [] (by simpa using run_firstCells_none w.drew k.size 0 0 0) n q (by omega) (by omega) (by omega) (by rw [c];omega) (by simpa using g);simp only [Nat.zero_add] at h;have m:=grownCap_ge w n 0 TCod;have p:grownCap w n 0 TCod<=maxLen:=grownCap_le_maxLen w n 0 TCod (by unfold maxLen;omega);generalize grownCap w n 0 TCod=a at *;have r:Hid (∀b:Array Value,b.size=a->(w.alloc (.cells b TCod)).drew.ownsRow w.heap.size TCod 1 (.slice (some ⟨w.heap.size,0,none⟩) 0 a) 0 []):=fun b s=>World.ownsRow_made w b a n_ p (by rw [Nat.mul_one];exact s);have t:Hid (∀o,Below w.heap.size w (w.alloc o).drew):=fun o=>(r_.alloc n_ o).drew;have u:wrap64 ((n:Int)-0)=(n:Int):=by unfold wrap64;omega
 have v:¬((n:Int)<0):=by omega
 have x:decide ((0:Int)<(n:Int))=true:=by simp;omega
 clear d f l c g;go_enter func216,ntmps216;go_wp2_with (at_builtin;refine dC _ rfl _ _ 323 3 rfl _ rfl _ rfl 323 rfl h ?_);go_ret;refine⟨a,m,rfl,t _,r _ ?_,by simp⟩;have i:(#[Value.nilFunc]:Array Value).size=1:=rfl;simp only [Array.size_append,size_zeroCells,i];omega
def CatC(w:World)(l:List Value)(v:Value)(w':World):Prop:=Below w.heap.size w w'/\w'.ownsRow w.heap.size TCod 1 v l.length l/\∃g cap,v=.slice (some ⟨g,0,none⟩) l.length cap
theorem aK9(w:World)(t J g l:Nat)(vs:List Value)(v:Value)(P:∀(j:Nat)(u:Value),vs[j]?=some u->w.cell? ⟨g,j,none⟩=some u)(L:g<w.heap.size)(f:∀u∈vs,u.oneCell'=true)(hv:v.oneCell'=true)(hl:vs.length<=2000)(Q:w.cell? ⟨t,0,none⟩=some (.slice (some ⟨J,0,none⟩) 1 1))(R:w.cell? ⟨t,1,none⟩=some (.slice (some ⟨g,0,none⟩) vs.length l))(S:w.cell? ⟨J,0,none⟩=some v) :Calls prog 206 #[.slice (some ⟨t,0,none⟩) 2 2] w fun e y=>∃x,e=.returned x/\CatC w (v::vs) x y:=by
 obtain⟨T,z,A,B,C⟩:=aJ3;have U:=h_ P;have V:=h_ f;have q:=World.block_lt_of_cell? _ _ Q;have M:=World.block_lt_of_cell? _ _ S;have ac:wrap64 (1+(vs.length:Int))=1+(vs.length:Int):=by unfold wrap64;omega
 have W:¬(1+(vs.length:Int)<0):=by omega
 have D:((vs.length+1:Nat):Int)=1+(vs.length:Int):=by omega
 have X:Hid (Calls prog 216 #[.slice none 0 0,.int .i64 (1+(vs.length:Int))] w fun e y=>∃l,vs.length+1<=l/\e=.returned (.slice (some ⟨w.heap.size,0,none⟩) 0 l)/\Below w.heap.size w y/\y.ownsRow w.heap.size TCod 1 (.slice (some ⟨w.heap.size,0,none⟩) 0 l) 0 []/\w.heap.size<y.heap.size):=by rw [<- D];exact p_growC w (vs.length+1) (by omega) (by omega)
 clear P f D;go_enter func206,ntmps206;go_wp2_with fail;refine wp_loop_rounds 3 ?_;rw [rounds_succ];go_wp2_with fail;rw [rounds_succ];go_wp2_with fail;rw [rounds_succ];go_wp2_with (go_at_call 216;refine Calls.mono X ?_;rintro e Y ⟨cg,ad,rfl,m,E,ae⟩;have k0:=(m.cell (p:=⟨t,0,none⟩) q).trans Q;have k1:=(m.cell (p:=⟨t,1,none⟩) q).trans R);have F:∀{x:Value} {n:Nat} {xs:List Value} {K:World},Y.ownsRow w.heap.size TCod 1 x n xs->Y.grownBy K x.ownBlock->Below w.heap.size w K:=fun hx L=>m.grown L m.size (fun k N=>(hx.lt k N).1);have HV:=h_ hv;have Z:=(m.cell (p:=⟨J,0,none⟩) M).trans S;refine wp_loop_rounds 3 ?_;clear X;rw [rounds_succ];go_wp2_with (at_builtin;refine wpList_append_own _ rfl _ _ 323 rfl w.heap.size TCod T .nilFunc 1 8 underlying323 z A B C rfl (by decide) _ 0 [] rfl E ⟨J,0,none⟩ 1 1 [v] rfl (by simp) (fun j u G=>(by cases j with | zero=>simp at G;subst G;simpa [Addr.add_lit] using Z | succ j=>simp at G)) (fun u hu=>(by simp at hu;subst hu;exact HV)) (by unfold maxLen;omega) (by omega) m.size ?_;intro v1 K a h _);have o:=F E h;simp only [Nat.zero_add,List.nil_append] at a;have q1:=(o.cell (p:=⟨t,1,none⟩) q).trans R;have r:∀(j:Nat)(u:Value),vs[j]?=some u->K.cell? (Addr.add ⟨g,0,none⟩ j)=some u:=fun j u G=>by have:=(o.cell (p:=⟨g,j,none⟩) L).trans (U j u G);simpa [Addr.add_lit] using this
 have f:=V.out;obtain⟨af,aa,rfl,_⟩:=cJ a;have H:=h_ o;clear h k0 k1 Z U V;rw [rounds_succ];go_wp2_with (at_builtin;refine wpList_append_own _ rfl _ _ 323 rfl w.heap.size TCod T .nilFunc 1 8 underlying323 z A B C rfl (by decide) _ 1 [v] rfl a ⟨g,0,none⟩ vs.length l vs rfl (by simp) r f (by unfold maxLen;omega) (by omega) o.size ?_;intro v2 O d i s);have I:Below w.heap.size w O:=H.grown i H.size (fun k N=>(a.lt k N).1)
 have b:O.ownsRow w.heap.size TCod 1 v2 (v::vs).length (v::vs):=by
  have e:(v::vs).length=1+vs.length:=by simp;omega
  rw [e];simpa using d
 have HX:Hid (CatC w (v::vs) v2 O):=by
  refine⟨I,b,?_⟩;rcases b.2 with⟨_,hz⟩ | ⟨g,c,ag,e,_⟩
  ·simp at hz
  ·exact⟨g,c,e⟩
 obtain⟨ah,ab,rfl,_⟩:=cJ d;clear d i s I b;rw [rounds_succ];go_wp2_with fail;go_ret;exact⟨_,rfl,HX⟩
theorem own_sl{T:TypeId}{v:Value}{b:Nat}{xs:List Value}(h:w.ownsRow b T 1 v n xs)(f:∀k,M k->k<b):Sl M w T 1 v n xs:=by
 refine⟨h.1,?_⟩;rcases h.2 with⟨rfl,rfl⟩ | ⟨g,c,d,rfl,p,j,e,l,m,o⟩
 ·exact⟨none,0,rfl,n_,.inl rfl⟩
 ·refine⟨some ⟨g,0,none⟩,c,rfl,e,.inr ⟨g,0,d,rfl,fun x=>?_,j,fun i u a=>?_⟩⟩
  ·have:=f g x;omega
  ·rw [Nat.zero_add,<-Array.getElem?_toList];rw [<- o] at a;rw [List.getElem?_take] at a;split at a
   ·exact a
   ·cases a
end
end Go.Proofs.YtieooapcfpimlaaGreatDoor
