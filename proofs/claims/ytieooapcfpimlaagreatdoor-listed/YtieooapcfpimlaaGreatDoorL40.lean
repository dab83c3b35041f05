import Derived.Test.YtieooapcfpimlaaGreatDoorL39
namespace Go.Proofs.YtieooapcfpimlaaGreatDoor
set_option maxHeartbeats 6000000
set_option maxRecDepth 100000
open Go.Proofs.Tryz
open Pl (PV PW PS PF CW AE Env AH)
section
open Go.RowKit Go.Maps Go.Lib
variable {w:World} {M O:Nat->Prop} {n cap:Nat} {us ws:List Value} {vv:Value}
theorem aLB(w:World)(v:Value)(n:Nat)(c:List Value)(h:w.ownsRow 0 B9 1 v n c):Calls prog 212 #[v] w fun e d=>∃b,(∃a,v=.slice b n a)/\e=.returned (.slice b n n)/\w=d:=by
 rcases h.2 with⟨rfl,rfl⟩ | ⟨g,a,f,rfl,_,_,j,_⟩
 ·clear h;go_enter func212,ntmps212;go_wp2_with fail;go_ret;exact⟨none,⟨_,rfl⟩,rfl,rfl⟩
 ·clear h;have i:(n:Int)<=(a:Int):=by omega
  go_enter func212,ntmps212
  go_wp2_with fail
  go_ret;exact⟨_,⟨_,rfl⟩,rfl,rfl⟩
theorem aHW{P:Program}{d:Array Oper}{o:Oper}{a:Act}{K:Act->World->Prop}{Q:Exit->Act->World->Prop}{E:Prop}(g:o.guard=none)(i j k:Operand)(p:Array TypeId)
  (r:o.op=.call {callee:=.value i,args:=#[j,k],argTypes:=p}) (f:Nat) (c:Array Value) (l:a.eval i=.func (.func f) #[] c) (s:∀(b:Array Value)(w:World),(callFunc f b).run P w=.ok (.enter f b) w)
  (m n:Value) (t:a.eval j=m) (u:a.eval k=n) {R:Ending->World->Prop} (x:Calls P f (#[m,n]++c) w R) (h:∀e q,R e q->∃v,e=.returned v/\K (a.put o.dst v) q):if Region.wanted o (yielded d a.tmps)=true then Oper.wp P o a w K Q else E :=
 aKB g i #[j,k] p r f c l s #[m,n] (by simp [t,u]) x h
def slLenF:Value->Nat
 | .slice _ n _=>n
 | _=>0
theorem aKU{s:Sg}{a:Option Addr}{ps:List PV}(h:w.ownsRow 0 B9 1 (.slice a ws.length cap) ws.length ws)(f:BY (RV s) ws ps):FD (Mz M (.slice a ws.length cap)) w s (.slice a ws.length ws.length) ps:=by
 refine⟨ws,⟨by simp,a,ws.length,rfl,n_,?_⟩,f⟩;rcases h.2 with⟨_,j⟩ | ⟨g,c,b,e,_,d,l,_,_,m⟩
 ·exact .inl j
 ·right;simp only [Value.slice.injEq] at e;obtain⟨rfl,_,rfl⟩:=e;refine⟨g,0,b,rfl,fun y=>y.2 rfl,d,fun i u k=>?_⟩;have:=h.cells (g:=g) rfl i u k;rw [Addr.add_lit,Nat.zero_add] at this;rw [Nat.zero_add,<-aA d i];exact this
theorem Pend.below{c:Cx}{w':World}{F:Fg}{kv:Value}{W:PW}{b:List CW}{d:PV}{args:List PV}(h:Pend c M O w F kv n W b d args)(a:Below w.heap.size w w'):Pend c M O w' F kv n W b d args:=by obtain⟨e,f,g,i,j,k,l,m,o,p,q,r,s⟩:=h.mc;exact⟨h.fw.below a,⟨e,f,g,i,j,k,l.below a,m.below a,o.mono (fun _ _ x=>x.go (Stp.AA a) (Fg.Le.refl _)),p.belowF a,q,r.mf (Mf.below a),s⟩,h.bd,h.wf⟩
theorem aLY{L:Lo}{F:Fg}{N:Nat}{W:PW}(h:FW L M (Ow O vv) w F N W)(c:w.ownsRow 0 B9 1 vv ws.length ws)(f:∀g,vv.ownBlock=some g->¬O g):ArgsAt M O w F.s vv ws:=by
 rcases c.2 with⟨rfl,d⟩ | ⟨g,a,b,rfl,_,e,j,_,_,n⟩
 ·exact⟨none,0,by rw [d],by omega,.inl d⟩
 ·obtain⟨k,_,l⟩:=h.oth g (.inr rfl);refine⟨some ⟨g,0,none⟩,a,rfl,j,.inr ⟨g,0,b,rfl,k,f g rfl,e,fun i u m=>?_,l⟩⟩;have:=c.cells (g:=g) rfl i u m;rw [Addr.add_lit,Nat.zero_add] at this;rw [Nat.zero_add,<-aA e i];exact this
theorem aIJ{c:Cx}{F:Fg}{kv hv sl tk:Value}{K:List CW}{W:PW}{f:PF}{env:Env}{sc:List (List AE)}{ps a:List PV}{zt:Nat}(hk:f.k=.call)(aj:Sl M w TCod 1 sl us.length us)(ak:BY (fun u x=>RC M w F u x sc) us (f.ks.drop a.length))(aw:∀(i:Nat)(u:Value)(x:PF),us[i]?=some u->(f.ks.drop a.length)[i]?=some x->CodeOk c M w F u x sc)(h2:us.length<=2000)(cd:a.length<=f.ks.length)(ax:RA M w F tk f env sc a)(bn:AllOk c M w F tk env sc a zt)(he:EnvF M w F.s hv env sc)(h:St c M (Ow O vv) w F kv n W)(ho:w.ownsRow 0 B9 1 vv ws.length ws)(hO:∀g,vv.ownBlock=some g->¬O g)(ay:BY (RV F.s) ws ps)(hg:GS c f env K a us.length n W ps)(hz:1<=zt)(hT:n+2*OT (f.ks.drop (a.length+ps.length))+zt<=c.T) :Calls prog 203 #[.pointer (some ⟨c.rb,0,none⟩),sl,hv,vv,tk] w (Post c M O w F kv K n (2*OT (f.ks.drop (a.length+ps.length))+zt)):=by
 obtain⟨q0,ce⟩:∃q0,q0=n+2*OT (f.ks.drop (a.length+ps.length)):=⟨_,rfl⟩
 have cf:=h.bd.2.1;have am:a.length+us.length=f.ks.length:=by have:=ak.1;rw [List.length_drop] at this;omega
 have aa:Below w.heap.size w (((w.alloc (.cells #[sl] TCds)).alloc (.cells #[hv] TPlP)).alloc (.cells #[tk] TTk2)):=(b_.alloc (by simp) _).alloc (by simp;omega) _;have hm:=h.fw.CY.mlt;have az:Bx M (((w.alloc (.cells #[sl] TCds)).alloc (.cells #[hv] TPlP)).alloc (.cells #[tk] TTk2)) w.heap.size sl TCds:=⟨fun x=>by have:=hm _ x;omega,(k_ (by simp;omega)).trans ((k_ (by simp)).trans (heap_alloc_new w _))⟩
 have ba:Bx M (((w.alloc (.cells #[sl] TCds)).alloc (.cells #[hv] TPlP)).alloc (.cells #[tk] TTk2)) (w.heap.size+1) hv TPlP:=⟨fun x=>by have:=hm _ x;omega,(k_ (by simp)).trans (by have:=heap_alloc_new (w.alloc (.cells #[sl] TCds)) (.cells #[hv] TPlP);rwa [show(w.alloc (.cells #[sl] TCds)).heap.size=w.heap.size+1 from by simp] at this)⟩
 have bb:Bx M (((w.alloc (.cells #[sl] TCds)).alloc (.cells #[hv] TPlP)).alloc (.cells #[tk] TTk2)) (w.heap.size+1+1) tk TTk2:=⟨fun x=>by have:=hm _ x;omega,by have:=heap_alloc_new ((w.alloc (.cells #[sl] TCds)).alloc (.cells #[hv] TPlP)) (.cells #[tk] TTk2);rwa [show((w.alloc (.cells #[sl] TCds)).alloc (.cells #[hv] TPlP)).heap.size=w.heap.size+1+1 from by simp] at this⟩
 have aq:Hid (GaI c M O w F kv K n f env a us.length q0 sl hv tk w.heap.size (w.heap.size+1) (w.heap.size+1+1) ws vv (((w.alloc (.cells #[sl] TCds)).alloc (.cells #[hv] TPlP)).alloc (.cells #[tk] TTk2))):=⟨M,F,n,W,ps,Stp.AA aa,fun b D=>aa.block b (h.fw.olt (.inl D)),Fg.Le.refl _,h.below aa,aGK aa ho,hO,ay,hg,n_,by omega,az,ba,bb⟩
 obtain⟨ao,t,rfl,bz⟩:∃ao t,sl=.slice ao us.length t/\us.length<=t:=by obtain⟨_,ao,t,e,hc,_⟩:=aj;exact⟨ao,t,e,hc⟩
 obtain⟨v,rfl⟩:=he.ptr;obtain⟨z,A,rfl,bc,bd⟩:=bn
 have HC:Hid (∀d p wr,GaI c M O w F kv K n f env a us.length q0 (.slice ao us.length t) (.pointer v) (fnV z A) w.heap.size (w.heap.size+1) (w.heap.size+1+1) d p wr->d.length<us.length->∀w1,Below wr.heap.size wr w1->∃kf E g J,ao=some ⟨g,J,none⟩/\g<wr.heap.size/\wr.cell? ⟨g,J+d.length,none⟩=some (fnV kf E)/\Enters kf/\∃H G n' W' j x,f.ks[a.length+j.length]?=some x/\j.length=d.length/\Stp M w H w1/\(∀b,O b->w1.heap[b]?=w.heap[b]?)/\Fg.Le F G/\St c H (Ow O p) w1 G kv n' W'/\w1.ownsRow 0 B9 1 p d.length d/\(∀g,p.ownBlock=some g->¬O g)/\BY (RV G.s) d j/\n<=n'/\n'+2*OT (f.ks.drop (a.length+j.length))<=q0/\Bx H w1 w.heap.size (.slice ao us.length t) TCds/\Bx H w1 (w.heap.size+1) (.pointer v) TPlP/\Bx H w1 (w.heap.size+1+1) (fnV z A) TTk2/\Calls prog kf (#[pt c.rb,.pointer v]++E) w1 (Post c H (Ow O p) w1 G kv (⟨f,a++j,a.length+j.length+1,env⟩::K) n' (2*IU x))):=fun d p wr hI hi w1 hB=>by
  obtain⟨H,G,n',W',j,q1,q2,q3,q4,q5,q6,q7,q8,q9,X,R,T,ab⟩:=hI.ex;have ac:j.length=d.length:=q7.1.symm;obtain⟨u,hu⟩:∃u,us[d.length]?=some u:=⟨_,g_ hi⟩
  obtain⟨x,hx⟩:∃x,(f.ks.drop a.length)[d.length]?=some x:=⟨_,g_ (by rw [<- ak.1];exact hi)⟩
  have ar:f.ks[a.length+j.length]?=some x:=by rw [ac];simpa using hx
  obtain⟨kf,E,rfl,eg,hc⟩:=aw d.length u x hu hx;obtain⟨g,J,e,be,_,ad,_⟩:=(aj.AQ q1).get1 hu;have Y:=Stp.AA (M:=H) hB;have hd:=aGL f.ks ar
  cases q8 with
  | all S fr k hn ha hl=>omega
  | part S ha hl hf bf hK =>refine⟨kf,E,g,J,e,be,ad,eg,H,G,n',W',j,x,ar,ac,q1.trans Y,fun b D=>(hB.block b (q4.fw.olt (.inl D))).trans (q2 b D),q3,q4.below hB,aGK hB q5,q6,q7,q9,X,R.go Y,T.go Y,ab.go Y,?_⟩;exact hc H (Ow O p) w1 G kv (.pointer v) _ n' W' S (q1.trans Y) q3 (q4.below hB) (by rw [bf];exact he.go (q1.trans Y) q3.s) ha (hf.trans ar) hK (by omega)
 have HE:Hid (∀d p wr,GaI c M O w F kv K n f env a us.length q0 (.slice ao us.length t) (.pointer v) (fnV z A) w.heap.size (w.heap.size+1) (w.heap.size+1+1) d p wr->wr.cell? ⟨w.heap.size,0,none⟩=some (.slice ao us.length t)/\wr.cell? ⟨w.heap.size+1,0,none⟩=some (.pointer v)/\wr.cell? ⟨w.heap.size+1+1,0,none⟩=some (fnV z A)/\w.heap.size+1+1<wr.heap.size/\d.length<=us.length/\∃m r,p=.slice m d.length r):=fun d p wr hI=>by obtain⟨H,G,n',W',j,q1,q2,q3,q4,q5,q6,q7,q8,q9,X,R,T,ab⟩:=hI.ex;obtain⟨m,r,e2,_⟩:=cJ q5;have ac:=q7.1;exact⟨R.cell,T.cell,ab.cell,aB ab.2,by cases q8<;>omega,m,r,e2⟩
 have HT:Hid (∀d p wr,GaI c M O w F kv K n f env a us.length q0 (.slice ao us.length t) (.pointer v) (fnV z A) w.heap.size (w.heap.size+1) (w.heap.size+1+1) d p wr->d.length=us.length->Calls prog z (#[pt c.rb,.pointer v,p]++A) wr (Post c M O w F kv K n (2*OT (f.ks.drop (a.length+ps.length))+zt))):=fun d p wr hI hi=>by
  obtain⟨H,G,n',W',j,q1,q2,q3,q4,q5,q6,q7,q8,q9,X,R,T,ab⟩:=hI.ex;have ac:=q7.1
  cases q8 with
  | part S ha hl hf bf hK=>omega
  | all S fr k hn ha hl hf bg hK U bh =>subst hn;refine(bd H O wr G kv (.pointer v) p K fr k W' S d j q1 q3 ⟨q4.fw.less (fun k hk=>.inl hk),q4.mc,q4.bd⟩ (he.go q1 q3.s) ha hf hK (by rw [bg];exact hk) (by rw [bg];exact U) bh (aLY q4.fw q5 q6) q7 (by omega) (by omega)).mono (fun e w' U=>U.after q1 q2 q3 (by omega) (by omega))
 have HL:=h_ am;have HQ:Hid (Sl M w TCod 1 (.slice ao us.length t) us.length us/\BY (fun u x=>RC M w F u x sc) us (f.ks.drop a.length)/\EnvF M w F.s (.pointer v) env sc/\RA M w F (fnV z A) f env sc a):=⟨aj,ak,he,ax⟩
 have ca:∀(B:Array Value)(w:World),(callFunc z B).run prog w=.ok (.enter z B) w:=bc;obtain⟨cg,cb,bi,_⟩:=cJ ho;clear h he az ba bb aa hm am aj ak aw ax bd bc hg ay hO ho;subst bi;go_enter func203,ntmps203;go_wp2_with fail
 go_loopw [3] (fun p wr=>∃d,Hid (GaI c M O w F kv K n f env a us.length q0 (.slice ao us.length t) (.pointer v) (fnV z A) w.heap.size (w.heap.size+1) (w.heap.size+1+1) d p wr)) (fun p _=>us.length-slLenF p)
 case atStart=>exact⟨ws,aq⟩
 case round =>
  obtain⟨d,HI⟩:=hrel;obtain⟨d1,d2,d3,d4,d5,m,r,rfl⟩:=HE.out _ _ _ HI;by_cases bo:d.length<us.length
  ·have bj:Below wr.heap.size wr wr.drew:=r_.drew;obtain⟨kf,E,g,J,rfl,be,ad,eg,H,G,n',W',j,x,hx,ac,q1,q2,q3,q4,q5,q6,q7,q8,q9,X,R,T,ae⟩:=HC.out _ _ _ HI bo _ bj;have hd:=aGL f.ks hx;have af:=h_ ae;have bp:∀(B:Array Value)(w:World),(callFunc kf B).run prog w=.ok (.enter kf B) w:=eg;have h0:(0:Int)<=(d.length:Int):=by omega
   have ch:(d.length:Int)<(us.length:Int):=by omega
   have I:Hid (Stp M w H wr.drew/\(∀b,O b->wr.drew.heap[b]?=w.heap[b]?)/\Fg.Le F G/\wr.drew.ownsRow 0 B9 1 (.slice m d.length r) d.length d/\(∀g,(Value.slice m d.length r).ownBlock=some g->¬O g)/\BY (RV G.s) d j/\Bx H wr.drew w.heap.size (.slice (some ⟨g,J,none⟩) us.length t) TCds/\Bx H wr.drew (w.heap.size+1) (.pointer v) TPlP/\Bx H wr.drew (w.heap.size+1+1) (fnV z A) TTk2):=⟨q1,q2,q3,q5,q6,q7,X,R,T⟩
   clear ae eg q1 q2 q3 q4 q5 q6 q7 X R T bj HC HE aq HI HT;go_wp2_with fail
   go_region_law (refine aHW (by rfl) _ _ _ _ (by rfl) kf E (by rfl) bp _ _ (by rfl) (by rfl) af ?_;intro e C U;obtain⟨v',x',rfl⟩:=U.tup;have al:=(show Hid _ from U);clear U;refine⟨_,rfl,?_⟩)
   all_goals
    obtain⟨M2,G2,k2,W2,S2,y1,y2,y3,y4,y5,y6,y7,qr⟩:=al.out;have s:C.ownsRow 0 B9 1 (.slice m d.length r) d.length d:=aGD I.2.2.2.1 (fun g hg=>y2 g (.inr hg));have s2:=I.1.trans y1;have l2:=I.2.2.1.trans y3;have o2:=fun b (D:O b)=>(y2 b (.inl D)).trans (I.2.1 b D);clear al;generalize L:aGG v' x'=ev at qr;rcases qr with⟨v2,W3,S3,r1,V,r3,r4,r5,r6⟩ | ⟨es,y,r1,V,r3,r4⟩ | ⟨es,r1,V⟩ | ⟨Fs,S0,fx,B,r1,V,r3,r4⟩
    ·simp only [Ending.returned.injEq,Value.tuple.injEq,Array.mk.injEq,List.cons.injEq,and_true] at L;obtain⟨rfl,rfl⟩:=L;obtain⟨z1,z2,z3⟩:=r6.tick (k2+1+1);obtain⟨Q,au⟩:∃Q,Q=C.setCell ⟨c.rb,4,none⟩ (.int .i64 ((k2+1+1:Nat):Int)):=⟨_,rfl⟩
     rw [<- au] at z1 z2 z3;have an:Q.heap.size=C.heap.size:=by rw [au];simp [World.setCell]
     have o:Below Q.heap.size Q (Q.alloc (.cells #[v'] B9)):=b_;have ag:(Q.alloc (.cells #[v'] B9)).ownsRow 0 B9 1 (.slice m d.length r) d.length d:=aGK o (aGD s (fun g hg=>z3 g (.inr hg)));obtain⟨i0,bq,br,bs,bt⟩:=rD;obtain⟨v1,w4,hr,p1,p2,p3⟩:=aH0 (P:=prog) (Q.alloc (.cells #[v'] B9)) 293 293 B9 i0 .nilIface 16 underlying293 bq br bs bt rfl _ d.length d ag ⟨C.heap.size,0,none⟩ v' 1 (by rw [<- an];exact aA (heap_alloc_new Q _) 0) r5.QL (by omega) (by decide);obtain⟨b1,b2,b3,b4⟩:=(z1.below o).ownApp ag p2 p1 p3 I.2.2.2.2.1;obtain⟨ci,cc,bu,_⟩:=cJ p1;have HX:Hid (GaI c M O w F kv K n f env a us.length q0 (.slice (some ⟨g,J,none⟩) us.length t) (.pointer v) (fnV z A) w.heap.size (w.heap.size+1) (w.heap.size+1+1) (d++[v']) v1 w4):=by have s6:=(z2.trans (Stp.AA (M:=M2) o)).trans b2;have a1:=y4.next y5 r1 V (by omega);have gs:=GS.next (l:=us.length) hk HL a1 r3 r4 (by omega) (by omega);exact⟨_,G2,k2+1+1,W3,j++[S3.val],s2.trans s6,fun b D=>(b3 b D).trans ((o.block b (z1.fw.olt (.inl D))).trans ((z3 b (.inl D)).trans (o2 b D))),l2,b1.up (by omega),by simpa using p1,b4,(I.2.2.2.2.2.1.mono (fun _ _ q=>q.le y3.s)).snoc r5,gs,by omega,by simp only [a_,List.length_singleton];rw [show a.length+(j.length+1)=a.length+j.length+1 from by omega];omega,I.2.2.2.2.2.2.1.go (y1.trans s6),I.2.2.2.2.2.2.2.1.go (y1.trans s6),I.2.2.2.2.2.2.2.2.go (y1.trans s6)⟩
     obtain⟨k4,_,g4⟩:=r6.cells;have cj:k2<=1010000:=by omega
     have m5:=World.block_lt_of_cell? _ _ k4;obtain⟨T2,yy,rfl⟩:=r5.iface;subst bu;subst au;clear y1 y2 y3 y4 y5 y6 y7 r1 V r3 r4 r5 r6 af I HQ HL s s2 l2 o2 z1 z2 z3 ag p1 p2 p3 b1 b2 b3 b4 o an;go_wp2_with (at_builtin;refine dC _ rfl _ _ 293 293 rfl _ rfl _ rfl 293 rfl hr ?_);exact⟨⟨_,HX⟩,by simp [slLenF];omega⟩
    ·simp only [Ending.returned.injEq,Value.tuple.injEq,Array.mk.injEq,List.cons.injEq,and_true] at L;obtain⟨rfl,rfl⟩:=L;have ah:=h_ s;have o:Below C.heap.size C (C.alloc (.cells #[.slice m d.length d.length] TVls)):=b_;have HX:Hid (Post c M O w F kv K n (2*OT (f.ks.drop (a.length+ps.length))+zt) (aGG .nilIface (aY es y)) (C.alloc (.cells #[.slice m d.length d.length] TVls))):=⟨M2,G2,k2,W2,S2,s2.trans (Stp.AA o),fun b D=>(o.block b (r4.fw.olt (.inl D))).trans (o2 b D),l2,y4,y5,by omega,by omega,.err es y r1 V r3 ⟨(r4.below o).fw.less (fun k hk=>.inl hk),(r4.below o).mc,r4.bd⟩⟩
     clear y1 y2 y3 y4 y5 y6 y7 r1 V af I HQ HL s s2 l2 o2 o
     go_wp2_with (first
      | (go_at_call 212;refine(aLB _ _ _ _ ah).mono ?_;rintro e Q ⟨bk,⟨ap,N⟩,rfl,rfl⟩;simp only [Value.slice.injEq,true_and] at N;obtain⟨rfl,rfl⟩:=N)
      | (go_at_call 198;refine(aGM _ _ _ _ _).mono ?_;rintro e Q ⟨rfl,rfl⟩))
     go_ret2;exact HX
    ·simp only [Ending.returned.injEq,Value.tuple.injEq,Array.mk.injEq,List.cons.injEq,and_true] at L;obtain⟨rfl,rfl⟩:=L;have ah:=h_ s;have o:Below C.heap.size C (C.alloc (.cells #[.slice m d.length d.length] TVls)):=b_;have HX:Hid (Post c M O w F kv K n (2*OT (f.ks.drop (a.length+ps.length))+zt) (aGG .nilIface (aY es 7)) (C.alloc (.cells #[.slice m d.length d.length] TVls))):=⟨M2,G2,k2,W2,S2,s2.trans (Stp.AA o),fun b D=>(o.block b (V.fw.olt (.inl D))).trans (o2 b D),l2,y4,y5,by omega,by omega,.spent es r1 ⟨(V.below o).fw.less (fun k hk=>.inl hk),(V.below o).mc,V.bd⟩⟩
     clear y1 y2 y3 y4 y5 y6 y7 r1 V af I HQ HL s s2 l2 o2 o
     go_wp2_with (first
      | (go_at_call 212;refine(aLB _ _ _ _ ah).mono ?_;rintro e Q ⟨bk,⟨ap,N⟩,rfl,rfl⟩;simp only [Value.slice.injEq,true_and] at N;obtain⟨rfl,rfl⟩:=N)
      | (go_at_call 198;refine(aGM _ _ _ _ _).mono ?_;rintro e Q ⟨rfl,rfl⟩))
     go_ret2;exact HX
    ·simp only [Ending.returned.injEq,Value.tuple.injEq,Array.mk.injEq,List.cons.injEq,and_true] at L;obtain⟨rfl,rfl⟩:=L;have av:=r4.freeze s I.2.2.2.2.1;have ai:=Stp.freeze M2 (.slice m d.length r) C;have bl:FD (Mz M2 (.slice m d.length r)) C G2.s (.slice m d.length d.length) j:=aKU s (I.2.2.2.2.2.1.mono (fun _ _ q=>q.le y3.s));have o:Below C.heap.size C (C.alloc (.cells #[.slice m d.length d.length] TVls)):=b_;have Z:=Stp.AA (M:=Mz M2 (.slice m d.length r)) o
     have HX:Hid (Calls prog 198 #[.pointer (some ⟨c.rb,0,none⟩),.nilIface,fnV 213 #[pt w.heap.size,pt (w.heap.size+1),pt C.heap.size,pt (w.heap.size+1+1)]] (C.alloc (.cells #[.slice m d.length d.length] TVls)) fun e w'=>e=aGG .nilIface .nilIface/\Post c M O w F kv K n (2*OT (f.ks.drop (a.length+ps.length))+zt) (aGG .nilIface .nilIface) w'):=by
      obtain⟨a1,a2,a3,a4⟩:=HQ.out;have s6:=(s2.trans ai).trans Z;have bv:Bx (Mz M2 (.slice m d.length r)) (C.alloc (.cells #[.slice m d.length d.length] TVls)) C.heap.size (.slice m d.length d.length) TVls:=⟨fun y=>by have:=r4.fw.CY.mlt _ y.1;omega,heap_alloc_new C _⟩
      refine(aJW (av.below o) (fr:=⟨f,a++j,a.length+j.length+1,env⟩) (.gath w.heap.size (w.heap.size+1) C.heap.size (w.heap.size+1+1) (.slice (some ⟨g,J,none⟩) us.length t) (.pointer v) (.slice m d.length d.length) (fnV z A) us j a _ sc hk ((I.2.2.2.2.2.2.1.go (y1.trans ai)).go Z) ((I.2.2.2.2.2.2.2.1.go (y1.trans ai)).go Z) bv ((I.2.2.2.2.2.2.2.2.go (y1.trans ai)).go Z) (a3.go s6 l2.s) (a1.AQ s6) (a2.mono (fun _ _ q=>q.go s6 l2)) (bl.go Z (Sg.Le.refl _)) ⟨_,_,rfl⟩ (a4.go s6 l2) rfl rfl (by omega) h2) (by omega)).mono ?_;rintro e w' ⟨rfl,H,z1,z2,z3⟩;exact⟨rfl,H,G2,k2,W2,S2,s6.trans z1,fun b D=>(z2 b D).trans ((o.block b (av.fw.olt D)).trans (o2 b D)),l2,y4,y5,by omega,by omega,.pend (Fs++[⟨f,a++j,a.length+j.length+1,env⟩]) S0 fx B r1 (by rw [V];simp) (by simp;omega) z3⟩
     have ah:=h_ s;clear y1 y2 y3 y4 y5 y6 y7 r1 V r3 r4 af I HQ HL s s2 l2 o2 av ai bl o Z
     go_wp2_with (first
      | (go_at_call 212;refine(aLB _ _ _ _ ah).mono ?_;rintro e Q ⟨bk,⟨ap,N⟩,rfl,rfl⟩;simp only [Value.slice.injEq,true_and] at N;obtain⟨rfl,rfl⟩:=N)
      | (go_at_call 198;refine(Calls.mono HX ?_);rintro e Q ⟨rfl,U⟩;have bw:=(show Hid _ from U);clear U))
     go_ret2;exact bw
  ·have bm:d.length=us.length:=by omega
   have bx:Hid (Calls prog z (#[pt c.rb,.pointer v,.slice m d.length r]++A) wr (Post c M O w F kv K n (2*OT (f.ks.drop (a.length+ps.length))+zt))):=HT.out _ _ _ HI bm;have ck:¬((d.length:Int)<(us.length:Int)):=by omega
   clear HC HE aq HI HQ HL HT bm;go_wp2_with (go_at_fn z;refine(Calls.mono bx ?_);intro e Q U;obtain⟨v',x',rfl⟩:=U.tup;have al:=(show Hid _ from U);clear U);go_ret2;exact al
theorem aGJ{P:Program}{d:Array Oper}{o:Oper}{a:Act}{K:Act->World->Prop}{Q:Exit->Act->World->Prop}{E:Prop}(g:o.guard=none)(f:FuncId)(i j k:Operand)(q:Array TypeId)
  (s:o.op=.call {callee:=.value (.func f),args:=#[i,j,k],argTypes:=q}) {l:Func} {c:Code} (t:P.funcs[f]?=some l) (b:(l.name == "runtime.NumGoroutine")=false) (u:l.body=some c)
  (m n p:Value) (x:a.eval i=m) (y:a.eval j=n) (z:a.eval k=p) {R:Ending->World->Prop} (A:Calls P f #[m,n,p] w R) (h:∀e r,R e r->∃v,e=.returned v/\K (a.put o.dst v) r):if Region.wanted o (yielded d a.tmps)=true then Oper.wp P o a w K Q else E :=
 tP g f #[i,j,k] q s t b u #[m,n,p] (by simp [x,y,z]) A h
theorem Fs.entAny1:Enters 207:=enters_of func207 (by kernel_rfl) rfl
theorem ArgsAt.tail{s:Sg}{l:Option Addr}{u:Value}(h:ArgsAt M O w s (.slice l n cap) (u::us)):∃g a,l=some ⟨g,a,none⟩/\n=us.length+1/\us.length+1<=cap/\w.cell? ⟨g,a,none⟩=some u/\g<w.heap.size/\∀(b:Option Addr)(m c:Nat),m=us.length->m<=c->(m≠0->b=some ⟨g,a+1,none⟩)->ArgsAt M O w s (.slice b m c) us:=by
 obtain⟨r,o,e,t,d⟩:=h;simp only [Value.slice.injEq] at e;obtain⟨rfl,rfl,rfl⟩:=e;rcases d with d | ⟨g,a,f,rfl,v,y,j,p,z⟩
 ·simp at d
 ·refine⟨g,a,rfl,by simp,by simpa using t,(aA j a).trans (p 0 u rfl),aB j,fun b m c A k B=>?_⟩;subst A;refine⟨b,c,rfl,k,?_⟩;by_cases q:us.length=0
  ·exact .inl q
  ·refine .inr ⟨g,a+1,f,B q,v,y,j,fun i x C=>?_,z⟩;rw [show a+1+i=a+(i+1) from by omega];exact p (i+1) x (by simpa using C)
theorem ArgsAt.drew{s:Sg}{v:Value}(h:ArgsAt M O w s v us):ArgsAt M O w.drew s v us:=h
theorem aL1{c:Cx}{M0:Nat->Prop}{w0:World}{F0:Fg}(env:Env)(sc:List (List AE)):AllOk c M0 w0 F0 (fnV 207 #[]) env sc [] 1:=by
 refine⟨_,_,rfl,Fs.entAny1,?_⟩;intro M O w F kv G U K fr k W S d V hs l h X A H B Y o C I f p hT;show Calls prog 207 #[.pointer (some ⟨c.rb,0,none⟩),G,U] w _
 obtain⟨r,a,rfl⟩:∃r a,V=r::a:=by
  cases V with
  | nil=>have:=congrArg List.length C;simp at this
  | cons r a=>exact⟨r,a,rfl⟩
 obtain⟨u,d,rfl⟩:∃u J,d=u::J:=by
  cases d with
  | nil=>have:=f.1;simp at this
  | cons u d=>exact⟨u,d,rfl⟩
 have t:=aHT (W:=W) H B Y o C
 have y:∀v∈r::a,BL W v:=fun v G=>by
  have:v∈fr.B8++[S.val]:=by rw [C];exact G
  rcases List.mem_append.1 this with q | q
  ·exact A.B8 B Y v q
  ·rw [List.mem_singleton.1 q];exact A.val H
 have L:RV F.s u r:=f.2 0 u r rfl rfl;have s:BY (RV F.s) d a:=by simpa using f.drop 1
 have N:Below w.heap.size w w.drew:=r_.drew;obtain⟨D,n,i,rfl⟩:∃D n i,U=.slice D n i:=by obtain⟨D,i,e,_⟩:=I;exact⟨D,_,i,e⟩
 obtain⟨g,P,rfl,rfl,hc,Q,aa,z⟩:=I.tail;have HP:Hid (∀j m E,m=d.length->m<=E->(m≠0->j=some ⟨g,P+1,none⟩)->Calls prog 208 #[.pointer (some ⟨c.rb,0,none⟩),u,.slice j m E] w.drew (Post c M O w F kv K (k+1) 1)):=fun j m E h1 h2 h3=>(aMT (h.below N) A (aF8 B) t rfl L (z j m E h1 h2 h3).drew s y (by have:=s.1;simp at p;omega)).mono (fun e w' o=>o.after (Stp.AA N) (fun b _=>rfl) (Fg.Le.refl _) n_ n_);obtain⟨T,x,rfl⟩:=L.iface;obtain⟨ho,rfl⟩:=X.ptr;have Z:d.length<=2000:=by simp at p;omega
 have ab:(1:Int)<=(d.length:Int)+1:=by omega
 clear h X A I f t y L s N hs l z H B C hT p;go_enter func207,ntmps207;go_wp2_with fail
 go_region_law (refine aGJ (by rfl) 208 _ _ _ _ (by rfl) func208 (by kernel_rfl) rfl _ _ _ (by rfl) (by rfl) (by rfl) (HP _ _ _ (by first | rfl | omega) (by omega) (by intro q;first | rfl | (rw [if_neg (by omega)]))) ?_;intro e w3 o;obtain⟨v',x',rfl⟩:=o.tup;have R:=(show Hid _ from o);clear o;refine⟨_,rfl,?_⟩)
 all_goals go_wp2_with fail
 all_goals
  go_ret2;exact R
theorem FW.enter{L:Lo}{F:Fg}{N:Nat}{W:PW}(h:FW L M O w F N W){args:List PV}(ha:ArgsAt M O w F.s vv us)(Z:BY (RV F.s) us args) :∃G,Fg.Le F G/\FW L M O w G N {W with places:=W.places++args}/\∃E z,vv=.slice E args.length z/\args.length<=z/\∀i,i<args.length->∃g a,E=some ⟨g,a,none⟩/\G.s.lp[W.places.length+i]?=some (some (g,a+i)):=by
 obtain⟨E,z,rfl,hc,h3⟩:=ha;have hl:=Z.1
 obtain⟨A,B,r,K⟩:∃A:List (Option (Nat×Nat)),A.length=args.length/\(∀i,i<args.length->∃g a d,E=some ⟨g,a,none⟩/\A[i]?=some (some (g,a+i))/\M g/\¬O g/\w.heap[g]?=some (.cells d B9 (0,0))/\(∀(i:Nat)(u:Value),us[i]?=some u->d[a+i]?=some u)/\∀i o:Nat,F.s.lp[i]? ≠ some (some (g,o)))/\∀(i j:Nat)(x:Nat×Nat),A[i]?=some (some x)->A[j]?=some (some x)->i=j:=by
  rcases h3 with h3 | ⟨g,a,d,rfl,h4,h5,h6,h7,h8⟩
  ·refine⟨[],by simp;omega,fun i f=>by omega,fun i j x f=>by simp at f⟩
  ·refine⟨(List.range args.length).map (fun i=>some (g,a+i)),by simp,fun i f=>⟨g,a,d,rfl,by simp [f],h4,h5,h6,h7,h8⟩,fun i j x f I=>?_⟩;obtain⟨aa,P⟩:=s_ f;obtain⟨ab,Q⟩:=s_ I;have:=P.trans Q.symm;simp only [List.getElem_map,List.getElem_range,o_,Prod.mk.injEq] at this;omega
 have l:Fg.Le F {F with s:={F.s with lp:=F.s.lp++A},pr:=F.pr++[]}:=Fg.le_s ⟨rfl,rfl,List.prefix_refl _,List.prefix_refl _,List.prefix_refl _,List.prefix_append _ _,List.prefix_refl _⟩
 have m:∀{i:Nat} {x:Option (Nat×Nat)},(F.s.lp++A)[i]?=some x->F.s.lp[i]?=some x\/(W.places.length<=i/\A[i-W.places.length]?=some x):=fun {i} {x} D=>by
  rw [<- h.places.len];rcases Nat.lt_or_ge i F.s.lp.length with f | f
  ·rw [List.getElem?_append_left f] at D;exact .inl D
  ·rw [List.getElem?_append_right f] at D;exact .inr ⟨f,D⟩
 refine⟨_,l,h.re l rfl rfl rfl rfl (h.CY.leS l.s rfl rfl) rfl (fun i p J=>?_) h.pql h.pqi (fun i b q R S T=>(h.pqa i b q R S T).go (Stp.refl _ _) l) (h.AG.mono (fun b x D=>D.go (Stp.refl _ _) l)) ⟨by simp [h.places.len,B],fun i j x f I=>?_,fun i g o p f J=>?_⟩ (fun k hk=>?_) (by simp [h.pr]),E,z,by rw [hl],by omega,fun i f=>?_⟩
 ·have:=(s_ J).1;show(W.places++args)[i]?=some p;rw [List.getElem?_append_left this];exact J
 ·rcases m f with t | ⟨t,c⟩
  ·rcases m I with H | ⟨H,n⟩
   ·exact h.places.inj i j x t H
   ·obtain⟨g,a,d,_,C,_,_,_,_,U⟩:=r (j-W.places.length) (by rw [<- B];exact(s_ n).1);rw [C] at n;simp only [o_] at n;subst n;exact absurd t (U i _)
  ·rcases m I with H | ⟨H,n⟩
   ·obtain⟨g,a,d,_,C,_,_,_,_,U⟩:=r (i-W.places.length) (by rw [<- B];exact(s_ c).1);rw [C] at c;simp only [o_] at c;subst c;exact absurd H (U j _)
   ·have:=K _ _ x c n;omega
 ·have y:(W.places++args)[i]?=some p:=J;rcases m f with t | ⟨t,c⟩
  ·have V:=(s_ t).1;rw [List.getElem?_append_left (by rw [<- h.places.len];exact V)] at y;obtain⟨k1,d,v,k2,k3,k4⟩:=h.places.at_ i g o p t y;exact⟨k1,d,v,k2,k3,k4.le l.s⟩
  ·rw [List.getElem?_append_right t] at y;have X:=(s_ y).1;obtain⟨g',a,d,_,C,e3,_,e5,e6,_⟩:=r (i-W.places.length) X;rw [C] at c;simp only [o_,Prod.mk.injEq] at c;obtain⟨rfl,rfl⟩:=c;obtain⟨u,hu,Y⟩:=Z.at_ y;exact⟨e3,d,u,e5,e6 _ u hu,Y.le l.s⟩
 ·obtain⟨R,S,T⟩:=h.oth k hk;refine⟨R,S,fun i o e=>?_⟩;rcases m e with t | ⟨t,c⟩
  ·exact T i o t
  ·obtain⟨g',a,d,_,C,_,e4,_⟩:=r (i-W.places.length) (by rw [<- B];exact(s_ c).1);rw [C] at c;simp only [o_,Prod.mk.injEq] at c;obtain⟨rfl,_⟩:=c;exact e4 hk
 ·obtain⟨g,a,d,e1,C,_⟩:=r i f;refine⟨g,a,e1,?_⟩;show(F.s.lp++A)[W.places.length+i]?=_;rw [<- h.places.len,List.getElem?_append_right (by omega)];rw [show F.s.lp.length+i-F.s.lp.length=i from by omega];exact C
theorem Tryz.fp_nil(w:World):(Instr.typeAssert .nilIface 88 86 true).run prog w=.ok (.tuple #[.int .i64 0,.bool false]) w:=by kernel_rfl
theorem Sl.one{T:TypeId}{c:Option Addr}(h:Sl M w T 1 (.slice c n cap) us.length us){i:Nat}{u:Value}(d:us[i]?=some u):∃g a,c=some ⟨g,a,none⟩/\g<w.heap.size/\w.cell? ⟨g,a+i,none⟩=some u:=by
 obtain⟨_,k,f,e,o,l⟩:=h;simp only [Value.slice.injEq] at e;obtain⟨rfl,rfl,rfl⟩:=e;have p:=(s_ d).1;rcases l with q | ⟨g,a,m,rfl,r,j,b⟩
 ·omega
 ·exact⟨g,a,rfl,aB j,(aA j _).trans (b i u d)⟩
def KnQ(w:World)(us:List Value)(ot gv:Value)(e:Ending)(w':World):Prop:=∃mv,e=.returned mv/\(∃k c,mv=fnV k c)/\Below w.heap.size w w'/\∀M:Nat->Prop,(∀k,M k->k<w.heap.size)->MadeV M w' us ot gv mv
theorem aHS(w:World)(a:Value)(us:List Value)(ko:Nat)(co:Array Value)(d:Option Addr)(n c:Nat)(e:∀w,(Instr.typeAssert a 88 86 true).run prog w=.ok (.tuple #[.int .i64 0,.bool false]) w)(b:∀x,a≠.iface TPrm x) :Calls prog 204 #[a,.slice d n c,fnV ko co] w (KnQ w us (fnV ko co) a):=by
 have f:Hid (KnQ w us (fnV ko co) a (.returned (fnV ko co)) w):=⟨_,rfl,⟨_,_,rfl⟩,r_,fun M g=>.inr ⟨b,rfl⟩⟩
 clear b;go_enter func204,ntmps204;go_wp2_with fail;go_ret;exact f
theorem aLO(J:Nat->Prop)(w:World)(b:Nat)(us:List Value)(ko:Nat)(co:Array Value)(F:Option Addr)(o:Nat)(a:Sl J w TCod 1 (.slice F us.length o) us.length us)(d:∀u∈us,∃k c,u=fnV k c)(n:us.length<=2000) :Calls prog 204 #[.iface TPrm (.int .i64 (b:Int)),.slice F us.length o,fnV ko co] w (KnQ w us (fnV ko co) (.iface TPrm (.int .i64 (b:Int)))):=by
 have Q:=Tryz.vp_p;unfold TPrm
 match us,a,d,n with
 | [],a,d,n =>
  have t:Hid (KnQ w [] (fnV ko co) (.iface TPrm (.int .i64 (b:Int))) (.returned (fnV ko co)) w):=⟨_,rfl,⟨_,_,rfl⟩,r_,fun M f=>.inl ⟨b,rfl,rfl⟩⟩
  clear a d;go_enter func204,ntmps204;go_wp2_with fail;go_ret;exact t
 | [u],a,d,n =>obtain⟨h,j,rfl⟩:=d u (by simp);obtain⟨g,y,rfl,K,z⟩:=a.one (i:=0) rfl;rw [Nat.add_zero] at z;have A:Hid (Calls prog 214 #[.int .i64 (b:Int),fnV h j] w (KnQ w [fnV h j] (fnV ko co) (.iface TPrm (.int .i64 (b:Int))))):=(aLD w b h j).mono (fun e L ⟨p,r,s,B,C⟩=>⟨p,r,s,B,fun M f=>.inl ⟨b,rfl,C M f⟩⟩);clear a d;go_enter func204,ntmps204;go_wp2_with (go_at_call 214;refine(Calls.mono A ?_);rintro e N ⟨p,rfl,q⟩;have l:=(show Hid _ from q);clear q);go_ret;exact⟨_,rfl,l⟩
 | [u,v],a,d,n =>
  obtain⟨h,j,rfl⟩:=d u (by simp);obtain⟨D,E,rfl⟩:=d v (by simp);obtain⟨g,y,rfl,K,z⟩:=a.one (i:=0) rfl;rw [Nat.add_zero] at z;obtain⟨R,G,H,_,O⟩:=a.one (i:=1) rfl;simp only [o_,Addr.mk.injEq,and_true] at H;obtain⟨rfl,rfl⟩:=H;have I:Below w.heap.size w w.drew:=r_.drew;have A:Hid (Calls prog 215 #[.int .i64 (b:Int),fnV h j,fnV D E] w.drew (KnQ w [fnV h j,fnV D E] (fnV ko co) (.iface TPrm (.int .i64 (b:Int))))):=(aLC w.drew b h D j E).mono (fun e L ⟨p,r,s,B,C⟩=>⟨p,r,s,I.trans B,fun M f=>.inl ⟨b,rfl,C M f⟩⟩);clear a d I;go_enter func204,ntmps204;go_wp2_with fail
  go_region_law (refine aGJ (by rfl) 215 _ _ _ _ (by rfl) func215 (by kernel_rfl) rfl _ _ _ (by rfl) (by rfl) (by rfl) A ?_;rintro e N ⟨p,rfl,q⟩;have l:=(show Hid _ from q);clear q;refine⟨_,rfl,?_⟩)
  all_goals
   go_wp2_with fail
   go_ret;exact⟨_,rfl,l⟩
 | u::v::x::us,a,d,n =>
  have t:Hid (KnQ w (u::v::x::us) (fnV ko co) (.iface TPrm (.int .i64 (b:Int))) (.returned (fnV ko co)) w):=⟨_,rfl,⟨_,_,rfl⟩,r_,fun M f=>.inl ⟨b,rfl,rfl⟩⟩
  obtain⟨m,f⟩:∃m,m=(u::v::x::us).length:=⟨_,rfl⟩
  have P:3<=m:=by rw [f];simp
  rw [<- f] at n ⊢;have r:¬((m:Int)=1):=by omega
  have s:¬((m:Int)=2):=by omega
  clear a d f;go_enter func204,ntmps204;go_wp2_with fail;go_ret;exact t
theorem Fs.entLam1:Enters 201:=enters_of func201 (by kernel_rfl) rfl
theorem ap_proc{W:PW}{a:PS}{q:PF×Env}(h:W.procs[n]?=some q)(args:List PV):Pl.apply W a (.proc n) args=if args.length≠q.1.ns.length then⟨10,W,a⟩ else⟨0,{W with places:=W.places++args},a.work q.1.ks[0]? (q.2++Pl.C1 q.1.ns W.places.length)⟩:=by unfold Pl.apply;rw [if_neg (by simp)];unfold AH;simp only [h]
theorem aL0{c:Cx}{M0:Nat->Prop}{w0:World}{F0:Fg}{b3 b4:Nat}{u0:Value}{x:PF}{D:AE}{d':Pl.A9}{v':PV}{a:List AE}{env:Env}{sc:List (List AE)}(t:Bx M0 w0 b3 (.int .i64 (a.length:Int)) TInt)(o:Bx M0 w0 b4 u0 TCod)(aa:a.Nodup)(h0:CodeOk c M0 w0 F0 u0 x (a::sc))(hn:F0.pr[n]?=some (.mk .lambda D d' v' [x] a,env))(ag:a.length<=2000):AllOk c M0 w0 F0 (fnV 201 #[pt b3,pt b4]) env sc [.proc n] (1+2*IU x):=by
 refine⟨_,_,rfl,Fs.entLam1,?_⟩;intro M O w F kv E H K fr k W S u I A l h J ha hf L hk p hg hA q N hT;show Calls prog 201 #[.pointer (some ⟨c.rb,0,none⟩),E,H,.pointer (some ⟨b3,0,none⟩),.pointer (some ⟨b4,0,none⟩)] w _;obtain⟨kf,P,rfl,eg,f⟩:=h0;have d3:=(t.go A).cell;have d4:=(o.go A).cell;have l4:=aB (o.go A).2;have d:=aHT (W:=W) (g:=.proc n) (args:=I) hf L hk p hg;have v:W.procs[n]?=some (.mk .lambda D d' v' [x] a,env):=by rw [<- h.fw.pr];exact bS l.pr hn
 rw [ap_proc v] at d;have hl:=q.1;obtain⟨B,j,Q,r⟩:∃B j,H=.slice B u.length j/\u.length<=j:=by obtain⟨B,j,e,hc,_⟩:=hA;exact⟨B,j,e,hc⟩
 have R:Hid (Calls prog 195 #[.string ⟨#[97,32,112,114,111,99,101,100,117,114,101]⟩,.int .i64 (a.length:Int),.slice B u.length j] w fun e w'=>w=w'/\((u.length=a.length/\e=.returned .nilIface)\/(u.length≠a.length/\∃C,e=.returned (aY C 10)))):=gR _ a.length B u.length j w (by omega) (by decide);have ah:∀(s:Array Value)(w:World),(callFunc kf s).run prog w=.ok (.enter kf s) w:=eg;by_cases m:u.length=a.length
 ·have hB:Below w.heap.size w (w.alloc (.cells #[H,E] TPlc)):=b_;rw [if_neg (by show ¬(I.length≠a.length);omega)] at d;have T:=ha.next (aF8 L) d (fun _=>rfl) (by omega);obtain⟨G,lG,U,ab,V,e2,ac,X⟩:=h.fw.enter hA q
  have HC:Hid (Calls prog kf (#[pt c.rb,pt w.heap.size]++P) (w.alloc (.cells #[H,E] TPlc)) (Post c M O w F kv K (k+1) (1+2*IU x))):=by
   have z:=Stp.AA (M:=M) hB;have Y:St c M O w G kv (k+1) {W with places:=W.places++I}:=by obtain⟨lv,av,gv,ov,m1,m2,m3⟩:=h.mc;exact⟨U,⟨lv,av,gv,ov,m1,m2,m3⟩,h.bd⟩
   have Z:EnvF M (w.alloc (.cells #[H,E] TPlc)) G.s (pt w.heap.size) (env++Pl.C1 a W.places.length) (a::sc):=by refine .cons w.heap.size E ab V W.places.length a env sc ⟨fun y=>by have:=h.fw.CY.mlt _ y;omega,?_⟩ (by omega) aa (fun i hi=>X i (by omega)) (J.go z lG.s);rw [show a.length=I.length from by omega,<-e2];exact heap_alloc_new w _
   exact(f M O _ G kv (pt w.heap.size) K (k+1) _ _ (A.trans z) (l.trans lG) (Y.below hB) Z T rfl rfl (by omega)).mono (fun e w' p=>p.after z (fun b hb=>hB.block b (h.fw.olt hb)) lG n_ (by omega))
  have HL:=h_ m;obtain⟨oh,rfl⟩:=J.ptr;subst Q;clear h J ha T d A l m hl N hT r p hk U X f t o hA q hg L hf v hB lG e2 ac hn;go_enter func201,ntmps201
  go_wp2_with (first
   | (go_at_call 195;refine(Calls.mono R ?_);rintro e w3 ⟨rfl,⟨-,rfl⟩ | ⟨ad,_⟩⟩;rotate_left;exact absurd HL.out ad)
   | (go_at_fn kf;refine(Calls.mono HC ?_);intro e w3 p;obtain⟨v',x',rfl⟩:=p.tup;have ae:=(show Hid _ from p);clear p))
  go_ret2;exact ae
 ·rw [if_pos (by show I.length≠a.length;omega)] at d;have HX:Hid (∀C,Post c M O w F kv K (k+1) (1+2*IU x) (aGG .nilIface (aY C 10)) w):=fun C=>Post.faultT (x:=10) (Stp.refl _ _) (fun _ _=>rfl) (Fg.Le.refl _) ha (aF8 L) C (by decide) (by rw [d]) (by rw [d]) h (by omega);have HL:=h_ m;obtain⟨oh,rfl⟩:=J.ptr;subst Q;clear h J ha d A l m hl N hT r p hk f t o hA q hg L hf v hn;go_enter func201,ntmps201;go_wp2_with (go_at_call 195;refine(Calls.mono R ?_);rintro e w3 ⟨rfl,⟨af,_⟩ | ⟨_,C,rfl⟩⟩;exact absurd af HL;unfold aY);go_ret2;exact HX.out _
end
end Go.Proofs.YtieooapcfpimlaaGreatDoor
