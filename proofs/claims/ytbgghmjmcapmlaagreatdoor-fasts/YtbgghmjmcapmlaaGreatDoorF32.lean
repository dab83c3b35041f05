import Derived.Test.YtbgghmjmcapmlaaGreatDoorF30
namespace Go.Proofs.YtbgghmjmcapmlaaGreatDoor
set_option maxHeartbeats 8000000
set_option maxRecDepth 100000
open Go.Proofs.Tryz
open Pl (PV PW PS PF CW AE AO)
section
open Go.RowKit Go.Maps Go.Lib
variable {w:World} {us:List Value} {c:Cx} {M:Q5} {k:Nat}
theorem RV.ofPrim{s:Sg}{x:Value}{p:PV}(h:RV s (.iface TPrm x) p)(c:s.tq=371)(d:s.tc=384):∃(a:Nat)(t:AE),AO[a]?=some t/\a<12/\p=.AZ t/\x=.int .i64 (a:Int):=by
 rcases h.isPr c d with⟨a,t,e,f,g,b⟩ | ⟨_,h⟩
 ·simp only [Value.iface.injEq,true_and] at b;exact⟨a,t,e,f,g,b⟩
 ·exact absurd rfl (h x)
theorem aLM{O:Q5}{F:Fg}{kv hv mv ot gv:Value}{K:List CW}{n g ch:Nat}{W:PW}{S:PS}{f:PF}{nm':AE}{Y:Pl.A9}{v':PV}{ks':List PF}{ns':List AE}{ks:List PF}{sc:List (List AE)}(o:f.k=.call)(l:f.ks=.mk .name nm' Y v' ks' ns'::ks)(hn:F.s.ns[k]?=some nm')(hg:F.gl k=some g)(Z:w.heap[g]?=some (.cells #[gv,Q1 ch] TGlb (0,0)))(D:MadeV M w us ot gv mv)(aa:us.length=ks.length)(E:∀(i:Nat)(u:Value)(x:PF),us[i]?=some u->ks[i]?=some x->CodeOk c M w F u x sc)(ab:∀(i:Nat)(u:Value)(x:PF),us[i]?=some u->ks[i]?=some x->RC M w F u x sc)(ac:CodeUp c M w F ot f sc)(ad:scF sc nm'=none)(h:St c M O w F kv n W)(V:EnvF M w F.s hv S.env sc)(ha:c.At n W S)(hf:S.form=some f)(hK:S.AB=K)(hT:n+2*IU f<=c.T) :∃A G,mv=fnV A G/\Enters A/\Q2 A (#[pt c.rb,hv]++G) w (Post c M O w F kv K (n+1) (2*IU f-1)):=by
 have I:IU f=2+OT ks'+OT ks:=by obtain⟨k,nm,d,v,ae,ns⟩:=f;have:ae=.mk .name nm' Y v' ks' ns'::ks:=l;subst this;rw [OL,ZL,OL];omega
 have m:mv=ot->∃A G,mv=fnV A G/\Enters A/\Q2 A (#[pt c.rb,hv]++G) w (Post c M O w F kv K (n+1) (2*IU f-1)):=fun e=>by subst e;obtain⟨A,G,h1,h2,h3⟩:=ac;exact⟨A,G,h1,h2,h3 M O w F kv hv K n W S (Stp.refl _ _) (Fg.Le.refl _) h V ha hf hK hT⟩
 rcases D with⟨kp,rfl,r⟩ | ⟨_,D⟩
 ·obtain⟨x,aj,e1,_,J⟩:=h.DI hg hn;rw [Z] at e1;simp only [o_,Obj.cells.injEq,Array.mk.injEq,List.cons.injEq,and_true] at e1;obtain⟨rfl,_⟩:=e1;rcases J with⟨_,J⟩ | ⟨i,p,J,e4,e5⟩
  ·cases J
  obtain⟨H,t,X,B,rfl,e6⟩:=e5.ofPrim h.fw.tq h.fw.tc;have af:H=kp:=by simp only [Value.int.injEq,true_and] at e6;omega
  subst af
  have ag:1<=ks.length->c.At (n+3) W ((({S.push ⟨f,[],1,S.env⟩ with AB:=K}:PS).work none S.env |>.push ⟨f,[.AZ t],2,S.env⟩).work f.ks[1]? S.env)\/∃s,c.At (n+3) W s/\s.form=f.ks[1]? /\ s.env=S.env/\s.AB=⟨f,[.AZ t],2,S.env⟩::K:=fun L=>by
   right;have N:=aIH (W:=W) hf (.inr (.inr (.inr o)));have ah:=ha.next (aGE hf) N (fun _=>rfl) x8;have P:((S.push ⟨f,[],1,S.env⟩).work f.ks[0]? S.env).form=some (.mk .name nm' Y v' ks' ns'):=by rw [l];rfl
   have Q:=aJC (W:=W) P (by show Pl.DL W S.env nm'=some i;unfold Pl.DL;rw [V.no ad];exact J) e4;have ai:=ah.next (aGE P) Q (fun _=>rfl) x8;have R:(((S.push ⟨f,[],1,S.env⟩).work f.ks[0]? S.env).A1 (.AZ t)).AB=⟨f,[],1,S.env⟩::K:=by simp [Pl.PS.A1,Pl.PS.work,Pl.PS.push,hK]
   have T:=aIG (W:=W) (S:=((S.push ⟨f,[],1,S.env⟩).work f.ks[0]? S.env).A1 (.AZ t)) rfl R o (by show 1≠f.ks.length;rw [l,c_];omega);exact⟨_,ai.next (aF8 R) T (fun _=>rfl) x8,rfl,rfl,rfl⟩
  have C:1<=ks.length->∃s,c.At (n+3) W s/\s.form=f.ks[1]? /\ s.env=S.env/\s.AB=⟨f,[.AZ t],2,S.env⟩::K:=fun L=>(ag L).elim (fun q=>⟨_,q,rfl,rfl,rfl⟩) id
  match us,ks,aa,r with
  | [],_,_,r=>exact m r
  | [a],[y],_,⟨b1,b2,b3,b4,q0,q1,q2,q3,U⟩ =>obtain⟨s,a1,a2,a3,a4⟩:=C w9;refine⟨_,_,q0,Fs.entHand,?_⟩;rw [ZL,aA5] at I;exact aK5 (fr:=⟨f,[.AZ t],2,S.env⟩) (j:=3) (zt:=1) (x:=y) q1 q2 q3 (E 0 a y rfl rfl) (.one b4 H t _ sc o (by show f.ks.length=2;rw [l];rfl) rfl rfl X B U) (aJP o (by show f.ks.length=2;rw [l];rfl) rfl rfl X B U) (Stp.refl _ _) (Fg.Le.refl _) h V a1 (by rw [a2,l];rfl) a3 a4 hT x8 x8 x8
  | [a,b],[y,z],_,⟨b1,b2,b3,b4,b5,q0,q1,q2,q3,U,q5⟩ =>obtain⟨s,a1,a2,a3,a4⟩:=C w9;refine⟨_,_,q0,Fs.entHand,?_⟩;rw [ZL,ZL,aA5] at I;exact aK5 (fr:=⟨f,[.AZ t],2,S.env⟩) (j:=3) (zt:=1+2*IU z) (x:=y) q1 q2 q3 (E 0 a y rfl rfl) (.two b4 b5 H t b _ y z _ sc o l rfl rfl X B U q5 (ab 1 b z rfl rfl)) (aJO o l rfl rfl X B U q5 (E 1 b z rfl rfl)) (Stp.refl _ _) (Fg.Le.refl _) h V a1 (by rw [a2,l];rfl) a3 a4 hT x8 x8 x8
  | a::b::x::us,_,_,r=>exact m r
 ·exact m D
theorem tSi:TCod≠B9/\TInt≠B9/\TCod≠TGlb/\TInt≠TGlb/\TCod≠TInt/\TCod≠TFMc/\TInt≠TFMc/\TCod≠TFrm/\TInt≠TFrm/\TCod≠JM/\TInt≠JM:=by decide
theorem aI5{l:List Site}{f:Site->Nat}(h:(l.map f).Nodup){a b:Site}(g:a∈l)(i:b∈l)(e:f a=f b):a=b:=by
 induction l with
 | nil=>cases g
 | cons x l j =>
  rw [List.map_cons,List.nodup_cons] at h;rcases List.mem_cons.1 g with d | d
  ·rcases List.mem_cons.1 i with c | c
   ·rw [d,c]
   ·exact absurd (List.mem_map.2 ⟨b,c,by rw [<- e,d]⟩) h.1
  ·rcases List.mem_cons.1 i with c | c
   ·exact absurd (List.mem_map.2 ⟨a,d,by rw [e,c]⟩) h.1
   ·exact j h.2 d c
theorem Stt.site{O:Q5}{F:Fg}{kv:Value}{n m:Nat}{W:PW}(h:Stt c M O w F kv n m W){st:Site}(B:st∈F.cs){mv mv0 gv:Value}{ch e0:Nat}(D:w.heap[st.mb]?=some (.cells #[mv0] TCod (0,0)))(E:w.heap[st.sb]?=some (.cells #[Q1 e0] TInt (0,0)))(Q:w.heap[st.g]?=some (.cells #[gv,Q1 ch] TGlb (0,0)))(e5:Sl M w TCod 1 st.ar us.length us)(e6:us.length<=2000)(e7:∃k R,mv=fnV k R)(e8:MadeV M w us st.ot gv mv) :Stt c M O ((w.setCell ⟨st.mb,0,none⟩ mv).setCell ⟨st.sb,0,none⟩ (.int .i64 (ch:Int))) F kv n m W/\Stp M w M ((w.setCell ⟨st.mb,0,none⟩ mv).setCell ⟨st.sb,0,none⟩ (.int .i64 (ch:Int)))/\(∀b,O b->((w.setCell ⟨st.mb,0,none⟩ mv).setCell ⟨st.sb,0,none⟩ (.int .i64 (ch:Int))).heap[b]?=w.heap[b]?)/\((w.setCell ⟨st.mb,0,none⟩ mv).setCell ⟨st.sb,0,none⟩ (.int .i64 (ch:Int))).heap[st.g]?=w.heap[st.g]? := by
 have z:=(h.fw.sit st B)
 have G:st.sb≠st.mb:=aGF E D tSi.2.2.2.2.1.symm;have H:=Och.set D 0 mv;have b2:(w.setCell ⟨st.mb,0,none⟩ mv).heap[st.sb]?=some (.cells #[Q1 e0] TInt (0,0)):=(H.other _ G).trans E;have I:=Och.set b2 0 (.int .i64 (ch:Int));obtain⟨t,j⟩:∃t,t=(w.setCell ⟨st.mb,0,none⟩ mv).setCell ⟨st.sb,0,none⟩ (.int .i64 (ch:Int)):=⟨_,rfl⟩
 have f:∀k,k≠st.mb->k≠st.sb->t.heap[k]?=w.heap[k]? := fun k a b=>by rw [j];exact(I.other k b).trans (H.other k a)
 have bm:t.heap[st.mb]?=some (.cells #[mv] TCod (0,0)):=by rw [j];exact(I.other _ (fun e=>G e.symm)).trans H.blk
 have bs:t.heap[st.sb]?=some (.cells #[Q1 ch] TInt (0,0)):=by rw [j];exact I.blk
 have l:Stp M w M t:=by rw [j];exact(H.AQ z.mb).trans (I.AQ z.sb)
 have S:t.heap.size=w.heap.size:=by rw [j];exact I.size.trans H.size
 rw [<- j];have d:∀{k:Nat} {T:TypeId} {cs:Array Value},w.heap[k]?=some (.cells cs T (0,0))->T≠TCod->T≠TInt->t.heap[k]?=w.heap[k]? := fun {k} {T} {cs} s a b=>f k (aGF s D a) (aGF s E b);have u:∀{k:Nat} {U:Array MapEntry} {n:Nat},w.heap[k]?=some (.map U n)->t.heap[k]?=w.heap[k]? := fun {k} {U} {n} s=>f k (fun q=>aGN s D q.symm) (fun q=>aGN s E q.symm);have hl:=Fg.Le.refl F;obtain⟨U,nn,J⟩:=h.fw.map.F6;obtain⟨aa,n2,C⟩:=h.fw.CY.B3.F6;have hO:∀b,O b->t.heap[b]?=w.heap[b]? := fun b hb=>by obtain⟨_,⟨r,V⟩,_⟩:=h.fw.oth b hb;exact d V tSi.1.symm tSi.2.1.symm
 have X:FW c.L M O t F (c.B+m) W:=by
  refine⟨⟨h.fw.CY.B3.keep (l.block _ h.fw.CY.B3.lt.1 h.fw.CY.JJ).1 (u C),h.fw.CY.pairs.AQ l,h.fw.CY.FV,h.fw.CY.JJ,fun k s=>by rw [S];exact h.fw.CY.mlt k s⟩,h.fw.NN.go l,h.fw.TH,h.fw.UE,h.fw.map.keep (u J),h.fw.gn,fun k g s=>?_,h.fw.ginj,h.fw.gall,h.fw.gpl,fun K y=>?_,h.fw.sn1,h.fw.sn2,h.fw.sgl,h.fw.pql,h.fw.pqi,fun i b q L N P=>(h.fw.pqa i b q L N P).go l hl,h.fw.AG.mono (fun b x hx=>hx.go l hl),⟨h.fw.places.len,h.fw.places.inj,fun i g o p Y hp=>?_⟩,fun k s=>?_,h.fw.pr,h.fw.gs.AQ l,h.fw.JQ.AQ h.fw.gs l,(bY h.fw.gs l kT).trans h.fw.gt,?_,h.fw.tq,h.fw.tc,h.fw.nl⟩
  ·obtain⟨L,v',c',nm,N,P,h4⟩:=h.fw.gat k g s;exact⟨L,v',c',nm,N,(d P tSi.2.2.1.symm tSi.2.2.2.1.symm).trans P,h4⟩
  ·by_cases q:K=st
   ·subst q;exact⟨z.mb,z.sb,us,mv,gv,ch,ch,bm,bs,(d Q tSi.2.2.1.symm tSi.2.2.2.1.symm).trans Q,n_,e5.AQ l,e6,e7,fun _=>e8.go l⟩
   ·have A:=h.fw.sit K y;obtain⟨ab,ac,ad,c2,x2,f1,f2,f3,_⟩:=A.ex;refine A.go l A.mb A.sb (f _ (fun e=>q (aI5 h.fw.sn1 y B e)) (aGF f1 E tSi.2.2.2.2.1)) (f _ (aGF f2 D tSi.2.2.2.2.1.symm) (fun e=>q (aI5 h.fw.sn2 y B e))) (d f3 tSi.2.2.1.symm tSi.2.2.2.1.symm)
  ·obtain⟨k1,r,x,k2,k3,k4⟩:=h.fw.places.at_ i g o p Y hp;exact⟨k1,r,x,(d k2 tSi.1.symm tSi.2.1.symm).trans k2,k3,k4⟩
  ·obtain⟨a1,⟨r,V⟩,a3⟩:=h.fw.oth k s;exact⟨a1,⟨r,(hO k s).trans V⟩,a3⟩
  ·obtain⟨v,L,N⟩:=h.fw.ge;exact⟨v,(bY h.fw.gs l kU).trans L,N⟩
 obtain⟨lv,av,Z,ov,m1,m2,m3⟩:=h.mc;refine⟨⟨X,⟨lv,av,Z,ov,⟨(d m1.blk tSi.2.2.2.2.2.1.symm tSi.2.2.2.2.2.2.1.symm).trans m1.blk,m1.m⟩,⟨aGD m2.1 (fun g hg=>?_),m2.2⟩,⟨aGD m3.1 (fun g hg=>?_),m3.2⟩⟩,h.bd⟩,l,hO,d Q tSi.2.2.1.symm tSi.2.2.2.1.symm⟩
 ·obtain⟨r,hc⟩:=aF9 m2.1 hg;exact d hc tSi.2.2.2.2.2.2.2.1.symm tSi.2.2.2.2.2.2.2.2.1.symm
 ·obtain⟨r,hc⟩:=aF9 m3.1 hg;exact d hc tSi.2.2.2.2.2.2.2.2.2.1.symm tSi.2.2.2.2.2.2.2.2.2.2.symm
theorem Sl.uniq{T:TypeId}{v:Value}{vs:List Value}(h:Sl M w T 1 v us.length us)(k:Sl M w T 1 v vs.length vs):us=vs:=by
 obtain⟨_,z,j,rfl,_,l⟩:=h;obtain⟨_,m,c,e,_,n⟩:=k;simp only [Value.slice.injEq] at e;obtain⟨rfl,o,_⟩:=e;refine List.ext_getElem o (fun i p q=>?_);rcases l with A | ⟨g,r,s,rfl,_,t,u⟩
 ·omega
 ·rcases n with B | ⟨C,d,f,e,_,a,b⟩
  ·omega
  ·simp only [o_,Addr.mk.injEq,and_true] at e;obtain⟨rfl,rfl⟩:=e;rw [t] at a;simp only [o_,Obj.cells.injEq,and_true] at a;subst a;have x:=u i _ (g_ p);have y:=b i _ (g_ q);exact i_ (x.symm.trans y)
theorem aGP{b o:Nat}{v:Value}(h:k≠b):(w.setCell ⟨b,0,none⟩ v).cell? ⟨k,o,none⟩=w.cell? ⟨k,o,none⟩:=World.cell?_of_block (w:=w) (Below.heap_setCell _ _ _ _ (fun x=>h zM2))
def CgS(b1 b2 b3 g ch:Nat)(gv ar:Value)(ko:Nat)(co:Array Value)(wx:World):Prop:=wx.cell? ⟨b1,0,none⟩=some (Q0 g)/\wx.cell? ⟨b2,0,none⟩=some ar/\wx.cell? ⟨b3,0,none⟩=some (.func (.func ko) #[] co)/\wx.cell? ⟨g,0,none⟩=some gv/\wx.cell? ⟨g,1,none⟩=some (Q1 ch)
theorem Fs.entGl:Enters 229:=enters_of func229 t8 rfl
theorem aKO{M0:Q5}{w0:World}{F0:Fg}{b1 b2 b3:Nat}{st:Site}(nm:AE)(d:Pl.A9)(v:PV)(ks:List PF)(ns:List AE)(J:AE)(d':Pl.A9)(v':PV)(aa:List PF)(ab:List AE)(sc:List (List AE))(ba:st∈F0.cs)(C:Bx M0 w0 b1 (pt st.g) TGlP)(D:Bx M0 w0 b2 st.ar TCds)(E:Bx M0 w0 b3 st.ot TCod)(hn:F0.s.ns[k]?=some J)(hg:F0.gl k=some st.g)(bb:scF sc J=none)(ac:Sl M0 w0 TCod 1 st.ar us.length us)(ad:us.length=ks.length)(ae:∀(i:Nat)(u:Value)(x:PF),us[i]?=some u->ks[i]?=some x->RC M0 w0 F0 u x sc)(ai:∀(i:Nat)(u:Value)(x:PF),us[i]?=some u->ks[i]?=some x->CodeOk c M0 w0 F0 u x sc)(V:CodeUp c M0 w0 F0 st.ot (.mk .call nm d v (.mk .name J d' v' aa ab::ks) ns) sc):CodeUp c M0 w0 F0 (fnV 229 #[pt st.sb,pt b1,pt b2,pt b3,pt st.mb]) (.mk .call nm d v (.mk .name J d' v' aa ab::ks) ns) sc:=by
 refine⟨_,_,rfl,Fs.entGl,?_⟩;intro M O w F kv hv K n W S s l h he ha hf hK hT;show Q2 229 #[Q0 c.rb,hv,Q0 st.sb,Q0 b1,Q0 b2,Q0 b3,Q0 st.mb] w _;obtain⟨f,aj⟩:∃f,f=Pl.PF.mk .call nm d v (.mk .name J d' v' aa ab::ks) ns:=⟨_,rfl⟩
 have bc:f.k=.call:=by rw [aj];rfl
 have am:f.ks=.mk .name J d' v' aa ab::ks:=by rw [aj];rfl
 rw [<- aj] at hf hT V ⊢;have ah:=aKZ l.cs ba;have y:=h.fw.sit st ah;obtain⟨m,an,gv,ch,e0,e1,e2,e3,e4,e5,e6,e7,e8⟩:=y.ex;have H:=ac.AQ s;obtain rfl:m=us:=Sl.uniq e5 H;have ap:=bS l.s.ns hn;have aq:=l.gl _ _ hg;obtain⟨j,o,g1,g2,g3⟩:=h.DI aq ap;have bd:j=gv/\o=ch:=by rw [e3] at g1;simp only [o_,Obj.cells.injEq,Array.mk.injEq,List.cons.injEq,Value.int.injEq,and_true,true_and] at g1;exact⟨g1.1.symm,by have:=g1.2;omega⟩
 obtain⟨rfl,rfl⟩:=bd;have bu:=h.bd;have bv:n<=c.T:=ha.le;obtain⟨Q,R,X⟩:∃Q R,st.ot=fnV Q R:=by obtain⟨Q,R,e,_⟩:=V;exact⟨Q,R,e⟩
 obtain⟨U,g,Y⟩:∃U g,st.ar=.slice U m.length g:=by obtain⟨_,U,g,e,_⟩:=ac;exact⟨U,g,e⟩
 have d1:=(C.go s).cell;have d2:=(D.go s).cell;have d3:=(E.go s).cell;have l1:=aB (C.go s).2;have l2:=aB (D.go s).2;have l3:=aB (E.go s).2;have ls:=aB e2;have lm:=aB e1;have lg:=aB e3;have bw:w.cell? ⟨st.sb,0,none⟩=some (Q1 e0):=aA e2 0;have bx:w.cell? ⟨st.mb,0,none⟩=some an:=aA e1 0;have be:w.cell? ⟨st.g,0,none⟩=some j:=aA e3 0;have bf:w.cell? ⟨st.g,1,none⟩=some (Q1 o):=aA e3 1;have HM:Hid (∀M2 w2 L,Stp M w M2 w2->(∀b,O b->w2.heap[b]?=w.heap[b]?)->St c M2 O w2 F kv n W->w2.heap[st.g]?=some (.cells #[j,Q1 o] TGlb (0,0))->MadeV M2 w2 m st.ot j L->∃z cm,L=fnV z cm/\Enters z/\Q2 z (#[pt c.rb,hv]++cm) w2 (Post c M O w F kv K (n+1) (2*IU f-1))):=fun M2 w2 L q1 q2 q3 q4 q5=>by have s2:=s.trans q1;obtain⟨z,cm,r1,r2,r3⟩:=aLM (O:=O) bc am ap aq q4 q5 ad (fun i u x hu hx=>(ai i u x hu hx).go s2 l) (fun i u x hu hx=>(ae i u x hu hx).go s2 l) (V.go s2 l) bb q3 (he.go q1 (Sg.Le.refl _)) ha hf hK hT;exact⟨z,cm,r1,r2,r3.mono (fun e w' hp=>hp.after q1 q2 (Fg.Le.refl _) n_ n_)⟩
 have G:Q3 w w.drew:=r_.drew;have I:Q3 w w.drew.drew:=G.drew;by_cases ar:e0=o
 ·obtain⟨z,cm,rfl,A,r⟩:=HM.out M w.drew an (Stp.AA G) (fun b hb=>G.block b (h.fw.olt hb)) (h.below G) e3 ((e8 ar).go (Stp.AA G));have HC:=h_ r;have bg:∀(B:Array Value)(w:World),(callFunc z B).run prog w=.ok (.enter z B) w:=A;obtain⟨ho,rfl⟩:=he.ptr;subst ar;clear h s he ha C D E ac H ae ai V y e1 e2 e3 e5 e7 e8 r A HM G I hf hK hT g1 g3 ad;go_enter func229,ntmps229;go_wp2_with fail
  go_region
  all_goals
   go_wp2_with (go_at_fn z;refine(Calls.mono HC ?_);intro e N hp;obtain⟨v',x',rfl⟩:=hp.tup;have ak:=(show Hid _ from hp);clear hp)
   go_ret2;exact ak
 ·have HK:Hid (Q2 228 #[j,st.ar,st.ot] w.drew.drew (KnQ w.drew.drew m st.ot j)):=by
   rw [X,Y];rcases g3 with⟨_,rfl⟩ | ⟨i,p,_,_,g5⟩
   ·exact aHS _ _ _ _ _ _ _ _ Tryz.fp_nil (fun x q=>by cases q)
   ·rcases g5.isPr h.fw.tq h.fw.tc with⟨kp,t,_,_,_,rfl⟩ | ⟨⟨T,x,rfl,bh⟩,bi⟩
    ·refine aLO M _ kp m Q R U g (by rw [<- Y];exact H.AQ (Stp.AA I)) (fun u hu=>?_) x8;obtain⟨i,hi⟩:=List.getElem?_of_mem hu;obtain⟨x,hx⟩:∃x,ks[i]?=some x:=⟨_,g_ (by rw [<- ad];exact(s_ hi).1)⟩
     exact(ae i u x hi hx).func
    ·exact aHS _ _ _ _ _ _ _ _ bh bi
  obtain⟨ho,rfl⟩:=he.ptr;obtain⟨bj,bk,rfl⟩:=e7;rw [X] at d3;rw [Y] at d2;have bz:st.sb≠st.mb:=aGF e2 e1 tSi.2.2.2.2.1.symm;have bl:b1≠st.mb:=fun q=>(C.go s).1 (by rw [q];exact y.mb);have bm:b1≠st.sb:=fun q=>(C.go s).1 (by rw [q];exact y.sb);have bn:b2≠st.mb:=fun q=>(D.go s).1 (by rw [q];exact y.mb);have bo:b2≠st.sb:=fun q=>(D.go s).1 (by rw [q];exact y.sb);have bp:b3≠st.mb:=fun q=>(E.go s).1 (by rw [q];exact y.mb);have bq:b3≠st.sb:=fun q=>(E.go s).1 (by rw [q];exact y.sb);have au:st.g≠st.mb:=aGF e3 e1 tSi.2.2.1.symm;have av:st.g≠st.sb:=aGF e3 e2 tSi.2.2.2.1.symm;have aw:Hid (CgS b1 b2 b3 st.g o j (.slice U m.length g) Q R w.drew.drew):=⟨d1,d2,d3,be,bf⟩
  have ax:Hid (∀(P:World)(v:Value),CgS b1 b2 b3 st.g o j (.slice U m.length g) Q R P->CgS b1 b2 b3 st.g o j (.slice U m.length g) Q R (P.setCell ⟨st.mb,0,none⟩ v)):=fun P v q=>⟨(aGP bl).trans q.1,(aGP bn).trans q.2.1,(aGP bp).trans q.2.2.1,(aGP au).trans q.2.2.2.1,(aGP au).trans q.2.2.2.2⟩
  have ay:Hid (∀(P:World)(v:Value),CgS b1 b2 b3 st.g o j (.slice U m.length g) Q R P->CgS b1 b2 b3 st.g o j (.slice U m.length g) Q R (P.setCell ⟨st.sb,0,none⟩ v)):=fun P v q=>⟨(aGP bm).trans q.1,(aGP bo).trans q.2.1,(aGP bq).trans q.2.2.1,(aGP av).trans q.2.2.2.1,(aGP av).trans q.2.2.2.2⟩
  have HB:Hid (∀N L,(∃k c,L=fnV k c)->Below w.drew.drew.heap.size w.drew.drew N->(∀M:Q5,(∀k,M k->k<w.drew.drew.heap.size)->MadeV M N m st.ot j L)->CgS b1 b2 b3 st.g o j (.slice U m.length g) Q R N/\N.cell? ⟨st.mb,0,none⟩=some (fnV bj bk)/\N.cell? ⟨st.sb,0,none⟩=some (Q1 e0)/\N.frozen? ⟨st.mb,0,none⟩=false/\N.frozen? ⟨st.sb,0,none⟩=false/\∃z cm,L=fnV z cm/\Enters z/\Q2 z (#[pt c.rb,.pointer ho]++cm) ((N.setCell ⟨st.mb,0,none⟩ L).setCell ⟨st.sb,0,none⟩ (.int .i64 (o:Int))) (Post c M O w F kv K (n+1) (2*IU f-1))):=fun N L af ag Z=>by have hB:Q3 w N:=I.trans ag;have s3:=Stp.AA (M:=M) hB;have f1:=(hB.block _ lm).trans e1;have f2:=(hB.block _ ls).trans e2;have f3:=(hB.block _ lg).trans e3;obtain⟨z1,z2,z3,z4⟩:=(h.below hB).site ah f1 f2 f3 (e5.AQ s3) e6 af (Z M (fun k hk=>h.fw.CY.mlt k hk));exact⟨⟨((C.go s).go s3).cell,by rw [<- Y];exact((D.go s).go s3).cell,by have:=((E.go s).go s3).cell;rw [X] at this;exact this,aA f3 0,aA f3 1⟩,aA f1 0,aA f2 0,aF f1 0,aF f2 0,HM M _ L (s3.trans z2) (fun b hb=>(z3 b hb).trans (hB.block b (h.fw.olt hb))) z1 (z4.trans f3) ((Z M (fun k hk=>h.fw.CY.mlt k hk)).go z2)⟩
  have bt:¬((e0:Int)=(o:Int)):=by omega
  have ca:∀(a:Addr)(fn:Fn)(first g:Array Value)(w:World),(store a (.func fn first g)).run prog w=stored prog w a (.func fn first g) .plain:=fun _ _ _ _ _=>run_store _ _ _ _ _ rfl;rw [X,Y] at HK;rw [X] at HB;clear h s he ha C D E ac H ae ai V y e1 e2 e3 e5 e8 HM G I hf hK hT g1 g3 ad;unfold CgS at aw ax ay HB;go_enter func229,ntmps229;go_wp2_with fail
  go_region
  all_goals
   go_wp2_with fail
   go_region_held3 (fun P=>P.cell? ⟨b1,0,none⟩=some (Q0 st.g)/\P.cell? ⟨b2,0,none⟩=some (.slice U m.length g)/\P.cell? ⟨b3,0,none⟩=some (.func (.func Q) #[] R)/\P.cell? ⟨st.g,0,none⟩=some j/\P.cell? ⟨st.g,1,none⟩=some (Q1 o))
    (first | exact aw.out | exact br.out | (refine ax.out _ _ ?_;assumption) | (refine ay.out _ _ ?_;assumption))
    ((refine aGJ m6 228 _ _ _ _ m6 func228 t8 rfl _ _ _ m6 m6 m6 HK ?_;rintro e N ⟨L,rfl,af,ag,Z⟩;obtain⟨az,i3,i4,i5,i6,z,cm,al,A,r⟩:=HB.out N L af ag Z;replace al:L=Value.func (.func z) #[] cm:=al;subst al;have br:=(show Hid _ from az);have bg:∀(B:Array Value)(w:World),(callFunc z B).run prog w=.ok (.enter z B) w:=A;have bs:=(show Hid _ from r);clear r A af ag Z az;refine⟨_,rfl,?_⟩))
   all_goals
    go_wp2_with (go_at_fn z;refine(Calls.mono bs ?_);intro e w4 hp;obtain⟨v',x',rfl⟩:=hp.tup;have ak:=(show Hid _ from hp);clear hp)
    go_ret2;exact ak
end
end Go.Proofs.YtbgghmjmcapmlaaGreatDoor
