import Derived.Test.YtieooapcfpimlaaGreatDoorL40
namespace Go.Proofs.YtieooapcfpimlaaGreatDoor
set_option maxHeartbeats 8000000
set_option maxRecDepth 100000
open Go.Proofs.Tryz
open Pl (PV PW PS PF CW AE AO)
section
open Go.RowKit Go.Maps Go.Lib
variable {us:List Value} {w w0:World} {M0 M:Nat->Prop} {k:Nat}
theorem Fs.entHand:Enters 197:=enters_of func197 (by kernel_rfl) rfl
theorem Fs.entRow:Enters 183:=enters_of func183 (by kernel_rfl) rfl
theorem aG7{c:Cx}{e:Fg}{b1 b2 b3:Nat}{u tk:Value}{f x:PF}{r:List PF}{sc:List (List AE)}{zt:Nat}(p:Bx M0 w0 b1 (.int .i64 1) TInt)(q:Bx M0 w0 b2 u TCod)(s:Bx M0 w0 b3 tk TTak)(t:CodeOk c M0 w0 e u x sc)(y:f.k=.iff\/f.k=.set\/f.k=.define\/f.k=.call)(b:f.ks=x::r)(J:zt<=1+2*OT r)(g:1<=zt)(z:∀a,RT M0 w0 e tk ⟨f,[],1,a⟩ sc)(A:∀a,TakeOk c M0 w0 e tk ⟨f,[],1,a⟩ sc zt):CodeUp c M0 w0 e (fnV 197 #[pt b1,pt b2,pt b3]) f sc:=by
 refine⟨_,_,rfl,Fs.entHand,?_⟩;intro M O w F L N K n W S B l h C D o E G;have H:IU f=1+IU x+OT r:=by obtain⟨k,P,d,v,I,Q⟩:=f;have:I=x::r:=b;subst this;rw [OL,ZL];omega
 have i:=aIH (W:=W) o y;have m:=D.next (aGE o) i (fun _=>rfl) (by omega);exact aK5 (fr:=⟨f,[],1,S.env⟩) (j:=1) (zt:=zt) p q s t (z _) (A _) B l h C m (by rw [b];rfl) rfl (by simp [Pl.PS.work,Pl.PS.push,E]) G (by omega) g (by omega)
theorem aKQ{c:Cx}{A:Fg}{b:Nat}{sl:Value}(nm:AE)(d:Pl.A9)(v:PV)(a:List PF)(ns:List AE)(sc:List (List AE))(B:Bx M0 w0 b sl TCds)(m:Sl M0 w0 TCod 1 sl us.length us)(k:BY (fun u x=>RC M0 w0 A u x sc) us a)(o:∀(i:Nat)(u:Value)(x:PF),us[i]?=some u->a[i]?=some x->CodeOk c M0 w0 A u x sc)(Y:1<=a.length)(Z:a.length<=2000):CodeUp c M0 w0 A (fnV 183 #[pt b]) (.mk .begin nm d v a ns) sc:=by
 refine⟨_,_,rfl,Fs.entRow,?_⟩;intro M O w F Q J K n W S t l h C L D E R;show Calls prog 183 #[.pointer (some ⟨c.rb,0,none⟩),J,.pointer (some ⟨b,0,none⟩)] w _;obtain⟨c4,_,f4⟩:=h.cells;have T:=h.bd.2.1;have G:IU (.mk .begin nm d v a ns)=1+OT a:=OL _ _ _ _ _ _;have hn:n<=1010000:=by omega
 have d1:=(B.go t).cell;have n1:=h.ne (B.go t).1;have H:us.length=a.length:=k.1;obtain⟨N,y,P⟩:=h.tick (n+1);have g:=t.trans y;have p:=aMO (W:=W) D rfl;have r:=L.next (aGE D) p (fun _=>rfl) (by omega)
 have U:Hid (Calls prog 184 #[.pointer (some ⟨c.rb,0,none⟩),sl,J] (w.setCell ⟨c.rb,4,none⟩ (.int .i64 ((n+1:Nat):Int))) (Post c M O w F Q K (n+1) (2*IU (.mk .begin nm d v a ns)-1))):=by
  refine(p_row (f:=.mk .begin nm d v a ns) (env:=S.env) (sc:=sc) (us:=us) (j:=0) rfl (m.AQ g) (by simpa [Pl.PF.ks] using k.mono (fun _ _ q=>q.go g l)) (fun i u x V X=>(o i u x V (by simpa [Pl.PF.ks] using X)).go g l) (by omega) (by omega) (N.up (by omega)) (C.go y (Sg.Le.refl _)) r ⟨?_,?_,?_⟩ (by simp [Pl.PF.ks];omega)).mono (fun e w' s=>s.after y P (Fg.Le.refl _) (by omega) (by simp [Pl.PF.ks];omega))
  ·split<;>rfl
  ·split<;>rfl
  ·by_cases z:1<a.length
   ·rw [if_pos (by exact z),if_pos (by simpa [Pl.PF.ks] using z)];simp [Pl.PS.work,Pl.PS.push,E]
   ·rw [if_neg (by exact z),if_neg (by simpa [Pl.PF.ks] using z)];simp [Pl.PS.work,E]
 obtain⟨ho,rfl⟩:=C.ptr;clear h t C L B m k o N y P p r g H G D E R;go_enter func183,ntmps183;go_wp2_with (go_at_call 184;refine(Calls.mono U ?_);intro e w3 s;obtain⟨v',x',rfl⟩:=s.tup;have I:=(show Hid _ from s);clear s);go_ret2;exact I
theorem RV.ofPrim{s:Sg}{x:Value}{p:PV}(h:RV s (.iface TPrm x) p)(c:s.tq=345)(d:s.tc=357):∃(a:Nat)(t:AE),AO[a]?=some t/\a<12/\p=.AZ t/\x=.int .i64 (a:Int):=by
 rcases h.isPr c d with⟨a,t,e,f,g,b⟩ | ⟨_,h⟩
 ·simp only [Value.iface.injEq,true_and] at b;exact⟨a,t,e,f,g,b⟩
 ·exact absurd rfl (h x)
theorem aLM{c:Cx}{O:Nat->Prop}{F:Fg}{kv hv mv ot gv:Value}{K:List CW}{n g ch:Nat}{W:PW}{S:PS}{f:PF}{o:AE}{d':Pl.A9}{v':PV}{B:List PF}{H:List AE}{C:List PF}{sc:List (List AE)}(r:f.k=.call)(l:f.ks=.mk .name o d' v' B H::C)(hn:F.s.ns[k]?=some o)(hg:F.gl k=some g)(aa:w.heap[g]?=some (.cells #[gv,.int .i64 (ch:Int)] TGlb (0,0)))(I:MadeV M w us ot gv mv)(ab:us.length=C.length)(J:∀(i:Nat)(u:Value)(x:PF),us[i]?=some u->C[i]?=some x->CodeOk c M w F u x sc)(ac:∀(i:Nat)(u:Value)(x:PF),us[i]?=some u->C[i]?=some x->RC M w F u x sc)(ad:CodeUp c M w F ot f sc)(ae:scF sc o=none)(h:St c M O w F kv n W)(he:EnvF M w F.s hv S.env sc)(ha:c.At n W S)(hf:S.form=some f)(hK:S.AB=K)(hT:n+2*IU f<=c.T) :∃D L,mv=fnV D L/\Enters D/\Calls prog D (#[pt c.rb,hv]++L) w (Post c M O w F kv K (n+1) (2*IU f-1)):=by
 have P:IU f=2+OT B+OT C:=by obtain⟨k,nm,d,v,af,ns⟩:=f;have:af=.mk .name o d' v' B H::C:=l;subst this;rw [OL,ZL,OL];omega
 have m:mv=ot->∃D L,mv=fnV D L/\Enters D/\Calls prog D (#[pt c.rb,hv]++L) w (Post c M O w F kv K (n+1) (2*IU f-1)):=fun e=>by subst e;obtain⟨D,L,h1,h2,h3⟩:=ad;exact⟨D,L,h1,h2,h3 M O w F kv hv K n W S (Stp.refl _ _) (Fg.Le.refl _) h he ha hf hK hT⟩
 rcases I with⟨kp,rfl,s⟩ | ⟨_,I⟩
 ·obtain⟨x,ak,e1,_,Q⟩:=h.DI hg hn;rw [aa] at e1;simp only [o_,Obj.cells.injEq,Array.mk.injEq,List.cons.injEq,and_true] at e1;obtain⟨rfl,_⟩:=e1;rcases Q with⟨_,Q⟩ | ⟨i,p,Q,e4,e5⟩
  ·cases Q
  obtain⟨N,t,ht,E,rfl,e6⟩:=e5.ofPrim h.fw.tq h.fw.tc;have ag:N=kp:=by simp only [Value.int.injEq,true_and] at e6;omega
  subst ag
  have ah:1<=C.length->c.At (n+3) W ((({S.push ⟨f,[],1,S.env⟩ with AB:=K}:PS).work none S.env |>.push ⟨f,[.AZ t],2,S.env⟩).work f.ks[1]? S.env)\/∃A,c.At (n+3) W A/\A.form=f.ks[1]? /\ A.env=S.env/\A.AB=⟨f,[.AZ t],2,S.env⟩::K:=fun R=>by
   right;have T:=aIH (W:=W) hf (.inr (.inr (.inr r)));have ai:=ha.next (aGE hf) T (fun _=>rfl) (by omega);have U:((S.push ⟨f,[],1,S.env⟩).work f.ks[0]? S.env).form=some (.mk .name o d' v' B H):=by rw [l];rfl
   have V:=aJC (W:=W) U (by show Pl.DL W S.env o=some i;unfold Pl.DL;rw [he.no ae];exact Q) e4;have aj:=ai.next (aGE U) V (fun _=>rfl) (by omega);have X:(((S.push ⟨f,[],1,S.env⟩).work f.ks[0]? S.env).A1 (.AZ t)).AB=⟨f,[],1,S.env⟩::K:=by simp [Pl.PS.A1,Pl.PS.work,Pl.PS.push,hK]
   have Y:=aIG (W:=W) (S:=((S.push ⟨f,[],1,S.env⟩).work f.ks[0]? S.env).A1 (.AZ t)) rfl X r (by show 1≠f.ks.length;rw [l,c_];omega);exact⟨_,aj.next (aF8 X) Y (fun _=>rfl) (by omega),rfl,rfl,rfl⟩
  have G:1<=C.length->∃A,c.At (n+3) W A/\A.form=f.ks[1]? /\ A.env=S.env/\A.AB=⟨f,[.AZ t],2,S.env⟩::K:=fun R=>(ah R).elim (fun q=>⟨_,q,rfl,rfl,rfl⟩) id
  match us,C,ab,s with
  | [],_,_,s=>exact m s
  | [a],[y],_,⟨b1,b2,b3,b4,q0,q1,q2,q3,Z⟩ =>obtain⟨A,a1,a2,a3,a4⟩:=G (by simp);refine⟨_,_,q0,Fs.entHand,?_⟩;rw [ZL,aA5] at P;exact aK5 (fr:=⟨f,[.AZ t],2,S.env⟩) (j:=3) (zt:=1) (x:=y) q1 q2 q3 (J 0 a y rfl rfl) (.one b4 N t _ sc r (by show f.ks.length=2;rw [l];rfl) rfl rfl ht E Z) (aJP r (by show f.ks.length=2;rw [l];rfl) rfl rfl ht E Z) (Stp.refl _ _) (Fg.Le.refl _) h he a1 (by rw [a2,l];rfl) a3 a4 hT (by omega) (by omega) (by omega)
  | [a,b],[y,z],_,⟨b1,b2,b3,b4,b5,q0,q1,q2,q3,Z,q5⟩ =>obtain⟨A,a1,a2,a3,a4⟩:=G (by simp);refine⟨_,_,q0,Fs.entHand,?_⟩;rw [ZL,ZL,aA5] at P;exact aK5 (fr:=⟨f,[.AZ t],2,S.env⟩) (j:=3) (zt:=1+2*IU z) (x:=y) q1 q2 q3 (J 0 a y rfl rfl) (.two b4 b5 N t b _ y z _ sc r l rfl rfl ht E Z q5 (ac 1 b z rfl rfl)) (aJO r l rfl rfl ht E Z q5 (J 1 b z rfl rfl)) (Stp.refl _ _) (Fg.Le.refl _) h he a1 (by rw [a2,l];rfl) a3 a4 hT (by omega) (by omega) (by omega)
  | a::b::x::us,_,_,s=>exact m s
 ·exact m I
theorem tSi:TCod≠B9/\TInt≠B9/\TCod≠TGlb/\TInt≠TGlb/\TCod≠TInt/\TCod≠TFMc/\TInt≠TFMc/\TCod≠TFrm/\TInt≠TFrm/\TCod≠JM/\TInt≠JM:=by decide
theorem aI5{l:List Site}{f:Site->Nat}(h:(l.map f).Nodup){a b:Site}(g:a∈l)(i:b∈l)(e:f a=f b):a=b:=by
 induction l with
 | nil=>cases g
 | cons x l j =>
  rw [List.map_cons,List.nodup_cons] at h;rcases List.mem_cons.1 g with d | d
  ·rcases List.mem_cons.1 i with c | c
   ·rw [d,c]
   ·exact absurd (List.mem_map.2 ⟨b,c,by rw [<- e,d]⟩) h.1
  ·rcases List.mem_cons.1 i with c | c
   ·exact absurd (List.mem_map.2 ⟨a,d,by rw [e,c]⟩) h.1
   ·exact j h.2 d c
theorem Stt.site{c:Cx}{O:Nat->Prop}{F:Fg}{kv:Value}{n m:Nat}{W:PW}(h:Stt c M O w F kv n m W){f:Site}(C:f∈F.cs){mv mv0 gv:Value}{ch e0:Nat}(E:w.heap[f.mb]?=some (.cells #[mv0] TCod (0,0)))(G:w.heap[f.sb]?=some (.cells #[.int .i64 (e0:Int)] TInt (0,0)))(R:w.heap[f.g]?=some (.cells #[gv,.int .i64 (ch:Int)] TGlb (0,0)))(e5:Sl M w TCod 1 f.ar us.length us)(e6:us.length<=2000)(e7:∃k S,mv=fnV k S)(e8:MadeV M w us f.ot gv mv) :Stt c M O ((w.setCell ⟨f.mb,0,none⟩ mv).setCell ⟨f.sb,0,none⟩ (.int .i64 (ch:Int))) F kv n m W/\Stp M w M ((w.setCell ⟨f.mb,0,none⟩ mv).setCell ⟨f.sb,0,none⟩ (.int .i64 (ch:Int)))/\(∀b,O b->((w.setCell ⟨f.mb,0,none⟩ mv).setCell ⟨f.sb,0,none⟩ (.int .i64 (ch:Int))).heap[b]?=w.heap[b]?)/\((w.setCell ⟨f.mb,0,none⟩ mv).setCell ⟨f.sb,0,none⟩ (.int .i64 (ch:Int))).heap[f.g]?=w.heap[f.g]? := by
 have A:=(h.fw.sit f C)
 have H:f.sb≠f.mb:=aGF G E tSi.2.2.2.2.1.symm;have I:=Och.set E 0 mv;have b2:(w.setCell ⟨f.mb,0,none⟩ mv).heap[f.sb]?=some (.cells #[.int .i64 (e0:Int)] TInt (0,0)):=(I.other _ H).trans G;have J:=Och.set b2 0 (.int .i64 (ch:Int));obtain⟨u,l⟩:∃u,u=(w.setCell ⟨f.mb,0,none⟩ mv).setCell ⟨f.sb,0,none⟩ (.int .i64 (ch:Int)):=⟨_,rfl⟩
 have j:∀k,k≠f.mb->k≠f.sb->u.heap[k]?=w.heap[k]? := fun k a b=>by rw [l];exact(J.other k b).trans (I.other k a)
 have bm:u.heap[f.mb]?=some (.cells #[mv] TCod (0,0)):=by rw [l];exact(J.other _ (fun e=>H e.symm)).trans I.blk
 have bs:u.heap[f.sb]?=some (.cells #[.int .i64 (ch:Int)] TInt (0,0)):=by rw [l];exact J.blk
 have r:Stp M w M u:=by rw [l];exact(I.AQ A.mb).trans (J.AQ A.sb)
 have U:u.heap.size=w.heap.size:=by rw [l];exact J.size.trans I.size
 rw [<- l];have d:∀{k:Nat} {T:TypeId} {cs:Array Value},w.heap[k]?=some (.cells cs T (0,0))->T≠TCod->T≠TInt->u.heap[k]?=w.heap[k]? := fun {k} {T} {cs} t a b=>j k (aGF t E a) (aGF t G b);have y:∀{k:Nat} {V:Array MapEntry} {n:Nat},w.heap[k]?=some (.map V n)->u.heap[k]?=w.heap[k]? := fun {k} {V} {n} t=>j k (fun q=>aGN t E q.symm) (fun q=>aGN t G q.symm);have hl:=Fg.Le.refl F;obtain⟨V,nn,K⟩:=h.fw.map.F6;obtain⟨ab,n2,D⟩:=h.fw.CY.B3.F6;have hO:∀b,O b->u.heap[b]?=w.heap[b]? := fun b hb=>by obtain⟨_,⟨s,X⟩,_⟩:=h.fw.oth b hb;exact d X tSi.1.symm tSi.2.1.symm
 have Y:FW c.L M O u F (c.B+m) W:=by
  refine⟨⟨h.fw.CY.B3.keep (r.block _ h.fw.CY.B3.lt.1 h.fw.CY.JJ).1 (y D),h.fw.CY.pairs.AQ r,h.fw.CY.FV,h.fw.CY.JJ,fun k t=>by rw [U];exact h.fw.CY.mlt k t⟩,h.fw.NN.go r,h.fw.TH,h.fw.UE,h.fw.map.keep (y K),h.fw.gn,fun k g t=>?_,h.fw.ginj,h.fw.gall,h.fw.gpl,fun L z=>?_,h.fw.sn1,h.fw.sn2,h.fw.sgl,h.fw.pql,h.fw.pqi,fun i b q N P Q=>(h.fw.pqa i b q N P Q).go r hl,h.fw.AG.mono (fun b x hx=>hx.go r hl),⟨h.fw.places.len,h.fw.places.inj,fun i g o p Z hp=>?_⟩,fun k t=>?_,h.fw.pr,h.fw.gs.AQ r,h.fw.JQ.AQ h.fw.gs r,(bY h.fw.gs r kT).trans h.fw.gt,?_,h.fw.tq,h.fw.tc,h.fw.nl⟩
  ·obtain⟨N,v',c',nm,P,Q,h4⟩:=h.fw.gat k g t;exact⟨N,v',c',nm,P,(d Q tSi.2.2.1.symm tSi.2.2.2.1.symm).trans Q,h4⟩
  ·by_cases q:L=f
   ·subst q;exact⟨A.mb,A.sb,us,mv,gv,ch,ch,bm,bs,(d R tSi.2.2.1.symm tSi.2.2.2.1.symm).trans R,n_,e5.AQ r,e6,e7,fun _=>e8.go r⟩
   ·have B:=h.fw.sit L z;obtain⟨ac,ad,ae,c2,x2,f1,f2,f3,_⟩:=B.ex;refine B.go r B.mb B.sb (j _ (fun e=>q (aI5 h.fw.sn1 z C e)) (aGF f1 G tSi.2.2.2.2.1)) (j _ (aGF f2 E tSi.2.2.2.2.1.symm) (fun e=>q (aI5 h.fw.sn2 z C e))) (d f3 tSi.2.2.1.symm tSi.2.2.2.1.symm)
  ·obtain⟨k1,s,x,k2,k3,k4⟩:=h.fw.places.at_ i g o p Z hp;exact⟨k1,s,x,(d k2 tSi.1.symm tSi.2.1.symm).trans k2,k3,k4⟩
  ·obtain⟨a1,⟨s,X⟩,a3⟩:=h.fw.oth k t;exact⟨a1,⟨s,(hO k t).trans X⟩,a3⟩
  ·obtain⟨v,N,P⟩:=h.fw.ge;exact⟨v,(bY h.fw.gs r kU).trans N,P⟩
 obtain⟨lv,av,aa,ov,m1,m2,m3⟩:=h.mc;refine⟨⟨Y,⟨lv,av,aa,ov,⟨(d m1.blk tSi.2.2.2.2.2.1.symm tSi.2.2.2.2.2.2.1.symm).trans m1.blk,m1.m⟩,⟨aGD m2.1 (fun g hg=>?_),m2.2⟩,⟨aGD m3.1 (fun g hg=>?_),m3.2⟩⟩,h.bd⟩,r,hO,d R tSi.2.2.1.symm tSi.2.2.2.1.symm⟩
 ·obtain⟨s,hc⟩:=aF9 m2.1 hg;exact d hc tSi.2.2.2.2.2.2.2.1.symm tSi.2.2.2.2.2.2.2.2.1.symm
 ·obtain⟨s,hc⟩:=aF9 m3.1 hg;exact d hc tSi.2.2.2.2.2.2.2.2.2.1.symm tSi.2.2.2.2.2.2.2.2.2.2.symm
theorem Sl.uniq{T:TypeId}{v:Value}{vs:List Value}(h:Sl M w T 1 v us.length us)(k:Sl M w T 1 v vs.length vs):us=vs:=by
 obtain⟨_,z,j,rfl,_,l⟩:=h;obtain⟨_,m,c,e,_,n⟩:=k;simp only [Value.slice.injEq] at e;obtain⟨rfl,o,_⟩:=e;refine List.ext_getElem o (fun i p q=>?_);rcases l with A | ⟨g,r,s,rfl,_,t,u⟩
 ·omega
 ·rcases n with B | ⟨C,d,f,e,_,a,b⟩
  ·omega
  ·simp only [o_,Addr.mk.injEq,and_true] at e;obtain⟨rfl,rfl⟩:=e;rw [t] at a;simp only [o_,Obj.cells.injEq,and_true] at a;subst a;have x:=u i _ (g_ p);have y:=b i _ (g_ q);exact i_ (x.symm.trans y)
theorem aGP{b o:Nat}{v:Value}(h:k≠b):(w.setCell ⟨b,0,none⟩ v).cell? ⟨k,o,none⟩=w.cell? ⟨k,o,none⟩:=World.cell?_of_block (w:=w) (Below.heap_setCell _ _ _ _ (fun x=>h (by simpa using x)))
def CgS(b1 b2 b3 g ch:Nat)(gv ar:Value)(ko:Nat)(co:Array Value)(wx:World):Prop:=wx.cell? ⟨b1,0,none⟩=some (.pointer (some ⟨g,0,none⟩))/\wx.cell? ⟨b2,0,none⟩=some ar/\wx.cell? ⟨b3,0,none⟩=some (.func (.func ko) #[] co)/\wx.cell? ⟨g,0,none⟩=some gv/\wx.cell? ⟨g,1,none⟩=some (.int .i64 (ch:Int))
theorem Fs.entGl:Enters 205:=enters_of func205 (by kernel_rfl) rfl
theorem aKO{c:Cx}{F0:Fg}{b1 b2 b3:Nat}{g:Site}(nm:AE)(d:Pl.A9)(v:PV)(ks:List PF)(ns:List AE)(L:AE)(d':Pl.A9)(v':PV)(ab:List PF)(ac:List AE)(sc:List (List AE))(bb:g∈F0.cs)(D:Bx M0 w0 b1 (pt g.g) TGlP)(E:Bx M0 w0 b2 g.ar TCds)(G:Bx M0 w0 b3 g.ot TCod)(hn:F0.s.ns[k]?=some L)(hg:F0.gl k=some g.g)(bc:scF sc L=none)(ad:Sl M0 w0 TCod 1 g.ar us.length us)(ae:us.length=ks.length)(af:∀(i:Nat)(u:Value)(x:PF),us[i]?=some u->ks[i]?=some x->RC M0 w0 F0 u x sc)(aj:∀(i:Nat)(u:Value)(x:PF),us[i]?=some u->ks[i]?=some x->CodeOk c M0 w0 F0 u x sc)(X:CodeUp c M0 w0 F0 g.ot (.mk .call nm d v (.mk .name L d' v' ab ac::ks) ns) sc):CodeUp c M0 w0 F0 (fnV 205 #[pt g.sb,pt b1,pt b2,pt b3,pt g.mb]) (.mk .call nm d v (.mk .name L d' v' ab ac::ks) ns) sc:=by
 refine⟨_,_,rfl,Fs.entGl,?_⟩;intro M O w F kv hv K n W S y l h he ha hf hK hT;show Calls prog 205 #[.pointer (some ⟨c.rb,0,none⟩),hv,.pointer (some ⟨g.sb,0,none⟩),.pointer (some ⟨b1,0,none⟩),.pointer (some ⟨b2,0,none⟩),.pointer (some ⟨b3,0,none⟩),.pointer (some ⟨g.mb,0,none⟩)] w _;obtain⟨f,ak⟩:∃f,f=Pl.PF.mk .call nm d v (.mk .name L d' v' ab ac::ks) ns:=⟨_,rfl⟩
 have bd:f.k=.call:=by rw [ak];rfl
 have an:f.ks=.mk .name L d' v' ab ac::ks:=by rw [ak];rfl
 rw [<- ak] at hf hT X ⊢;have ai:=aKZ l.cs bb;have z:=h.fw.sit g ai;obtain⟨o,ap,gv,ch,e0,e1,e2,e3,e4,e5,e6,e7,e8⟩:=z.ex;have I:=ad.AQ y;obtain rfl:o=us:=Sl.uniq e5 I;have aq:=bS l.s.ns hn;have ar:=l.gl _ _ hg;obtain⟨m,r,g1,g2,g3⟩:=h.DI ar aq;have be:m=gv/\r=ch:=by rw [e3] at g1;simp only [o_,Obj.cells.injEq,Array.mk.injEq,List.cons.injEq,Value.int.injEq,and_true,true_and] at g1;exact⟨g1.1.symm,by have:=g1.2;omega⟩
 obtain⟨rfl,rfl⟩:=be;have bv:=h.bd;have bw:n<=c.T:=ha.le;obtain⟨R,U,Y⟩:∃R U,g.ot=fnV R U:=by obtain⟨R,U,e,_⟩:=X;exact⟨R,U,e⟩
 obtain⟨V,j,Z⟩:∃V j,g.ar=.slice V o.length j:=by obtain⟨_,V,j,e,_⟩:=ad;exact⟨V,j,e⟩
 have d1:=(D.go y).cell;have d2:=(E.go y).cell;have d3:=(G.go y).cell;have l1:=aB (D.go y).2;have l2:=aB (E.go y).2;have l3:=aB (G.go y).2;have ls:=aB e2;have lm:=aB e1;have lg:=aB e3;have bx:w.cell? ⟨g.sb,0,none⟩=some (.int .i64 (e0:Int)):=aA e2 0;have bz:w.cell? ⟨g.mb,0,none⟩=some ap:=aA e1 0;have bf:w.cell? ⟨g.g,0,none⟩=some m:=aA e3 0;have bg:w.cell? ⟨g.g,1,none⟩=some (.int .i64 (r:Int)):=aA e3 1;have HM:Hid (∀M2 w2 N,Stp M w M2 w2->(∀b,O b->w2.heap[b]?=w.heap[b]?)->St c M2 O w2 F kv n W->w2.heap[g.g]?=some (.cells #[m,.int .i64 (r:Int)] TGlb (0,0))->MadeV M2 w2 o g.ot m N->∃A cm,N=fnV A cm/\Enters A/\Calls prog A (#[pt c.rb,hv]++cm) w2 (Post c M O w F kv K (n+1) (2*IU f-1))):=fun M2 w2 N q1 q2 q3 q4 q5=>by have s2:=y.trans q1;obtain⟨A,cm,r1,r2,r3⟩:=aLM (O:=O) bd an aq ar q4 q5 ae (fun i u x hu hx=>(aj i u x hu hx).go s2 l) (fun i u x hu hx=>(af i u x hu hx).go s2 l) (X.go s2 l) bc q3 (he.go q1 (Sg.Le.refl _)) ha hf hK hT;exact⟨A,cm,r1,r2,r3.mono (fun e w' hp=>hp.after q1 q2 (Fg.Le.refl _) n_ n_)⟩
 have H:Below w.heap.size w w.drew:=r_.drew;have J:Below w.heap.size w w.drew.drew:=H.drew;by_cases au:e0=r
 ·obtain⟨A,cm,rfl,B,s⟩:=HM.out M w.drew ap (Stp.AA H) (fun b hb=>H.block b (h.fw.olt hb)) (h.below H) e3 ((e8 au).go (Stp.AA H));have HC:=h_ s;have bh:∀(C:Array Value)(w:World),(callFunc A C).run prog w=.ok (.enter A C) w:=B;obtain⟨ho,rfl⟩:=he.ptr;subst au;clear h y he ha D E G ad I af aj X z e1 e2 e3 e5 e7 e8 s B HM H J hf hK hT g1 g3 ae;go_enter func205,ntmps205;go_wp2_with fail
  go_region
  all_goals
   go_wp2_with (go_at_fn A;refine(Calls.mono HC ?_);intro e P hp;obtain⟨v',x',rfl⟩:=hp.tup;have al:=(show Hid _ from hp);clear hp)
   go_ret2;exact al
 ·have HK:Hid (Calls prog 204 #[m,g.ar,g.ot] w.drew.drew (KnQ w.drew.drew o g.ot m)):=by
   rw [Y,Z];rcases g3 with⟨_,rfl⟩ | ⟨i,p,_,_,g5⟩
   ·exact aHS _ _ _ _ _ _ _ _ Tryz.fp_nil (fun x q=>by cases q)
   ·rcases g5.isPr h.fw.tq h.fw.tc with⟨kp,t,_,_,_,rfl⟩ | ⟨⟨T,x,rfl,bi⟩,bj⟩
    ·refine aLO M _ kp o R U V j (by rw [<- Z];exact I.AQ (Stp.AA J)) (fun u hu=>?_) (by omega);obtain⟨i,hi⟩:=List.getElem?_of_mem hu;obtain⟨x,hx⟩:∃x,ks[i]?=some x:=⟨_,g_ (by rw [<- ae];exact(s_ hi).1)⟩
     exact(af i u x hi hx).func
    ·exact aHS _ _ _ _ _ _ _ _ bi bj
  obtain⟨ho,rfl⟩:=he.ptr;obtain⟨bk,bl,rfl⟩:=e7;rw [Y] at d3;rw [Z] at d2;have ca:g.sb≠g.mb:=aGF e2 e1 tSi.2.2.2.2.1.symm;have bm:b1≠g.mb:=fun q=>(D.go y).1 (by rw [q];exact z.mb);have bn:b1≠g.sb:=fun q=>(D.go y).1 (by rw [q];exact z.sb);have bo:b2≠g.mb:=fun q=>(E.go y).1 (by rw [q];exact z.mb);have bp:b2≠g.sb:=fun q=>(E.go y).1 (by rw [q];exact z.sb);have bq:b3≠g.mb:=fun q=>(G.go y).1 (by rw [q];exact z.mb);have br:b3≠g.sb:=fun q=>(G.go y).1 (by rw [q];exact z.sb);have av:g.g≠g.mb:=aGF e3 e1 tSi.2.2.1.symm;have aw:g.g≠g.sb:=aGF e3 e2 tSi.2.2.2.1.symm;have ax:Hid (CgS b1 b2 b3 g.g r m (.slice V o.length j) R U w.drew.drew):=⟨d1,d2,d3,bf,bg⟩
  have ay:Hid (∀(Q:World)(v:Value),CgS b1 b2 b3 g.g r m (.slice V o.length j) R U Q->CgS b1 b2 b3 g.g r m (.slice V o.length j) R U (Q.setCell ⟨g.mb,0,none⟩ v)):=fun Q v q=>⟨(aGP bm).trans q.1,(aGP bo).trans q.2.1,(aGP bq).trans q.2.2.1,(aGP av).trans q.2.2.2.1,(aGP av).trans q.2.2.2.2⟩
  have az:Hid (∀(Q:World)(v:Value),CgS b1 b2 b3 g.g r m (.slice V o.length j) R U Q->CgS b1 b2 b3 g.g r m (.slice V o.length j) R U (Q.setCell ⟨g.sb,0,none⟩ v)):=fun Q v q=>⟨(aGP bn).trans q.1,(aGP bp).trans q.2.1,(aGP br).trans q.2.2.1,(aGP aw).trans q.2.2.2.1,(aGP aw).trans q.2.2.2.2⟩
  have HB:Hid (∀P N,(∃k c,N=fnV k c)->Below w.drew.drew.heap.size w.drew.drew P->(∀M:Nat->Prop,(∀k,M k->k<w.drew.drew.heap.size)->MadeV M P o g.ot m N)->CgS b1 b2 b3 g.g r m (.slice V o.length j) R U P/\P.cell? ⟨g.mb,0,none⟩=some (fnV bk bl)/\P.cell? ⟨g.sb,0,none⟩=some (.int .i64 (e0:Int))/\P.frozen? ⟨g.mb,0,none⟩=false/\P.frozen? ⟨g.sb,0,none⟩=false/\∃A cm,N=fnV A cm/\Enters A/\Calls prog A (#[pt c.rb,.pointer ho]++cm) ((P.setCell ⟨g.mb,0,none⟩ N).setCell ⟨g.sb,0,none⟩ (.int .i64 (r:Int))) (Post c M O w F kv K (n+1) (2*IU f-1))):=fun P N ag ah aa=>by have hB:Below w.heap.size w P:=J.trans ah;have s3:=Stp.AA (M:=M) hB;have f1:=(hB.block _ lm).trans e1;have f2:=(hB.block _ ls).trans e2;have f3:=(hB.block _ lg).trans e3;obtain⟨z1,z2,z3,z4⟩:=(h.below hB).site ai f1 f2 f3 (e5.AQ s3) e6 ag (aa M (fun k hk=>h.fw.CY.mlt k hk));exact⟨⟨((D.go y).go s3).cell,by rw [<- Z];exact((E.go y).go s3).cell,by have:=((G.go y).go s3).cell;rw [Y] at this;exact this,aA f3 0,aA f3 1⟩,aA f1 0,aA f2 0,aF f1 0,aF f2 0,HM M _ N (s3.trans z2) (fun b hb=>(z3 b hb).trans (hB.block b (h.fw.olt hb))) z1 (z4.trans f3) ((aa M (fun k hk=>h.fw.CY.mlt k hk)).go z2)⟩
  have bu:¬((e0:Int)=(r:Int)):=by omega
  have cb:∀(a:Addr)(fn:Fn)(first j:Array Value)(w:World),(store a (.func fn first j)).run prog w=stored prog w a (.func fn first j) .plain:=fun _ _ _ _ _=>run_store _ _ _ _ _ rfl;rw [Y,Z] at HK;rw [Y] at HB;clear h y he ha D E G ad I af aj X z e1 e2 e3 e5 e8 HM H J hf hK hT g1 g3 ae;unfold CgS at ax ay az HB;go_enter func205,ntmps205;go_wp2_with fail
  go_region
  all_goals
   go_wp2_with fail
   go_region_held3 (fun Q=>Q.cell? ⟨b1,0,none⟩=some (.pointer (some ⟨g.g,0,none⟩))/\Q.cell? ⟨b2,0,none⟩=some (.slice V o.length j)/\Q.cell? ⟨b3,0,none⟩=some (.func (.func R) #[] U)/\Q.cell? ⟨g.g,0,none⟩=some m/\Q.cell? ⟨g.g,1,none⟩=some (.int .i64 (r:Int)))
    (first | exact ax.out | exact bs.out | (refine ay.out _ _ ?_;assumption) | (refine az.out _ _ ?_;assumption))
    ((refine aGJ (by rfl) 204 _ _ _ _ (by rfl) func204 (by kernel_rfl) rfl _ _ _ (by rfl) (by rfl) (by rfl) HK ?_;rintro e P ⟨N,rfl,ag,ah,aa⟩;obtain⟨ba,i3,i4,i5,i6,A,cm,am,B,s⟩:=HB.out P N ag ah aa;replace am:N=Value.func (.func A) #[] cm:=am;subst am;have bs:=(show Hid _ from ba);have bh:∀(C:Array Value)(w:World),(callFunc A C).run prog w=.ok (.enter A C) w:=B;have bt:=(show Hid _ from s);clear s B ag ah aa ba;refine⟨_,rfl,?_⟩))
   all_goals
    go_wp2_with (go_at_fn A;refine(Calls.mono bt ?_);intro e w4 hp;obtain⟨v',x',rfl⟩:=hp.tup;have al:=(show Hid _ from hp);clear hp)
    go_ret2;exact al
end
end Go.Proofs.YtieooapcfpimlaaGreatDoor
