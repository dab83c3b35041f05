import Derived.Shelf.Abstract
import Derived.Test.YtieooapcfpimlaaGreatDoorL34
namespace Go.Proofs.YtieooapcfpimlaaGreatDoor
set_option maxHeartbeats 2000000
set_option maxRecDepth 100000
open Go.Proofs.Tryz
open Pl (PV PW PS PF CW AE)
section
open Go.RowKit Go.Maps Go.Lib
variable {w w' w0:World} {M O M0:Nat->Prop} {g n k N z b4 m b5 i c:Nat} {kv v v0:Value} {cs:Array Value} {T:TypeId} {e:Ending} {o:Obj}
theorem aGM(w:World)(b c:Value)(a:ByteArray)(x:Int):Calls prog 198 #[b,aY a x,c] w fun e d=>e=aGG .nilIface (aY a x)/\w=d:=by unfold aY;go_enter func198,ntmps198;go_wp2_with fail;go_ret2;exact⟨rfl,rfl⟩
theorem PoR.wide{c:Cx}{F:Fg}{K:List CW}{z':Nat}{W:PW}{S:PS}(h:PoR c M O w F kv K k z W S e)(g:z<=z'):PoR c M O w F kv K k z' W S e:=by
 cases h with
 | val v i j a l m d n h=>exact .val v i j a l m d n h
 | err f x o a p h=>exact .err f x o a p h
 | spent f g h=>exact .spent f g h
 | pend q r s b a d t h=>exact .pend q r s b a d (by omega) h
theorem Post.after{c:Cx}{M2:Nat->Prop}{w3:World}{F G:Fg}{K:List CW}{n' z':Nat}(d:Stp M w M2 w3)(f:∀b,O b->w3.heap[b]?=w.heap[b]?)(l:Fg.Le F G)(h:Post c M2 O w3 G kv K n' z' e w')(s:n<=n')(t:n'+z'<=n+z):Post c M O w F kv K n z e w':=by obtain⟨g,i,k,W,S,j,m,o,p,q,u,v,r⟩:=h;exact⟨g,i,k,W,S,d.trans j,fun b a=>(m b a).trans (f b a),l.trans o,p,q,by omega,by omega,r.wide (by omega)⟩
theorem Post.tup{c:Cx}{F:Fg}{K:List CW}(h:Post c M O w F kv K n z e w'):∃v x,e=aGG v x:=by
 obtain⟨b,d,k,W,S,f,g,i,j,l,m,o,a⟩:=h
 cases a<;>exact⟨_,_,rfl⟩
theorem FW.olt{L:Lo}{F:Fg}{W:PW}(h:FW L M O w F N W){b:Nat}(a:O b):b<w.heap.size:=by obtain⟨_,⟨c,d⟩,_⟩:=h.oth b a;exact aB d
theorem CodeUp.ok{c:Cx}{F:Fg}{u:Value}{f:PF}{sc:List (List AE)}(h:CodeUp c M w F u f sc):CodeOk c M w F u f sc:=by obtain⟨b,a,d,g,i⟩:=h;exact⟨b,a,d,g,fun M O w F j k K n W S l m o p q r s t=>(i M O w F j k K n W S l m o p q r s t).mono (fun e x v=>v.after (Stp.refl _ _) (fun _ _=>rfl) (Fg.Le.refl _) (by omega) (by have:=aGO f;omega))⟩
theorem aK5{c:Cx}{F0:Fg}{b1 b2 b3 j:Nat}{u tk:Value}{x:PF}{fr:CW}{sc:List (List AE)}{zt:Nat}(h1:Bx M0 w0 b1 (.int .i64 (j:Int)) TInt)(h2:Bx M0 w0 b2 u TCod)(h3:Bx M0 w0 b3 tk TTak)(hu:CodeOk c M0 w0 F0 u x sc)(hr:RT M0 w0 F0 tk fr sc)(ht:TakeOk c M0 w0 F0 tk fr sc zt)
  {M O:Nat->Prop} {w:World} {F:Fg} {kv hv:Value} {K:List CW} {n z:Nat} {W:PW} {S1:PS} (B:Stp M0 w0 M w) (l:Fg.Le F0 F) (h:St c M O w F kv n W) (he:EnvF M w F.s hv fr.env sc) (ha:c.At (n+j) W S1) (hf:S1.form=some x) (ab:S1.env=fr.env) (hK:S1.AB=fr::K) (hT:n+z<=c.T) (hz:j+2*IU x+zt<=z) (ai:1<=zt) (hj:1<=j/\j<=3) :
  Calls prog 197 #[.pointer (some ⟨c.rb,0,none⟩),hv,.pointer (some ⟨b1,0,none⟩),.pointer (some ⟨b2,0,none⟩),.pointer (some ⟨b3,0,none⟩)] w (Post c M O w F kv K (n+1) (z-1)):=by
 obtain⟨kf,ag,rfl,eg,J⟩:=hu;obtain⟨kt,L,rfl,et,N⟩:=ht;obtain⟨c4,_,f4⟩:=h.cells;have aj:=h.bd.2.1;have hn:n<=1010000:=by omega
 have d1:=(h1.go B).cell;have d2:=(h2.go B).cell;have d3:=(h3.go B).cell;have n1:=h.ne (h1.go B).1;have n2:=h.ne (h2.go B).1;have n3:=h.ne (h3.go B).1;obtain⟨o,rfl⟩:=he.ptr;have l1:=aB (h1.go B).2;have l2:=aB (h2.go B).2;have l3:=aB (h3.go B).2;have l4:c.rb<w.heap.size:=World.block_lt_of_cell? _ _ c4;obtain⟨t1,t2,t3⟩:=h.tick (n+j);obtain⟨H,Y⟩:∃H,H=w.setCell ⟨c.rb,4,none⟩ (.int .i64 ((n+j:Nat):Int)):=⟨_,rfl⟩
 have ac:H.heap.size=w.heap.size:=by rw [Y];simp [World.setCell]
 rw [<- Y] at t1 t2 t3;have S:Below H.heap.size H (H.alloc (.cells #[.pointer o] TPlP)).drew:=b_.drew;have ad:=t1.below S;have U:=t2.trans (Stp.AA (M:=M) S);have ae:=fun b (p:O b)=>(S.block b (t1.fw.olt p)).trans (t3 b p);have bx:Bx M (H.alloc (.cells #[.pointer o] TPlP)).drew w.heap.size (.pointer o) TPlP:=⟨fun x=>by have:=h.fw.CY.mlt _ x;omega,by rw [<- ac];exact heap_alloc_new H _⟩
 have HC:Hid (Calls prog kf (#[pt c.rb,.pointer o]++ag) (H.alloc (.cells #[.pointer o] TPlP)).drew (Post c M O (H.alloc (.cells #[.pointer o] TPlP)).drew F kv (fr::K) (n+j) (2*IU x))):=J M O _ F kv (.pointer o) (fr::K) (n+j) W S1 (B.trans U) l (ad.up (by omega)) (by rw [ab];exact he.go U (Sg.Le.refl _)) ha hf hK (by omega);have HV:Hid (∀f G k g i d,Stp M w f d->(∀b,O b->d.heap[b]?=w.heap[b]?)->Fg.Le F G->c.At k g i->i.ended=false->n+j<=k+1->k+2<=n+j+2*IU x->∀v Z V,Pl.step g i=⟨0,Z,V⟩->(c.z<=k->Z.out=g.out)->V.form=none->V.AB=fr::K->RV G.s v V.val->St c f O d G kv (k+1) Z->Calls prog kt (#[pt c.rb,.pointer o,v]++L) (d.setCell ⟨c.rb,4,none⟩ (.int .i64 ((k+1+1:Nat):Int))) (Post c M O w F kv K (n+1) (z-1))):=fun f G k g i d m C r D E P Q v Z V s t R I r5 r6=>by obtain⟨y1,y2,y3⟩:=r6.tick (k+1+1);refine(N f O _ G kv (.pointer o) v K (k+1) Z V ((B.trans m).trans y2) (l.trans r) y1 (he.go (m.trans y2) r.s) (D.next E s t (by omega)) R I r5 (by omega)).mono ?_;intro e w' X;exact X.after (m.trans y2) (fun b p=>(y3 b p).trans (C b p)) r (by omega) (by omega)
 have HP:Hid (∀f G k g i d,Stp M w f d->(∀b,O b->d.heap[b]?=w.heap[b]?)->Fg.Le F G->c.At k g i->i.ended=false->n+j<=k+1->k+2<=n+j+2*IU x->Bx f d w.heap.size (.pointer o) TPlP->∀Fs S0 fx a,Pl.step g i=Pl.apply g S0 fx a->S0.AB=Fs++fr::K->Fs.length<=2*IU x->Pend c f O d G kv (k+1) g Fs fx a->Calls prog 198 #[.pointer (some ⟨c.rb,0,none⟩),.nilIface,fnV 199 #[pt b3,pt w.heap.size]] d fun e w'=>e=aGG .nilIface .nilIface/\Post c M O w F kv K (n+1) (z-1) (aGG .nilIface .nilIface) w'):=fun f G k g i d m C r D E P Q qb Fs S0 fx a s t R I=>by have af:=B.trans m;have l2:=l.trans r;refine(aJW I (fr:=fr) (.hand b3 w.heap.size (fnV kt L) (.pointer o) fr sc (h3.go af) qb (he.go m r.s) (hr.go af l2)) (by omega)).mono ?_;rintro e w' ⟨rfl,M',y1,y2,y3⟩;exact⟨rfl,M',G,k,g,i,m.trans y1,fun b p=>(y2 b p).trans (C b p),r,D,E,by omega,by omega,.pend (Fs++[fr]) S0 fx a s (by rw [t];simp) (by simp;omega) y3⟩
 have HN:Hid (∀f G k g i d,Stp M w f d->(∀b,O b->d.heap[b]?=w.heap[b]?)->Fg.Le F G->c.At k g i->i.ended=false->n+j<=k+1->k+2<=n+j+2*IU x->∀e,PoR c f O d G kv K k (z-1) g i e->Post c M O w F kv K (n+1) (z-1) e d):=fun f G k g i d m C r D E P Q e qr=>⟨f,G,k,g,i,m,C,r,D,E,by omega,by omega,qr⟩
 have A:Hid (Stp M w M (H.alloc (.cells #[.pointer o] TPlP)).drew/\(∀b,O b->(H.alloc (.cells #[.pointer o] TPlP)).drew.heap[b]?=w.heap[b]?)/\Bx M (H.alloc (.cells #[.pointer o] TPlP)).drew w.heap.size (.pointer o) TPlP):=⟨U,ae,bx⟩
 have HD:Hid (∀f d,Stp M w f d->d.cell? ⟨b3,0,none⟩=some (fnV kt L)):=fun f d q=>((h3.go B).go q).cell;have ak:∀(a:Array Value)(w:World),(callFunc kf a).run prog w=.ok (.enter kf a) w:=eg;have al:∀(a:Array Value)(w:World),(callFunc kt a).run prog w=.ok (.enter kt a) w:=et;subst Y;clear J N h ad t1 t2 t3 U ae bx he ha hf ab hK hr h1 h2 h3 B l S ac eg et;go_enter func197,ntmps197;go_wp2_with fail
 go_region
 go_wp2_with (go_at_fn kf;(refine(Calls.mono HC ?_);rintro e d ⟨f,G,k,g,i,m,C,r,D,E,P,Q,qr⟩;rcases qr with⟨v,Z,V,s,t,R,I,r5,r6⟩ | ⟨es,y,s,t,R,I⟩ | ⟨es,s,t⟩ | ⟨Fs,S0,fx,a,s,t,R,I⟩<;>refine Hid.out ?_))
 ·have ah:Hid _:=HV.out f G k g i d (A.1.trans m) (fun b p=>(C b p).trans (A.2.1 b p)) r D E P Q v Z V s t R I r5 r6;obtain⟨k4,_,g4⟩:=r6.cells;have hk:k<=1010000:=by omega
  have am:=(A.2.2.go m).cell;obtain⟨T,y,rfl⟩:=r5.iface;have an:=HD.out f d (A.1.trans m);have n4:w.heap.size≠c.rb:=by omega
  clear m C r D E P Q s t R I r5 r6 HC HV HP HN A HD;unfold Hid;go_wp2_with (go_at_fn kt;refine(Calls.mono ah ?_);intro e w3 X;obtain⟨v',x',rfl⟩:=X.tup;have aa:=(show Hid _ from X);clear X);go_ret2;exact aa
 ·have HX:Hid _:=HN.out f G k g i d (A.1.trans m) (fun b p=>(C b p).trans (A.2.1 b p)) r D E P Q _ (.err es y s t R I);clear m C r D E P Q s t R I HC HV HP HN A HD;unfold Hid;go_wp2_with (go_at_call 198;refine(aGM _ _ _ _ _).mono ?_;rintro e w3 ⟨rfl,rfl⟩);go_ret2;exact HX
 ·have HX:Hid _:=HN.out f G k g i d (A.1.trans m) (fun b p=>(C b p).trans (A.2.1 b p)) r D E P Q _ (.spent es s t);clear m C r D E P Q s t HC HV HP HN A HD;unfold Hid;go_wp2_with (go_at_call 198;refine(aGM _ _ _ _ _).mono ?_;rintro e w3 ⟨rfl,rfl⟩);go_ret2;exact HX
 ·have HX:Hid _:=HP.out f G k g i d (A.1.trans m) (fun b p=>(C b p).trans (A.2.1 b p)) r D E P Q (A.2.2.go m) Fs S0 fx a s t R I;clear m C r D E P Q s t R I HC HV HP HN A HD;unfold Hid;go_wp2_with (go_at_call 198;refine(Calls.mono HX ?_);rintro e w3 ⟨rfl,X⟩;have aa:=(show Hid _ from X);clear X);go_ret2;exact aa
theorem FW.NH{L:Lo}{F:Fg}{W:PW}(h:FW L M O w F N W):IS F.s:=.inr ⟨h.tq,h.tc⟩
theorem tk_iff{W:PW}{S:PS}{fr:CW}{K:List CW}{x y z:PF}(b:S.form=none)(c:S.AB=fr::K)(d:fr.form.k=.iff)(a:fr.form.ks=[x,y,z]):Pl.step W S=⟨0,W,({S with AB:=K}:PS).work (some (if S.val=.AT false then z else y)) fr.env⟩:=by unfold Pl.step;rw [b];simp only [Pl.taken,c,d,a];by_cases h:S.val=.AT false<;>simp [h,Pl.PS.work]
theorem Fs.entChoice:Enters 182:=enters_of func182 (by kernel_rfl) rfl
theorem aJQ{c:Cx}{D:Fg}{v1 v2:Value}{x y z:PF}{fr:CW}{sc:List (List AE)}(E:fr.form.k=.iff)(g:fr.form.ks=[x,y,z])(G:Bx M0 w0 b4 v2 TCod)(H:Bx M0 w0 b5 v1 TCod)(Q:CodeOk c M0 w0 D v1 y sc)(R:CodeOk c M0 w0 D v2 z sc):TakeOk c M0 w0 D (fnV 182 #[pt b4,pt b5]) fr sc (1+2*(IU y+IU z)):=by
 refine⟨_,_,rfl,Fs.entChoice,?_⟩;intro M O w F s U v K k W S p l h q I J t f hT;show Calls prog 182 #[.pointer (some ⟨c.rb,0,none⟩),U,v,.pointer (some ⟨b4,0,none⟩),.pointer (some ⟨b5,0,none⟩)] w _;obtain⟨A,V,rfl,L,i⟩:=Q;obtain⟨B,X,rfl,N,j⟩:=R;have d4:=(G.go p).cell;have d5:=(H.go p).cell;have r:=f.eqFalse h.fw.NH;obtain⟨T,u,rfl⟩:=f.iface;obtain⟨o,rfl⟩:=q.ptr;have Y:∀(a:Array Value)(w:World),(callFunc A a).run prog w=.ok (.enter A a) w:=L;have Z:∀(a:Array Value)(w:World),(callFunc B a).run prog w=.ok (.enter B a) w:=N;have m:=tk_iff (W:=W) J t E g;have b:=I.next (aF8 t) m (fun _=>rfl) (by omega);by_cases C:S.val=.AT false
 ·rw [if_pos C] at b;have P:Hid (Calls prog B (#[pt c.rb,.pointer o]++X) w (Post c M O w F s K (k+1) (1+2*(IU y+IU z)))):=(j M O w F s (.pointer o) K (k+1) W _ p l (h.up (by omega)) q b rfl rfl (by omega)).mono (fun e w' d=>d.after (Stp.refl _ _) (fun _ _=>rfl) (Fg.Le.refl _) (by omega) (by omega));simp only [C,decide_true] at r;clear i j h q I b m p l G H J t f E g L N;go_enter func182,ntmps182;go_wp2_with (go_at_fn B;refine(Calls.mono P ?_);intro e w3 d;obtain⟨v',x',rfl⟩:=d.tup;have n:=(show Hid _ from d);clear d);go_ret2;exact n
 ·rw [if_neg C] at b;have P:Hid (Calls prog A (#[pt c.rb,.pointer o]++V) w (Post c M O w F s K (k+1) (1+2*(IU y+IU z)))):=(i M O w F s (.pointer o) K (k+1) W _ p l (h.up (by omega)) q b rfl rfl (by omega)).mono (fun e w' d=>d.after (Stp.refl _ _) (fun _ _=>rfl) (Fg.Le.refl _) (by omega) (by omega));simp only [C,decide_false] at r;clear i j h q I b m p l G H J t f E g L N;go_enter func182,ntmps182;go_wp2_with (go_at_fn A;refine(Calls.mono P ?_);intro e w3 d;obtain⟨v',x',rfl⟩:=d.tup;have n:=(show Hid _ from d);clear d);go_ret2;exact n
structure Och(w:World)(g:Nat)(o:Obj)(w':World):Prop where
 os:w'.os=w.os
 tape:w'.tape=w.tape
 output:w'.output=w.output
 size:w'.heap.size=w.heap.size
 blk:w'.heap[g]?=some o
 other:∀k,k≠g->w'.heap[k]?=w.heap[k]?
theorem Och.set(a:w.heap[g]?=some (.cells cs T (0,0)))(o:Nat)(v:Value):Och w g (.cells (cs.setIfInBounds o v) T (0,0)) (w.setCell ⟨g,o,none⟩ v) :=⟨rfl,rfl,rfl,by simp [World.setCell],aD a o v,fun k e=>Below.heap_setCell _ _ _ _ (fun x=>e (by simpa using x))⟩
theorem Och.trans{w1 w2:World}{a b:Obj}(h:Och w g a w1)(k:Och w1 g b w2):Och w g b w2 :=⟨k.os.trans h.os,k.tape.trans h.tape,k.output.trans h.output,k.size.trans h.size,k.blk,fun i e=>(k.other i e).trans (h.other i e)⟩
theorem Och.AQ(h:Och w g o w')(b:M g):Stp M w M w':=⟨h.os,h.tape,h.output,Nat.le_of_eq h.size.symm,fun k _ a=>⟨h.other k (fun e=>a (by rw [e];exact b)),a⟩⟩
theorem BM.och{s:Sg}{tb mb:Nat}{ps:List (PV×PV)}(h:BM M w s tb mb ps)(a:Och w g o w')(d:M g)(b:g≠mb):BM M w' s tb mb ps:=by have c:=a.AQ d;exact⟨h.B3.keep (c.block tb h.B3.lt.1 h.JJ).1 (a.other mb (fun e=>b e.symm)),h.pairs.AQ c,h.FV,h.JJ,fun k f=>by rw [a.size];exact h.mlt k f⟩
theorem aGN{a b:Nat}{d:Array MapEntry}{f:Nat×Nat}(g:w.heap[a]?=some (.map d n))(c:w.heap[b]?=some (.cells cs T f)):b≠a:=fun e=>by
 subst e;rw [g] at c
 cases c
theorem SitAt.tys{a:Site}(h:SitAt M w a)(b:w.heap[g]?=some (.cells cs T (0,0)))(d:T≠TCod)(f:T≠TInt):a.mb≠g/\a.sb≠g:=by obtain⟨k,l,m,c,e,i,j,n,_⟩:=h.ex;exact⟨aGF i b d.symm,aGF j b f.symm⟩
theorem tVs:B9≠TCod/\B9≠TInt/\B9≠TGlb/\TGlb≠TCod/\TGlb≠TInt:=by decide
theorem FW.SU{L:Lo}{F:Fg}{W:PW}(h:FW L M O w F N W){o:Nat}(D:F.s.lp[i]?=some (some (g,o))){p:PV}(hv:RV F.s v p) :FW L M O (w.setCell ⟨g,o,none⟩ v) F N {W with places:=W.places.set i p}/\Stp M w M (w.setCell ⟨g,o,none⟩ v)/\∀b,O b->(w.setCell ⟨g,o,none⟩ v).heap[b]?=w.heap[b]? := by
 obtain⟨p0,v0,e0,_,e2,Q,E,s⟩:=h.plc D;have ho:o<E.size:=by have:E[o]?=some v0:=(aA s o).symm.trans e2;exact(Array.getElem?_eq_some_iff.1 this).1
 have a:=Och.set s o v;have m:=a.AQ Q;obtain⟨es,n,G⟩:=h.map.F6;obtain⟨aa,n2,u⟩:=h.CY.B3.F6;have H:=Fg.Le.refl F;have t:∀k,O k->k≠g:=fun k A e=>by obtain⟨_,_,l⟩:=h.oth k A;exact l i o (by rw [e];exact D)
 refine⟨⟨h.CY.och a Q (aGN u s),h.NN.go m,h.TH,h.UE,h.map.keep (a.other _ (fun e=>aGN G s e.symm)),h.gn,fun k B hg=>?_,h.ginj,h.gall,h.gpl,fun I d=>?_,h.sn1,h.sn2,h.sgl,h.pql,h.pqi,fun i b q y z l=>(h.pqa i b q y z l).go m H,h.AG.mono (fun b x hx=>hx.go m H),⟨by simp [h.places.len],h.places.inj,?_⟩,fun k A=>?_,h.pr,h.gs.AQ m,h.JQ.AQ h.gs m,(bY h.gs m kT).trans h.gt,?_,h.tq,h.tc,h.nl⟩,m,fun b hb=>a.other b (t b hb)⟩
 ·obtain⟨y,v',c,U,z,l,h4,C⟩:=h.gat k B hg;refine⟨y,v',c,U,z,(a.other B (aGF l s tVs.2.2.1.symm)).trans l,h4,?_⟩;rcases C with C | ⟨K,V,C,h6,h7⟩
  ·exact .inl C
  ·refine .inr ⟨K,V,C,?_,h7⟩
   have R:i≠K:=fun e=>by
    have:=(h.gall U K C).2;rw [<- e,D] at this
    cases this
   show(W.places.set i p)[K]?=some V;rw [List.getElem?_set_ne R];exact h6
 ·obtain⟨k,A⟩:=h.sgl I d;obtain⟨_,_,_,_,_,l,_⟩:=h.gat k _ A;have X:=(h.sit I d).tys s tVs.1 tVs.2.1;exact(h.sit I d).go m (h.sit I d).mb (h.sit I d).sb (a.other _ X.1) (a.other _ X.2) (a.other _ (aGF l s tVs.2.2.1.symm))
 ·intro j B Y q J hq;have r:(W.places.set i p)[j]?=some q:=hq;by_cases e:i=j
  ·subst e;rw [D] at J;simp only [o_,Prod.mk.injEq] at J;obtain⟨rfl,rfl⟩:=J;have S:=(s_ e0).1;rw [List.getElem?_set_self S] at r;obtain rfl:=i_ r;exact⟨Q,_,v,a.blk,by simp [ho],hv⟩
  ·rw [List.getElem?_set_ne e] at r;obtain⟨Z,f,v2,P,k3,k4⟩:=h.places.at_ j B Y q J r;by_cases eg:B=g
   ·subst eg;rw [s] at P;simp only [o_,Obj.cells.injEq,and_true] at P;subst P;have T:o≠Y:=fun q=>by subst q;exact e (h.places.inj i j _ D J)
    exact⟨Z,_,v2,a.blk,by rw [Array.getElem?_setIfInBounds_ne T];exact k3,k4⟩
   ·exact⟨Z,f,v2,(a.other B eg).trans P,k3,k4⟩
 ·obtain⟨y,⟨f,z⟩,l⟩:=h.oth k A;exact⟨y,⟨f,(a.other k (t k A)).trans z⟩,l⟩
 ·obtain⟨v,y,z⟩:=h.ge;exact⟨v,(bY h.gs m kU).trans y,z⟩
theorem FW.gset{L:Lo}{F G:Fg}{N':Nat}{W W':PW}(h:FW L M O w F N W){nm:AE}(B:F.gl k=some g)(P:F.s.ns[k]?=some nm)(E:w.heap[g]?=some (.cells #[v0,.int .i64 (c:Int)] TGlb (0,0)))(d:Och w g (.cells #[v,.int .i64 ((c+1:Nat):Int)] TGlb (0,0)) w')(hN:N<=N')(hc:c+1<=N')(l:Fg.Le F G)(r:G.gl=F.gl)(Q:G.gn=F.gn)(y:G.cs=F.cs)(s:G.s.ns=F.s.ns)(ab:G.s.pb=F.s.pb)(H:G.s.qb=F.s.qb)(ac:G.s.cb=F.s.cb)(ad:G.pr=F.pr)(ae:W'.pairs=W.pairs)(I:W'.procs=W.procs)(af:W'.AG=W.AG)
  (R:∃i p,Pl.find W'.globals nm=some i/\W'.places[i]?=some p/\RV G.s v p) (S:∀f,f≠nm->Pl.find W'.globals f=Pl.find W.globals f/\∀(i:Nat)(p:PV),Pl.find W.globals f=some i->W.places[i]?=some p->W'.places[i]?=some p)
  (T:∀nm i,Pl.find W'.globals nm=some i->(∃k g,F.s.ns[k]?=some nm/\F.gl k=some g)/\G.s.lp[i]?=some none) (ag:∀a b i,Pl.find W'.globals a=some i->Pl.find W'.globals b=some i->a=b) (z:CM M w' G.s W'.places) (ah:∀(i:Nat)(x:Nat×Nat),G.s.lp[i]?=some (some x)->F.s.lp[i]?=some (some x)) :
  FW L M O w' G N' W'/\Stp M w M w'/\∀b,O b->w'.heap[b]?=w.heap[b]? := by
 have hm:=(h.gat k g B).1;have t:=d.AQ hm;obtain⟨es,n,U⟩:=h.map.F6;obtain⟨al,n2,J⟩:=h.CY.B3.F6;have C:∀k,O k->k≠g:=fun k B e=>by obtain⟨_,⟨am,m⟩,_⟩:=h.oth k B;exact aGF m E tVs.2.2.1 e
 refine⟨⟨by rw [ae];exact(h.CY.och d hm (aGN J E)).leS l.s ab s,h.NN.go t,h.TH,h.UE,?_,by rw [Q];exact t_ h.gn hN,fun k' V hg=>?_,by rw [r];exact h.ginj,?_,ag,?_,by rw [y];exact h.sn1,by rw [y];exact h.sn2,by rw [y,r];exact h.sgl,by rw [H,I];exact h.pql,by rw [H];exact h.pqi,?_,by rw [ac,af];exact h.AG.mono (fun b x hx=>hx.go t l),z,fun k B=>?_,by rw [ad,I];exact h.pr,h.gs.AQ t,h.JQ.AQ h.gs t,(bY h.gs t kT).trans h.gt,?_,by rw [l.s.tq];exact h.tq,by rw [l.s.tc];exact h.tc,by rw [s];exact h.nl⟩,t,fun b E=>d.other b (C b E)⟩
 ·obtain⟨D,u,m⟩:=h.map.keep (d.other _ (fun e=>aGN U E e.symm));exact⟨D,by rw [Q];exact u,m.tidy,by rw [r];exact m.yes,by rw [r];exact m.no⟩
 ·rw [r] at hg;obtain⟨u,v',c',f,m,X,h4,K⟩:=h.gat k' V hg;by_cases ek:k'=k
  ·subst ek;have Y:V=g:=i_ (hg.symm.trans B);subst Y;obtain⟨i,p,e1,e2,Z⟩:=R;exact⟨u,v,c+1,nm,by rw [s];exact P,d.blk,hc,.inr ⟨i,p,e1,e2,Z⟩⟩
  ·have ai:V≠g:=fun e=>ek (h.ginj k' k V hg (by rw [e];exact B));have aj:f≠nm:=fun e=>by rw [e] at m;obtain⟨D,_,hD⟩:=h.CY.B3.map;exact ek ((cV hD.nodup m).symm.trans (cV hD.nodup P))
   obtain⟨o1,o2⟩:=S f aj;refine⟨u,v',c',f,by rw [s];exact m,(d.other V ai).trans X,t_ h4 hN,?_⟩;rw [o1];rcases K with K | ⟨i,p,K,h6,h7⟩
   ·exact .inl K
   ·exact .inr ⟨i,p,K,o2 i p K h6,h7.le l.s⟩
 ·rw [s,r];exact T
 ·rw [y];intro A j;obtain⟨k',an⟩:=h.sgl A j;have hy:=(h.sit A j).tys E tVs.2.2.2.1 tVs.2.2.2.2;by_cases Y:A.g=g
  ·obtain⟨us,mv,gv,c',e,e1,e2,Z,e4,e5,e6,e7,e8⟩:=(h.sit A j).ex;rw [Y,E] at Z;simp only [o_,Obj.cells.injEq,Array.mk.injEq,List.cons.injEq,Value.int.injEq,and_true,true_and] at Z;have ak:c=c':=by have:=Z.2;omega
   subst ak;exact⟨(h.sit A j).mb,(h.sit A j).sb,us,mv,v,c+1,e,(d.other _ hy.1).trans e1,(d.other _ hy.2).trans e2,by rw [Y];exact d.blk,by omega,e5.AQ t,e6,e7,fun q=>by omega⟩
  ·exact(h.sit A j).go t (h.sit A j).mb (h.sit A j).sb (d.other _ hy.1) (d.other _ hy.2) (d.other _ Y)
 ·rw [H,I];exact fun i b q u m X=>(h.pqa i b q u m X).go t l
 ·obtain⟨u,⟨aa,m⟩,X⟩:=h.oth k B;exact⟨u,⟨aa,(d.other k (C k B)).trans m⟩,fun i o e=>X i o (ah i (k,o) e)⟩
 ·obtain⟨v,u,m⟩:=h.ge;exact⟨v,(bY h.gs t kU).trans u,m⟩
theorem p_gset(w:World)(g c:Nat)(b v:Value)(a:w.heap[g]?=some (.cells #[b,.int .i64 (c:Int)] TGlb (0,0)))(f:∃T x,v=.iface T x)(l:c<=9000000000000000000) :Calls prog 187 #[.pointer (some ⟨g,0,none⟩),v] w fun e h=>e=.returned (.tuple #[])/\Och w g (.cells #[v,.int .i64 ((c+1:Nat):Int)] TGlb (0,0)) h:=by
 obtain⟨T,x,rfl⟩:=f;have m:w.cell? ⟨g,0,none⟩=some b:=aA a 0;have n:w.cell? ⟨g,1,none⟩=some (.int .i64 (c:Int)):=aA a 1;have o:w.frozen? ⟨g,0,none⟩=false:=aF a 0;have p:w.frozen? ⟨g,1,none⟩=false:=aF a 1;have i:wrap64 ((c:Int)+1)=(c:Int)+1:=by unfold wrap64;omega
 have j:Hid (Och w g (.cells #[.iface T x,.int .i64 ((c+1:Nat):Int)] TGlb (0,0)) ((w.setCell ⟨g,0,none⟩ (.iface T x)).setCell ⟨g,1,none⟩ (.int .i64 ((c+1:Nat):Int)))):=by have d:=Och.set a 0 (.iface T x);have k:=Och.set d.blk 1 (.int .i64 ((c+1:Nat):Int));exact d.trans k
 clear a;go_enter func187,ntmps187;go_wp2_with fail
 go_end0
 exact⟨rfl,j⟩
theorem Stt.och{c:Cx}{F G:Fg}{m':Nat}{W W':PW}(h:Stt c M O w F kv n m W)(a:Och w g o w')(d:w.heap[g]?=some (.cells cs T (0,0)))(p:TFMc≠T)(q:TFrm≠T)(r:JM≠T)(s:FW c.L M O w' G (c.B+m') W')(t:W'.out=W.out):Stt c M O w' G kv n m' W':=by
 obtain⟨u,v,x,y,e,f,i⟩:=h.mc;refine⟨s,⟨u,v,x,y,⟨(a.other _ (aGF e.blk d p)).trans e.blk,e.m⟩,⟨aGD f.1 (fun j b=>?_),f.2⟩,?_⟩,h.bd⟩
 ·obtain⟨k,l⟩:=aF9 f.1 b;exact a.other j (aGF l d q)
 ·rw [t];refine⟨aGD i.1 (fun j b=>?_),i.2⟩;obtain⟨k,l⟩:=aF9 i.1 b;exact a.other j (aGF l d r)
theorem tOc:TFMc≠B9/\TFrm≠B9/\JM≠B9/\TFMc≠TGlb/\TFrm≠TGlb/\JM≠TGlb:=by decide
theorem aGY{W:PW}{S:PS}(a:S.form=none):Pl.step W S=Pl.taken W S:=by unfold Pl.step;rw [a]
theorem tk_set{W:PW}{S:PS}{fr:CW}{K:List CW}(a:S.form=none)(b:S.AB=fr::K)(c:fr.form.k=.set)(d:Pl.DL W fr.env fr.form.nm=some i):Pl.step W S=⟨0,{W with places:=W.places.set i S.val},({S with AB:=K}:PS).A1 .nothing⟩:=by rw [aGY a];simp only [Pl.taken,b,c,d]
theorem aML{W:PW}{S:PS}{fr:CW}{K:List CW}(a:S.form=none)(b:S.AB=fr::K)(c:fr.form.k=.set)(d:Pl.DL W fr.env fr.form.nm=none):Pl.step W S=⟨8,W,{S with AB:=K}⟩:=by rw [aGY a];simp only [Pl.taken,b,c,d]
theorem aKW{W:PW}{S:PS}{fr:CW}{K:List CW}(a:S.form=none)(b:S.AB=fr::K)(c:fr.form.k=.define):Pl.step W S=⟨0,Pl.bind W fr.form.nm S.val,({S with AB:=K}:PS).A1 .nothing⟩:=by rw [aGY a];simp only [Pl.taken,b,c]
theorem Post.giveT{c:Cx}{M':Nat->Prop}{F G:Fg}{K:List CW}{W W':PW}{S S':PS}(d:Stp M w M' w')(e:∀b,O b->w'.heap[b]?=w.heap[b]?)(l:Fg.Le F G)(f:c.At k W S)(g:S.ended=false)(a:Pl.step W S=⟨0,W',S'⟩)(i:c.z<=k->W'.out=W.out)(j:S'.form=none)(n:S'.AB=K)(o:RV G.s v S'.val)(h:Stt c M' O w' G kv (k+1) m W')(q:1<=z)(p:m<=k+1:=by omega):Post c M O w F kv K (k+1) z (aGG v .nilIface) w' :=⟨M',G,k,W,S,d,e,l,f,g,by omega,by omega,.val v W' S' a i j n o (h.up p)⟩
theorem Post.faultT{c:Cx}{M':Nat->Prop}{F G:Fg}{K:List CW}{x:Nat}{W:PW}{S:PS}(e:Stp M w M' w')(f:∀b,O b->w'.heap[b]?=w.heap[b]?)(l:Fg.Le F G)(g:c.At k W S)(i:S.ended=false)(d:ByteArray)(j:x≠0)(a:(Pl.step W S).e=x)(n:(Pl.step W S).W=W)(h:Stt c M' O w' G kv (k+1) m W)(p:1<=z)(o:m<=k+1:=by omega):Post c M O w F kv K (k+1) z (aGG .nilIface (aY d (x:Int))) w' :=⟨M',G,k,W,S,e,f,l,g,i,by omega,by omega,.err d x j a n (h.up o)⟩
theorem Fs.entSetL:Enters 185:=enters_of func185 (by kernel_rfl) rfl
theorem Fs.entSetG:Enters 186:=enters_of func186 (by kernel_rfl) rfl
theorem Fs.entDef:Enters 188:=enters_of func188 (by kernel_rfl) rfl
theorem aIY{c:Cx}{D:Fg}{dp ix:Nat}{fr:CW}{sc:List (List AE)}(E:fr.form.k=.set)(q:Bx M0 w0 b4 (.int .i64 (dp:Int)) TInt)(r:Bx M0 w0 b5 (.int .i64 (ix:Int)) TInt)(d:scF sc fr.form.nm=some (dp,ix))(G:dp<=1100):TakeOk c M0 w0 D (fnV 185 #[pt b4,pt b5]) fr sc 1:=by refine⟨_,_,rfl,Fs.entSetL,?_⟩;intro M O w F H I v K k W S f l h j s t m a R;show Calls prog 185 #[.pointer (some ⟨c.rb,0,none⟩),I,v,.pointer (some ⟨b4,0,none⟩),.pointer (some ⟨b5,0,none⟩)] w _;have U:=(q.go f).cell;have V:=(r.go f).cell;obtain⟨i,g,o,y,n,z⟩:=j.yes d;obtain⟨p,x,J,L,X,_,N,b⟩:=h.fw.plc n;have Y:w.frozen? ⟨g,o,none⟩=false:=aF b o;have P:=h_ z;obtain⟨A,B,C⟩:=h.fw.SU n a;have Q:Hid (Post c M O w F H K (k+1) 1 (aGG (.iface 192 (.agg #[])) .nilIface) (w.setCell ⟨g,o,none⟩ v)) :=Post.giveT B C (Fg.Le.refl _) s (aF8 m) (tk_set t m E (by unfold Pl.DL;rw [y])) (fun _=>rfl) rfl rfl .nothing (h.och (Och.set b o v) b tOc.1 tOc.2.1 tOc.2.2.1 A rfl) n_;obtain⟨T,u,rfl⟩:=a.iface;obtain⟨Z,rfl⟩:=j.ptr;clear h f j s q r y n z J L b A B C a t m;go_enter func185,ntmps185;go_wp2_with (go_at_call 178;refine(p_at _ _ _ _ _ P G).mono ?_;rintro e w' ⟨rfl,rfl⟩);go_ret2;exact Q
theorem FW.setGlob{L:Lo}{F:Fg}{W:PW}(h:FW L M O w F N W){nm:AE}{p:PV}(B:F.gl k=some g)(n:F.s.ns[k]?=some nm)(y:w.heap[g]?=some (.cells #[v0,.int .i64 (c:Int)] TGlb (0,0)))(d:Och w g (.cells #[v,.int .i64 ((c+1:Nat):Int)] TGlb (0,0)) w')(J:c<=N)(hi:Pl.find W.globals nm=some i)(r:i<W.places.length)(C:RV F.s v p) :FW L M O w' F (N+1) {W with places:=W.places.set i p}/\Stp M w M w'/\∀b,O b->w'.heap[b]?=w.heap[b]? := by
 have D:=(h.gall nm i hi).2;refine h.gset (W':={W with places:=W.places.set i p}) B n y d (by omega) (by omega) (Fg.Le.refl F) rfl rfl rfl rfl rfl rfl rfl rfl rfl rfl rfl ⟨i,p,hi,by simp [r],C⟩ (fun s t=>⟨rfl,fun j q f u=>?_⟩) h.gall h.gpl ⟨by simp [h.places.len],h.places.inj,fun j z o q f u=>?_⟩ (fun _ _ x=>x)
 ·have a:i≠j:=fun e=>t (h.gpl s nm j f (by rw [<- e];exact hi));show(W.places.set i p)[j]?=some q;rw [List.getElem?_set_ne a];exact u
 ·have a:i≠j:=fun e=>by rw [<- e,D] at f;cases f
  have l:(W.places.set i p)[j]?=some q:=u;rw [List.getElem?_set_ne a] at l;obtain⟨E,m,G,A,H,I⟩:=h.places.at_ j z o q f l;exact⟨E,m,G,(d.other z (aGF A y tVs.2.2.1)).trans A,H,I⟩
theorem aIL{a b:AE}:Pl.find [(a,n)] b=if a=b then some n else none:=by simp [Pl.find]
def Fg.addN(F:Fg):Fg:={F with s:={F.s with lp:=F.s.lp++[none]}}
theorem Fg.addN_le(F:Fg):Fg.Le F F.addN:=⟨⟨rfl,rfl,List.prefix_refl _,List.prefix_refl _,List.prefix_refl _,List.prefix_append _ _,List.prefix_refl _⟩,fun _ _ x=>x,List.prefix_refl _,List.prefix_refl _⟩
theorem FW.defGlob{L:Lo}{F:Fg}{W:PW}(h:FW L M O w F N W){nm:AE}{p:PV}(J:F.gl k=some g)(s:F.s.ns[k]?=some nm)(t:w.heap[g]?=some (.cells #[v0,.int .i64 (c:Int)] TGlb (0,0)))(u:Och w g (.cells #[v,.int .i64 ((c+1:Nat):Int)] TGlb (0,0)) w')(hc:c<=N)(hi:Pl.find W.globals nm=none)(P:RV F.s v p)(n:∀a j,Pl.find W.globals a=some j->j<W.places.length) :FW L M O w' F.addN (N+1) {W with places:=W.places++[p],globals:=W.globals++[(nm,W.places.length)]}/\Stp M w M w'/\∀b,O b->w'.heap[b]?=w.heap[b]? := by
 have l:=F.addN_le
 have f:∀a j,Pl.find (W.globals++[(nm,W.places.length)]) a=some j->(a=nm/\j=W.places.length)\/(a≠nm/\Pl.find W.globals a=some j):=fun a j d=>by
  rw [Pl.FJ,aIL] at d;by_cases e:nm=a
  ·rw [if_pos e] at d;simp only [o_] at d;exact .inl ⟨e.symm,d.symm⟩
  ·rw [if_neg e] at d;exact .inr ⟨fun q=>e q.symm,d⟩
 have m:∀(i:Nat)(x:Nat×Nat),(F.s.lp++[none])[i]?=some (some x)->F.s.lp[i]?=some (some x):=fun i x y=>by
  rcases p5 y with y | ⟨_,y⟩
  ·exact y
  ·cases y
 refine h.gset (W':={W with places:=W.places++[p],globals:=W.globals++[(nm,W.places.length)]}) J s t u (by omega) (by omega) l rfl rfl rfl rfl rfl rfl rfl rfl rfl rfl rfl ⟨W.places.length,p,?_,by simp,P.le l.s⟩ (fun D E=>⟨?_,fun j q d G=>?_⟩) (fun a j d=>?_) (fun a b j Q t=>?_) ⟨by simp [Fg.addN,h.places.len],fun i j x hi d=>h.places.inj i j x (m i x hi) (m j x d),fun j H o q d G=>?_⟩ m
 ·show Pl.find (W.globals++[(nm,W.places.length)]) nm=some W.places.length;rw [Pl.FJ,aIL,if_pos rfl]
 ·show Pl.find (W.globals++[(nm,W.places.length)]) D=_;rw [Pl.FJ,aIL,if_neg (fun e=>E e.symm)]
 ·show(W.places++[p])[j]?=some q;rw [List.getElem?_append_left (n _ _ d)];exact G
 ·rcases f a j d with⟨rfl,rfl⟩ | ⟨_,d⟩
  ·refine⟨⟨k,g,s,J⟩,?_⟩;show(F.s.lp++[none])[W.places.length]?=some none;rw [<- h.places.len];simp
  ·obtain⟨R,S⟩:=h.gall a j d;exact⟨R,bS (List.prefix_append _ _) S⟩
 ·rcases f a j Q with⟨C,T⟩ | ⟨_,C⟩
  ·rcases f b j t with⟨r,_⟩ | ⟨_,r⟩
   ·rw [C,r]
   ·have:=n _ _ r;omega
  ·rcases f b j t with⟨r,U⟩ | ⟨_,r⟩
   ·have:=n _ _ C;omega
   ·exact h.gpl a b j C r
 ·have z:=m j (H,o) d;have I:=(s_ z).1;have A:(W.places++[p])[j]?=some q:=G;rw [List.getElem?_append_left (by rw [<- h.places.len];exact I)] at A;obtain⟨V,B,X,K,Y,Z⟩:=h.places.at_ j H o q z A;exact⟨V,B,X,(u.other H (aGF K t tVs.2.2.1)).trans K,Y,Z.le l.s⟩
theorem Cx.At.ww{c:Cx}{W:PW}{S:PS}(h:c.At n W S):∃t,WW W t/\SW W S t:=by obtain⟨_,t,a,b,_⟩:=h.inv;exact⟨t,a,b⟩
theorem Cx.At.glt{c:Cx}{W:PW}{S:PS}(h:c.At n W S):∀a j,Pl.find W.globals a=some j->j<W.places.length:=fun a j d=>by obtain⟨t,e,_⟩:=h.ww;obtain⟨b,f,rfl⟩:=mC _ _ _ d;exact e.globals b f
theorem Stt.DI{c:Cx}{F:Fg}{W:PW}(h:Stt c M O w F kv n m W){nm:AE}(d:F.gl k=some g)(e:F.s.ns[k]?=some nm):∃v,∃a:Nat,w.heap[g]?=some (.cells #[v,.int .i64 (a:Int)] TGlb (0,0))/\a<=c.B+m/\((Pl.find W.globals nm=none/\v=.nilIface)\/∃i p,Pl.find W.globals nm=some i/\W.places[i]?=some p/\RV F.s v p):=by obtain⟨_,v,a,b,f,j,l,o⟩:=h.fw.gat k g d;obtain rfl:b=nm:=i_ (f.symm.trans e);exact⟨v,a,j,l,o⟩
theorem aIZ{c:Cx}{C:Fg}{kn:Nat}{a:Value}{fr:CW}{sc:List (List AE)}(L:fr.form.k=.set)(D:Bx M0 w0 b4 (pt g) TGlP)(E:Bk M0 w0 b5 #[.string ⟨fr.form.nm.toArray⟩,.int .i64 (kn:Int),a] TSet)(U:C.s.ns[kn]?=some fr.form.nm)(V:C.gl kn=some g)(G:scF sc fr.form.nm=none):TakeOk c M0 w0 C (fnV 186 #[pt b4,pt b5]) fr sc 1:=by
 refine⟨_,_,rfl,Fs.entSetG,?_⟩;intro M O w F N X v K k W S y l h z r A n b hT;show Calls prog 186 #[.pointer (some ⟨c.rb,0,none⟩),X,v,.pointer (some ⟨b4,0,none⟩),.pointer (some ⟨b5,0,none⟩)] w _;have d4:=(D.go y).cell;have d5:w.cell? ⟨b5,0,none⟩=some (.string ⟨fr.form.nm.toArray⟩):=aA (E.go y).2 0;have d:=l.gl _ _ V;have f:=bS l.s.ns U;obtain⟨x,Y,q,Z,m⟩:=h.DI d f;have j:=z.no G;have c0:w.cell? ⟨g,0,none⟩=some x:=aA q 0;obtain⟨ao,rfl⟩:=z.ptr;have aa:=h.bd;rcases m with⟨m,rfl⟩ | ⟨i,p,m,P,Q⟩
 ·have hl:fr.form.nm.length<=300:=by
   obtain⟨t,_,hS⟩:=r.ww;exact(hS.AB.1 fr (by rw [n];simp)).form.lnm
  have ab:(⟨fr.form.nm.toArray⟩:ByteArray).size<=300:=by simpa [ByteArray.size] using hl
  have o:=aML (W:=W) A n L (by unfold Pl.DL;rw [j];exact m);have HX:Hid (∀H,Post c M O w F N K (k+1) 1 (aGG .nilIface (aY H 8)) w):=fun H=>Post.faultT (x:=8) (Stp.refl _ _) (fun _ _=>rfl) (Fg.Le.refl _) r (aF8 n) H (by decide) (by rw [o]) (by rw [o]) h n_;obtain⟨T,u,rfl⟩:=b.iface;clear h y z r D E q m b A n j o d f;go_enter func186,ntmps186;go_wp2_with (go_at_call 33;refine(bJ _ _ _).mono ?_;rintro e w3 ⟨rfl,rfl⟩);go_ret2;exact HX.out _
 ·have I:=(s_ P).1
  have HG:Hid (Calls prog 187 #[.pointer (some ⟨g,0,none⟩),v] w fun e R=>e=.returned (.tuple #[])/\Post c M O w F N K (k+1) 1 (aGG (.iface 192 (.agg #[])) .nilIface) R):=(p_gset w g Y x v q b.iface (by omega)).mono (fun e R B=>by
   obtain⟨rfl,s⟩:=B;obtain⟨y1,y2,y3⟩:=h.fw.setGlob d f q s Z m I b
   exact⟨rfl,Post.giveT y2 y3 (Fg.Le.refl _) r (aF8 n) (tk_set A n L (by unfold Pl.DL;rw [j];exact m)) (fun _=>rfl) rfl rfl .nothing (h.och (m':=k+1) s q tOc.2.2.2.1 tOc.2.2.2.2.1 tOc.2.2.2.2.2 y1 rfl) n_⟩)
  obtain⟨T,u,rfl⟩:=b.iface;obtain⟨T2,u2,rfl⟩:=Q.iface;clear h y z r D E q m P Q b A n j d f;go_enter func186,ntmps186;go_wp2_with (go_at_call 187;refine(Calls.mono HG ?_);rintro e w3 ⟨rfl,B⟩;have J:=(show Hid _ from B);clear B);go_ret2;exact J
theorem aHU{c:Cx}{s:Fg}{kn:Nat}{fr:CW}{sc:List (List AE)}(L:fr.form.k=.define)(D:Bx M0 w0 b4 (pt g) TGlP)(N:s.s.ns[kn]?=some fr.form.nm)(P:s.gl kn=some g):TakeOk c M0 w0 s (fnV 188 #[pt b4]) fr sc 1:=by
 refine⟨_,_,rfl,Fs.entDef,?_⟩;intro M O w F Q R v K k W S E l h G o H q a Z;show Calls prog 188 #[.pointer (some ⟨c.rb,0,none⟩),R,v,.pointer (some ⟨b4,0,none⟩)] w _;have d4:=(D.go E).cell;have b:=l.gl _ _ P;have d:=bS l.s.ns N;obtain⟨x,U,n,I,m⟩:=h.DI b d;obtain⟨ao,rfl⟩:=G.ptr;have V:=h.bd
 have X:Hid (Calls prog 187 #[.pointer (some ⟨g,0,none⟩),v] w fun e J=>e=.returned (.tuple #[])/\Post c M O w F Q K (k+1) 1 (aGG (.iface 192 (.agg #[])) .nilIface) J):=(p_gset w g U x v n a.iface (by omega)).mono (fun e J r=>by
  obtain⟨rfl,f⟩:=r;refine⟨rfl,?_⟩;have j:=aKW (W:=W) H q L;rcases m with⟨m,_⟩ | ⟨i,p,m,Y,_⟩
  ·obtain⟨t,y,z⟩:=h.fw.defGlob b d n f I m a o.glt;have A:Pl.bind W fr.form.nm S.val={W with places:=W.places++[S.val],globals:=W.globals++[(fr.form.nm,W.places.length)]}:=by unfold Pl.bind;rw [m]
   rw [A] at j;exact Post.giveT y z F.addN_le o (aF8 q) j (fun _=>rfl) rfl rfl .nothing (h.och (m':=k+1) f n tOc.2.2.2.1 tOc.2.2.2.2.1 tOc.2.2.2.2.2 t rfl) n_
  ·have B:=(s_ Y).1;obtain⟨t,y,z⟩:=h.fw.setGlob b d n f I m B a;have A:Pl.bind W fr.form.nm S.val={W with places:=W.places.set i S.val}:=by unfold Pl.bind;rw [m]
   rw [A] at j
   exact Post.giveT y z (Fg.Le.refl _) o (aF8 q) j (fun _=>rfl) rfl rfl .nothing (h.och (m':=k+1) f n tOc.2.2.2.1 tOc.2.2.2.2.1 tOc.2.2.2.2.2 t rfl) n_)
 obtain⟨T,u,rfl⟩:=a.iface;clear h E G o D n m a H q b d;go_enter func188,ntmps188;go_wp2_with (go_at_call 187;refine(Calls.mono X ?_);rintro e w3 ⟨rfl,r⟩;have C:=(show Hid _ from r);clear r);go_ret2;exact C
end
end Go.Proofs.YtieooapcfpimlaaGreatDoor
