import Derived.Test.YtieooapcfpimlaaGreatDoorL19
import Derived.Test.YtieooapcfpimlaaGreatDoorL14
import Derived.Lib.AppendZerosOnto
namespace Go.Proofs.YtieooapcfpimlaaGreatDoor
set_option maxHeartbeats 4000000
set_option maxRecDepth 100000
open Go.Proofs.Tryz
open Pl (PV PW PS PF CW SR AE Env)
section
open Go.RowKit Go.Lib Go.Maps
variable {w w':World} {M:Nat->Prop} {v ev gv:Value} {sb tb mb gb k i:Nat} {T:TypeId}
structure Kept(M:Nat->Prop)(w:World)(rb:Nat)(w':World):Prop where
 AQ:Stp M w M w'
 run:w'.heap[rb]?=w.heap[rb]?
 outs:∀(g:Nat)(cur:Array Value)(fz:Nat×Nat),w.heap[g]?=some (Obj.cells cur JM fz)->w'.heap[g]?=w.heap[g]?
theorem FE.go{M':Nat->Prop}{s t:Sg}(b:Stp M w M' w')(l:Sg.Le s t){S:PS}(h:FE M w s v ev gv S):FE M' w' t v ev gv S:=by
 unfold FE at h ⊢;split
 ·rename_i a;rw [a] at h;exact⟨h.1,h.2.le l⟩
 ·rename_i f a;rw [a] at h;exact⟨h.1.go b l,h.2.go b l⟩
theorem LO.kept{s t:Sg}{rb:Nat}{S:PS}{a:AE}(h:LO M w s sb rb S a)(b:Kept M w rb w')(l:Sg.Le s t):LO M w' t sb rb S a:=by obtain⟨e,f,i,j,k,d,m,n,o⟩:=h.ex;exact⟨e,f,i,j,k,⟨b.run.trans d.blk,d.JK⟩,m.go b.AQ l,n.go b.AQ l,o.keep (fun g c p q r=>⟨b.outs g c p r,q⟩)⟩
theorem AC.setL{D:DataW Value}{s:Sg}{W:PW}(h:AC D s W){c:Nat×Nat}(b:s.lp[i]?=some (some c))(q:PV):AC D s {W with places:=W.places.set i q}:=by refine⟨h.tidy,?_,h.no,h.keys,h.names,h.inj⟩;intro j a m f d;obtain⟨g,u,p,k,l,n⟩:=h.yes j a m f d;refine⟨g,u,p,k,?_,n⟩;show(W.places.set i q)[m]?=some p;rw [List.getElem?_set_ne (fun e=>by subst e;rw [(h.names a _ d).2] at b;simp at b)];exact l
theorem Wd.nodup{s:Sg}{W:PW}(h:Wd M w s tb mb sb gb W):s.ns.Nodup:=by obtain⟨D,_,a⟩:=h.CY.B3.map;exact a.nodup
theorem Wd.NH{s:Sg}{W:PW}(h:Wd M w s tb mb sb gb W):IS s:=.inl ⟨h.tq,h.tc⟩
theorem Wd.SU{s:Sg}{W:PW}(h:Wd M w s tb mb sb gb W){g o:Nat}{q:PV}(n:s.lp[i]?=some (some (g,o)))(V:RV s v q)(F:Nat)(cs:Array Value)(l:w.heap[F]?=some (.cells cs BT (0,0))) :Wd M (w.setCell ⟨g,o,none⟩ v) s tb mb sb gb {W with places:=W.places.set i q}/\Kept M w F (w.setCell ⟨g,o,none⟩ v)/\w.frozen? ⟨g,o,none⟩=false/\∃u,w.cell? ⟨g,o,none⟩=some u:=by
 have O:=(s_ n).1;obtain⟨P,G,X,d,Q,_⟩:=h.places.at_ i g o _ n (g_ (by rw [<- h.places.len];exact O));have c:Stp M w M (w.setCell ⟨g,o,none⟩ v):=Stp.set P o v;have a:∀k,k≠g->(w.setCell ⟨g,o,none⟩ v).heap[k]?=w.heap[k]? := fun k e=>Below.heap_setCell _ _ _ _ (fun x=>e (by simpa using x));obtain⟨e1,c1,r⟩:=h.CY.B3.F6;obtain⟨e2,c2,t⟩:=h.DI.F6;have H:mb≠g:=fun e=>by subst e;rw [d] at r;simp at r
 have I:gb≠g:=fun e=>by subst e;rw [d] at t;simp at t
 obtain⟨Y,Z⟩:=c.block tb h.CY.B3.lt.1 h.CY.JJ;obtain⟨s1,s2⟩:=c.block sb (aB h.NN) h.msb;have J:o<G.size:=(Array.getElem?_eq_some_iff.1 Q).1;refine⟨⟨⟨h.CY.B3.keep Y (a mb H),h.CY.pairs.AQ c,h.CY.FV,Z,fun k y=>by simpa [World.setCell] using h.CY.mlt k y⟩,s1.trans h.NN,s2,?_,h.TH,h.UE,h.procs.mono (fun b x K=>K.go c (Sg.Le.refl _)),h.AG.mono (fun b x K=>K.go c (Sg.Le.refl _)),?_,h.gs.AQ c,h.JQ.AQ h.gs c,(bY h.gs c kT).trans h.gt,?_,h.tq,h.tc⟩,⟨c,?_,?_⟩,aF d o,X,(aA d o).trans Q⟩
 ·obtain⟨D,z,hD⟩:=h.DI.keep (a gb I);exact⟨D,z,hD.setL n q⟩
 ·refine⟨by rw [List.length_set];exact h.places.len,h.places.inj,fun j B L p A C=>?_⟩;by_cases e:j=i
  ·subst e;rw [n] at A;simp only [o_,Prod.mk.injEq] at A;obtain⟨rfl,rfl⟩:=A;rw [List.getElem?_set_self (by rw [<- h.places.len];exact O)] at C;obtain rfl:=i_ C;exact⟨P,_,v,aD d o v,by simp [J],V⟩
  ·rw [List.getElem?_set_ne (fun x=>e x.symm)] at C;obtain⟨E,f,R,m,S,T⟩:=h.places.at_ j B L p A C;by_cases U:B=g
   ·subst U;rw [d] at m;simp only [o_,Obj.cells.injEq,and_true] at m;subst m;have N:L≠o:=fun N=>e (h.places.inj j i (B,L) A (by rw [N];exact n));refine⟨E,_,R,aD d o v,?_,T⟩;rw [Array.getElem?_setIfInBounds,if_neg (fun x=>N x.symm)];exact S
   ·exact⟨E,f,R,(a B U).trans m,S,T⟩
 ·obtain⟨u,E,m⟩:=h.ge;exact⟨u,(bY h.gs c kU).trans E,m⟩
 ·exact a F (fun e=>by
   subst e;rw [d] at l;simp only [o_,Obj.cells.injEq] at l
   exact absurd l.2.1 (by decide))
 ·intro k f fz y
  exact a k (fun e=>by
   subst e;rw [d] at y;simp only [o_,Obj.cells.injEq] at y
   exact absurd y.2.1 (by decide))
theorem Wd.turn{s t:Sg}{W W':PW}(h:Wd M w s tb mb sb gb W)(r:w.grownBy w' (some gb))(l:Sg.Le s t)(F:t.pb=s.pb)(G:t.qb=s.qb)(H:t.cb=s.cb)(I:t.ns=s.ns)(J:GV w' gb t W')(y:CM M w t W'.places)(K:W'.pairs=W.pairs)(L:W'.procs=W.procs)(N:W'.AG=W.AG)(z:Nat)(cs:Array Value)(A:w.heap[z]?=some (.cells cs BT (0,0))) :Wd M w' t tb mb sb gb W'/\Kept M w z w':=by
 have m:Stp M w M w':=Stp.DX r (fun k f=>by obtain rfl:=i_ f;exact h.TH);have j:∀k,k<w.heap.size->k≠gb->w'.heap[k]?=w.heap[k]? := fun k f e=>r.block k f (fun x=>e (i_ x));obtain⟨X,c,B⟩:=h.DI.F6;have a:∀(k:Nat)(d:Array Value)(T:TypeId)(C:Nat×Nat),w.heap[k]?=some (Obj.cells d T C)->w'.heap[k]?=w.heap[k]? := fun k d T C f=>j k (aB f) (fun e=>by subst e;rw [B] at f;simp at f);obtain⟨O,P⟩:=m.block tb h.CY.B3.lt.1 h.CY.JJ;obtain⟨Q,R⟩:=m.block sb (aB h.NN) h.msb;have n:IW w' tb mb t.ns:=by rw [I];exact h.CY.B3.keep O (j mb h.CY.B3.lt.2 (fun e=>h.UE e.symm))
 refine⟨⟨⟨n,by rw [K];exact(h.CY.pairs.AQ m).le l F,h.CY.FV,P,fun k f=>l_ (h.CY.mlt k f) r.size⟩,Q.trans h.NN,R,J,h.TH,h.UE,by rw [L,G];exact h.procs.mono (fun b x D=>D.go m l),by rw [N,H];exact h.AG.mono (fun b x D=>D.go m l),?_,h.gs.AQ m,h.JQ.AQ h.gs m,(bY h.gs m kT).trans h.gt,?_,by rw [l.tq];exact h.tq,by rw [l.tc];exact h.tc⟩,⟨m,(a z cs _ _ A),fun k d C f=>a k d _ _ f⟩⟩
 ·exact⟨y.len,y.inj,fun i g o p S U=>by
   obtain⟨E,d,v,q,V⟩:=y.at_ i g o p S U
   exact⟨E,d,v,(a g d _ _ q).trans q,V⟩⟩
 ·obtain⟨u,E,q⟩:=h.ge;exact⟨u,(bY h.gs m kU).trans E,q⟩
theorem Wd.putG{s:Sg}{W:PW}(h:Wd M w s tb mb sb gb W)(y:CT s){nm:AE}{q:PV}(l:s.ns[k]?=some nm)(m:Pl.find W.globals nm=some i)(z:RV s v q)(A:W.globals.length<=6500000000000000000)(n:Nat)(cs:Array Value)(o:w.heap[n]?=some (.cells cs BT (0,0))) :∃e,(Instr.mapUpdate 58 (.map (some gb)) (.int .i64 (k:Int)) v).run prog w=.ok () e/\Wd M e s tb mb sb gb {W with places:=W.places.set i q}/\Kept M w n e:=by
 obtain⟨D,a,j⟩:=h.DI;have p:k<=MH:=by have:=(s_ l).1;unfold CT at y;omega
 obtain⟨e,f,b,c⟩:=a.store aKS underlying58 (by unfold maxLen;omega) (TQ p) (d:=.held v) (ps:=[]) (val:=v) rfl;have g:=(j.names nm i m).2;have r:i<W.places.length:=by rw [<- h.places.len];exact(s_ g).1
 have u:=j.setG h.nodup l m z r;have x:Maps.size (D.put (.int .i64 (k:Int)) (.held v))<=W.globals.length:=by rw [size_put j.tidy,(j.yes k nm i l m).1];exact a.size_le
 obtain⟨B,C⟩:=h.turn (t:=s) (W':={W with places:=W.places.set i q}) c.grown (Sg.Le.refl _) rfl rfl rfl rfl ⟨_,(XS b).mono x,u⟩ (h.places.setO g q) rfl rfl rfl n cs o;exact⟨e,f,B,C⟩
theorem Wd.newG{s:Sg}{W:PW}(h:Wd M w s tb mb sb gb W)(n:CT s){nm:AE}{q:PV}(m:s.ns[k]?=some nm)(o:Pl.find W.globals nm=none)(p:RV s v q)(r:LG W W.globals)(u:W.globals.length<=6500000000000000000)(g:Nat)(cs:Array Value)(i:w.heap[g]?=some (.cells cs BT (0,0))) :∃c,(Instr.mapUpdate 58 (.map (some gb)) (.int .i64 (k:Int)) v).run prog w=.ok () c/\Wd M c s.FO tb mb sb gb {W with places:=W.places++[q],globals:=W.globals++[(nm,W.places.length)]}/\Kept M w g c:=by
 obtain⟨D,e,x⟩:=h.DI;have j:k<=MH:=by have:=(s_ m).1;unfold CT at n;omega
 obtain⟨c,f,a,b⟩:=e.store aKS underlying58 (by unfold maxLen;omega) (TQ j) (d:=.held v) (ps:=[]) (val:=v) rfl;have l:=x.newG h.nodup m o p h.places.len r;obtain⟨y,z⟩:=h.turn (t:=s.FO) (W':={W with places:=W.places++[q],globals:=W.globals++[(nm,W.places.length)]}) b.grown s.FC rfl rfl rfl rfl ⟨_,by simpa using a,l⟩ (h.places.newO q) rfl rfl rfl g cs i;exact⟨c,f,y,z⟩
def FZ:TypeId:=34
def G7:TypeId:=999999
structure LH(w w':World):Prop where
 size:w.heap.size<=w'.heap.size
 block:∀(k:Nat)(o:Obj),w.heap[k]?=some o->(∀c T fz,(T=FZ\/T=G7)->o≠Obj.cells c T fz)->w'.heap[k]?=some o
 low:∀k,k<8->w'.heap[k]?=w.heap[k]?
theorem aAO{c:Array Value}{g:Nat×Nat}(h:T≠FZ/\T≠G7):∀f d a,(d=FZ\/d=G7)->Obj.cells c T g≠.cells f d a:=fun f d a b e=>by
 simp only [Obj.cells.injEq] at e;rcases b with b | b
 ·exact h.1 (e.2.1.trans b)
 ·exact h.2 (e.2.1.trans b)
theorem LH.cells(h:LH w w'){c:Array Value}{a:Nat×Nat}(b:w.heap[k]?=some (.cells c T a))(d:T≠FZ/\T≠G7):w'.heap[k]?=some (.cells c T a):=h.block k _ b (aAO d)
theorem LH.map(h:LH w w'){a:Array MapEntry}{c:Nat}(b:w.heap[k]?=some (.map a c)):w'.heap[k]?=some (.map a c):=h.block k _ b (fun _ _ _ _ e=>by cases e)
theorem Sl.FQ(d:LH w w')(f:T≠FZ/\T≠G7){sz:Nat}{n:Nat}{xs:List Value}(h:Sl M w T sz v n xs):Sl M w' T sz v n xs:=by obtain⟨i,j,a,e,k,l⟩:=h;refine⟨i,j,a,e,k,l.imp id ?_⟩;rintro⟨g,b,c,rfl,m,o,r⟩;exact⟨g,b,c,rfl,m,d.cells o f,r⟩
theorem nVal:B9≠FZ/\B9≠G7:=by unfold B9 FZ G7;decide
theorem TG:D8≠FZ/\D8≠G7:=by unfold D8 FZ G7;decide
theorem nNam:B6≠FZ/\B6≠G7:=by unfold B6 FZ G7;decide
theorem nPair:E0≠FZ/\E0≠G7:=by unfold E0 FZ G7;decide
theorem nSur:M8≠FZ/\M8≠G7:=by unfold M8 FZ G7;decide
theorem nPile:DQ≠FZ/\DQ≠G7:=by unfold DQ FZ G7;decide
theorem nSes:U9≠FZ/\U9≠G7:=by unfold U9 FZ G7;decide
theorem nPrS:EQ≠FZ/\EQ≠G7:=by unfold EQ FZ G7;decide
theorem nCoS:J0≠FZ/\J0≠G7:=by unfold J0 FZ G7;decide
theorem nTab:H7≠FZ/\H7≠G7:=by unfold H7 FZ G7;decide
theorem EI.FQ(a:LH w w'){s:Sg}{sl:Value}{ns:List AE}(h:EI M w s sl ns):EI M w' s sl ns:=by obtain⟨⟨b,c,d⟩,e,f⟩:=h;exact⟨⟨b,c,d.FQ a nNam⟩,e,f⟩
theorem CP.FQ(n:LH w w'){s:Sg}{f:PF}(h:CP M w s v f):CP M w' s v f:=by
 induction h with
 | const x q e d v j g h u=>exact .const x q e d v j g h u
 | name k e d v j g h=>exact .name k e d v j g h
 | iff a b c x y z e d v g _ _ _ A B C=>exact .iff a b c x y z e d v g A B C
 | begin l o e d v j g m p _ r t i=>exact .begin l o e d v j g (m.FQ n TG) p i r t
 | call l o e d v j g m p _ r t i=>exact .call l o e d v j g (m.FQ n TG) p i r t
 | set k a x e d v g h _ i=>exact .set k a x e d v g h i
 | define k a x e d v g h _ i=>exact .define k a x e d v g h i
 | lambda l a x e d v g m _ i=>exact .lambda l a x e d v g (m.FQ n) i
theorem CX.FQ(g:LH w w'){s:Sg}{e:Env}(h:CX M w s v e):CX M w' s v e:=by
 induction h with
 | nil=>exact .nil
 | cons b i j k d a l f m n o c p _ q=>exact .cons b i j k d a l f (g.cells m nSur) n (o.FQ g) c p q
theorem E3.FQ(a:LH w w'){s:Sg}{fs:List PF}(h:E3 M w s v fs):E3 M w' s v fs:=by obtain⟨b,c,d⟩:=h;exact⟨b,c.FQ a TG,d.mono (fun _ _ x=>x.FQ a)⟩
theorem FD.FQ(a:LH w w'){s:Sg}{fs:List PV}(h:FD M w s v fs):FD M w' s v fs:=by obtain⟨b,c,d⟩:=h;exact⟨b,c.FQ a nVal,d⟩
theorem FF.FQ(d:LH w w'){s:Sg}{fr:CW}(h:FF M w s v fr):FF M w' s v fr:=by
 cases h with
 | iff a b c f _ x y z e m n o p g=>exact .iff a b c f _ x y z e m n (o.FQ d) (p.FQ d) (g.FQ d)
 | set k f _ e i g=>exact .set k f _ e i (g.FQ d)
 | define k _ e i=>exact .define k _ e i
 | begin j f _ e l g=>exact .begin j f _ e (l.FQ d) (g.FQ d)
 | call q j f _ e r l g=>exact .call q j f _ e (r.FQ d) (l.FQ d) (g.FQ d)
theorem GW.FQ(a:LH w w'){s:Sg}:∀(d:List CW)(v:Value),GW M w s v d->GW M w' s v d
 | [],_,h=>h
 | f::r,v,h=>by obtain⟨b,c,e,g,i,j,k,l⟩:=h;exact⟨b,c,e,g,i,a.cells j nPile,k.FQ a,GW.FQ a r e l⟩
theorem GR.FQ(c:LH w w'){s:Sg}{b:Nat}{q:PF×Env}(h:GR M w s b q):GR M w' s b q:=by obtain⟨d,e,a,f,x,g,i,j,k,l⟩:=h;exact⟨d,e,a,f,x,c.cells g nPrS,i,j.FQ c,k.FQ c,l.FQ c⟩
theorem GX.FQ(a:LH w w'){s:Sg}{b:Nat}{q:List CW}(h:GX M w s b q):GX M w' s b q:=by obtain⟨c,d,e,f⟩:=h;exact⟨c,d,a.cells e nCoS,f.FQ a⟩
theorem Wd.FQ{s:Sg}{W:PW}(h:Wd M w s tb mb sb gb W)(a:LH w w'):Wd M w' s tb mb sb gb W:=by
 have d:∀k o,k<8->w'.cell? ⟨k,o,none⟩=w.cell? ⟨k,o,none⟩:=fun k o e=>World.cell?_of_block (w:=w) (a.low k e);obtain⟨E,F,f⟩:=h.CY.B3.F6;obtain⟨G,c,j⟩:=h.DI.F6;refine⟨⟨h.CY.B3.keep ((a.cells h.CY.B3.blk nTab).trans h.CY.B3.blk.symm) ((a.map f).trans f.symm),⟨h.CY.pairs.len,h.CY.pairs.nodup,fun i b p B n=>?_⟩,h.CY.FV,h.CY.JJ,fun k e=>l_ (h.CY.mlt k e) a.size⟩,a.cells h.NN nSes,h.msb,h.DI.keep ((a.map j).trans j.symm),h.TH,h.UE,h.procs.mono (fun b x q=>q.FQ a),h.AG.mono (fun b x q=>q.FQ a),⟨h.places.len,h.places.inj,fun i g o p C n=>?_⟩,⟨t_ h.gs.size a.size,h.gs.low,iH a.low h.gs.B3⟩,fun k D e r=>?_,(d _ _ kT).trans h.gt,?_,h.tq,h.tc⟩
 ·obtain⟨l,x,y,m,t,z⟩:=h.CY.pairs.at_ i b p B n;exact⟨l,x,y,a.cells m nPair,t,z⟩
 ·obtain⟨l,A,v,m,t,z⟩:=h.places.at_ i g o p C n;exact⟨l,A,v,a.cells m nVal,t,z⟩
 ·rw [d _ _ jN,d _ _ jN];exact h.JQ k D e r
 ·obtain⟨u,l,m⟩:=h.ge;exact⟨u,(d _ _ kU).trans l,m⟩
theorem R3.after{w1:World}{s:Sg}{ps:List (PV×PV)}{a:AE}(h:R3 M w1 s tb mb ps a v ev w')(b:Below w.heap.size w w1):R3 M w s tb mb ps a v ev w':=by obtain⟨c,d⟩:=h;exact⟨aM (aI b) c,d⟩
theorem yJ(b:ByteArray)(n:Int)(M:Nat->Prop)(w:World)(s:Sg)(tb mb:Nat)(ps:List (PV×PV))(i:BM M w s tb mb ps)(c:GE w)(j:s.ns.length+300<=BS) :Calls prog 25 #[.agg #[.string b,.int .i64 n],.pointer (some ⟨tb,0,none⟩)] w fun e k=>∃v d,e=.returned (.tuple #[v,d])/\((Pl.over n=true/\(∃r,d=aY r 6)/\Below w.heap.size w k)\/(Pl.over n=false/\R3 M w s tb mb ps b.data.toList v d k)):=by
 have a:Below w.heap.size w (w.alloc (.cells #[.string b,.int .i64 n] 25)):=b_;have f:=h_ a;by_cases m:n<0
 ·have l:decide (n<0)=true:=by simpa using m
  have h:Hid (Pl.over n=true):=show Pl.over n=true from by unfold Pl.over;rw [l];rfl
  clear i c j a;go_enter func25,ntmps25;go_wp2_with (go_at_call 33;refine(bJ _ _ _).mono ?_;rintro e o ⟨rfl,rfl⟩);go_ret2;exact⟨_,_,rfl,.inl ⟨h,⟨_,rfl⟩,f⟩⟩
 ·have l:decide (n<0)=false:=by simpa using m
  by_cases p:(1000000:Int)<n
  ·have g:decide ((1000000:Int)<n)=true:=by simpa using p
   have h:Hid (Pl.over n=true):=show Pl.over n=true from by unfold Pl.over;rw [l,g];rfl
   clear i c j a;go_enter func25,ntmps25;go_wp2_with (go_at_call 33;refine(bJ _ _ _).mono ?_;rintro e o ⟨rfl,rfl⟩);go_ret2;exact⟨_,_,rfl,.inl ⟨h,⟨_,rfl⟩,f⟩⟩
  ·have g:decide ((1000000:Int)<n)=false:=by simpa using p
   have h:Hid (Pl.over n=false):=show Pl.over n=false from by unfold Pl.over;rw [l,g];rfl
   have t:Hid (Calls prog 34 #[.string b,.pointer (some ⟨tb,0,none⟩)] (w.alloc (.cells #[.string b,.int .i64 n] 25)) fun e k=>∃v d,e=.returned (.tuple #[v,d])/\R3 M (w.alloc (.cells #[.string b,.int .i64 n] 25)) s tb mb ps b.data.toList v d k):=XC b M _ s tb mb ps (i.below a) (by
    obtain⟨v,q,u⟩:=c
    exact⟨v,(a.cell (World.block_lt_of_cell? _ _ q)).trans q,u⟩) j
   clear i c j a;go_enter func25,ntmps25;go_wp2_with (go_at_call 34;refine Calls.mono t ?_;rintro e o ⟨v,d,rfl,x⟩);go_ret2;exact⟨_,_,rfl,.inr ⟨h,x.after f⟩⟩
def RdN(M:Nat->Prop)(w:World)(s:Sg)(tb mb:Nat)(ps:List (PV×PV))(bs:AE)(v ev:Value)(w':World):Prop :=
 w.grownBy w' (some mb)/\∃t,(DK s t/\LP w s t)/\t.ns.length<=s.ns.length+300 /\
  ((∃c es,Pl.check bs=c/\0<c/\c<=5/\ev=aY es c/\t.pb=s.pb/\BM M w' t tb mb ps) \/
   (∃f,Pl.check bs=0/\Pl.BQ bs=some f/\ev=.nilIface/\BM M w' t tb mb (ps++(Pl.settle f ps.length).2)/\CP M w' t v (Pl.settle f ps.length).1))
theorem aB0(b:ByteArray)(n:Int)(M:Nat->Prop)(w:World)(s:Sg)(tb mb:Nat)(ps:List (PV×PV))(d:BM M w s tb mb ps)(g:GE w)(R:s.ns.length+300<=BS) :Calls prog 25 #[.agg #[.string b,.int .i64 n],.pointer (some ⟨tb,0,none⟩)] w fun e l=>∃v j,e=.returned (.tuple #[v,j])/\((Pl.over n=true/\(∃o,j=aY o 6)/\Below w.heap.size w l)\/(Pl.over n=false/\RdN M w s tb mb ps b.data.toList v j l)):=by
 let C:Nat->Prop:=fun k=>M k\/(k<w.heap.size/\k∉s.pb/\∃c O,w.heap[k]?=some (.cells c E0 O))
 have D:BM C w s tb mb ps:=by
  refine⟨d.B3,⟨d.pairs.len,d.pairs.nodup,fun i b p q S=>?_⟩,.inl d.FV,?_,?_⟩
  ·obtain⟨r,u⟩:=d.pairs.at_ i b p q S;exact⟨fun x=>x.elim r (fun y=>y.2.1 (q_ q)),u⟩
  ·rintro(x | ⟨_,_,c,O,x⟩)
   ·exact d.JJ x
   ·rw [d.B3.blk] at x;simp only [o_,Obj.cells.injEq] at x;exact absurd x.2.1 (by unfold H7 E0;decide)
  ·rintro k (x | x)
   ·exact d.mlt k x
   ·exact x.1
 refine(yJ b n C w s tb mb ps D g R).mono (fun e l T=>?_);obtain⟨v,j,rfl,h | ⟨U,P,t,r,u,V⟩⟩:=T
 ·exact⟨v,j,rfl,.inl h⟩
 ·have a:∀{E},BM C l t tb mb E->BM M l t tb mb E/\LP w s t:=fun {E} k=>by
   refine⟨⟨k.B3,k.pairs.weaken (fun _ x=>.inl x),d.FV,d.JJ,fun i z=>k.mlt i (.inl z)⟩,fun b q=>?_⟩;obtain⟨i,z⟩:=List.getElem?_of_mem q;have F:=(s_ z).1;obtain⟨W,x,y,G,_⟩:=k.pairs.at_ i b _ z (g_ (by rw [<- k.pairs.len];exact F));rcases Nat.lt_or_ge b w.heap.size with m | g
   ·by_cases A:b∈s.pb
    ·exact .inl A
    ·obtain⟨o,c,H⟩:=k.B3.F6;have I:b≠mb:=fun e=>by rw [e,H] at G;cases G
     exact absurd (Or.inr ⟨m,A,_,_,(P.block b m (fun e=>I (i_ e))).symm.trans G⟩) W
   ·exact .inr g
  refine⟨v,j,rfl,.inr ⟨U,P,t,?_⟩⟩;rcases V with⟨c,o,J,K,L,B,N,Q⟩ | ⟨f,J,K,L,B,N⟩
  ·exact⟨⟨r,(a Q).2⟩,u,.inl ⟨c,o,J,K,L,B,N,(a Q).1⟩⟩
  ·exact⟨⟨r,(a B).2⟩,u,.inr ⟨f,J,K,L,(a B).1,N.go ⟨rfl,rfl,rfl,n_,fun k _ A=>⟨rfl,fun x=>A (.inl x)⟩⟩ (Sg.Le.refl _)⟩⟩
theorem Wd.read{s t:Sg}{W:PW}{ps:List (PV×PV)}(h:Wd M w s tb mb sb gb W)(N:w.grownBy w' (some mb))(O:DK s t)(P:BM M w' t tb mb ps):Wd M w' t tb mb sb gb {W with pairs:=ps}:=by
 have r:Stp M w M w':=eL N h.CY.FV;have l:=O.le;obtain⟨es,c,F⟩:=h.DI.F6;obtain⟨R,S⟩:=r.block sb (aB h.NN) h.msb;obtain⟨T,c1,G⟩:=h.CY.B3.F6;have d:∀k,k<w.heap.size->k≠mb->w'.heap[k]?=w.heap[k]? := fun k y e=>N.block k y (fun x=>e (i_ x));obtain⟨a,m,rfl⟩:=O;have B:(s.ns++m).Nodup:=by obtain⟨D,_,U⟩:=P.B3.map;exact U.nodup
 refine⟨P,R.trans h.NN,S,?_,h.TH,h.UE,h.procs.mono (fun b x H=>H.go r l),h.AG.mono (fun b x H=>H.go r l),?_,h.gs.AQ r,h.JQ.AQ h.gs r,(bY h.gs r kT).trans h.gt,?_,h.tq,h.tc⟩
 ·obtain⟨D,V,n⟩:=h.DI.keep (d gb (aB F) h.UE);refine⟨D,V,n.tidy,fun k q i y A=>?_,fun k q y A=>?_,fun k y=>?_,fun q i A=>?_,n.inj⟩
  ·have C:=(n.names q i A).1;obtain⟨j,Q⟩:=List.getElem?_of_mem C;have I:(s.ns++m)[j]?=some q:=bS (List.prefix_append _ _) Q;have T:=cV B y;have e2:=cV B I;obtain rfl:j=k:=by omega
   obtain⟨z,v,p,f,J,K⟩:=n.yes j q i Q A;exact⟨z,v,p,f,J,K.le l⟩
  ·rcases Nat.lt_or_ge k s.ns.length with E | E
   ·have:(s.ns++m)[k]?=some q:=y;rw [List.getElem?_append_left E] at this;exact n.no k q this A
   ·cases X:Maps.has D (.int .i64 (k:Int)) with
    | false=>rfl
    | true=>have:=n.keys k X;omega
  ·have:=n.keys k y;show k<(s.ns++m).length;rw [a_];omega
  ·obtain⟨z,f⟩:=n.names q i A;exact⟨List.mem_append_left _ z,f⟩
 ·refine⟨h.places.len,h.places.inj,fun i g o p Y Z=>?_⟩;obtain⟨z,L,v,f,J,K⟩:=h.places.at_ i g o p Y Z;exact⟨z,L,v,(d g (aB f) (fun e=>by subst e;rw [G] at f;simp at f)).trans f,J,K.le l⟩
 ·obtain⟨u,z,f⟩:=h.ge;exact⟨u,(bY h.gs r kU).trans z,f⟩
def gD(W:PW)(S:PS)(nm:AE):SR:=match Pl.DL W S.env nm with
 | some i=>⟨0,W,S.A1 (W.places[i]?.getD .nothing)⟩
 | none=>⟨8,W,S⟩
theorem iU{s:Sg}{W:PW}(h:Wd M w s tb mb sb gb W):gb<w.heap.size/\sb<w.heap.size:=by obtain⟨b,c,a⟩:=h.DI.F6;exact⟨aB a,aB h.NN⟩
theorem eX{w2:World}{s:Sg}{S:PS}{q:PV}(a:RV s v q):FE M w2 s .nilIface (.pointer none) v (S.A1 q):=⟨rfl,a⟩
theorem iG{w2:World}{s:Sg}{rb:Nat}{W:PW}{S':PS}{d:ByteArray}{c:Nat}{fv kv ov:Value}(f:Wd M w s tb mb sb gb W)(a:C0 M w sb rb fv ev gv kv ov)(g:DS M w ov W.out)(b:Below w.heap.size w w2)(h:c≠0):AS M w s tb mb sb gb rb ⟨c,W,S'⟩ (.returned (aY d c)) w2:=by have e:Mv M w M w2:=Mv.below b;exact⟨M,s,e.AQ,⟨Sg.Le.refl _,EG.refl _ _⟩,f.mv e,.inr ⟨d,h,rfl,⟨fv,ev,gv,kv,ov,⟨(b.block rb (aB a.blk)).trans a.blk,a.JK⟩,g.below b⟩⟩⟩
theorem yS(M:Nat->Prop)(w:World)(s:Sg)(tb mb j n b:Nat)(W:PW)(S:PS)(N:Wd M w s tb mb j n W)(hN:CT s){fv kv ov:Value}(F:C0 M w j b fv ev gv kv ov)(O:CX M w s ev S.env)(hf:GW M w s kv S.AB)(ho:DS M w ov W.out)(nm:AE)(k:Nat)(P:s.ns[k]?=some nm)(hl:nm.length<=1000) :Calls prog 150 #[.pointer (some ⟨b,0,none⟩),.agg #[.string ⟨nm.toArray⟩,.int .i64 (k:Int)]] w fun e Q=>AS M w s tb mb j n b (gD W S nm) e Q:=by
 have t:Below w.heap.size w (w.alloc (.cells #[.string ⟨nm.toArray⟩,.int .i64 (k:Int)] B6)).drew:=b_.drew;have R:=aB F.blk;have e0:w.cell? ⟨b,0,none⟩=some (.pointer (some ⟨j,0,none⟩)):=aA F.blk 0;have e2:w.cell? ⟨b,2,none⟩=some ev:=aA F.blk 2
 have HP:Hid (Calls prog 154 #[ev,.agg #[.string ⟨nm.toArray⟩,.int .i64 (k:Int)]] (w.alloc (.cells #[.string ⟨nm.toArray⟩,.int .i64 (k:Int)] B6)).drew fun e G=>∃v,e=.returned (.pointer v)/\Hid (Below w.heap.size w G/\G.heap[w.heap.size]?=some (.cells #[.string ⟨nm.toArray⟩,.int .i64 (k:Int)] B6 (0,0))/\VG s S.env nm (.returned (.pointer v)))) :=
  show Calls _ _ _ _ _ from(uW M _ s ev S.env nm k N.nodup (O.go (Stp.AA t) (Sg.Le.refl _)) P).mono (fun e G h=>by
   have c:G.heap[w.heap.size]?=some (.cells #[.string ⟨nm.toArray⟩,.int .i64 (k:Int)] B6 (0,0)):=(h.1.block w.heap.size (by simp)).trans (heap_alloc_new w _);rcases h.2 with⟨H,rfl⟩ | ⟨i,g,o,H,h2,rfl⟩
   ·exact⟨_,rfl,t.trans (h.1.mono (by simp)),c,.inl ⟨H,rfl⟩⟩
   ·exact⟨_,rfl,t.trans (h.1.mono (by simp)),c,.inr ⟨i,g,o,H,h2,rfl⟩⟩)
 have r:=h_ N;have U:=h_ F;have HF:=h_ hf;have HO:=h_ ho;have C:Hid (s.ns[k]?=some nm/\CT s):=⟨P,hN⟩
 obtain⟨oe,rfl⟩:=O.ptr;clear N hN F O hf ho P t;go_enter func150,ntmps150
 go_upto_region 1 with fail
 go_cut [5] (fun x wx=>∃v,x=.pointer v/\Hid (Below w.heap.size w wx/\wx.heap[w.heap.size]?=some (.cells #[.string ⟨nm.toArray⟩,.int .i64 (k:Int)] B6 (0,0))/\VG s S.env nm (.returned (.pointer v))))
 case first =>
  go_region_with (go_at_call 154;refine Calls.mono HP ?_;rintro e G ⟨v,rfl,D⟩)
  all_goals
   go_wp2_with fail
   go_meet
   exact⟨v,rfl,D⟩
 case rest =>
  obtain⟨v,rfl,D⟩:=hcut;obtain⟨a,c,V⟩:=D.out;have l:=(a.block b R).trans U.blk;have X:=h_ a;have HG:Hid (∀I:World,I.heap[b]?=wc.heap[b]? -> ∀v,(∃T x,v=.iface T x)->Calls prog 149 #[.pointer (some ⟨b,1,none⟩),v] I fun e Q=>e=.returned (.tuple #[])/\AI I b #[.pointer (some ⟨j,0,none⟩),.nilIface,.pointer none,v,kv,ov] Q):=fun I H v d=>jF I b _ _ _ _ _ _ v (H.trans l) d;have J:Hid (∀q v,RV s v q->gD W S nm=⟨0,W,S.A1 q⟩->∀m,AI wc b #[.pointer (some ⟨j,0,none⟩),.nilIface,.pointer none,v,kv,ov] m->AS M w s tb mb j n b (gD W S nm) (.returned .nilIface) m):=fun q v d hq m hc=>by rw [hq];refine(eH (r.mv (Mv.below a)) l U.JK hc (fun _=>eX d) (fun hs=>?_) (HO.below a)).after (Stp.AA a);exact(HF.go (Stp.AA a) (Sg.Le.refl _)).go hs (Sg.Le.refl _)
  rcases V with⟨u,d⟩ | ⟨i,g,o,hi,z,d⟩
  ·simp only [Ending.returned.injEq,Value.pointer.injEq] at d;subst d;have Y:=(iU r).2;have y:=(iU r).1;have d0:wc.cell? ⟨b,0,none⟩=some (.pointer (some ⟨j,0,none⟩)):=aA l 0;have d1:wc.cell? ⟨j,0,none⟩=some (.map (some n)):=aA ((a.block j Y).trans r.NN) 0;have d2:wc.cell? ⟨w.heap.size,0,none⟩=some (.string ⟨nm.toArray⟩):=aA c 0;have d3:wc.cell? ⟨w.heap.size,1,none⟩=some (.int .i64 (k:Int)):=aA c 1
   cases f:Pl.find W.globals nm with
   | some i =>
    obtain⟨v,p,E,d,A⟩:=rE r.DI C.2 C.1 f;have K:Hid (∀m,AI wc b #[.pointer (some ⟨j,0,none⟩),.nilIface,.pointer none,v,kv,ov] m->AS M w s tb mb j n b (gD W S nm) (.returned .nilIface) m):=J.out p v d (by unfold gD Pl.DL;rw [u];dsimp only;rw [f];dsimp only;rw [E];rfl);have l1:=A wc (a.block n y);have l2:=A wc.drew (a.block n y);obtain⟨T,x,rfl⟩:=d.iface;clear A d E f u a c l D;go_wp2_with fail
    go_region
    all_goals
     go_wp2_with (go_at_call 149;refine(HG _ (by rfl) _ ⟨_,_,rfl⟩).mono ?_;rintro e m ⟨rfl,B⟩)
     go_ret;exact K.out _ (B.after (r_.drew))
   | none =>
    have l1:=pS r.DI C.2 C.1 f wc (a.block n y);have l2:=pS r.DI C.2 C.1 f wc.drew (a.block n y);have K:Hid (gD W S nm=⟨8,W,S⟩):=show gD W S nm=_ from by unfold gD Pl.DL;rw [u];dsimp only;rw [f]
    clear f u a c l D;go_wp2_with fail
    go_region
    all_goals
     go_wp2_with (go_at_call 33;refine(bJ _ _ _).mono ?_;rintro e m ⟨rfl,rfl⟩)
     go_ret;rw [K.out];exact iG r U HO X.drew (by decide)
  ·simp only [Ending.returned.injEq,Value.pointer.injEq] at d;subst d;have Z:=(s_ z).1;obtain⟨p,E⟩:∃p,W.places[i]?=some p:=⟨_,g_ (by rw [<- r.places.len];exact Z)⟩
   obtain⟨_,aa,v,hg,L,d⟩:=r.places.at_ i g o p z E;have cg:wc.cell? ⟨g,o,none⟩=some v:=(aA ((a.block g (aB hg)).trans hg) o).trans L;have K:Hid (∀m,AI wc b #[.pointer (some ⟨j,0,none⟩),.nilIface,.pointer none,v,kv,ov] m->AS M w s tb mb j n b (gD W S nm) (.returned .nilIface) m):=J.out p v d (by unfold gD Pl.DL;rw [hi];dsimp only;rw [E];rfl);obtain⟨T,x,rfl⟩:=d.iface;clear d E hi z a c l D hg L;go_wp2_with fail;go_region_with (go_at_call 149;refine(HG _ (by rfl) _ ⟨_,_,rfl⟩).mono ?_;rintro e m ⟨rfl,B⟩)
   all_goals
    go_wp2_with fail
    go_ret;exact K.out _ (B.after (r_.drew))
end
section
open Go.RowKit Go.Lib
theorem Tryz.YJ:(prog.info? 88).map (fun i=>(i.zero,i.size,i.bytes))=some (some .nilIface,1,16):=by kernel_rfl
theorem rD:∃i,prog.info? B9=some i/\i.zero=some .nilIface/\i.size=1/\i.bytes=16:=by obtain⟨i,b,a⟩:=m_ Tryz.YJ;simp only [Prod.mk.injEq] at a;exact⟨i,b,a.1,a.2.1,a.2.2⟩
theorem dC{P:Program}(w:World){b:Array Oper}{rest:List Oper}{o:Oper}{a:Act}{Q:Exit->Act->World->Prop}(c:o.guard=none)(sl x:Operand)(t u:TypeId)
  (f:o.op=.call {callee:=.builtin .append,args:=#[sl,x],argTypes:=#[t,u]}) (v:Value) (g:a.eval sl=v) (y:Value) (i:a.eval x=y) {v':Value} {w':World} (e:TypeId) (d:o.type=e) (j:(Builtin.append_ #[t,u] e #[v,y]).run P w=.ok v' w') (h:wpList P b Q rest (a.put o.dst v') w'):wpList P b Q (o::rest) a w:=by
 refine wpList_plain c fun K k=>?_;unfold Oper.wp execOp;simp only [f,resolve,invoke,builtin,Sem.run_bind,Sem.run_pure,Result.andThen_ok,List.map_toArray,List.map_cons,List.map_nil,g,i,d,j];exact k _ _ h
theorem p_grow(w:World)(n:Nat)(q:0<n)(y:n<=100000):Calls prog 298 #[.slice none 0 0,.int .i64 (n:Int)] w fun e j=>∃a,n<=a/\e=.returned (.slice (some ⟨w.heap.size,0,none⟩) 0 a)/\Below w.heap.size w j/\j.ownsRow w.heap.size B9 1 (.slice (some ⟨w.heap.size,0,none⟩) 0 a) 0 []/\w.heap.size<j.heap.size:=by
 obtain⟨k,d,f,l,c⟩:=rD;have g:Builtin.nextslicecap n 0*k.bytes<=281474976710656:=by rw [c];exact growslice_fits (by omega) (by omega)
 have h:=run_append_grow_zeros (P:=prog) w 293 3 293 B9 k .nilIface .i64 .i64 underlying293 underlying3 d f none 0 0 [] (by simpa using run_firstCells_none w.drew k.size 0 0 0) n q (by omega) (by omega) (by omega) (by rw [c];omega) (by simpa using g);simp only [Nat.zero_add] at h;have m:=grownCap_ge w n 0 B9;have p:grownCap w n 0 B9<=maxLen:=grownCap_le_maxLen w n 0 B9 (by unfold maxLen;omega);generalize grownCap w n 0 B9=a at *;have r:Hid (∀b:Array Value,b.size=a->(w.alloc (.cells b B9)).drew.ownsRow w.heap.size B9 1 (.slice (some ⟨w.heap.size,0,none⟩) 0 a) 0 []):=fun b s=>World.ownsRow_made w b a n_ p (by rw [Nat.mul_one];exact s);have t:Hid (∀o,Below w.heap.size w (w.alloc o).drew):=fun o=>(r_.alloc n_ o).drew;have u:wrap64 ((n:Int)-0)=(n:Int):=by unfold wrap64;omega
 have v:¬((n:Int)<0):=by omega
 have x:decide ((0:Int)<(n:Int))=true:=by simp;omega
 clear d f l c g;go_enter func298,ntmps298;go_wp2_with (at_builtin;refine dC _ rfl _ _ 293 3 rfl _ rfl _ rfl 293 rfl h ?_);go_ret;refine⟨a,m,rfl,t _,r _ ?_,by simp⟩;have i:(#[Value.nilIface]:Array Value).size=1:=rfl;simp only [Array.size_append,size_zeroCells,i];omega
theorem sR{P:Program}(w:World)(base:Nat)(t h e:TypeId)(i:TypeInfo)(a:Nat)(f:P.underlying t=some (.slice e))(hi:P.info? e=some i)(v:Value)(n:Nat)(j:List Value)(b:w.ownsRow base e a v n j)(c:Nat):(Builtin.append_ #[t,t] h #[v,.slice none 0 c]).run P w=.ok v w:=by
 rcases b.2 with⟨rfl,rfl⟩ | ⟨g,k,l,rfl,_,_,d,_⟩
 ·simp [Builtin.append_,run_underlying f,sizeOf,typeInfo,hi,Builtin.lenOf,Builtin.firstCells]
 ·simp [Builtin.append_,run_underlying f,sizeOf,typeInfo,hi,Builtin.lenOf,Builtin.firstCells,d,storeCells]
def CatQ(w:World)(l:List Value)(v:Value)(w':World):Prop:=Below w.heap.size w w'/\w'.ownsRow w.heap.size B9 1 v l.length l/\∃g cap,v=.slice (some ⟨g,0,none⟩) l.length cap
theorem yX(w:World)(F G:Nat)(sl:Value)(vs:List Value)(v:Value)(hS:DB w sl vs)(i:∀u∈vs,u.oneCell'=true)(hv:v.oneCell'=true)(hl:vs.length<=2000)(h0:w.cell? ⟨F,0,none⟩=some sl)(h1:w.cell? ⟨F,1,none⟩=some (.slice (some ⟨G,0,none⟩) 1 1))(U:w.cell? ⟨G,0,none⟩=some v) :Calls prog 296 #[.slice (some ⟨F,0,none⟩) 2 2] w fun e H=>∃x,e=.returned x/\CatQ w (vs++[v]) x H:=by
 obtain⟨O,t,B,C,D⟩:=rD;obtain⟨V,o,rfl,ae,Q⟩:=hS;have R:=h_ Q;have W:=h_ i;have E:=World.block_lt_of_cell? _ _ h0;have I:=World.block_lt_of_cell? _ _ U;have ai:wrap64 (0+(vs.length:Int))=(vs.length:Int):=by unfold wrap64;omega
 have aj:wrap64 ((vs.length:Int)+1)=((vs.length+1:Nat):Int):=by unfold wrap64;omega
 have af:¬((vs.length:Int)<0):=by omega
 have ag:¬(((vs.length+1:Nat):Int)<0):=by omega
 have X:Hid (Calls prog 298 #[.slice none 0 0,.int .i64 ((vs.length+1:Nat):Int)] w fun e H=>∃o,vs.length+1<=o/\e=.returned (.slice (some ⟨w.heap.size,0,none⟩) 0 o)/\Below w.heap.size w H/\H.ownsRow w.heap.size B9 1 (.slice (some ⟨w.heap.size,0,none⟩) 0 o) 0 []/\w.heap.size<H.heap.size):=p_grow w (vs.length+1) (by omega) (by omega);clear Q i;go_enter func296,ntmps296;go_wp2_with fail;refine wp_loop_rounds 3 ?_;rw [rounds_succ];go_wp2_with fail;rw [rounds_succ];go_wp2_with fail;rw [rounds_succ];go_wp2_with (go_at_call 298;refine Calls.mono X ?_;rintro e S ⟨cg,ak,rfl,f,q,al⟩;have k0:=(f.cell (p:=⟨F,0,none⟩) E).trans h0;have k1:=(f.cell (p:=⟨F,1,none⟩) E).trans h1);have A:∀{x:Value} {n:Nat} {xs:List Value} {Y:World},S.ownsRow w.heap.size B9 1 x n xs->S.grownBy Y x.ownBlock->Below w.heap.size w Y:=fun hx Z=>f.grown Z f.size (fun k hk=>(hx.lt k hk).1);have am:=h_ f;have HV:=h_ hv;refine wp_loop_rounds 3 ?_;by_cases J:∃a,V=some a
 ·obtain⟨a,rfl⟩:=J;have r:∀(j:Nat)(u:Value),vs[j]?=some u->S.cell? (a.add j)=some u:=fun j u y=>by obtain⟨g,K,e,Z,Q⟩:=R.out j u y;simp only [o_] at e;subst e;rw [Addr.add_lit];exact(f.cell (p:=⟨g,K+j,none⟩) Z).trans Q
  have i:=W.out;clear R W X;rw [rounds_succ];go_wp2_with (at_builtin;refine wpList_append_own _ rfl _ _ 293 rfl w.heap.size B9 O .nilIface 1 16 underlying293 t B C D rfl (by decide) _ 0 [] rfl q a vs.length o vs rfl (by simp) r i (by unfold maxLen;omega) (by omega) f.size ?_;intro v1 Y h m _);have z:=A q m;simp only [Nat.zero_add,List.nil_append] at h;have q1:=(z.cell (p:=⟨F,1,none⟩) E).trans h1;have q2:=(z.cell (p:=⟨G,0,none⟩) I).trans U;obtain⟨an,ah,rfl,_⟩:=cJ h;have L:=h_ z;clear m r i k0 k1;rw [rounds_succ];go_wp2_with (at_builtin;refine wpList_append_own _ rfl _ _ 293 rfl w.heap.size B9 O .nilIface 1 16 underlying293 t B C D rfl (by decide) _ vs.length vs rfl h ⟨G,0,none⟩ 1 1 [v] rfl (by simp) (fun j u y=>(by cases j with | zero=>simp at y;subst y;simpa [Addr.add_lit] using q2 | succ j=>simp at y)) (fun u M=>(by simp at M;subst M;exact HV)) (by unfold maxLen;omega) (by omega) z.size ?_;intro v2 T b d l);have s:Below w.heap.size w T:=L.grown d L.size (fun k hk=>(h.lt k hk).1)
  have HX:Hid (CatQ w (vs++[v]) v2 T):=by
   refine⟨s,by simpa using b,?_⟩;rcases b.2 with⟨_,hz⟩ | ⟨g,c,aa,rfl,_⟩
   ·omega
   ·exact⟨g,c,by simp⟩
  obtain⟨ab,N,rfl,_⟩:=cJ b;clear b d l s;rw [rounds_succ];go_wp2_with fail;go_ret;exact⟨_,rfl,HX⟩
 ·obtain rfl:V=none:=by
   cases V with
   | none=>rfl
   | some a=>exact absurd ⟨a,rfl⟩ J
  have ac:vs=[]:=by
   cases vs with
   | nil=>rfl
   | cons u us=>obtain⟨g,K,e,_⟩:=R.out 0 u rfl;cases e
  subst ac;have ad:=sR (P:=prog) S w.heap.size 293 293 B9 O 1 underlying293 t _ 0 [] q o;have q2:=(f.cell (p:=⟨G,0,none⟩) I).trans U;simp only [z_] at k0 q;clear R W X;rw [rounds_succ];go_wp2_with (at_builtin;refine dC _ rfl _ _ 293 293 rfl _ rfl _ rfl 293 rfl ad ?_);rw [rounds_succ];go_wp2_with (at_builtin;refine wpList_append_own _ rfl _ _ 293 rfl w.heap.size B9 O .nilIface 1 16 underlying293 t B C D rfl (by decide) _ 0 [] rfl q ⟨G,0,none⟩ 1 1 [v] rfl (by simp) (fun j u y=>(by cases j with | zero=>simp at y;subst y;simpa [Addr.add_lit] using q2 | succ j=>simp at y)) (fun u M=>(by simp at M;subst M;exact HV)) (by unfold maxLen;omega) (by omega) f.size ?_;intro v2 T b d l);have s:=A q d
  have HX:Hid (CatQ w ([]++[v]) v2 T):=by
   refine⟨s,by simpa using b,?_⟩;rcases b.2 with⟨_,hz⟩ | ⟨g,c,aa,rfl,_⟩
   ·omega
   ·exact⟨g,c,by simp⟩
  obtain⟨ab,N,rfl,_⟩:=cJ b;clear b d l s;rw [rounds_succ];go_wp2_with fail;go_ret;exact⟨_,rfl,HX⟩
end
end Go.Proofs.YtieooapcfpimlaaGreatDoor
