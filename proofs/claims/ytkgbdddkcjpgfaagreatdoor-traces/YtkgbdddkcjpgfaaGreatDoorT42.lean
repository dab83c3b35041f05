import Derived.Test.YtkgbdddkcjpgfaaGreatDoorT34
import Derived.Test.YtkgbdddkcjpgfaaGreatDoorT13
import Derived.Test.YtkgbdddkcjpgfaaGreatDoorT40
namespace Go.Proofs.YtkgbdddkcjpgfaaGreatDoor
set_option maxHeartbeats 1000000
set_option maxRecDepth 100000
open Go.Proofs.Tryz
open Pl (PV PW PS PF CW SR AE Env)
section
open Go.RowKit Go.Lib Go.Maps
variable {w w' w1:World} {M:Nat->Prop} {v ev:Value} {tb mb sb gb k rb i:Nat} {e:Ending} {c:Array Value} {T:TypeId}
def OutB(M:Nat->Prop)(w:World)(sb rb:Nat)(out:AE):Prop:=∃fv ev gv kv ov,C0 M w sb rb fv ev gv kv ov/\DS M w ov out
def LP(w:World)(s t:Sg):Prop:=∀b∈t.pb,b∈s.pb\/w.heap.size<=b
theorem LP.refl(w:World)(s:Sg):LP w s s:=fun _ h=>.inl h
theorem LP.trans{s t u:Sg}(h:LP w s t)(k:LP w1 t u)(a:w.heap.size<=w1.heap.size):LP w s u:=fun b c=>(k b c).elim (h b) (fun x=>.inr (t_ a x))
def EG(w:World)(s t:Sg):Prop:=t.ns=s.ns/\LP w s t
theorem EG.refl(w:World)(s:Sg):EG w s s:=⟨rfl,LP.refl w s⟩
theorem EG.same{s t:Sg}(a:t.ns=s.ns)(b:t.pb=s.pb):EG w s t:=⟨a,fun _ h=>.inl (b▸h)⟩
theorem EG.trans{s t u:Sg}(h:EG w s t)(k:EG w1 t u)(a:w.heap.size<=w1.heap.size):EG w s u:=⟨k.1.trans h.1,h.2.trans k.2 a⟩
theorem EG.back{s t:Sg}(k:EG w1 s t)(a:w.heap.size<=w1.heap.size):EG w s t:=(EG.refl w s).trans k a
def AS(M:Nat->Prop)(w:World)(s:Sg)(tb mb sb gb rb:Nat)(r:SR)(e:Ending)(w':World):Prop :=
 ∃M' s',Stp M w M' w'/\(Sg.Le s s'/\EG w s s')/\Wd M' w' s' tb mb sb gb r.W /\
  ((r.e=0/\e=.returned .nilIface/\LO M' w' s' sb rb r.S r.W.out)\/(∃es,r.e≠0/\e=.returned (aY es (r.e:Nat))/\OutB M' w' sb rb r.W.out))
theorem AS.one{s:Sg}{r:SR}(h:AS M w s tb mb sb gb rb r e w'):∃v,e=.returned v:=by
 obtain⟨_,_,_,_,_,⟨_,h,_⟩ | ⟨a,_,h,_⟩⟩:=h
 ·exact⟨_,h⟩
 ·exact⟨_,h⟩
theorem AS.after{s:Sg}{r:SR}(h:AS M w1 s tb mb sb gb rb r e w')(a:Stp M w M w1):AS M w s tb mb sb gb rb r e w':=by obtain⟨c,d,f,b,g⟩:=h;exact⟨c,d,a.trans f,⟨b.1,b.2.back a.size⟩,g⟩
theorem AS.M7{M1:Nat->Prop}{s a:Sg}{r:SR}(h:AS M1 w1 a tb mb sb gb rb r e w')(b:Stp M w M1 w1)(l:Sg.Le s a)(d:EG w s a):AS M w s tb mb sb gb rb r e w':=by obtain⟨f,g,i,c,j⟩:=h;exact⟨f,g,b.trans i,⟨l.trans c.1,d.trans c.2 b.size⟩,j⟩
theorem DS.keep{M':Nat->Prop}{l:AE}(h:DS M w v l)(e:∀g a f,M g->w.heap[g]?=some (.cells a JM f)->w'.heap[g]?=w.heap[g]? /\ M' g):DS M' w' v l:=by
 have c:∀g,v.ownBlock=some g->w'.heap[g]?=w.heap[g]? /\ M' g:=fun g b=>by
  rcases h.1.2 with⟨rfl,_⟩ | ⟨d,i,a,rfl,_,j,_⟩
  ·cases b
  ·obtain rfl:d=g:=by simpa [Value.ownBlock] using b
   exact e d a _ (h.2 d rfl) j
 exact⟨gA h.1 (fun g b=>(c g b).1),fun g b=>(c g b).2⟩
theorem DS.ch{cs cs0:Array Value}{l:AE}(h:DS M w v l)(b:AI w rb cs w')(c:w.heap[rb]?=some (.cells cs0 BT (0,0))):DS M w' v l :=
 h.keep (fun g d i f a=>⟨b.other g (aB a) (fun e=>by
  subst e;rw [c] at a;simp only [o_,Obj.cells.injEq] at a
  exact absurd a.2.1 (by decide)),f⟩)
theorem DS.below{l:AE}(h:DS M w v l)(a:Below w.heap.size w w'):DS M w' v l:=h.keep (fun g _ _ b c=>⟨a.block g (aB c),b⟩)
theorem LO.below{s:Sg}{S:PS}{b:AE}(h:LO M w s sb rb S b)(c:Below w.heap.size w w'):LO M w' s sb rb S b:=by
 obtain⟨g,i,j,k,l,d,a,m,n⟩:=h.ex;refine⟨g,i,j,k,l,⟨(c.block rb (aB d.blk)).trans d.blk,d.JK⟩,?_,m.go (Stp.AA c) (Sg.Le.refl _),n.below c⟩;unfold FE at a ⊢;split
 ·rename_i e;rw [e] at a;exact a
 ·rename_i f e;rw [e] at a;exact⟨a.1.go (Stp.AA c) (Sg.Le.refl _),a.2.go (Stp.AA c) (Sg.Le.refl _)⟩
theorem eH{w2:World}{s:Sg}{W:PW}{S':PS}{c0 c1 c2 c3 c4 c5 fv gv kv ov:Value}(e:Wd M w s tb mb sb gb W)(c:w.heap[rb]?=some (.cells #[c0,c1,c2,c3,c4,c5] BT (0,0)))(d:M rb)(b:AI w rb #[.pointer (some ⟨sb,0,none⟩),fv,ev,gv,kv,ov] w2)
  (f:Stp M w M w2->FE M w2 s fv ev gv S') (g:Stp M w M w2->GW M w2 s kv S'.AB) (h:DS M w ov W.out):AS M w s tb mb sb gb rb ⟨0,W,S'⟩ (.returned .nilIface) w2:=by
 have a:=b.mv c d;exact⟨M,s,a.AQ,⟨Sg.Le.refl _,EG.refl _ _⟩,e.mv a,.inl ⟨rfl,rfl,⟨fv,ev,gv,kv,ov,⟨b.blk,d⟩,f a.AQ,g a.AQ,h.ch b c⟩⟩⟩
theorem tK(w:World):(zeroValue 161).run prog w=.ok .nilIface w:=by kernel_rfl
def MH:Nat:=9223372036854775807
def G5(s:Sg):Prop:=s.ns.length<=MH
theorem TQ(h:k<=MH):keyOf prog 3 (.int .i64 (k:Int))=some (.int .i64 (k:Int)):=keyOf_int_mk underlying3 (WalkArith.wf_i64 (by unfold MH at h;omega))
theorem IW.nsok{s:Sg}(h:IW w tb mb s.ns):G5 s:=by
 obtain⟨D,⟨a,c,_,F,_,rfl⟩,b⟩:=h.map;have d:=b.size;have e:Maps.size (DataW.map ((a.toList.map (WideElems.rg prog 9 (plainElem prog 3))).foldr DataW.insert []):DataW Unit)=a.size:=length_read (P:=prog) (k:=9) (R0:=plainElem prog 3) a;have f:=F.size;have g:s.ns.length<=maxLen:=by rw [<- d,e];exact f
 exact g
theorem rE{s:Sg}{W:PW}(h:GV w gb s W){nm:AE}(j:G5 s)(g:s.ns[k]?=some nm)(l:Pl.find W.globals nm=some i):∃v p,W.places[i]?=some p/\RV s v p/\∀a,a.heap[gb]?=w.heap[gb]? -> (Instr.lookup 145 (.map (some gb)) (.int .i64 (k:Int)) true).run prog a=.ok (.tuple #[v,.bool true]) a:=by
 obtain⟨D,⟨m,c,n,o⟩,q⟩:=h;obtain⟨r,v,p,t,u,e⟩:=q.yes k nm i g l;refine⟨v,p,u,e,fun a x=>?_⟩;have b:a.ownsMap prog 3 s9 gb W.globals.length D:=⟨m,c,x.trans n,o⟩
 obtain⟨y,z,d,f⟩:=b.look_ok TN underlying145 (tK a) (zd:=.held .nilIface) (zp:=[]) rfl (TQ (k:=k) (by have:=(s_ g).1;unfold G5 at j;omega));rw [t] at f;simp only [s9,o_,Prod.mk.injEq,DataW.held.injEq] at f;rw [d,r,f.1]
theorem pS{s:Sg}{W:PW}(h:GV w gb s W){nm:AE}(i:G5 s)(f:s.ns[k]?=some nm)(j:Pl.find W.globals nm=none):∀a,a.heap[gb]?=w.heap[gb]? -> (Instr.lookup 145 (.map (some gb)) (.int .i64 (k:Int)) true).run prog a=.ok (.tuple #[.nilIface,.bool false]) a:=by
 obtain⟨D,⟨l,c,m,n⟩,o⟩:=h;have g:=o.no k nm f j;intro a p;have b:a.ownsMap prog 3 s9 gb W.globals.length D:=⟨l,c,p.trans m,n⟩
 obtain⟨q,r,d,e⟩:=b.look_ok TN underlying145 (tK a) (zd:=.held .nilIface) (zp:=[]) rfl (TQ (k:=k) (by have:=(s_ f).1;unfold G5 at i;omega));rw [atKey_of_not_has g] at e;simp only [s9,o_,Prod.mk.injEq,DataW.held.injEq] at e;rw [d,g,e.1]
theorem eM(g:Env)(nm x:AE)(n:Nat):Pl.find (g++[(nm,n)]) x=if nm=x then some n else Pl.find g x:=by
 rw [Pl.FJ];simp only [Pl.find];split
 ·rename_i k a;by_cases e:nm=x
  ·rw [if_pos e] at a ⊢;exact a.symm
  ·rw [if_neg e] at a;cases a
 ·rename_i a;by_cases e:nm=x
  ·rw [if_pos e] at a;cases a
  ·rw [if_neg e]
def Sg.FO(s:Sg):Sg:={s with lp:=s.lp++[none]}
theorem Sg.FC(s:Sg):Sg.Le s s.FO:=⟨rfl,rfl,List.prefix_refl _,List.prefix_refl _,List.prefix_refl _,List.prefix_append _ _,List.prefix_refl _⟩
theorem S8{s:Sg}(b:s.ns.Nodup){j:Nat}{a:AE}(c:s.ns[k]?=some a)(d:s.ns[j]?=some a):k=j:=by have e:=cV b c;have f:=cV b d;omega
theorem eK{j:Nat}(h:k≠j):(Lit.int .i64 (k:Int))≠.int .i64 (j:Int):=fun e=>by simp only [Lit.int.injEq,true_and] at e;omega
theorem E2.setG{D:DataW Value}{s:Sg}{W:PW}(h:E2 D s W)(l:s.ns.Nodup){nm:AE}{q:PV}(f:s.ns[k]?=some nm)(g:Pl.find W.globals nm=some i)(n:RV s v q)(o:i<W.places.length):E2 (D.put (.int .i64 (k:Int)) (.held v)) s {W with places:=W.places.set i q}:=by
 have c:WideAt.IsKeyLit (.int .i64 (k:Int)):=trivial;refine⟨h.tidy.put c _,?_,?_,?_,h.names,h.inj⟩
 ·intro j a m b d;by_cases e:j=k
  ·subst e;obtain rfl:a=nm:=i_ (b.symm.trans f);obtain rfl:m=i:=i_ (d.symm.trans g);exact⟨has_put_same h.tidy.isMap c _,v,q,fun z=>atKey_put_same h.tidy.isMap c _ z,by simp [o],n⟩
  ·obtain⟨r,u,p,t,w,x⟩:=h.yes j a m b d;refine⟨by rw [has_put_other (eK e)];exact r,u,p,fun z=>by rw [atKey_put_other (eK e)];exact t z,?_,x⟩;show(W.places.set i q)[m]?=some p;rw [List.getElem?_set_ne (fun y=>e (by subst y;exact S8 l b (by rw [h.inj a nm i d g];exact f)))];exact w
 ·intro j a b d
  have e:j≠k:=fun e=>by
   subst e;obtain rfl:a=nm:=i_ (b.symm.trans f);rw [show Pl.find W.globals a=none from d] at g
   cases g
  rw [has_put_other (eK e)];exact h.no j a b d
 ·intro j b;by_cases e:j=k
  ·subst e;exact(s_ f).1
  ·rw [has_put_other (eK e)] at b;exact h.keys j b
theorem E2.newG{D:DataW Value}{s:Sg}{W:PW}(h:E2 D s W)(A:s.ns.Nodup){nm:AE}{q:PV}(r:s.ns[k]?=some nm)(J:Pl.find W.globals nm=none)(B:RV s v q)(C:s.lp.length=W.places.length)(E:LG W W.globals) :E2 (D.put (.int .i64 (k:Int)) (.held v)) s.FO {W with places:=W.places++[q],globals:=W.globals++[(nm,W.places.length)]}:=by
 have l:WideAt.IsKeyLit (.int .i64 (k:Int)):=trivial;have n:∀a m,Pl.find W.globals a=some m->m<W.places.length:=fun a m o=>by have:=(s_ (h.names a m o).2).1;omega
 have _:=E;refine⟨h.tidy.put l _,?_,?_,?_,?_,?_⟩
 ·intro j a m i o;have c:(if nm=a then some W.places.length else Pl.find W.globals a)=some m:=by rw [<- eM];exact o
  by_cases e:j=k
  ·subst e;obtain rfl:a=nm:=i_ (i.symm.trans r);rw [if_pos rfl] at c;obtain rfl:=i_ c;exact⟨has_put_same h.tidy.isMap l _,v,q,fun z=>atKey_put_same h.tidy.isMap l _ z,by simp,B.le s.FC⟩
  ·have w:nm≠a:=fun d=>e (S8 A i (by rw [<- d];exact r));rw [if_neg w] at c;obtain⟨x,u,p,y,F,G⟩:=h.yes j a m i c;refine⟨by rw [has_put_other (eK e)];exact x,u,p,fun z=>by rw [atKey_put_other (eK e)];exact y z,?_,G.le s.FC⟩;show(W.places++[q])[m]?=some p;rw [List.getElem?_append_left (n a m c)];exact F
 ·intro j a i o;have c:(if nm=a then some W.places.length else Pl.find W.globals a)=none:=by rw [<- eM];exact o
  by_cases d:nm=a
  ·rw [if_pos d] at c;cases c
  ·rw [if_neg d] at c;have e:j≠k:=fun e=>by subst e;exact d (i_ (r.symm.trans i))
   rw [has_put_other (eK e)];exact h.no j a i c
 ·intro j i;by_cases e:j=k
  ·subst e;exact(s_ r).1
  ·rw [has_put_other (eK e)] at i;exact h.keys j i
 ·intro a m o;have c:(if nm=a then some W.places.length else Pl.find W.globals a)=some m:=by rw [<- eM];exact o
  by_cases d:nm=a
  ·rw [if_pos d] at c;obtain rfl:=i_ c;subst d;refine⟨q_ r,?_⟩;show(s.lp++[none])[W.places.length]?=some none;rw [<- C];simp
  ·rw [if_neg d] at c;obtain⟨x,y⟩:=h.names a m c;exact⟨x,bS (List.prefix_append _ _) y⟩
 ·intro a b m H I;have f:(if nm=a then some W.places.length else Pl.find W.globals a)=some m:=by rw [<- eM];exact H
  have g:(if nm=b then some W.places.length else Pl.find W.globals b)=some m:=by rw [<- eM];exact I
  by_cases d:nm=a
  ·by_cases t:nm=b
   ·exact d.symm.trans t
   ·rw [if_pos d] at f;rw [if_neg t] at g;obtain rfl:=i_ f;exact absurd (n b _ g) (Nat.lt_irrefl _)
  ·by_cases t:nm=b
   ·rw [if_pos t] at g;rw [if_neg d] at f;obtain rfl:=i_ g;exact absurd (n a _ f) (Nat.lt_irrefl _)
   ·rw [if_neg d] at f;rw [if_neg t] at g;exact h.inj a b m f g
theorem CM.setO{s:Sg}{b:List PV}(h:CM M w s b)(hi:s.lp[i]?=some none)(q:PV):CM M w s (b.set i q) :=
 ⟨by rw [List.length_set];exact h.len,h.inj,fun j g o p a c=>by
  rw [List.getElem?_set_ne (fun e=>by subst e;rw [hi] at a;simp at a)] at c
  exact h.at_ j g o p a c⟩
theorem CM.newO{s:Sg}{l:List PV}(h:CM M w s l)(q:PV):CM M w s.FO (l++[q]):=by
 have a:∀i (c:Nat×Nat),s.FO.lp[i]?=some (some c)->s.lp[i]?=some (some c):=fun i c b=>by
  rcases p5 b with e | ⟨_,f⟩
  ·exact e
  ·cases f
 refine⟨by simp [Sg.FO,h.len],fun i j c b n=>h.inj i j c (a i c b) (a j c n),fun i g o p b m=>?_⟩;have d:=a i _ b;have r:=(s_ d).1;rw [List.getElem?_append_left (by rw [<- h.len];exact r)] at m;obtain⟨e,k,v,f,t,u⟩:=h.at_ i g o p d m;exact⟨e,k,v,f,t,u.le s.FC⟩
structure Kept(M:Nat->Prop)(w:World)(rb:Nat)(w':World):Prop where
 AQ:Stp M w M w'
 run:w'.heap[rb]?=w.heap[rb]?
 outs:∀(g:Nat)(cur:Array Value)(fz:Nat×Nat),w.heap[g]?=some (Obj.cells cur JM fz)->w'.heap[g]?=w.heap[g]?
theorem FE.go{M':Nat->Prop}{s t:Sg}(b:Stp M w M' w')(l:Sg.Le s t){gv:Value}{S:PS}(h:FE M w s v ev gv S):FE M' w' t v ev gv S:=by
 unfold FE at h ⊢;split
 ·rename_i a;rw [a] at h;exact⟨h.1,h.2.le l⟩
 ·rename_i f a;rw [a] at h;exact⟨h.1.go b l,h.2.go b l⟩
theorem LO.kept{s t:Sg}{S:PS}{a:AE}(h:LO M w s sb rb S a)(b:Kept M w rb w')(l:Sg.Le s t):LO M w' t sb rb S a:=by obtain⟨e,f,i,j,k,d,m,n,o⟩:=h.ex;exact⟨e,f,i,j,k,⟨b.run.trans d.blk,d.JK⟩,m.go b.AQ l,n.go b.AQ l,o.keep (fun g c p q r=>⟨b.outs g c p r,q⟩)⟩
theorem E2.setL{D:DataW Value}{s:Sg}{W:PW}(h:E2 D s W){c:Nat×Nat}(b:s.lp[i]?=some (some c))(q:PV):E2 D s {W with places:=W.places.set i q}:=by refine⟨h.tidy,?_,h.no,h.keys,h.names,h.inj⟩;intro j a m f d;obtain⟨g,u,p,k,l,n⟩:=h.yes j a m f d;refine⟨g,u,p,k,?_,n⟩;show(W.places.set i q)[m]?=some p;rw [List.getElem?_set_ne (fun e=>by subst e;rw [(h.names a _ d).2] at b;simp at b)];exact l
theorem Wd.nodup{s:Sg}{W:PW}(h:Wd M w s tb mb sb gb W):s.ns.Nodup:=by obtain⟨D,_,a⟩:=h.CY.B3.map;exact a.nodup
theorem Wd.NH{s:Sg}{W:PW}(h:Wd M w s tb mb sb gb W):IS s:=.inl ⟨h.tq,h.tc⟩
theorem Wd.SU{s:Sg}{W:PW}(h:Wd M w s tb mb sb gb W){g o:Nat}{q:PV}(n:s.lp[i]?=some (some (g,o)))(V:RV s v q)(F:Nat)(cs:Array Value)(l:w.heap[F]?=some (.cells cs BT (0,0))) :Wd M (w.setCell ⟨g,o,none⟩ v) s tb mb sb gb {W with places:=W.places.set i q}/\Kept M w F (w.setCell ⟨g,o,none⟩ v)/\w.frozen? ⟨g,o,none⟩=false/\∃u,w.cell? ⟨g,o,none⟩=some u:=by
 have O:=(s_ n).1;obtain⟨P,G,X,d,Q,_⟩:=h.places.at_ i g o _ n (g_ (by rw [<- h.places.len];exact O));have c:Stp M w M (w.setCell ⟨g,o,none⟩ v):=Stp.set P o v;have a:∀k,k≠g->(w.setCell ⟨g,o,none⟩ v).heap[k]?=w.heap[k]? := fun k e=>Below.heap_setCell _ _ _ _ (fun x=>e (by simpa using x));obtain⟨e1,c1,r⟩:=h.CY.B3.F6;obtain⟨e2,c2,t⟩:=h.DI.F6;have H:mb≠g:=fun e=>by subst e;rw [d] at r;simp at r
 have I:gb≠g:=fun e=>by subst e;rw [d] at t;simp at t
 obtain⟨Y,Z⟩:=c.block tb h.CY.B3.lt.1 h.CY.JJ;obtain⟨s1,s2⟩:=c.block sb (aB h.NN) h.msb;have J:o<G.size:=(Array.getElem?_eq_some_iff.1 Q).1;refine⟨⟨⟨h.CY.B3.keep Y (a mb H),h.CY.pairs.AQ c,h.CY.FV,Z,fun k y=>by simpa [World.setCell] using h.CY.mlt k y⟩,s1.trans h.NN,s2,?_,h.TH,h.UE,h.procs.mono (fun b x K=>K.go c (Sg.Le.refl _)),h.AG.mono (fun b x K=>K.go c (Sg.Le.refl _)),?_,h.gs.AQ c,h.JQ.AQ h.gs c,(bY h.gs c kT).trans h.gt,?_,h.tq,h.tc⟩,⟨c,?_,?_⟩,aF d o,X,(aA d o).trans Q⟩
 ·obtain⟨D,z,hD⟩:=h.DI.keep (a gb I);exact⟨D,z,hD.setL n q⟩
 ·refine⟨by rw [List.length_set];exact h.places.len,h.places.inj,fun j B L p A C=>?_⟩;by_cases e:j=i
  ·subst e;rw [n] at A;simp only [o_,Prod.mk.injEq] at A;obtain⟨rfl,rfl⟩:=A;rw [List.getElem?_set_self (by rw [<- h.places.len];exact O)] at C;obtain rfl:=i_ C;exact⟨P,_,v,aD d o v,by simp [J],V⟩
  ·rw [List.getElem?_set_ne (fun x=>e x.symm)] at C;obtain⟨E,f,R,m,S,T⟩:=h.places.at_ j B L p A C;by_cases U:B=g
   ·subst U;rw [d] at m;simp only [o_,Obj.cells.injEq,and_true] at m;subst m;have N:L≠o:=fun N=>e (h.places.inj j i (B,L) A (by rw [N];exact n));refine⟨E,_,R,aD d o v,?_,T⟩;rw [Array.getElem?_setIfInBounds,if_neg (fun x=>N x.symm)];exact S
   ·exact⟨E,f,R,(a B U).trans m,S,T⟩
 ·obtain⟨u,E,m⟩:=h.ge;exact⟨u,(bY h.gs c kU).trans E,m⟩
 ·exact a F (fun e=>by
   subst e;rw [d] at l;simp only [o_,Obj.cells.injEq] at l
   exact absurd l.2.1 (by decide))
 ·intro k f fz y
  exact a k (fun e=>by
   subst e;rw [d] at y;simp only [o_,Obj.cells.injEq] at y
   exact absurd y.2.1 (by decide))
theorem Wd.turn{s t:Sg}{W W':PW}(h:Wd M w s tb mb sb gb W)(r:w.grownBy w' (some gb))(l:Sg.Le s t)(F:t.pb=s.pb)(G:t.qb=s.qb)(H:t.cb=s.cb)(I:t.ns=s.ns)(J:GV w' gb t W')(y:CM M w t W'.places)(K:W'.pairs=W.pairs)(L:W'.procs=W.procs)(N:W'.AG=W.AG)(z:Nat)(cs:Array Value)(A:w.heap[z]?=some (.cells cs BT (0,0))) :Wd M w' t tb mb sb gb W'/\Kept M w z w':=by
 have m:Stp M w M w':=Stp.DX r (fun k f=>by obtain rfl:=i_ f;exact h.TH);have j:∀k,k<w.heap.size->k≠gb->w'.heap[k]?=w.heap[k]? := fun k f e=>r.block k f (fun x=>e (i_ x));obtain⟨X,c,B⟩:=h.DI.F6;have a:∀(k:Nat)(d:Array Value)(T:TypeId)(C:Nat×Nat),w.heap[k]?=some (Obj.cells d T C)->w'.heap[k]?=w.heap[k]? := fun k d T C f=>j k (aB f) (fun e=>by subst e;rw [B] at f;simp at f);obtain⟨O,P⟩:=m.block tb h.CY.B3.lt.1 h.CY.JJ;obtain⟨Q,R⟩:=m.block sb (aB h.NN) h.msb;have n:IW w' tb mb t.ns:=by rw [I];exact h.CY.B3.keep O (j mb h.CY.B3.lt.2 (fun e=>h.UE e.symm))
 refine⟨⟨⟨n,by rw [K];exact(h.CY.pairs.AQ m).le l F,h.CY.FV,P,fun k f=>l_ (h.CY.mlt k f) r.size⟩,Q.trans h.NN,R,J,h.TH,h.UE,by rw [L,G];exact h.procs.mono (fun b x D=>D.go m l),by rw [N,H];exact h.AG.mono (fun b x D=>D.go m l),?_,h.gs.AQ m,h.JQ.AQ h.gs m,(bY h.gs m kT).trans h.gt,?_,by rw [l.tq];exact h.tq,by rw [l.tc];exact h.tc⟩,⟨m,(a z cs _ _ A),fun k d C f=>a k d _ _ f⟩⟩
 ·exact⟨y.len,y.inj,fun i g o p S U=>by
   obtain⟨E,d,v,q,V⟩:=y.at_ i g o p S U
   exact⟨E,d,v,(a g d _ _ q).trans q,V⟩⟩
 ·obtain⟨u,E,q⟩:=h.ge;exact⟨u,(bY h.gs m kU).trans E,q⟩
theorem Wd.putG{s:Sg}{W:PW}(h:Wd M w s tb mb sb gb W)(y:G5 s){nm:AE}{q:PV}(l:s.ns[k]?=some nm)(m:Pl.find W.globals nm=some i)(z:RV s v q)(A:W.globals.length<=6500000000000000000)(n:Nat)(cs:Array Value)(o:w.heap[n]?=some (.cells cs BT (0,0))) :∃e,(Instr.mapUpdate 145 (.map (some gb)) (.int .i64 (k:Int)) v).run prog w=.ok () e/\Wd M e s tb mb sb gb {W with places:=W.places.set i q}/\Kept M w n e:=by
 obtain⟨D,a,j⟩:=h.DI;have p:k<=MH:=by have:=(s_ l).1;unfold G5 at y;omega
 obtain⟨e,f,b,c⟩:=a.store TN underlying145 (by unfold maxLen;omega) (TQ p) (d:=.held v) (ps:=[]) (val:=v) rfl;have g:=(j.names nm i m).2;have r:i<W.places.length:=by rw [<- h.places.len];exact(s_ g).1
 have u:=j.setG h.nodup l m z r;have x:Maps.size (D.put (.int .i64 (k:Int)) (.held v))<=W.globals.length:=by rw [size_put j.tidy,(j.yes k nm i l m).1];exact a.size_le
 obtain⟨B,C⟩:=h.turn (t:=s) (W':={W with places:=W.places.set i q}) c.grown (Sg.Le.refl _) rfl rfl rfl rfl ⟨_,(XS b).mono x,u⟩ (h.places.setO g q) rfl rfl rfl n cs o;exact⟨e,f,B,C⟩
theorem Wd.newG{s:Sg}{W:PW}(h:Wd M w s tb mb sb gb W)(n:G5 s){nm:AE}{q:PV}(m:s.ns[k]?=some nm)(o:Pl.find W.globals nm=none)(p:RV s v q)(r:LG W W.globals)(u:W.globals.length<=6500000000000000000)(g:Nat)(cs:Array Value)(i:w.heap[g]?=some (.cells cs BT (0,0))) :∃c,(Instr.mapUpdate 145 (.map (some gb)) (.int .i64 (k:Int)) v).run prog w=.ok () c/\Wd M c s.FO tb mb sb gb {W with places:=W.places++[q],globals:=W.globals++[(nm,W.places.length)]}/\Kept M w g c:=by
 obtain⟨D,e,x⟩:=h.DI;have j:k<=MH:=by have:=(s_ m).1;unfold G5 at n;omega
 obtain⟨c,f,a,b⟩:=e.store TN underlying145 (by unfold maxLen;omega) (TQ j) (d:=.held v) (ps:=[]) (val:=v) rfl;have l:=x.newG h.nodup m o p h.places.len r;obtain⟨y,z⟩:=h.turn (t:=s.FO) (W':={W with places:=W.places++[q],globals:=W.globals++[(nm,W.places.length)]}) b.grown s.FC rfl rfl rfl rfl ⟨_,by simpa using a,l⟩ (h.places.newO q) rfl rfl rfl g cs i;exact⟨c,f,y,z⟩
def FZ:TypeId:=43
def G7:TypeId:=46
structure LH(w w':World):Prop where
 size:w.heap.size<=w'.heap.size
 block:∀(k:Nat)(o:Obj),w.heap[k]?=some o->(∀c T fz,(T=FZ\/T=G7)->o≠Obj.cells c T fz)->w'.heap[k]?=some o
 low:∀k,k<8->w'.heap[k]?=w.heap[k]?
theorem aAO{g:Nat×Nat}(h:T≠FZ/\T≠G7):∀f d a,(d=FZ\/d=G7)->Obj.cells c T g≠.cells f d a:=fun f d a b e=>by
 simp only [Obj.cells.injEq] at e;rcases b with b | b
 ·exact h.1 (e.2.1.trans b)
 ·exact h.2 (e.2.1.trans b)
theorem LH.cells(h:LH w w'){a:Nat×Nat}(b:w.heap[k]?=some (.cells c T a))(d:T≠FZ/\T≠G7):w'.heap[k]?=some (.cells c T a):=h.block k _ b (aAO d)
theorem LH.map(h:LH w w'){a:Array MapEntry}{c:Nat}(b:w.heap[k]?=some (.map a c)):w'.heap[k]?=some (.map a c):=h.block k _ b (fun _ _ _ _ e=>by cases e)
theorem Sl.FQ(d:LH w w')(f:T≠FZ/\T≠G7){sz:Nat}{n:Nat}{xs:List Value}(h:Sl M w T sz v n xs):Sl M w' T sz v n xs:=by obtain⟨i,j,a,e,k,l⟩:=h;refine⟨i,j,a,e,k,l.imp id ?_⟩;rintro⟨g,b,c,rfl,m,o,r⟩;exact⟨g,b,c,rfl,m,d.cells o f,r⟩
theorem nVal:B9≠FZ/\B9≠G7:=by unfold B9 FZ G7;decide
theorem TG:D8≠FZ/\D8≠G7:=by unfold D8 FZ G7;decide
theorem nNam:B6≠FZ/\B6≠G7:=by unfold B6 FZ G7;decide
theorem nPair:E0≠FZ/\E0≠G7:=by unfold E0 FZ G7;decide
theorem nSur:M8≠FZ/\M8≠G7:=by unfold M8 FZ G7;decide
theorem nPile:DQ≠FZ/\DQ≠G7:=by unfold DQ FZ G7;decide
theorem nSes:U9≠FZ/\U9≠G7:=by unfold U9 FZ G7;decide
theorem nPrS:M9≠FZ/\M9≠G7:=by unfold M9 FZ G7;decide
theorem nCoS:J0≠FZ/\J0≠G7:=by unfold J0 FZ G7;decide
theorem nTab:P5≠FZ/\P5≠G7:=by unfold P5 FZ G7;decide
theorem EI.FQ(a:LH w w'){s:Sg}{sl:Value}{ns:List AE}(h:EI M w s sl ns):EI M w' s sl ns:=by obtain⟨⟨b,c,d⟩,e,f⟩:=h;exact⟨⟨b,c,d.FQ a nNam⟩,e,f⟩
theorem CP.FQ(n:LH w w'){s:Sg}{f:PF}(h:CP M w s v f):CP M w' s v f:=by
 induction h with
 | const x q e d v j g h u=>exact .const x q e d v j g h u
 | name k e d v j g h=>exact .name k e d v j g h
 | iff a b c x y z e d v g _ _ _ A B C=>exact .iff a b c x y z e d v g A B C
 | begin l o e d v j g m p _ r t i=>exact .begin l o e d v j g (m.FQ n TG) p i r t
 | call l o e d v j g m p _ r t i=>exact .call l o e d v j g (m.FQ n TG) p i r t
 | set k a x e d v g h _ i=>exact .set k a x e d v g h i
 | define k a x e d v g h _ i=>exact .define k a x e d v g h i
 | lambda l a x e d v g m _ i=>exact .lambda l a x e d v g (m.FQ n) i
theorem CX.FQ(g:LH w w'){s:Sg}{e:Env}(h:CX M w s v e):CX M w' s v e:=by
 induction h with
 | nil=>exact .nil
 | cons b i j k d a l f m n o c p _ q=>exact .cons b i j k d a l f (g.cells m nSur) n (o.FQ g) c p q
theorem E3.FQ(a:LH w w'){s:Sg}{b:List PF}(h:E3 M w s v b):E3 M w' s v b:=by obtain⟨c,d,e⟩:=h;exact⟨c,d.FQ a TG,e.mono (fun _ _ x=>x.FQ a)⟩
theorem FD.FQ(b:LH w w'){s:Sg}{a:List PV}(h:FD M w s v a):FD M w' s v a:=by obtain⟨c,d,e⟩:=h;exact⟨c,d.FQ b nVal,e⟩
theorem FF.FQ(d:LH w w'){s:Sg}{fr:CW}(h:FF M w s v fr):FF M w' s v fr:=by
 cases h with
 | iff a b c f _ x y z e m n o p g=>exact .iff a b c f _ x y z e m n (o.FQ d) (p.FQ d) (g.FQ d)
 | set k f _ e i g=>exact .set k f _ e i (g.FQ d)
 | define k _ e i=>exact .define k _ e i
 | begin j f _ e l g=>exact .begin j f _ e (l.FQ d) (g.FQ d)
 | call q j f _ e r l g=>exact .call q j f _ e (r.FQ d) (l.FQ d) (g.FQ d)
theorem GW.FQ(a:LH w w'){s:Sg}:∀(d:List CW)(v:Value),GW M w s v d->GW M w' s v d
 | [],_,h=>h
 | f::r,v,h=>by obtain⟨b,c,e,g,i,j,k,l⟩:=h;exact⟨b,c,e,g,i,a.cells j nPile,k.FQ a,GW.FQ a r e l⟩
theorem GR.FQ(c:LH w w'){s:Sg}{b:Nat}{q:PF×Env}(h:GR M w s b q):GR M w' s b q:=by obtain⟨d,e,a,f,x,g,i,j,k,l⟩:=h;exact⟨d,e,a,f,x,c.cells g nPrS,i,j.FQ c,k.FQ c,l.FQ c⟩
theorem GX.FQ(a:LH w w'){s:Sg}{b:Nat}{q:List CW}(h:GX M w s b q):GX M w' s b q:=by obtain⟨c,d,e,f⟩:=h;exact⟨c,d,a.cells e nCoS,f.FQ a⟩
theorem Wd.FQ{s:Sg}{W:PW}(h:Wd M w s tb mb sb gb W)(a:LH w w'):Wd M w' s tb mb sb gb W:=by
 have d:∀k o,k<8->w'.cell? ⟨k,o,none⟩=w.cell? ⟨k,o,none⟩:=fun k o e=>World.cell?_of_block (w:=w) (a.low k e);obtain⟨E,F,f⟩:=h.CY.B3.F6;obtain⟨G,c,j⟩:=h.DI.F6;refine⟨⟨h.CY.B3.keep ((a.cells h.CY.B3.blk nTab).trans h.CY.B3.blk.symm) ((a.map f).trans f.symm),⟨h.CY.pairs.len,h.CY.pairs.nodup,fun i b p B n=>?_⟩,h.CY.FV,h.CY.JJ,fun k e=>l_ (h.CY.mlt k e) a.size⟩,a.cells h.NN nSes,h.msb,h.DI.keep ((a.map j).trans j.symm),h.TH,h.UE,h.procs.mono (fun b x q=>q.FQ a),h.AG.mono (fun b x q=>q.FQ a),⟨h.places.len,h.places.inj,fun i g o p C n=>?_⟩,⟨t_ h.gs.size a.size,h.gs.low,iH a.low h.gs.B3⟩,fun k D e r=>?_,(d _ _ kT).trans h.gt,?_,h.tq,h.tc⟩
 ·obtain⟨l,x,y,m,t,z⟩:=h.CY.pairs.at_ i b p B n;exact⟨l,x,y,a.cells m nPair,t,z⟩
 ·obtain⟨l,A,v,m,t,z⟩:=h.places.at_ i g o p C n;exact⟨l,A,v,a.cells m nVal,t,z⟩
 ·rw [d _ _ jN,d _ _ jN];exact h.JQ k D e r
 ·obtain⟨u,l,m⟩:=h.ge;exact⟨u,(d _ _ kU).trans l,m⟩
theorem LH.set{R:Nat}{b:Nat×Nat}(d:w.heap[R]?=some (.cells c FZ b))(g:8<=R)(o:Nat)(v:Value):LH w (w.setCell ⟨R,o,none⟩ v) :=
 ⟨(aE w R o v).size,fun k x a f=>((aE w R o v).block k (aB a) (fun e=>by
   have:=i_ e;subst this;rw [d] at a
   exact f c FZ b (.inl rfl) (i_ a).symm)).trans a,fun k a=>by
  rcases Nat.lt_or_ge k w.heap.size with h | h
  ·exact(aE w R o v).block k h (fun e=>by have:=i_ e;omega)
  ·have:=aB d;omega⟩
theorem R3.after{s:Sg}{ps:List (PV×PV)}{a:AE}(h:R3 M w1 s tb mb ps a v ev w')(b:Below w.heap.size w w1):R3 M w s tb mb ps a v ev w':=by obtain⟨c,d⟩:=h;exact⟨aM (aI b) c,d⟩
theorem yJ(b:ByteArray)(n:Int)(M:Nat->Prop)(w:World)(s:Sg)(tb mb:Nat)(ps:List (PV×PV))(i:BM M w s tb mb ps)(c:GE w)(j:s.ns.length+300<=BS) :Calls prog 48 #[.agg #[.string b,.int .i64 n],.pointer (some ⟨tb,0,none⟩)] w fun e k=>∃v d,e=.returned (.tuple #[v,d])/\((Pl.over n=true/\(∃r,d=aY r 6)/\Below w.heap.size w k)\/(Pl.over n=false/\R3 M w s tb mb ps b.data.toList v d k)):=by
 have a:Below w.heap.size w (w.alloc (.cells #[.string b,.int .i64 n] 41)):=b_;have f:=h_ a;by_cases m:n<0
 ·have l:decide (n<0)=true:=by simpa using m
  have h:Hid (Pl.over n=true):=show Pl.over n=true from by unfold Pl.over;rw [l];rfl
  clear i c j a;go_enter func48,ntmps48;go_wp2_with (go_at_call 78;refine(bJ _ _ _).mono ?_;rintro e o ⟨rfl,rfl⟩);go_ret2;exact⟨_,_,rfl,.inl ⟨h,⟨_,rfl⟩,f⟩⟩
 ·have l:decide (n<0)=false:=by simpa using m
  by_cases p:(1000000:Int)<n
  ·have g:decide ((1000000:Int)<n)=true:=by simpa using p
   have h:Hid (Pl.over n=true):=show Pl.over n=true from by unfold Pl.over;rw [l,g];rfl
   clear i c j a;go_enter func48,ntmps48;go_wp2_with (go_at_call 78;refine(bJ _ _ _).mono ?_;rintro e o ⟨rfl,rfl⟩);go_ret2;exact⟨_,_,rfl,.inl ⟨h,⟨_,rfl⟩,f⟩⟩
  ·have g:decide ((1000000:Int)<n)=false:=by simpa using p
   have h:Hid (Pl.over n=false):=show Pl.over n=false from by unfold Pl.over;rw [l,g];rfl
   have t:Hid (Calls prog 40 #[.string b,.pointer (some ⟨tb,0,none⟩)] (w.alloc (.cells #[.string b,.int .i64 n] 41)) fun e k=>∃v d,e=.returned (.tuple #[v,d])/\R3 M (w.alloc (.cells #[.string b,.int .i64 n] 41)) s tb mb ps b.data.toList v d k):=XC b M _ s tb mb ps (i.below a) (by
    obtain⟨v,q,u⟩:=c
    exact⟨v,(a.cell (World.block_lt_of_cell? _ _ q)).trans q,u⟩) j
   clear i c j a;go_enter func48,ntmps48;go_wp2_with (go_at_call 40;refine Calls.mono t ?_;rintro e o ⟨v,d,rfl,x⟩);go_ret2;exact⟨_,_,rfl,.inr ⟨h,x.after f⟩⟩
def RdN(M:Nat->Prop)(w:World)(s:Sg)(tb mb:Nat)(ps:List (PV×PV))(bs:AE)(v ev:Value)(w':World):Prop :=
 w.grownBy w' (some mb)/\∃t,(DK s t/\LP w s t)/\t.ns.length<=s.ns.length+300 /\
  ((∃c es,Pl.check bs=c/\0<c/\c<=5/\ev=aY es c/\t.pb=s.pb/\BM M w' t tb mb ps) \/
   (∃f,Pl.check bs=0/\Pl.BQ bs=some f/\ev=.nilIface/\BM M w' t tb mb (ps++(Pl.settle f ps.length).2)/\CP M w' t v (Pl.settle f ps.length).1))
theorem aB0(b:ByteArray)(n:Int)(M:Nat->Prop)(w:World)(s:Sg)(tb mb:Nat)(ps:List (PV×PV))(d:BM M w s tb mb ps)(g:GE w)(R:s.ns.length+300<=BS) :Calls prog 48 #[.agg #[.string b,.int .i64 n],.pointer (some ⟨tb,0,none⟩)] w fun e l=>∃v j,e=.returned (.tuple #[v,j])/\((Pl.over n=true/\(∃o,j=aY o 6)/\Below w.heap.size w l)\/(Pl.over n=false/\RdN M w s tb mb ps b.data.toList v j l)):=by
 let C:Nat->Prop:=fun k=>M k\/(k<w.heap.size/\k∉s.pb/\∃c O,w.heap[k]?=some (.cells c E0 O))
 have D:BM C w s tb mb ps:=by
  refine⟨d.B3,⟨d.pairs.len,d.pairs.nodup,fun i b p q S=>?_⟩,.inl d.FV,?_,?_⟩
  ·obtain⟨r,u⟩:=d.pairs.at_ i b p q S;exact⟨fun x=>x.elim r (fun y=>y.2.1 (q_ q)),u⟩
  ·rintro(x | ⟨_,_,c,O,x⟩)
   ·exact d.JJ x
   ·rw [d.B3.blk] at x;simp only [o_,Obj.cells.injEq] at x;exact absurd x.2.1 (by unfold P5 E0;decide)
  ·rintro k (x | x)
   ·exact d.mlt k x
   ·exact x.1
 refine(yJ b n C w s tb mb ps D g R).mono (fun e l T=>?_);obtain⟨v,j,rfl,h | ⟨U,P,t,r,u,V⟩⟩:=T
 ·exact⟨v,j,rfl,.inl h⟩
 ·have a:∀{E},BM C l t tb mb E->BM M l t tb mb E/\LP w s t:=fun {E} k=>by
   refine⟨⟨k.B3,k.pairs.weaken (fun _ x=>.inl x),d.FV,d.JJ,fun i z=>k.mlt i (.inl z)⟩,fun b q=>?_⟩;obtain⟨i,z⟩:=List.getElem?_of_mem q;have F:=(s_ z).1;obtain⟨W,x,y,G,_⟩:=k.pairs.at_ i b _ z (g_ (by rw [<- k.pairs.len];exact F));rcases Nat.lt_or_ge b w.heap.size with m | g
   ·by_cases A:b∈s.pb
    ·exact .inl A
    ·obtain⟨o,c,H⟩:=k.B3.F6;have I:b≠mb:=fun e=>by rw [e,H] at G;cases G
     exact absurd (Or.inr ⟨m,A,_,_,(P.block b m (fun e=>I (i_ e))).symm.trans G⟩) W
   ·exact .inr g
  refine⟨v,j,rfl,.inr ⟨U,P,t,?_⟩⟩;rcases V with⟨c,o,J,K,L,B,N,Q⟩ | ⟨f,J,K,L,B,N⟩
  ·exact⟨⟨r,(a Q).2⟩,u,.inl ⟨c,o,J,K,L,B,N,(a Q).1⟩⟩
  ·exact⟨⟨r,(a B).2⟩,u,.inr ⟨f,J,K,L,(a B).1,N.go ⟨rfl,rfl,rfl,n_,fun k _ A=>⟨rfl,fun x=>A (.inl x)⟩⟩ (Sg.Le.refl _)⟩⟩
theorem Wd.read{s t:Sg}{W:PW}{ps:List (PV×PV)}(h:Wd M w s tb mb sb gb W)(N:w.grownBy w' (some mb))(O:DK s t)(P:BM M w' t tb mb ps):Wd M w' t tb mb sb gb {W with pairs:=ps}:=by
 have r:Stp M w M w':=eL N h.CY.FV;have l:=O.le;obtain⟨es,c,F⟩:=h.DI.F6;obtain⟨R,S⟩:=r.block sb (aB h.NN) h.msb;obtain⟨T,c1,G⟩:=h.CY.B3.F6;have d:∀k,k<w.heap.size->k≠mb->w'.heap[k]?=w.heap[k]? := fun k y e=>N.block k y (fun x=>e (i_ x));obtain⟨a,m,rfl⟩:=O;have B:(s.ns++m).Nodup:=by obtain⟨D,_,U⟩:=P.B3.map;exact U.nodup
 refine⟨P,R.trans h.NN,S,?_,h.TH,h.UE,h.procs.mono (fun b x H=>H.go r l),h.AG.mono (fun b x H=>H.go r l),?_,h.gs.AQ r,h.JQ.AQ h.gs r,(bY h.gs r kT).trans h.gt,?_,h.tq,h.tc⟩
 ·obtain⟨D,V,n⟩:=h.DI.keep (d gb (aB F) h.UE);refine⟨D,V,n.tidy,fun k q i y A=>?_,fun k q y A=>?_,fun k y=>?_,fun q i A=>?_,n.inj⟩
  ·have C:=(n.names q i A).1;obtain⟨j,Q⟩:=List.getElem?_of_mem C;have I:(s.ns++m)[j]?=some q:=bS (List.prefix_append _ _) Q;have T:=cV B y;have e2:=cV B I;obtain rfl:j=k:=by omega
   obtain⟨z,v,p,f,J,K⟩:=n.yes j q i Q A;exact⟨z,v,p,f,J,K.le l⟩
  ·rcases Nat.lt_or_ge k s.ns.length with E | E
   ·have:(s.ns++m)[k]?=some q:=y;rw [List.getElem?_append_left E] at this;exact n.no k q this A
   ·cases X:Maps.has D (.int .i64 (k:Int)) with
    | false=>rfl
    | true=>have:=n.keys k X;omega
  ·have:=n.keys k y;show k<(s.ns++m).length;rw [a_];omega
  ·obtain⟨z,f⟩:=n.names q i A;exact⟨List.mem_append_left _ z,f⟩
 ·refine⟨h.places.len,h.places.inj,fun i g o p Y Z=>?_⟩;obtain⟨z,L,v,f,J,K⟩:=h.places.at_ i g o p Y Z;exact⟨z,L,v,(d g (aB f) (fun e=>by subst e;rw [G] at f;simp at f)).trans f,J,K.le l⟩
 ·obtain⟨u,z,f⟩:=h.ge;exact⟨u,(bY h.gs r kU).trans z,f⟩
end
end Go.Proofs.YtkgbdddkcjpgfaaGreatDoor
