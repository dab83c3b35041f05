import Derived.Test.YtieooapcfpimlaaGreatDoorL19
namespace Go.Proofs.YtieooapcfpimlaaGreatDoor
open Pl (PV PW PF AE FK AD BN EE AL)
section
open Go.RowKit
variable {n:Nat} {h:List UInt8}
def CF:Nat->Pl.A9->Nat
 | 0,_=>0
 | n+1,t=>match t with
  | .agg ts=>ts.length+(ts.map (CF n)).sum
  | _=>0
def bN(W:PW)(l:List (PV×PV)):PW:={W with pairs:=W.pairs++l}
theorem fN(W:PW):bN W []=W:=by simp [bN]
theorem tL(W:PW)(a b:List (PV×PV)):bN (bN W a) b=bN W (a++b):=by simp [bN]
theorem iO(W:PW)(a:List (PV×PV)):(bN W a).pairs.length=W.pairs.length+a.length:=by simp [bN]
def ND(W:PW)(t:Nat)(r:PV×List (PV×PV)):Prop:=WW (bN W r.2) (t+r.2.length)/\Le W (bN W r.2)/\BL (bN W r.2) r.1
theorem madeL_ok(n:Nat)(d:∀(b:Pl.A9)(W:PW)(t:Nat),WW W t->cL n b->ND W t (Pl.made n W.pairs.length b)/\(Pl.made n W.pairs.length b).2.length<=CF n b):∀(a:List Pl.A9)(W:PW)(t:Nat),WW W t->(∀x∈a,cL n x)->ND W t (AL (Pl.made n) W.pairs.length a)/\(AL (Pl.made n) W.pairs.length a).2.length<=a.length+(a.map (CF n)).sum
 | [],W,t,h,_=>by refine⟨?_,by simp [AL]⟩;show WW (bN W []) (t+0)/\Le W (bN W [])/\BL (bN W []) .empty;rw [fN];exact⟨h,Le.refl _,trivial⟩
 | x::r,W,t,h,f=>by
  obtain⟨⟨k,l,m⟩,u⟩:=madeL_ok n d r W t h (fun y o=>f y (List.mem_cons_of_mem _ o));obtain⟨⟨g,c,i⟩,p⟩:=d x (bN W (AL (Pl.made n) W.pairs.length r).2) _ k (f x (by simp));rw [iO] at g c i p;obtain⟨q,s⟩:=g.pair i (m.le c);have e:AL (Pl.made n) W.pairs.length (x::r)=((.pair (W.pairs.length+(AL (Pl.made n) W.pairs.length r).2.length+(Pl.made n (W.pairs.length+(AL (Pl.made n) W.pairs.length r).2.length) x).2.length)),(AL (Pl.made n) W.pairs.length r).2++(Pl.made n (W.pairs.length+(AL (Pl.made n) W.pairs.length r).2.length) x).2++[((Pl.made n (W.pairs.length+(AL (Pl.made n) W.pairs.length r).2.length) x).1,(AL (Pl.made n) W.pairs.length r).1)]):=rfl;rw [e];generalize AL (Pl.made n) W.pairs.length r=R at *;generalize Pl.made n (W.pairs.length+R.2.length) x=X at *;have j:bN W (R.2++X.2++[(X.1,R.1)])={bN (bN W R.2) X.2 with pairs:=(bN (bN W R.2) X.2).pairs++[(X.1,R.1)]}:=by simp [bN]
  refine⟨⟨?_,?_,?_⟩,?_⟩
  ·show WW (bN W (R.2++X.2++[(X.1,R.1)])) (t+(R.2++X.2++[(X.1,R.1)]).length);rw [j,show t+(R.2++X.2++[(X.1,R.1)]).length=t+R.2.length+X.2.length+1 from by simp;omega];exact q
  ·show Le W (bN W (R.2++X.2++[(X.1,R.1)]));rw [j];exact(l.trans c).trans s
  ·show W.pairs.length+R.2.length+X.2.length<(bN W (R.2++X.2++[(X.1,R.1)])).pairs.length;rw [iO];simp;omega
  ·simp only [a_,c_,z_,List.map_cons,List.sum_cons];omega
theorem vU:∀(n:Nat)(c:Pl.A9)(W:PW)(t:Nat),WW W t->cL n c->ND W t (Pl.made n W.pairs.length c)/\(Pl.made n W.pairs.length c).2.length<=CF n c
 | 0,_,W,t,h,_=>⟨by show WW (bN W []) (t+0)/\Le W (bN W [])/\BL (bN W []) .nothing;rw [fN];exact⟨h,Le.refl _,trivial⟩,n_⟩
 | n+1,c,W,t,h,d=>by
  have a:∀v,BL W v->ND W t (v,[]):=fun v e=>by show WW (bN W []) (t+0)/\Le W (bN W [])/\BL (bN W []) v;rw [fN];exact⟨h,Le.refl _,e⟩
  cases c with
  | agg f=>exact madeL_ok n (vU n) f W t h d
  | lit x =>
   cases x with
   | int k m =>refine⟨a (.num m) ?_,Nat.zero_le _⟩;have:gW m:=d;unfold gW at this;show m.natAbs<=Pl.CG;omega
   | bool b=>exact⟨a (.AT b) trivial,Nat.zero_le _⟩
   | string s =>refine⟨a (.name s) ?_,Nat.zero_le _⟩;have:s.length<=300:=d;first | (show s.length<=_;omega) | exact this
   | _=>exact⟨a .nothing trivial,Nat.zero_le _⟩
  | _=>exact⟨a .nothing trivial,Nat.zero_le _⟩
theorem aBM(n:Nat)(d:∀(ps:List (PV×PV)) (t:Pl.A9) (l:List (PV×PV)),Pl.NI (ps++(Pl.made n ps.length t).2++l)->Pl.text (ps++(Pl.made n ps.length t).2++l) (Pl.made n ps.length t).1=Pl.CC n t)(ps:List (PV×PV)):∀(a:List Pl.A9) (l:List (PV×PV)),Pl.NI (ps++(AL (Pl.made n) ps.length a).2++l)->Pl.text (ps++(AL (Pl.made n) ps.length a).2++l) (AL (Pl.made n) ps.length a).1=Pl.AP (a.map (Pl.CC n))/\Pl.tl (ps++(AL (Pl.made n) ps.length a).2++l) (AL (Pl.made n) ps.length a).1=(a.map (Pl.CC n)).flatMap (fun t=>32::t)++[41]
 | [],l,_=>⟨rfl,rfl⟩
 | x::r,l,b=>by
  have e:AL (Pl.made n) ps.length (x::r)=((.pair (ps.length+(AL (Pl.made n) ps.length r).2.length+(Pl.made n (ps.length+(AL (Pl.made n) ps.length r).2.length) x).2.length)),(AL (Pl.made n) ps.length r).2++(Pl.made n (ps.length+(AL (Pl.made n) ps.length r).2.length) x).2++[((Pl.made n (ps.length+(AL (Pl.made n) ps.length r).2.length) x).1,(AL (Pl.made n) ps.length r).1)]):=rfl;have k:=aBM n d ps r;have f:=d (ps++(AL (Pl.made n) ps.length r).2) x;rw [a_] at f;rw [e] at b ⊢;generalize AL (Pl.made n) ps.length r=R at *;generalize Pl.made n (ps.length+R.2.length) x=X at *;dsimp only at b ⊢;have g:ps++(R.2++X.2++[(X.1,R.1)])++l=ps++R.2++(X.2++[(X.1,R.1)]++l):=by simp
  have c:ps++(R.2++X.2++[(X.1,R.1)])++l=ps++R.2++X.2++([(X.1,R.1)]++l):=by simp
  have h:=(k (X.2++[(X.1,R.1)]++l) (g▸b)).2;have i:=f ([(X.1,R.1)]++l) (c▸b);rw [<- g] at h;rw [<- c] at i;have j:(ps++(R.2++X.2++[(X.1,R.1)])++l)[ps.length+R.2.length+X.2.length]?=some (X.1,R.1):=by rw [c,List.getElem?_append_right (by simp;omega)];rw [show ps.length+R.2.length+X.2.length-(ps++R.2++X.2).length=0 from by simp;omega];rfl
  rw [Pl.JO b j,Pl.MK b j];dsimp only;rw [h,i];refine⟨?_,?_⟩
  ·rw [List.map_cons];unfold Pl.AP;rw [Pl.I0,List.append_assoc]
  ·simp
theorem aBL:∀(n:Nat) (a:List (PV×PV)) (t:Pl.A9) (l:List (PV×PV)),Pl.NI (a++(Pl.made n a.length t).2++l)->Pl.text (a++(Pl.made n a.length t).2++l) (Pl.made n a.length t).1=Pl.CC n t
 | 0,_,_,_,_=>rfl
 | n+1,a,t,l,b=>by
  cases t with
  | agg c=>exact(aBM n (aBL n) a c l b).1
  | lit x=>cases x<;>rfl
  | _=>rfl
theorem aDK(ps:List (PV×PV))(n:Nat)(t:Pl.A9)(l:List (PV×PV)):Pl.NI (ps++(Pl.made n ps.length t).2++l)->Pl.text (ps++(Pl.made n ps.length t).2++l) (Pl.made n ps.length t).1=Pl.CC n t:=aBL n ps t l
inductive MI (n:Nat):PF->Prop
 | mk (k:FK) (nm:AE) (d:Pl.A9) (v:PV) (ks:List PF) (ns:List AE) (h1:k=.const->cL 1000 (Pl.quoted d)/\Pl.dep 1000 (Pl.quoted d)) (h2:shape k ks.length) (h3:∀x,x∈ks->MI n x) (h4:ks.length<=300) (h5:ns.length<=300/\nm.length<=300/\∀x∈ns,x.length<=300) (h6:Pl.Nm k nm d):MI n (.mk k nm d v ks ns)
mutual
def gH:PF->Nat
 | .mk k _ d _ ks _=>(if k=.const then CF 1000 (Pl.quoted d) else 0)+gY ks
def gY:List PF->Nat
 | []=>0
 | x::r=>gH x+gY r
end
def L_(W:PW)(t:Nat)(r:PF×List (PV×PV)):Prop:=WW (bN W r.2) (t+r.2.length)/\Le W (bN W r.2)/\EU (bN W r.2) r.1
theorem kP{n:Nat}:∀(a:List PF),(∀x∈a,∀(W:PW)(t:Nat),WW W t->L_ W t (Pl.settle x W.pairs.length)/\(Pl.settle x W.pairs.length).2.length<=gH x)->∀(W:PW)(t:Nat),WW W t ->
  (WW (bN W (Pl.AK a W.pairs.length).2) (t+(Pl.AK a W.pairs.length).2.length)/\Le W (bN W (Pl.AK a W.pairs.length).2)/\(∀x∈(Pl.AK a W.pairs.length).1,EU (bN W (Pl.AK a W.pairs.length).2) x))/\(Pl.AK a W.pairs.length).2.length<=gY a
 | [],_,W,t,h=>by rw [Pl.BV];refine⟨?_,Nat.zero_le _⟩;show WW (bN W []) (t+0)/\Le W (bN W [])/\∀x∈[],_;rw [fN];exact⟨h,Le.refl _,fun x b=>by simp at b⟩
 | y::r,f,W,t,h=>by
  obtain⟨⟨g,i,j⟩,l⟩:=f y (by simp) W t h;obtain⟨⟨d,c,e⟩,k⟩:=kP (n:=n) r (fun x b=>f x (List.mem_cons_of_mem _ b)) _ _ g;rw [iO] at d c e k;rw [Pl.BO];generalize Pl.settle y W.pairs.length=Y at *;generalize Pl.AK r (W.pairs.length+Y.2.length)=R at *;rw [tL] at d c e;refine⟨⟨?_,i.trans c,fun x b=>?_⟩,?_⟩
  ·show WW (bN W (Y.2++R.2)) (t+(Y.2++R.2).length);rw [a_,<-Nat.add_assoc];exact d
  ·rcases List.mem_cons.1 b with rfl | b
   ·exact j.le c
   ·exact e x b
  ·show(Y.2++R.2).length<=gH y+gY r;rw [a_];omega
theorem aA6:∀(a:List PF),(∀x∈a,∀b,IU (Pl.settle x b).1=IU x)->∀b,OT (Pl.AK a b).1=OT a
 | [],_,b=>by rw [Pl.BV]
 | y::r,h,b=>by rw [Pl.BO];show OT (_::_)=_;rw [ZL,ZL,h y (by simp) b,aA6 r (fun x c=>h x (List.mem_cons_of_mem _ c))]
theorem aC7{f:PF}(c:MI n f):∀b,IU (Pl.settle f b).1=IU f:=by
 induction c with
 | mk k h d v e i j l _ m o p g =>
  intro b;by_cases a:k=.const
  ·subst a;rw [Pl.CI];show IU (.mk _ _ _ _ _ _)=_;rw [OL,OL]
  ·rw [Pl.BC _ _ _ _ _ _ _ a];show IU (.mk _ _ _ _ _ _)=_;rw [OL,OL,aA6 e g]
theorem aEQ{x:PF}:∀{a:List PF},x∈a->gH x<=gY a
 | y::r,h=>by
  rw [show gY (y::r)=gH y+gY r by simp [gY]];rcases List.mem_cons.1 h with rfl | h
  ·omega
  ·have:=aEQ h;omega
theorem aD6:∀(a:List AE),(Pl.CZ a).length<=(a.map fun t=>t.length+1).sum
 | []=>by simp [Pl.CZ]
 | [x]=>by simp [Pl.CZ]
 | x::y::r=>by have b:=aD6 (y::r);show(x++32::Pl.CZ (y::r)).length<=_;rw [a_,c_,List.map_cons,List.sum_cons];omega
theorem aFO:∀(n:Nat)(t:Pl.A9),cL n t->(Pl.CC n t).length<=302+303*CF n t
 | 0,_,_=>by simp [Pl.CC]
 | n+1,t,h=>by
  cases t with
  | agg c =>
   have j:((c.map (Pl.CC n)).map fun t=>t.length+1).sum<=303*c.length+303*(c.map (CF n)).sum:=by
    have d:∀x∈c,cL n x:=h;clear h
    induction c with
    | nil=>simp
    | cons x r f =>have a:=aFO n x (d x (by simp));have b:=f (fun y g=>d y (List.mem_cons_of_mem _ g));simp only [List.map_cons,List.sum_cons,c_];omega
   have l:=aD6 (c.map (Pl.CC n));show(Pl.AP (c.map (Pl.CC n))).length<=302+303*(c.length+(c.map (CF n)).sum);unfold Pl.AP;rw [c_,a_,c_,z_];omega
  | lit x =>
   cases x with
   | int k m =>have i:gW m:=h;unfold gW at i;have e:Pl.CG=1099511627776:=rfl;have:=Lib.itoa_length_le m (by omega) (by omega);show(Lib.itoa m).length<=_;omega
   | bool b=>cases b<;>(simp only [Pl.CC,Bool.false_eq_true,if_false,if_true,c_,z_];omega)
   | string s =>have:s.length<=300:=h;show s.length<=_;omega
   | _=>simp [Pl.CC]
  | _=>simp [Pl.CC]
theorem mQ{f:PF}(y:MI n f):gH f<=1000->IU f<=1001->∀(W:PW)(t:Nat),WW W t->L_ W t (Pl.settle f W.pairs.length)/\(Pl.settle f W.pairs.length).2.length<=gH f:=by
 induction y with
 | mk k C d v i D j m z r s u A =>
  intro g a W t h;rw [OL] at a;by_cases c:k=.const
  ·subst c;rw [Pl.CI];obtain⟨⟨o,p,q⟩,B⟩:=vU 1000 (Pl.quoted d) W t h (j rfl).1;obtain rfl:i=[]:=e_ m;exact⟨⟨o,p,.mk _ _ _ _ _ _ (fun _=>q) m (fun x b=>by simp at b) r s a (fun _=>⟨fun l=>aDK W.pairs 1000 (Pl.quoted d) l,by have:=aFO 1000 (Pl.quoted d) (j rfl).1;simp only [gH,gY,if_pos] at g;omega,(j rfl).2,(j rfl).1⟩) u⟩,by simp only [gH,gY,if_pos];omega⟩
  ·rw [Pl.BC _ _ _ _ _ _ _ c];obtain⟨⟨o,p,q⟩,B⟩:=kP (n:=n) i (fun x b=>A x b (by have:=aEQ b;simp only [gH,if_neg c] at g;omega) (by have:=aDP b;omega)) W t h;have w:=Pl.G9 i W.pairs.length;exact⟨⟨o,p,.mk _ _ _ _ _ _ (fun e=>absurd e c) (by rw [w];exact m) q (by rw [w];exact r) s (by rw [aA6 i (fun x b=>aC7 (z x b))];exact a) (fun e=>absurd e c) u⟩,by simp only [gH,if_neg c];omega⟩
theorem rI{f:PF}(d:MI n f)(c:gH f<=1000/\IU f<=1001){W:PW}{t:Nat}(h:WW W t):WW (Pl.AR W f) (t+1000)/\SW (Pl.AR W f) (Pl.AV W f) (t+1000):=by have i:WW {W with out:=[]} t:=(h.out []).1;obtain⟨⟨j,o,k⟩,p⟩:=mQ d c.1 c.2 {W with out:=[]} t i;refine⟨j.later (by omega),⟨fun g l=>?_,fun b m=>by simp [Pl.AV] at m,by simp [Pl.AV],fun e=>by simp [Pl.AV] at e,⟨fun q a=>by simp [Pl.AV] at a,by simp [Pl.AV]⟩⟩⟩;obtain rfl:=i_ l;exact k
def dT:Nat->Pl.A9->Prop
 | 0,_=>False
 | n+1,t=>match t with
  | .lit (.int _ m)=>gW m
  | .lit (.string s)=>0<s.length/\s.length<=300
  | .agg ts=>ts.length<=298/\∀x∈ts,dT n x
  | _=>True
theorem dT.CG:∀(n m:Nat)(t:Pl.A9),dT n t->cL m t
 | 0,_,_,h=>h.elim
 | _+1,0,_,_=>trivial
 | n+1,m+1,t,h=>by
  cases t with
  | agg b=>exact fun x a=>dT.CG n m x (h.2 x a)
  | lit x=>cases x<;>first | trivial | exact h | exact h.2
  | _=>trivial
theorem aFQ:∀(n m:Nat)(t:Pl.A9),dT n t->n<=m->Pl.dep m t
 | 0,_,_,h,_=>h.elim
 | _+1,0,_,_,h=>by omega
 | n+1,m+1,t,h,b=>by
  cases t with
  | agg c=>exact fun x a=>aFQ n m x (h.2 x a) (by omega)
  | _=>trivial
theorem aBX:∀{n:Nat} {t:Pl.A9},dT n t->(Pl.strOf t).length<=300
 | 0,_,h=>h.elim
 | n+1,t,h=>by
  cases t with
  | lit x=>cases x<;>first | exact h.2 | exact Nat.zero_le _
  | _=>exact Nat.zero_le _
theorem gI:∀(n m:Nat)(t:Pl.A9),dT n t->n<=m->CF m t=CF n t
 | 0,_,_,h,_=>h.elim
 | _+1,0,_,_,h=>by omega
 | n+1,m+1,t,h,c=>by
  cases t with
  | agg a =>show a.length+(a.map (CF m)).sum=a.length+(a.map (CF n)).sum;rw [List.map_congr_left (fun x b=>gI n m x (h.2 x b) (by omega))]
  | _=>rfl
theorem aDQ:∀(n m:Nat)(t:Pl.A9),dT n t->n<=m->dT m t
 | 0,_,_,h,_=>h.elim
 | _+1,0,_,_,h=>by omega
 | n+1,m+1,t,h,b=>by
  cases t with
  | agg c=>exact⟨h.1,fun x a=>aDQ n m x (h.2 x a) (by omega)⟩
  | lit x=>cases x<;>first | trivial | exact h
  | _=>trivial
theorem jY(g:∀t f,AD n t=some f->dT n t->MI 0 f/\gH f<=CF n t):∀(d:List Pl.A9)(b:List PF),Pl.B1 (AD n) d=some b->(∀x∈d,dT n x)->(∀f∈b,MI 0 f)/\gY b<=(d.map (CF n)).sum/\b.length=d.length
 | [],b,h,_=>by obtain rfl:=i_ h;exact⟨fun f c=>by simp at c,n_,rfl⟩
 | y::r,b,h,i=>by
  unfold Pl.B1 at h
  cases e:AD n y with
  | none=>rw [e] at h;simp at h
  | some a =>
   rw [e] at h;simp only [Option.bind_some,Option.map_eq_some_iff] at h;obtain⟨q,j,rfl⟩:=h;obtain⟨k,p⟩:=g y a e (i y (by simp));obtain⟨l,s,m⟩:=jY g r q j (fun x o=>i x (List.mem_cons_of_mem _ o));refine⟨fun f c=>?_,?_,by simp [m]⟩
   ·rcases List.mem_cons.1 c with rfl | c
    ·exact k
    ·exact l f c
   ·simp only [gY,List.map_cons,List.sum_cons];omega
theorem rA(c:∀t f,AD n t=some f->dT n t->MI 0 f/\gH f<=CF n t){ns bd:Pl.A9}{f:PF}(h:Pl.EA (AD n) ns bd=some f)(b:∀l,ns=.agg l->l.length<=298/\∀x∈l,(Pl.strOf x).length<=300)(d:dT n bd):MI 0 f/\gH f<=CF n bd:=by
 unfold Pl.EA at h;split at h
 ·rename_i l;split at h
  ·simp only [Option.map_eq_some_iff] at h;obtain⟨g,i,rfl⟩:=h;obtain⟨j,k⟩:=c bd g i d;exact⟨.mk _ _ _ _ _ _ (fun e=>by cases e) rfl (fun x a=>by simp at a;subst a;exact j) (by simp) ⟨by have:=(b l rfl).1;simp;omega,by simp,fun x a=>by obtain⟨y,m,rfl⟩:=List.mem_map.1 a;exact(b l rfl).2 y m⟩ (Pl.Nm.not (by simp) (by simp)),by simp [BN,gH,gY];exact k⟩
  ·cases h
 ·cases h
theorem rJ(i:∀t f,AD n t=some f->dT n t->MI 0 f/\gH f<=CF n t){k:FK}(b:k=.set\/k=.define){r:List Pl.A9}{f:PF}(h:Pl.E6 k (AD n) r=some f)(c:∀x∈r,dT n x):MI 0 f/\gH f<=(r.map (CF n)).sum:=by
 unfold Pl.E6 at h;split at h
 ·rename_i a e;split at h
  ·simp only [Option.map_eq_some_iff] at h;obtain⟨g,j,rfl⟩:=h;obtain⟨l,m⟩:=i e g j (c e (by simp));refine⟨.mk _ _ _ _ _ _ (fun e=>by rcases b with rfl | rfl<;>cases e) (by rcases b with rfl | rfl<;>rfl) (fun x d=>by simp at d;subst d;exact l) (by simp) ⟨by simp,aBX (c a (by simp)),by simp⟩ (by rcases b with rfl | rfl<;>exact Pl.Nm.not (by simp) (by simp)),?_⟩;have:k≠.const:=by rcases b with rfl | rfl<;>simp
   simp only [BN,gH,gY,if_neg this,List.map_cons,List.map_nil,List.sum_cons,List.sum_nil];omega
  ·cases h
 ·cases h
theorem tS{n:Nat}:∀(l:List Pl.A9),l.all Pl.BI=true->((l.map Pl.BU).map (CF n)).sum<=(l.map (CF (n+1))).sum
 | [],_=>n_
 | x::r,h=>by
  simp only [List.all_cons,Bool.and_eq_true] at h;have:=tS (n:=n) r h.2;have c:=h.1;unfold Pl.BI at c;split at c
  ·rename_i a b;simp only [List.map_cons,List.sum_cons,Pl.BU];have:CF (n+1) (.agg [a,b])=2+(CF n a+(CF n b+0)):=rfl;omega
  ·cases c
theorem zX(s:∀t f,AD (n+1) t=some f->dT (n+1) t->MI 0 f/\gH f<=CF (n+1) t){ps bd:Pl.A9}{f:PF}(h:Pl.D5 (AD (n+1)) ps bd=some f)(hp:dT (n+1) ps)(u:dT (n+1) bd):MI 0 f/\gH f<=CF (n+1) ps+CF (n+1) bd:=by
 unfold Pl.D5 at h;split at h
 ·rename_i l;split at h
  ·rename_i j;rw [Option.bind_eq_some_iff] at h;obtain⟨g,v,h⟩:=h;simp only [Option.map_eq_some_iff] at h;obtain⟨q,w,rfl⟩:=h
   obtain⟨z,H⟩:=rA s v (fun I e=>by
    rw [DataW.agg.injEq] at e;subst e;refine⟨by simpa using hp.1,fun x i=>?_⟩;obtain⟨y,k,rfl⟩:=List.mem_map.1 i;have c:=List.all_eq_true.1 j y k;have d:=hp.2 y k;unfold Pl.BI at c;split at c
    ·rename_i a b
     cases n with
     | zero=>exact d.elim
     | succ m=>exact aBX (d.2 a (by simp))
    ·cases c) u
   have o:∀x∈l.map Pl.BU,dT n x/\dT (n+1) x:=fun x i=>by
    obtain⟨y,k,rfl⟩:=List.mem_map.1 i;have c:=List.all_eq_true.1 j y k;have d:=hp.2 y k;unfold Pl.BI at c;split at c
    ·rename_i a b
     cases n with
     | zero=>exact d.elim
     | succ m =>have:=d.2 b (by simp);exact⟨aDQ m (m+1) b this (by omega),aDQ m (m+2) b this (by omega)⟩
    ·cases c
   obtain⟨A,B,C⟩:=jY s _ q w (fun x i=>(o x i).2);have J:=hp.1;have D:((l.map Pl.BU).map (CF (n+1)))=(l.map Pl.BU).map (CF n):=List.map_congr_left (fun x i=>gI n (n+1) x (o x i).1 (by omega));have p:CF (n+1) (.agg l)=l.length+(l.map (CF n)).sum:=rfl
   have E:((l.map Pl.BU).map (CF n)).sum<=(l.map (CF n)).sum:=by
    cases n with
    | zero =>
     cases l with
     | nil=>exact n_
     | cons y r=>exact(hp.2 y (by simp)).elim
    | succ m =>
     have F:=tS (n:=m) l j
     have G:((l.map Pl.BU).map (CF (m+1)))=(l.map Pl.BU).map (CF m):=List.map_congr_left (fun x i=>by
      obtain⟨y,k,rfl⟩:=List.mem_map.1 i;have c:=List.all_eq_true.1 j y k;have d:=hp.2 y k;unfold Pl.BI at c;split at c
      ·rename_i a b;exact gI m (m+1) b (d.2 b (by simp)) (by omega)
      ·cases c)
     rw [G];exact F
   rw [D] at B;refine⟨.mk _ _ _ _ _ _ (fun e=>by cases e) (by show 1<=_;simp) (fun x i=>?_) (by simp [C];omega) ⟨by simp,by simp,by simp⟩ (Pl.Nm.not (by simp) (by simp)),?_⟩
   ·rcases List.mem_cons.1 i with rfl | i
    ·exact z
    ·exact A x i
   ·rw [p];simp only [BN,gH,gY];rw [if_neg (by simp)];omega
  ·cases h
 ·cases h
theorem Pl.RI{k:Pl.A9}{r:List Pl.A9}(e:Pl.BJ (k::r)=some h):k=.lit (.string h):=by
 unfold Pl.BJ at e;split at e
 ·rename_i b q a;obtain⟨rfl,rfl⟩:=List.cons.inj a;split at e
  ·rw [i_ e]
  ·cases e
 ·cases e
theorem aAA(F:n+1<=1000)(q:∀t f,AD n t=some f->dT n t->MI 0 f/\gH f<=CF n t){k:Pl.A9}{r:List Pl.A9}{f:PF}(w:k=.lit (.string h))(c:Pl.IN (AD n) (.agg (k::r)) h r=some f)(A:dT (n+1) (.agg (k::r))):MI 0 f/\gH f<=CF (n+1) (.agg (k::r)):=by
 have g:∀x∈r,dT n x:=fun x i=>A.2 x (List.mem_cons_of_mem _ i);have G:r.length<=297:=by have:=A.1;simp at this;omega
 have o:CF (n+1) (.agg (k::r))=(r.length+1)+(CF n k+(r.map (CF n)).sum):=rfl;unfold Pl.IN at c;split at c
 ·rename_i z;split at c
  ·rename_i s;obtain rfl:=i_ c
   obtain⟨x,rfl⟩:∃x,r=[x]:=by
    match r,s with
    | [x],_=>exact⟨x,rfl⟩
   have i:=g x (by simp);refine⟨.mk _ _ _ _ _ _ (fun _=>⟨dT.CG n 1000 x i,aFQ n 1000 x i (by omega)⟩) rfl (fun y C=>by simp at C) (by simp) ⟨by simp,by simp,by simp⟩ ⟨(fun e=>by cases e),fun _=>⟨x,by rw [w,z]⟩⟩,?_⟩;have H:CF 1000 x=CF n x:=gI n 1000 x i (by omega);rw [o];simp only [BN,gH,gY,Pl.quoted,if_pos,List.map_cons,List.map_nil,List.sum_cons,List.sum_nil];omega
  ·cases c
 split at c
 ·split at c
  ·rename_i s;simp only [Option.map_eq_some_iff] at c;obtain⟨u,j,rfl⟩:=c;obtain⟨d,v,B⟩:=jY q r u j g;refine⟨.mk _ _ _ _ _ _ (fun e=>by cases e) (by show u.length=3;simpa [B] using s) d (by omega) ⟨by simp,by simp,by simp⟩ (Pl.Nm.not (by simp) (by simp)),?_⟩;rw [o];simp only [BN,gH];rw [if_neg (by simp)];omega
  ·cases c
 split at c
 ·split at c
  ·rename_i s;simp only [Option.map_eq_some_iff] at c;obtain⟨u,j,rfl⟩:=c;obtain⟨d,v,B⟩:=jY q r u j g
   refine⟨.mk _ _ _ _ _ _ (fun e=>by cases e) (by
    show 1<=u.length;have:r.length≠0:=fun D=>by have:=e_ D;subst this;simp at s
    omega) d (by omega) ⟨by simp,by simp,by simp⟩ (Pl.Nm.not (by simp) (by simp)),?_⟩
   rw [o];simp only [BN,gH];rw [if_neg (by simp)];omega
  ·cases c
 split at c
 ·obtain⟨d,v⟩:=rJ q (.inl rfl) c g;exact⟨d,by rw [o];omega⟩
 split at c
 ·unfold Pl.J9 at c;split at c
  ·rename_i a b;have p:=g a (by simp)
   obtain⟨d,v⟩:=rA q c (fun l e=>by
    subst e
    cases n with
    | zero=>exact p.elim
    | succ m=>exact⟨p.1,fun x i=>aBX (p.2 x i)⟩) (g b (by simp))
   refine⟨d,?_⟩;rw [o];simp only [List.map_cons,List.map_nil,List.sum_cons,List.sum_nil];omega
  ·cases c
 split at c
 ·unfold Pl.J8 at c;split at c
  ·rename_i a b;have p:=g a (by simp);have E:=g b (by simp)
   cases n with
   | zero=>exact p.elim
   | succ m =>obtain⟨d,v⟩:=zX q c p E;refine⟨d,?_⟩;rw [o];simp only [List.map_cons,List.map_nil,List.sum_cons,List.sum_nil];omega
  ·cases c
 ·cases c
theorem gG:∀(n:Nat),n<=1000->∀(t:Pl.A9)(f:PF),AD n t=some f->dT n t->MI 0 f/\gH f<=CF n t
 | 0,_,_,_,h,_=>by cases h
 | n+1,d,t,f,h,c=>by
  have p:=gG n (by omega);have a:Pl.quoted t=t->Pl.QD t->f=BN .const [] t [] []->MI 0 f/\gH f<=CF (n+1) t:=fun q g w=>by subst w;refine⟨.mk _ _ _ _ _ _ (fun _=>by rw [q];exact⟨dT.CG (n+1) 1000 t c,aFQ (n+1) 1000 t c d⟩) rfl (fun y i=>by simp at i) (by simp) ⟨by simp,by simp,by simp⟩ ⟨(fun e=>by cases e),fun _=>g⟩,?_⟩;have B:CF 1000 t=CF (n+1) t:=gI (n+1) 1000 t c d;simp only [BN,gH,gY,q,if_pos];omega
  match t,h,c,a with
  | .lit (.int k m),h,c,a=>exact a rfl trivial (i_ h).symm
  | .lit (.bool b),h,c,a=>exact a rfl trivial (i_ h).symm
  | .lit (.string s),h,c,_ =>
   have h:(if EE s then none else some (BN .name s .nil [] []))=some f:=h;split at h
   ·cases h
   ·obtain rfl:=i_ h;exact⟨.mk _ _ _ _ _ _ (fun e=>by cases e) rfl (fun y i=>by simp at i) (by simp) ⟨by simp,c.2,by simp⟩ ⟨fun _ e=>by have:=c.1;rw [e] at this;simp at this,(fun e=>by cases e)⟩,by simp [BN,gH,gY]⟩
  | .agg [],h,_,_=>cases h
  | .agg (k::r),h,c,_ =>
   have h:(match Pl.BJ (k::r) with | some u=>Pl.IN (AD n) (.agg (k::r)) u r | none=>(Pl.B1 (AD n) (k::r)).map fun l=>BN .call [] .nil l [])=some f:=h;split at h
   ·rename_i u j;exact aAA d p (Pl.RI j) h c
   ·simp only [Option.map_eq_some_iff] at h;obtain⟨v,o,rfl⟩:=h;obtain⟨x,C,z⟩:=jY p (k::r) v o c.2;have D:=c.1;refine⟨.mk _ _ _ _ _ _ (fun e=>by cases e) (by show 1<=v.length;rw [z];simp) x (by omega) ⟨by simp,by simp,by simp⟩ (Pl.Nm.not (by simp) (by simp)),?_⟩;have A:CF (n+1) (.agg (k::r))=(k::r).length+((k::r).map (CF n)).sum:=rfl;rw [A];simp only [BN,gH];rw [if_neg (by simp)];omega
theorem wW(b:n+1<=1000){t:Pl.A9}{f:PF}(h:Pl.BZ n t=some f)(a:dT (n+1) t):MI 0 f/\gH f<=CF (n+1) t:=by
 unfold Pl.BZ at h;split at h
 ·rename_i c r;split at h
  ·obtain⟨d,i⟩:=rJ (gG n (by omega)) (.inr rfl) h (fun x e=>a.2 x (List.mem_cons_of_mem _ e));refine⟨d,?_⟩;have g:CF (n+1) (.agg (.lit (.string c)::r))=(r.length+1)+(CF n (.lit (.string c))+(r.map (CF n)).sum):=rfl;rw [g];omega
  ·exact gG (n+1) b _ _ h a
 ·exact gG (n+1) b _ _ h a
theorem pls_d(n:Nat)(m:∀l p,Pl.pd n l=some p->p.gr=false->(∀t∈l,0<t.length/\t.length<=300)->l.length<=300->dT n p.t/\CF n p.t+1+2*p.q.length<=2*l.length):∀(k:Nat)(l:List Pl.Tok)(p:Pl.PL),Pl.IG (Pl.pd n) k l=some p->p.gr=false->(∀t∈l,0<t.length/\t.length<=300)->l.length<=300->(p.ts.length+p.q.length+1<=l.length/\(∀x∈p.ts,dT n x)/\p.ts.length+(p.ts.map (CF n)).sum+2*p.q.length+2<=2*l.length):=by
 intro k
 induction k with
 | zero=>intro l p h;simp [Pl.IG] at h
 | succ k b =>
  intro l p h c f o
  cases l with
  | nil=>simp [Pl.IG] at h
  | cons t r =>
   rw [Pl.I9] at h;split at h
   ·obtain rfl:=i_ h;simp;omega
   ·cases a:Pl.pd n (t::r) with
    | none=>rw [a] at h;simp at h
    | some g =>
     rw [a] at h;dsimp only at h;have i:=Pl.DA _ _ _ a
     cases d:Pl.IG (Pl.pd n) k g.q with
     | none=>rw [d] at h;simp at h
     | some z =>
      rw [d] at h;simp only [Option.map_some,o_] at h;subst h;simp only [Bool.or_eq_false_iff] at c;have q:g.q.length<(t::r).length:=i.2;have j:=m _ _ a c.1 f o;have s:=b _ _ d c.2 (fun y u=>f y (i.1.mem u)) (by omega);obtain⟨A,v,B⟩:=s;have w:=j.2;simp only [c_] at q w;refine⟨?_,fun x e=>?_,?_⟩
      ·simp only [c_];omega
      ·rcases List.mem_cons.1 e with rfl | e
       ·exact j.1
       ·exact v x e
      ·simp only [c_,List.map_cons,List.sum_cons];omega
theorem W8:∀(n:Nat)(l:List Pl.Tok)(p:Pl.PR),Pl.pd n l=some p->p.gr=false->(∀t∈l,0<t.length/\t.length<=300)->l.length<=300->dT n p.t/\CF n p.t+1+2*p.q.length<=2*l.length
 | 0,_,_,h,_,_,_=>by simp [Pl.pd] at h
 | n+1,[],_,h,_,_,_=>by simp [Pl.pd] at h
 | n+1,t::r,p,h,e,d,f=>by
  have j:=(Pl.NP _ _ _ h).CG e (fun y c=>(d y c).2);have g:=(d t (by simp)).1;unfold Pl.pd at h;split at h
  ·simp at h
  split at h
  ·obtain rfl:=i_ h;exact⟨trivial,by simp [CF];omega⟩
  split at h
  ·obtain rfl:=i_ h;exact⟨trivial,by simp [CF];omega⟩
  split at h
  ·simp only [Option.map_eq_some_iff] at h;obtain⟨b,a,rfl⟩:=h;obtain⟨k,o⟩:=W8 n r b a e (fun y c=>d y (List.mem_cons_of_mem _ c)) (by simp at f;omega)
   cases n with
   | zero=>simp [Pl.pd] at a
   | succ m =>
    refine⟨⟨by simp,fun x i=>?_⟩,?_⟩
    ·rcases List.mem_cons.1 i with rfl | i
     ·show 0<Pl.CB.length/\Pl.CB.length<=300;decide
     ·obtain rfl:x=b.t:=by simpa using i
      exact k
    ·show 2+(0+(CF (m+1) b.t+0))+1+2*b.q.length<=2*(t::r).length;simp only [c_];omega
  split at h
  ·simp only [Option.map_eq_some_iff] at h;obtain⟨b,a,rfl⟩:=h;obtain⟨k,o,q⟩:=pls_d n (fun l p=>W8 n l p) _ _ _ a e (fun y c=>d y (List.mem_cons_of_mem _ c)) (by simp at f;omega);simp only [c_] at f;refine⟨⟨by omega,o⟩,?_⟩;show b.ts.length+(b.ts.map (CF n)).sum+1+2*b.q.length<=2*(t::r).length;simp only [c_];omega
  ·simp only [Option.map_eq_some_iff] at h;obtain⟨b,a,rfl⟩:=h;unfold Pl.pw at a;split at a
   ·obtain rfl:=i_ a;exact⟨j,by simp [CF];omega⟩
   ·split at a
    ·obtain rfl:=i_ a;exact⟨⟨g,j⟩,by simp [CF];omega⟩
    ·simp at a
theorem aBT{d:AE}{f:PF}(a:Pl.check d=0)(h:Pl.BQ d=some f):MI 0 f/\gH f<=1000:=by
 unfold Pl.check at a;split at a
 ·cases a
 ·rename_i r;unfold Pl.BQ at h
  cases e:Pl.BX d with
  | none=>rw [e] at h;cases h
  | some l =>
   rw [e] at h a;dsimp only at h a;split at a
   ·cases a
   ·cases b:Pl.pd l.length l with
    | none=>rw [b] at h;cases h
    | some p =>
     rw [b] at h a;dsimp only at h a;split at a
     ·cases a
     split at a
     ·cases a
     split at a
     ·cases a
     ·rename_i g;have i:=Pl.F2 e;have j:l.length<=300:=by omega
      obtain⟨n,o⟩:=W8 _ _ _ b (by simpa using g) (fun t h=>by have:=i.2 t h;omega) j
      have c:∃m,l.length=m+1:=by
       cases k:l.length with
       | zero=>rw [k] at b;simp [Pl.pd] at b
       | succ m=>exact⟨m,rfl⟩
      obtain⟨m,k⟩:=c;rw [k] at n o h;rw [Nat.add_sub_cancel] at h;obtain⟨q,s⟩:=wW (by omega) h n;exact⟨q,by omega⟩
theorem aBF(e:∀t f,AD n t=some f->dT n t->IU f<=CF n t+1):∀(b:List Pl.A9)(c:List PF),Pl.B1 (AD n) b=some c->(∀x∈b,dT n x)->OT c<=(b.map (CF n)).sum+b.length
 | [],c,h,_=>by obtain rfl:=i_ h;rw [aA5];exact Nat.zero_le _
 | y::r,c,h,g=>by
  unfold Pl.B1 at h
  cases d:AD n y with
  | none=>rw [d] at h;simp at h
  | some a =>rw [d] at h;simp only [Option.bind_some,Option.map_eq_some_iff] at h;obtain⟨q,i,rfl⟩:=h;have k:=e y a d (g y (by simp));have l:=aBF e r q i (fun x j=>g x (List.mem_cons_of_mem _ j));simp only [ZL,List.map_cons,List.sum_cons,c_];omega
theorem aDM(a:∀t f,AD n t=some f->dT n t->IU f<=CF n t+1){ns bd:Pl.A9}{f:PF}(h:Pl.EA (AD n) ns bd=some f)(b:dT n bd):IU f<=CF n bd+2:=by
 unfold Pl.EA at h;split at h
 ·split at h
  ·simp only [Option.map_eq_some_iff] at h;obtain⟨g,c,rfl⟩:=h;have:=a bd g c b;unfold BN;rw [OL,ZL,aA5];omega
  ·cases h
 ·cases h
theorem aDU(b:∀t f,AD n t=some f->dT n t->IU f<=CF n t+1){k:FK}{r:List Pl.A9}{f:PF}(h:Pl.E6 k (AD n) r=some f)(c:∀x∈r,dT n x):IU f<=(r.map (CF n)).sum+2:=by
 unfold Pl.E6 at h;split at h
 ·rename_i a e;split at h
  ·simp only [Option.map_eq_some_iff] at h;obtain⟨g,d,rfl⟩:=h;have:=b e g d (c e (by simp));unfold BN;rw [OL,ZL,aA5];simp only [List.map_cons,List.map_nil,List.sum_cons,List.sum_nil];omega
  ·cases h
 ·cases h
theorem YA(p:∀t f,AD (n+1) t=some f->dT (n+1) t->IU f<=CF (n+1) t+1){ps bd:Pl.A9}{f:PF}(h:Pl.D5 (AD (n+1)) ps bd=some f)(hp:dT (n+1) ps)(s:dT (n+1) bd):IU f<=CF (n+1) ps+CF (n+1) bd+3:=by
 unfold Pl.D5 at h;split at h
 ·rename_i l;split at h
  ·rename_i e;rw [Option.bind_eq_some_iff] at h;obtain⟨g,u,h⟩:=h;simp only [Option.map_eq_some_iff] at h;obtain⟨q,v,rfl⟩:=h;have D:=aDM p u s
   have j:∀x∈l.map Pl.BU,dT n x/\dT (n+1) x:=fun x i=>by
    obtain⟨y,k,rfl⟩:=List.mem_map.1 i;have c:=List.all_eq_true.1 e y k;have d:=hp.2 y k;unfold Pl.BI at c;split at c
    ·rename_i a b
     cases n with
     | zero=>exact d.elim
     | succ m =>have:=d.2 b (by simp);exact⟨aDQ m (m+1) b this (by omega),aDQ m (m+2) b this (by omega)⟩
    ·cases c
   have w:=aBF p _ q v (fun x i=>(j x i).2);have z:((l.map Pl.BU).map (CF (n+1)))=(l.map Pl.BU).map (CF n):=List.map_congr_left (fun x i=>gI n (n+1) x (j x i).1 (by omega));have o:CF (n+1) (.agg l)=l.length+(l.map (CF n)).sum:=rfl
   have A:((l.map Pl.BU).map (CF n)).sum<=(l.map (CF n)).sum:=by
    cases n with
    | zero =>
     cases l with
     | nil=>exact n_
     | cons y r=>exact(hp.2 y (by simp)).elim
    | succ m =>
     have B:=tS (n:=m) l e
     have C:((l.map Pl.BU).map (CF (m+1)))=(l.map Pl.BU).map (CF m):=List.map_congr_left (fun x i=>by
      obtain⟨y,k,rfl⟩:=List.mem_map.1 i;have c:=List.all_eq_true.1 e y k;have d:=hp.2 y k;unfold Pl.BI at c;split at c
      ·rename_i a b;exact gI m (m+1) b (d.2 b (by simp)) (by omega)
      ·cases c)
     rw [C];exact B
   rw [z,List.length_map] at w;rw [o];unfold BN;rw [OL,ZL];omega
  ·cases h
 ·cases h
theorem YE(g:∀t f,AD n t=some f->dT n t->IU f<=CF n t+1){k:Pl.A9}{r:List Pl.A9}{f:PF}(c:Pl.IN (AD n) (.agg (k::r)) h r=some f)(p:dT (n+1) (.agg (k::r))):IU f<=CF (n+1) (.agg (k::r))+1:=by
 have e:∀x∈r,dT n x:=fun x q=>p.2 x (List.mem_cons_of_mem _ q);have i:CF (n+1) (.agg (k::r))=(r.length+1)+(CF n k+(r.map (CF n)).sum):=rfl;unfold Pl.IN at c;split at c
 ·split at c
  ·obtain rfl:=i_ c;unfold BN;rw [OL,aA5];omega
  ·cases c
 split at c
 ·split at c
  ·simp only [Option.map_eq_some_iff] at c;obtain⟨l,d,rfl⟩:=c;have j:=aBF g r l d e;unfold BN;rw [i,OL];omega
  ·cases c
 split at c
 ·split at c
  ·simp only [Option.map_eq_some_iff] at c;obtain⟨l,d,rfl⟩:=c;have j:=aBF g r l d e;unfold BN;rw [i,OL];omega
  ·cases c
 split at c
 ·have j:=aDU g c e;rw [i];omega
 split at c
 ·unfold Pl.J9 at c;split at c
  ·rename_i a b;have j:=aDM g c (e b (by simp));rw [i];simp only [List.map_cons,List.map_nil,List.sum_cons,List.sum_nil];omega
  ·cases c
 split at c
 ·unfold Pl.J8 at c;split at c
  ·rename_i a b;have o:=e a (by simp);have s:=e b (by simp)
   cases n with
   | zero=>exact o.elim
   | succ m =>have j:=YA g c o s;rw [i];simp only [List.map_cons,List.map_nil,List.sum_cons,List.sum_nil,c_,z_];omega
  ·cases c
 ·cases c
theorem aA4:∀(n:Nat)(t:Pl.A9)(f:PF),AD n t=some f->dT n t->IU f<=CF n t+1
 | 0,_,_,h,_=>by cases h
 | n+1,t,f,h,c=>by
  have g:=aA4 n;have a:∀(k:FK)(s:AE)(d:Pl.A9)(i:List AE),f=BN k s d [] i->IU f<=CF (n+1) t+1:=fun k s d i j=>by subst j;unfold BN;rw [OL,aA5];omega
  match t,h,c,a with
  | .lit (.int k m),h,c,a=>exact a _ _ _ _ (i_ h).symm
  | .lit (.bool b),h,c,a=>exact a _ _ _ _ (i_ h).symm
  | .lit (.string s),h,c,a =>
   have h:(if EE s then none else some (BN .name s .nil [] []))=some f:=h;split at h
   ·cases h
   ·exact a _ _ _ _ (i_ h).symm
  | .agg [],h,_,_=>cases h
  | .agg (k::r),h,c,_ =>
   have h:(match Pl.BJ (k::r) with | some o=>Pl.IN (AD n) (.agg (k::r)) o r | none=>(Pl.B1 (AD n) (k::r)).map fun l=>BN .call [] .nil l [])=some f:=h;split at h
   ·exact YE g h c
   ·simp only [Option.map_eq_some_iff] at h;obtain⟨p,e,rfl⟩:=h;have u:=aBF g (k::r) p e c.2;have q:CF (n+1) (.agg (k::r))=(k::r).length+((k::r).map (CF n)).sum:=rfl;unfold BN;rw [q,OL];omega
theorem aDW{t:Pl.A9}{f:PF}(h:Pl.BZ n t=some f)(a:dT (n+1) t):IU f<=CF (n+1) t+1:=by
 unfold Pl.BZ at h;split at h
 ·rename_i b r;split at h
  ·have e:=aDU (aA4 n) h (fun x c=>a.2 x (List.mem_cons_of_mem _ c));have d:CF (n+1) (.agg (.lit (.string b)::r))=(r.length+1)+(CF n (.lit (.string b))+(r.map (CF n)).sum):=rfl;rw [d];omega
  ·exact aA4 (n+1) _ _ h a
 ·exact aA4 (n+1) _ _ h a
theorem aDY{d:AE}{f:PF}(a:Pl.check d=0)(h:Pl.BQ d=some f):IU f<=1001:=by
 unfold Pl.check at a;split at a
 ·cases a
 ·rename_i q;unfold Pl.BQ at h
  cases e:Pl.BX d with
  | none=>rw [e] at h;cases h
  | some l =>
   rw [e] at h a;dsimp only at h a;split at a
   ·cases a
   ·cases b:Pl.pd l.length l with
    | none=>rw [b] at h;cases h
    | some p =>
     rw [b] at h a;dsimp only at h a;split at a
     ·cases a
     split at a
     ·cases a
     split at a
     ·cases a
     ·rename_i g;have i:=Pl.F2 e;have j:l.length<=300:=by omega
      obtain⟨n,o⟩:=W8 _ _ _ b (by simpa using g) (fun t h=>by have:=i.2 t h;omega) j
      have c:∃m,l.length=m+1:=by
       cases k:l.length with
       | zero=>rw [k] at b;simp [Pl.pd] at b
       | succ m=>exact⟨m,rfl⟩
      obtain⟨m,k⟩:=c;rw [k] at n o h;rw [Nat.add_sub_cancel] at h;have:=aDW h n;omega
theorem lN{b:AE}{f:PF}(a:Pl.check b=0)(h:Pl.BQ b=some f):MI 0 f/\(gH f<=1000/\IU f<=1001):=⟨(aBT a h).1,(aBT a h).2,aDY a h⟩
end
end Go.Proofs.YtieooapcfpimlaaGreatDoor
