import Derived.Test.YtbgghmjmcapmlaaGreatDoorF07
import Derived.LaidEql
import Derived.Stop.Asserts
import Derived.RowKitTokens
namespace Go.Proofs.YtbgghmjmcapmlaaGreatDoor
set_option maxHeartbeats 4000000
set_option maxRecDepth 100000
open Go.Proofs.Tryz
open Pl (PV FR AE AD BB C4 BN EE EF isName)
theorem zE5{P:Prop}(h:P:=by
 go_enter func62,ntmps62;go_wp2_with fail;refine Calls.mono F ?_;rintro e h ⟨v,t,rfl,f,i,c,d⟩;have u:=h_ f;have x:Hid (BM M h t tb mb (ps++_)):=show BM _ _ _ _ _ _ from⟨by obtain⟨l,rfl⟩:=d;exact a.B3.keep (c.block _ a.B3.lt.1) (c.block _ a.B3.lt.2),i,a.FV,a.JJ,fun j y=>l_ (a.mlt j y) c.size⟩;have z:Hid (w.grownBy h (some mb)):=aI ((bB w _).trans (c.mono (bB w _).size));have p:Hid (DK s t/\t.ns.length<=s.ns.length+1):=⟨d.r,by obtain⟨l,rfl⟩:=d;exact Nat.le_add_right _ _⟩
 obtain⟨N,O,rfl⟩:=f.iface;clear f i c d a;go_wp2_with fail;go_ret2;exact⟨z,t,p.1,p.2,.inl ⟨_,_,E,rfl,x,.const _ false [] _ _ [] [] u D⟩⟩):P:=h
theorem zE6{P:Prop}(h:P:=by refine Calls.mono HF ?_;rintro e w3 ⟨v9,U,rfl,I⟩;go_wp2_with fail;go_ret2;exact⟨_,_,rfl,I⟩):P:=h
theorem zE7{P:Prop}(h:P:=by
 rcases Nat.lt_or_ge t.block w.heap.size with h | h
 ·exact h
 ·simp [World.cell?,Array.getElem?_eq_none h] at c):P:=h
theorem zE8{P:Prop}(h:P:=by refine(p _ _ x8 x8).mono ?_;rintro e r ⟨v,f,rfl,i⟩;go_wp2_with fail;go_ret2;exact i.post):P:=h
theorem zE9{P:Prop}(h:P:=by go_ret2;exact⟨aI (bB w _),s,DK.refl _,Nat.le_add_right _ _,.inr ⟨p,rfl,n.below (bB w _),_,_,rfl⟩⟩):P:=h
section
open Go.RowKit
variable {n:Nat} {M:Q5} {w:World}
theorem lU(M:Q5)(w:World)(s:Sg)(tb mb:Nat)(ps:List (PV×PV))(sl u:Value)(us:List Value)(h:List Tr)(o:FR)(z:Nat)(i:BM M w s tb mb ps)(j:CD M w sl (u::us))(b:Q2 60 #[sl] (w.alloc (A0 tb)) fun e a=>e=.returned (.string ⟨(eG h).toArray⟩)/\w.alloc (A0 tb)=a)(k:eG h=[100,101,102,105,110,101])(l:o=none) :Q2 75 #[D2 tb,sl] w fun e a=>A5 M w s tb mb ps o z e a:=by
 rw [k] at b;obtain⟨g,d,f,rfl,m,r,t,_⟩:=(Sl.C7 j).cell0;have q:=(show Hid (∀L c,L=us.length+1->c=f->Q2 60 #[.slice (some ⟨g,d,none⟩) L c] (w.alloc (A0 tb)) fun e a=>e=.returned (.string ⟨([100,101,102,105,110,101]:Q7).toArray⟩)/\w.alloc (A0 tb)=a) from by rintro _ _ rfl rfl;exact b)
 have v:((us.length:Int)+1==0)=false:=by simp;omega
 have x:(w.alloc (A0 tb)).cell? ⟨w.heap.size,0,none⟩=some (Q0 tb):=aA (heap_alloc_new w (A0 tb)) 0;have n:=h_ i;have p:=h_ l;unfold D2;clear j b k i l;go_enter func75,ntmps75;go_wp2_with (first | (go_at_call 60;refine(q _ _ x8 x8).mono ?_;rintro e a ⟨rfl,rfl⟩) | (go_at_call 92;refine(aS _ _).mono ?_;rintro e a ⟨rfl,rfl⟩))
 ·exact zE9
 ·exact zE9
theorem oV(M:Q5)(w:World)(s:Sg)(tb mb:Nat)(ps:List (PV×PV))(sl u:Value)(us:List Value)(j:List Tr)(o:FR)(z:Nat)(k:CD M w sl (u::us))(h:Q2 60 #[sl] (w.alloc (A0 tb)) fun e a=>e=.returned (.string ⟨(eG j).toArray⟩)/\w.alloc (A0 tb)=a)(l:eG j=[])
  (m:Q2 99 #[D2 tb,sl] (w.alloc (A0 tb)) fun e a=>A5 M (w.alloc (A0 tb)) s tb mb ps o z e a) :
  Q2 75 #[D2 tb,sl] w fun e a=>A5 M w s tb mb ps o z e a:=by
 rw [l] at h;obtain⟨g,b,d,rfl,n,t,x,_⟩:=(Sl.C7 k).cell0;have q:=(show Hid (∀L c,L=us.length+1->c=d->Q2 60 #[.slice (some ⟨g,b,none⟩) L c] (w.alloc (A0 tb)) fun e a=>e=.returned (.string ⟨([]:Q7).toArray⟩)/\w.alloc (A0 tb)=a) from by rintro _ _ rfl rfl;exact h)
 have p:Hid (∀L c,L=us.length+1->c=d->Q2 99 #[.agg #[Q0 tb],.slice (some ⟨g,b,none⟩) L c] (w.alloc (A0 tb)) fun e a=>∃v f,e=.returned (.tuple #[v,f])/\Hid (LM M w s tb mb ps o z v f a)):=by rintro _ _ rfl rfl;exact iA (bB w _) m
 have y:((us.length:Int)+1==0)=false:=by simp;omega
 have A:(w.alloc (A0 tb)).cell? ⟨w.heap.size,0,none⟩=some (Q0 tb):=aA (heap_alloc_new w (A0 tb)) 0;unfold D2;clear k h l m;go_enter func75,ntmps75;go_wp2_with (go_at_call 60;refine(q _ _ x8 x8).mono ?_;rintro e a ⟨rfl,rfl⟩)
 ·exact zE8
 ·exact zE8
theorem sG(M:Q5)(w:World)(s:Sg)(tb mb:Nat)(ps:List (PV×PV))(sl:Value)(o:FR)(z:Nat)(a:BM M w s tb mb ps)(b:CD M w sl [])(c:o=none) :Q2 75 #[D2 tb,sl] w fun e d=>A5 M w s tb mb ps o z e d:=by obtain⟨i,f,rfl,_⟩:=Sl.C7 b;have g:=h_ a;have h:=h_ c;unfold D2;clear b a c;go_enter func75,ntmps75;go_wp2_with (go_at_call 92;refine(aS _ _).mono ?_;rintro e d ⟨rfl,rfl⟩);go_ret2;exact⟨aI (bB w _),s,DK.refl _,Nat.le_add_right _ _,.inr ⟨h,rfl,g.below (bB w _),_,_,rfl⟩⟩
theorem wI{b:List Tr}{h:Q7}(a:Pl.BJ b=some h):EE h=true:=by
 unfold Pl.BJ at a;split at a
 ·split at a
  ·obtain rfl:=i_ a;assumption
  ·simp at a
 ·simp at a
theorem pF{tb:Nat}{sl:Value}{vs:List Value}{a:List Tr}(c:CD M w sl vs)(b:C9 M n w vs a):Q2 60 #[sl] (w.alloc (A0 tb)) fun e d=>e=.returned (.string ⟨(eG a).toArray⟩)/\w.alloc (A0 tb)=d :=oX _ n sl vs a (w.alloc (A0 tb)) w (Sl.C7 (Sl.AQ (Stp.AA (bB w (A0 tb))) c)) b.1 (fun u x f g=>b.2 0 u x (by rw [<- List.head?_eq_getElem?];exact f) (by rw [<- List.head?_eq_getElem?];exact g))
theorem C9.tail{u:Value}{us:List Value}{t:Tr}{r:List Tr}(h:C9 M n w (u::us) (t::r)):C9 M n w us r:=BY.drop h 1
theorem C9.below{w':World}{us:List Value}{r:List Tr}(h:C9 M n w us r)(a:Q3 w w'):C9 M n w' us r:=BY.mono h (fun _ _ h=>h.go (Stp.AA a))
theorem XI(n:Nat)(O:n<=1000)(q:GB n)(P:JG n)(M:Q5)(w:World)(s:Sg)(tb mb:Nat)(ps:List (PV×PV))(sl:Value)(vs:List Value)(p:List Tr)(I:BM M w s tb mb ps)(k:CD M w sl vs)(y:C9 M n w vs p)(L:∀x∈p,cL n x)(A:p.length<=1000)(c:s.ns.length+(p.map (BB n)).sum<=BS) :Q2 75 #[D2 tb,sl] w fun e B=>A5 M w s tb mb ps (EF (Pl.N4 (AD n) p) ps.length) (p.map (BB n)).sum e B:=by
 have H:=bB w (A0 tb);have d:=I.below H
 match vs,p,y.1 with
 | [],[],_=>exact sG M w s tb mb ps sl _ _ I k rfl
 | u::f,t::r,_ =>
  have C:r.length<=1000:=by simp at A;omega
  have o:=pF (tb:=tb) k y;have g:=(C9.tail y).below H;have j:∀x∈r,cL n x:=fun x D=>L x (List.mem_cons_of_mem _ D);have J:(r.map (BB n)).sum<=((t::r).map (BB n)).sum:=by simp
  have m:s.ns.length+(r.map (BB n)).sum<=BS:=by omega
  cases E:Pl.BJ (t::r) with
  | none =>
   have b:eG (t::r)=[]:=by unfold eG;rw [E]
   have K:Pl.N4 (AD n) (t::r)=(Pl.B1 (AD n) (t::r)).map fun l=>BN .call [] .nil l []:=by show(match Pl.BJ (t::r) with | some h=>Pl.IN (AD n) (.agg (t::r)) h r | none=>(Pl.B1 (AD n) (t::r)).map fun l=>BN .call [] .nil l [])=_;rw [E]
   refine oV M w s tb mb ps sl u f (t::r) _ _ k o b ?_;refine S7 M _ s tb mb ps sl (u::f) ((t::r).map fun x=>EF (AD n x)) ((t::r).map (BB n)) d (Sl.AQ (Stp.AA H) k) (by rw [List.length_map];exact y.1) w9 (by rw [List.length_map];omega) w9 c y.iface ?_ _ ?_
   ·intro i v F z Q N c;rw [List.getElem?_map,Option.map_eq_some_iff] at N c;obtain⟨x,D,rfl⟩:=N;obtain⟨S,G,rfl⟩:=c;rw [D] at G;obtain rfl:=i_ G;exact q M _ v x ((y.2 i v x Q D).go (Stp.AA H)) (L x (q_ D))
   ·rw [K,Pl.KP]
    cases Pl.B1 (AD n) (t::r) with
    | none=>rfl
    | some l=>simp [EF,BN,Pl.BC]
  | some h =>
   have b:eG (t::r)=h:=by unfold eG;rw [E]
   have K:Pl.N4 (AD n) (t::r)=Pl.IN (AD n) (.agg (t::r)) h r:=by show(match Pl.BJ (t::r) with | some h=>Pl.IN (AD n) (.agg (t::r)) h r | none=>(Pl.B1 (AD n) (t::r)).map fun l=>BN .call [] .nil l [])=_;rw [E]
   rw [K];refine Calls.mono (R:=fun e B=>A5 M w s tb mb ps (EF (Pl.IN (AD n) (.agg (t::r)) h r) ps.length) (r.map (BB n)).sum e B) ?_ (fun e B h=>A5.more J h);rcases rB (wI E) with rfl | rfl | rfl | rfl | rfl | rfl | rfl
   ·refine nE M w s tb mb ps sl u f (t::r) _ _ k o b (fun a c=>?_);exact(XJ n O M _ s tb mb ps a f r t d c g j _ rfl).mono (fun e B h=>h.more (Nat.zero_le _))
   ·refine lT M w s tb mb ps sl u f (t::r) _ _ k o b (fun a c=>?_);exact yU n q M _ s tb mb ps a f r d c g j C m _ rfl
   ·refine fZ M w s tb mb ps sl u f (t::r) _ _ k o b (fun a c=>?_);exact qQ n q M _ s tb mb ps a f r d c g j m _ rfl
   ·refine sF M w s tb mb ps sl u f (t::r) _ _ k o b (fun a c=>?_);exact p_set n q M _ s tb mb ps a f r d c g j m _ rfl
   ·exact lU M w s tb mb ps sl u f (t::r) _ _ I k o b rfl
   ·refine nF M w s tb mb ps sl u f (t::r) _ _ k o b (fun a c=>?_);exact XP n q M _ s tb mb ps a f r d c g j C m _ rfl
   ·refine sH M w s tb mb ps sl u f (t::r) _ _ k o b (fun a c=>?_);exact p_let n q P M _ s tb mb ps a f r d c g j m _ rfl
theorem jG(M:Q5)(w:World)(s:Sg)(tb mb:Nat)(ps:List (PV×PV))(sl:Value)(vs:List Value)(o:FR)(z:Nat)(b:CD M w sl vs)(c:Q2 75 #[D2 tb,sl] (w.alloc (A0 tb)) fun e a=>A5 M (w.alloc (A0 tb)) s tb mb ps o z e a) :Q2 62 #[D2 tb,.iface 166 sl] w fun e a=>A5 M w s tb mb ps o z e a:=by have f:=Tryz.ET;obtain⟨i,g,rfl,_⟩:=Sl.C7 b;have d:Hid _:=iA (bB w _) c;unfold D2 at d ⊢;clear b c;go_enter func62,ntmps62;go_wp2_with fail;refine Calls.mono d ?_;rintro e j ⟨v,k,rfl,h⟩;go_wp2_with fail;go_ret2;exact h.post
theorem oY(M:Q5)(w:World)(s:Sg)(tb mb:Nat)(ps:List (PV×PV))(x:AE)(o:FR)(j:BM M w s tb mb ps)(t:x.length<=300)(m:s.ns.length+1<=BS)(n:o=EF (if EE x then none else some (BN .name x .nil [] [])) ps.length) :Q2 62 #[D2 tb,.iface 168 (.string ⟨x.toArray⟩)] w fun e u=>A5 M w s tb mb ps o 1 e u:=by
 have v:=Tryz.FN;have z:=Tryz.FM;have A:=h_ j;have p:=h_ n;have q:=bB w (A0 tb);have g:=(show Hid _ from qP (fun _=>True) 1 w M (w.alloc (A0 tb)) s tb mb ps (.iface 168 (.string ⟨x.toArray⟩)) (.lit (.string x)) rfl (j.below q) (fun y d=>by injection d with d;injection d with d;subst d;exact⟨x8,m⟩))
 unfold D2 at g ⊢;clear j t m n q;go_enter func62,ntmps62;go_wp2_with fail;refine Calls.mono g ?_;rintro e c h;obtain⟨i,⟨y,a,f,rfl,r⟩ | ⟨a,f,B,rfl⟩⟩:=h
 ·injection a with a
  injection a with a
  subst a;have k:Hid (w.grownBy c (some mb)):=aM (aI (bB w _)) i;have l:=h_ r;have b:Hid (o=some (BN .name x .nil [] [],[])):=show o=_ from by rw [p.out,f];simp [EF,BN,Pl.BC,Pl.BV]
  clear i r f g;go_wp2_with fail;go_ret2;exact⟨aM k (aI (bB c _)),s.named x,s.E5 x,dE _ _,.inl ⟨_,_,b,rfl,by rw [List.append_nil];exact l.below (bB c _),.name _ _ _ _ _ _ (internL_get s.ns x)⟩⟩
 ·have k:Hid (w.grownBy c (some mb)):=aM (aI (bB w _)) i;have l:=h_ f
  have b:Hid (o=none):=show o=_ from by
   rw [p.out];have:EE x=true:=by simpa [isName] using a
   rw [this];rfl
  clear i f a g;unfold aY;go_wp2_with fail;go_ret2;exact⟨aM k (aI (bB c _)),s,DK.refl _,Nat.le_add_right _ _,.inr ⟨b,rfl,l.below (bB c _),_,_,rfl⟩⟩
theorem hZ(M:Q5)(w:World)(s:Sg)(tb mb:Nat)(ps:List (PV×PV))(v:Value)(t:Tr)(n:Nat)(o:FR)(A:BM M w s tb mb ps)(g:AN (fun k=>¬M k) (n+1) w v t)(B:cL (n+1) t)(q:(∃k m,t=.lit (.int k m))\/∃b,t=.lit (.bool b))(C:o=EF (some (BN .const [] t [] [])) ps.length) :Q2 62 #[D2 tb,v] w fun e G=>A5 M w s tb mb ps o 1 e G:=by
 have H:=Tryz.FY;have I:=Tryz.GO;have J:=Tryz.EO;have K:=Tryz.E7;have a:=h_ (A.below (bB w (A0 tb)));have r:Pl.quoted t=t/\isQ t=false:=by rcases q with⟨k,m,rfl⟩ | ⟨b,rfl⟩<;>exact⟨rfl,rfl⟩
 have D:=h_ r.2.symm;have E:Hid (o=some (Pl.PF.mk .const [] t (Pl.made 1000 ps.length t).1 [] [],(Pl.made 1000 ps.length t).2)):=show o=_ from by rw [C];simp [EF,BN,Pl.CI,r.1]
 have F:=(show Hid _ from p_of 1000 M _ _ s ps v t a.pairs a.mlt (by
  have L:AN (fun k=>¬M k) 1 w v t:=by rcases q with⟨k,m,rfl⟩ | ⟨b,rfl⟩<;>exact g
  exact AN.up _ _ _ _ (show 1<=1000 by omega) (L.later (bB w (A0 tb)))) (mF (n+1) 1000 v t g B))
 clear A C r B;unfold D2;rcases q with⟨k,m,rfl⟩ | ⟨b,rfl⟩
 ·obtain⟨P,rfl,_⟩:=g;exact zE5
 ·obtain rfl:=(show v=_ from g)
  clear g;exact zE5
theorem zY(n:Nat)(A:GB n):JG n:=by
 intro F G v a b f B C M w s e g h i D E;obtain⟨j,k,rfl,p,q,_⟩:=(f.go i).RQ;have l:=bB w (A0 e);have r:=bB (w.alloc (A0 e)) (A0 e);have c:CD M (w.alloc (A0 e)) j k:=Sl.AQ (Stp.AA l) p;have d:=C9.below q l;refine jG M w s e g h j k _ _ p ?_
 match k,q.1,c,d with
 | [u,t,y],_,c,d =>
  refine fZ M _ s e g h j u [t,y] [.lit (.string Pl.C3),a,b] _ _ c (pF c d) rfl (fun m o=>?_)
  have:=qQ n A M _ s e g h m [t,y] [a,b] ((D.below l).below r) o (C9.below (C9.tail d) r) (fun x z=>by
   simp only [List.mem_cons,List.not_mem_nil,or_false] at z;rcases z with rfl | rfl
   ·exact B
   ·exact C) (by simpa using E) _ rfl
  rw [show([a,b].map (BB n)).sum=BB n a+BB n b from by simp] at this;exact this
theorem wP:∀n,n<=1001->GB n
 | 0,_=>fun _ _ _ _ h=>h.elim
 | n+1,B=>by
  have p:=wP n x8;intro C D v t j a M w s e f g l i d;have c:=j.go l;have o:=bB w (A0 e)
  match t,c,a,d with
  | .lit (.int k m),c,a,d=>exact hZ M w s e f g v _ n _ i c a (.inl ⟨_,_,rfl⟩) rfl
  | .lit (.bool b),c,a,d=>exact hZ M w s e f g v _ n _ i c a (.inr ⟨_,rfl⟩) rfl
  | .lit (.string x),c,a,d =>
   obtain rfl:=(show v=_ from c)
   exact oY M w s e f g x _ i a d rfl
  | .agg y,c,a,d =>obtain⟨q,r,rfl,u,z,A⟩:=c.RQ;exact jG M w s e f g q r _ _ u (XI n x8 p (zY n p) M _ s e f g q r y (i.below o) (Sl.AQ (Stp.AA o) u) (C9.below z o) a A d)
theorem iQ(n:Nat)(t:Tr):(Pl.BZ n t).isSome=Pl.GY n t:=by
 have b:(fun x=>(AD n x).isSome)=C4 n:=funext (Pl.DJ n);unfold Pl.BZ;split
 ·rename_i h r;show _=if h=Pl.CK then Pl.OI (C4 n) r else C4 (n+1) _;split
  ·rw [Pl.JZ,b]
  ·exact Pl.DJ _ _
 ·rename_i a;rw [Pl.DJ];unfold Pl.GY;split
  ·rename_i h r;exact absurd rfl (a h r)
  ·rfl
theorem mK(n:Nat)(r:List Tr):Pl.BZ n (.agg (.lit (.string Pl.CK)::r))=Pl.E6 .define (AD n) r:=by simp [Pl.BZ]
theorem pG(r:List Tr):eG (.lit (.string Pl.CK)::r)=[100,101,102,105,110,101]:=rfl
theorem rL{b:List Tr}(h:¬eG b=[100,101,102,105,110,101]):Pl.BZ n (.agg b)=AD (n+1) (.agg b):=by
 unfold Pl.BZ;split
 ·rename_i c r a;rw [DataW.agg.injEq] at a;subst a;rw [if_neg];rintro rfl;exact h (pG r)
 ·rfl
theorem rM{t:Tr}(h:¬∃a,t=.agg a):Pl.BZ n t=AD (n+1) t:=by
 unfold Pl.BZ;split
 ·exact absurd ⟨_,rfl⟩ h
 ·rfl
theorem YC{b:List Tr}(h:eG b=[100,101,102,105,110,101]):∃r,b=.lit (.string Pl.CK)::r:=by
 unfold eG at h
 cases a:Pl.BJ b with
 | none=>rw [a] at h;simp at h
 | some k =>
  rw [a] at h;dsimp only at h;subst h;unfold Pl.BJ at a;split at a
  ·split at a
   ·obtain rfl:=i_ a;exact⟨_,rfl⟩
   ·simp at a
  ·simp at a
def R3(M:Q5)(w:World)(s:Sg)(tb mb:Nat)(ps:List (PV×PV))(bs:AE)(v ev:Value)(w':World):Prop :=
 w.grownBy w' (some mb)/\∃t,DK s t/\t.ns.length<=s.ns.length+300 /\
  ((∃c es,Pl.check bs=c/\0<c/\c<=5/\ev=aY es c/\t.pb=s.pb/\BM M w' t tb mb ps) \/
   (∃f,Pl.check bs=0/\Pl.BQ bs=some f/\ev=.nilIface/\BM M w' t tb mb (ps++(Pl.settle f ps.length).2)/\CP M w' t v (Pl.settle f ps.length).1))
theorem R3.Z8{s:Sg}{tb mb:Nat}{ps:List (PV×PV)}{bs:AE}{m z:Nat}{t:Tr}{o:FR}{v ev:Value}{w':World}(h:LM M w s tb mb ps o z v ev w')(g:o=EF (Pl.BZ m t) ps.length)(n:z<=300)(b:Pl.check bs=if Pl.GY m t=true then 0 else 5)(c:Pl.BQ bs=Pl.BZ m t):R3 M w s tb mb ps bs v ev w':=by
 obtain⟨i,u,j,p,⟨r,a,rfl,d,e⟩ | ⟨a,d,e,l,rfl⟩⟩:=h
 ·refine⟨i,u,j,x8,.inr ?_⟩;rw [g] at a;unfold EF at a;obtain⟨f,k,rfl⟩:=m_ a;refine⟨f,?_,c.trans k,rfl,d,e⟩;rw [b,<-iQ,k];rfl
 ·refine⟨i,u,j,x8,.inl ⟨5,l,?_,x8,x8,rfl,d,e⟩⟩;rw [g] at a;unfold EF at a;rw [b,<-iQ,Option.map_eq_none_iff.1 a];rfl
theorem xY{bs:AE}{l:Q6}{p:Pl.PR}(h:bF bs=some l)(hp:Pl.pd l.length l=some p):Pl.BQ bs=Pl.BZ (l.length-1) p.t:=by unfold Pl.BQ;rw [(dR h).1];dsimp only;rw [hp]
theorem pU{bs:Q7}(h:Pl.check bs≠1):bs.length<=300:=by
 by_cases a:300<bs.length
 ·exact absurd (kX a) h
 ·omega
theorem XC(b:Q8)(M:Q5)(w:World)(s:Sg)(tb mb:Nat)(ps:List (PV×PV))(hR:BM M w s tb mb ps)(X:GE w)(hz:s.ns.length+300<=BS) :Q2 48 #[.string b,Q0 tb] w fun e o=>∃v j,e=.returned (.tuple #[v,j])/\R3 M w s tb mb ps b.data.toList v j o:=by
 have ae:=Tryz.EO;have af:=Tryz.E7;have ag:=Tryz.FN;have am:=Tryz.ET;have HR:=h_ hR;have HZ:=h_ hz;clear hR hz;go_enter func48,ntmps48;go_wp2_with fail;refine(XO b w X).mono ?_;rintro e i ⟨Y,N⟩;have q:=h_ Y;clear Y X;rcases N with⟨c,es,hc,ah,ai,rfl⟩ | ⟨l,p,v,hs,hl,hp,Z,E,rfl,z⟩
 ·have HC:=h_ hc;clear hc;unfold aY;go_wp2_with fail;go_ret2;exact⟨_,_,rfl,aI q,s,DK.refl _,Nat.le_add_right _ _,.inl ⟨c,_,HC,ah,ai,rfl,rfl,HR.below q⟩⟩
 ·have O:=xY hs hp;have P:=Pl.NP _ _ _ hp
  have aa:∀t∈l,t.length<=300:=fun t ht=>by
   have Q:Pl.check b.data.toList≠1:=by rw [E];split<;>simp
   have V:=pU Q;have h3:=(Pl.HY (dR hs).1).2 t ht;omega
  have f:=P.CG Z aa;have J:=P.words;obtain⟨n,hn⟩:=uJ hp;rw [hn] at z f J;rw [hn,Nat.add_sub_cancel] at E O;have aj:n+1<=300:=by omega
  have a:AN (fun k=>¬M k) (n+1) i v p.t:=AN.mono (fun k _ R hm=>by have:=HR.mlt k hm;omega) _ _ _ z;have A:Hid (Pl.check b.data.toList=(if Pl.GY n p.t=true then 0 else 5)/\Pl.BQ b.data.toList=Pl.BZ n p.t):=⟨E,O⟩
  have F:Hid (Q3 w (i.alloc (A0 tb))):=q.alloc q.size _;have m:Q3 i (i.alloc (A0 tb)):=bB _ _;have B:BM M (i.alloc (A0 tb)) s tb mb ps:=HR.below F;have ab:s.ns.length+BB (n+1) p.t<=BS:=by have:=HZ.out;omega
  have S:BB (n+1) p.t<=300:=by omega
  have d:(Pl.BZ n p.t=AD (n+1) p.t)->Hid (Q2 62 #[.agg #[Q0 tb],v] (i.alloc (A0 tb)) fun e o=>∃v j,e=.returned (.tuple #[v,j])/\Hid (R3 M w s tb mb ps b.data.toList v j o)):=fun ht=>show Calls _ _ _ _ _ from
   (wP (n+1) x8 M i v p.t a f M (i.alloc (A0 tb)) s tb mb ps (Stp.AA m) B ab).mono (fun e o h=>by
    obtain⟨v,j,Q,V⟩:=h.one
    exact⟨v,j,Q,R3.Z8 (V.from_ F) (by rw [ht]) S A.1 A.2⟩)
  have cw:(i.alloc (A0 tb)).cell? ⟨i.heap.size,0,none⟩=some (Q0 tb):=aA (heap_alloc_new i (A0 tb)) 0;clear E O hp hs hn hl P aa z J Z;by_cases G:∃ts,p.t=.agg ts
  ·obtain⟨ts,H⟩:=G;rw [H] at a d f ab S;obtain⟨sl,vs,rfl,W,hA,ak⟩:=a.RQ;have C:=pF (tb:=tb) W hA;by_cases R:eG ts=[100,101,102,105,110,101]
   ·obtain⟨r,rfl⟩:=YC R
    match vs,hA.1 with
    | u::K,_ =>
     rw [R] at C;obtain⟨g,T,D,rfl,al,hg,c0,_⟩:=(Sl.C7 W).cell0;have HK:=(show Hid (∀L c,L=K.length+1->c=D->Q2 60 #[.slice (some ⟨g,T,none⟩) L c] (i.alloc (A0 tb)) fun e o=>e=.returned (.string ⟨([100,101,102,105,110,101]:Q7).toArray⟩)/\i.alloc (A0 tb)=o) from by rintro _ _ rfl rfl;exact C)
     have ac:CD M (i.alloc (A0 tb)).drew (.slice (some ⟨g,T,none⟩) (K.length+1) D) (u::K):=Sl.AQ (Stp.AA (m.drew)) W;have ad:(r.map (BB n)).sum<=BB (n+1) (.agg (.lit (.string Pl.CK)::r)):=by show _<=((.lit (.string Pl.CK)::r).map (BB n)).sum;simp
     have HD:Hid (∀(ao:Option Addr)(L c:Nat),L=K.length->K.length<=c->(K.length≠0->ao=some ⟨g,T+1,none⟩)->Q2 61 #[.agg #[Q0 tb],.slice ao L c] (i.alloc (A0 tb)).drew fun e o=>∃v j,e=.returned (.tuple #[v,j])/\Hid (R3 M w s tb mb ps b.data.toList v j o)):=fun ao L c h0 Q V=>by
      subst h0
      exact(yW n (wP n x8) M _ s tb mb ps _ K r (B.below r_.drew) (Sl.J4 ac K.length rfl ao c Q V) (C9.below (C9.tail hA) m.drew) (fun x hx=>f x (List.mem_cons_of_mem _ hx)) x8 _ rfl).mono (fun e o h=>by
       obtain⟨v,j,Q,V⟩:=h.one;refine⟨v,j,Q,R3.Z8 (V.from_ F.drew) ?_ (t_ ad S) A.1 A.2⟩
       rw [H,mK])
     clear C R hA W a d H ac B m f;obtain⟨c,rfl⟩:∃c,D=c+1:=⟨D-1,x8⟩
     rcases c with _ | c
     all_goals clear A ae af ag HR HZ q F
     all_goals
     go_wp2_with (go_at_call 60;refine(HK _ _ x8 x8).mono ?_;rintro e o ⟨rfl,rfl⟩)
     go_region_with (go_at_call 61;refine(HD _ _ _ x8 x8 zM5).mono ?_;rintro e w2 ⟨v,j,rfl,I⟩)
     all_goals
      go_wp2_with fail
      go_ret2;exact⟨_,_,rfl,I⟩
   ·have HF:=d (rL R);have an:(eG ts==[100,101,102,105,110,101])=false:=by simpa using R
    obtain⟨ao,D,rfl,_⟩:=Sl.C7 W;have HK:=h_ C;generalize eG ts=kk at *;clear C R hA W a d H B m f;go_wp2_with (go_at_call 60;refine(Calls.mono HK) ?_;rintro e o ⟨rfl,rfl⟩);exact zE6
  ·have HF:=d (rM G);obtain⟨y,hy⟩:=AN.KR a G;clear a G d B m f;rcases hy with rfl | rfl | rfl
   ·go_wp2_with fail
    exact zE6
   ·go_wp2_with fail
    exact zE6
   ·go_wp2_with fail
    exact zE6
end
section
open Go.RowKit Go.Extern.Stop Go.Stop Go.Extern
theorem Tryz.SE(t:Addr)(w:World):(ReflectliteValue.unpack (.iface 144 (.pointer (some t)))).run prog w
  = .ok (.agg #[.pointer (some ⟨8,144,none⟩),Q0 w.heap.size,.int .u64 150]) (w.alloc (.cells #[.pointer (some t)] 144)):=by kernel_rfl
theorem Tryz.typeP(a:Addr)(w:World):(ReflectliteValue.methodAny (ReflectliteValue.valueError "reflectlite.Value.Type" 0) (fun t _ _ _=>ReflectliteType.toType t) #[.agg #[.pointer (some ⟨8,144,none⟩),.pointer (some a),.int .u64 150]]).run prog w
  = .ok (.iface 207 (.agg #[.pointer (some ⟨8,144,none⟩)])) w:=by kernel_rfl
theorem Tryz.PH(h:Value)(w:World):(Go.method 534 207 (.agg #[h]) "Kind").run prog w=.ok (173,h) w:=by kernel_rfl
theorem Tryz.kindP(w:World):((ReflectliteType.abiMethod fun t=>Functor.map (fun a:Nat=>Value.int IntKind.u8 (a:Int)) (Rtype.kind t)) #[.pointer (some ⟨8,144,none⟩)]).run prog w=.ok (.int .u8 22) w:=by kernel_rfl
theorem Tryz.kindF(w:World):((ReflectliteType.abiMethod fun t=>Functor.map (fun a:Nat=>Value.int IntKind.u8 (a:Int)) (Rtype.kind t)) #[.pointer (some ⟨8,142,none⟩)]).run prog w=.ok (.int .u8 2) w:=by kernel_rfl
theorem Tryz.YI(a:Addr)(W:World) :(ReflectliteValue.method (ReflectliteValue.valueError "reflectlite.Value.IsNil" 0) ReflectliteValue.isNil #[.agg #[.pointer (some ⟨8,144,none⟩),.pointer (some a),.int .u64 150]]).run prog W=(ReflectliteValue.isNil 144 a 150 22).run prog W:=by kernel_rfl
theorem Tryz.isNilP(a p:Addr)(W:World)(b:W.cell? a=some (.pointer (some p))) :(ReflectliteValue.method (ReflectliteValue.valueError "reflectlite.Value.IsNil" 0) ReflectliteValue.isNil #[.agg #[.pointer (some ⟨8,144,none⟩),.pointer (some a),.int .u64 150]]).run prog W=.ok (.bool false) W:=by rw [Tryz.YI];simp [ReflectliteValue.isNil,loadVar,isAgg,underlying,underlying144,b,Result.andThen]
theorem Tryz.PI(h:Value)(w:World):(Go.method 534 207 (.agg #[h]) "Elem").run prog w=.ok (277,.agg #[h]) w:=by kernel_rfl
theorem Tryz.JS(h:Value)(w:World):(Go.method 534 207 (.agg #[h]) "Implements").run prog w=.ok (278,.agg #[h]) w:=by kernel_rfl
theorem Tryz.IZ(h:Value)(w:World):(Go.method 534 207 (.agg #[h]) "AssignableTo").run prog w=.ok (275,.agg #[h]) w:=by kernel_rfl
theorem Tryz.MQ(a b:Value)(w:World):(Go.method 534 158 (.agg #[a,b]) "Unwrap").run prog w=.ok (259,.agg #[a,b]) w:=by kernel_rfl
theorem Tryz.elemP(w:World):(ReflectliteType.method ReflectliteType.elem #[.agg #[.pointer (some ⟨8,144,none⟩)]]).run prog w=.ok (.iface 207 (.agg #[.pointer (some ⟨8,142,none⟩)])) w:=by kernel_rfl
theorem Tryz.N6(w:World):(ReflectliteType.relation "Implements" ReflectliteType.implements_ #[.agg #[.pointer (some ⟨8,142,none⟩)],.iface 207 (.agg #[.pointer (some ⟨8,72,none⟩)])]).run prog w=.ok (.bool true) w:=by kernel_rfl
theorem Tryz.V3(v:Value)(w:World):(ReflectliteType.typeOf #[.iface 142 v]).run prog w=.ok (.iface 207 (.agg #[.pointer (some ⟨8,142,none⟩)])) w:=by kernel_rfl
theorem Tryz.V4(v:Value)(w:World):(ReflectliteType.typeOf #[.iface 158 v]).run prog w=.ok (.iface 207 (.agg #[.pointer (some ⟨8,158,none⟩)])) w:=by kernel_rfl
theorem Tryz.OG(w:World):(ReflectliteType.relation "AssignableTo" ReflectliteType.assignableTo #[.agg #[.pointer (some ⟨8,142,none⟩)],.iface 207 (.agg #[.pointer (some ⟨8,142,none⟩)])]).run prog w=.ok (.bool true) w:=by kernel_rfl
theorem Tryz.OH(w:World):(ReflectliteType.relation "AssignableTo" ReflectliteType.assignableTo #[.agg #[.pointer (some ⟨8,158,none⟩)],.iface 207 (.agg #[.pointer (some ⟨8,142,none⟩)])]).run prog w=.ok (.bool false) w:=by kernel_rfl
theorem Tryz.SF(n:Int)(w:World):(ReflectliteValue.unpack (.iface 142 (.int .i64 n))).run prog w
  = .ok (.agg #[.pointer (some ⟨8,142,none⟩),Q0 w.heap.size,.int .u64 130]) (w.alloc (.cells #[Q1 n] 142)):=by kernel_rfl
theorem Tryz.Y4(w:World):(Rtype.elem? 144).run prog w=.ok (some 142) w:=by kernel_rfl
theorem Tryz.BN(p:Addr)(w:World):(ReflectliteValue.mk 142 p ReflectliteValue.flagAddr).run prog w=.ok (.agg #[.pointer (some ⟨8,142,none⟩),.pointer (some p),.int .u64 386]) w:=by kernel_rfl
theorem Tryz.IR(a:Addr)(W:World) :(ReflectliteValue.method (ReflectliteValue.valueError "reflectlite.Value.Elem" 0) ReflectliteValue.elem #[.agg #[.pointer (some ⟨8,144,none⟩),.pointer (some a),.int .u64 150]]).run prog W=(ReflectliteValue.elem 144 a 150 22).run prog W:=by kernel_rfl
theorem Tryz.elemVP(a p:Addr)(W:World)(b:W.cell? a=some (.pointer (some p))) :(ReflectliteValue.method (ReflectliteValue.valueError "reflectlite.Value.Elem" 0) ReflectliteValue.elem #[.agg #[.pointer (some ⟨8,144,none⟩),.pointer (some a),.int .u64 150]]).run prog W
   = .ok (.agg #[.pointer (some ⟨8,142,none⟩),.pointer (some p),.int .u64 386]) W:=by
 rw [Tryz.IR];simp [ReflectliteValue.elem,loadVar,isAgg,underlying,underlying144,b,Result.andThen,Tryz.Y4,Tryz.BN]
theorem Tryz.setF0(c b:Addr)(W:World) :(ReflectliteValue.set #[.agg #[.pointer (some ⟨8,142,none⟩),.pointer (some c),.int .u64 386],.agg #[.pointer (some ⟨8,142,none⟩),.pointer (some b),.int .u64 130]]).run prog W
   = (loadVar 142 b >>= fun a=>storeVar 142 c a >>= fun _=>pure (.tuple #[])).run prog W:=by kernel_rfl
theorem Tryz.setF(a b:Addr)(n:Int)(c:Value)(W:World)(d:W.cell? b=some (Q1 n))(e:W.cell? a=some c)(f:W.frozen? a=false) :(ReflectliteValue.set #[.agg #[.pointer (some ⟨8,142,none⟩),.pointer (some a),.int .u64 386],.agg #[.pointer (some ⟨8,142,none⟩),.pointer (some b),.int .u64 130]]).run prog W
   = .ok (.tuple #[]) (W.setCell a (.int .i64 n)):=by
 rw [Tryz.setF0];simp [loadVar,isAgg,underlying,underlying142,d,Result.andThen,storeVar,Value.cells,storeCells,Addr.add];rw [run_store prog W a _ _ m6];simp [e,f]
theorem Tryz.asD_As(v:Value)(w:World):(Instr.typeAssert (.iface 158 v) 72 212 true).run prog w=.ok (.tuple #[.nilIface,.bool false]) w:=run_typeAssert_lacksB underlying212 t8 t8 v _ w
theorem Tryz.P3(v:Value)(w:World):(Instr.typeAssert (.iface 158 v) 72 215 true).run prog w=.ok (.tuple #[.iface 158 v,.bool true]) w:=run_typeAssert_hasB underlying215 t8 v _ w
theorem yE(s:Q8)(a:Int)(w:World):Q2 259 #[.agg #[.string s,.iface 142 (.int .i64 a)]] w fun e b=>e=.returned (.iface 142 (.int .i64 a))/\w.alloc (.cells #[.string s,.iface 142 (.int .i64 a)] 158)=b:=by
 go_enter func259,ntmps259
 go_wp2_with fail
 go_ret;exact⟨rfl,rfl⟩
theorem as_hit(s:Q8)(a:Int)(t:Addr)(b:Value)(w:World)(j:w.cell? ⟨1,0,none⟩=some (.iface 207 (.agg #[.pointer (some ⟨8,72,none⟩)])))(c:w.cell? t=some b)(g:w.frozen? t=false) :Q2 49 #[.iface 158 (.agg #[.string s,.iface 142 (.int .i64 a)]),.iface 144 (.pointer (some t))] w fun p k=>p=.returned (.bool true)/\k=(((((w.alloc (.cells #[.pointer (some t)] 144)).alloc (.cells #[.pointer (some ⟨8,144,none⟩),Q0 w.heap.size,.int .u64 150] 175)).alloc (.cells #[.pointer (some ⟨8,144,none⟩),Q0 w.heap.size,.int .u64 150] 175)).alloc (.cells #[.string s,.iface 142 (.int .i64 a)] 158)).alloc (.cells #[Q1 a] 142)).setCell t (.int .i64 a):=by
 have q:=@run_callFunc_extern prog 63 _ (fun d=>ReflectliteValue.unpack (d.getD 0 (.tuple #[]))) func63 t8 t8 t8 t8;have r:=@run_callFunc_extern prog 64 _ (ReflectliteValue.methodAny (ReflectliteValue.valueError "reflectlite.Value.Type" 0) (fun t _ _ _=>ReflectliteType.toType t)) func64 t8 t8 t8 t8;have u:=@run_callFunc_extern prog 65 _ (ReflectliteValue.method (ReflectliteValue.valueError "reflectlite.Value.IsNil" 0) ReflectliteValue.isNil) func65 t8 t8 t8 t8;have l:=@run_callFunc_extern prog 173 _ (ReflectliteType.abiMethod fun t=>do pure (.int .u8 (<- Rtype.kind t))) func173 t8 t8 t8 t8;have m:=@run_callFunc_extern prog 277 _ (ReflectliteType.method ReflectliteType.elem) func277 t8 t8 t8 t8;have n:=@run_callFunc_extern prog 278 _ (ReflectliteType.relation "Implements" ReflectliteType.implements_) func278 t8 t8 t8 t8;have v:=@run_callFunc_extern prog 78 _ ReflectliteType.typeOf func78 t8 t8 t8 t8;have o:=@run_callFunc_extern prog 275 _ (ReflectliteType.relation "AssignableTo" ReflectliteType.assignableTo) func275 t8 t8 t8 t8;have x:=@run_callFunc_extern prog 79 _ (ReflectliteValue.method (ReflectliteValue.valueError "reflectlite.Value.Elem" 0) ReflectliteValue.elem) func79 t8 t8 t8 t8;have y:=@run_callFunc_extern prog 80 _ ReflectliteValue.set func80 t8 t8 t8 t8;have J:=Tryz.V3;have K:=Tryz.V4;have L:=Tryz.IZ;have M:=Tryz.OG;have N:=Tryz.OH;have O:=Tryz.SF;have P:=Tryz.SE;have Q:=Tryz.typeP;have R:=Tryz.PH;have z:=Tryz.PI;have A:=Tryz.JS;have B:=Tryz.kindP;have C:=Tryz.kindF;have D:=Tryz.elemP;have E:=Tryz.N6;have F:=Tryz.asD_As;have G:=Tryz.P3;have H:=Tryz.MQ;have S:=Tryz.isNilP ⟨w.heap.size,0,none⟩ t ((w.alloc (.cells #[.pointer (some t)] 144)).alloc (.cells #[.pointer (some ⟨8,144,none⟩),Q0 w.heap.size,.int .u64 150] 175)) w9;have i:1<w.heap.size:=World.block_lt_of_cell? w _ j;have I:((w.alloc (.cells #[.pointer (some t)] 144)).alloc (.cells #[.pointer (some ⟨8,144,none⟩),Q0 w.heap.size,.int .u64 150] 175)).cell? ⟨1,0,none⟩=some (.iface 207 (.agg #[.pointer (some ⟨8,72,none⟩)])):=by rw [World.cell?_alloc_lt _ _ ⟨1,0,none⟩ (by first | (simp;done) | (simp;omega)),World.cell?_alloc_lt _ _ ⟨1,0,none⟩ i];exact j
 have f:t.block<w.heap.size:=by
  exact zE7
 have T:=Tryz.elemVP ⟨w.heap.size,0,none⟩ t ((((w.alloc (.cells #[.pointer (some t)] 144)).alloc (.cells #[.pointer (some ⟨8,144,none⟩),Q0 w.heap.size,.int .u64 150] 175)).alloc (.cells #[.pointer (some ⟨8,144,none⟩),Q0 w.heap.size,.int .u64 150] 175)).alloc (.cells #[.string s,.iface 142 (.int .i64 a)] 158)) (by rw [World.cell?_alloc_lt _ _ ⟨w.heap.size,0,none⟩ r7,World.cell?_alloc_lt _ _ ⟨w.heap.size,0,none⟩ r7];simp)
 have U:=Tryz.setF t ⟨w.heap.size+1+1+1+1,0,none⟩ a b (((((w.alloc (.cells #[.pointer (some t)] 144)).alloc (.cells #[.pointer (some ⟨8,144,none⟩),Q0 w.heap.size,.int .u64 150] 175)).alloc (.cells #[.pointer (some ⟨8,144,none⟩),Q0 w.heap.size,.int .u64 150] 175)).alloc (.cells #[.string s,.iface 142 (.int .i64 a)] 158)).alloc (.cells #[Q1 a] 142))
  zO2
  (by rw [World.cell?_alloc_lt _ _ t r7,World.cell?_alloc_lt _ _ t r7,World.cell?_alloc_lt _ _ t r7,World.cell?_alloc_lt _ _ t r7,World.cell?_alloc_lt _ _ t f];exact c)
  (by rw [World.frozen?_alloc_old _ _ t r7,World.frozen?_alloc_old _ _ t r7,World.frozen?_alloc_old _ _ t r7,World.frozen?_alloc_old _ _ t r7,World.frozen?_alloc_old _ _ t (Nat.ne_of_lt f)];exact g)
 go_enter func49,ntmps49
 go_wp2
 refine wp_loop_rounds 2 ?_;rw [rounds_succ];go_wp2_with (go_at_call 259;refine(yE _ _ _).mono ?_;rintro e k ⟨rfl,rfl⟩);rw [rounds_succ];go_wp2;go_ret;exact⟨rfl,rfl⟩
def GT(w:World):Prop:=w.cell? ⟨1,0,none⟩=some (.iface 207 (.agg #[.pointer (some ⟨8,72,none⟩)]))
theorem GT.below{w w':World}(h:GT w)(a:Q3 w w'):GT w':=(a.cell (p:=⟨1,0,none⟩) (World.block_lt_of_cell? w _ h)).trans h
theorem aCA(s:Q8)(a:Int)(w:World)(k:GT w):Q2 32 #[aY s a] w fun e h=>e=.returned (Q1 a)/\Q3 w h:=by
 unfold aY;have o:=h_ k;clear k;go_enter func32,ntmps32;go_wp2_with fail;have l:Hid (∀b c d f g:Obj,Q3 w ((((((w.alloc (.cells #[Q1 0] 142)).alloc b).alloc c).alloc d).alloc f).alloc g)):=fun b c d f g=>by have p:Q3 w (w.alloc (.cells #[Q1 0] 142)):=b_;exact((((p.alloc w9 b).alloc r7 c).alloc r7 d).alloc r7 f).alloc r7 g
 have m:Hid (∀b c d f g:Obj,((((((w.alloc (.cells #[Q1 0] 142)).alloc b).alloc c).alloc d).alloc f).alloc g).heap[w.heap.size]?=some (.cells #[Q1 0] 142 (0,0))):=fun b c d f g=>by rw [k_ r7,k_ r7,k_ r7,k_ r7,k_ w9];exact heap_alloc_new _ _
 refine(as_hit s a ⟨w.heap.size,0,none⟩ (.int .i64 0) _ (o.below b_) (aA (heap_alloc_new _ _) 0) (aF (heap_alloc_new _ _) 0)).mono ?_;rintro e h ⟨rfl,i⟩;have n:Q3 w h:=by rw [i];exact(l _ _ _ _ _).setCell n_ _
 have q:h.cell? ⟨w.heap.size,0,none⟩=some (Q1 a):=by rw [i];exact aA (aD (m _ _ _ _ _) 0 _) 0
 have j:=h_ n;clear n i l m;go_wp2_with fail;go_ret;exact⟨rfl,j⟩
theorem as_nil(t:Value)(w:World) :Q2 49 #[.nilIface,t] w fun e a=>e=.returned (.bool false)/\w=a:=by
 go_enter func49,ntmps49
 go_wp2
 go_ret;exact⟨rfl,rfl⟩
theorem sL(w:World):Q2 32 #[.nilIface] w fun e a=>e=.returned (Q1 0)/\Q3 w a:=by
 go_enter func32,ntmps32
 go_wp2_with (go_at_call 49;refine(as_nil _ _).mono ?_;rintro e a ⟨rfl,rfl⟩)
 go_ret;exact⟨rfl,b_⟩
theorem aK2(s:Q8)(v:Value)(w:World):Q2 259 #[.agg #[.string s,.iface 158 v]] w fun e a=>e=.returned (.iface 158 v)/\w.alloc (.cells #[.string s,.iface 158 v] 158)=a:=by
 go_enter func259,ntmps259
 go_wp2_with fail
 go_ret;exact⟨rfl,rfl⟩
theorem as_hit2(o s:Q8)(a:Int)(t:Addr)(b:Value)(w:World)(k:w.cell? ⟨1,0,none⟩=some (.iface 207 (.agg #[.pointer (some ⟨8,72,none⟩)])))(c:w.cell? t=some b)(g:w.frozen? t=false) :Q2 49 #[.iface 158 (.agg #[.string o,.iface 158 (.agg #[.string s,.iface 142 (.int .i64 a)])]),.iface 144 (.pointer (some t))] w fun q i=>q=.returned (.bool true)/\i=((((((w.alloc (.cells #[.pointer (some t)] 144)).alloc (.cells #[.pointer (some ⟨8,144,none⟩),Q0 w.heap.size,.int .u64 150] 175)).alloc (.cells #[.pointer (some ⟨8,144,none⟩),Q0 w.heap.size,.int .u64 150] 175)).alloc (.cells #[.string o,.iface 158 (.agg #[.string s,.iface 142 (.int .i64 a)])] 158)).alloc (.cells #[.string s,.iface 142 (.int .i64 a)] 158)).alloc (.cells #[Q1 a] 142)).setCell t (.int .i64 a):=by
 have r:=@run_callFunc_extern prog 63 _ (fun d=>ReflectliteValue.unpack (d.getD 0 (.tuple #[]))) func63 t8 t8 t8 t8;have u:=@run_callFunc_extern prog 64 _ (ReflectliteValue.methodAny (ReflectliteValue.valueError "reflectlite.Value.Type" 0) (fun t _ _ _=>ReflectliteType.toType t)) func64 t8 t8 t8 t8;have v:=@run_callFunc_extern prog 65 _ (ReflectliteValue.method (ReflectliteValue.valueError "reflectlite.Value.IsNil" 0) ReflectliteValue.isNil) func65 t8 t8 t8 t8;have l:=@run_callFunc_extern prog 173 _ (ReflectliteType.abiMethod fun t=>do pure (.int .u8 (<- Rtype.kind t))) func173 t8 t8 t8 t8;have m:=@run_callFunc_extern prog 277 _ (ReflectliteType.method ReflectliteType.elem) func277 t8 t8 t8 t8;have n:=@run_callFunc_extern prog 278 _ (ReflectliteType.relation "Implements" ReflectliteType.implements_) func278 t8 t8 t8 t8;have x:=@run_callFunc_extern prog 78 _ ReflectliteType.typeOf func78 t8 t8 t8 t8;have p:=@run_callFunc_extern prog 275 _ (ReflectliteType.relation "AssignableTo" ReflectliteType.assignableTo) func275 t8 t8 t8 t8;have y:=@run_callFunc_extern prog 79 _ (ReflectliteValue.method (ReflectliteValue.valueError "reflectlite.Value.Elem" 0) ReflectliteValue.elem) func79 t8 t8 t8 t8;have z:=@run_callFunc_extern prog 80 _ ReflectliteValue.set func80 t8 t8 t8 t8;have K:=Tryz.V3;have L:=Tryz.V4;have M:=Tryz.IZ;have N:=Tryz.OG;have O:=Tryz.OH;have P:=Tryz.SF;have Q:=Tryz.SE;have R:=Tryz.typeP;have S:=Tryz.PH;have A:=Tryz.PI;have B:=Tryz.JS;have C:=Tryz.kindP;have D:=Tryz.kindF;have E:=Tryz.elemP;have F:=Tryz.N6;have G:=Tryz.asD_As;have H:=Tryz.P3;have I:=Tryz.MQ;have T:=Tryz.isNilP ⟨w.heap.size,0,none⟩ t ((w.alloc (.cells #[.pointer (some t)] 144)).alloc (.cells #[.pointer (some ⟨8,144,none⟩),Q0 w.heap.size,.int .u64 150] 175)) w9;have j:1<w.heap.size:=World.block_lt_of_cell? w _ k;have J:((w.alloc (.cells #[.pointer (some t)] 144)).alloc (.cells #[.pointer (some ⟨8,144,none⟩),Q0 w.heap.size,.int .u64 150] 175)).cell? ⟨1,0,none⟩=some (.iface 207 (.agg #[.pointer (some ⟨8,72,none⟩)])):=by rw [World.cell?_alloc_lt _ _ ⟨1,0,none⟩ (by first | (simp;done) | (simp;omega)),World.cell?_alloc_lt _ _ ⟨1,0,none⟩ j];exact k
 have f:t.block<w.heap.size:=by
  exact zE7
 have U:=Tryz.elemVP ⟨w.heap.size,0,none⟩ t (((((w.alloc (.cells #[.pointer (some t)] 144)).alloc (.cells #[.pointer (some ⟨8,144,none⟩),Q0 w.heap.size,.int .u64 150] 175)).alloc (.cells #[.pointer (some ⟨8,144,none⟩),Q0 w.heap.size,.int .u64 150] 175)).alloc (.cells #[.string o,.iface 158 (.agg #[.string s,.iface 142 (.int .i64 a)])] 158)).alloc (.cells #[.string s,.iface 142 (.int .i64 a)] 158)) (by rw [World.cell?_alloc_lt _ _ ⟨w.heap.size,0,none⟩ r7,World.cell?_alloc_lt _ _ ⟨w.heap.size,0,none⟩ r7,World.cell?_alloc_lt _ _ ⟨w.heap.size,0,none⟩ r7];simp)
 have V:=Tryz.setF t ⟨w.heap.size+1+1+1+1+1,0,none⟩ a b ((((((w.alloc (.cells #[.pointer (some t)] 144)).alloc (.cells #[.pointer (some ⟨8,144,none⟩),Q0 w.heap.size,.int .u64 150] 175)).alloc (.cells #[.pointer (some ⟨8,144,none⟩),Q0 w.heap.size,.int .u64 150] 175)).alloc (.cells #[.string o,.iface 158 (.agg #[.string s,.iface 142 (.int .i64 a)])] 158)).alloc (.cells #[.string s,.iface 142 (.int .i64 a)] 158)).alloc (.cells #[Q1 a] 142))
  zO2
  (by rw [World.cell?_alloc_lt _ _ t r7,World.cell?_alloc_lt _ _ t r7,World.cell?_alloc_lt _ _ t r7,World.cell?_alloc_lt _ _ t r7,World.cell?_alloc_lt _ _ t r7,World.cell?_alloc_lt _ _ t f];exact c)
  (by rw [World.frozen?_alloc_old _ _ t r7,World.frozen?_alloc_old _ _ t r7,World.frozen?_alloc_old _ _ t r7,World.frozen?_alloc_old _ _ t r7,World.frozen?_alloc_old _ _ t r7,World.frozen?_alloc_old _ _ t (Nat.ne_of_lt f)];exact g)
 go_enter func49,ntmps49
 go_wp2
 refine wp_loop_rounds 3 ?_;rw [rounds_succ];go_wp2_with (go_at_call 259;refine(aK2 _ _ _).mono ?_;rintro e i ⟨rfl,rfl⟩);rw [rounds_succ];go_wp2_with (go_at_call 259;refine(yE _ _ _).mono ?_;rintro e i ⟨rfl,rfl⟩);rw [rounds_succ];go_wp2;go_ret;exact⟨rfl,rfl⟩
theorem p_code2(o s:Q8)(a:Int)(w:World)(l:GT w):Q2 32 #[.iface 158 (.agg #[.string o,aY s a])] w fun e i=>e=.returned (Q1 a)/\Q3 w i:=by
 unfold aY;have q:=h_ l;clear l;go_enter func32,ntmps32;go_wp2_with fail;have m:Hid (∀b c d f g h:Obj,Q3 w (((((((w.alloc (.cells #[Q1 0] 142)).alloc b).alloc c).alloc d).alloc f).alloc g).alloc h)):=fun b c d f g h=>by have r:Q3 w (w.alloc (.cells #[Q1 0] 142)):=b_;exact(((((r.alloc w9 b).alloc r7 c).alloc r7 d).alloc r7 f).alloc r7 g).alloc r7 h
 have n:Hid (∀b c d f g h:Obj,(((((((w.alloc (.cells #[Q1 0] 142)).alloc b).alloc c).alloc d).alloc f).alloc g).alloc h).heap[w.heap.size]?=some (.cells #[Q1 0] 142 (0,0))):=fun b c d f g h=>by rw [k_ r7,k_ r7,k_ r7,k_ r7,k_ r7,k_ w9];exact heap_alloc_new _ _
 refine(as_hit2 o s a ⟨w.heap.size,0,none⟩ (.int .i64 0) _ (q.below b_) (aA (heap_alloc_new _ _) 0) (aF (heap_alloc_new _ _) 0)).mono ?_;rintro e i ⟨rfl,j⟩;have p:Q3 w i:=by rw [j];exact(m _ _ _ _ _ _).setCell n_ _
 have t:i.cell? ⟨w.heap.size,0,none⟩=some (Q1 a):=by rw [j];exact aA (aD (n _ _ _ _ _ _) 0 _) 0
 have k:=h_ p;clear p j m n;go_wp2_with fail;go_ret;exact⟨rfl,k⟩
def cmpE:=ReflectliteType.method fun t=>do Rtype.noPackHeld "Comparable" t;pure (.bool (<- typeInfo t).comparable)
theorem aIK(w:World):(cmpE #[.agg #[.pointer (some ⟨8,142,none⟩)]]).run prog w=.ok (.bool true) w:=by kernel_rfl
theorem aHM(v:Value)(w:World):(Go.method 534 207 v "Comparable").run prog w=.ok (276,v) w:=by kernel_rfl
theorem isD_Is(v:Value)(w:World):(Instr.typeAssert (.iface 158 v) 72 353 true).run prog w=.ok (.tuple #[.nilIface,.bool false]) w:=run_typeAssert_lacksB underlying353 t8 t8 v _ w
theorem isF_Is(v:Value)(w:World):(Instr.typeAssert (.iface 142 v) 72 353 true).run prog w=.ok (.tuple #[.nilIface,.bool false]) w:=run_typeAssert_lacksB underlying353 t8 t8 v _ w
theorem isF_Un(v:Value)(w:World):(Instr.typeAssert (.iface 142 v) 72 215 true).run prog w=.ok (.tuple #[.nilIface,.bool false]) w:=run_typeAssert_lacksB underlying215 t8 t8 v _ w
theorem isF_Uns(v:Value)(w:World):(Instr.typeAssert (.iface 142 v) 72 217 true).run prog w=.ok (.tuple #[.nilIface,.bool false]) w:=run_typeAssert_lacksB underlying217 t8 t8 v _ w
theorem eqDF(v u:Value)(w:World):(binOp .eql 72 (.iface 158 v) (.iface 142 u)).run prog w=.ok (.bool false) w:=by kernel_rfl
theorem eqFF(a b:Int)(w:World):(binOp .eql 72 (.iface 142 (.int .i64 a)) (.iface 142 (.int .i64 b))).run prog w=.ok (.bool (a==b)) w:=by kernel_rfl
theorem is_nil7(v:Value)(w:World):Q2 178 #[.nilIface,.iface 142 v] w fun e a=>e=.returned (.bool false)/\w=a:=by have b:=run_eql_iface_nil_left (P:=prog) w 142 v underlying72;go_enter func178,ntmps178;go_wp2;go_ret;exact⟨rfl,rfl⟩
theorem aJ2(s:Q8)(a:Int)(w:World):Q2 178 #[aY s a,.iface 142 (.int .i64 7)] w fun e c=>e=.returned (.bool (a==7))/\c=w.alloc (.cells #[.string s,.iface 142 (.int .i64 a)] 158):=by
 unfold aY;have f:=@run_callFunc_extern prog 78 _ ReflectliteType.typeOf func78 t8 t8 t8 t8;have g:=@run_callFunc_extern prog 276 _ cmpE func276 t8 t8 t8 t8;have h:=Tryz.V3;have i:=aIK;have j:=aHM;have k:=isD_Is;have l:=isF_Is;have m:=isF_Un;have n:=isF_Uns;have o:=Tryz.P3;have p:=Tryz.MQ;have q:=eqDF;have r:=eqFF;go_enter func178,ntmps178;go_wp2;refine wp_loop_rounds 2 ?_;rw [rounds_succ];go_wp2_with (go_at_call 259;refine(yE _ _ _).mono ?_;rintro e c ⟨rfl,rfl⟩);rw [rounds_succ];by_cases d:a=7
 ·subst d;go_wp2;go_ret;exact⟨rfl,rfl⟩
 ·have b:(a==7)=false:=by simp [d]
  go_wp2
  go_ret;exact⟨zN5,rfl⟩
end
end Go.Proofs.YtbgghmjmcapmlaaGreatDoor
