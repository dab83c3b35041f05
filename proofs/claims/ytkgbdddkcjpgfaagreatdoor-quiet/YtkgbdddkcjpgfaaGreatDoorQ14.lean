import Derived.Test.YtkgbdddkcjpgfaaGreatDoorQ13
namespace Go.Proofs.YtkgbdddkcjpgfaaGreatDoor
set_option maxHeartbeats 2000000
set_option maxRecDepth 100000
open Go.Proofs.Tryz
open Pl (PV PF FR AD BB BN EF)
section
open Go.RowKit
variable {w:World}
theorem bB(w:World)(o:Obj):Below w.heap.size w (w.alloc o):=b_
theorem mF{ok:Nat->Prop}:∀(n m:Nat)(v:Value)(t:Tr),AN ok n w v t->cL n t->cL m t
 | 0,_,_,_,h,_=>h.elim
 | _+1,0,_,_,_,_=>trivial
 | n+1,m+1,v,t,h,a=>by
  match t,h,a with
  | .lit (.int _ _),_,a=>exact a
  | .lit (.bool _),_,_=>trivial
  | .lit (.string _),_,a=>exact a
  | .agg e,h,a =>obtain⟨k,b,_,_,f,g,_⟩:=h;intro x c;obtain⟨i,d⟩:=List.mem_iff_getElem?.1 c;have l:b.length=e.length:=f.1.trans (Nat.mul_one _);have j:=(s_ d).1;exact mF n m _ x (g i b[i] x (g_ (by omega)) d) (a x c)
theorem vL{α:Type}{l:List α}(h:l.length=1):∃a,l=[a]:=by
 match l,h with
 | [a],_=>exact⟨a,rfl⟩
theorem fO{α:Type}{l:List α}(h:l.length=2):∃a b,l=[a,b]:=by
 match l,h with
 | [a,b],_=>exact⟨a,b,rfl⟩
theorem pZ{α:Type}{l:List α}(h:l.length=3):∃a b c,l=[a,b,c]:=by
 match l,h with
 | [a,b,c],_=>exact⟨a,b,c,rfl⟩
abbrev C9(M:Nat->Prop)(n:Nat)(w:World)(vs:List Value)(ts:List Tr):Prop:=BY (AN (fun k=>¬M k) n w) vs ts
theorem C9.iface{M:Nat->Prop}{n:Nat}{vs:List Value}{a:List Tr}(h:C9 M n w vs a):∀v∈vs,∃T x,v=.iface T x:=by
 intro v d;obtain⟨i,c⟩:=List.mem_iff_getElem?.1 d;have b:i<a.length:=by have:=(s_ c).1;have:=h.1;omega
 obtain⟨T,x,rfl,_⟩:=(h.2 i v a[i] c (g_ b)).iface;exact⟨T,x,rfl⟩
theorem XJ(n:Nat)(K:n<=1000)(M:Nat->Prop)(w:World)(s:Sg)(tb mb:Nat)(ps:List (PV×PV))(sl:Value)(vs:List Value)(c:List Tr)(k:Tr)(z:BM M w s tb mb ps)(i:CD M w sl vs)(m:C9 M n w vs c)(A:∀x∈c,cL n x)(o:FR)(p:o=EF (if c.length==1 then some (BN .const [] (.agg (k::c)) [] []) else none) ps.length) :Calls prog 150 #[D2 tb,sl] w fun e F=>A5 M w s tb mb ps o 0 e F:=by
 have G:=h_ z;have b:=m.1;unfold D2;by_cases d:c.length=1
 ·obtain⟨x,rfl⟩:=vL d;obtain⟨u,rfl⟩:=vL (b.trans d);have q:=m.2 0 u x rfl rfl;have B:Hid (AN (fun k=>¬M k) 1000 w u x):=AN.up _ _ _ _ K q;have C:Hid (cL 1000 x):=mF n 1000 u x q (A x (by simp));obtain⟨T,y,rfl,_⟩:=q.iface;obtain⟨g,L,D,rfl,f,W,N,_⟩:=(Sl.C7 i).cell0;simp only [z_,Nat.zero_add] at f ⊢;have O:Hid (o=some (Pl.PF.mk .const [] (.agg [k,x]) (Pl.made 1000 ps.length x).1 [] [],(Pl.made 1000 ps.length x).2)):=show o=_ from by rw [p];simp [EF,BN,Pl.CI,Pl.quoted]
  clear i m A z q d b p;go_enter func150,ntmps150;go_wp2_with fail;have a:=G.below (bB w (A0 tb));refine(p_of 1000 M _ _ s ps _ x a.pairs a.mlt (B.later (bB w (A0 tb))) C).mono ?_;rintro e H ⟨v,t,rfl,E,I,h,r⟩;have P:=h_ E;have Q:Hid (BM M H t tb mb (ps++(Pl.made 1000 ps.length x).2)):=show BM _ _ _ _ _ _ from⟨by obtain⟨l,rfl⟩:=r;exact a.B3.keep (h.block _ a.B3.lt.1) (h.block _ a.B3.lt.2),I,a.FV,a.JJ,fun j R=>l_ (a.mlt j R) h.size⟩;have S:Hid (w.grownBy H (some mb)):=aI ((bB w _).trans (h.mono (bB w _).size));have J:Hid (DK s t/\t.ns.length<=s.ns.length+0):=⟨r.r,by obtain⟨l,rfl⟩:=r;exact n_⟩
  obtain⟨X,Y,rfl⟩:=E.iface;clear E I h r a N;go_wp2_with fail;go_ret2;exact⟨S,t,J.1,J.2,.inl ⟨_,_,O,rfl,Q,.const _ true [] (.agg [k,x]) _ [] [] P rfl⟩⟩
 ·have U:Hid (o=none):=show o=none from by
   rw [p,if_neg (by simpa using d)];rfl
  obtain⟨Z,D,rfl,_⟩:=Sl.C7 i;have V:((vs.length:Int)!=1)=true:=by simp;omega
  clear i m A z d b p;go_enter func150,ntmps150;go_wp2_with (go_at_call 149;refine(aS _ _).mono ?_;rintro e F ⟨rfl,rfl⟩);go_ret2;exact⟨aI (bB w _),s,DK.refl _,Nat.le_add_right _ _,.inr ⟨U,rfl,G.below (bB w _),_,_,rfl⟩⟩
theorem rF(n:Nat)(j:GB n)(M:Nat->Prop)(w:World)(s:Sg)(tb mb:Nat)(ps:List (PV×PV))(sl:Value)(vs:List Value)(a:List Tr)(k:BM M w s tb mb ps)(m:CD M w sl vs)(d:C9 M n w vs a)(o:∀x∈a,cL n x)(g:a.length<=1000)(c:s.ns.length+(a.map (BB n)).sum<=BS) :Calls prog 189 #[D2 tb,sl] w fun e p=>JH M w s tb mb ps ((Pl.B1 (AD n) a).map fun l=>Pl.AK l ps.length) a.length (a.map (BB n)).sum e p:=by
 have:=p_forms M w s tb mb ps sl vs (a.map fun t=>EF (AD n t)) (a.map (BB n)) k m (by rw [d.1];simp) (by simp) (by simp;omega) c d.iface (by
  intro i v F z q h c;rw [List.getElem?_map,Option.map_eq_some_iff] at h c;obtain⟨t,f,rfl⟩:=h;obtain⟨r,b,rfl⟩:=c;rw [f] at b;obtain rfl:=i_ b
  exact j M w v t (d.2 i v t q f) (o t (q_ f)))
 rw [Pl.KP,List.length_map] at this;exact this
theorem p6{M:Nat->Prop}{s:Sg}{v:Value}{us:List Value}{fs:List PF}{n:Nat}(h:Sl M w D8 1 v n us)(a:us.length=n)(b:BY (CP M w s) us fs):Sl M w D8 1 v fs.length us:=by rw [<- b.1,a];exact h
theorem XP(n:Nat)(H:GB n)(M:Nat->Prop)(w:World)(s:Sg)(tb mb:Nat)(ps:List (PV×PV))(sl:Value)(vs:List Value)(a:List Tr)(A:BM M w s tb mb ps)(B:CD M w sl vs)(C:C9 M n w vs a)(I:∀x∈a,cL n x)(j:a.length<=1000)(J:s.ns.length+(a.map (BB n)).sum<=BS)(o:FR)(D:o=EF (if !a.isEmpty then(Pl.B1 (AD n) a).map fun l=>BN .begin [] .nil l [] else none) ps.length) :Calls prog 152 #[D2 tb,sl] w fun e E=>A5 M w s tb mb ps o (a.map (BB n)).sum e E:=by
 have T:=h_ A;have c:=bB w (A0 tb);have K:Hid (Calls prog 189 #[D2 tb,sl] (w.alloc (A0 tb)) fun e E=>JH M (w.alloc (A0 tb)) s tb mb ps ((Pl.B1 (AD n) a).map fun l=>Pl.AK l ps.length) a.length (a.map (BB n)).sum e E) :=rF n H M _ s tb mb ps sl vs a (A.below c) (Sl.AQ (Stp.AA c) B) (C.mono (fun _ _ h=>h.go (Stp.AA c))) I j J;have k:=C.1;obtain⟨Y,U,rfl,_⟩:=Sl.C7 B;unfold D2 at K ⊢;by_cases L:a.length=0
 ·have F:Hid (o=none):=show o=none from by
   obtain rfl:=e_ L;exact D
  have J:((vs.length:Int)==0)=true:=beq_iff_eq.2 (by omega);clear B C I A L k K c H D;go_enter func152,ntmps152;go_wp2_with (go_at_call 149;refine(aS _ _).mono ?_;rintro e E ⟨rfl,rfl⟩);go_ret2;exact⟨aI (bB w _),s,DK.refl _,Nat.le_add_right _ _,.inr ⟨F,rfl,T.below (bB w _),_,_,rfl⟩⟩
 ·have F:Hid (o=((Pl.B1 (AD n) a).map fun l=>Pl.AK l ps.length).map fun r=>(BN .begin [] .nil r.1 [],r.2)):=show o=_ from by
   rw [D,show a.isEmpty=false from by cases a<;>simp_all]
   cases Pl.B1 (AD n) a with
   | none=>rfl
   | some l=>simp [EF,BN,Pl.BC]
  have Q:Hid (1<=a.length/\a.length<=1000):=⟨by omega,j⟩
  have J:((vs.length:Int)==0)=false:=beq_eq_false_iff_ne.2 (by omega);have m:=h_ c;clear B C I A L k c H D;go_enter func152,ntmps152;go_wp2_with fail;refine Calls.mono K ?_;rintro e N ⟨G,t,f,g,⟨r,v,V,p,rfl,d,q,i,b⟩ | ⟨p,u,d,v,Z,rfl⟩⟩
  ·have y:Hid (DK s t/\t.ns.length<=s.ns.length+(a.map (BB n)).sum):=⟨f,g⟩
   have O:=h_ (aM (aI m) G);have R:Hid (BM M N t tb mb (ps++r.2)/\CP M N t (.iface 347 (.agg #[v])) (BN .begin [] .nil r.1 [])):=⟨d,.begin v V [] .nil .nothing r.1 [] (p6 q i b) b.1 b.2 (by rw [<- b.1,i];exact Q.1) (by rw [<- b.1,i];have:=Q.2;omega)⟩
   have W:Hid (o=some (BN .begin [] .nil r.1 [],r.2)):=show _=_ from by rw [F.out,p];rfl
   obtain⟨_,X,S,rfl,_⟩:=q;clear G f g p d i b;go_wp2_with fail;go_ret2;exact⟨O,t,y.1,y.2,.inl ⟨_,_,W,rfl,R.1,R.2⟩⟩
  ·have y:Hid (DK s t/\t.ns.length<=s.ns.length+(a.map (BB n)).sum):=⟨f,g⟩
   have O:=h_ (aM (aI m) G);have z:Hid (t.pb=s.pb/\BM M N t tb mb ps):=⟨u,d⟩
   have P:Hid (o=none):=show _=_ from by rw [F.out,p];rfl
   clear G f g p d u;unfold aY;go_wp2_with fail;go_ret2;exact⟨O,t,y.1,y.2,.inr ⟨P,z.1,z.2,_,_,rfl⟩⟩
theorem U2(w:World)(n:Nat):Below w.heap.size w (w.drewN n):=⟨rfl,rfl,rfl,n_,fun _ _=>rfl⟩
theorem S7(M:Nat->Prop)(w:World)(s:Sg)(tb mb:Nat)(ps:List (PV×PV))(sl:Value)(vs:List Value)(b:List (Nat->FR))(k:List Nat)(D:BM M w s tb mb ps)(E:CD M w sl vs)(L:vs.length=b.length)(l:k.length=b.length)(c:b.length<=2000)(m:1<=b.length)(N:s.ns.length+k.sum<=BS)(n:∀v∈vs,∃T x,v=.iface T x)
  (O:∀(i:Nat)(v:Value)(F:Nat->FR)(z:Nat),vs[i]?=some v->b[i]?=some F->k[i]?=some z->JI M w v F z) (o:FR) (P:o=(Pl.GG b ps.length).map fun r=>(BN .call [] .nil r.1 [],r.2)) :
  Calls prog 156 #[D2 tb,sl] w fun e G=>A5 M w s tb mb ps o k.sum e G:=by
 have HR:=h_ D;have d:=bB w (A0 tb);have Q:Hid (Calls prog 189 #[D2 tb,sl] (w.alloc (A0 tb)) fun e G=>JH M (w.alloc (A0 tb)) s tb mb ps (Pl.GG b ps.length) b.length k.sum e G) :=p_forms M _ s tb mb ps sl vs b k (D.below d) (Sl.AQ (Stp.AA d) E) L l c N n (fun i v F z W X Y=>(O i v F z W X Y).go (Stp.AA d));obtain⟨ao,Z,rfl,_⟩:=Sl.C7 E;unfold D2 at Q ⊢;have R:=h_ P;have S:Hid (1<=b.length/\b.length<=2000):=⟨m,c⟩
 have p:=h_ d;clear E D d O P L l c N n;go_enter func156,ntmps156;go_wp2_with fail;refine Calls.mono Q ?_;rintro e H ⟨C,t,g,h,⟨r,v,us,q,rfl,f,u,j,a⟩ | ⟨q,y,f,v,es,rfl⟩⟩
 ·have A:Hid (DK s t/\t.ns.length<=s.ns.length+k.sum):=⟨g,h⟩
  have I:=h_ (aM (aI p) C);have U:Hid (BM M H t tb mb (ps++r.2)/\CP M H t (.iface 349 (.agg #[v])) (BN .call [] .nil r.1 [])):=⟨f,.call v us [] .nil .nothing r.1 [] (p6 u j a) a.1 a.2 (by rw [<- a.1,j];exact S.1) (by rw [<- a.1,j];exact S.2)⟩
  have J:Hid (o=some (BN .call [] .nil r.1 [],r.2)):=show _=_ from by rw [R.out,q];rfl
  obtain⟨_,aa,V,rfl,_⟩:=u;clear C g h q f j a;go_wp2_with fail;go_ret2;exact⟨I,t,A.1,A.2,.inl ⟨_,_,J,rfl,U.1,U.2⟩⟩
 ·have A:Hid (DK s t/\t.ns.length<=s.ns.length+k.sum):=⟨g,h⟩
  have I:=h_ (aM (aI p) C);have B:Hid (t.pb=s.pb/\BM M H t tb mb ps):=⟨y,f⟩
  have K:Hid (o=none):=show _=_ from by rw [R.out,q];rfl
  clear C g h q f y;unfold aY;go_wp2_with fail;go_ret2;exact⟨I,t,A.1,A.2,.inr ⟨K,B.1,B.2,_,_,rfl⟩⟩
theorem yU(n:Nat)(V:GB n)(M:Nat->Prop)(w:World)(s:Sg)(tb mb:Nat)(ps:List (PV×PV))(sl:Value)(vs:List Value)(f:List Tr)(N:BM M w s tb mb ps)(O:CD M w sl vs)(P:C9 M n w vs f)(W:∀x∈f,cL n x)(D:f.length<=1000)(X:s.ns.length+(f.map (BB n)).sum<=BS)(o:FR)(Q:o=EF (if f.length==3 then(Pl.B1 (AD n) f).map fun l=>BN .iff [] .nil l [] else none) ps.length) :Calls prog 151 #[D2 tb,sl] w fun e R=>A5 M w s tb mb ps o (f.map (BB n)).sum e R:=by
 have HR:=h_ N;have i:=bB w (A0 tb);have Y:Hid (Calls prog 189 #[D2 tb,sl] (w.alloc (A0 tb)) fun e R=>JH M (w.alloc (A0 tb)) s tb mb ps ((Pl.B1 (AD n) f).map fun l=>Pl.AK l ps.length) f.length (f.map (BB n)).sum e R) :=rF n V M _ s tb mb ps sl vs f (N.below i) (Sl.AQ (Stp.AA i) O) (P.mono (fun _ _ h=>h.go (Stp.AA i))) W D X;have E:=P.1;obtain⟨ao,ac,rfl,_⟩:=Sl.C7 O;unfold D2 at Y ⊢;by_cases F:f.length=3
 ·have S:Hid (o=((Pl.B1 (AD n) f).map fun l=>Pl.AK l ps.length).map fun r=>(BN .iff [] .nil r.1 [],r.2)):=show o=_ from by
   rw [Q,if_pos (by simpa using F)]
   cases Pl.B1 (AD n) f with
   | none=>rfl
   | some l=>simp [EF,BN,Pl.BC]
  have X:((vs.length:Int)!=3)=false:=by simp;omega
  have HL:=h_ F;have G:=h_ i;clear O P W N F E i V Q;go_enter func151,ntmps151;go_wp2_with fail;refine Calls.mono Y ?_;rintro e T ⟨U,t,p,q,⟨r,v,us,H,rfl,j,A,I,d⟩ | ⟨H,J,j,v,es,rfl⟩⟩
  ·have K:Hid (DK s t/\t.ns.length<=s.ns.length+(f.map (BB n)).sum):=⟨p,q⟩
   have B:=h_ (aM (aI G) U);have k:=I.trans HL;obtain⟨a,b,c,rfl⟩:=pZ k;obtain⟨x,y,z,m⟩:=pZ (d.1.symm.trans k);rw [m] at d;have Z:=d.2 0 a x rfl rfl;have h2:=d.2 1 b y rfl rfl;have h3:=d.2 2 c z rfl rfl;have HX:Hid (BM M T t tb mb (ps++r.2)/\CP M T t (.iface 335 (.agg #[a,b,c])) (BN .iff [] .nil r.1 [])):=⟨j,by rw [m];exact .iff a b c x y z [] .nil .nothing [] Z h2 h3⟩
   have HO:Hid (o=some (BN .iff [] .nil r.1 [],r.2)):=show _=_ from by rw [S.out,H];rfl
   obtain⟨Ta,xa,rfl⟩:=Z.iface;obtain⟨Tb,xb,rfl⟩:=h2.iface;obtain⟨Tc,xc,rfl⟩:=h3.iface;have u:Sl M T D8 1 v 3 [.iface Ta xa,.iface Tb xb,.iface Tc xc]:=by rw [HL.out] at A;exact A
   obtain⟨g,ad,ab,rfl,C,ae,k0,ks⟩:=(Sl.C7 (vs:=[.iface Ta xa,.iface Tb xb,.iface Tc xc]) u).cell0;have k1:=ks 0 _ rfl;have k2:=ks 1 _ rfl;simp only [Nat.zero_add,c_,z_] at k1 k2 C ⊢;clear U p q H j I d Z h2 h3 ks A u m k;go_wp2_with fail
   go_quiet (fail)
   go_wp2_with fail
   go_ret2;exact⟨⟨B.os,B.tape,B.output,B.size,B.block⟩,t,K.1,K.2,.inl ⟨_,_,HO,rfl,HX.1.below (U2 _ _),HX.2.go (Stp.AA (U2 _ _)) (Sg.Le.refl _)⟩⟩
  ·have K:Hid (DK s t/\t.ns.length<=s.ns.length+(f.map (BB n)).sum):=⟨p,q⟩
   have B:=h_ (aM (aI G) U);have L:Hid (t.pb=s.pb/\BM M T t tb mb ps):=⟨J,j⟩
   have aa:Hid (o=none):=show _=_ from by rw [S.out,H];rfl
   clear U p q H j J;unfold aY;go_wp2_with fail;go_ret2;exact⟨B,t,K.1,K.2,.inr ⟨aa,L.1,L.2,_,_,rfl⟩⟩
 ·have S:Hid (o=none):=show o=none from by
   rw [Q,if_neg (by simpa using F)];rfl
  have X:((vs.length:Int)!=3)=true:=by simp;omega
  clear O P W N F E Y i V Q;go_enter func151,ntmps151;go_wp2_with (go_at_call 149;refine(aS _ _).mono ?_;rintro e R ⟨rfl,rfl⟩);go_ret2;exact⟨aI (bB w _),s,DK.refl _,Nat.le_add_right _ _,.inr ⟨S,rfl,HR.below (bB w _),_,_,rfl⟩⟩
end
open Pl (PW CW AE Env)
section
open Go.RowKit Go.Lib Go.Maps
variable {w w':World} {M:Nat->Prop} {v:Value} {T:TypeId}
def FZ:TypeId:=43
def G7:TypeId:=46
structure LH(w w':World):Prop where
 size:w.heap.size<=w'.heap.size
 block:∀(k:Nat)(o:Obj),w.heap[k]?=some o->(∀c T fz,(T=FZ\/T=G7)->o≠Obj.cells c T fz)->w'.heap[k]?=some o
 low:∀k,k<8->w'.heap[k]?=w.heap[k]?
theorem aAO{c:Array Value}{g:Nat×Nat}(h:T≠FZ/\T≠G7):∀f d a,(d=FZ\/d=G7)->Obj.cells c T g≠.cells f d a:=fun f d a b e=>by
 simp only [Obj.cells.injEq] at e;rcases b with b | b
 ·exact h.1 (e.2.1.trans b)
 ·exact h.2 (e.2.1.trans b)
theorem LH.cells(h:LH w w'){k:Nat}{c:Array Value}{a:Nat×Nat}(b:w.heap[k]?=some (.cells c T a))(d:T≠FZ/\T≠G7):w'.heap[k]?=some (.cells c T a):=h.block k _ b (aAO d)
theorem LH.map(h:LH w w'){k:Nat}{a:Array MapEntry}{c:Nat}(b:w.heap[k]?=some (.map a c)):w'.heap[k]?=some (.map a c):=h.block k _ b (fun _ _ _ _ e=>by cases e)
theorem Sl.FQ(d:LH w w')(f:T≠FZ/\T≠G7){sz:Nat}{n:Nat}{xs:List Value}(h:Sl M w T sz v n xs):Sl M w' T sz v n xs:=by obtain⟨i,j,a,e,k,l⟩:=h;refine⟨i,j,a,e,k,l.imp id ?_⟩;rintro⟨g,b,c,rfl,m,o,r⟩;exact⟨g,b,c,rfl,m,d.cells o f,r⟩
theorem nVal:B9≠FZ/\B9≠G7:=by unfold B9 FZ G7;decide
theorem TG:D8≠FZ/\D8≠G7:=by unfold D8 FZ G7;decide
theorem nNam:B6≠FZ/\B6≠G7:=by unfold B6 FZ G7;decide
theorem nPair:E0≠FZ/\E0≠G7:=by unfold E0 FZ G7;decide
theorem nSur:M8≠FZ/\M8≠G7:=by unfold M8 FZ G7;decide
theorem nPile:DQ≠FZ/\DQ≠G7:=by unfold DQ FZ G7;decide
theorem nSes:U9≠FZ/\U9≠G7:=by unfold U9 FZ G7;decide
theorem nPrS:EQ≠FZ/\EQ≠G7:=by unfold EQ FZ G7;decide
theorem nCoS:J0≠FZ/\J0≠G7:=by unfold J0 FZ G7;decide
theorem nTab:H7≠FZ/\H7≠G7:=by unfold H7 FZ G7;decide
theorem EI.FQ(a:LH w w'){s:Sg}{sl:Value}{ns:List AE}(h:EI M w s sl ns):EI M w' s sl ns:=by obtain⟨⟨b,c,d⟩,e,f⟩:=h;exact⟨⟨b,c,d.FQ a nNam⟩,e,f⟩
theorem CP.FQ(n:LH w w'){s:Sg}{f:PF}(h:CP M w s v f):CP M w' s v f:=by
 induction h with
 | const x q e d v j g h u=>exact .const x q e d v j g h u
 | name k e d v j g h=>exact .name k e d v j g h
 | iff a b c x y z e d v g _ _ _ A B C=>exact .iff a b c x y z e d v g A B C
 | begin l o e d v j g m p _ r t i=>exact .begin l o e d v j g (m.FQ n TG) p i r t
 | call l o e d v j g m p _ r t i=>exact .call l o e d v j g (m.FQ n TG) p i r t
 | set k a x e d v g h _ i=>exact .set k a x e d v g h i
 | define k a x e d v g h _ i=>exact .define k a x e d v g h i
 | lambda l a x e d v g m _ i=>exact .lambda l a x e d v g (m.FQ n) i
theorem CX.FQ(g:LH w w'){s:Sg}{e:Env}(h:CX M w s v e):CX M w' s v e:=by
 induction h with
 | nil=>exact .nil
 | cons b i j k d a l f m n o c p _ q=>exact .cons b i j k d a l f (g.cells m nSur) n (o.FQ g) c p q
theorem E3.FQ(a:LH w w'){s:Sg}{fs:List PF}(h:E3 M w s v fs):E3 M w' s v fs:=by obtain⟨b,c,d⟩:=h;exact⟨b,c.FQ a TG,d.mono (fun _ _ x=>x.FQ a)⟩
theorem FD.FQ(a:LH w w'){s:Sg}{fs:List PV}(h:FD M w s v fs):FD M w' s v fs:=by obtain⟨b,c,d⟩:=h;exact⟨b,c.FQ a nVal,d⟩
theorem FF.FQ(d:LH w w'){s:Sg}{fr:CW}(h:FF M w s v fr):FF M w' s v fr:=by
 cases h with
 | iff a b c f _ x y z e m n o p g=>exact .iff a b c f _ x y z e m n (o.FQ d) (p.FQ d) (g.FQ d)
 | set k f _ e i g=>exact .set k f _ e i (g.FQ d)
 | define k _ e i=>exact .define k _ e i
 | begin j f _ e l g=>exact .begin j f _ e (l.FQ d) (g.FQ d)
 | call q j f _ e r l g=>exact .call q j f _ e (r.FQ d) (l.FQ d) (g.FQ d)
theorem GW.FQ(a:LH w w'){s:Sg}:∀(d:List CW)(v:Value),GW M w s v d->GW M w' s v d
 | [],_,h=>h
 | f::r,v,h=>by obtain⟨b,c,e,g,i,j,k,l⟩:=h;exact⟨b,c,e,g,i,a.cells j nPile,k.FQ a,GW.FQ a r e l⟩
theorem GR.FQ(c:LH w w'){s:Sg}{b:Nat}{q:PF×Env}(h:GR M w s b q):GR M w' s b q:=by obtain⟨d,e,a,f,x,g,i,j,k,l⟩:=h;exact⟨d,e,a,f,x,c.cells g nPrS,i,j.FQ c,k.FQ c,l.FQ c⟩
theorem GX.FQ(a:LH w w'){s:Sg}{b:Nat}{q:List CW}(h:GX M w s b q):GX M w' s b q:=by obtain⟨c,d,e,f⟩:=h;exact⟨c,d,a.cells e nCoS,f.FQ a⟩
theorem Wd.FQ{s:Sg}{tb mb sb gb:Nat}{W:PW}(h:Wd M w s tb mb sb gb W)(a:LH w w'):Wd M w' s tb mb sb gb W:=by
 have d:∀k o,k<8->w'.cell? ⟨k,o,none⟩=w.cell? ⟨k,o,none⟩:=fun k o e=>World.cell?_of_block (w:=w) (a.low k e);obtain⟨E,F,f⟩:=h.CY.B3.F6;obtain⟨G,c,j⟩:=h.DI.F6;refine⟨⟨h.CY.B3.keep ((a.cells h.CY.B3.blk nTab).trans h.CY.B3.blk.symm) ((a.map f).trans f.symm),⟨h.CY.pairs.len,h.CY.pairs.nodup,fun i b p B n=>?_⟩,h.CY.FV,h.CY.JJ,fun k e=>l_ (h.CY.mlt k e) a.size⟩,a.cells h.NN nSes,h.msb,h.DI.keep ((a.map j).trans j.symm),h.TH,h.UE,h.procs.mono (fun b x q=>q.FQ a),h.AG.mono (fun b x q=>q.FQ a),⟨h.places.len,h.places.inj,fun i g o p C n=>?_⟩,⟨t_ h.gs.size a.size,h.gs.low,iH a.low h.gs.B3⟩,fun k D e r=>?_,(d _ _ kT).trans h.gt,?_,h.tq,h.tc⟩
 ·obtain⟨l,x,y,m,t,z⟩:=h.CY.pairs.at_ i b p B n;exact⟨l,x,y,a.cells m nPair,t,z⟩
 ·obtain⟨l,A,v,m,t,z⟩:=h.places.at_ i g o p C n;exact⟨l,A,v,a.cells m nVal,t,z⟩
 ·rw [d _ _ jN,d _ _ jN];exact h.JQ k D e r
 ·obtain⟨u,l,m⟩:=h.ge;exact⟨u,(d _ _ kU).trans l,m⟩
end
end Go.Proofs.YtkgbdddkcjpgfaaGreatDoor
