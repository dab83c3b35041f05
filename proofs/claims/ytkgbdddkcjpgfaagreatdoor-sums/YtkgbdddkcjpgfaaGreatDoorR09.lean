import Derived.Test.YtkgbdddkcjpgfaaGreatDoorR08
import Derived.Deep.RegionWith
import Derived.Deep.DeepCutAuto
import Derived.LaidEql
namespace Go.Proofs.YtkgbdddkcjpgfaaGreatDoor
set_option maxHeartbeats 2000000
set_option maxRecDepth 100000
open Go.Proofs.Tryz
open Pl (PV PF FR AD BB BN EF)
section
open Go.RowKit
variable {v:Value} {w:World}
theorem bB(w:World)(o:Obj):Below w.heap.size w (w.alloc o):=b_
theorem mF{ok:Nat->Prop}:∀(n m:Nat)(v:Value)(t:Tr),AN ok n w v t->cL n t->cL m t
 | 0,_,_,_,h,_=>h.elim
 | _+1,0,_,_,_,_=>trivial
 | n+1,m+1,v,t,h,a=>by
  match t,h,a with
  | .lit (.int _ _),_,a=>exact a
  | .lit (.bool _),_,_=>trivial
  | .lit (.string _),_,a=>exact a
  | .agg e,h,a =>obtain⟨k,b,_,_,f,g,_⟩:=h;intro x c;obtain⟨i,d⟩:=List.mem_iff_getElem?.1 c;have l:b.length=e.length:=f.1.trans (Nat.mul_one _);have j:=(s_ d).1;exact mF n m _ x (g i b[i] x (g_ (by omega)) d) (a x c)
theorem vL{α:Type}{l:List α}(h:l.length=1):∃a,l=[a]:=by
 match l,h with
 | [a],_=>exact⟨a,rfl⟩
theorem fO{α:Type}{l:List α}(h:l.length=2):∃a b,l=[a,b]:=by
 match l,h with
 | [a,b],_=>exact⟨a,b,rfl⟩
theorem pZ{α:Type}{l:List α}(h:l.length=3):∃a b c,l=[a,b,c]:=by
 match l,h with
 | [a,b,c],_=>exact⟨a,b,c,rfl⟩
abbrev C9(M:Nat->Prop)(n:Nat)(w:World)(vs:List Value)(ts:List Tr):Prop:=BY (AN (fun k=>¬M k) n w) vs ts
theorem C9.iface{M:Nat->Prop}{n:Nat}{vs:List Value}{a:List Tr}(h:C9 M n w vs a):∀v∈vs,∃T x,v=.iface T x:=by
 intro v d;obtain⟨i,c⟩:=List.mem_iff_getElem?.1 d;have b:i<a.length:=by have:=(s_ c).1;have:=h.1;omega
 obtain⟨T,x,rfl,_⟩:=(h.2 i v a[i] c (g_ b)).iface;exact⟨T,x,rfl⟩
theorem XJ(n:Nat)(K:n<=1000)(M:Nat->Prop)(w:World)(s:Sg)(tb mb:Nat)(ps:List (PV×PV))(sl:Value)(vs:List Value)(c:List Tr)(k:Tr)(z:BM M w s tb mb ps)(i:CD M w sl vs)(m:C9 M n w vs c)(A:∀x∈c,cL n x)(o:FR)(p:o=EF (if c.length==1 then some (BN .const [] (.agg (k::c)) [] []) else none) ps.length) :Calls prog 150 #[D2 tb,sl] w fun e F=>A5 M w s tb mb ps o 0 e F:=by
 have G:=h_ z;have b:=m.1;unfold D2;by_cases d:c.length=1
 ·obtain⟨x,rfl⟩:=vL d;obtain⟨u,rfl⟩:=vL (b.trans d);have q:=m.2 0 u x rfl rfl;have B:Hid (AN (fun k=>¬M k) 1000 w u x):=AN.up _ _ _ _ K q;have C:Hid (cL 1000 x):=mF n 1000 u x q (A x (by simp));obtain⟨T,y,rfl,_⟩:=q.iface;obtain⟨g,L,D,rfl,f,W,N,_⟩:=(Sl.C7 i).cell0;simp only [z_,Nat.zero_add] at f ⊢;have O:Hid (o=some (Pl.PF.mk .const [] (.agg [k,x]) (Pl.made 1000 ps.length x).1 [] [],(Pl.made 1000 ps.length x).2)):=show o=_ from by rw [p];simp [EF,BN,Pl.CI,Pl.quoted]
  clear i m A z q d b p;go_enter func150,ntmps150;go_wp2_with fail;have a:=G.below (bB w (A0 tb));refine(p_of 1000 M _ _ s ps _ x a.pairs a.mlt (B.later (bB w (A0 tb))) C).mono ?_;rintro e H ⟨v,t,rfl,E,I,h,r⟩;have P:=h_ E;have Q:Hid (BM M H t tb mb (ps++(Pl.made 1000 ps.length x).2)):=show BM _ _ _ _ _ _ from⟨by obtain⟨l,rfl⟩:=r;exact a.B3.keep (h.block _ a.B3.lt.1) (h.block _ a.B3.lt.2),I,a.FV,a.JJ,fun j R=>l_ (a.mlt j R) h.size⟩;have S:Hid (w.grownBy H (some mb)):=aI ((bB w _).trans (h.mono (bB w _).size));have J:Hid (DK s t/\t.ns.length<=s.ns.length+0):=⟨r.r,by obtain⟨l,rfl⟩:=r;exact n_⟩
  obtain⟨X,Y,rfl⟩:=E.iface;clear E I h r a N;go_wp2_with fail;go_ret2;exact⟨S,t,J.1,J.2,.inl ⟨_,_,O,rfl,Q,.const _ true [] (.agg [k,x]) _ [] [] P rfl⟩⟩
 ·have U:Hid (o=none):=show o=none from by
   rw [p,if_neg (by simpa using d)];rfl
  obtain⟨Z,D,rfl,_⟩:=Sl.C7 i;have V:((vs.length:Int)!=1)=true:=by simp;omega
  clear i m A z d b p;go_enter func150,ntmps150;go_wp2_with (go_at_call 149;refine(aS _ _).mono ?_;rintro e F ⟨rfl,rfl⟩);go_ret2;exact⟨aI (bB w _),s,DK.refl _,Nat.le_add_right _ _,.inr ⟨U,rfl,G.below (bB w _),_,_,rfl⟩⟩
theorem rF(n:Nat)(j:GB n)(M:Nat->Prop)(w:World)(s:Sg)(tb mb:Nat)(ps:List (PV×PV))(sl:Value)(vs:List Value)(a:List Tr)(k:BM M w s tb mb ps)(m:CD M w sl vs)(d:C9 M n w vs a)(o:∀x∈a,cL n x)(g:a.length<=1000)(c:s.ns.length+(a.map (BB n)).sum<=BS) :Calls prog 189 #[D2 tb,sl] w fun e p=>JH M w s tb mb ps ((Pl.B1 (AD n) a).map fun l=>Pl.AK l ps.length) a.length (a.map (BB n)).sum e p:=by
 have:=p_forms M w s tb mb ps sl vs (a.map fun t=>EF (AD n t)) (a.map (BB n)) k m (by rw [d.1];simp) (by simp) (by simp;omega) c d.iface (by
  intro i v F z q h c;rw [List.getElem?_map,Option.map_eq_some_iff] at h c;obtain⟨t,f,rfl⟩:=h;obtain⟨r,b,rfl⟩:=c;rw [f] at b;obtain rfl:=i_ b
  exact j M w v t (d.2 i v t q f) (o t (q_ f)))
 rw [Pl.KP,List.length_map] at this;exact this
theorem p6{M:Nat->Prop}{s:Sg}{us:List Value}{fs:List PF}{n:Nat}(h:Sl M w D8 1 v n us)(a:us.length=n)(b:BY (CP M w s) us fs):Sl M w D8 1 v fs.length us:=by rw [<- b.1,a];exact h
theorem XP(n:Nat)(H:GB n)(M:Nat->Prop)(w:World)(s:Sg)(tb mb:Nat)(ps:List (PV×PV))(sl:Value)(vs:List Value)(a:List Tr)(A:BM M w s tb mb ps)(B:CD M w sl vs)(C:C9 M n w vs a)(I:∀x∈a,cL n x)(j:a.length<=1000)(J:s.ns.length+(a.map (BB n)).sum<=BS)(o:FR)(D:o=EF (if !a.isEmpty then(Pl.B1 (AD n) a).map fun l=>BN .begin [] .nil l [] else none) ps.length) :Calls prog 152 #[D2 tb,sl] w fun e E=>A5 M w s tb mb ps o (a.map (BB n)).sum e E:=by
 have T:=h_ A;have c:=bB w (A0 tb);have K:Hid (Calls prog 189 #[D2 tb,sl] (w.alloc (A0 tb)) fun e E=>JH M (w.alloc (A0 tb)) s tb mb ps ((Pl.B1 (AD n) a).map fun l=>Pl.AK l ps.length) a.length (a.map (BB n)).sum e E) :=rF n H M _ s tb mb ps sl vs a (A.below c) (Sl.AQ (Stp.AA c) B) (C.mono (fun _ _ h=>h.go (Stp.AA c))) I j J;have k:=C.1;obtain⟨Y,U,rfl,_⟩:=Sl.C7 B;unfold D2 at K ⊢;by_cases L:a.length=0
 ·have F:Hid (o=none):=show o=none from by
   obtain rfl:=e_ L;exact D
  have J:((vs.length:Int)==0)=true:=beq_iff_eq.2 (by omega);clear B C I A L k K c H D;go_enter func152,ntmps152;go_wp2_with (go_at_call 149;refine(aS _ _).mono ?_;rintro e E ⟨rfl,rfl⟩);go_ret2;exact⟨aI (bB w _),s,DK.refl _,Nat.le_add_right _ _,.inr ⟨F,rfl,T.below (bB w _),_,_,rfl⟩⟩
 ·have F:Hid (o=((Pl.B1 (AD n) a).map fun l=>Pl.AK l ps.length).map fun r=>(BN .begin [] .nil r.1 [],r.2)):=show o=_ from by
   rw [D,show a.isEmpty=false from by cases a<;>simp_all]
   cases Pl.B1 (AD n) a with
   | none=>rfl
   | some l=>simp [EF,BN,Pl.BC]
  have Q:Hid (1<=a.length/\a.length<=1000):=⟨by omega,j⟩
  have J:((vs.length:Int)==0)=false:=beq_eq_false_iff_ne.2 (by omega);have m:=h_ c;clear B C I A L k c H D;go_enter func152,ntmps152;go_wp2_with fail;refine Calls.mono K ?_;rintro e N ⟨G,t,f,g,⟨r,v,V,p,rfl,d,q,i,b⟩ | ⟨p,u,d,v,Z,rfl⟩⟩
  ·have y:Hid (DK s t/\t.ns.length<=s.ns.length+(a.map (BB n)).sum):=⟨f,g⟩
   have O:=h_ (aM (aI m) G);have R:Hid (BM M N t tb mb (ps++r.2)/\CP M N t (.iface 347 (.agg #[v])) (BN .begin [] .nil r.1 [])):=⟨d,.begin v V [] .nil .nothing r.1 [] (p6 q i b) b.1 b.2 (by rw [<- b.1,i];exact Q.1) (by rw [<- b.1,i];have:=Q.2;omega)⟩
   have W:Hid (o=some (BN .begin [] .nil r.1 [],r.2)):=show _=_ from by rw [F.out,p];rfl
   obtain⟨_,X,S,rfl,_⟩:=q;clear G f g p d i b;go_wp2_with fail;go_ret2;exact⟨O,t,y.1,y.2,.inl ⟨_,_,W,rfl,R.1,R.2⟩⟩
  ·have y:Hid (DK s t/\t.ns.length<=s.ns.length+(a.map (BB n)).sum):=⟨f,g⟩
   have O:=h_ (aM (aI m) G);have z:Hid (t.pb=s.pb/\BM M N t tb mb ps):=⟨u,d⟩
   have P:Hid (o=none):=show _=_ from by rw [F.out,p];rfl
   clear G f g p d u;unfold aY;go_wp2_with fail;go_ret2;exact⟨O,t,y.1,y.2,.inr ⟨P,z.1,z.2,_,_,rfl⟩⟩
theorem U2(w:World)(n:Nat):Below w.heap.size w (w.drewN n):=⟨rfl,rfl,rfl,n_,fun _ _=>rfl⟩
theorem S7(M:Nat->Prop)(w:World)(s:Sg)(tb mb:Nat)(ps:List (PV×PV))(sl:Value)(vs:List Value)(b:List (Nat->FR))(k:List Nat)(D:BM M w s tb mb ps)(E:CD M w sl vs)(L:vs.length=b.length)(l:k.length=b.length)(c:b.length<=2000)(m:1<=b.length)(N:s.ns.length+k.sum<=BS)(n:∀v∈vs,∃T x,v=.iface T x)
  (O:∀(i:Nat)(v:Value)(F:Nat->FR)(z:Nat),vs[i]?=some v->b[i]?=some F->k[i]?=some z->JI M w v F z) (o:FR) (P:o=(Pl.GG b ps.length).map fun r=>(BN .call [] .nil r.1 [],r.2)) :
  Calls prog 156 #[D2 tb,sl] w fun e G=>A5 M w s tb mb ps o k.sum e G:=by
 have HR:=h_ D;have d:=bB w (A0 tb);have Q:Hid (Calls prog 189 #[D2 tb,sl] (w.alloc (A0 tb)) fun e G=>JH M (w.alloc (A0 tb)) s tb mb ps (Pl.GG b ps.length) b.length k.sum e G) :=p_forms M _ s tb mb ps sl vs b k (D.below d) (Sl.AQ (Stp.AA d) E) L l c N n (fun i v F z W X Y=>(O i v F z W X Y).go (Stp.AA d));obtain⟨ao,Z,rfl,_⟩:=Sl.C7 E;unfold D2 at Q ⊢;have R:=h_ P;have S:Hid (1<=b.length/\b.length<=2000):=⟨m,c⟩
 have p:=h_ d;clear E D d O P L l c N n;go_enter func156,ntmps156;go_wp2_with fail;refine Calls.mono Q ?_;rintro e H ⟨C,t,g,h,⟨r,v,us,q,rfl,f,u,j,a⟩ | ⟨q,y,f,v,es,rfl⟩⟩
 ·have A:Hid (DK s t/\t.ns.length<=s.ns.length+k.sum):=⟨g,h⟩
  have I:=h_ (aM (aI p) C);have U:Hid (BM M H t tb mb (ps++r.2)/\CP M H t (.iface 349 (.agg #[v])) (BN .call [] .nil r.1 [])):=⟨f,.call v us [] .nil .nothing r.1 [] (p6 u j a) a.1 a.2 (by rw [<- a.1,j];exact S.1) (by rw [<- a.1,j];exact S.2)⟩
  have J:Hid (o=some (BN .call [] .nil r.1 [],r.2)):=show _=_ from by rw [R.out,q];rfl
  obtain⟨_,aa,V,rfl,_⟩:=u;clear C g h q f j a;go_wp2_with fail;go_ret2;exact⟨I,t,A.1,A.2,.inl ⟨_,_,J,rfl,U.1,U.2⟩⟩
 ·have A:Hid (DK s t/\t.ns.length<=s.ns.length+k.sum):=⟨g,h⟩
  have I:=h_ (aM (aI p) C);have B:Hid (t.pb=s.pb/\BM M H t tb mb ps):=⟨y,f⟩
  have K:Hid (o=none):=show _=_ from by rw [R.out,q];rfl
  clear C g h q f y;unfold aY;go_wp2_with fail;go_ret2;exact⟨I,t,A.1,A.2,.inr ⟨K,B.1,B.2,_,_,rfl⟩⟩
theorem yU(n:Nat)(V:GB n)(M:Nat->Prop)(w:World)(s:Sg)(tb mb:Nat)(ps:List (PV×PV))(sl:Value)(vs:List Value)(f:List Tr)(N:BM M w s tb mb ps)(O:CD M w sl vs)(P:C9 M n w vs f)(W:∀x∈f,cL n x)(D:f.length<=1000)(X:s.ns.length+(f.map (BB n)).sum<=BS)(o:FR)(Q:o=EF (if f.length==3 then(Pl.B1 (AD n) f).map fun l=>BN .iff [] .nil l [] else none) ps.length) :Calls prog 151 #[D2 tb,sl] w fun e R=>A5 M w s tb mb ps o (f.map (BB n)).sum e R:=by
 have HR:=h_ N;have i:=bB w (A0 tb);have Y:Hid (Calls prog 189 #[D2 tb,sl] (w.alloc (A0 tb)) fun e R=>JH M (w.alloc (A0 tb)) s tb mb ps ((Pl.B1 (AD n) f).map fun l=>Pl.AK l ps.length) f.length (f.map (BB n)).sum e R) :=rF n V M _ s tb mb ps sl vs f (N.below i) (Sl.AQ (Stp.AA i) O) (P.mono (fun _ _ h=>h.go (Stp.AA i))) W D X;have E:=P.1;obtain⟨ao,ac,rfl,_⟩:=Sl.C7 O;unfold D2 at Y ⊢;by_cases F:f.length=3
 ·have S:Hid (o=((Pl.B1 (AD n) f).map fun l=>Pl.AK l ps.length).map fun r=>(BN .iff [] .nil r.1 [],r.2)):=show o=_ from by
   rw [Q,if_pos (by simpa using F)]
   cases Pl.B1 (AD n) f with
   | none=>rfl
   | some l=>simp [EF,BN,Pl.BC]
  have X:((vs.length:Int)!=3)=false:=by simp;omega
  have HL:=h_ F;have G:=h_ i;clear O P W N F E i V Q;go_enter func151,ntmps151;go_wp2_with fail;refine Calls.mono Y ?_;rintro e T ⟨U,t,p,q,⟨r,v,us,H,rfl,j,A,I,d⟩ | ⟨H,J,j,v,es,rfl⟩⟩
  ·have K:Hid (DK s t/\t.ns.length<=s.ns.length+(f.map (BB n)).sum):=⟨p,q⟩
   have B:=h_ (aM (aI G) U);have k:=I.trans HL;obtain⟨a,b,c,rfl⟩:=pZ k;obtain⟨x,y,z,m⟩:=pZ (d.1.symm.trans k);rw [m] at d;have Z:=d.2 0 a x rfl rfl;have h2:=d.2 1 b y rfl rfl;have h3:=d.2 2 c z rfl rfl;have HX:Hid (BM M T t tb mb (ps++r.2)/\CP M T t (.iface 335 (.agg #[a,b,c])) (BN .iff [] .nil r.1 [])):=⟨j,by rw [m];exact .iff a b c x y z [] .nil .nothing [] Z h2 h3⟩
   have HO:Hid (o=some (BN .iff [] .nil r.1 [],r.2)):=show _=_ from by rw [S.out,H];rfl
   obtain⟨Ta,xa,rfl⟩:=Z.iface;obtain⟨Tb,xb,rfl⟩:=h2.iface;obtain⟨Tc,xc,rfl⟩:=h3.iface;have u:Sl M T D8 1 v 3 [.iface Ta xa,.iface Tb xb,.iface Tc xc]:=by rw [HL.out] at A;exact A
   obtain⟨g,ad,ab,rfl,C,ae,k0,ks⟩:=(Sl.C7 (vs:=[.iface Ta xa,.iface Tb xb,.iface Tc xc]) u).cell0;have k1:=ks 0 _ rfl;have k2:=ks 1 _ rfl;simp only [Nat.zero_add,c_,z_] at k1 k2 C ⊢;clear U p q H j I d Z h2 h3 ks A u m k;go_wp2_with fail
   go_quiet (fail)
   go_wp2_with fail
   go_ret2;exact⟨⟨B.os,B.tape,B.output,B.size,B.block⟩,t,K.1,K.2,.inl ⟨_,_,HO,rfl,HX.1.below (U2 _ _),HX.2.go (Stp.AA (U2 _ _)) (Sg.Le.refl _)⟩⟩
  ·have K:Hid (DK s t/\t.ns.length<=s.ns.length+(f.map (BB n)).sum):=⟨p,q⟩
   have B:=h_ (aM (aI G) U);have L:Hid (t.pb=s.pb/\BM M T t tb mb ps):=⟨J,j⟩
   have aa:Hid (o=none):=show _=_ from by rw [S.out,H];rfl
   clear U p q H j J;unfold aY;go_wp2_with fail;go_ret2;exact⟨B,t,K.1,K.2,.inr ⟨aa,L.1,L.2,_,_,rfl⟩⟩
 ·have S:Hid (o=none):=show o=none from by
   rw [Q,if_neg (by simpa using F)];rfl
  have X:((vs.length:Int)!=3)=true:=by simp;omega
  clear O P W N F E Y i V Q;go_enter func151,ntmps151;go_wp2_with (go_at_call 149;refine(aS _ _).mono ?_;rintro e R ⟨rfl,rfl⟩);go_ret2;exact⟨aI (bB w _),s,DK.refl _,Nat.le_add_right _ _,.inr ⟨S,rfl,HR.below (bB w _),_,_,rfl⟩⟩
def IS(s:Sg):Prop:=(s.tq=330/\s.tc=522)\/(s.tq=465/\s.tc=477)
theorem IS.le{s t:Sg}(h:IS s)(l:Sg.Le s t):IS t:=by unfold IS at *;rw [l.tq,l.tc];exact h
theorem Tryz.w_(n:Int)(w:World):(Go.method 638 294 (.int .i64 n) "Spell").run prog w=.ok (354,.int .i64 n) w:=by kernel_rfl
theorem Tryz.SN(b:Bool)(w:World):(Go.method 638 296 (.bool b) "Spell").run prog w=.ok (358,.bool b) w:=by kernel_rfl
theorem Tryz.WI(s:ByteArray)(w:World):(Go.method 638 297 (.string s) "Spell").run prog w=.ok (360,.string s) w:=by kernel_rfl
theorem Tryz.SO(w:World):(Go.method 638 366 (.agg #[]) "Spell").run prog w=.ok (397,.agg #[]) w:=by kernel_rfl
theorem Tryz.O1(w:World):(Go.method 638 299 (.agg #[]) "Spell").run prog w=.ok (362,.agg #[]) w:=by kernel_rfl
theorem Tryz.WH(b:Nat)(w:World):(Go.method 638 367 (.pointer (some ⟨b,0,none⟩)) "Spell").run prog w=.ok (399,.pointer (some ⟨b,0,none⟩)) w:=by kernel_rfl
theorem Tryz.WG(n:Int)(w:World):(Go.method 638 246 (.int .i64 n) "Spell").run prog w=.ok (349,.int .i64 n) w:=by kernel_rfl
theorem Tryz.RB(w:World):(Go.method 638 243 (.agg #[]) "Spell").run prog w=.ok (346,.agg #[]) w:=by kernel_rfl
theorem dY(w:World)(a:Addr):(loadVar 331 a).run prog w=.ok (.agg #[]) w:=by kernel_rfl
theorem oM(w:World)(b:Nat)(cs:Array Value)(T:TypeId)(h:w.heap[b]?=some (.cells cs T (0,0)))(a:prog.cellsOf T≠0)(c:byteOfCell prog prog.depth T 0=some 0):(partAt ⟨b,0,none⟩ 0 0).run prog w=.ok ⟨b,0,none⟩ w:=by simp [partAt,byteOf,noView,viewAt,World.shape?,h,a,c]
theorem dX(n:Nat)(T E:TypeId)(w:World)(b:Nat)(cs:Array Value)(h:w.heap[b]?=some (.cells cs E (0,0)))
  (r:((prog.info? T).bind fun i=>i.methods.find? fun m=>m.name == "Spell").map (fun m=>(m.path.toList,m.func))=some ([⟨E,0,true⟩],some (348,false)))
  (e:(match prog.underlying E with | some (.struct q)=>q[0]?.map fun f=>(f.type,f.offset,f.byteOffset) | _=>none)=some (331,0,0))
  (s:prog.cellsOf E≠0) (t:byteOfCell prog prog.depth E 0=some 0) (u:(loadVar 331 ⟨b,0,none⟩).run prog w=.ok (.agg #[]) w) :
  (Go.method (n+1) T (.pointer (some ⟨b,0,none⟩)) "Spell").run prog w=.ok (348,.agg #[]) w:=by
 obtain⟨m,j,c⟩:=m_ r;obtain⟨i,v,k⟩:=Option.bind_eq_some_iff.1 j;simp only [Prod.mk.injEq] at c
 cases g:prog.underlying E with
 | none=>simp [g] at e
 | some d =>
  cases d with
  | struct q =>
   simp only [g] at e;obtain⟨f,l,a⟩:=m_ e;simp only [Prod.mk.injEq] at a;have o:(sizeOf 331).run prog w=.ok 0 w:=by kernel_rfl
   have p:=oM w b cs E h s t;simp [Go.method,typeInfo,v,k,c.1,c.2,follow,run_underlying g,l,a.1,a.2.1,a.2.2,Place.get,asAddr,fieldPlace,o,p,receiverAt,run_underlying underlying331,u]
  | _=>simp [g] at e
theorem Tryz.met_sq:((prog.info? 330).bind fun i=>i.methods.find? fun m=>m.name == "Spell").map (fun m=>(m.path.toList,m.func))=some ([⟨333,0,true⟩],some (348,false)):=by kernel_rfl
theorem Tryz.fld_sq:(match prog.underlying 333 with | some (.struct a)=>a[0]?.map fun f=>(f.type,f.offset,f.byteOffset) | _=>none)=some (331,0,0):=by kernel_rfl
theorem Tryz.UU:prog.cellsOf 333≠0:=of_decide_eq_true (by kernel_rfl)
theorem Tryz.ZB:byteOfCell prog prog.depth 333 0=some 0:=by kernel_rfl
theorem Tryz.met_sc:((prog.info? 522).bind fun i=>i.methods.find? fun m=>m.name == "Spell").map (fun m=>(m.path.toList,m.func))=some ([⟨526,0,true⟩],some (348,false)):=by kernel_rfl
theorem Tryz.fld_sc:(match prog.underlying 526 with | some (.struct a)=>a[0]?.map fun f=>(f.type,f.offset,f.byteOffset) | _=>none)=some (331,0,0):=by kernel_rfl
theorem Tryz.UW:prog.cellsOf 526≠0:=of_decide_eq_true (by kernel_rfl)
theorem Tryz.ZC:byteOfCell prog prog.depth 526 0=some 0:=by kernel_rfl
theorem Tryz.met_fq:((prog.info? 465).bind fun i=>i.methods.find? fun m=>m.name == "Spell").map (fun m=>(m.path.toList,m.func))=some ([⟨467,0,true⟩],some (348,false)):=by kernel_rfl
theorem Tryz.fld_fq:(match prog.underlying 467 with | some (.struct a)=>a[0]?.map fun f=>(f.type,f.offset,f.byteOffset) | _=>none)=some (331,0,0):=by kernel_rfl
theorem Tryz.UX:prog.cellsOf 467≠0:=of_decide_eq_true (by kernel_rfl)
theorem Tryz.ZD:byteOfCell prog prog.depth 467 0=some 0:=by kernel_rfl
theorem Tryz.met_fc:((prog.info? 477).bind fun i=>i.methods.find? fun m=>m.name == "Spell").map (fun m=>(m.path.toList,m.func))=some ([⟨479,0,true⟩],some (348,false)):=by kernel_rfl
theorem Tryz.fld_fc:(match prog.underlying 479 with | some (.struct a)=>a[0]?.map fun f=>(f.type,f.offset,f.byteOffset) | _=>none)=some (331,0,0):=by kernel_rfl
theorem Tryz.UY:prog.cellsOf 479≠0:=of_decide_eq_true (by kernel_rfl)
theorem Tryz.ZE:byteOfCell prog prog.depth 479 0=some 0:=by kernel_rfl
def ZX(T:TypeId):TypeId:=if T=330 then 333 else if T=522 then 526 else if T=465 then 467 else 479
theorem Tryz.sp_sq(w:World)(b:Nat)(cs:Array Value)(h:w.heap[b]?=some (.cells cs (ZX 330) (0,0))):(Go.method 638 330 (.pointer (some ⟨b,0,none⟩)) "Spell").run prog w=.ok (348,.agg #[]) w :=dX _ 330 333 w b cs h Tryz.met_sq Tryz.fld_sq Tryz.UU Tryz.ZB (dY w _)
theorem Tryz.sp_sc(w:World)(b:Nat)(cs:Array Value)(h:w.heap[b]?=some (.cells cs (ZX 522) (0,0))):(Go.method 638 522 (.pointer (some ⟨b,0,none⟩)) "Spell").run prog w=.ok (348,.agg #[]) w :=dX _ 522 526 w b cs h Tryz.met_sc Tryz.fld_sc Tryz.UW Tryz.ZC (dY w _)
theorem Tryz.sp_fq(w:World)(b:Nat)(cs:Array Value)(h:w.heap[b]?=some (.cells cs (ZX 465) (0,0))):(Go.method 638 465 (.pointer (some ⟨b,0,none⟩)) "Spell").run prog w=.ok (348,.agg #[]) w :=dX _ 465 467 w b cs h Tryz.met_fq Tryz.fld_fq Tryz.UX Tryz.ZD (dY w _)
theorem Tryz.sp_fc(w:World)(b:Nat)(cs:Array Value)(h:w.heap[b]?=some (.cells cs (ZX 477) (0,0))):(Go.method 638 477 (.pointer (some ⟨b,0,none⟩)) "Spell").run prog w=.ok (348,.agg #[]) w :=dX _ 477 479 w b cs h Tryz.met_fc Tryz.fld_fc Tryz.UY Tryz.ZE (dY w _)
theorem IS.spq{s:Sg}(h:IS s)(b:Nat)(w:World)(cs:Array Value)(a:w.heap[b]?=some (.cells cs (ZX s.tq) (0,0))):(Go.method 638 s.tq (.pointer (some ⟨b,0,none⟩)) "Spell").run prog w=.ok (348,.agg #[]) w:=by
 rcases h with⟨h,_⟩ | ⟨h,_⟩<;>rw [h] at a ⊢
 ·exact Tryz.sp_sq w b cs a
 ·exact Tryz.sp_fq w b cs a
theorem IS.spc{s:Sg}(h:IS s)(b:Nat)(w:World)(cs:Array Value)(a:w.heap[b]?=some (.cells cs (ZX s.tc) (0,0))):(Go.method 638 s.tc (.pointer (some ⟨b,0,none⟩)) "Spell").run prog w=.ok (348,.agg #[]) w:=by
 rcases h with⟨_,h⟩ | ⟨_,h⟩<;>rw [h] at a ⊢
 ·exact Tryz.sp_sc w b cs a
 ·exact Tryz.sp_fc w b cs a
theorem fC{T:TypeId}(v:Value)(w:World)(h:T=367\/T=294):(Instr.typeAssert (.iface T v) 161 T true).run prog w=.ok (.tuple #[v,.bool true]) w:=by rcases h with rfl | rfl<;>kernel_rfl
theorem Tryz.jw(v:Value)(w:World):(Instr.typeAssert (.iface 296 v) 161 367 true).run prog w=.ok (.tuple #[.pointer none,.bool false]) w:=by kernel_rfl
theorem Tryz.PD(v:Value)(w:World):(Instr.typeAssert (.iface 296 v) 161 294 true).run prog w=.ok (.tuple #[.int .i64 0,.bool false]) w:=by kernel_rfl
theorem Tryz.NZ(v:Value)(w:World):(Instr.typeAssert (.iface 297 v) 161 367 true).run prog w=.ok (.tuple #[.pointer none,.bool false]) w:=by kernel_rfl
theorem Tryz.PC(v:Value)(w:World):(Instr.typeAssert (.iface 297 v) 161 294 true).run prog w=.ok (.tuple #[.int .i64 0,.bool false]) w:=by kernel_rfl
theorem Tryz.NW(v:Value)(w:World):(Instr.typeAssert (.iface 366 v) 161 367 true).run prog w=.ok (.tuple #[.pointer none,.bool false]) w:=by kernel_rfl
theorem Tryz.O8(v:Value)(w:World):(Instr.typeAssert (.iface 366 v) 161 294 true).run prog w=.ok (.tuple #[.int .i64 0,.bool false]) w:=by kernel_rfl
theorem Tryz.NY(v:Value)(w:World):(Instr.typeAssert (.iface 299 v) 161 367 true).run prog w=.ok (.tuple #[.pointer none,.bool false]) w:=by kernel_rfl
theorem Tryz.PB(v:Value)(w:World):(Instr.typeAssert (.iface 299 v) 161 294 true).run prog w=.ok (.tuple #[.int .i64 0,.bool false]) w:=by kernel_rfl
theorem Tryz.N1(v:Value)(w:World):(Instr.typeAssert (.iface 246 v) 161 367 true).run prog w=.ok (.tuple #[.pointer none,.bool false]) w:=by kernel_rfl
theorem Tryz.PE(v:Value)(w:World):(Instr.typeAssert (.iface 246 v) 161 294 true).run prog w=.ok (.tuple #[.int .i64 0,.bool false]) w:=by kernel_rfl
theorem Tryz.H0(v:Value)(w:World):(Instr.typeAssert (.iface 243 v) 161 367 true).run prog w=.ok (.tuple #[.pointer none,.bool false]) w:=by kernel_rfl
theorem Tryz.PG(v:Value)(w:World):(Instr.typeAssert (.iface 243 v) 161 294 true).run prog w=.ok (.tuple #[.int .i64 0,.bool false]) w:=by kernel_rfl
theorem Tryz.NX(v:Value)(w:World):(Instr.typeAssert (.iface 330 v) 161 367 true).run prog w=.ok (.tuple #[.pointer none,.bool false]) w:=by kernel_rfl
theorem Tryz.O9(v:Value)(w:World):(Instr.typeAssert (.iface 330 v) 161 294 true).run prog w=.ok (.tuple #[.int .i64 0,.bool false]) w:=by kernel_rfl
theorem Tryz.NT(v:Value)(w:World):(Instr.typeAssert (.iface 522 v) 161 367 true).run prog w=.ok (.tuple #[.pointer none,.bool false]) w:=by kernel_rfl
theorem Tryz.O5(v:Value)(w:World):(Instr.typeAssert (.iface 522 v) 161 294 true).run prog w=.ok (.tuple #[.int .i64 0,.bool false]) w:=by kernel_rfl
theorem Tryz.NV(v:Value)(w:World):(Instr.typeAssert (.iface 465 v) 161 367 true).run prog w=.ok (.tuple #[.pointer none,.bool false]) w:=by kernel_rfl
theorem Tryz.O7(v:Value)(w:World):(Instr.typeAssert (.iface 465 v) 161 294 true).run prog w=.ok (.tuple #[.int .i64 0,.bool false]) w:=by kernel_rfl
theorem Tryz.NU(v:Value)(w:World):(Instr.typeAssert (.iface 477 v) 161 367 true).run prog w=.ok (.tuple #[.pointer none,.bool false]) w:=by kernel_rfl
theorem Tryz.O6(v:Value)(w:World):(Instr.typeAssert (.iface 477 v) 161 294 true).run prog w=.ok (.tuple #[.int .i64 0,.bool false]) w:=by kernel_rfl
theorem Tryz.RG(v:Value)(w:World):(Instr.typeAssert (.iface 294 v) 161 367 true).run prog w=.ok (.tuple #[.pointer none,.bool false]) w:=by kernel_rfl
theorem Tryz.TA(v:Value)(w:World):(Instr.typeAssert (.iface 367 v) 161 294 true).run prog w=.ok (.tuple #[.int .i64 0,.bool false]) w:=by kernel_rfl
theorem RV.MZ{s:Sg}{p:PV}(h:RV s v p)(a:IS s):(∃k b,p=.pair k/\s.pb[k]?=some b/\v=.iface 367 (.pointer (some ⟨b,0,none⟩))) \/
  ((∀k,p≠.pair k)/\∃T x,v=.iface T x/\∀w,(Instr.typeAssert (.iface T x) 161 367 true).run prog w=.ok (.tuple #[.pointer none,.bool false]) w):=by
 cases h with
 | pair i b h=>exact .inl ⟨i,b,rfl,h,rfl⟩
 | num n=>exact .inr ⟨fun k e=>(by cases e),_,_,rfl,Tryz.RG _⟩
 | AT b=>exact .inr ⟨fun k e=>(by cases e),_,_,rfl,Tryz.jw _⟩
 | name t=>exact .inr ⟨fun k e=>(by cases e),_,_,rfl,Tryz.NZ _⟩
 | empty=>exact .inr ⟨fun k e=>(by cases e),_,_,rfl,Tryz.NW _⟩
 | nothing=>exact .inr ⟨fun k e=>(by cases e),_,_,rfl,Tryz.NY _⟩
 | proc i b h c =>
  refine .inr ⟨fun k e=>(by cases e),_,_,rfl,fun w=>?_⟩;rcases a with⟨e,_⟩ | ⟨e,_⟩<;>rw [e]
  ·exact Tryz.NX _ w
  ·exact Tryz.NV _ w
 | cont i b h =>
  refine .inr ⟨fun k e=>(by cases e),_,_,rfl,fun w=>?_⟩;rcases a with⟨_,e⟩ | ⟨_,e⟩<;>rw [e]
  ·exact Tryz.NT _ w
  ·exact Tryz.NU _ w
 | AZ k t h d=>exact .inr ⟨fun k e=>(by cases e),_,_,rfl,Tryz.N1 _⟩
 | EC=>exact .inr ⟨fun k e=>(by cases e),_,_,rfl,Tryz.H0 _⟩
theorem RV.U5{s:Sg}{p:PV}(h:RV s v p)(a:IS s):(∃n,p=.num n/\v=.iface 294 (.int .i64 n)) \/
  ((∀k,p≠.num k)/\∃T x,v=.iface T x/\∀w,(Instr.typeAssert (.iface T x) 161 294 true).run prog w=.ok (.tuple #[.int .i64 0,.bool false]) w):=by
 cases h with
 | num n=>exact .inl ⟨n,rfl,rfl⟩
 | pair i b h=>exact .inr ⟨fun k e=>(by cases e),_,_,rfl,Tryz.TA _⟩
 | AT b=>exact .inr ⟨fun k e=>(by cases e),_,_,rfl,Tryz.PD _⟩
 | name t=>exact .inr ⟨fun k e=>(by cases e),_,_,rfl,Tryz.PC _⟩
 | empty=>exact .inr ⟨fun k e=>(by cases e),_,_,rfl,Tryz.O8 _⟩
 | nothing=>exact .inr ⟨fun k e=>(by cases e),_,_,rfl,Tryz.PB _⟩
 | proc i b h c =>
  refine .inr ⟨fun k e=>(by cases e),_,_,rfl,fun w=>?_⟩;rcases a with⟨e,_⟩ | ⟨e,_⟩<;>rw [e]
  ·exact Tryz.O9 _ w
  ·exact Tryz.O7 _ w
 | cont i b h =>
  refine .inr ⟨fun k e=>(by cases e),_,_,rfl,fun w=>?_⟩;rcases a with⟨_,e⟩ | ⟨_,e⟩<;>rw [e]
  ·exact Tryz.O5 _ w
  ·exact Tryz.O6 _ w
 | AZ k t h d=>exact .inr ⟨fun k e=>(by cases e),_,_,rfl,Tryz.PE _⟩
 | EC=>exact .inr ⟨fun k e=>(by cases e),_,_,rfl,Tryz.PG _⟩
theorem bD(w:World){T U:TypeId}(h:T≠U)(x y:Value):(binOp .eql 161 (.iface T x) (.iface U y)).run prog w=.ok (.bool false) w:=by
 simp only [binOp];have b:∀d,(Op.equalIn (d+1) 161 (.iface T x) (.iface U y)).run prog w=.ok false w:=fun d=>by simp [Op.equalIn,run_underlying underlying161,h]
 have a:(Op.equal 161 (.iface T x) (.iface U y)).run prog w=.ok false w:=b 9999;simp [a]
theorem neq_of{T U:TypeId}{x y:Value}{b:Bool}(h:(binOp .eql 161 (.iface T x) (.iface U y)).run prog w=.ok (.bool b) w):(binOp .neq 161 (.iface T x) (.iface U y)).run prog w=.ok (.bool (!b)) w:=by
 simp only [binOp] at h ⊢
 cases a:(Op.equal 161 (.iface T x) (.iface U y)).run prog w with
 | ok c d =>simp only [Sem.run_bind,a,Result.andThen_ok,Sem.run_pure,Result.ok.injEq,Value.bool.injEq] at h;obtain⟨rfl,rfl⟩:=h;simp only [Sem.run_bind,a,Result.andThen_ok,Sem.run_pure]
 | _=>simp [a] at h
theorem Tryz.OD(a b:Bool)(w:World):(binOp .eql 161 (.iface 296 (.bool a)) (.iface 296 (.bool b))).run prog w=.ok (.bool (a==b)) w:=by kernel_rfl
theorem Tryz.eq_num(a b:Int)(w:World):(binOp .eql 161 (.iface 294 (.int .i64 a)) (.iface 294 (.int .i64 b))).run prog w=.ok (.bool (a==b)) w:=by kernel_rfl
theorem Tryz.YX(a b:Int)(w:World):(binOp .eql 161 (.iface 246 (.int .i64 a)) (.iface 246 (.int .i64 b))).run prog w=.ok (.bool (a==b)) w:=by kernel_rfl
theorem Tryz.YY(a b:ByteArray)(w:World):(binOp .eql 161 (.iface 297 (.string a)) (.iface 297 (.string b))).run prog w=.ok (.bool (a==b)) w:=by kernel_rfl
theorem Tryz.eq_empty(w:World):(binOp .eql 161 (.iface 366 (.agg #[])) (.iface 366 (.agg #[]))).run prog w=.ok (.bool true) w:=by kernel_rfl
theorem Tryz.PZ(w:World):(binOp .eql 161 (.iface 299 (.agg #[])) (.iface 299 (.agg #[]))).run prog w=.ok (.bool true) w:=by kernel_rfl
theorem Tryz.RN(w:World):(binOp .eql 161 (.iface 243 (.agg #[])) (.iface 243 (.agg #[]))).run prog w=.ok (.bool true) w:=by kernel_rfl
theorem RV.QP{s:Sg}{p:PV}(h:RV s v p)(a:IS s)(w:World):(binOp .eql 161 v (.iface 366 (.agg #[]))).run prog w=.ok (.bool (decide (p=.empty))) w:=by
 cases h with
 | empty=>exact Tryz.eq_empty w
 | proc i b h c=>rw [bD w (by rcases a with⟨e,_⟩ | ⟨e,_⟩<;>rw [e]<;>decide)];simp
 | cont i b h=>rw [bD w (by rcases a with⟨_,e⟩ | ⟨_,e⟩<;>rw [e]<;>decide)];simp
 | _=>rw [bD w (by decide)];simp
theorem RV.eqFalse{s:Sg}{p:PV}(h:RV s v p)(a:IS s)(w:World):(binOp .eql 161 v (.iface 296 (.bool false))).run prog w=.ok (.bool (decide (p=.AT false))) w:=by
 cases h with
 | AT b=>rw [Tryz.OD];cases b<;>rfl
 | proc i b h c=>rw [bD w (by rcases a with⟨e,_⟩ | ⟨e,_⟩<;>rw [e]<;>decide)];simp
 | cont i b h=>rw [bD w (by rcases a with⟨_,e⟩ | ⟨_,e⟩<;>rw [e]<;>decide)];simp
 | _=>rw [bD w (by decide)];simp
end
end Go.Proofs.YtkgbdddkcjpgfaaGreatDoor
