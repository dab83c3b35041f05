import Derived.Test.YtbgghmjmcapmlaaGreatDoorF16
import Derived.Test.YtbgghmjmcapmlaaGreatDoorF17
import Derived.Test.YtbgghmjmcapmlaaGreatDoorF18
namespace Go.Proofs.YtbgghmjmcapmlaaGreatDoor
set_option maxHeartbeats 8000000
set_option maxRecDepth 100000
open Go.Proofs.Tryz
open Pl (PV PW PS PF CW SR AE Env AO AH AU)
theorem zI1{P:Prop}(h:P:=by go_enter func57,ntmps57;go_wp2_with fail;go_ret;rw [U.out];exact⟨rfl,M,HW.later (c _),(Stp.AA (c _)).mx b,fun h=>by simp at h⟩):P:=h
section
open Go.RowKit
variable {w:World}
theorem xV(d:AY)(w:World)(wb b:Nat)(M:Q5)(W:PW)(S:PS)(s:AE)(c:Value)(l:List PV)(o:s∈AO)(n:s≠AU)(f:RW w wb M W)(g:RS M w b S)(i:Gs w (Mx M b))(j:CO M w c l)(k:∀v∈l,BL W v)(m:L2 W)(a:l.length<=1000) :Q2 69 #[Q0 wb,Q0 b,.string ⟨s.toArray⟩,c] w fun e p=>F9 M w wb b (AH W S (.AZ s) l) e p:=by
 simp only [AO,List.mem_cons,List.not_mem_nil,or_false] at o;rcases o with h | h | h | h | h | h | h | h | h | h | h | h | h
 ·exact cN d w wb b M W S s c l (.inl h) f g i j k m a
 ·exact cN d w wb b M W S s c l (.inr (.inl h)) f g i j k m a
 ·exact cN d w wb b M W S s c l (.inr (.inr (.inl h))) f g i j k m a
 ·exact cN d w wb b M W S s c l (.inr (.inr (.inr (.inl h)))) f g i j k m a
 ·exact cN d w wb b M W S s c l (.inr (.inr (.inr (.inr (.inl h))))) f g i j k m a
 ·exact rV d w wb b M W S s c l h f g i j k m a
 ·exact gQ d w wb b M W S s c l (.inl h) f g i j k m a
 ·exact gQ d w wb b M W S s c l (.inr (.inl h)) f g i j k m a
 ·exact cN d w wb b M W S s c l (.inr (.inr (.inr (.inr (.inr (.inl h)))))) f g i j k m a
 ·exact cN d w wb b M W S s c l (.inr (.inr (.inr (.inr (.inr (.inr h)))))) f g i j k m a
 ·exact rU d w wb b M W S s c l h f g i j k m a
 ·exact gQ d w wb b M W S s c l (.inr (.inr h)) f g i j k m a
 ·exact absurd h n
theorem Sl.typ{M:Q5}{T:TypeId}{sz:Nat}{g off n cap m:Nat}{xs:List Value}(h:Sl M w T sz (.slice (some ⟨g,off,none⟩) n cap) m xs)(j:0<m):∃a,w.heap[g]?=some (.cells a T (0,0)):=by
 obtain⟨_,k,b,e,_,c⟩:=h;simp only [Value.slice.injEq] at e;obtain⟨rfl,rfl,rfl⟩:=e;rcases c with c | ⟨l,d,a,f,_,i,_⟩
 ·omega
 ·simp only [o_,Addr.mk.injEq,and_true] at f;obtain⟨rfl,rfl⟩:=f;exact⟨a,i⟩
theorem DT.ptr{M:Q5}{v:Value}{fs:List CW}(h:DT M w v fs):∃a,v=.pointer a:=by
 cases fs with
 | nil=>exact⟨none,h⟩
 | cons f r=>obtain⟨b,_,_,_,_,e,_⟩:=h;exact⟨_,e⟩
theorem cn_at{wb:Nat}{W:PW}{pv qv cv lv gv:Value}{qs cs:List Value}(h:EV w wb W pv qv cv lv gv qs cs){i:Nat}{fs:List CW}(hp:W.AG[i]?=some fs):∃g a u,cv=.slice (some ⟨g,0,none⟩) W.AG.length a/\W.AG.length<=a/\g<w.heap.size/\w.cell? ⟨g,i,none⟩=some u/\DT (CQ wb [pv,qv,cv,lv,gv]) w u fs:=by
 have l:=(s_ hp).1;obtain⟨u,c,d⟩:=h.cns i fs hp;rcases h.cn.2 with⟨_,m⟩ | ⟨g,a,f,e,_,j,k,_⟩
 ·omega
 ·have b:=h.cn.cells (g:=g) zQ7;refine⟨g,a,u,e,k,aB j,?_,d⟩;have:=b _ _ c;rwa [Addr.add_lit,Nat.zero_add] at this
theorem otherB(W:PW)(S:PS)(f:PV)(l:List PV)(a:∀i,f≠.proc i)(b:∀i,f≠.cont i)(c:∀s,f≠.AZ s):AH W S f l=⟨9,W,S⟩/\(vK f==kProc)=false/\(vK f==pJ)=false/\(vK f==pH)=false:=by
 cases f with
 | proc i=>exact absurd rfl (a i)
 | cont i=>exact absurd rfl (b i)
 | AZ s=>exact absurd rfl (c s)
 | _=>exact⟨rfl,rfl,rfl,rfl⟩
theorem contB(W:PW)(S:PS)(i:Nat)(fs:List CW)(a:PV)(h:W.AG[i]?=some fs):AH W S (.cont i) [a]=⟨0,W,{S with AB:=fs}.A1 a⟩:=by show(⟨0,W,{S with AB:=W.AG[i]?.getD []}.A1 a⟩:SR)=_;rw [h];rfl
theorem contN(W:PW)(S:PS)(i:Nat)(l:List PV)(h:¬l.length=1):AH W S (.cont i) l=⟨10,W,S⟩:=by
 match l,h with
 | [],_=>rfl
 | _::_::_,_=>rfl
theorem rZ(hI:AY)(w:World)(wb b:Nat)(M:Q5)(W:PW)(S:PS)(f:PV)(J:Value)(l:List PV)(m:f≠.AZ AU)(x:RW w wb M W)(E:RS M w b S)(K:Gs w (Mx M b))(n:CO M w J l)(B:BL W f)(L:∀v∈l,BL W v)(N:L2 W)(O:l.length<=1000)(P:W.places.length<=100000000)(C:∀p∈W.procs,p.2.length<=100000000) :Q2 57 #[Q0 wb,Q0 b,bT f,J] w fun e w'=>F9 M w wb b (AH W S f l) e w':=by
 by_cases I:∃i,f=.proc i
 ·obtain⟨i,rfl⟩:=I;exact xU w wb b M W S i J l x E n B O P C
 have c:Hid (∀o:Obj,Q3 w (w.alloc o)):=fun o=>b_;by_cases Q:∃s,f=.AZ s
 ·obtain⟨s,rfl⟩:=Q;have HC:Hid (∀o:Obj,Q2 69 #[Q0 wb,Q0 b,.string ⟨s.toArray⟩,J] (w.alloc o) fun e w'=>F9 M (w.alloc o) wb b (AH W S (.AZ s) l) e w'):=fun o =>xV hI (w.alloc o) wb b M W S s J l B (fun e=>m (by rw [e])) (x.later (c o)) (E.later x (c o)) (K.below (c o)) (n.AQ (Stp.AA (c o))) L N O;obtain⟨aa,D,rfl,R⟩:=n.shape;clear m x E K n B L N C I;generalize AH W S (.AZ s) l=r at *;unfold bT AM vK vN vS pH;go_enter func57,ntmps57;go_wp2_with fail;refine(HC _).mono ?_;rintro e w1 hr;have HR:Hid _:=F9.pre (c _) hr;obtain⟨rfl,_⟩:=hr;go_wp2_with fail;go_ret;exact⟨rfl,HR.2⟩
 by_cases hc:∃i,f=.cont i
 ·obtain⟨i,rfl⟩:=hc;have HW:=h_ x;have HS:=h_ E;by_cases y:l.length=1
  ·obtain⟨a,rfl⟩:=jK y;obtain⟨T,F⟩:∃T,W.AG[i]?=some T:=⟨_,g_ B⟩
   have U:Hid _:=contB W S i T a F;obtain⟨pv,qv,cv,lv,gv,qs,cs,hM,z⟩:=x;obtain⟨gc,V,u,rfl,ai,ak,du,A⟩:=cn_at z F;rw [<- hM] at A;obtain⟨t,rfl⟩:=A.ptr;have ab:=h_ A;obtain⟨g,q,al,rfl,aj,hg,_,k0,k1,k2⟩:=ZM n;obtain⟨fv,ev,c0,c1,c2,ac,d,s1,s2,s3⟩:=E;have ad:=aB d;have am:=aB z.blk;have q2:w.cell? ⟨wb,2,none⟩=some (.slice (some ⟨gc,0,none⟩) W.AG.length V):=aA z.blk 2;have an:(i:Int)<(W.AG.length:Int):=by have:i<W.AG.length:=B;omega
   have qA:∀(o:Obj)(k q:Nat),k<w.heap.size->(w.alloc o).cell? ⟨k,q,none⟩=w.cell? ⟨k,q,none⟩:=fun o k q hk=>(r_.alloc n_ o).cell (p:=⟨k,q,none⟩) hk;have x5:w.cell? ⟨b,5,none⟩=some ac:=aA d 5;have fA:∀(o:Obj),(w.alloc o).frozen? ⟨b,5,none⟩=false:=fun o=>aF ((Below.heap_alloc w o b ad).trans d) 5;have ae:Hid ((w.setCell ⟨b,5,none⟩ (.pointer t)).heap[b]?=some (.cells #[fv,ev,c0,c1,c2,.pointer t] JL (0,0))):=aD d 5 _;have G:Hid (w.grownBy (w.setCell ⟨b,5,none⟩ (.pointer t)) (some b)):=aE _ _ _ _;have af:Hid (RS M (w.setCell ⟨b,5,none⟩ (.pointer t)) b {S with AB:=T}):=RS.grown (S:={S with AB:=T}) G d ae s1 s2 ab rfl;have X:Hid (RW (w.setCell ⟨b,5,none⟩ (.pointer t)) wb M W):=HW.grown G d eC;have Y:Hid (Stp (Mx M b) w (Mx M b) (w.setCell ⟨b,5,none⟩ (.pointer t))):=bV G;have H:Hid (∀o:Obj,Below (w.setCell ⟨b,5,none⟩ (.pointer t)).heap.size (w.setCell ⟨b,5,none⟩ (.pointer t)) ((w.setCell ⟨b,5,none⟩ (.pointer t)).alloc o).drew):=fun o=>cM _ o
   have kA:∀(o:Obj)(j:Nat),((w.setCell ⟨b,5,none⟩ (.pointer t)).alloc o).cell? ⟨g,j,none⟩=w.cell? ⟨g,j,none⟩:=fun o j=>by
    have Z:g≠b:=by rintro rfl;obtain⟨ao,ag⟩:=Sl.typ n Nat.zero_lt_one;exact absurd (aK ag d).2 w8
    apply World.cell?_of_block;rw [k_ (by simp [World.setCell];exact hg),Below.heap_setCell _ _ _ _ (fun e=>Z a6)]
   clear m K B L N P C I Q y F hM z A n d s1 s2 s3;have ah:Hid (bT a=.agg #[.string ⟨(vK a).toArray⟩,Q1 (vN a),.string ⟨(vS a).toArray⟩]):=rfl;generalize vK a=ka at *;generalize vN a=na at *;generalize vS a=sa at *;unfold bT AM vK vN vS pJ;go_enter func57,ntmps57;go_wp2_with fail
   go_region
   all_goals
    go_wp2_with fail
    rw [<- ah.out];refine(aT _ wb b M W _ a (X.later (H _)) (af.later X (H _))).mono ?_;rintro e w6 ⟨rfl,P,C,h3⟩;have H1:=h_ P;have H2:=h_ C;have H3:=h_ h3;clear P C h3;go_wp2_with fail;go_ret;rw [U.out];exact⟨rfl,M,H1,(Y.trans ((Stp.AA (H _)).mx b)).trans H3,fun _=>H2.out⟩
  ·have U:Hid _:=contN W S i l y;obtain⟨aa,D,rfl,R⟩:=n.shape;have Z:((l.length:Int)!=1)=true:=by simp;omega
   clear m x E K n B L N C I Q y;unfold bT AM vK vN vS pJ;exact zI1
 ·obtain⟨hE,b1,b2,b3⟩:=otherB W S f l (fun i e=>I ⟨i,e⟩) (fun i e=>hc ⟨i,e⟩) (fun i e=>Q ⟨i,e⟩);have U:=h_ hE;have HW:=h_ x;obtain⟨aa,D,rfl,R⟩:=n.shape;clear m x E K n B L N C I Q hc hE;unfold bT AM;unfold kProc at b1;unfold pJ at b2;unfold pH at b3;generalize vK f=kf at *;generalize vN f=nf at *;generalize vS f=sf at *;exact zI1
theorem qJ(w:World)(wb d:Nat)(M:Q5)(W:PW)(S:PS)(fr:CW)(l m ev:Value)(n:Option Addr)(o:Int)(z:RW w wb M W)(A:RS M w d S)(p:RF w l fr.form)(q:CO M w m fr.B8)(r:DF M w ev fr.env)(B:S.AB.length<=1000000000) :Q2 44 #[Q0 d,.agg #[l,m,Q1 fr.pos,ev,.pointer n,Q1 o]] w fun e f=>e=.returned (.tuple #[])/\RW f wb M W/\RS M f d (S.push fr)/\Stp (Mx M d) w (Mx M d) f/\IX w f:=by obtain⟨g,h,s,t,u,i,j,C,D,v⟩:=A;obtain⟨b,_,_,_,_,_,_,_,rfl,_⟩:=p.open_;obtain⟨E,x,rfl,_⟩:=q.shape;obtain⟨F,y,rfl,_⟩:=r.shape;refine(lI M w d g h s t u i S.AB _ E F n _ _ _ _ _ o j v B).mono ?_;rintro e f ⟨rfl,a,k,G⟩;have c:Kp M w M f:=eV a j eC.2.2.2.2.2.2 w8 w8;refine⟨rfl,z.grown a j eC,⟨g,h,s,t,u,_,k,C.keep c.im,D.kp c (.inl rfl),?_⟩,bV a,c.im⟩;exact⟨w.heap.size,_,_,_,_,rfl,G,p.keep c.im,q.kp c (.inr rfl),r.kp c (.inl rfl),DT.kp c _ _ v⟩
theorem pQ(M:Q5)(w:World):CO M w (.slice none 0 0) []:=⟨rfl,none,0,rfl,n_,.inl rfl⟩
def CL(M:Q5)(w:World)(wb xb:Nat)(W:PW)(S:PS):Ending->World->Prop:=F9 M w wb xb (Pl.step W S)
structure WfS(W:PW)(S:PS):Prop where
 env:LG W S.env
 G1:S.env.length<=100000000
 fr:S.AB.length<=100000000
structure WfG(W:PW):Prop where
 gl:LG W W.globals
 glL:W.globals.length<=100000000
 plL:W.places.length<=100000000
 prL:W.procs.length<=100000000
theorem kF(w:World)(wb c:Nat)(M:Q5)(W:PW)(S:PS)(f:PF)(k:S.form=some f)(i:f.k=.const)(t:RW w wb M W)(u:RS M w c S) :Q2 28 #[Q0 wb,Q0 c] w fun e A=>CL M w wb c W S e A:=by
 have B:=h_ t;have C:=h_ u;have D:Hid (Pl.step W S=⟨0,W,S.A1 f.v⟩):=show Pl.step W S=_ from by unfold Pl.step;rw [k];dsimp only;rw [i]
 obtain⟨N,O,P,Q,R,E,a,j,l,F⟩:=u;simp only [JN,k] at j;obtain⟨b,T,U,V,X,Y,Z,us,rfl,d,m,n,o,g,p,q,r⟩:=j.open_;have HF:=h_ j;have G:=h_ l;obtain⟨H,h,rfl,I⟩:=l.shape;have x0:w.cell? ⟨c,0,none⟩=some (Q0 b):=aA a 0;have x1:w.cell? ⟨c,1,none⟩=some (.slice H S.env.length h):=aA a 1;rw [i] at d;have v:=g i;simp only [cZ,List.cons.injEq,and_true] at v;obtain⟨rfl,rfl,rfl⟩:=v;have b0:w.cell? ⟨b,0,none⟩=some (.string ⟨#[99,111,110,115,116]⟩):=aA d 0;have b5:w.cell? ⟨b,5,none⟩=some (.string ⟨(vK f.v).toArray⟩):=aA d 5;have b6:w.cell? ⟨b,6,none⟩=some (Q1 (vN f.v)):=aA d 6;have b7:w.cell? ⟨b,7,none⟩=some (.string ⟨(vS f.v).toArray⟩):=aA d 7;have s:Hid (bT f.v=.agg #[.string ⟨(vK f.v).toArray⟩,Q1 (vN f.v),.string ⟨(vS f.v).toArray⟩]):=rfl;clear k i t a j l F d m n o g p q r;generalize vK f.v=kk at *;generalize vN f.v=nn at *;generalize vS f.v=ss at *;go_enter func28,ntmps28;go_wp2_with fail;rw [<- s.out];refine(aT _ wb c M W S f.v B C).mono ?_;rintro e w2 ⟨rfl,x,y,z⟩;have J:=h_ x;have K:=h_ y;have L:=h_ z;clear x y z;go_wp2_with fail;go_ret;unfold CL;rw [D.out];exact⟨rfl,M,J,L,fun _=>K.out⟩
theorem oL{W:PW}{env:Env}{s:AE}{k:Nat}(d:LG W env)(e:LG W W.globals)(h:Pl.DL W env s=some k):k<W.places.length:=by
 unfold Pl.DL at h
 cases a:Pl.find env s with
 | some j =>rw [a] at h;obtain rfl:=i_ h;obtain⟨b,c,rfl⟩:=mC _ _ _ a;exact d b c
 | none =>rw [a] at h;obtain⟨b,c,rfl⟩:=mC _ _ _ h;exact e b c
theorem lH(w:World)(wb c:Nat)(M:Q5)(W:PW)(S:PS)(f:PF)(r:S.form=some f)(s:f.k=.name)(K:RW w wb M W)(L:RS M w c S)(o:WfG W)(t:WfS W S) :Q2 28 #[Q0 wb,Q0 c] w fun e N=>CL M w wb c W S e N:=by
 have u:=h_ K;have T:=h_ L;have j:Hid (Pl.step W S=match Pl.DL W S.env f.nm with | some k=>⟨0,W,S.A1 (W.places[k]?.getD .nothing)⟩ | none=>⟨8,W,S⟩):=show Pl.step W S=_ from by unfold Pl.step;rw [r];dsimp only;rw [s];rfl
 have U:=o.glL;have V:=o.plL;have X:=t.G1;have v:Hid (∀k,Pl.DL W S.env f.nm=some k->k<W.places.length):=fun k h=>oL t.env o.gl h;obtain⟨fv,ev,c0,c1,c2,Y,d,p,y,Z⟩:=L;simp only [JN,r] at p;obtain⟨b,dv,kv,nv,d0,d1,d2,us,rfl,q,z,A,B,C,D,E,F⟩:=p.open_;have HF:=h_ p;have G:=h_ y;obtain⟨ea,l,rfl,aa⟩:=y.shape;have x0:w.cell? ⟨c,0,none⟩=some (Q0 b):=aA d 0;have x1:w.cell? ⟨c,1,none⟩=some (.slice ea S.env.length l):=aA d 1;rw [s] at q;have b0:w.cell? ⟨b,0,none⟩=some (.string ⟨#[110,97,109,101]⟩):=aA q 0;have b1:w.cell? ⟨b,1,none⟩=some (.string ⟨f.nm.toArray⟩):=aA q 1;clear r s K d p y Z q z A B C D E F o t;go_enter func28,ntmps28
 go_upto_region 10 with fail
 go_cut [6] (fun k6 wx=>k6=.int .i64 (fW (Pl.DL W S.env f.nm))/\wx=w.drew)
 case first =>
  go_region_with (go_at_call 43;refine(qH w.drew wb M M W _ S.env f.nm (u.later r_.drew) (G.AQ (Stp.AA r_.drew)) x8 x8).mono ?_;rintro e N ⟨rfl,rfl⟩)
  all_goals
   go_wp2_with fail
   go_meet
   exact⟨rfl,rfl⟩
 case rest =>
  obtain⟨rfl,rfl⟩:=hcut;have g:Hid (RW w.drew wb M W):=u.later r_.drew;have H:Hid (RS M w.drew c S):=T.later u r_.drew
  cases a:Pl.DL W S.env f.nm with
  | none =>rw [a] at j;simp only [show fW none=(-1:Int) from rfl];clear a;go_wp2_with fail;go_ret;unfold CL;rw [j.out];exact⟨rfl,M,g,(Stp.AA r_.drew).mx c,fun h=>by simp at h⟩
  | some k =>
   rw [a] at j;have m:=v.out k a;obtain⟨pv,qv,cv,lv,gv,qs,cs,hM,i⟩:=g.out;obtain⟨gp,n,rfl,ab,ac,_,x,O,p0,p1,p2,_⟩:=TK i m;have c3:w.drew.cell? ⟨wb,3,none⟩=some (.slice (some ⟨gp,0,none⟩) W.places.length n):=aA i.blk 3;have I:Hid (Pl.step W S=⟨0,W,S.A1 x⟩):=show _=_ from by rw [j.out];dsimp only;rw [O];rfl
   have ad:(k:Int)<(W.places.length:Int):=by omega
   simp only [d6];have J:Hid (bT x=.agg #[.string ⟨(vK x).toArray⟩,Q1 (vN x),.string ⟨(vS x).toArray⟩]):=rfl;unfold AM at p0 p2;clear a m hM i O j;generalize vK x=kk at *;generalize vN x=nn at *;generalize vS x=ss at *;go_wp2_with fail;rw [<- J.out];refine(aT _ wb c M W S x g H).mono ?_;rintro e w2 ⟨rfl,P,Q,R⟩;have H1:=h_ P;have H2:=h_ Q;have H3:=h_ R;clear P Q R;go_wp2_with fail;go_ret;unfold CL;rw [I.out];exact⟨rfl,M,H1,((Stp.AA r_.drew).mx c).trans H3,fun _=>H2.out⟩
theorem mY(w:World)(wb j:Nat)(M:Q5)(W:PW)(S:PS)(f:PF)(s:S.form=some f)(p:f.k=.lambda)(X:RW w wb M W)(Y:RS M w j S)(Z:WfG W) :Q2 28 #[Q0 wb,Q0 j] w fun e w'=>CL M w wb j W S e w':=by
 obtain⟨i0,u,v,x,y⟩:=info_parts Tryz.infoPc;have HW:=h_ X;have HS:=h_ Y;have HR:Hid (Pl.step W S=⟨0,{W with procs:=W.procs++[(f,S.env)]},S.A1 (.proc W.procs.length)⟩):=show Pl.step W S=_ from by unfold Pl.step;rw [s];dsimp only;rw [p]
 have ad:=Z.prL;have HK:=h_ p;obtain⟨fv,ev,c0,c1,c2,ae,g,q,z,s3⟩:=Y;simp only [JN,s] at q;obtain⟨b,dv,kv,nv,d0,d1,d2,us,rfl,A,B,C,D,E,F,G,I⟩:=q.open_;have HF:=h_ q;have J:=h_ z;obtain⟨r,a,rfl,af⟩:=z.shape;have x0:w.cell? ⟨j,0,none⟩=some (Q0 b):=aA g 0;have x1:w.cell? ⟨j,1,none⟩=some (.slice r S.env.length a):=aA g 1;rw [p] at A;have b0:w.cell? ⟨b,0,none⟩=some (.string ⟨#[108,97,109,98,100,97]⟩):=aA A 0;obtain⟨pv,K,cv,lv,gv,qs,cs,hM,h⟩:=X;have H:=h_ h;have L:=h_ hM;have N:=aB h.blk;have O:=aB g;have q1:w.cell? ⟨wb,1,none⟩=some K:=aA h.blk 1;have a1:=(bM (o:=1) N).1;have a2:=(bM (o:=1) O).1;clear s p g q z s3 A B C D E F G I Z hM h;go_enter func28,ntmps28
 go_upto_region 15 with fail
 go_cut [] (fun wx=>∃l,Hid (RW wx wb l {W with procs:=W.procs++[(f,S.env)]})/\Hid (Stp M w l wx))
 case first =>
  go_region_law ((refine step_append_lies _ m6 _ _ _ m6 0 132 i0 _ 2 32 underlying50 u v x y rfl x8 K W.procs.length qs m6 ((H.pc.alloc _).drew) ⟨w.heap.size,0,none⟩ 1 1 [Q0 b,.slice r S.env.length a] m6 m6 (World.news_of_block (cs:=#[Q0 b,.slice r S.env.length a]) (t:=132) (fr:=(0,0)) (TC w _ _)) zO7 x8 o6 x8 w9 (w.heap.size+1) w9 ?_;intro g3 aa w3 k c m ab;obtain⟨k1,k2,k3⟩:=fD H.blk (cM w _) c (aN H.pc) w8 1 K rfl))
  all_goals
   obtain⟨z1,z2⟩:=H.O3 (cM w _) c _ (Q0 b) (.slice r S.env.length a) (f,S.env) k (tH m x8) HF HK (by rw [<- L.out];exact J);go_wp2_with fail
   go_meet
   exact⟨_,⟨_,_,_,_,_,_,_,rfl,z1⟩,by rw [L.out];exact z2⟩
 case rest =>obtain⟨l,n,i⟩:=hcut;have P:=h_ (HS.AQ HW i);obtain⟨ag,Q,ah,ai,aj,ak,al,R,d⟩:=n.out;have T:wc.cell? ⟨wb,1,none⟩=some Q:=aA d.blk 1;obtain⟨ca,ac,rfl,U⟩:=dN d.pc;rw [show({W with procs:=W.procs++[(f,S.env)]}:PW).procs.length=W.procs.length+1 from by simp] at T U;have V:IntKind.i64.wrap ((W.procs.length:Nat):Int)=(W.procs.length:Int):=IntWalk.i64_in _ x8;clear R d x0 x1 b0 q1 a1 a2 H L;go_wp2_with fail;refine(aT _ wb j l {W with procs:=W.procs++[(f,S.env)]} S (.proc W.procs.length) n P).mono ?_;rintro e w2 ⟨rfl,h1,h2,h3⟩;have H1:=h_ h1;have H2:=h_ h2;have H3:=h_ h3;clear h1 h2 h3;go_wp2_with fail;go_ret;unfold CL;rw [HR.out];exact⟨rfl,l,H1,(i.mx j).trans H3,fun _=>H2.out⟩
theorem PN{kv:Value}{ks:List PF}{us:List Value}(c:w.ownsRow 0 LN 1 kv ks.length us)(g:∀(i:Nat)(u:Value)(x:PF),us[i]?=some u->ks[i]?=some x->RF w u x)(i:Nat)(hi:i<ks.length):∃b d f x,kv=.slice (some ⟨b,0,none⟩) ks.length d/\ks.length<=d/\b<w.heap.size/\(∃a,w.heap[b]?=some (.cells a LN (0,0)))/\w.cell? ⟨b,i,none⟩=some (Q0 f)/\ks[i]?=some x/\RF w (Q0 f) x:=by
 obtain⟨b,d,e,h,⟨a,l⟩,n⟩:=row1 c x8;have p:us.length=ks.length:=by have:=c.1;omega
 have j:us[i]?=some (us[i]' x8):=g_ x8;have m:ks[i]?=some (ks[i]):=g_ hi;have k:=g i _ _ j m;obtain⟨f,_,_,_,_,_,_,_,o,_⟩:=k.open_;rw [o] at k j;exact⟨b,d,f,_,e,h,aB l,⟨a,l⟩,n i _ j,m,k⟩
theorem CN(w:World):IX w w.drew:=fun _ _ _ _ h=>h
theorem cR(w:World)(wb c:Nat)(M:Q5)(W:PW)(S:PS)(f:PF)(B:S.form=some f)(d:f.k=.iff\/f.k=.set\/f.k=.define\/f.k=.call)(hW:RW w wb M W)(hS:RS M w c S)(hE:WfS W S) :Q2 28 #[Q0 wb,Q0 c] w fun e w'=>CL M w wb c W S e w':=by
 rcases d with d | d | d | d
 all_goals
  have o:Hid (Pl.step W S=⟨0,W,(S.push ⟨f,[],1,S.env⟩).work f.ks[0]? S.env⟩):=show Pl.step W S=_ from by unfold Pl.step;rw [B];dsimp only;rw [d]
  have HW:=h_ hW;have HS:=h_ hS;have ac:=hE.fr;obtain⟨fv,ev,c0,c1,c2,ad,k,z,C,s3⟩:=hS;simp only [JN,B] at z;obtain⟨b,dv,kv,nv,d0,d1,d2,us,rfl,g,p,q,D,E,l,F,G⟩:=z.open_;have HF:=h_ z;have H:=h_ C;obtain⟨ea,r,rfl,ae⟩:=C.shape;have x0:w.cell? ⟨c,0,none⟩=some (Q0 b):=aA k 0;have x1:w.cell? ⟨c,1,none⟩=some (.slice ea S.env.length r):=aA k 1;have I:0<f.ks.length:=by rw [d] at l;simp only [shape] at l;omega
  rw [d] at g;first | have A:w.cell? ⟨b,0,none⟩=some (.string ⟨#[105,102]⟩):=aA g 0 | have A:w.cell? ⟨b,0,none⟩=some (.string ⟨#[115,101,116,33]⟩):=aA g 0 | have A:w.cell? ⟨b,0,none⟩=some (.string ⟨#[100,101,102,105,110,101]⟩):=aA g 0 | have A:w.cell? ⟨b,0,none⟩=some (.string ⟨#[99,97,108,108]⟩):=aA g 0
  obtain⟨J,ck,ob,h,rfl,af,ag,⟨aa,i⟩,e0,a,s⟩:=PN p q 0 I;have b3:w.cell? ⟨b,3,none⟩=some (.slice (some ⟨J,0,none⟩) f.ks.length ck):=aA g 3;have K:=h_ s;have t:=h_ i;have L:=h_ g;have N:=h_ a;have HR:Hid (Pl.step W S=⟨0,W,(S.push ⟨f,[],1,S.env⟩).work (some h) S.env⟩):=show _=_ from by rw [o.out,N.out]
  clear B d hW k z C s3 g p q D E l F G hE s i a o;go_enter func28,ntmps28;go_wp2_with fail;refine(qJ _ wb c M W S ⟨f,[],1,S.env⟩ _ _ _ none 0 HW HS HF (pQ _ _) H x8).mono ?_;rintro e O ⟨rfl,u,v,x,h4⟩;have y:=h_ u;have P:=h_ v;have Q:=h_ x;have m:=h_ h4;obtain⟨ah,ai,y0,y1,y2,ab,j,t1,R,t3⟩:=v;have T:=h_ R;obtain⟨U,n,rfl,_⟩:=R.shape;have aj:O.cell? ⟨c,1,none⟩=some (.slice U S.env.length n):=aA j 1;have ak:O.cell? ⟨b,3,none⟩=some (.slice (some ⟨J,0,none⟩) f.ks.length ck):=aA (m _ _ _ (.inr (.inr (.inl rfl))) L) 3;have al:O.cell? ⟨J,0,none⟩=some (Q0 ob):=(aA (m _ _ _ (.inr (.inr (.inr (.inl rfl)))) t) 0).trans ((aA t 0).symm.trans e0);clear u x h4 j t1 R t3 x0 x1 A b3 e0;go_wp2_with fail;have V:=P;have X:=h_ (K.keep m);have Y:=T;have Z:=Q;go_region_with (go_at_call 45;refine(cP _ wb c M W (S.push ⟨f,[],1,S.env⟩) h S.env _ _ (RW.later y r_.drew) (RS.later (W:=W) (wb:=wb) V y r_.drew) (X.keep (CN _)) (Y.AQ (Stp.AA r_.drew))).mono ?_;rintro e w2 ⟨rfl,u,v,x⟩)
  all_goals
   have H1:=h_ u;have H2:=h_ v;have H3:=h_ x;clear u v x;go_wp2_with fail;go_ret;unfold CL;rw [HR.out];exact⟨rfl,M,H1,Z.trans (((Stp.AA r_.drew).mx c).trans H3),fun _=>H2.out⟩
theorem kG(w:World)(wb d:Nat)(M:Q5)(W:PW)(S:PS)(f:PF)(L:S.form=some f)(z:f.k=.begin)(O:RW w wb M W)(hS:RS M w d S)(P:WfS W S) :Q2 28 #[Q0 wb,Q0 d] w fun e w'=>CL M w wb d W S e w':=by
 have g:Hid (Pl.step W S=⟨0,W,(if 1<f.ks.length then S.push ⟨f,[],1,S.env⟩ else S).work f.ks[0]? S.env⟩):=show Pl.step W S=_ from by unfold Pl.step;rw [L];dsimp only;rw [z]
 have Q:=h_ O;have HS:=h_ hS;have af:=P.fr;obtain⟨fv,ev,c0,c1,c2,ag,j,A,N,s3⟩:=hS;simp only [JN,L] at A;obtain⟨b,dv,kv,nv,d0,d1,d2,us,rfl,y,o,p,B,C,k,D,E⟩:=A.open_;have HF:=h_ A;have F:=h_ N;obtain⟨ea,G,rfl,ah⟩:=N.shape;have x0:w.cell? ⟨d,0,none⟩=some (Q0 b):=aA j 0;have x1:w.cell? ⟨d,1,none⟩=some (.slice ea S.env.length G):=aA j 1;have R:0<f.ks.length:=by rw [z] at k;simp only [shape] at k;omega
 rw [z] at y;have b0:w.cell? ⟨b,0,none⟩=some (.string ⟨#[98,101,103,105,110]⟩):=aA y 0;obtain⟨T,ck,ob,c,rfl,ai,aj,⟨ad,h⟩,e0,a,q⟩:=PN o p 0 R;have b3:w.cell? ⟨b,3,none⟩=some (.slice (some ⟨T,0,none⟩) f.ks.length ck):=aA y 3;have H:=h_ q;have I:=h_ h;have U:=h_ y;have J:=h_ a;by_cases i:1<f.ks.length
 ·rw [if_pos i] at g;have V:Hid (Pl.step W S=⟨0,W,(S.push ⟨f,[],1,S.env⟩).work (some c) S.env⟩):=show _=_ from by rw [g.out,J.out]
  have X:(1:Int)<(f.ks.length:Int):=by omega
  clear L z O j A N s3 y o p B C k D E P q h a g;go_enter func28,ntmps28;go_wp2_with fail;refine(qJ _ wb d M W S ⟨f,[],1,S.env⟩ _ _ _ none 0 Q HS HF (pQ _ _) F x8).mono ?_;rintro e Y ⟨rfl,i,l,m,h4⟩;have K:=h_ i;have Z:=h_ l;have aa:=h_ m;have r:=h_ h4;obtain⟨ak,al,y0,y1,y2,ae,n,t1,t2,t3⟩:=l;have ab:=h_ t2;obtain⟨ac,s,rfl,_⟩:=t2.shape;have am:Y.cell? ⟨d,1,none⟩=some (.slice ac S.env.length s):=aA n 1;have an:Y.cell? ⟨b,3,none⟩=some (.slice (some ⟨T,0,none⟩) f.ks.length ck):=aA (r _ _ _ (.inr (.inr (.inl rfl))) U) 3;have ao:Y.cell? ⟨T,0,none⟩=some (Q0 ob):=(aA (r _ _ _ (.inr (.inr (.inr (.inl rfl)))) I) 0).trans ((aA I 0).symm.trans e0);clear i m h4 n t1 t2 t3 x0 x1 b0 b3 e0;go_wp2_with fail;have t:=Z;have u:=h_ (H.keep r);have v:=ab;have x:=aa;go_region_with (go_at_call 45;refine(cP _ wb d M W (S.push ⟨f,[],1,S.env⟩) c S.env _ _ (RW.later K r_.drew) (RS.later (W:=W) (wb:=wb) t K r_.drew) (u.keep (CN _)) (v.AQ (Stp.AA r_.drew))).mono ?_;rintro e w2 ⟨rfl,i,l,m⟩)
  all_goals
   have H1:=h_ i;have H2:=h_ l;have H3:=h_ m;clear i l m;go_wp2_with fail;go_ret;unfold CL;rw [V.out];exact⟨rfl,M,H1,x.trans (((Stp.AA r_.drew).mx d).trans H3),fun _=>H2.out⟩
 ·rw [if_neg i] at g;have V:Hid (Pl.step W S=⟨0,W,S.work (some c) S.env⟩):=show _=_ from by rw [g.out,J.out]
  have X:decide ((1:Int)<(f.ks.length:Int))=false:=by simp;omega
  have t:=HS;have u:=H;have v:=F;have x:Hid (Stp (Mx M d) w (Mx M d) w):=Stp.refl _ _;clear L z O j A N s3 y o p B C k D E P q h a g;go_enter func28,ntmps28;go_wp2_with fail;go_region_with (go_at_call 45;refine(cP _ wb d M W S c S.env _ _ (RW.later Q r_.drew) (RS.later (W:=W) (wb:=wb) t Q r_.drew) (u.keep (CN _)) (v.AQ (Stp.AA r_.drew))).mono ?_;rintro e w2 ⟨rfl,i,l,m⟩)
  all_goals
   have H1:=h_ i;have H2:=h_ l;have H3:=h_ m;clear i l m;go_wp2_with fail;go_ret;unfold CL;rw [V.out];exact⟨rfl,M,H1,x.trans (((Stp.AA r_.drew).mx d).trans H3),fun _=>H2.out⟩
end
end Go.Proofs.YtbgghmjmcapmlaaGreatDoor
