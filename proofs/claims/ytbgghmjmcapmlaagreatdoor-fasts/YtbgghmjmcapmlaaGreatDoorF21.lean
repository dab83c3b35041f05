import Derived.Test.YtbgghmjmcapmlaaGreatDoorF20
import Derived.Test.YtbgghmjmcapmlaaGreatDoorF14
namespace Go.Proofs.YtbgghmjmcapmlaaGreatDoor
set_option maxHeartbeats 4000000
set_option maxRecDepth 100000
open Go.Proofs.Tryz
open Pl (PV PW PS CW SR A8)
theorem zI2{P:Prop}(h:P:=by
 go_enter func41,ntmps41;go_wp2_with fail;generalize (w.setCell ⟨j,5,none⟩ (.pointer po)).alloc (.cells #[.string ⟨v.toArray⟩,Q1 B,.string ⟨K.toArray⟩] 81)=i at *;have v0:i.cell? ⟨w.heap.size,0,none⟩=some (.string ⟨v.toArray⟩):=by rw [<- h.1];exact aA a.box 0
 have v1:i.cell? ⟨w.heap.size,1,none⟩=some (Q1 B):=by rw [<- h.2.1];exact aA a.box 1
 have v2:i.cell? ⟨w.heap.size,2,none⟩=some (.string ⟨K.toArray⟩):=by rw [<- h.2.2];exact aA a.box 2
 clear x0 x2 x3 x4 x5 y0 y4 g5 qA b0;have n3:i.cell? ⟨fb,3,none⟩=some (.slice ea fr.env.length l):=aA (a.kp.im _ _ _ (.inr (.inr (.inr (.inr (.inr rfl))))) af) 3;have n4:i.cell? ⟨b,3,none⟩=some (.slice (some ⟨V,0,none⟩) 3 ck):=aA (a.kp.im _ _ _ (.inr (.inr (.inl rfl))) A) 3;have n5:i.cell? ⟨V,1,none⟩=some (Q0 ob):=(aA (a.kp.im _ _ _ (.inr (.inr (.inr (.inl rfl)))) n) 1).trans ((aA n 1).symm.trans J);have t:=h_ a.SX;have L:=h_ a.rs;have N:=h_ (I.keep a.kp.im);have O:Hid (DF M i (.slice ea fr.env.length l) fr.env):=ae.kp a.kp (.inl rfl);have P:=h_ a.AQ;go_region_with (go_at_call 45;refine(cP _ wb j M W ({S with AB:=rest}:PS) d fr.env _ _ (RW.later t r_.drew) (RS.later (W:=W) (wb:=wb) L t r_.drew) (N.keep (CN _)) (O.AQ (Stp.AA r_.drew))).mono ?_;rintro e w2 ⟨rfl,Z,h2,h3⟩)
 all_goals
  have H1:=h_ Z;have H2:=h_ h2;have H3:=h_ h3;clear Z h2 h3;go_wp2_with fail;go_ret;unfold BK;rw [HR.out];exact⟨rfl,M,H1,P.trans (((Stp.AA r_.drew).mx j).trans H3),fun _=>H2.out⟩):P:=h
section
open Go.RowKit
variable {M:Q5} {w:World}
structure Tk(w wx:World)(wb xb:Nat)(M:Q5)(W:PW)(S:PS)(rest:List CW):Prop where
 SX:RW wx wb M W
 rs:RS M wx xb {S with AB:=rest}
 AQ:Stp (Mx M xb) w (Mx M xb) wx
 kp:Kp M w M wx
 box:wx.heap[w.heap.size]?=some (.cells #[AM (vK S.val),Q1 (vN S.val),AM (vS S.val)] TV (0,0))
theorem Tk.mk_{wb xb:Nat}{W:PW}{S:PS}{rest:List CW}{fv ev c0 c1 c2 frv:Value}(h:RW w wb M W)(b:w.heap[xb]?=some (.cells #[fv,ev,c0,c1,c2,frv] JL (0,0)))(a:Option Addr)(i:JN w S fv c0 c1 c2)(j:DF M w ev S.env)(k:DT M w (.pointer a) rest) :Tk w ((w.setCell ⟨xb,5,none⟩ (.pointer a)).alloc (.cells #[AM (vK S.val),Q1 (vN S.val),AM (vS S.val)] 81)) wb xb M W S rest:=by
 have c:w.grownBy (w.setCell ⟨xb,5,none⟩ (.pointer a)) (some xb):=aE _ _ _ _;have e:∀o:Obj,Below (w.setCell ⟨xb,5,none⟩ (.pointer a)).heap.size (w.setCell ⟨xb,5,none⟩ (.pointer a)) ((w.setCell ⟨xb,5,none⟩ (.pointer a)).alloc o):=fun o=>b_;have d:=h.grown c b eC;have f:RS M (w.setCell ⟨xb,5,none⟩ (.pointer a)) xb {S with AB:=rest}:=RS.grown (S:={S with AB:=rest}) c b (aD b 5 _) i j k rfl;have g:Kp M w M (w.setCell ⟨xb,5,none⟩ (.pointer a)):=eV c b eC.2.2.2.2.2.2 w8 w8;refine⟨d.later (e _),f.later d (e _),(bV c).trans ((Stp.AA (e _)).mx xb),g.trans ((Stp.AA (e _)).kp d.X5),?_⟩;have:=heap_alloc_new (w.setCell ⟨xb,5,none⟩ (.pointer a)) (.cells #[AM (vK S.val),Q1 (vN S.val),AM (vS S.val)] 81)
 rwa [show(w.setCell ⟨xb,5,none⟩ (.pointer a)).heap.size=w.heap.size from by simp [World.setCell]] at this
def BK(M:Q5)(w:World)(wb xb:Nat)(W:PW)(S:PS):Ending->World->Prop:=F9 M w wb xb (Pl.taken W S)
theorem iD(w:World)(wb d:Nat)(M:Q5)(W:PW)(S:PS)(fr:CW)(rest:List CW)(A:S.form=none)(B:S.AB=fr::rest)(q:fr.form.k=.define)(C:RW w wb M W)(hS:RS M w d S)(z:WfG W) :Q2 41 #[Q0 wb,Q0 d] w fun e w'=>BK M w wb d W S e w':=by
 have HR:Hid (Pl.taken W S=⟨0,Pl.bind W fr.form.nm S.val,({S with AB:=rest}:PS).A1 .nothing⟩):=show Pl.taken W S=_ from by unfold Pl.taken;rw [B];dsimp only;rw [q]
 have D:=h_ z.gl;have ac:=z.glL;have ad:=z.plL;have HW:=h_ C;obtain⟨ae,af,c0,c1,c2,ag,a,s1,s2,s3⟩:=hS;simp only [JN,A] at s1;obtain⟨rfl,h⟩:=s1;simp only [cZ,List.cons.injEq,and_true] at h;obtain⟨rfl,rfl,rfl⟩:=h;rw [B] at s3;obtain⟨E,fv,gv,ev,up,rfl,f,F,i,j,l⟩:=s3;obtain⟨b,dv,kv,nv,d0,d1,d2,us,rfl,r,G,H,I,J,K,L,N⟩:=F.open_;obtain⟨O,rfl⟩:=l.ptr;obtain⟨ea,aa,rfl,ah⟩:=j.shape;obtain⟨ga,ab,rfl,ai⟩:=i.shape;have HF:=h_ F;have aj:=h_ j;have ak:=h_ i;have P:=aB a;have x0:w.cell? ⟨d,0,none⟩=some (.pointer none):=aA a 0;have x2:w.cell? ⟨d,2,none⟩=some (.string ⟨(vK S.val).toArray⟩):=aA a 2;have x3:w.cell? ⟨d,3,none⟩=some (Q1 (vN S.val)):=aA a 3;have x4:w.cell? ⟨d,4,none⟩=some (.string ⟨(vS S.val).toArray⟩):=aA a 4;have x5:w.cell? ⟨d,5,none⟩=some (Q0 E):=aA a 5;have y0:w.cell? ⟨E,0,none⟩=some (Q0 b):=aA f 0;have y4:w.cell? ⟨E,4,none⟩=some (.pointer O):=aA f 4;have g5:∀o:Obj,(w.alloc o).frozen? ⟨d,5,none⟩=false:=fun o=>aF ((Below.heap_alloc w o d P).trans a) 5;have al:=aB f;have am:=aB r;have qA:∀(o:Obj)(k g:Nat),k<w.heap.size->(w.alloc o).cell? ⟨k,g,none⟩=w.cell? ⟨k,g,none⟩:=fun o k g q=>(r_.alloc n_ o).cell (p:=⟨k,g,none⟩) q;rw [q] at r;have b0:w.cell? ⟨b,0,none⟩=some (.string ⟨#[100,101,102,105,110,101]⟩):=aA r 0;have c:=(show Hid (Tk w _ wb d M W S rest) from Tk.mk_ (rest:=rest) C a O (by unfold JN;rw [A];exact⟨rfl,rfl⟩) s2 l)
 have an:=h_ f;have Q:=h_ r;have R:Hid (bT S.val=.agg #[.string ⟨(vK S.val).toArray⟩,Q1 (vN S.val),.string ⟨(vS S.val).toArray⟩]):=rfl;clear A B q C a s2 l f F i j r G H I J K L N z;unfold AM at c;generalize s:vK S.val=T at *;generalize t:vN S.val=U at *;generalize u:vS S.val=V at *;have m:=(show Hid (vK S.val=T/\vN S.val=U/\vS S.val=V) from⟨s,t,u⟩)
 clear s t u;go_enter func41,ntmps41;go_wp2_with fail;generalize (w.setCell ⟨d,5,none⟩ (.pointer O)).alloc (.cells #[.string ⟨T.toArray⟩,Q1 U,.string ⟨V.toArray⟩] 81)=n at *;have v0:n.cell? ⟨w.heap.size,0,none⟩=some (.string ⟨T.toArray⟩):=by rw [<- m.1];exact aA c.box 0
 have v1:n.cell? ⟨w.heap.size,1,none⟩=some (Q1 U):=by rw [<- m.2.1];exact aA c.box 1
 have v2:n.cell? ⟨w.heap.size,2,none⟩=some (.string ⟨V.toArray⟩):=by rw [<- m.2.2];exact aA c.box 2
 clear x0 x2 x3 x4 x5 y0 y4 g5 qA b0;have n1:n.cell? ⟨b,1,none⟩=some (.string ⟨fr.form.nm.toArray⟩):=aA (c.kp.im _ _ _ (.inr (.inr (.inl rfl))) Q) 1;go_region_with (go_at_call 20;rw [<- R.out];refine(qI n.drew wb M W fr.form.nm S.val (RW.later c.SX r_.drew) D x8 x8).mono ?_;rintro e w1 ⟨rfl,X,v,x⟩)
 all_goals
  have y:Hid (Stp M n X w1):=(Stp.AA r_.drew).trans x;have Y:=h_ v;have Z:=h_ (c.rs.AQ c.SX y);clear v x;go_wp2_with fail;refine(aT _ wb d X (Pl.bind W fr.form.nm S.val) {S with AB:=rest} .nothing Y Z).mono ?_;rintro e w2 ⟨rfl,v,x,h3⟩;have H1:=h_ v;have H2:=h_ x;have H3:=h_ h3;clear v x h3;go_wp2_with fail;go_ret;unfold BK;rw [HR.out];exact⟨rfl,X,H1,((c.AQ.trans (y.mx d))).trans H3,fun _=>H2.out⟩
theorem ref_taken_set(w:World)(wb g:Nat)(M:Q5)(W:PW)(S:PS)(fr:CW)(rest:List CW)(Y:S.form=none)(Z:S.AB=fr::rest)(B:fr.form.k=.set)(hW:RW w wb M W)(hS:RS M w g S)(R:WfG W)(hE:LG W fr.env)(ap:fr.env.length<=100000000) :Q2 41 #[Q0 wb,Q0 g] w fun e w'=>BK M w wb g W S e w':=by
 have T:Hid (Pl.taken W S=match Pl.DL W fr.env fr.form.nm with | some k=>⟨0,{W with places:=W.places.set k S.val},({S with AB:=rest}:PS).A1 .nothing⟩ | none=>⟨8,W,{S with AB:=rest}⟩):=show Pl.taken W S=_ from by unfold Pl.taken;rw [Z];dsimp only;rw [B];rfl
 have aq:=R.glL;have ar:=R.plL;have aa:Hid (∀k,Pl.DL W fr.env fr.form.nm=some k->k<W.places.length):=fun k h=>oL hE R.gl h;have HW:=h_ hW;obtain⟨au,av,c0,c1,c2,aw,d,s1,s2,s3⟩:=hS;simp only [JN,Y] at s1;obtain⟨rfl,s⟩:=s1;simp only [cZ,List.cons.injEq,and_true] at s;obtain⟨rfl,rfl,rfl⟩:=s;rw [Z] at s3;obtain⟨U,fv,gv,ev,up,rfl,j,hF,u,v,y⟩:=s3;obtain⟨b,dv,kv,nv,d0,d1,d2,us,rfl,C,ab,ac,ad,ae,af,ag,ah⟩:=hF.open_;obtain⟨po,rfl⟩:=y.ptr;obtain⟨ea,t,rfl,ax⟩:=v.shape;obtain⟨ga,ao,rfl,ay⟩:=u.shape;have HF:=h_ hF;have ai:=h_ v;have az:=h_ u;have aj:=aB d;have x0:w.cell? ⟨g,0,none⟩=some (.pointer none):=aA d 0;have x2:w.cell? ⟨g,2,none⟩=some (.string ⟨(vK S.val).toArray⟩):=aA d 2;have x3:w.cell? ⟨g,3,none⟩=some (Q1 (vN S.val)):=aA d 3;have x4:w.cell? ⟨g,4,none⟩=some (.string ⟨(vS S.val).toArray⟩):=aA d 4;have x5:w.cell? ⟨g,5,none⟩=some (Q0 U):=aA d 5;have y0:w.cell? ⟨U,0,none⟩=some (Q0 b):=aA j 0;have y4:w.cell? ⟨U,4,none⟩=some (.pointer po):=aA j 4;have g5:∀o:Obj,(w.alloc o).frozen? ⟨g,5,none⟩=false:=fun o=>aF ((Below.heap_alloc w o g aj).trans d) 5;have ba:=aB j;have bb:=aB C;have qA:∀(o:Obj)(k n:Nat),k<w.heap.size->(w.alloc o).cell? ⟨k,n,none⟩=w.cell? ⟨k,n,none⟩:=fun o k n B=>(r_.alloc n_ o).cell (p:=⟨k,n,none⟩) B;rw [B] at C;have b0:w.cell? ⟨b,0,none⟩=some (.string ⟨#[115,101,116,33]⟩):=aA C 0;have a:=(show Hid (Tk w _ wb g M W S rest) from Tk.mk_ (rest:=rest) hW d po (by unfold JN;rw [Y];exact⟨rfl,rfl⟩) s2 y)
 have ak:=h_ j;have al:=h_ C;clear Y Z B hW d s2 y j hF u v C ab ac ad ae af ag ah R hE;unfold AM at a;generalize D:vK S.val=E at *;generalize F:vN S.val=G at *;generalize H:vS S.val=I at *;have f:=(show Hid (vK S.val=E/\vN S.val=G/\vS S.val=I) from⟨D,F,H⟩)
 clear D F H;go_enter func41,ntmps41
 go_upto_region 19 with fail
 generalize (w.setCell ⟨g,5,none⟩ (.pointer po)).alloc (.cells #[.string ⟨E.toArray⟩,Q1 G,.string ⟨I.toArray⟩] 81)=c at *;have v0:c.cell? ⟨w.heap.size,0,none⟩=some (.string ⟨E.toArray⟩):=by rw [<- f.1];exact aA a.box 0
 have v1:c.cell? ⟨w.heap.size,1,none⟩=some (Q1 G):=by rw [<- f.2.1];exact aA a.box 1
 have v2:c.cell? ⟨w.heap.size,2,none⟩=some (.string ⟨I.toArray⟩):=by rw [<- f.2.2];exact aA a.box 2
 clear x0 x2 x3 x4 x5 y0 y4 g5 qA b0;have n1:c.cell? ⟨b,1,none⟩=some (.string ⟨fr.form.nm.toArray⟩):=aA (a.kp.im _ _ _ (.inr (.inr (.inl rfl))) al) 1;have n3:c.cell? ⟨U,3,none⟩=some (.slice ea fr.env.length t):=aA (a.kp.im _ _ _ (.inr (.inr (.inr (.inr (.inr rfl))))) ak) 3;have am:Hid (DF M c (.slice ea fr.env.length t) fr.env):=ai.kp a.kp (.inl rfl)
 go_cut [9] (fun k9 wy=>k9=.int .i64 (fW (Pl.DL W fr.env fr.form.nm))/\wy=c.drew)
 case first =>
  go_region_with (go_at_call 43;refine(qH c.drew wb M M W _ fr.env fr.form.nm (RW.later a.SX r_.drew) (am.AQ (Stp.AA r_.drew)) x8 x8).mono ?_;rintro e w' ⟨rfl,rfl⟩)
  all_goals
   go_wp2_with fail
   go_meet
   exact⟨rfl,rfl⟩
 case rest =>
  obtain⟨rfl,rfl⟩:=hcut;have z:Hid (RW c.drew wb M W):=RW.later a.SX r_.drew;have an:Hid (RS M c.drew g {S with AB:=rest}):=a.rs.later a.SX r_.drew;have J:Hid (Stp (Mx M g) w (Mx M g) c.drew):=a.AQ.trans ((Stp.AA r_.drew).mx g)
  cases l:Pl.DL W fr.env fr.form.nm with
  | none =>rw [l] at T;simp only [show fW none=(-1:Int) from rfl];clear l;go_wp2_with fail;go_ret;unfold BK;rw [T.out];exact⟨rfl,M,z,J,fun h=>by simp at h⟩
  | some k =>
   rw [l] at T;have q:=aa.out k l;have bc:=h_ q;obtain⟨pv,qv,cv,lv,gv,qs,cs,hM,r⟩:=z.out;obtain⟨i,m,rfl,bd,be,bf,x,hx,p0,p1,p2,V⟩:=TK r q;have c3:c.drew.cell? ⟨wb,3,none⟩=some (.slice (some ⟨i,0,none⟩) W.places.length m):=aA r.blk 3;have z0:c.drew.cell? ⟨w.heap.size,0,none⟩=some (.string ⟨E.toArray⟩):=by rw [<- f.1];exact aA a.box 0
   have z1:c.drew.cell? ⟨w.heap.size,1,none⟩=some (Q1 G):=by rw [<- f.2.1];exact aA a.box 1
   have z2:c.drew.cell? ⟨w.heap.size,2,none⟩=some (.string ⟨I.toArray⟩):=by rw [<- f.2.2];exact aA a.box 2
   have bg:(k:Int)<(W.places.length:Int):=by omega
   have HP:Hid _:=r.K0 i m rfl k q S.val;have K:=h_ hM;simp only [d6];have r0:c.cell? ⟨i,k*3,none⟩=some (.string ⟨(vK x).toArray⟩):=p0;have r1:c.cell? ⟨i,k*3+1,none⟩=some (Q1 (vN x)):=p1;have r2:c.cell? ⟨i,k*3+2,none⟩=some (.string ⟨(vS x).toArray⟩):=p2;have r3:c.frozen? ⟨i,k*3,none⟩=false:=V _;have r4:c.frozen? ⟨i,k*3+1,none⟩=false:=V _;have r5:c.frozen? ⟨i,k*3+2,none⟩=false:=V _;have bh:c.cell? ⟨wb,3,none⟩=some (.slice (some ⟨i,0,none⟩) W.places.length m):=c3;clear l q hM r hx p0 p1 p2 V c3 z0 z1 z2;go_wp2_with fail
   go_region
   all_goals
    obtain⟨L,N⟩:=HP.out;have O:Hid (RW (gN c.drew i (k*3) S.val).drew wb M {W with places:=W.places.set k S.val}):=RW.later (show RW (gN c.drew i (k*3) S.val) wb M _ from⟨_,_,_,_,_,_,_,K,L⟩) r_.drew
    have A:Hid (Stp M c.drew M (gN c.drew i (k*3) S.val).drew):=by
     have X:Stp M c.drew M (gN c.drew i (k*3) S.val):=by rw [K.out];exact N
     exact X.trans (Stp.AA r_.drew)
    have P:=h_ (an.AQ z A);have Q:(gN c.drew i (k*3) S.val).drew=(((c.setCell ⟨i,k*3,none⟩ (.string ⟨E.toArray⟩)).setCell ⟨i,k*3+1,none⟩ (.int .i64 G)).setCell ⟨i,k*3+2,none⟩ (.string ⟨I.toArray⟩)).drew.drew:=by rw [<- f.1,<-f.2.1,<-f.2.2];rfl
    rw [Q] at O A P;clear L N Q;go_wp2_with fail;refine(aT _ wb g M {W with places:=W.places.set k S.val} {S with AB:=rest} .nothing O P).mono ?_;rintro e w2 ⟨rfl,h1,X,h3⟩;have H1:=h_ h1;have H2:=h_ X;have H3:=h_ h3;clear h1 X h3;go_wp2_with fail;go_ret;unfold BK;rw [T.out];exact⟨rfl,M,H1,((J.trans (A.mx g))).trans H3,fun _=>H2.out⟩
theorem kindTruth(v:PV):v=.AT false\/(v≠.AT false/\((vK v==[116,114,117,116,104])=false\/((vK v==[116,114,117,116,104])=true/\(vN v==0)=false))):=by
 cases v with
 | AT b=>cases b with
  | false=>exact .inl rfl
  | true=>exact .inr ⟨w9,.inr ⟨rfl,rfl⟩⟩
 | _=>exact .inr ⟨w9,.inl rfl⟩
theorem mX(w:World)(wb j:Nat)(M:Q5)(W:PW)(S:PS)(fr:CW)(rest:List CW)(hf:S.form=none)(hr:S.AB=fr::rest)(T:fr.form.k=.iff)(hW:RW w wb M W)(hS:RS M w j S) :Q2 41 #[Q0 wb,Q0 j] w fun e w'=>BK M w wb j W S e w':=by
 have x:Hid (Pl.taken W S=⟨0,W,({S with AB:=rest}:PS).work (if S.val=.AT false then fr.form.ks[2]? else fr.form.ks[1]?) fr.env⟩):=show Pl.taken W S=_ from by unfold Pl.taken;rw [hr];dsimp only;rw [T]
 have HW:=h_ hW;obtain⟨am,an,c0,c1,c2,ao,g,s1,s2,s3⟩:=hS;simp only [JN,hf] at s1;obtain⟨rfl,U⟩:=s1;simp only [cZ,List.cons.injEq,and_true] at U;obtain⟨rfl,rfl,rfl⟩:=U;rw [hr] at s3;obtain⟨fb,fv,gv,ev,up,rfl,u,hF,C,D,E⟩:=s3;obtain⟨b,dv,kv,nv,d0,d1,d2,us,rfl,hb,y,z,aa,ab,F,ac,ad⟩:=hF.open_;obtain⟨po,rfl⟩:=E.ptr;obtain⟨ea,l,rfl,ap⟩:=D.shape;obtain⟨ga,al,rfl,aq⟩:=C.shape;have HF:=h_ hF;have ae:=h_ D;have ar:=h_ C;have ak:=aB g;have x0:w.cell? ⟨j,0,none⟩=some (.pointer none):=aA g 0;have x2:w.cell? ⟨j,2,none⟩=some (.string ⟨(vK S.val).toArray⟩):=aA g 2;have x3:w.cell? ⟨j,3,none⟩=some (Q1 (vN S.val)):=aA g 3;have x4:w.cell? ⟨j,4,none⟩=some (.string ⟨(vS S.val).toArray⟩):=aA g 4;have x5:w.cell? ⟨j,5,none⟩=some (Q0 fb):=aA g 5;have y0:w.cell? ⟨fb,0,none⟩=some (Q0 b):=aA u 0;have y4:w.cell? ⟨fb,4,none⟩=some (.pointer po):=aA u 4;have g5:∀o:Obj,(w.alloc o).frozen? ⟨j,5,none⟩=false:=fun o=>aF ((Below.heap_alloc w o j ak).trans g) 5;have au:=aB u;have av:=aB hb;have qA:∀(o:Obj)(k Q:Nat),k<w.heap.size->(w.alloc o).cell? ⟨k,Q,none⟩=w.cell? ⟨k,Q,none⟩:=fun o k Q T=>(r_.alloc n_ o).cell (p:=⟨k,Q,none⟩) T;rw [T] at hb;have b0:w.cell? ⟨b,0,none⟩=some (.string ⟨#[105,102]⟩):=aA hb 0;have a:=(show Hid (Tk w _ wb j M W S rest) from Tk.mk_ (rest:=rest) hW g po zN9 s2 E)
 have af:=h_ u;have A:=h_ hb;have ag:fr.form.ks.length=3:=by rw [T] at F;exact F
 rcases kindTruth S.val with R | ⟨R,hq⟩
 ·have ah:vK S.val=[116,114,117,116,104]:=by rw [R];rfl
  have ai:vN S.val=0:=by rw [R];rfl
  obtain⟨V,ck,ob,d,rfl,G,H,⟨X,f⟩,Y,c,m⟩:=PN y z 2 x8;rw [ag] at A G;have I:=h_ m;have n:=h_ f;have J:=h_ Y;have HR:Hid (Pl.taken W S=⟨0,W,({S with AB:=rest}:PS).work (some d) fr.env⟩):=show _=_ from by rw [x.out,if_pos R,c]
  clear hf hr T hW g s2 E u hF C D hb y z aa ab F ac ad m f c Y x H;unfold AM at a;generalize q:vK S.val=v at *;generalize r:vN S.val=B at *;generalize s:vS S.val=K at *;have h:=(show Hid (vK S.val=v/\vN S.val=B/\vS S.val=K) from⟨q,r,s⟩)
  clear q r s;have q1:(v==[116,114,117,116,104])=true:=by rw [ah];rfl
  have q2:(B==0)=true:=by rw [ai];rfl
  clear ah ai R;go_enter func41,ntmps41;go_wp2_with fail;generalize (w.setCell ⟨j,5,none⟩ (.pointer po)).alloc (.cells #[.string ⟨v.toArray⟩,Q1 B,.string ⟨K.toArray⟩] 81)=i at *;have v0:i.cell? ⟨w.heap.size,0,none⟩=some (.string ⟨v.toArray⟩):=by rw [<- h.1];exact aA a.box 0
  have v1:i.cell? ⟨w.heap.size,1,none⟩=some (Q1 B):=by rw [<- h.2.1];exact aA a.box 1
  have v2:i.cell? ⟨w.heap.size,2,none⟩=some (.string ⟨K.toArray⟩):=by rw [<- h.2.2];exact aA a.box 2
  clear x0 x2 x3 x4 x5 y0 y4 g5 qA b0;have n3:i.cell? ⟨fb,3,none⟩=some (.slice ea fr.env.length l):=aA (a.kp.im _ _ _ (.inr (.inr (.inr (.inr (.inr rfl))))) af) 3;have n4:i.cell? ⟨b,3,none⟩=some (.slice (some ⟨V,0,none⟩) 3 ck):=aA (a.kp.im _ _ _ (.inr (.inr (.inl rfl))) A) 3;have n5:i.cell? ⟨V,2,none⟩=some (Q0 ob):=(aA (a.kp.im _ _ _ (.inr (.inr (.inr (.inl rfl)))) n) 2).trans ((aA n 2).symm.trans J);have t:=h_ a.SX;have L:=h_ a.rs;have N:=h_ (I.keep a.kp.im);have O:Hid (DF M i (.slice ea fr.env.length l) fr.env):=ae.kp a.kp (.inl rfl);have P:=h_ a.AQ;go_region_with (go_at_call 45;refine(cP _ wb j M W ({S with AB:=rest}:PS) d fr.env _ _ (RW.later t r_.drew) (RS.later (W:=W) (wb:=wb) L t r_.drew) (N.keep (CN _)) (O.AQ (Stp.AA r_.drew))).mono ?_;rintro e w2 ⟨rfl,Z,h2,h3⟩)
  all_goals
   have H1:=h_ Z;have H2:=h_ h2;have H3:=h_ h3;clear Z h2 h3;go_wp2_with fail;go_ret;unfold BK;rw [HR.out];exact⟨rfl,M,H1,P.trans (((Stp.AA r_.drew).mx j).trans H3),fun _=>H2.out⟩
 ·rcases hq with hq | ⟨hq,aj⟩
  ·obtain⟨V,ck,ob,d,rfl,G,H,⟨X,f⟩,Y,c,m⟩:=PN y z 1 x8;rw [ag] at A G;have I:=h_ m;have n:=h_ f;have J:=h_ Y;have HR:Hid (Pl.taken W S=⟨0,W,({S with AB:=rest}:PS).work (some d) fr.env⟩):=show _=_ from by rw [x.out,if_neg R,c]
   clear hf hr T hW g s2 E u hF C D hb y z aa ab F ac ad m f c Y x H;unfold AM at a;generalize q:vK S.val=v at *;generalize r:vN S.val=B at *;generalize s:vS S.val=K at *;have h:=(show Hid (vK S.val=v/\vN S.val=B/\vS S.val=K) from⟨q,r,s⟩)
   clear q r s;have q1:(v==[116,114,117,116,104])=false:=hq;clear hq R;exact zI2
  ·obtain⟨V,ck,ob,d,rfl,G,H,⟨X,f⟩,Y,c,m⟩:=PN y z 1 x8;rw [ag] at A G;have I:=h_ m;have n:=h_ f;have J:=h_ Y;have HR:Hid (Pl.taken W S=⟨0,W,({S with AB:=rest}:PS).work (some d) fr.env⟩):=show _=_ from by rw [x.out,if_neg R,c]
   clear hf hr T hW g s2 E u hF C D hb y z aa ab F ac ad m f c Y x H;unfold AM at a;generalize q:vK S.val=v at *;generalize r:vN S.val=B at *;generalize s:vS S.val=K at *;have h:=(show Hid (vK S.val=v/\vN S.val=B/\vS S.val=K) from⟨q,r,s⟩)
   clear q r s;have q1:(v==[116,114,117,116,104])=true:=hq;have q2:(B==0)=false:=aj;clear hq aj R;exact zI2
theorem WD(w:World)(wb d:Nat)(M:Q5)(W:PW)(S:PS)(fr:CW)(l m ev:Value)(n:Option Addr)(o:Int)(z:RW w wb M W)(A:RS M w d S)(p:RF w l fr.form)(q:CO M w m fr.B8)(r:DF M w ev fr.env)(B:S.AB.length<=1000000000) :Q2 44 #[Q0 d,.agg #[l,m,Q1 fr.pos,ev,.pointer n,Q1 o]] w fun e f=>e=.returned (.tuple #[])/\RW f wb M W/\RS M f d (S.push fr)/\Stp (Mx M d) w (Mx M d) f/\Kp M w M f:=by obtain⟨g,h,s,t,u,i,j,C,D,v⟩:=A;obtain⟨b,_,_,_,_,_,_,_,rfl,_⟩:=p.open_;obtain⟨E,x,rfl,_⟩:=q.shape;obtain⟨F,y,rfl,_⟩:=r.shape;refine(lI M w d g h s t u i S.AB _ E F n _ _ _ _ _ o j v B).mono ?_;rintro e f ⟨rfl,a,k,G⟩;have c:Kp M w M f:=eV a j eC.2.2.2.2.2.2 w8 w8;refine⟨rfl,z.grown a j eC,⟨g,h,s,t,u,_,k,C.keep c.im,D.kp c (.inl rfl),?_⟩,bV a,c⟩;exact⟨w.heap.size,_,_,_,_,rfl,G,p.keep c.im,q.kp c (.inr rfl),r.kp c (.inl rfl),DT.kp c _ _ v⟩
theorem rC(w:World):Kp M w M w.drew.drew:=⟨fun _ _ _ _ h=>h,fun _ _ _ _ a h=>⟨h,a⟩⟩
theorem ref_taken_begin(w:World)(wb c:Nat)(M:Q5)(W:PW)(S:PS)(fr:CW)(rest:List CW)(hf:S.form=none)(hr:S.AB=fr::rest)(L:fr.form.k=.begin)(hW:RW w wb M W)(hS:RS M w c S)(Q:fr.pos<fr.form.ks.length)(bg:rest.length<=100000000) :Q2 41 #[Q0 wb,Q0 c] w fun e N=>BK M w wb c W S e N:=by
 have q:Hid (Pl.taken W S=⟨0,W,(if fr.pos+1<fr.form.ks.length then({S with AB:=rest}:PS).push {fr with B8:=[],pos:=fr.pos+1} else {S with AB:=rest}).work fr.form.ks[fr.pos]? fr.env⟩):=show Pl.taken W S=_ from by unfold Pl.taken;rw [hr];dsimp only;rw [L]
 have HW:=h_ hW;obtain⟨bh,bi,c0,c1,c2,bj,h,s1,s2,s3⟩:=hS;simp only [JN,hf] at s1;obtain⟨rfl,x⟩:=s1;simp only [cZ,List.cons.injEq,and_true] at x;obtain⟨rfl,rfl,rfl⟩:=x;rw [hr] at s3;obtain⟨u,fv,gv,ev,up,rfl,s,hF,z,A,B⟩:=s3;obtain⟨b,dv,kv,nv,d0,d1,d2,us,rfl,R,T,U,al,am,an,bk,ao⟩:=hF.open_;obtain⟨po,rfl⟩:=B.ptr;obtain⟨C,f,rfl,bl⟩:=A.shape;obtain⟨ga,V,rfl,bm⟩:=z.shape;have HF:=h_ hF;have ap:=h_ A;have bn:=h_ z;have aq:=aB h;have x0:w.cell? ⟨c,0,none⟩=some (.pointer none):=aA h 0;have x2:w.cell? ⟨c,2,none⟩=some (.string ⟨(vK S.val).toArray⟩):=aA h 2;have x3:w.cell? ⟨c,3,none⟩=some (Q1 (vN S.val)):=aA h 3;have x4:w.cell? ⟨c,4,none⟩=some (.string ⟨(vS S.val).toArray⟩):=aA h 4;have x5:w.cell? ⟨c,5,none⟩=some (Q0 u):=aA h 5;have y0:w.cell? ⟨u,0,none⟩=some (Q0 b):=aA s 0;have y4:w.cell? ⟨u,4,none⟩=some (.pointer po):=aA s 4;have g5:∀o:Obj,(w.alloc o).frozen? ⟨c,5,none⟩=false:=fun o=>aF ((Below.heap_alloc w o c aq).trans h) 5;have bo:=aB s;have bp:=aB R;have qA:∀(o:Obj)(k v:Nat),k<w.heap.size->(w.alloc o).cell? ⟨k,v,none⟩=w.cell? ⟨k,v,none⟩:=fun o k v L=>(r_.alloc n_ o).cell (p:=⟨k,v,none⟩) L;rw [L] at R;have b0:w.cell? ⟨b,0,none⟩=some (.string ⟨#[98,101,103,105,110]⟩):=aA R 0;have a:=(show Hid (Tk w _ wb c M W S rest) from Tk.mk_ (rest:=rest) hW h po zN9 s2 B)
 have D:=h_ s;have E:=h_ R;rw [show Pl.FK.begin=fr.form.k from L.symm] at E;obtain⟨O,ck,ob,j,rfl,bq,ar,⟨X,y⟩,e0,t,Y⟩:=PN T U fr.pos Q;have au:=h_ Y;have F:=h_ y;have Z:=h_ e0;have aa:=h_ t;clear hf hr L hW h s2 B s hF z A R T U al am an ao Y y t e0 ar;unfold AM at a;generalize ab:vK S.val=kk at *;generalize ac:vN S.val=nn at *;generalize ad:vS S.val=ss at *;have G:=(show Hid (vK S.val=kk/\vN S.val=nn/\vS S.val=ss) from⟨ab,ac,ad⟩)
 clear ab ac ad;go_enter func41,ntmps41
 go_upto_region 28 with fail
 generalize (w.setCell ⟨c,5,none⟩ (.pointer po)).alloc (.cells #[.string ⟨kk.toArray⟩,Q1 nn,.string ⟨ss.toArray⟩] 81)=d at *;have v0:d.cell? ⟨w.heap.size,0,none⟩=some (.string ⟨kk.toArray⟩):=by rw [<- G.1];exact aA a.box 0
 have v1:d.cell? ⟨w.heap.size,1,none⟩=some (Q1 nn):=by rw [<- G.2.1];exact aA a.box 1
 have v2:d.cell? ⟨w.heap.size,2,none⟩=some (.string ⟨ss.toArray⟩):=by rw [<- G.2.2];exact aA a.box 2
 clear x0 x2 x3 x4 x5 y0 y4 g5 qA b0;have n2:d.cell? ⟨u,2,none⟩=some (Q1 fr.pos):=aA (a.kp.im _ _ _ (.inr (.inr (.inr (.inr (.inr rfl))))) D) 2;have n3:d.cell? ⟨u,3,none⟩=some (.slice C fr.env.length f):=aA (a.kp.im _ _ _ (.inr (.inr (.inr (.inr (.inr rfl))))) D) 3;have n4:d.cell? ⟨b,3,none⟩=some (.slice (some ⟨O,0,none⟩) fr.form.ks.length ck):=aA (a.kp.im _ _ _ (.inr (.inr (.inl rfl))) E) 3;have g:=h_ a.SX;have n:=h_ a.rs;have av:=h_ (HF.keep a.kp.im);have l:=h_ (au.keep a.kp.im);have i:Hid (DF M d (.slice C fr.env.length f) fr.env):=ap.kp a.kp (.inl rfl);have m:=h_ a.AQ;have aw:Hid (d.heap[b]?=some (.cells #[AM (H5 fr.form.k),AM fr.form.nm,dv,.slice (some ⟨O,0,none⟩) fr.form.ks.length ck,nv,d0,d1,d2] NE (0,0))):=a.kp.im _ _ _ (.inr (.inr (.inl rfl))) E;have ae:Hid (d.heap[u]?=some (.cells #[Q0 b,.slice ga fr.B8.length V,Q1 fr.pos,.slice C fr.env.length f,.pointer po,Q1 (rest.length+1:Nat)] TFr (0,0))):=a.kp.im _ _ _ (.inr (.inr (.inr (.inr (.inr rfl))))) D;have af:Hid (d.heap[O]?=some (.cells X LN (0,0))):=a.kp.im _ _ _ (.inr (.inr (.inr (.inl rfl)))) F;have br:(fr.pos:Int)<(fr.form.ks.length:Int):=by omega
 have n5:d.cell? ⟨O,fr.pos,none⟩=some (Q0 ob):=(aA af fr.pos).trans ((aA F fr.pos).symm.trans Z)
 go_cut [163] (fun ag P=>ag=.bool (decide ((fr.pos:Int)+1<(fr.form.ks.length:Int)))/\P=d.drew)
 case first =>
  go_region
  all_goals
   go_wp2_with fail
   go_meet
   exact⟨rfl,rfl⟩
 case rest =>
  obtain⟨rfl,rfl⟩:=hcut;have H:Hid (RW d.drew wb M W):=RW.later g r_.drew;have ah:Hid (RS M d.drew c {S with AB:=rest}):=n.later g r_.drew;by_cases ai:fr.pos+1<fr.form.ks.length
  ·rw [if_pos ai] at q;have HR:Hid (Pl.taken W S=⟨0,W,(({S with AB:=rest}:PS).push {fr with B8:=[],pos:=fr.pos+1}).work (some j) fr.env⟩):=show _=_ from by rw [q.out,aa.out]
   have ax:decide ((fr.pos:Int)+1<(fr.form.ks.length:Int))=true:=by simp;omega
   clear q;have ay:IntKind.i64.wrap ((fr.pos:Int)+1)=(fr.pos:Int)+1:=IntWalk.i64_in _ x8;have az:Hid (Q2 44 #[Q0 c,.agg #[Q0 b,.slice none 0 0,Q1 ((fr.pos:Int)+1),.slice C fr.env.length f,.pointer none,Q1 0]] d.drew.drew fun e N=>e=.returned (.tuple #[])/\RW N wb M W/\RS M N c (({S with AB:=rest}:PS).push {fr with B8:=[],pos:=fr.pos+1})/\Stp (Mx M c) d.drew.drew (Mx M c) N/\Kp M d.drew.drew M N) :=WD d.drew.drew wb c M W {S with AB:=rest} {fr with B8:=[],pos:=fr.pos+1} _ _ _ none 0 (RW.later H r_.drew) (ah.later H r_.drew) (av.keep (rC (M:=M) d).im) (pQ _ _) (i.AQ (Stp.AA (r_.drew.drew))) (by show rest.length<=_;omega)
   go_upto_region 29 with fail
   go_cut [] (fun P=>Hid (RW P wb M W)/\Hid (RS M P c (({S with AB:=rest}:PS).push {fr with B8:=[],pos:=fr.pos+1}))/\Hid (Stp (Mx M c) w (Mx M c) P)/\Hid (Kp M d M P))
   case first =>
    go_region_with (go_at_call 44;refine Calls.mono az ?_;rintro e w1 ⟨rfl,I,J,K,h4⟩)
    all_goals
     go_wp2_with fail
     go_meet
     exact⟨I,J,m.trans (((Stp.AA (r_.drew.drew)).mx c).trans K),(rC d).trans h4⟩
   case rest =>
    obtain⟨ba,bb,bc,r⟩:=hcut;have m2:wc.cell? ⟨u,2,none⟩=some (Q1 fr.pos):=aA (r.im _ _ _ (.inr (.inr (.inr (.inr (.inr rfl))))) ae) 2;have m3:wc.cell? ⟨u,3,none⟩=some (.slice C fr.env.length f):=aA (r.im _ _ _ (.inr (.inr (.inr (.inr (.inr rfl))))) ae) 3;have m4:wc.cell? ⟨b,3,none⟩=some (.slice (some ⟨O,0,none⟩) fr.form.ks.length ck):=aA (r.im _ _ _ (.inr (.inr (.inl rfl))) aw) 3;have m5:wc.cell? ⟨O,fr.pos,none⟩=some (Q0 ob):=(aA (r.im _ _ _ (.inr (.inr (.inr (.inl rfl)))) af) fr.pos).trans ((aA F fr.pos).symm.trans Z);have aj:=h_ (l.keep r.im);have ak:Hid (DF M wc (.slice C fr.env.length f) fr.env):=i.kp r (.inl rfl);clear g n l i m n2 n3 n4 n5 v0 v1 v2;have g:=ba;have n:=bb;have l:=aj;have i:=ak;have m:=bc;go_wp2_with fail;go_region_with (go_at_call 45;refine(cP _ wb c M W (({S with AB:=rest}:PS).push {fr with B8:=[],pos:=fr.pos+1}) j fr.env _ _ (RW.later g r_.drew) (RS.later (W:=W) (wb:=wb) n g r_.drew) (l.keep (CN _)) (i.AQ (Stp.AA r_.drew))).mono ?_;rintro e w2 ⟨rfl,I,J,K⟩)
    all_goals
     have H1:=h_ I;have H2:=h_ J;have H3:=h_ K;clear I J K;go_wp2_with fail;go_ret;unfold BK;rw [HR.out];exact⟨rfl,M,H1,m.trans (((Stp.AA r_.drew).mx c).trans H3),fun _=>H2.out⟩
  ·rw [if_neg ai] at q;have HR:Hid (Pl.taken W S=⟨0,W,({S with AB:=rest}:PS).work (some j) fr.env⟩):=show _=_ from by rw [q.out,aa.out]
   have ax:decide ((fr.pos:Int)+1<(fr.form.ks.length:Int))=false:=by simp;omega
   have m2:d.drew.cell? ⟨u,2,none⟩=some (Q1 fr.pos):=n2;have bd:Hid (Stp (Mx M c) w (Mx M c) d.drew):=m.trans ((Stp.AA r_.drew).mx c);have be:Hid (RF d.drew (Q0 ob) j):=l.keep (CN _);have bf:Hid (DF M d.drew (.slice C fr.env.length f) fr.env):=i.AQ (Stp.AA r_.drew);clear q g n l i m;have g:=H;have n:=ah;have l:=be;have i:=bf;have m:=bd;go_wp2_with fail;go_region_with (go_at_call 45;refine(cP _ wb c M W ({S with AB:=rest}:PS) j fr.env _ _ (RW.later g r_.drew) (RS.later (W:=W) (wb:=wb) n g r_.drew) (l.keep (CN _)) (i.AQ (Stp.AA r_.drew))).mono ?_;rintro e w2 ⟨rfl,I,J,K⟩)
   all_goals
    have H1:=h_ I;have H2:=h_ J;have H3:=h_ K;clear I J K;go_wp2_with fail;go_ret;unfold BK;rw [HR.out];exact⟨rfl,M,H1,m.trans (((Stp.AA r_.drew).mx c).trans H3),fun _=>H2.out⟩
theorem nZ(l:List PV):(l.flatMap cZ).length=l.length*3:=by
 induction l with
 | nil=>rfl
 | cons x l a=>simp only [List.flatMap_cons,a_,a,cZ,c_,z_];omega
theorem xZ(w:World)(wb d:Nat)(M:Q5)(W:PW)(S:PS)(fr:CW)(l m ev:Value)(n:Option Addr)(o:Int)(z:RW w wb M W)(A:RS M w d S)(p:RF w l fr.form)(q:CO M w m fr.B8)(r:DF M w ev fr.env)(B:S.AB.length<=1000000000) :Q2 44 #[Q0 d,.agg #[l,m,Q1 fr.pos,ev,.pointer n,Q1 o]] w fun e f=>e=.returned (.tuple #[])/\RW f wb M W/\RS M f d (S.push fr)/\Stp (Mx M d) w (Mx M d) f/\Kp M w M f:=by obtain⟨g,h,s,t,u,i,j,C,D,v⟩:=A;obtain⟨b,_,_,_,_,_,_,_,rfl,_⟩:=p.open_;obtain⟨E,x,rfl,_⟩:=q.shape;obtain⟨F,y,rfl,_⟩:=r.shape;refine(lI M w d g h s t u i S.AB _ E F n _ _ _ _ _ o j v B).mono ?_;rintro e f ⟨rfl,a,k,G⟩;have c:Kp M w M f:=eV a j eC.2.2.2.2.2.2 w8 w8;refine⟨rfl,z.grown a j eC,⟨g,h,s,t,u,_,k,C.keep c.im,D.kp c (.inl rfl),?_⟩,bV a,c⟩;exact⟨w.heap.size,_,_,_,_,rfl,G,p.keep c.im,q.kp c (.inr rfl),r.kp c (.inl rfl),DT.kp c _ _ v⟩
theorem kp_dr(w:World):Kp M w M w.drew.drew:=⟨fun _ _ _ _ h=>h,fun _ _ _ _ a h=>⟨h,a⟩⟩
theorem z6{w':World}(h:Q3 w w'):Kp M w M w':=⟨fun k _ _ _ a=>(h.block k (aB a)).trans a,fun k _ _ _ b a=>⟨(h.block k (aB a)).trans a,b⟩⟩
theorem YP{base g cap n:Nat}{l:List PV}(h:w.ownsRow base TV 3 (.slice (some ⟨g,0,none⟩) n cap) n (l.flatMap cZ))(e:l.length=n)(f:¬M g):CO M w (.slice (some ⟨g,0,none⟩) n cap) l:=by show Sl _ _ _ _ _ _ _;rw [e];obtain⟨i,j,c,d,k,m⟩:=gT (⟨h.1,h.2.imp id (fun⟨g,cap,b,a,_,c⟩=>⟨g,cap,b,a,Nat.zero_le _,c⟩)⟩:w.ownsRow 0 TV 3 (.slice (some ⟨g,0,none⟩) n cap) n (l.flatMap cZ));refine⟨i,j,c,d,k,m.imp id ?_⟩;rintro⟨r,o,b,rfl,_,p,q⟩;simp only [Value.slice.injEq,o_,Addr.mk.injEq,and_true] at d;obtain⟨⟨rfl,rfl⟩,_⟩:=d;exact⟨g,0,b,rfl,f,p,q⟩
theorem aAC{g cap:Nat}{v:PV}{l:List PV}(h:CO M w (.slice (some ⟨g,0,none⟩) (l.length+1) cap) (v::l))(b:Option Addr)(m c:Nat)(p:m=l.length)(q:l.length<=c)(r:m≠0->b=some ⟨g,3,none⟩):CO M w (.slice b m c) l:=by
 subst p;obtain⟨_,s,k,e,_,d⟩:=h;simp only [Value.slice.injEq] at e;obtain⟨rfl,_,rfl⟩:=e;refine⟨nZ l,b,c,rfl,q,?_⟩;by_cases n:l.length=0
 ·exact .inl n
 ·right;obtain rfl:=r n;rcases d with d | ⟨z,t,f,o,j,x,a⟩
  ·simp at d
  ·simp only [o_,Addr.mk.injEq,and_true] at o;obtain⟨rfl,rfl⟩:=o;refine⟨g,3,f,rfl,j,x,fun i u y=>?_⟩;have:=a (3+i) u (by simp only [List.flatMap_cons,cZ,List.cons_append,List.nil_append];rw [show 3+i=i+1+1+1 from by omega];simpa using y)
   rwa [Nat.zero_add] at this
theorem kE(hI:AY)(w:World)(wb f:Nat)(M:Q5)(W:PW)(S:PS)(fr:CW)(rest:List CW)(hf:S.form=none)(hr:S.AB=fr::rest)(Z:fr.form.k=.call)(hW:RW w wb M W)(hS:RS M w f S)(hG:Gs w (Mx M f))(aa:fr.B8.length+1=fr.pos)(de:fr.pos<=fr.form.ks.length)(dl:rest.length<=100000000)(hv:BL W S.val)(av:∀v∈fr.B8,BL W v)(hP:L2 W)(hB:Bd W) :Q2 41 #[Q0 wb,Q0 f] w fun e w'=>BK M w wb f W S e w':=by
 obtain⟨i0,ah,aw,ax,ay⟩:=info_parts Tryz.TU;have D:Hid (Pl.taken W S=if fr.pos=fr.form.ks.length then(match fr.B8++[S.val] with | []=>⟨9,W,{S with AB:=rest}⟩ | g::d=>Pl.apply W {S with AB:=rest} g d) else⟨0,W,(({S with AB:=rest}:PS).push {fr with B8:=fr.B8++[S.val],pos:=fr.pos+1}).work fr.form.ks[fr.pos]? fr.env⟩):=show Pl.taken W S=_ from by unfold Pl.taken;rw [hr];dsimp only;rw [Z];rfl
 have bw:=h_ hG;have HP:=h_ hP;have bx:=h_ hB
 have az:Hid (∀v∈fr.B8++[S.val],BL W v):=fun v h=>by
  rcases List.mem_append.1 h with h | h
  ·exact av v h
  ·obtain rfl:v=S.val:=by simpa using h
   exact hv
 have bz:Hid (∀k,M k->k<w.heap.size):=fun k Z=>hW.lt Z;have HI:Hid AY:=hI;have HW:=h_ hW;obtain⟨dm,dn,c0,c1,c2,dp,l,s1,s2,s3⟩:=hS;simp only [JN,hf] at s1;obtain⟨rfl,ab⟩:=s1;simp only [cZ,List.cons.injEq,and_true] at ab;obtain⟨rfl,rfl,rfl⟩:=ab;rw [hr] at s3;obtain⟨fb,fv,gv,ev,up,rfl,H,hF,ai,aj,ak⟩:=s3;obtain⟨b,dv,kv,nv,d0,d1,d2,us,rfl,hb,al,ba,ca,cb,cc,dq,cd⟩:=hF.open_;obtain⟨po,rfl⟩:=ak.ptr;obtain⟨ea,I,rfl,dr⟩:=aj.shape;obtain⟨ga,y,rfl,ds⟩:=ai.shape;have HF:=h_ hF;have bc:=h_ aj;have ce:=h_ ai;have cf:=aB l;have x0:w.cell? ⟨f,0,none⟩=some (.pointer none):=aA l 0;have x2:w.cell? ⟨f,2,none⟩=some (.string ⟨(vK S.val).toArray⟩):=aA l 2;have x3:w.cell? ⟨f,3,none⟩=some (Q1 (vN S.val)):=aA l 3;have x4:w.cell? ⟨f,4,none⟩=some (.string ⟨(vS S.val).toArray⟩):=aA l 4;have x5:w.cell? ⟨f,5,none⟩=some (Q0 fb):=aA l 5;have y0:w.cell? ⟨fb,0,none⟩=some (Q0 b):=aA H 0;have y4:w.cell? ⟨fb,4,none⟩=some (.pointer po):=aA H 4;have g5:∀o:Obj,(w.alloc o).frozen? ⟨f,5,none⟩=false:=fun o=>aF ((Below.heap_alloc w o f cf).trans l) 5;have dt:=aB H;have du:=aB hb;have qA:∀(o:Obj)(k T:Nat),k<w.heap.size->(w.alloc o).cell? ⟨k,T,none⟩=w.cell? ⟨k,T,none⟩:=fun o k T Z=>(r_.alloc n_ o).cell (p:=⟨k,T,none⟩) Z;rw [Z] at hb;have b0:w.cell? ⟨b,0,none⟩=some (.string ⟨#[99,97,108,108]⟩):=aA hb 0;have i:=(show Hid (Tk w _ wb f M W S rest) from Tk.mk_ (rest:=rest) hW l po zN9 s2 ak)
 have J:=h_ H;have am:=h_ hb;rw [show Pl.FK.call=fr.form.k from Z.symm] at am;have cg:=h_ al;have ch:=h_ ba;have dw:fr.B8.length<=1000:=by omega
 obtain⟨ka,bd,rfl,dx⟩:=dN al;have dy:=h_ aa;clear hf hr Z hW l s2 ak H hF ai aj hb al ba ca cb cc cd hG hP hB hv av hI aa;unfold AM at i;generalize be:vK S.val=kk at *;generalize bf:vN S.val=nn at *;generalize bg:vS S.val=ss at *;have E:=(show Hid (vK S.val=kk/\vN S.val=nn/\vS S.val=ss) from⟨be,bf,bg⟩)
 clear be bf bg;go_enter func41,ntmps41
 go_upto_region 7 with fail
 generalize (w.setCell ⟨f,5,none⟩ (.pointer po)).alloc (.cells #[.string ⟨kk.toArray⟩,Q1 nn,.string ⟨ss.toArray⟩] 81)=n at *;have v0:n.cell? ⟨w.heap.size,0,none⟩=some (.string ⟨kk.toArray⟩):=by rw [<- E.1];exact aA i.box 0
 have v1:n.cell? ⟨w.heap.size,1,none⟩=some (Q1 nn):=by rw [<- E.2.1];exact aA i.box 1
 have v2:n.cell? ⟨w.heap.size,2,none⟩=some (.string ⟨ss.toArray⟩):=by rw [<- E.2.2];exact aA i.box 2
 clear x0 x2 x3 x4 x5 y0 y4 g5 qA b0;have n1:n.cell? ⟨fb,1,none⟩=some (.slice ga fr.B8.length y):=aA (i.kp.im _ _ _ (.inr (.inr (.inr (.inr (.inr rfl))))) J) 1;have ci:Hid (CO M n (.slice ga fr.B8.length y) fr.B8):=ce.kp i.kp (.inr rfl);have df:w.heap.size<=n.heap.size:=i.AQ.size;have K:w.heap.size<n.heap.size:=World.block_lt_of_cell? _ _ v0
 go_cut [10] (fun L G=>Hid (G.ownsRow n.heap.size TV 3 L fr.B8.length (fr.B8.flatMap cZ))/\Hid (Q3 n G))
 case first =>
  by_cases hz:fr.B8.length=0
  ·have HZ:=h_ (e_ hz);have dz:n.cell? ⟨fb,1,none⟩=some (.slice ga 0 y):=by rw [n1,hz]
   clear n1 hz;go_wp2_with (first | (at_builtin;refine dG rfl _ _ 52 rfl 81 i0 underlying52 ah ga y rfl rfl ?_))
   go_meet
   exact⟨zP3,r_⟩
  ·obtain⟨ge,oe,rfl,eb,_,bh⟩:=Sl.cell ci x8;have ac:∀(j:Nat)(u:Value),(fr.B8.flatMap cZ)[j]?=some u->n.cell? ((⟨ge,oe,none⟩:Addr).add j)=some u:=fun j u hu=>by rw [Addr.add_lit];exact bh j u hu
   have cj:=h_ ac;clear bh ac;go_wp2_with (first | (at_builtin;refine wpList_append_lies _ rfl _ _ 52 rfl n.heap.size 81 i0 _ 3 40 underlying52 ah aw ax ay rfl w8 (.slice none 0 0) 0 [] rfl (World.ownsRow_nil _ _ _ _) ⟨ge,oe,none⟩ fr.B8.length y (fr.B8.flatMap cZ) rfl (nZ fr.B8) cj (by intro u hu;obtain⟨bb,_,bi⟩:=List.mem_flatMap.1 hu;simp only [cZ,List.mem_cons,List.not_mem_nil,or_false] at bi;rcases bi with rfl | rfl | rfl<;>rfl) x8 o6 x8 n_ n.heap.size rfl ?_;intro g3 N w3 q s bj bk))
   go_meet
   refine⟨show World.ownsRow _ _ TV _ _ _ _ from(by have h:=q;simp only [Nat.zero_add,List.nil_append] at h;exact h),cS s⟩
 case rest =>
  obtain⟨ad,O⟩:=hcut;have cl:=(O.cell (p:=⟨w.heap.size,0,none⟩) K).trans v0;have cm:=(O.cell (p:=⟨w.heap.size,1,none⟩) K).trans v1;have cn:=(O.cell (p:=⟨w.heap.size,2,none⟩) K).trans v2;have bl:=O.size;clear n1 v0 v1 v2
  go_upto_region 8 with fail
  go_cut [10] (fun L G=>∃(g:Nat)(an:Nat),L=.slice (some ⟨g,0,none⟩) (fr.B8.length+1) an/\fr.B8.length+1<=an/\Hid (G.ownsRow n.heap.size TV 3 (.slice (some ⟨g,0,none⟩) (fr.B8.length+1) an) (fr.B8.length+1) ((fr.B8++[S.val]).flatMap cZ))/\Hid (Q3 n G))
  case first =>
   have ec:∀o:Obj,(wc.alloc o).cell? ⟨w.heap.size,0,none⟩=wc.cell? ⟨w.heap.size,0,none⟩:=fun o=>(r_.alloc n_ o).cell (p:=⟨w.heap.size,0,none⟩) (by show w.heap.size<wc.heap.size;omega);go_wp2_with (first | (at_builtin;refine wpList_append_lies _ rfl _ _ 52 rfl n.heap.size 81 i0 _ 3 40 underlying52 ah aw ax ay rfl w8 _ fr.B8.length (fr.B8.flatMap cZ) rfl (ad.alloc _) ⟨wc.heap.size,0,none⟩ 1 1 [.string ⟨kk.toArray⟩,Q1 nn,.string ⟨ss.toArray⟩] rfl rfl (World.news_of_block (cs:=#[.string ⟨kk.toArray⟩,Q1 nn,.string ⟨ss.toArray⟩]) (t:=81) (fr:=(0,0)) (heap_alloc_new wc _)) zO7 w8 o6 x8 r7 (wc.heap.size+1) w9 ?_;intro g3 N w3 q s bj bk))
   go_meet
   have co:fr.B8.length+1<=N:=by obtain⟨ao,cp,U,e2⟩:=dN q;simp only [Value.slice.injEq] at U;obtain⟨_,_,rfl⟩:=U;exact e2
   refine⟨g3,N,rfl,co,?_,(O.alloc bl _).grown s r7 (fun j hj=>(ad.lt j hj).1)⟩;have this:World.ownsRow w3 n.heap.size TV 3 _ _ _:=q;show World.ownsRow _ _ TV _ _ _ _;rw [List.flatMap_append];have U:[S.val].flatMap cZ=[.string ⟨kk.toArray⟩,Q1 nn,.string ⟨ss.toArray⟩]:=by rw [<- E.1,<-E.2.1,<-E.2.2];rfl
   rw [U];exact this
  case rest =>
   obtain⟨g,P,rfl,dg,z,C⟩:=hcut;have F:=h_ (i.kp.trans (z6 C));have n2:wc.cell? ⟨fb,2,none⟩=some (Q1 fr.pos):=aA (F.im _ _ _ (.inr (.inr (.inr (.inr (.inr rfl))))) J) 2;have n4:wc.cell? ⟨b,3,none⟩=some (.slice ka fr.form.ks.length bd):=aA (F.im _ _ _ (.inr (.inr (.inl rfl))) am) 3;have V:=h_ (RW.later i.SX C);have bm:=h_ (i.rs.later i.SX C);have ap:=h_ (i.AQ.trans ((Stp.AA C).mx f));have bn:¬M g:=fun hm=>by have:=bz.out g hm;have:=(z.lt g rfl).1;omega
   have ae:Hid (CO M wc (.slice (some ⟨g,0,none⟩) (fr.B8.length+1) P) (fr.B8++[S.val])):=YP z w9 bn;have dh:=(z.lt g rfl).2;clear cl cm cn bn
   go_upto_region 9 with fail
   go_cut [53] (fun cq G=>cq=.bool ((fr.pos:Int)==(fr.form.ks.length:Int))/\G=wc.drew)
   case first =>
    go_region
    all_goals
     go_wp2_with fail
     go_meet
     exact⟨rfl,rfl⟩
   case rest =>
    obtain⟨rfl,rfl⟩:=hcut;by_cases hp:fr.pos=fr.form.ks.length
    ·rw [if_pos hp] at D;have cr:((fr.pos:Int)==(fr.form.ks.length:Int))=true:=by rw [beq_iff_eq];omega
     obtain⟨A,d,hl⟩:∃A d,fr.B8++[S.val]=A::d:=by
      cases ed:fr.B8 with
      | nil=>exact⟨_,_,rfl⟩
      | cons a r=>exact⟨a,r++[S.val],rfl⟩
     have aq:d.length=fr.B8.length:=by have:=congrArg List.length hl;simp at this;omega
     have HR:Hid (Pl.taken W S=Pl.apply W {S with AB:=rest} A d):=show _=_ from by rw [D.out,hl]
     have X:=ae.out;rw [hl,<-aq] at X;have ct:=h_ X;obtain⟨g',di,e',_,_,x⟩:=Sl.cell X w9;simp only [o_,Addr.mk.injEq,and_true] at e';obtain⟨rfl,rfl⟩:=e';have k0:wc.cell? ⟨g,0,none⟩=some (.string ⟨(vK A).toArray⟩):=x 0 _ rfl;have k1:wc.cell? ⟨g,1,none⟩=some (Q1 (vN A)):=x 1 _ rfl;have k2:wc.cell? ⟨g,2,none⟩=some (.string ⟨(vS A).toArray⟩):=x 2 _ rfl;have bo:Hid (∀(ao:Option Addr)(m c:Nat),m=d.length->d.length<=c->(m≠0->ao=some ⟨g,3,none⟩)->Q2 57 #[Q0 wb,Q0 f,.agg #[.string ⟨(vK A).toArray⟩,Q1 (vN A),.string ⟨(vS A).toArray⟩],.slice ao m c] wc.drew.drew fun e w'=>F9 M wc.drew.drew wb f (Pl.apply W {S with AB:=rest} A d) e w'):=fun ao m c U e2 e3 =>uF HI wc.drew.drew wb f M W {S with AB:=rest} A _ d (RW.later V (r_.drew.drew)) (bm.later V (r_.drew.drew)) ((bw.AQ ap).below (r_.drew.drew)) ((aAC ct ao m c U e2 e3).kp (kp_dr wc) (.inr rfl)) (az A (by rw [hl];simp)) (fun v hv=>az.out v (by rw [hl];exact List.mem_cons_of_mem _ hv)) HP bx x8;have Y:=h_ aq;clear X x hl D hp aq;generalize vK A=ee at *;generalize vN A=ef at *;generalize vS A=eg at *;have bp:Hid (Stp (Mx M f) w (Mx M f) wc.drew.drew):=ap.trans ((Stp.AA (r_.drew.drew)).mx f);by_cases cu:P=1
     ·subst cu;have cv:fr.B8.length=0:=by omega
      have ar:=h_ cv;go_wp2_with fail;go_region_with (go_at_call 57;refine Calls.mono (bo _ _ _ (by have:=Y.out;have:=ar.out;omega) (by have:=Y.out;have:=ar.out;omega) (fun h=>absurd (by have:=ar.out;omega) h)) ?_;rintro e w5 ⟨rfl,Q⟩)
      all_goals
       have au:=h_ Q;clear Q;go_wp2_with fail;go_ret;unfold BK;rw [HR.out];obtain⟨M',y1,y2,y3⟩:=au.out;exact⟨rfl,M',y1,bp.trans y2,y3⟩
     ·have eh:P-1≠0:=by omega
      go_wp2_with fail
      go_region_with (go_at_call 57;refine Calls.mono (bo _ _ _ (by have:=Y.out;omega) (by have:=Y.out;omega) (fun _=>rfl)) ?_;rintro e w5 ⟨rfl,Q⟩)
      all_goals
       have au:=h_ Q;clear Q;go_wp2_with fail;go_ret;unfold BK;rw [HR.out];obtain⟨M',y1,y2,y3⟩:=au.out;exact⟨rfl,M',y1,bp.trans y2,y3⟩
    ·rw [if_neg hp] at D;have cr:((fr.pos:Int)==(fr.form.ks.length:Int))=false:=by rw [beq_eq_false_iff_ne];omega
     have bq:fr.pos<fr.form.ks.length:=by omega
     obtain⟨gk,ck,ob,af,U,ei,cw,⟨dj,ag⟩,e0,R,br⟩:=PN cg ch fr.pos bq;simp only [Value.slice.injEq] at U;obtain⟨rfl,_,rfl⟩:=U;have HR:Hid (Pl.taken W S=⟨0,W,(({S with AB:=rest}:PS).push {fr with B8:=fr.B8++[S.val],pos:=fr.pos+1}).work (some af) fr.env⟩):=show _=_ from by rw [D.out,R]
     have cx:=h_ br;have bs:=h_ ag;have cy:=h_ e0;have cz:IntKind.i64.wrap ((fr.pos:Int)+1)=(fr.pos:Int)+1:=IntWalk.i64_in _ x8;have ej:(fr.pos:Int)<(fr.form.ks.length:Int):=by omega
     have bt:Hid (CO M wc.drew.drew (.slice (some ⟨g,0,none⟩) (fr.B8.length+1) P) (fr.B8++[S.val])):=ae.kp (kp_dr wc) (.inr rfl);have n3:wc.cell? ⟨fb,3,none⟩=some (.slice ea fr.env.length I):=aA (F.im _ _ _ (.inr (.inr (.inr (.inr (.inr rfl))))) J) 3;have bu:Hid (Q2 44 #[Q0 f,.agg #[Q0 b,.slice (some ⟨g,0,none⟩) (fr.B8.length+1) P,Q1 ((fr.pos:Int)+1),.slice ea fr.env.length I,.pointer none,Q1 0]] wc.drew.drew fun e w'=>e=.returned (.tuple #[])/\RW w' wb M W/\RS M w' f (({S with AB:=rest}:PS).push {fr with B8:=fr.B8++[S.val],pos:=fr.pos+1})/\Stp (Mx M f) wc.drew.drew (Mx M f) w'/\Kp M wc.drew.drew M w') :=xZ wc.drew.drew wb f M W {S with AB:=rest} {fr with B8:=fr.B8++[S.val],pos:=fr.pos+1} _ _ _ none 0 (RW.later V (r_.drew.drew)) (bm.later V (r_.drew.drew)) (HF.keep (F.trans (kp_dr wc)).im) bt (bc.kp (F.trans (kp_dr wc)) (.inl rfl)) (by show rest.length<=_;omega);clear D hp R br ag e0 cw
     go_upto_region 11 with fail
     go_cut [] (fun G=>Hid (RW G wb M W)/\Hid (RS M G f (({S with AB:=rest}:PS).push {fr with B8:=fr.B8++[S.val],pos:=fr.pos+1}))/\Hid (Stp (Mx M f) w (Mx M f) G)/\Hid (Kp M w M G))
     case first =>
      go_region_with (go_at_call 44;refine Calls.mono bu ?_;rintro e w1 ⟨rfl,h1,h2,h3,h4⟩)
      all_goals
       go_wp2_with fail
       go_meet
       exact⟨h1,h2,(ap.trans ((Stp.AA (r_.drew.drew)).mx f)).trans h3,(F.trans (kp_dr wc)).trans h4⟩
     case rest =>
      obtain⟨bv,da,db,B⟩:=hcut;clear n2 n3 n4 bu;have dk:=B;have m2:=aA (B.im _ _ _ (.inr (.inr (.inr (.inr (.inr rfl))))) J) 2;have m3:=aA (B.im _ _ _ (.inr (.inr (.inr (.inr (.inr rfl))))) J) 3;have m4:=aA (B.im _ _ _ (.inr (.inr (.inl rfl))) am) 3;have m5:=(aA (B.im _ _ _ (.inr (.inr (.inr (.inl rfl)))) bs) fr.pos).trans ((aA bs fr.pos).symm.trans cy);simp only [List.getElem?_toArray,List.getElem?_cons_succ,List.getElem?_cons_zero] at m2 m3 m4;have dc:=h_ (cx.keep B.im);have dd:Hid (DF M _ (.slice ea fr.env.length I) fr.env):=bc.kp B (.inl rfl);go_wp2_with fail;go_region_with (go_at_call 45;refine(cP _ wb f M W (({S with AB:=rest}:PS).push {fr with B8:=fr.B8++[S.val],pos:=fr.pos+1}) af fr.env _ _ (RW.later bv r_.drew) (RS.later (W:=W) (wb:=wb) da bv r_.drew) (dc.keep (CN _)) (dd.AQ (Stp.AA r_.drew))).mono ?_;rintro e w2 ⟨rfl,h1,h2,h3⟩)
      all_goals
       have H1:=h_ h1;have H2:=h_ h2;have H3:=h_ h3;clear h1 h2 h3;go_wp2_with fail;go_ret;unfold BK;rw [HR.out];exact⟨rfl,M,H1,db.trans (((Stp.AA r_.drew).mx f).trans H3),fun _=>H2.out⟩
structure FrOk(W:PW)(fr:CW):Prop where
 env:LG W fr.env
 G1:fr.env.length<=100000000
 kind:fr.form.k=.iff\/fr.form.k=.set\/fr.form.k=.define\/fr.form.k=.begin\/fr.form.k=.call
 JY:fr.form.k=.begin->fr.pos<fr.form.ks.length
 call:fr.form.k=.call->fr.B8.length+1=fr.pos/\fr.pos<=fr.form.ks.length/\∀v∈fr.B8,BL W v
structure ZO(W:PW)(S:PS):Prop where
 P:L2 W
 B:Bd W
 G:WfG W
 E:WfS W S
 V:S.form=none->BL W S.val
 Fr:∀fr rest,S.AB=fr::rest->FrOk W fr
theorem uA(k:AY)(w:World)(wb b:Nat)(M:Q5)(W:PW)(S:PS)(fr:CW)(rest:List CW)(f:S.form=none)(c:S.AB=fr::rest)(g:RW w wb M W)(i:RS M w b S)(l:Gs w (Mx M b))(d:ZO W S) :Q2 41 #[Q0 wb,Q0 b] w fun e m=>BK M w wb b W S e m:=by
 have a:=d.Fr fr rest c;have j:rest.length<=100000000:=by have:=d.E.fr;rw [c] at this;simp at this;omega
 rcases a.kind with h | h | h | h | h
 ·exact mX w wb b M W S fr rest f c h g i
 ·exact ref_taken_set w wb b M W S fr rest f c h g i d.G a.env a.G1
 ·exact iD w wb b M W S fr rest f c h g i d.G
 ·exact ref_taken_begin w wb b M W S fr rest f c h g i (a.JY h) j
 ·obtain⟨n,o,p⟩:=a.call h;exact kE k w wb b M W S fr rest f c h g i l n o j (d.V f) p d.P d.B
theorem xT(p:AY)(w:World)(wb a:Nat)(M:Q5)(W:PW)(S:PS)(l:S.ended=false)(c:RW w wb M W)(d:RS M w a S)(m:Gs w (Mx M a))(g:ZO W S) :Q2 28 #[Q0 wb,Q0 a] w fun e q=>CL M w wb a W S e q:=by
 cases b:S.form with
 | some f =>
  cases h:f.k with
  | const=>exact kF w wb a M W S f b h c d
  | name=>exact lH w wb a M W S f b h c d g.G g.E
  | lambda=>exact mY w wb a M W S f b h c d g.G
  | begin=>exact kG w wb a M W S f b h c d g.E
  | iff=>exact cR w wb a M W S f b (.inl h) c d g.E
  | set=>exact cR w wb a M W S f b (.inr (.inl h)) c d g.E
  | define=>exact cR w wb a M W S f b (.inr (.inr (.inl h))) c d g.E
  | call=>exact cR w wb a M W S f b (.inr (.inr (.inr h))) c d g.E
 | none =>
  cases k:S.AB with
  | nil=>simp [Pl.PS.ended,b,k] at l
  | cons r i =>
   have s:=h_ (uA p w wb a M W S r i b k c d m g);have t:Hid (Pl.step W S=Pl.taken W S):=show Pl.step W S=_ from by unfold Pl.step;rw [b]
   obtain⟨z,A,B,C,D,u,j,n,v,x⟩:=d;simp only [JN,b] at n;obtain⟨rfl,_⟩:=n;have E:w.cell? ⟨a,0,none⟩=some (.pointer none):=aA j 0;clear j v x b k l c m g;go_enter func28,ntmps28;go_wp2_with fail;refine Calls.mono s ?_;rintro e F ⟨rfl,o⟩;have y:=h_ o;clear o;go_wp2_with fail;go_ret;unfold CL;rw [t.out];exact⟨rfl,y⟩
def ResF(M:Q5)(w:World)(wb xb:Nat)(r:SR)(e:Ending)(w':World):Prop :=e=.returned (Q1 r.e)/\∃M',RW w' wb M' r.W/\Stp (Mx M xb) w (Mx M' xb) w'/\(r.e=0\/r.e=7->RS M' w' xb r.S)
def QX(Inv:Nat->PW->PS->Prop):Prop:=∀n W S,Inv (n+1) W S->S.ended=false->ZO W S/\(Pl.step W S).e≠7/\((Pl.step W S).e=0->Inv n (Pl.step W S).W (Pl.step W S).S)
theorem xW(H:AY)(o:Nat->PW->PS->Prop)(I:QX o)(w:World)(wb c:Nat)(M:Q5)(W:PW)(S:PS)(n:Nat)(hn:n<=1000000000)(h:o n W S)(J:RW w wb M W)(K:RS M w c S)(L:Gs w (Mx M c)) :Q2 14 #[Q0 wb,Q0 c,Q1 n] w fun e N=>ResF M w wb c (A8 n W S) e N:=by
 have X:Hid AY:=H;have Y:=h_ I;have Z:=h_ J;have HS:=h_ K;have HG:=h_ L;have HN:=h_ h;clear H I J K L h;go_enter func14,ntmps14;go_wp2_with fail
 go_loopw [7,8,9] (fun i _ _ wr=>∃(k:Nat)(b:PW)(a:PS)(d:Q5),k<=n/\i=.int .i64 k/\Hid (RW wr wb d b)/\Hid (RS d wr c a)/\Hid (Gs wr (Mx d c))/\Hid (Stp (Mx M c) w (Mx d c) wr)/\Hid (o (n-k) b a)/\Hid (A8 n W S=A8 (n-k) b a)) (fun i _ _ _=>n-(intOf i).toNat)
 case atStart=>exact⟨0,W,S,M,Nat.zero_le _,rfl,Z,HS,HG,Stp.refl _ _,HN,rfl⟩
 case round =>
  obtain⟨k,b,a,d,hk,rfl,p,f,u,g,z,q⟩:=hrel;go_wp2_with fail;refine(uD d _ c a f).mono ?_;rintro e N ⟨rfl,rfl⟩
  cases j:a.ended with
  | true =>
   have t:Hid (A8 n W S=⟨0,b,a⟩):=show _=_ from by
    rw [q.out]
    cases n-k<;>simp [A8,j]
   clear j;go_wp2_with fail;go_ret;rw [t.out];exact⟨rfl,d,p,g,fun _=>f.out⟩
  | false =>
   by_cases A:k=n
   ·subst A;have t:Hid (A8 k W S=⟨7,b,a⟩):=show _=_ from by rw [q.out,Nat.sub_self];simp [A8,j]
    clear j;go_wp2_with fail;go_ret;rw [t.out];exact⟨rfl,d,p,g,fun _=>f.out⟩
   ·obtain⟨m,B⟩:∃m,n-k=m+1:=⟨n-k-1,x8⟩
    have r:=z.out;rw [B] at r;obtain⟨O,P,v⟩:=Y.out m b a r j;have HO:=h_ O;have C:=h_ v;have H7:=h_ P;have D:=h_ j;have t:Hid (A8 n W S=if(Pl.step b a).e=0 then A8 m (Pl.step b a).W (Pl.step b a).S else Pl.step b a):=show _=_ from by rw [q.out,B];simp [A8,j]
    have aa:((k:Int)==(n:Int))=false:=by rw [beq_eq_false_iff_ne];omega
    have x:m=n-(k+1):=by omega
    have y:=h_ x;clear r O P v j B x;go_wp2_with fail;refine(xT X _ wb c d b a D p f u HO).mono ?_;rintro e w2 ⟨rfl,Q,R,T,U⟩;have V:=h_ R;have E:=h_ T;have H3:=h_ U;clear R T U;by_cases l:(Pl.step b a).e=0
    ·have s:Hid (A8 n W S=A8 m (Pl.step b a).W (Pl.step b a).S):=show _=_ from by rw [t.out,if_pos l]
     have F:=h_ (H3 l);have G:=h_ (C l);have ab:(((Pl.step b a).e:Nat):Int)=0:=by rw [l];rfl
     clear l;go_wp2_with fail
     go_roundw
     case rel =>exact⟨k+1,_,_,Q,x8,k7,V,F,u.AQ E,g.trans E,by rw [<- y.out];exact G,by rw [<- y.out];exact s⟩
     case measure=>simp [intOf];omega
    ·have s:Hid (A8 n W S=Pl.step b a):=show _=_ from by rw [t.out,if_neg l]
     have hb:((((Pl.step b a).e:Nat):Int)!=0)=true:=by simp;omega
     have H0:=h_ l;clear l;go_wp2_with fail;go_ret;rw [s.out];exact⟨rfl,Q,V,g.trans E,fun h=>by rcases h with h | h;exact absurd h H0;exact absurd h H7⟩
theorem WB{W:PW}{S:PS}{t:Nat}(h:WW W t)(k:SW W S t)(f:t<=100000000):ZO W S:=by have g:=h.EX;have i:=h.FU;have j:=h.GN;have l:=h.EM;have m:=h.D1;have n:=k.G1;have o:=k.AB.2;refine⟨⟨h.KV,h.CH,x8⟩,⟨x8,fun p c=>by have:=(h.procs p c).2.2.1;omega,x8,x8,x8⟩,⟨h.globals,x8,x8,x8⟩,⟨k.env,x8,x8⟩,k.val,?_⟩;intro d b e;have a:=k.AB.1 d (by rw [e];simp);exact⟨a.env,by have:=a.G1;omega,a.kind,a.JY,a.call⟩
theorem s7:QX QC:=by intro n W S h _;obtain⟨t,d,b,c⟩:=h;have a:=jQ b c;exact⟨WB b c x8,a.1,fun e=>⟨t+310,x8,a.2.1,a.2.2 e⟩⟩
end
end Go.Proofs.YtbgghmjmcapmlaaGreatDoor
