import Derived.Test.YtkgbdddkcjpgfaaGreatDoorT29
import Derived.Test.YtkgbdddkcjpgfaaGreatDoorT28
namespace Go.Proofs.YtkgbdddkcjpgfaaGreatDoor
set_option maxHeartbeats 4000000
set_option maxRecDepth 100000
open Go.Proofs.Tryz
open Pl (PV PW PS CW)
section
open Go.RowKit
structure Tk(w wx:World)(wb xb:Nat)(M:Nat->Prop)(W:PW)(S:PS)(rest:List CW):Prop where
 SX:RW wx wb M W
 rs:RS M wx xb {S with AB:=rest}
 AQ:Stp (Mx M xb) w (Mx M xb) wx
 kp:Kp M w M wx
 box:wx.heap[w.heap.size]?=some (.cells #[AM (vK S.val),.int .i64 (vN S.val),AM (vS S.val)] TV (0,0))
theorem Tk.mk_{w:World}{wb xb:Nat}{M:Nat->Prop}{W:PW}{S:PS}{rest:List CW}{fv ev c0 c1 c2 frv:Value}(h:RW w wb M W)(b:w.heap[xb]?=some (.cells #[fv,ev,c0,c1,c2,frv] JL (0,0)))(a:Option Addr)(i:JN w S fv c0 c1 c2)(j:DF M w ev S.env)(k:DT M w (.pointer a) rest) :Tk w ((w.setCell ⟨xb,5,none⟩ (.pointer a)).alloc (.cells #[AM (vK S.val),.int .i64 (vN S.val),AM (vS S.val)] 154)) wb xb M W S rest:=by
 have c:w.grownBy (w.setCell ⟨xb,5,none⟩ (.pointer a)) (some xb):=aE _ _ _ _;have e:∀o:Obj,Below (w.setCell ⟨xb,5,none⟩ (.pointer a)).heap.size (w.setCell ⟨xb,5,none⟩ (.pointer a)) ((w.setCell ⟨xb,5,none⟩ (.pointer a)).alloc o):=fun o=>b_;have d:=h.grown c b eC;have f:RS M (w.setCell ⟨xb,5,none⟩ (.pointer a)) xb {S with AB:=rest}:=RS.grown (S:={S with AB:=rest}) c b (aD b 5 _) i j k rfl;have g:Kp M w M (w.setCell ⟨xb,5,none⟩ (.pointer a)):=eV c b eC.2.2.2.2.2.2 (by decide) (by decide);refine⟨d.later (e _),f.later d (e _),(bV c).trans ((Stp.AA (e _)).mx xb),g.trans ((Stp.AA (e _)).kp d.X5),?_⟩;have:=heap_alloc_new (w.setCell ⟨xb,5,none⟩ (.pointer a)) (.cells #[AM (vK S.val),.int .i64 (vN S.val),AM (vS S.val)] 154)
 rwa [show(w.setCell ⟨xb,5,none⟩ (.pointer a)).heap.size=w.heap.size from by simp [World.setCell]] at this
def BK(M:Nat->Prop)(w:World)(wb xb:Nat)(W:PW)(S:PS):Ending->World->Prop:=F9 M w wb xb (Pl.taken W S)
theorem iD(w:World)(wb d:Nat)(M:Nat->Prop)(W:PW)(S:PS)(fr:CW)(rest:List CW)(A:S.form=none)(B:S.AB=fr::rest)(q:fr.form.k=.define)(C:RW w wb M W)(hS:RS M w d S)(z:WfG W) :Calls prog 87 #[.pointer (some ⟨wb,0,none⟩),.pointer (some ⟨d,0,none⟩)] w fun e w'=>BK M w wb d W S e w':=by
 have HR:Hid (Pl.taken W S=⟨0,Pl.bind W fr.form.nm S.val,({S with AB:=rest}:PS).A1 .nothing⟩):=show Pl.taken W S=_ from by unfold Pl.taken;rw [B];dsimp only;rw [q]
 have D:=h_ z.gl;have ac:=z.glL;have ad:=z.plL;have HW:=h_ C;obtain⟨ae,af,c0,c1,c2,ag,a,s1,s2,s3⟩:=hS;simp only [JN,A] at s1;obtain⟨rfl,h⟩:=s1;simp only [cZ,List.cons.injEq,and_true] at h;obtain⟨rfl,rfl,rfl⟩:=h;rw [B] at s3;obtain⟨E,fv,gv,ev,up,rfl,f,F,i,j,l⟩:=s3;obtain⟨b,dv,kv,nv,d0,d1,d2,us,rfl,r,G,H,I,J,K,L,N⟩:=F.open_;obtain⟨O,rfl⟩:=l.ptr;obtain⟨ea,aa,rfl,ah⟩:=j.shape;obtain⟨ga,ab,rfl,ai⟩:=i.shape;have HF:=h_ F;have aj:=h_ j;have ak:=h_ i;have P:=aB a;have x0:w.cell? ⟨d,0,none⟩=some (.pointer none):=aA a 0;have x2:w.cell? ⟨d,2,none⟩=some (.string ⟨(vK S.val).toArray⟩):=aA a 2;have x3:w.cell? ⟨d,3,none⟩=some (.int .i64 (vN S.val)):=aA a 3;have x4:w.cell? ⟨d,4,none⟩=some (.string ⟨(vS S.val).toArray⟩):=aA a 4;have x5:w.cell? ⟨d,5,none⟩=some (.pointer (some ⟨E,0,none⟩)):=aA a 5;have y0:w.cell? ⟨E,0,none⟩=some (.pointer (some ⟨b,0,none⟩)):=aA f 0;have y4:w.cell? ⟨E,4,none⟩=some (.pointer O):=aA f 4;have g5:∀o:Obj,(w.alloc o).frozen? ⟨d,5,none⟩=false:=fun o=>aF ((Below.heap_alloc w o d P).trans a) 5;have al:=aB f;have am:=aB r;have qA:∀(o:Obj)(k g:Nat),k<w.heap.size->(w.alloc o).cell? ⟨k,g,none⟩=w.cell? ⟨k,g,none⟩:=fun o k g q=>(r_.alloc n_ o).cell (p:=⟨k,g,none⟩) q;rw [q] at r;have b0:w.cell? ⟨b,0,none⟩=some (.string ⟨#[100,101,102,105,110,101]⟩):=aA r 0;have c:=(show Hid (Tk w _ wb d M W S rest) from Tk.mk_ (rest:=rest) C a O (by unfold JN;rw [A];exact⟨rfl,rfl⟩) s2 l)
 have an:=h_ f;have Q:=h_ r;have R:Hid (bT S.val=.agg #[.string ⟨(vK S.val).toArray⟩,.int .i64 (vN S.val),.string ⟨(vS S.val).toArray⟩]):=rfl;clear A B q C a s2 l f F i j r G H I J K L N z;unfold AM at c;generalize s:vK S.val=T at *;generalize t:vN S.val=U at *;generalize u:vS S.val=V at *;have m:=(show Hid (vK S.val=T/\vN S.val=U/\vS S.val=V) from⟨s,t,u⟩)
 clear s t u;go_enter func87,ntmps87;go_wp2_with fail;generalize (w.setCell ⟨d,5,none⟩ (.pointer O)).alloc (.cells #[.string ⟨T.toArray⟩,.int .i64 U,.string ⟨V.toArray⟩] 154)=n at *;have v0:n.cell? ⟨w.heap.size,0,none⟩=some (.string ⟨T.toArray⟩):=by rw [<- m.1];exact aA c.box 0
 have v1:n.cell? ⟨w.heap.size,1,none⟩=some (.int .i64 U):=by rw [<- m.2.1];exact aA c.box 1
 have v2:n.cell? ⟨w.heap.size,2,none⟩=some (.string ⟨V.toArray⟩):=by rw [<- m.2.2];exact aA c.box 2
 clear x0 x2 x3 x4 x5 y0 y4 g5 qA b0;have n1:n.cell? ⟨b,1,none⟩=some (.string ⟨fr.form.nm.toArray⟩):=aA (c.kp.im _ _ _ (.inr (.inr (.inl rfl))) Q) 1;go_region_with (go_at_call 77;rw [<- R.out];refine(qI n.drew wb M W fr.form.nm S.val (RW.later c.SX r_.drew) D (by omega) (by omega)).mono ?_;rintro e w1 ⟨rfl,X,v,x⟩)
 all_goals
  have y:Hid (Stp M n X w1):=(Stp.AA r_.drew).trans x;have Y:=h_ v;have Z:=h_ (c.rs.AQ c.SX y);clear v x;go_wp2_with fail;refine(aT _ wb d X (Pl.bind W fr.form.nm S.val) {S with AB:=rest} .nothing Y Z).mono ?_;rintro e w2 ⟨rfl,v,x,h3⟩;have H1:=h_ v;have H2:=h_ x;have H3:=h_ h3;clear v x h3;go_wp2_with fail;go_ret;unfold BK;rw [HR.out];exact⟨rfl,X,H1,((c.AQ.trans (y.mx d))).trans H3,fun _=>H2.out⟩
theorem lG(w:World)(wb g:Nat)(M:Nat->Prop)(W:PW)(S:PS)(fr:CW)(rest:List CW)(Y:S.form=none)(Z:S.AB=fr::rest)(B:fr.form.k=.set)(hW:RW w wb M W)(hS:RS M w g S)(R:WfG W)(hE:LG W fr.env)(ap:fr.env.length<=100000000) :Calls prog 87 #[.pointer (some ⟨wb,0,none⟩),.pointer (some ⟨g,0,none⟩)] w fun e w'=>BK M w wb g W S e w':=by
 have T:Hid (Pl.taken W S=match Pl.DL W fr.env fr.form.nm with | some k=>⟨0,{W with places:=W.places.set k S.val},({S with AB:=rest}:PS).A1 .nothing⟩ | none=>⟨8,W,{S with AB:=rest}⟩):=show Pl.taken W S=_ from by unfold Pl.taken;rw [Z];dsimp only;rw [B];rfl
 have aq:=R.glL;have ar:=R.plL;have aa:Hid (∀k,Pl.DL W fr.env fr.form.nm=some k->k<W.places.length):=fun k h=>oL hE R.gl h;have HW:=h_ hW;obtain⟨au,av,c0,c1,c2,aw,d,s1,s2,s3⟩:=hS;simp only [JN,Y] at s1;obtain⟨rfl,s⟩:=s1;simp only [cZ,List.cons.injEq,and_true] at s;obtain⟨rfl,rfl,rfl⟩:=s;rw [Z] at s3;obtain⟨U,fv,gv,ev,up,rfl,j,hF,u,v,y⟩:=s3;obtain⟨b,dv,kv,nv,d0,d1,d2,us,rfl,C,ab,ac,ad,ae,af,ag,ah⟩:=hF.open_;obtain⟨po,rfl⟩:=y.ptr;obtain⟨ea,t,rfl,ax⟩:=v.shape;obtain⟨ga,ao,rfl,ay⟩:=u.shape;have HF:=h_ hF;have ai:=h_ v;have az:=h_ u;have aj:=aB d;have x0:w.cell? ⟨g,0,none⟩=some (.pointer none):=aA d 0;have x2:w.cell? ⟨g,2,none⟩=some (.string ⟨(vK S.val).toArray⟩):=aA d 2;have x3:w.cell? ⟨g,3,none⟩=some (.int .i64 (vN S.val)):=aA d 3;have x4:w.cell? ⟨g,4,none⟩=some (.string ⟨(vS S.val).toArray⟩):=aA d 4;have x5:w.cell? ⟨g,5,none⟩=some (.pointer (some ⟨U,0,none⟩)):=aA d 5;have y0:w.cell? ⟨U,0,none⟩=some (.pointer (some ⟨b,0,none⟩)):=aA j 0;have y4:w.cell? ⟨U,4,none⟩=some (.pointer po):=aA j 4;have g5:∀o:Obj,(w.alloc o).frozen? ⟨g,5,none⟩=false:=fun o=>aF ((Below.heap_alloc w o g aj).trans d) 5;have ba:=aB j;have bb:=aB C;have qA:∀(o:Obj)(k n:Nat),k<w.heap.size->(w.alloc o).cell? ⟨k,n,none⟩=w.cell? ⟨k,n,none⟩:=fun o k n B=>(r_.alloc n_ o).cell (p:=⟨k,n,none⟩) B;rw [B] at C;have b0:w.cell? ⟨b,0,none⟩=some (.string ⟨#[115,101,116,33]⟩):=aA C 0;have a:=(show Hid (Tk w _ wb g M W S rest) from Tk.mk_ (rest:=rest) hW d po (by unfold JN;rw [Y];exact⟨rfl,rfl⟩) s2 y)
 have ak:=h_ j;have al:=h_ C;clear Y Z B hW d s2 y j hF u v C ab ac ad ae af ag ah R hE;unfold AM at a;generalize D:vK S.val=E at *;generalize F:vN S.val=G at *;generalize H:vS S.val=I at *;have f:=(show Hid (vK S.val=E/\vN S.val=G/\vS S.val=I) from⟨D,F,H⟩)
 clear D F H;go_enter func87,ntmps87
 go_upto_region 19 with fail
 generalize (w.setCell ⟨g,5,none⟩ (.pointer po)).alloc (.cells #[.string ⟨E.toArray⟩,.int .i64 G,.string ⟨I.toArray⟩] 154)=c at *;have v0:c.cell? ⟨w.heap.size,0,none⟩=some (.string ⟨E.toArray⟩):=by rw [<- f.1];exact aA a.box 0
 have v1:c.cell? ⟨w.heap.size,1,none⟩=some (.int .i64 G):=by rw [<- f.2.1];exact aA a.box 1
 have v2:c.cell? ⟨w.heap.size,2,none⟩=some (.string ⟨I.toArray⟩):=by rw [<- f.2.2];exact aA a.box 2
 clear x0 x2 x3 x4 x5 y0 y4 g5 qA b0;have n1:c.cell? ⟨b,1,none⟩=some (.string ⟨fr.form.nm.toArray⟩):=aA (a.kp.im _ _ _ (.inr (.inr (.inl rfl))) al) 1;have n3:c.cell? ⟨U,3,none⟩=some (.slice ea fr.env.length t):=aA (a.kp.im _ _ _ (.inr (.inr (.inr (.inr (.inr rfl))))) ak) 3;have am:Hid (DF M c (.slice ea fr.env.length t) fr.env):=ai.kp a.kp (.inl rfl)
 go_cut [9] (fun k9 wy=>k9=.int .i64 (fW (Pl.DL W fr.env fr.form.nm))/\wy=c.drew)
 case first =>
  go_region_with (go_at_call 89;refine(qH c.drew wb M M W _ fr.env fr.form.nm (RW.later a.SX r_.drew) (am.AQ (Stp.AA r_.drew)) (by omega) (by omega)).mono ?_;rintro e w' ⟨rfl,rfl⟩)
  all_goals
   go_wp2_with fail
   go_meet
   exact⟨rfl,rfl⟩
 case rest =>
  obtain⟨rfl,rfl⟩:=hcut;have z:Hid (RW c.drew wb M W):=RW.later a.SX r_.drew;have an:Hid (RS M c.drew g {S with AB:=rest}):=a.rs.later a.SX r_.drew;have J:Hid (Stp (Mx M g) w (Mx M g) c.drew):=a.AQ.trans ((Stp.AA r_.drew).mx g)
  cases l:Pl.DL W fr.env fr.form.nm with
  | none =>rw [l] at T;simp only [show fW none=(-1:Int) from rfl];clear l;go_wp2_with fail;go_ret;unfold BK;rw [T.out];exact⟨rfl,M,z,J,fun h=>by simp at h⟩
  | some k =>
   rw [l] at T;have q:=aa.out k l;have bc:=h_ q;obtain⟨pv,qv,cv,lv,gv,qs,cs,hM,r⟩:=z.out;obtain⟨i,m,rfl,bd,be,bf,x,hx,p0,p1,p2,V⟩:=S3 r q;have c3:c.drew.cell? ⟨wb,3,none⟩=some (.slice (some ⟨i,0,none⟩) W.places.length m):=aA r.blk 3;have z0:c.drew.cell? ⟨w.heap.size,0,none⟩=some (.string ⟨E.toArray⟩):=by rw [<- f.1];exact aA a.box 0
   have z1:c.drew.cell? ⟨w.heap.size,1,none⟩=some (.int .i64 G):=by rw [<- f.2.1];exact aA a.box 1
   have z2:c.drew.cell? ⟨w.heap.size,2,none⟩=some (.string ⟨I.toArray⟩):=by rw [<- f.2.2];exact aA a.box 2
   have bg:(k:Int)<(W.places.length:Int):=by omega
   have HP:Hid _:=r.K0 i m rfl k q S.val;have K:=h_ hM;simp only [d6];have r0:c.cell? ⟨i,k*3,none⟩=some (.string ⟨(vK x).toArray⟩):=p0;have r1:c.cell? ⟨i,k*3+1,none⟩=some (.int .i64 (vN x)):=p1;have r2:c.cell? ⟨i,k*3+2,none⟩=some (.string ⟨(vS x).toArray⟩):=p2;have r3:c.frozen? ⟨i,k*3,none⟩=false:=V _;have r4:c.frozen? ⟨i,k*3+1,none⟩=false:=V _;have r5:c.frozen? ⟨i,k*3+2,none⟩=false:=V _;have bh:c.cell? ⟨wb,3,none⟩=some (.slice (some ⟨i,0,none⟩) W.places.length m):=c3;clear l q hM r hx p0 p1 p2 V c3 z0 z1 z2;go_wp2_with fail
   go_region
   all_goals
    obtain⟨L,N⟩:=HP.out;have O:Hid (RW (gN c.drew i (k*3) S.val).drew wb M {W with places:=W.places.set k S.val}):=RW.later (show RW (gN c.drew i (k*3) S.val) wb M _ from⟨_,_,_,_,_,_,_,K,L⟩) r_.drew
    have A:Hid (Stp M c.drew M (gN c.drew i (k*3) S.val).drew):=by
     have X:Stp M c.drew M (gN c.drew i (k*3) S.val):=by rw [K.out];exact N
     exact X.trans (Stp.AA r_.drew)
    have P:=h_ (an.AQ z A);have Q:(gN c.drew i (k*3) S.val).drew=(((c.setCell ⟨i,k*3,none⟩ (.string ⟨E.toArray⟩)).setCell ⟨i,k*3+1,none⟩ (.int .i64 G)).setCell ⟨i,k*3+2,none⟩ (.string ⟨I.toArray⟩)).drew.drew:=by rw [<- f.1,<-f.2.1,<-f.2.2];rfl
    rw [Q] at O A P;clear L N Q;go_wp2_with fail;refine(aT _ wb g M {W with places:=W.places.set k S.val} {S with AB:=rest} .nothing O P).mono ?_;rintro e w2 ⟨rfl,h1,X,h3⟩;have H1:=h_ h1;have H2:=h_ X;have H3:=h_ h3;clear h1 X h3;go_wp2_with fail;go_ret;unfold BK;rw [T.out];exact⟨rfl,M,H1,((J.trans (A.mx g))).trans H3,fun _=>H2.out⟩
theorem wC(v:PV):v=.AT false\/(v≠.AT false/\((vK v==[116,114,117,116,104])=false\/((vK v==[116,114,117,116,104])=true/\(vN v==0)=false))):=by
 cases v with
 | AT b=>cases b with
  | false=>exact .inl rfl
  | true=>exact .inr ⟨by simp,.inr ⟨rfl,rfl⟩⟩
 | _=>exact .inr ⟨by simp,.inl rfl⟩
theorem mX(w:World)(wb j:Nat)(M:Nat->Prop)(W:PW)(S:PS)(fr:CW)(rest:List CW)(hf:S.form=none)(hr:S.AB=fr::rest)(T:fr.form.k=.iff)(hW:RW w wb M W)(hS:RS M w j S) :Calls prog 87 #[.pointer (some ⟨wb,0,none⟩),.pointer (some ⟨j,0,none⟩)] w fun e w'=>BK M w wb j W S e w':=by
 have x:Hid (Pl.taken W S=⟨0,W,({S with AB:=rest}:PS).work (if S.val=.AT false then fr.form.ks[2]? else fr.form.ks[1]?) fr.env⟩):=show Pl.taken W S=_ from by unfold Pl.taken;rw [hr];dsimp only;rw [T]
 have HW:=h_ hW;obtain⟨am,an,c0,c1,c2,ao,g,s1,s2,s3⟩:=hS;simp only [JN,hf] at s1;obtain⟨rfl,U⟩:=s1;simp only [cZ,List.cons.injEq,and_true] at U;obtain⟨rfl,rfl,rfl⟩:=U;rw [hr] at s3;obtain⟨fb,fv,gv,ev,up,rfl,u,hF,C,D,E⟩:=s3;obtain⟨b,dv,kv,nv,d0,d1,d2,us,rfl,hb,y,z,aa,ab,F,ac,ad⟩:=hF.open_;obtain⟨po,rfl⟩:=E.ptr;obtain⟨ea,l,rfl,ap⟩:=D.shape;obtain⟨ga,al,rfl,aq⟩:=C.shape;have HF:=h_ hF;have ae:=h_ D;have ar:=h_ C;have ak:=aB g;have x0:w.cell? ⟨j,0,none⟩=some (.pointer none):=aA g 0;have x2:w.cell? ⟨j,2,none⟩=some (.string ⟨(vK S.val).toArray⟩):=aA g 2;have x3:w.cell? ⟨j,3,none⟩=some (.int .i64 (vN S.val)):=aA g 3;have x4:w.cell? ⟨j,4,none⟩=some (.string ⟨(vS S.val).toArray⟩):=aA g 4;have x5:w.cell? ⟨j,5,none⟩=some (.pointer (some ⟨fb,0,none⟩)):=aA g 5;have y0:w.cell? ⟨fb,0,none⟩=some (.pointer (some ⟨b,0,none⟩)):=aA u 0;have y4:w.cell? ⟨fb,4,none⟩=some (.pointer po):=aA u 4;have g5:∀o:Obj,(w.alloc o).frozen? ⟨j,5,none⟩=false:=fun o=>aF ((Below.heap_alloc w o j ak).trans g) 5;have au:=aB u;have av:=aB hb;have qA:∀(o:Obj)(k Q:Nat),k<w.heap.size->(w.alloc o).cell? ⟨k,Q,none⟩=w.cell? ⟨k,Q,none⟩:=fun o k Q T=>(r_.alloc n_ o).cell (p:=⟨k,Q,none⟩) T;rw [T] at hb;have b0:w.cell? ⟨b,0,none⟩=some (.string ⟨#[105,102]⟩):=aA hb 0;have a:=(show Hid (Tk w _ wb j M W S rest) from Tk.mk_ (rest:=rest) hW g po (by unfold JN;rw [hf];exact⟨rfl,rfl⟩) s2 E)
 have af:=h_ u;have A:=h_ hb;have ag:fr.form.ks.length=3:=by rw [T] at F;exact F
 rcases wC S.val with R | ⟨R,hq⟩
 ·have ah:vK S.val=[116,114,117,116,104]:=by rw [R];rfl
  have ai:vN S.val=0:=by rw [R];rfl
  obtain⟨V,ck,ob,d,rfl,G,H,⟨X,f⟩,Y,c,m⟩:=PN y z 2 (by omega);rw [ag] at A G;have I:=h_ m;have n:=h_ f;have J:=h_ Y;have HR:Hid (Pl.taken W S=⟨0,W,({S with AB:=rest}:PS).work (some d) fr.env⟩):=show _=_ from by rw [x.out,if_pos R,c]
  clear hf hr T hW g s2 E u hF C D hb y z aa ab F ac ad m f c Y x H;unfold AM at a;generalize q:vK S.val=v at *;generalize r:vN S.val=B at *;generalize s:vS S.val=K at *;have h:=(show Hid (vK S.val=v/\vN S.val=B/\vS S.val=K) from⟨q,r,s⟩)
  clear q r s;have q1:(v==[116,114,117,116,104])=true:=by rw [ah];rfl
  have q2:(B==0)=true:=by rw [ai];rfl
  clear ah ai R;go_enter func87,ntmps87;go_wp2_with fail;generalize (w.setCell ⟨j,5,none⟩ (.pointer po)).alloc (.cells #[.string ⟨v.toArray⟩,.int .i64 B,.string ⟨K.toArray⟩] 154)=i at *;have v0:i.cell? ⟨w.heap.size,0,none⟩=some (.string ⟨v.toArray⟩):=by rw [<- h.1];exact aA a.box 0
  have v1:i.cell? ⟨w.heap.size,1,none⟩=some (.int .i64 B):=by rw [<- h.2.1];exact aA a.box 1
  have v2:i.cell? ⟨w.heap.size,2,none⟩=some (.string ⟨K.toArray⟩):=by rw [<- h.2.2];exact aA a.box 2
  clear x0 x2 x3 x4 x5 y0 y4 g5 qA b0;have n3:i.cell? ⟨fb,3,none⟩=some (.slice ea fr.env.length l):=aA (a.kp.im _ _ _ (.inr (.inr (.inr (.inr (.inr rfl))))) af) 3;have n4:i.cell? ⟨b,3,none⟩=some (.slice (some ⟨V,0,none⟩) 3 ck):=aA (a.kp.im _ _ _ (.inr (.inr (.inl rfl))) A) 3;have n5:i.cell? ⟨V,2,none⟩=some (.pointer (some ⟨ob,0,none⟩)):=(aA (a.kp.im _ _ _ (.inr (.inr (.inr (.inl rfl)))) n) 2).trans ((aA n 2).symm.trans J);have t:=h_ a.SX;have L:=h_ a.rs;have N:=h_ (I.keep a.kp.im);have O:Hid (DF M i (.slice ea fr.env.length l) fr.env):=ae.kp a.kp (.inl rfl);have P:=h_ a.AQ;go_region_with (go_at_call 91;refine(cP _ wb j M W ({S with AB:=rest}:PS) d fr.env _ _ (RW.later t r_.drew) (RS.later (W:=W) (wb:=wb) L t r_.drew) (N.keep (CN _)) (O.AQ (Stp.AA r_.drew))).mono ?_;rintro e w2 ⟨rfl,Z,h2,h3⟩)
  all_goals
   have H1:=h_ Z;have H2:=h_ h2;have H3:=h_ h3;clear Z h2 h3;go_wp2_with fail;go_ret;unfold BK;rw [HR.out];exact⟨rfl,M,H1,P.trans (((Stp.AA r_.drew).mx j).trans H3),fun _=>H2.out⟩
 ·rcases hq with hq | ⟨hq,aj⟩
  ·obtain⟨V,ck,ob,d,rfl,G,H,⟨X,f⟩,Y,c,m⟩:=PN y z 1 (by omega);rw [ag] at A G;have I:=h_ m;have n:=h_ f;have J:=h_ Y;have HR:Hid (Pl.taken W S=⟨0,W,({S with AB:=rest}:PS).work (some d) fr.env⟩):=show _=_ from by rw [x.out,if_neg R,c]
   clear hf hr T hW g s2 E u hF C D hb y z aa ab F ac ad m f c Y x H;unfold AM at a;generalize q:vK S.val=v at *;generalize r:vN S.val=B at *;generalize s:vS S.val=K at *;have h:=(show Hid (vK S.val=v/\vN S.val=B/\vS S.val=K) from⟨q,r,s⟩)
   clear q r s;have q1:(v==[116,114,117,116,104])=false:=hq;clear hq R;go_enter func87,ntmps87;go_wp2_with fail;generalize (w.setCell ⟨j,5,none⟩ (.pointer po)).alloc (.cells #[.string ⟨v.toArray⟩,.int .i64 B,.string ⟨K.toArray⟩] 154)=i at *;have v0:i.cell? ⟨w.heap.size,0,none⟩=some (.string ⟨v.toArray⟩):=by rw [<- h.1];exact aA a.box 0
   have v1:i.cell? ⟨w.heap.size,1,none⟩=some (.int .i64 B):=by rw [<- h.2.1];exact aA a.box 1
   have v2:i.cell? ⟨w.heap.size,2,none⟩=some (.string ⟨K.toArray⟩):=by rw [<- h.2.2];exact aA a.box 2
   clear x0 x2 x3 x4 x5 y0 y4 g5 qA b0;have n3:i.cell? ⟨fb,3,none⟩=some (.slice ea fr.env.length l):=aA (a.kp.im _ _ _ (.inr (.inr (.inr (.inr (.inr rfl))))) af) 3;have n4:i.cell? ⟨b,3,none⟩=some (.slice (some ⟨V,0,none⟩) 3 ck):=aA (a.kp.im _ _ _ (.inr (.inr (.inl rfl))) A) 3;have n5:i.cell? ⟨V,1,none⟩=some (.pointer (some ⟨ob,0,none⟩)):=(aA (a.kp.im _ _ _ (.inr (.inr (.inr (.inl rfl)))) n) 1).trans ((aA n 1).symm.trans J);have t:=h_ a.SX;have L:=h_ a.rs;have N:=h_ (I.keep a.kp.im);have O:Hid (DF M i (.slice ea fr.env.length l) fr.env):=ae.kp a.kp (.inl rfl);have P:=h_ a.AQ;go_region_with (go_at_call 91;refine(cP _ wb j M W ({S with AB:=rest}:PS) d fr.env _ _ (RW.later t r_.drew) (RS.later (W:=W) (wb:=wb) L t r_.drew) (N.keep (CN _)) (O.AQ (Stp.AA r_.drew))).mono ?_;rintro e w2 ⟨rfl,Z,h2,h3⟩)
   all_goals
    have H1:=h_ Z;have H2:=h_ h2;have H3:=h_ h3;clear Z h2 h3;go_wp2_with fail;go_ret;unfold BK;rw [HR.out];exact⟨rfl,M,H1,P.trans (((Stp.AA r_.drew).mx j).trans H3),fun _=>H2.out⟩
  ·obtain⟨V,ck,ob,d,rfl,G,H,⟨X,f⟩,Y,c,m⟩:=PN y z 1 (by omega);rw [ag] at A G;have I:=h_ m;have n:=h_ f;have J:=h_ Y;have HR:Hid (Pl.taken W S=⟨0,W,({S with AB:=rest}:PS).work (some d) fr.env⟩):=show _=_ from by rw [x.out,if_neg R,c]
   clear hf hr T hW g s2 E u hF C D hb y z aa ab F ac ad m f c Y x H;unfold AM at a;generalize q:vK S.val=v at *;generalize r:vN S.val=B at *;generalize s:vS S.val=K at *;have h:=(show Hid (vK S.val=v/\vN S.val=B/\vS S.val=K) from⟨q,r,s⟩)
   clear q r s;have q1:(v==[116,114,117,116,104])=true:=hq;have q2:(B==0)=false:=aj;clear hq aj R;go_enter func87,ntmps87;go_wp2_with fail;generalize (w.setCell ⟨j,5,none⟩ (.pointer po)).alloc (.cells #[.string ⟨v.toArray⟩,.int .i64 B,.string ⟨K.toArray⟩] 154)=i at *;have v0:i.cell? ⟨w.heap.size,0,none⟩=some (.string ⟨v.toArray⟩):=by rw [<- h.1];exact aA a.box 0
   have v1:i.cell? ⟨w.heap.size,1,none⟩=some (.int .i64 B):=by rw [<- h.2.1];exact aA a.box 1
   have v2:i.cell? ⟨w.heap.size,2,none⟩=some (.string ⟨K.toArray⟩):=by rw [<- h.2.2];exact aA a.box 2
   clear x0 x2 x3 x4 x5 y0 y4 g5 qA b0;have n3:i.cell? ⟨fb,3,none⟩=some (.slice ea fr.env.length l):=aA (a.kp.im _ _ _ (.inr (.inr (.inr (.inr (.inr rfl))))) af) 3;have n4:i.cell? ⟨b,3,none⟩=some (.slice (some ⟨V,0,none⟩) 3 ck):=aA (a.kp.im _ _ _ (.inr (.inr (.inl rfl))) A) 3;have n5:i.cell? ⟨V,1,none⟩=some (.pointer (some ⟨ob,0,none⟩)):=(aA (a.kp.im _ _ _ (.inr (.inr (.inr (.inl rfl)))) n) 1).trans ((aA n 1).symm.trans J);have t:=h_ a.SX;have L:=h_ a.rs;have N:=h_ (I.keep a.kp.im);have O:Hid (DF M i (.slice ea fr.env.length l) fr.env):=ae.kp a.kp (.inl rfl);have P:=h_ a.AQ;go_region_with (go_at_call 91;refine(cP _ wb j M W ({S with AB:=rest}:PS) d fr.env _ _ (RW.later t r_.drew) (RS.later (W:=W) (wb:=wb) L t r_.drew) (N.keep (CN _)) (O.AQ (Stp.AA r_.drew))).mono ?_;rintro e w2 ⟨rfl,Z,h2,h3⟩)
   all_goals
    have H1:=h_ Z;have H2:=h_ h2;have H3:=h_ h3;clear Z h2 h3;go_wp2_with fail;go_ret;unfold BK;rw [HR.out];exact⟨rfl,M,H1,P.trans (((Stp.AA r_.drew).mx j).trans H3),fun _=>H2.out⟩
end
end Go.Proofs.YtkgbdddkcjpgfaaGreatDoor
