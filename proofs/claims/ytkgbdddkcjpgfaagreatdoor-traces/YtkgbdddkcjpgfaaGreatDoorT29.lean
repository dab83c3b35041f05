import Derived.Test.YtkgbdddkcjpgfaaGreatDoorT26
namespace Go.Proofs.YtkgbdddkcjpgfaaGreatDoor
set_option maxHeartbeats 8000000
set_option maxRecDepth 100000
open Go.Proofs.Tryz
open Pl (PW PS PF)
section
open Go.RowKit
theorem mY(w:World)(wb j:Nat)(M:Nat->Prop)(W:PW)(S:PS)(f:PF)(s:S.form=some f)(p:f.k=.lambda)(X:RW w wb M W)(Y:RS M w j S)(Z:WfG W) :Calls prog 54 #[.pointer (some ⟨wb,0,none⟩),.pointer (some ⟨j,0,none⟩)] w fun e w'=>CL M w wb j W S e w':=by
 obtain⟨i0,u,v,x,y⟩:=info_parts Tryz.infoPc;have HW:=h_ X;have HS:=h_ Y;have HR:Hid (Pl.step W S=⟨0,{W with procs:=W.procs++[(f,S.env)]},S.A1 (.proc W.procs.length)⟩):=show Pl.step W S=_ from by unfold Pl.step;rw [s];dsimp only;rw [p]
 have ad:=Z.prL;have HK:=h_ p;obtain⟨fv,ev,c0,c1,c2,ae,g,q,z,s3⟩:=Y;simp only [JN,s] at q;obtain⟨b,dv,kv,nv,d0,d1,d2,us,rfl,A,B,C,D,E,F,G,I⟩:=q.open_;have HF:=h_ q;have J:=h_ z;obtain⟨r,a,rfl,af⟩:=z.shape;have x0:w.cell? ⟨j,0,none⟩=some (.pointer (some ⟨b,0,none⟩)):=aA g 0;have x1:w.cell? ⟨j,1,none⟩=some (.slice r S.env.length a):=aA g 1;rw [p] at A;have b0:w.cell? ⟨b,0,none⟩=some (.string ⟨#[108,97,109,98,100,97]⟩):=aA A 0;obtain⟨pv,K,cv,lv,gv,qs,cs,hM,h⟩:=X;have H:=h_ h;have L:=h_ hM;have N:=aB h.blk;have O:=aB g;have q1:w.cell? ⟨wb,1,none⟩=some K:=aA h.blk 1;have a1:=(bM (o:=1) N).1;have a2:=(bM (o:=1) O).1;clear s p g q z s3 A B C D E F G I Z hM h;go_enter func54,ntmps54
 go_upto_region 15 with fail
 go_cut [] (fun wx=>∃l,Hid (RW wx wb l {W with procs:=W.procs++[(f,S.env)]})/\Hid (Stp M w l wx))
 case first =>
  go_region_law ((refine step_append_lies _ (by rfl) _ _ _ (by rfl) 0 186 i0 _ 2 32 underlying91 u v x y rfl (by omega) K W.procs.length qs (by rfl) ((H.pc.alloc _).drew) ⟨w.heap.size,0,none⟩ 1 1 [.pointer (some ⟨b,0,none⟩),.slice r S.env.length a] (by rfl) (by rfl) (World.news_of_block (cs:=#[.pointer (some ⟨b,0,none⟩),.slice r S.env.length a]) (t:=186) (fr:=(0,0)) (TC w _ _)) (by simp [Value.oneCell']) (by omega) (by unfold maxLen;omega) (by omega) (by simp) (w.heap.size+1) (by simp) ?_;intro g3 aa w3 k c m ab;obtain⟨k1,k2,k3⟩:=fD H.blk (cM w _) c (aN H.pc) (by decide) 1 K rfl))
  all_goals
   obtain⟨z1,z2⟩:=H.O3 (cM w _) c _ (.pointer (some ⟨b,0,none⟩)) (.slice r S.env.length a) (f,S.env) k (tH m (by omega)) HF HK (by rw [<- L.out];exact J);go_wp2_with fail
   go_meet
   exact⟨_,⟨_,_,_,_,_,_,_,rfl,z1⟩,by rw [L.out];exact z2⟩
 case rest =>obtain⟨l,n,i⟩:=hcut;have P:=h_ (HS.AQ HW i);obtain⟨ag,Q,ah,ai,aj,ak,al,R,d⟩:=n.out;have T:wc.cell? ⟨wb,1,none⟩=some Q:=aA d.blk 1;obtain⟨ca,ac,rfl,U⟩:=dN d.pc;rw [show({W with procs:=W.procs++[(f,S.env)]}:PW).procs.length=W.procs.length+1 from by simp] at T U;have V:IntKind.i64.wrap ((W.procs.length:Nat):Int)=(W.procs.length:Int):=IntWalk.i64_in _ (by omega);clear R d x0 x1 b0 q1 a1 a2 H L;go_wp2_with fail;refine(aT _ wb j l {W with procs:=W.procs++[(f,S.env)]} S (.proc W.procs.length) n P).mono ?_;rintro e w2 ⟨rfl,h1,h2,h3⟩;have H1:=h_ h1;have H2:=h_ h2;have H3:=h_ h3;clear h1 h2 h3;go_wp2_with fail;go_ret;unfold CL;rw [HR.out];exact⟨rfl,l,H1,(i.mx j).trans H3,fun _=>H2.out⟩
theorem PN{w:World}{kv:Value}{a:List PF}{us:List Value}(d:w.ownsRow 0 LN 1 kv a.length us)(h:∀(i:Nat)(u:Value)(x:PF),us[i]?=some u->a[i]?=some x->RF w u x)(i:Nat)(hi:i<a.length):∃c f g x,kv=.slice (some ⟨c,0,none⟩) a.length f/\a.length<=f/\c<w.heap.size/\(∃b,w.heap[c]?=some (.cells b LN (0,0)))/\w.cell? ⟨c,i,none⟩=some (.pointer (some ⟨g,0,none⟩))/\a[i]?=some x/\RF w (.pointer (some ⟨g,0,none⟩)) x:=by
 obtain⟨c,f,e,j,⟨b,m⟩,o⟩:=row1 d (by omega);have q:us.length=a.length:=by have:=d.1;omega
 have k:us[i]?=some (us[i]'(by omega)):=g_ (by omega);have n:a[i]?=some (a[i]):=g_ hi;have l:=h i _ _ k n;obtain⟨g,_,_,_,_,_,_,_,p,_⟩:=l.open_;rw [p] at l k;exact⟨c,f,g,_,e,j,aB m,⟨b,m⟩,o i _ k,n,l⟩
theorem CN(w:World):IX w w.drew:=fun _ _ _ _ h=>h
theorem cR(w:World)(wb c:Nat)(M:Nat->Prop)(W:PW)(S:PS)(f:PF)(B:S.form=some f)(d:f.k=.iff\/f.k=.set\/f.k=.define\/f.k=.call)(hW:RW w wb M W)(hS:RS M w c S)(hE:WfS W S) :Calls prog 54 #[.pointer (some ⟨wb,0,none⟩),.pointer (some ⟨c,0,none⟩)] w fun e w'=>CL M w wb c W S e w':=by
 rcases d with d | d | d | d
 all_goals
  have o:Hid (Pl.step W S=⟨0,W,(S.push ⟨f,[],1,S.env⟩).work f.ks[0]? S.env⟩):=show Pl.step W S=_ from by unfold Pl.step;rw [B];dsimp only;rw [d]
  have HW:=h_ hW;have HS:=h_ hS;have ac:=hE.fr;obtain⟨fv,ev,c0,c1,c2,ad,k,z,C,s3⟩:=hS;simp only [JN,B] at z;obtain⟨b,dv,kv,nv,d0,d1,d2,us,rfl,g,p,q,D,E,l,F,G⟩:=z.open_;have HF:=h_ z;have H:=h_ C;obtain⟨ea,r,rfl,ae⟩:=C.shape;have x0:w.cell? ⟨c,0,none⟩=some (.pointer (some ⟨b,0,none⟩)):=aA k 0;have x1:w.cell? ⟨c,1,none⟩=some (.slice ea S.env.length r):=aA k 1;have I:0<f.ks.length:=by rw [d] at l;simp only [shape] at l;omega
  rw [d] at g;first | have A:w.cell? ⟨b,0,none⟩=some (.string ⟨#[105,102]⟩):=aA g 0 | have A:w.cell? ⟨b,0,none⟩=some (.string ⟨#[115,101,116,33]⟩):=aA g 0 | have A:w.cell? ⟨b,0,none⟩=some (.string ⟨#[100,101,102,105,110,101]⟩):=aA g 0 | have A:w.cell? ⟨b,0,none⟩=some (.string ⟨#[99,97,108,108]⟩):=aA g 0
  obtain⟨J,ck,ob,h,rfl,af,ag,⟨aa,i⟩,e0,a,s⟩:=PN p q 0 I;have b3:w.cell? ⟨b,3,none⟩=some (.slice (some ⟨J,0,none⟩) f.ks.length ck):=aA g 3;have K:=h_ s;have t:=h_ i;have L:=h_ g;have N:=h_ a;have HR:Hid (Pl.step W S=⟨0,W,(S.push ⟨f,[],1,S.env⟩).work (some h) S.env⟩):=show _=_ from by rw [o.out,N.out]
  clear B d hW k z C s3 g p q D E l F G hE s i a o;go_enter func54,ntmps54;go_wp2_with fail;refine(qJ _ wb c M W S ⟨f,[],1,S.env⟩ _ _ _ none 0 HW HS HF (pQ _ _) H (by omega)).mono ?_;rintro e O ⟨rfl,u,v,x,h4⟩;have y:=h_ u;have P:=h_ v;have Q:=h_ x;have m:=h_ h4;obtain⟨ah,ai,y0,y1,y2,ab,j,t1,R,t3⟩:=v;have T:=h_ R;obtain⟨U,n,rfl,_⟩:=R.shape;have aj:O.cell? ⟨c,1,none⟩=some (.slice U S.env.length n):=aA j 1;have ak:O.cell? ⟨b,3,none⟩=some (.slice (some ⟨J,0,none⟩) f.ks.length ck):=aA (m _ _ _ (.inr (.inr (.inl rfl))) L) 3;have al:O.cell? ⟨J,0,none⟩=some (.pointer (some ⟨ob,0,none⟩)):=(aA (m _ _ _ (.inr (.inr (.inr (.inl rfl)))) t) 0).trans ((aA t 0).symm.trans e0);clear u x h4 j t1 R t3 x0 x1 A b3 e0;go_wp2_with fail;have V:=P;have X:=h_ (K.keep m);have Y:=T;have Z:=Q;go_region_with (go_at_call 91;refine(cP _ wb c M W (S.push ⟨f,[],1,S.env⟩) h S.env _ _ (RW.later y r_.drew) (RS.later (W:=W) (wb:=wb) V y r_.drew) (X.keep (CN _)) (Y.AQ (Stp.AA r_.drew))).mono ?_;rintro e w2 ⟨rfl,u,v,x⟩)
  all_goals
   have H1:=h_ u;have H2:=h_ v;have H3:=h_ x;clear u v x;go_wp2_with fail;go_ret;unfold CL;rw [HR.out];exact⟨rfl,M,H1,Z.trans (((Stp.AA r_.drew).mx c).trans H3),fun _=>H2.out⟩
theorem kG(w:World)(wb d:Nat)(M:Nat->Prop)(W:PW)(S:PS)(f:PF)(L:S.form=some f)(z:f.k=.begin)(O:RW w wb M W)(hS:RS M w d S)(P:WfS W S) :Calls prog 54 #[.pointer (some ⟨wb,0,none⟩),.pointer (some ⟨d,0,none⟩)] w fun e w'=>CL M w wb d W S e w':=by
 have g:Hid (Pl.step W S=⟨0,W,(if 1<f.ks.length then S.push ⟨f,[],1,S.env⟩ else S).work f.ks[0]? S.env⟩):=show Pl.step W S=_ from by unfold Pl.step;rw [L];dsimp only;rw [z]
 have Q:=h_ O;have HS:=h_ hS;have af:=P.fr;obtain⟨fv,ev,c0,c1,c2,ag,j,A,N,s3⟩:=hS;simp only [JN,L] at A;obtain⟨b,dv,kv,nv,d0,d1,d2,us,rfl,y,o,p,B,C,k,D,E⟩:=A.open_;have HF:=h_ A;have F:=h_ N;obtain⟨ea,G,rfl,ah⟩:=N.shape;have x0:w.cell? ⟨d,0,none⟩=some (.pointer (some ⟨b,0,none⟩)):=aA j 0;have x1:w.cell? ⟨d,1,none⟩=some (.slice ea S.env.length G):=aA j 1;have R:0<f.ks.length:=by rw [z] at k;simp only [shape] at k;omega
 rw [z] at y;have b0:w.cell? ⟨b,0,none⟩=some (.string ⟨#[98,101,103,105,110]⟩):=aA y 0;obtain⟨T,ck,ob,c,rfl,ai,aj,⟨ad,h⟩,e0,a,q⟩:=PN o p 0 R;have b3:w.cell? ⟨b,3,none⟩=some (.slice (some ⟨T,0,none⟩) f.ks.length ck):=aA y 3;have H:=h_ q;have I:=h_ h;have U:=h_ y;have J:=h_ a;by_cases i:1<f.ks.length
 ·rw [if_pos i] at g;have V:Hid (Pl.step W S=⟨0,W,(S.push ⟨f,[],1,S.env⟩).work (some c) S.env⟩):=show _=_ from by rw [g.out,J.out]
  have X:(1:Int)<(f.ks.length:Int):=by omega
  clear L z O j A N s3 y o p B C k D E P q h a g;go_enter func54,ntmps54;go_wp2_with fail;refine(qJ _ wb d M W S ⟨f,[],1,S.env⟩ _ _ _ none 0 Q HS HF (pQ _ _) F (by omega)).mono ?_;rintro e Y ⟨rfl,i,l,m,h4⟩;have K:=h_ i;have Z:=h_ l;have aa:=h_ m;have r:=h_ h4;obtain⟨ak,al,y0,y1,y2,ae,n,t1,t2,t3⟩:=l;have ab:=h_ t2;obtain⟨ac,s,rfl,_⟩:=t2.shape;have am:Y.cell? ⟨d,1,none⟩=some (.slice ac S.env.length s):=aA n 1;have an:Y.cell? ⟨b,3,none⟩=some (.slice (some ⟨T,0,none⟩) f.ks.length ck):=aA (r _ _ _ (.inr (.inr (.inl rfl))) U) 3;have ao:Y.cell? ⟨T,0,none⟩=some (.pointer (some ⟨ob,0,none⟩)):=(aA (r _ _ _ (.inr (.inr (.inr (.inl rfl)))) I) 0).trans ((aA I 0).symm.trans e0);clear i m h4 n t1 t2 t3 x0 x1 b0 b3 e0;go_wp2_with fail;have t:=Z;have u:=h_ (H.keep r);have v:=ab;have x:=aa;go_region_with (go_at_call 91;refine(cP _ wb d M W (S.push ⟨f,[],1,S.env⟩) c S.env _ _ (RW.later K r_.drew) (RS.later (W:=W) (wb:=wb) t K r_.drew) (u.keep (CN _)) (v.AQ (Stp.AA r_.drew))).mono ?_;rintro e w2 ⟨rfl,i,l,m⟩)
  all_goals
   have H1:=h_ i;have H2:=h_ l;have H3:=h_ m;clear i l m;go_wp2_with fail;go_ret;unfold CL;rw [V.out];exact⟨rfl,M,H1,x.trans (((Stp.AA r_.drew).mx d).trans H3),fun _=>H2.out⟩
 ·rw [if_neg i] at g;have V:Hid (Pl.step W S=⟨0,W,S.work (some c) S.env⟩):=show _=_ from by rw [g.out,J.out]
  have X:decide ((1:Int)<(f.ks.length:Int))=false:=by simp;omega
  have t:=HS;have u:=H;have v:=F;have x:Hid (Stp (Mx M d) w (Mx M d) w):=Stp.refl _ _;clear L z O j A N s3 y o p B C k D E P q h a g;go_enter func54,ntmps54;go_wp2_with fail;go_region_with (go_at_call 91;refine(cP _ wb d M W S c S.env _ _ (RW.later Q r_.drew) (RS.later (W:=W) (wb:=wb) t Q r_.drew) (u.keep (CN _)) (v.AQ (Stp.AA r_.drew))).mono ?_;rintro e w2 ⟨rfl,i,l,m⟩)
  all_goals
   have H1:=h_ i;have H2:=h_ l;have H3:=h_ m;clear i l m;go_wp2_with fail;go_ret;unfold CL;rw [V.out];exact⟨rfl,M,H1,x.trans (((Stp.AA r_.drew).mx d).trans H3),fun _=>H2.out⟩
end
end Go.Proofs.YtkgbdddkcjpgfaaGreatDoor
