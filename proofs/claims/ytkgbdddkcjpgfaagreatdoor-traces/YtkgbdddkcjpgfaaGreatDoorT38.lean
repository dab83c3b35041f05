import Derived.Test.YtkgbdddkcjpgfaaGreatDoorT33
namespace Go.Proofs.YtkgbdddkcjpgfaaGreatDoor
set_option maxHeartbeats 4000000
set_option maxRecDepth 100000
open Go.Proofs.Tryz
open Pl (PW PS CW)
section
open Go.RowKit
theorem W1(w:World)(wb d:Nat)(M:Nat->Prop)(W:PW)(S:PS)(fr:CW)(l m n:Value)(o:Option Addr)(p:Int)(A:RW w wb M W)(B:RS M w d S)(q:RF w l fr.form)(r:CO M w m fr.B8)(s:DF M w n fr.env)(C:S.AB.length<=1000000000) :Calls prog 90 #[.pointer (some ⟨d,0,none⟩),.agg #[l,m,.int .i64 fr.pos,n,.pointer o,.int .i64 p]] w fun e f=>e=.returned (.tuple #[])/\RW f wb M W/\RS M f d (S.push fr)/\Stp (Mx M d) w (Mx M d) f/\Kp M w M f:=by obtain⟨g,h,t,u,v,i,j,D,E,x⟩:=B;obtain⟨b,_,_,_,_,_,_,_,rfl,_⟩:=q.open_;obtain⟨F,y,rfl,_⟩:=r.shape;obtain⟨G,z,rfl,_⟩:=s.shape;refine(lI M w d g h t u v i S.AB _ F G o _ _ _ _ _ p j x C).mono ?_;rintro e f ⟨rfl,a,k,H⟩;have c:Kp M w M f:=eV a j eC.2.2.2.2.2.2 (by decide) (by decide);refine⟨rfl,A.grown a j eC,⟨g,h,t,u,v,_,k,D.keep c.im,E.kp c (.inl rfl),?_⟩,bV a,c⟩;exact⟨w.heap.size,_,_,_,_,rfl,H,q.keep c.im,r.kp c (.inr rfl),s.kp c (.inl rfl),DT.kp c _ _ x⟩
theorem rC{M:Nat->Prop}(w:World):Kp M w M w.drew.drew:=⟨fun _ _ _ _ h=>h,fun _ _ _ _ a h=>⟨h,a⟩⟩
theorem i6(w:World)(wb c:Nat)(M:Nat->Prop)(W:PW)(S:PS)(fr:CW)(rest:List CW)(hf:S.form=none)(hr:S.AB=fr::rest)(L:fr.form.k=.begin)(hW:RW w wb M W)(hS:RS M w c S)(Q:fr.pos<fr.form.ks.length)(bg:rest.length<=100000000) :Calls prog 87 #[.pointer (some ⟨wb,0,none⟩),.pointer (some ⟨c,0,none⟩)] w fun e N=>BK M w wb c W S e N:=by
 have q:Hid (Pl.taken W S=⟨0,W,(if fr.pos+1<fr.form.ks.length then({S with AB:=rest}:PS).push {fr with B8:=[],pos:=fr.pos+1} else {S with AB:=rest}).work fr.form.ks[fr.pos]? fr.env⟩):=show Pl.taken W S=_ from by unfold Pl.taken;rw [hr];dsimp only;rw [L]
 have HW:=h_ hW;obtain⟨bh,bi,c0,c1,c2,bj,h,s1,s2,s3⟩:=hS;simp only [JN,hf] at s1;obtain⟨rfl,x⟩:=s1;simp only [cZ,List.cons.injEq,and_true] at x;obtain⟨rfl,rfl,rfl⟩:=x;rw [hr] at s3;obtain⟨u,fv,gv,ev,up,rfl,s,hF,z,A,B⟩:=s3;obtain⟨b,dv,kv,nv,d0,d1,d2,us,rfl,R,T,U,al,am,an,bk,ao⟩:=hF.open_;obtain⟨po,rfl⟩:=B.ptr;obtain⟨C,f,rfl,bl⟩:=A.shape;obtain⟨ga,V,rfl,bm⟩:=z.shape;have HF:=h_ hF;have ap:=h_ A;have bn:=h_ z;have aq:=aB h;have x0:w.cell? ⟨c,0,none⟩=some (.pointer none):=aA h 0;have x2:w.cell? ⟨c,2,none⟩=some (.string ⟨(vK S.val).toArray⟩):=aA h 2;have x3:w.cell? ⟨c,3,none⟩=some (.int .i64 (vN S.val)):=aA h 3;have x4:w.cell? ⟨c,4,none⟩=some (.string ⟨(vS S.val).toArray⟩):=aA h 4;have x5:w.cell? ⟨c,5,none⟩=some (.pointer (some ⟨u,0,none⟩)):=aA h 5;have y0:w.cell? ⟨u,0,none⟩=some (.pointer (some ⟨b,0,none⟩)):=aA s 0;have y4:w.cell? ⟨u,4,none⟩=some (.pointer po):=aA s 4;have g5:∀o:Obj,(w.alloc o).frozen? ⟨c,5,none⟩=false:=fun o=>aF ((Below.heap_alloc w o c aq).trans h) 5;have bo:=aB s;have bp:=aB R;have qA:∀(o:Obj)(k v:Nat),k<w.heap.size->(w.alloc o).cell? ⟨k,v,none⟩=w.cell? ⟨k,v,none⟩:=fun o k v L=>(r_.alloc n_ o).cell (p:=⟨k,v,none⟩) L;rw [L] at R;have b0:w.cell? ⟨b,0,none⟩=some (.string ⟨#[98,101,103,105,110]⟩):=aA R 0;have a:=(show Hid (Tk w _ wb c M W S rest) from Tk.mk_ (rest:=rest) hW h po (by unfold JN;rw [hf];exact⟨rfl,rfl⟩) s2 B)
 have D:=h_ s;have E:=h_ R;rw [show Pl.FK.begin=fr.form.k from L.symm] at E;obtain⟨O,ck,ob,j,rfl,bq,ar,⟨X,y⟩,e0,t,Y⟩:=PN T U fr.pos Q;have au:=h_ Y;have F:=h_ y;have Z:=h_ e0;have aa:=h_ t;clear hf hr L hW h s2 B s hF z A R T U al am an ao Y y t e0 ar;unfold AM at a;generalize ab:vK S.val=kk at *;generalize ac:vN S.val=nn at *;generalize ad:vS S.val=ss at *;have G:=(show Hid (vK S.val=kk/\vN S.val=nn/\vS S.val=ss) from⟨ab,ac,ad⟩)
 clear ab ac ad;go_enter func87,ntmps87
 go_upto_region 28 with fail
 generalize (w.setCell ⟨c,5,none⟩ (.pointer po)).alloc (.cells #[.string ⟨kk.toArray⟩,.int .i64 nn,.string ⟨ss.toArray⟩] 154)=d at *;have v0:d.cell? ⟨w.heap.size,0,none⟩=some (.string ⟨kk.toArray⟩):=by rw [<- G.1];exact aA a.box 0
 have v1:d.cell? ⟨w.heap.size,1,none⟩=some (.int .i64 nn):=by rw [<- G.2.1];exact aA a.box 1
 have v2:d.cell? ⟨w.heap.size,2,none⟩=some (.string ⟨ss.toArray⟩):=by rw [<- G.2.2];exact aA a.box 2
 clear x0 x2 x3 x4 x5 y0 y4 g5 qA b0;have n2:d.cell? ⟨u,2,none⟩=some (.int .i64 fr.pos):=aA (a.kp.im _ _ _ (.inr (.inr (.inr (.inr (.inr rfl))))) D) 2;have n3:d.cell? ⟨u,3,none⟩=some (.slice C fr.env.length f):=aA (a.kp.im _ _ _ (.inr (.inr (.inr (.inr (.inr rfl))))) D) 3;have n4:d.cell? ⟨b,3,none⟩=some (.slice (some ⟨O,0,none⟩) fr.form.ks.length ck):=aA (a.kp.im _ _ _ (.inr (.inr (.inl rfl))) E) 3;have g:=h_ a.SX;have n:=h_ a.rs;have av:=h_ (HF.keep a.kp.im);have l:=h_ (au.keep a.kp.im);have i:Hid (DF M d (.slice C fr.env.length f) fr.env):=ap.kp a.kp (.inl rfl);have m:=h_ a.AQ;have aw:Hid (d.heap[b]?=some (.cells #[AM (FW fr.form.k),AM fr.form.nm,dv,.slice (some ⟨O,0,none⟩) fr.form.ks.length ck,nv,d0,d1,d2] G3 (0,0))):=a.kp.im _ _ _ (.inr (.inr (.inl rfl))) E;have ae:Hid (d.heap[u]?=some (.cells #[.pointer (some ⟨b,0,none⟩),.slice ga fr.B8.length V,.int .i64 fr.pos,.slice C fr.env.length f,.pointer po,.int .i64 (rest.length+1:Nat)] TFr (0,0))):=a.kp.im _ _ _ (.inr (.inr (.inr (.inr (.inr rfl))))) D;have af:Hid (d.heap[O]?=some (.cells X LN (0,0))):=a.kp.im _ _ _ (.inr (.inr (.inr (.inl rfl)))) F;have br:(fr.pos:Int)<(fr.form.ks.length:Int):=by omega
 have n5:d.cell? ⟨O,fr.pos,none⟩=some (.pointer (some ⟨ob,0,none⟩)):=(aA af fr.pos).trans ((aA F fr.pos).symm.trans Z)
 go_cut [163] (fun ag P=>ag=.bool (decide ((fr.pos:Int)+1<(fr.form.ks.length:Int)))/\P=d.drew)
 case first =>
  go_region
  all_goals
   go_wp2_with fail
   go_meet
   exact⟨rfl,rfl⟩
 case rest =>
  obtain⟨rfl,rfl⟩:=hcut;have H:Hid (RW d.drew wb M W):=RW.later g r_.drew;have ah:Hid (RS M d.drew c {S with AB:=rest}):=n.later g r_.drew;by_cases ai:fr.pos+1<fr.form.ks.length
  ·rw [if_pos ai] at q;have HR:Hid (Pl.taken W S=⟨0,W,(({S with AB:=rest}:PS).push {fr with B8:=[],pos:=fr.pos+1}).work (some j) fr.env⟩):=show _=_ from by rw [q.out,aa.out]
   have ax:decide ((fr.pos:Int)+1<(fr.form.ks.length:Int))=true:=by simp;omega
   clear q;have ay:IntKind.i64.wrap ((fr.pos:Int)+1)=(fr.pos:Int)+1:=IntWalk.i64_in _ (by omega);have az:Hid (Calls prog 90 #[.pointer (some ⟨c,0,none⟩),.agg #[.pointer (some ⟨b,0,none⟩),.slice none 0 0,.int .i64 ((fr.pos:Int)+1),.slice C fr.env.length f,.pointer none,.int .i64 0]] d.drew.drew fun e N=>e=.returned (.tuple #[])/\RW N wb M W/\RS M N c (({S with AB:=rest}:PS).push {fr with B8:=[],pos:=fr.pos+1})/\Stp (Mx M c) d.drew.drew (Mx M c) N/\Kp M d.drew.drew M N) :=W1 d.drew.drew wb c M W {S with AB:=rest} {fr with B8:=[],pos:=fr.pos+1} _ _ _ none 0 (RW.later H r_.drew) (ah.later H r_.drew) (av.keep (rC (M:=M) d).im) (pQ _ _) (i.AQ (Stp.AA (r_.drew.drew))) (by show rest.length<=_;omega)
   go_upto_region 29 with fail
   go_cut [] (fun P=>Hid (RW P wb M W)/\Hid (RS M P c (({S with AB:=rest}:PS).push {fr with B8:=[],pos:=fr.pos+1}))/\Hid (Stp (Mx M c) w (Mx M c) P)/\Hid (Kp M d M P))
   case first =>
    go_region_with (go_at_call 90;refine Calls.mono az ?_;rintro e w1 ⟨rfl,I,J,K,h4⟩)
    all_goals
     go_wp2_with fail
     go_meet
     exact⟨I,J,m.trans (((Stp.AA (r_.drew.drew)).mx c).trans K),(rC d).trans h4⟩
   case rest =>
    obtain⟨ba,bb,bc,r⟩:=hcut;have m2:wc.cell? ⟨u,2,none⟩=some (.int .i64 fr.pos):=aA (r.im _ _ _ (.inr (.inr (.inr (.inr (.inr rfl))))) ae) 2;have m3:wc.cell? ⟨u,3,none⟩=some (.slice C fr.env.length f):=aA (r.im _ _ _ (.inr (.inr (.inr (.inr (.inr rfl))))) ae) 3;have m4:wc.cell? ⟨b,3,none⟩=some (.slice (some ⟨O,0,none⟩) fr.form.ks.length ck):=aA (r.im _ _ _ (.inr (.inr (.inl rfl))) aw) 3;have m5:wc.cell? ⟨O,fr.pos,none⟩=some (.pointer (some ⟨ob,0,none⟩)):=(aA (r.im _ _ _ (.inr (.inr (.inr (.inl rfl)))) af) fr.pos).trans ((aA F fr.pos).symm.trans Z);have aj:=h_ (l.keep r.im);have ak:Hid (DF M wc (.slice C fr.env.length f) fr.env):=i.kp r (.inl rfl);clear g n l i m n2 n3 n4 n5 v0 v1 v2;have g:=ba;have n:=bb;have l:=aj;have i:=ak;have m:=bc;go_wp2_with fail;go_region_with (go_at_call 91;refine(cP _ wb c M W (({S with AB:=rest}:PS).push {fr with B8:=[],pos:=fr.pos+1}) j fr.env _ _ (RW.later g r_.drew) (RS.later (W:=W) (wb:=wb) n g r_.drew) (l.keep (CN _)) (i.AQ (Stp.AA r_.drew))).mono ?_;rintro e w2 ⟨rfl,I,J,K⟩)
    all_goals
     have H1:=h_ I;have H2:=h_ J;have H3:=h_ K;clear I J K;go_wp2_with fail;go_ret;unfold BK;rw [HR.out];exact⟨rfl,M,H1,m.trans (((Stp.AA r_.drew).mx c).trans H3),fun _=>H2.out⟩
  ·rw [if_neg ai] at q;have HR:Hid (Pl.taken W S=⟨0,W,({S with AB:=rest}:PS).work (some j) fr.env⟩):=show _=_ from by rw [q.out,aa.out]
   have ax:decide ((fr.pos:Int)+1<(fr.form.ks.length:Int))=false:=by simp;omega
   have m2:d.drew.cell? ⟨u,2,none⟩=some (.int .i64 fr.pos):=n2;have bd:Hid (Stp (Mx M c) w (Mx M c) d.drew):=m.trans ((Stp.AA r_.drew).mx c);have be:Hid (RF d.drew (.pointer (some ⟨ob,0,none⟩)) j):=l.keep (CN _);have bf:Hid (DF M d.drew (.slice C fr.env.length f) fr.env):=i.AQ (Stp.AA r_.drew);clear q g n l i m;have g:=H;have n:=ah;have l:=be;have i:=bf;have m:=bd;go_wp2_with fail;go_region_with (go_at_call 91;refine(cP _ wb c M W ({S with AB:=rest}:PS) j fr.env _ _ (RW.later g r_.drew) (RS.later (W:=W) (wb:=wb) n g r_.drew) (l.keep (CN _)) (i.AQ (Stp.AA r_.drew))).mono ?_;rintro e w2 ⟨rfl,I,J,K⟩)
   all_goals
    have H1:=h_ I;have H2:=h_ J;have H3:=h_ K;clear I J K;go_wp2_with fail;go_ret;unfold BK;rw [HR.out];exact⟨rfl,M,H1,m.trans (((Stp.AA r_.drew).mx c).trans H3),fun _=>H2.out⟩
end
end Go.Proofs.YtkgbdddkcjpgfaaGreatDoor
