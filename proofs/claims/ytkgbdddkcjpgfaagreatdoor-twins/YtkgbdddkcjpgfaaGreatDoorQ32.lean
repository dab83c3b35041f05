import Derived.Test.YtkgbdddkcjpgfaaGreatDoorQ31
namespace Go.Proofs.YtkgbdddkcjpgfaaGreatDoor
set_option maxHeartbeats 4000000
set_option maxRecDepth 100000
open Go.Proofs.Tryz
open Pl (PV PW PS PF SR AE Env AH AU)
section
open Go.RowKit Go.Lib Go.Maps
theorem o7(M:Nat->Prop)(B w:World)(s:Sg)(tb mb C O d:Nat)(W:PW)(S:PS)(fv ev gv kv ov av:Value)(us:List Value)(args:List PV)(h:Ap M B w s tb mb C O d W S fv ev gv kv ov av us args)(b:Nat)(q:PF×Env)(hq:GR M B s b q) :Calls prog 394 #[.pointer (some ⟨d,0,none⟩),.pointer (some ⟨b,0,none⟩),av] w fun e j=>AS M B s tb mb C O d (jC W S q args) e j:=by
 have D:=h.MO;have aa:=aB D;obtain⟨ak,nv,k,eq,x,H,P,E,a,r⟩:=hq;have z:=(h.below.block b (aB H)).trans H;have al:=aB z;have c0:w.cell? ⟨b,0,none⟩=some nv:=aA z 0;have c1:w.cell? ⟨b,1,none⟩=some k:=aA z 1;have c2:w.cell? ⟨b,2,none⟩=some eq:=aA z 2;obtain⟨K,m,rfl,ai,n⟩:=h.args;have am:=E.len;obtain⟨Q,R,rfl⟩:∃Q R,nv=.slice Q q.1.ns.length R:=by obtain⟨⟨ks,_,_,Q,R,rfl,_⟩,_,_⟩:=E;exact⟨Q,R,rfl⟩
 have I:=fun j=>gR ⟨#[97,32,112,114,111,99,101,100,117,114,101]⟩ q.1.ns.length K us.length m j (by omega) (by decide);have J:=h.CH.1;by_cases p:us.length=q.1.ns.length
 ·have HC:Hid (∀j U,U=m->Calls prog 298 #[.string ⟨#[97,32,112,114,111,99,101,100,117,114,101]⟩,.int .i64 (q.1.ns.length:Int),.slice K us.length U] j fun e t=>j=t/\e=.returned .nilIface):=fun j U V=>by
   subst V;refine(I j).mono (fun e t ⟨h1,F⟩=>⟨h1,?_⟩);rcases F with⟨_,F⟩ | ⟨F,_⟩
   ·exact F
   ·exact absurd p F
  have HX:Hid (∀L v t,Below w.heap.size w v->w.heap.size<=L->v.heap[L]?=some (.cells #[.slice Q q.1.ns.length R,.slice K us.length m,eq] M8 (0,0))->AI v d #[.pointer (some ⟨C,0,none⟩),k,.pointer (some ⟨L,0,none⟩),.nilIface,kv,ov] t->AS M B s tb mb C O d (jC W S q args) (.returned .nilIface) t):=fun L v t X ap ab hc=>by
   have N:Below B.heap.size B v:=h.below.trans (X.mono h.below.size)
   obtain⟨g,c,A,hg,ac⟩:∃(g c:Nat)(A:Array Value),(us.length≠0->B.heap.size<=g/\v.heap[g]?=some (Obj.cells A B9 (0,0))/\∀(i:Nat)(u:Value),us[i]?=some u->A[c+i]?=some u)/\(us.length≠0->K=some ⟨g,c,none⟩/\g<w.heap.size):=by
    by_cases h0:us.length=0
    ·exact⟨0,0,#[],fun Y=>absurd h0 Y,fun Y=>absurd h0 Y⟩
    ·obtain⟨g,c,A,k1,k2,k3,k4⟩:=n h0;exact⟨g,c,A,fun _=>⟨k2,(X.block g (aB k3)).trans k3,k4⟩,fun _=>⟨k1,aB k3⟩⟩
   obtain⟨ad,G⟩:=h.wd.OK N h.CH g c A hg;have l:=s.OJ g c us.length
   have ae:¬Mg M g us.length L:=fun hx=>by
    rcases hx with hx | ⟨hx,rfl⟩
    ·have:=h.wd.CY.mlt L hx;have:=h.below.size;omega
    ·have:=(ac hx).2;omega
   have hE:CX (Mg M g us.length) v (s.OK g c us.length) (.pointer (some ⟨L,0,none⟩)) (q.2++Pl.C1 q.1.ns W.places.length):=by refine .cons L _ eq K m W.places.length q.1.ns q.2 (by rw [ab,p]) ae (E.go G.AQ l) (by omega) (fun i hi=>?_) (r.go G.AQ l);refine⟨g,c,(ac (by omega)).1,?_⟩;show(s.lp++kJ g c us.length)[W.places.length+i]?=_;rw [<- h.wd.places.len,List.getElem?_append_right (by omega),Nat.add_sub_cancel_left];exact jL g c us.length i (by omega)
   have hp:jC W S q args=⟨0,{W with places:=W.places++args},S.work q.1.ks[0]? (q.2++Pl.C1 q.1.ns W.places.length)⟩:=by unfold jC;rw [if_neg (fun Y=>Y (by rw [<- J];exact p))]
   rw [hp];have af:C0 (Mg M g us.length) v C d fv ev gv kv ov:=⟨(X.block d aa).trans D,.inl h.run.JK⟩
   refine(iP (f:=x) ad af (h.fr.go G.AQ l) ?_ (a.go G.AQ l) hE hc (by rw [P];rfl)).M7 G.AQ l (EG.same rfl rfl);exact h.out.keep (fun g' aj fz ag ah=>⟨N.block g' (aB ah),.inl ag⟩)
  have HG:Hid (∀(v:World) ep,v.heap[d]?=w.heap[d]? -> (∃o,ep=.pointer o)->Calls prog 172 #[.pointer (some ⟨d,1,none⟩),k,ep] v fun e j=>e=.returned (.tuple #[])/\AI v d #[.pointer (some ⟨C,0,none⟩),k,ep,.nilIface,kv,ov] j):=fun v ep h1 he=>cU v d _ _ _ _ _ _ k ep (h1.trans D) a.iface he;have HB:Hid (∀Z,Below w.heap.size w (w.alloc Z).drew):=fun Z=>b_.drew;have HK:Hid (∀Z,(w.alloc Z).drew.heap[d]?=w.heap[d]?):=fun Z=>(HB Z).block d aa;have HN:Hid (∀cs T,(w.alloc (.cells cs T)).drew.heap[w.heap.size]?=some (.cells cs T (0,0))):=fun cs T=>heap_alloc_new w _;obtain⟨oe,rfl⟩:=r.ptr;obtain⟨T,y,rfl⟩:=a.iface;clear h D H z E a r n I P J p;go_enter func394,ntmps394
  go_upto_region 4 with(go_at_call 298;refine(HC _ _ rfl).mono ?_;rintro e j ⟨rfl,rfl⟩)
  go_cut [] (fun wx=>Hid (AS M B s tb mb C O d (jC W S q args) (.returned .nilIface) wx))
  case first =>
   have HY:Hid (∀t,AI (w.alloc (.cells #[.slice Q q.1.ns.length R,.slice K us.length m,.pointer oe] M8)).drew d #[.pointer (some ⟨C,0,none⟩),.iface T y,.pointer (some ⟨w.heap.size,0,none⟩),.nilIface,kv,ov] t->AS M B s tb mb C O d (jC W S q args) (.returned .nilIface) t):=fun t hc=>HX.out w.heap.size _ t (HB _) n_ (HN _ _) hc;have HZ:Hid (Calls prog 172 #[.pointer (some ⟨d,1,none⟩),.iface T y,.pointer (some ⟨w.heap.size,0,none⟩)] (w.alloc (.cells #[.slice Q q.1.ns.length R,.slice K us.length m,.pointer oe] M8)).drew fun e j=>e=.returned (.tuple #[])/\Hid (AS M B s tb mb C O d (jC W S q args) (.returned .nilIface) j)):=show Calls _ _ _ _ _ from(HG _ _ (HK _) ⟨_,rfl⟩).mono (fun e j h=>⟨h.1,HY j h.2⟩);clear HX HG HB HK HN HY HC;go_region_with (go_at_call 172;refine Calls.mono HZ ?_;rintro e w3 ⟨rfl,HQ⟩)
   all_goals
    go_wp2_with fail
    go_meet
    exact HQ
  case rest =>have HQ:=hcut;go_wp2_with fail;go_ret;exact HQ
 ·have HC:Hid (∀j U,U=m->Calls prog 298 #[.string ⟨#[97,32,112,114,111,99,101,100,117,114,101]⟩,.int .i64 (q.1.ns.length:Int),.slice K us.length U] j fun e t=>j=t/\∃es,e=.returned (aY es 10)):=fun j U V=>by
   subst V;refine(I j).mono (fun e t ⟨h1,F⟩=>⟨h1,?_⟩);rcases F with⟨F,_⟩ | ⟨_,F⟩
   ·exact absurd F p
   ·exact F
  have HX:Hid (∀es,AS M B s tb mb C O d (jC W S q args) (.returned (aY es 10)) w):=fun es=>by unfold jC;rw [if_pos (fun Y=>p (by rw [J];exact Y))];exact h.no r_ (by decide)
  clear h D H z E a r n I P J p;go_enter func394,ntmps394;go_wp2_with (go_at_call 298;refine(HC _ _ rfl).mono ?_;rintro e j ⟨rfl,es,rfl⟩;unfold aY);go_ret;exact HX.out es
theorem zF(w f:World)(M:Nat->Prop)(s:Sg)(tb mb g i c b:Nat)(j:Option Addr)(n a:Nat)(r:SR)(k:Calls prog 394 #[.pointer (some ⟨c,0,none⟩),.pointer (some ⟨b,0,none⟩),.slice j n a] w fun e d=>AS M f s tb mb g i c r e d) :Calls prog 392 #[.pointer (some ⟨c,0,none⟩),.iface 330 (.pointer (some ⟨b,0,none⟩)),.slice j n a] w fun e d=>AS M f s tb mb g i c r e d:=by have l:Hid (Calls prog 394 #[.pointer (some ⟨c,0,none⟩),.pointer (some ⟨b,0,none⟩),.slice j n a] w fun e d=>∃x,e=.returned x/\AS M f s tb mb g i c r (.returned x) d):=show Calls _ _ _ _ _ from k.mono (fun e d h=>by obtain⟨x,rfl⟩:=h.one;exact⟨x,rfl,h⟩);have o:=Tryz.vq_q;clear k;go_enter func392,ntmps392;go_wp2_with (go_at_call 394;refine Calls.mono l ?_;rintro e p ⟨x,rfl,m⟩);go_ret;exact m
theorem zI(w f:World)(M:Nat->Prop)(s:Sg)(tb mb g i c b:Nat)(j:Option Addr)(n a:Nat)(r:SR)(k:Calls prog 395 #[.pointer (some ⟨c,0,none⟩),.pointer (some ⟨b,0,none⟩),.slice j n a] w fun e d=>AS M f s tb mb g i c r e d) :Calls prog 392 #[.pointer (some ⟨c,0,none⟩),.iface 522 (.pointer (some ⟨b,0,none⟩)),.slice j n a] w fun e d=>AS M f s tb mb g i c r e d:=by have l:Hid (Calls prog 395 #[.pointer (some ⟨c,0,none⟩),.pointer (some ⟨b,0,none⟩),.slice j n a] w fun e d=>∃x,e=.returned x/\AS M f s tb mb g i c r (.returned x) d):=show Calls _ _ _ _ _ from k.mono (fun e d h=>by obtain⟨x,rfl⟩:=h.one;exact⟨x,rfl,h⟩);have o:=Tryz.vq_c;have p:=Tryz.vc_c;clear k;go_enter func392,ntmps392;go_wp2_with (go_at_call 395;refine Calls.mono l ?_;rintro e q ⟨x,rfl,m⟩);go_ret;exact m
theorem vH(w d:World)(M:Nat->Prop)(s:Sg)(tb mb f g b:Nat)(i:Option Addr)(n a:Nat)(r:SR)(j:Calls prog 396 #[.pointer (some ⟨b,0,none⟩),.slice i n a] (w.alloc (.cells #[] 243)) fun e c=>AS M d s tb mb f g b r e c) :Calls prog 392 #[.pointer (some ⟨b,0,none⟩),.iface 243 (.agg #[]),.slice i n a] w fun e c=>AS M d s tb mb f g b r e c:=by have k:Hid (Calls prog 396 #[.pointer (some ⟨b,0,none⟩),.slice i n a] (w.alloc (.cells #[] 243)) fun e c=>∃x,e=.returned x/\AS M d s tb mb f g b r (.returned x) c):=show Calls _ _ _ _ _ from j.mono (fun e c h=>by obtain⟨x,rfl⟩:=h.one;exact⟨x,rfl,h⟩);have m:=Tryz.Q4;have o:=Tryz.Q5;have p:=Tryz.vk_k;clear j;go_enter func392,ntmps392;go_wp2_with (go_at_call 396;refine Calls.mono k ?_;rintro e q ⟨x,rfl,l⟩);go_ret;exact l
theorem zH(w:World)(d:Nat)(x:Value)(f:Option Addr)(n a:Nat)(t:AE)(j:t.length<=202)(c:Calls prog 126 #[.iface 294 x] w fun e b=>e=.returned (.string ⟨t.toArray⟩)/\Below w.heap.size w b) :Calls prog 392 #[.pointer (some ⟨d,0,none⟩),.iface 294 x,.slice f n a] w fun e b=>Below w.heap.size w b/\∃g,e=.returned (aY g 9):=by
 have h:=h_ c;have k:=Tryz.P_;have l:=Tryz.S_;have m:=Tryz.R_;have o:=Tryz.Q_;clear c;go_enter func392,ntmps392
 go_wp2_with (first
  | (go_at_call 126;refine Calls.mono h ?_;rintro e p ⟨rfl,i⟩)
  | (go_at_call 78;refine(bJ _ _ _).mono ?_;rintro e q ⟨rfl,rfl⟩))
 go_ret;exact⟨i,_,rfl⟩
theorem sN(w:World)(d:Nat)(x:Value)(f:Option Addr)(n a:Nat)(t:AE)(j:t.length<=202)(c:Calls prog 126 #[.iface 296 x] w fun e b=>e=.returned (.string ⟨t.toArray⟩)/\Below w.heap.size w b) :Calls prog 392 #[.pointer (some ⟨d,0,none⟩),.iface 296 x,.slice f n a] w fun e b=>Below w.heap.size w b/\∃g,e=.returned (aY g 9):=by
 have h:=h_ c;have k:=Tryz.R6;have l:=Tryz.SC;have m:=Tryz.SA;have o:=Tryz.R8;clear c;go_enter func392,ntmps392
 go_wp2_with (first
  | (go_at_call 126;refine Calls.mono h ?_;rintro e p ⟨rfl,i⟩)
  | (go_at_call 78;refine(bJ _ _ _).mono ?_;rintro e q ⟨rfl,rfl⟩))
 go_ret;exact⟨i,_,rfl⟩
theorem vG(w:World)(d:Nat)(x:Value)(f:Option Addr)(n a:Nat)(t:AE)(j:t.length<=202)(c:Calls prog 126 #[.iface 297 x] w fun e b=>e=.returned (.string ⟨t.toArray⟩)/\Below w.heap.size w b) :Calls prog 392 #[.pointer (some ⟨d,0,none⟩),.iface 297 x,.slice f n a] w fun e b=>Below w.heap.size w b/\∃g,e=.returned (aY g 9):=by
 have h:=h_ c;have k:=Tryz.VU;have l:=Tryz.V2;have m:=Tryz.VZ;have o:=Tryz.VW;clear c;go_enter func392,ntmps392
 go_wp2_with (first
  | (go_at_call 126;refine Calls.mono h ?_;rintro e p ⟨rfl,i⟩)
  | (go_at_call 78;refine(bJ _ _ _).mono ?_;rintro e q ⟨rfl,rfl⟩))
 go_ret;exact⟨i,_,rfl⟩
theorem sO(w:World)(d:Nat)(x:Value)(f:Option Addr)(n a:Nat)(t:AE)(j:t.length<=202)(c:Calls prog 126 #[.iface 366 x] w fun e b=>e=.returned (.string ⟨t.toArray⟩)/\Below w.heap.size w b) :Calls prog 392 #[.pointer (some ⟨d,0,none⟩),.iface 366 x,.slice f n a] w fun e b=>Below w.heap.size w b/\∃g,e=.returned (aY g 9):=by
 have h:=h_ c;have k:=Tryz.R7;have l:=Tryz.SD;have m:=Tryz.SB;have o:=Tryz.R9;clear c;go_enter func392,ntmps392
 go_wp2_with (first
  | (go_at_call 126;refine Calls.mono h ?_;rintro e p ⟨rfl,i⟩)
  | (go_at_call 78;refine(bJ _ _ _).mono ?_;rintro e q ⟨rfl,rfl⟩))
 go_ret;exact⟨i,_,rfl⟩
theorem nN(w:World)(d:Nat)(x:Value)(f:Option Addr)(n a:Nat)(t:AE)(j:t.length<=202)(c:Calls prog 126 #[.iface 299 x] w fun e b=>e=.returned (.string ⟨t.toArray⟩)/\Below w.heap.size w b) :Calls prog 392 #[.pointer (some ⟨d,0,none⟩),.iface 299 x,.slice f n a] w fun e b=>Below w.heap.size w b/\∃g,e=.returned (aY g 9):=by
 have h:=h_ c;have k:=Tryz.OX;have l:=Tryz.O0;have m:=Tryz.OZ;have o:=Tryz.OY;clear c;go_enter func392,ntmps392
 go_wp2_with (first
  | (go_at_call 126;refine Calls.mono h ?_;rintro e p ⟨rfl,i⟩)
  | (go_at_call 78;refine(bJ _ _ _).mono ?_;rintro e q ⟨rfl,rfl⟩))
 go_ret;exact⟨i,_,rfl⟩
theorem vF(w:World)(d:Nat)(x:Value)(f:Option Addr)(n a:Nat)(t:AE)(j:t.length<=202)(c:Calls prog 126 #[.iface 367 x] w fun e b=>e=.returned (.string ⟨t.toArray⟩)/\Below w.heap.size w b) :Calls prog 392 #[.pointer (some ⟨d,0,none⟩),.iface 367 x,.slice f n a] w fun e b=>Below w.heap.size w b/\∃g,e=.returned (aY g 9):=by
 have h:=h_ c;have k:=Tryz.VT;have l:=Tryz.V1;have m:=Tryz.VY;have o:=Tryz.VV;clear c;go_enter func392,ntmps392
 go_wp2_with (first
  | (go_at_call 126;refine Calls.mono h ?_;rintro e p ⟨rfl,i⟩)
  | (go_at_call 78;refine(bJ _ _ _).mono ?_;rintro e q ⟨rfl,rfl⟩))
 go_ret;exact⟨i,_,rfl⟩
structure Wf(W:PW):Prop where
 wp:OU W
 out:W.out.length<=1000
theorem qS(M:Nat->Prop)(p w:World)(s:Sg)(tb mb r u d:Nat)(W:PW)(o:Wf W)(S:PS)(A ev B C D F:Value)(us:List Value)(args:List PV)(h:Ap M p w s tb mb r u d W S A ev B C D F us args)(L:∀v∈args,BL W v)(J:Value)(f:PV)(K:RV s J f)(g:BL W f)(G:f≠.AZ AU) :Calls prog 392 #[.pointer (some ⟨d,0,none⟩),J,F] w fun e x=>AS M p s tb mb r u d (AH W S f args) e x:=by
 have j:=K
 cases K with
 | num n =>obtain⟨c,a,rfl,_,_⟩:=h.args;exact(zH w d _ c us.length a _ (Pl.FL _) (hH W o.wp s w _ _ (h.wd.TJ h.below) j g)).mono (fun e x ⟨l,z,m⟩=>by subst m;exact h.no l (by decide))
 | AT b =>obtain⟨c,a,rfl,_,_⟩:=h.args;exact(sN w d _ c us.length a _ (Pl.FL _) (hH W o.wp s w _ _ (h.wd.TJ h.below) j g)).mono (fun e x ⟨l,z,m⟩=>by subst m;exact h.no l (by decide))
 | name t =>obtain⟨c,a,rfl,_,_⟩:=h.args;exact(vG w d _ c us.length a _ (Pl.FL _) (hH W o.wp s w _ _ (h.wd.TJ h.below) j g)).mono (fun e x ⟨l,z,m⟩=>by subst m;exact h.no l (by decide))
 | empty =>obtain⟨c,a,rfl,_,_⟩:=h.args;exact(sO w d _ c us.length a _ (Pl.FL _) (hH W o.wp s w _ _ (h.wd.TJ h.below) j g)).mono (fun e x ⟨l,z,m⟩=>by subst m;exact h.no l (by decide))
 | nothing =>obtain⟨c,a,rfl,_,_⟩:=h.args;exact(nN w d _ c us.length a _ (Pl.FL _) (hH W o.wp s w _ _ (h.wd.TJ h.below) j g)).mono (fun e x ⟨l,z,m⟩=>by subst m;exact h.no l (by decide))
 | pair i b E =>obtain⟨c,a,rfl,_,_⟩:=h.args;exact(vF w d _ c us.length a _ (Pl.FL _) (hH W o.wp s w _ _ (h.wd.TJ h.below) j g)).mono (fun e x ⟨l,z,m⟩=>by subst m;exact h.no l (by decide))
 | EC=>exact absurd rfl G
 | AZ k t N H=>exact zG M p w s tb mb r u d W o.wp S A ev B C D F us args h L o.out k t N H
 | proc i b E _ =>
  obtain⟨q,I,y⟩:=h.wd.procs.get E;obtain⟨c,a,rfl,_,_⟩:=h.args;rw [h.wd.tq];refine zF w p M s tb mb r u d b c us.length a _ ?_;have:AH W S (.proc i) args=jC W S q args:=by unfold AH jC;dsimp only;rw [I]
  rw [this];exact o7 M p w s tb mb r u d W S A ev B C D _ us args h b q y
 | cont i b E =>
  obtain⟨q,I,y⟩:=h.wd.AG.get E;obtain⟨c,a,rfl,_,_⟩:=h.args;rw [h.wd.tc];refine zI w p M s tb mb r u d b c us.length a _ ?_;have:AH W S (.cont i) args=tF W S q args:=by unfold AH tF;dsimp only;rw [I];rfl
  rw [this];exact o8 M p w s tb mb r u d W S A ev B C D _ us args h b q y
theorem qR(M:Nat->Prop)(G w:World)(s:Sg)(tb mb A B j:Nat)(W:PW)(S:PS)(J ev K d L R:Value)(u:Value)(a:PV)(h:Ap M G w s tb mb A B j W S J ev K d L R [u] [a])(r:SR)
  (C:∀(U D:World)(t:Sg)(V:Value)(v:Value),Sg.Le s t->Ap M U D t tb mb A B j (W.keep S) S J ev K d L V [v] [.cont W.AG.length]->RV t u a->Calls prog 392 #[.pointer (some ⟨j,0,none⟩),u,V] D fun e f=>AS M U t tb mb A B j r e f) :
  Calls prog 396 #[.pointer (some ⟨j,0,none⟩),R] w fun e f=>AS M G s tb mb A B j r e f:=by
 have q:=h.MO;have aa:=aB q;have E:=aB h.run.blk;obtain⟨ao,N,rfl,X,k⟩:=h.args;obtain⟨g,m,ab,rfl,ac,O,n⟩:=k (by simp);have ad:=aB O;have z:RV s u a:=h.CH.2 0 u a rfl rfl;have d0:w.cell? ⟨g,m,none⟩=some u:=(aA O m).trans (by have:=n 0 u rfl;simpa using this);have e4:w.cell? ⟨j,4,none⟩=some d:=aA q 4
 have Y:Hid (∀f H,H=N->Calls prog 298 #[.string ⟨#[99,97,108,108,47,99,99]⟩,.int .i64 1,.slice (some ⟨g,m,none⟩) 1 H] f fun e D=>f=D/\e=.returned .nilIface):=fun f H P=>by
  subst P;refine Calls.mono (gR ⟨#[99,97,108,108,47,99,99]⟩ 1 (some ⟨g,m,none⟩) 1 H f (by omega) (by decide)) (fun e D ⟨h1,F⟩=>⟨h1,?_⟩);rcases F with⟨_,F⟩ | ⟨F,_⟩
  ·exact F
  ·exact absurd rfl F
 have HZ:Hid (Calls prog 392 #[.pointer (some ⟨j,0,none⟩),u,.slice (some ⟨w.heap.size+1,0,none⟩) 1 1] ((w.alloc (.cells #[d] J0)).alloc (.cells #[.iface 522 (.pointer (some ⟨w.heap.size,0,none⟩))] B9)).drew fun e f=>∃x,e=.returned x/\Hid (AS M G s tb mb A B j r (.returned x) f)):=by
  have Q:Below w.heap.size w (w.alloc (.cells #[d] J0)):=b_;have b:=h.below.trans (Q.mono h.below.size);have o:Stp M G M (w.alloc (.cells #[d] J0)):=Stp.AA b;obtain⟨k1,k2⟩:=h.wd.IJ b (p:=w.heap.size) h.below.size (heap_alloc_new w _) S.AB h.fr;have l:=s.LD w.heap.size;have hn:((w.alloc (.cells #[d] J0)).alloc (.cells #[.iface 522 (.pointer (some ⟨w.heap.size,0,none⟩))] B9)).drew.heap[w.heap.size+1]?=some (.cells #[.iface 522 (.pointer (some ⟨w.heap.size,0,none⟩))] B9 (0,0)):=by have:=heap_alloc_new (w.alloc (.cells #[d] J0)) (.cells #[.iface 522 (.pointer (some ⟨w.heap.size,0,none⟩))] B9);rw [show(w.alloc (.cells #[d] J0)).heap.size=w.heap.size+1 from by simp] at this;exact this
  have hA:Ap M (w.alloc (.cells #[d] J0)) ((w.alloc (.cells #[d] J0)).alloc (.cells #[.iface 522 (.pointer (some ⟨w.heap.size,0,none⟩))] B9)).drew (s.IJ w.heap.size) tb mb A B j (W.keep S) S J ev K d L (.slice (some ⟨w.heap.size+1,0,none⟩) 1 1) [.iface 522 (.pointer (some ⟨w.heap.size,0,none⟩))] [.cont W.AG.length] :=
   ⟨b_.drew,k1,⟨(b.block j E).trans h.run.blk,h.run.JK⟩,h.fr.go o l,h.out.below b,⟨rfl,fun i x y c I=>by
    match i,c,I with
    | 0,c,I=>simp at c I;subst c I;exact k2
    | i+1,c,_=>simp at c⟩,by simp,⟨_,1,rfl,n_,fun _=>⟨w.heap.size+1,0,_,rfl,by simp,hn,fun i x c=>by
    match i,c with
    | 0,c=>simp at c;subst c;rfl
    | i+1,c=>simp at c⟩⟩⟩
  exact(C _ _ _ _ _ l hA (z.le l)).mono (fun e f Z=>by
   obtain⟨x,rfl⟩:=Z.one
   exact⟨x,rfl,Z.M7 o l (EG.same rfl rfl)⟩)
 obtain⟨ok,rfl⟩:=h.fr.ptr;obtain⟨T,x,rfl⟩:=z.iface;have ae:(0:Int)<1:=by decide
 clear h q k O n z C;go_enter func396,ntmps396
 go_upto_region 4 with(go_at_call 298;refine(Y _ _ rfl).mono ?_;rintro e f ⟨rfl,rfl⟩)
 clear Y;go_region_with (go_at_call 392;refine Calls.mono HZ ?_;rintro e w3 ⟨x1,rfl,HQ⟩)
 all_goals
  go_wp2_with fail
  go_ret;exact HQ
theorem sM(w:World)(i:Nat)(g:Option Addr)(n a:Nat)(c:n≠1) :Calls prog 396 #[.pointer (some ⟨i,0,none⟩),.slice g n a] w fun e b=>w=b/\∃d,e=.returned (aY d 10):=by
 have j:Hid (∀b,Calls prog 298 #[.string ⟨#[99,97,108,108,47,99,99]⟩,.int .i64 1,.slice g n a] b fun e h=>b=h/\∃d,e=.returned (aY d 10)):=fun b=>by
  refine Calls.mono (gR ⟨#[99,97,108,108,47,99,99]⟩ 1 g n a b (by omega) (by decide)) (fun e h ⟨k,f⟩=>⟨k,?_⟩);rcases f with⟨f,_⟩ | ⟨_,f⟩
  ·exact absurd f c
  ·exact f
 clear c;go_enter func396,ntmps396;go_wp2_with (go_at_call 298;refine(j _).mono ?_;rintro e b ⟨rfl,d,rfl⟩;unfold aY);go_ret;exact⟨rfl,d,rfl⟩
theorem Wf.keep{W:PW}(h:Wf W)(S:PS):Wf (W.keep S):=⟨⟨h.wp.KV,fun i p a=>⟨(h.wp.CH i p a).1.le ⟨VP _,n_,by simp [Pl.PW.keep],n_⟩,(h.wp.CH i p a).2.le ⟨VP _,n_,by simp [Pl.PW.keep],n_⟩⟩⟩,h.out⟩
theorem aAB{W:PW}{v:PV}(h:BL W v)(S:PS):BL (W.keep S) v:=h.le ⟨VP _,n_,by simp [Pl.PW.keep],n_⟩
theorem Ap.later{M:Nat->Prop}{w0 w w2:World}{s:Sg}{tb mb sb gb rb:Nat}{W:PW}{S:PS}{fv ev gv kv ov av:Value}{us:List Value}{args:List PV}(h:Ap M w0 w s tb mb sb gb rb W S fv ev gv kv ov av us args)(d:Below w.heap.size w w2):Ap M w0 w2 s tb mb sb gb rb W S fv ev gv kv ov av us args :=
 ⟨h.below.trans (d.mono h.below.size),h.wd,h.run,h.fr,h.out,h.CH,h.len,by
  obtain⟨f,a,i,j,k⟩:=h.args;refine⟨f,a,i,j,fun l=>?_⟩;obtain⟨g,b,c,m,n,e,o⟩:=k l
  exact⟨g,b,c,m,n,(d.block g (aB e)).trans e,o⟩⟩
theorem nM(M:Nat->Prop)(f w:World)(s:Sg)(tb mb c d b:Nat)(W:PW)(q:Wf W)(S:PS)(g ev i j k o:Value)(u:Value)(a:PV)(h:Ap M f w s tb mb c d b W S g ev i j k o [u] [a])(r:BL W a)(m:a≠.AZ AU) :Calls prog 392 #[.pointer (some ⟨b,0,none⟩),.iface 243 (.agg #[]),o] w fun e y=>AS M f s tb mb c d b (AH (W.keep S) S a [.cont W.AG.length]) e y:=by obtain⟨z,n,rfl,_,_⟩:=h.args;refine vH w f M s tb mb c d b z 1 n _ ?_;refine qR M f _ s tb mb c d b W S g ev i j k _ u a (h.later b_) _ (fun A B t C v l D E=>?_);exact qS M A B t tb mb c d b (W.keep S) (q.keep S) S g ev i j k C [v] _ D (fun x p=>by simp at p;subst p;show W.AG.length<(W.AG++[S.AB]).length;simp) u a E (aAB r S) m
theorem XQ(M:Nat->Prop)(i w:World)(s:Sg)(tb mb d g b:Nat)(W:PW)(A:Wf W)(S:PS)(o ev p q r x:Value)(us:List Value)(args:List PV)(h:Ap M i w s tb mb d g b W S o ev p q r x us args)(F:∀v∈args,BL W v)(y:Value)(f:PV)(G:RV s y f)(B:BL W f) :Calls prog 392 #[.pointer (some ⟨b,0,none⟩),y,x] w fun e H=>AS M i s tb mb d g b (Pl.apply W S f args) e H:=by
 by_cases j:f=.AZ AU
 ·subst j
  obtain rfl:y=.iface 243 (.agg #[]):=by
   cases G with
   | AZ k t C D=>exact absurd (lR C) (by omega)
   | EC=>rfl
  by_cases n:args.length=1
  ·obtain⟨a,rfl⟩:∃a,args=[a]:=List.length_eq_one_iff.1 n;obtain⟨u,rfl⟩:∃u,us=[u]:=List.length_eq_one_iff.1 (h.CH.1.trans n);by_cases E:a=.AZ AU
   ·subst E;have m:Pl.apply W S (.AZ AU) [.AZ AU]=AH ((W.keep S).keep S) S (.cont W.AG.length) [.cont (W.AG.length+1)]:=by unfold Pl.apply;rw [if_pos rfl];dsimp only;rw [if_pos rfl]
    rw [m];obtain⟨z,c,rfl,_,_⟩:=h.args;refine vH w i M s tb mb d g b z 1 c _ ?_;refine qR M i _ s tb mb d g b W S o ev p q r _ u _ (h.later b_) _ (fun I J t K v l L N=>?_)
    obtain rfl:u=.iface 243 (.agg #[]):=by
     cases N with
     | AZ k t C D=>exact absurd (lR C) (by omega)
     | EC=>rfl
    have:=nM M I J t tb mb d g b (W.keep S) (A.keep S) S o ev p q r K v _ L (by show W.AG.length<(W.AG++[S.AB]).length;simp) (by simp);rw [show(W.keep S).AG.length=W.AG.length+1 from by simp [Pl.PW.keep]] at this;exact this
   ·have m:Pl.apply W S (.AZ AU) [a]=AH (W.keep S) S a [.cont W.AG.length]:=by
     unfold Pl.apply;rw [if_pos rfl];dsimp only;rw [if_neg E]
    rw [m];exact nM M i w s tb mb d g b W A S o ev p q r x u a h (F a (by simp)) E
  ·have m:Pl.apply W S (.AZ AU) args=⟨10,W,S⟩:=by
    unfold Pl.apply;rw [if_pos rfl]
    match args,n with
    | [],_=>rfl
    | [_],n=>exact absurd rfl n
    | _::_::_,_=>rfl
   rw [m];obtain⟨z,c,rfl,_,_⟩:=h.args;refine vH w i M s tb mb d g b z us.length c _ ?_;exact(sM _ b z us.length c (by rw [h.CH.1];exact n)).mono (fun e H ⟨O,Q,P⟩=>by subst O P;exact h.no b_ (by decide))
 ·have m:Pl.apply W S f args=AH W S f args:=if_neg j;rw [m];exact qS M i w s tb mb d g b W A S o ev p q r x us args h F y f G B j
end
end Go.Proofs.YtkgbdddkcjpgfaaGreatDoor
