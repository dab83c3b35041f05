import Derived.Test.YtkgbdddkcjpgfaaGreatDoorT46
namespace Go.Proofs.YtkgbdddkcjpgfaaGreatDoor
set_option maxHeartbeats 4000000
set_option maxRecDepth 100000
open Go.Proofs.Tryz
open Pl (PV PW PS PF SR AE Env AH AU)
section
open Go.RowKit Go.Lib Go.Maps
theorem o7(M:Nat->Prop)(C w:World)(s:Sg)(tb mb D P d:Nat)(W:PW)(S:PS)(fv ev gv kv ov av:Value)(k:List Value)(args:List PV)(h:Ap M C w s tb mb D P d W S fv ev gv kv ov av k args)(b:Nat)(q:PF×Env)(hq:GR M C s b q) :Calls prog 394 #[.pointer (some ⟨d,0,none⟩),.pointer (some ⟨b,0,none⟩),av] w fun e j=>AS M C s tb mb D P d (jC W S q args) e j:=by
 have E:=h.MO;have aa:=aB E;obtain⟨ak,nv,m,eq,x,I,Q,F,a,t⟩:=hq;have A:=(h.below.block b (aB I)).trans I;have al:=aB A;have c0:w.cell? ⟨b,0,none⟩=some nv:=aA A 0;have c1:w.cell? ⟨b,1,none⟩=some m:=aA A 1;have c2:w.cell? ⟨b,2,none⟩=some eq:=aA A 2;obtain⟨L,n,rfl,ai,p⟩:=h.args;have am:=F.len;obtain⟨R,U,rfl⟩:∃R U,nv=.slice R q.1.ns.length U:=by obtain⟨⟨ks,_,_,R,U,rfl,_⟩,_,_⟩:=F;exact⟨R,U,rfl⟩
 have J:=fun j=>gR ⟨#[97,32,112,114,111,99,101,100,117,114,101]⟩ q.1.ns.length L k.length n j (by omega) (by decide);have K:=h.CH.1;by_cases r:k.length=q.1.ns.length
 ·have HC:Hid (∀j V,V=n->Calls prog 298 #[.string ⟨#[97,32,112,114,111,99,101,100,117,114,101]⟩,.int .i64 (q.1.ns.length:Int),.slice L k.length V] j fun e v=>j=v/\e=.returned .nilIface):=fun j V X=>by
   subst X;refine(J j).mono (fun e v ⟨h1,G⟩=>⟨h1,?_⟩);rcases G with⟨_,G⟩ | ⟨G,_⟩
   ·exact G
   ·exact absurd r G
  have HX:Hid (∀N z v,Below w.heap.size w z->w.heap.size<=N->z.heap[N]?=some (.cells #[.slice R q.1.ns.length U,.slice L k.length n,eq] M8 (0,0))->AI z d #[.pointer (some ⟨D,0,none⟩),m,.pointer (some ⟨N,0,none⟩),.nilIface,kv,ov] v->AS M C s tb mb D P d (jC W S q args) (.returned .nilIface) v):=fun N z v Y ap ab hc=>by
   have O:Below C.heap.size C z:=h.below.trans (Y.mono h.below.size)
   obtain⟨g,c,B,hg,ac⟩:∃(g c:Nat)(B:Array Value),(k.length≠0->C.heap.size<=g/\z.heap[g]?=some (Obj.cells B B9 (0,0))/\∀(i:Nat)(u:Value),k[i]?=some u->B[c+i]?=some u)/\(k.length≠0->L=some ⟨g,c,none⟩/\g<w.heap.size):=by
    by_cases h0:k.length=0
    ·exact⟨0,0,#[],fun Z=>absurd h0 Z,fun Z=>absurd h0 Z⟩
    ·obtain⟨g,c,B,k1,k2,k3,k4⟩:=p h0;exact⟨g,c,B,fun _=>⟨k2,(Y.block g (aB k3)).trans k3,k4⟩,fun _=>⟨k1,aB k3⟩⟩
   obtain⟨ad,H⟩:=h.wd.OK O h.CH g c B hg;have l:=s.OJ g c k.length
   have ae:¬Mg M g k.length N:=fun hx=>by
    rcases hx with hx | ⟨hx,rfl⟩
    ·have:=h.wd.CY.mlt N hx;have:=h.below.size;omega
    ·have:=(ac hx).2;omega
   have hE:CX (Mg M g k.length) z (s.OK g c k.length) (.pointer (some ⟨N,0,none⟩)) (q.2++Pl.C1 q.1.ns W.places.length):=by refine .cons N _ eq L n W.places.length q.1.ns q.2 (by rw [ab,r]) ae (F.go H.AQ l) (by omega) (fun i hi=>?_) (t.go H.AQ l);refine⟨g,c,(ac (by omega)).1,?_⟩;show(s.lp++kJ g c k.length)[W.places.length+i]?=_;rw [<- h.wd.places.len,List.getElem?_append_right (by omega),Nat.add_sub_cancel_left];exact jL g c k.length i (by omega)
   have hp:jC W S q args=⟨0,{W with places:=W.places++args},S.work q.1.ks[0]? (q.2++Pl.C1 q.1.ns W.places.length)⟩:=by unfold jC;rw [if_neg (fun Z=>Z (by rw [<- K];exact r))]
   rw [hp];have af:C0 (Mg M g k.length) z D d fv ev gv kv ov:=⟨(Y.block d aa).trans E,.inl h.run.JK⟩
   refine(iP (f:=x) ad af (h.fr.go H.AQ l) ?_ (a.go H.AQ l) hE hc (by rw [Q];rfl)).M7 H.AQ l (EG.same rfl rfl);exact h.out.keep (fun g' aj fz ag ah=>⟨O.block g' (aB ah),.inl ag⟩)
  have HG:Hid (∀(z:World) ep,z.heap[d]?=w.heap[d]? -> (∃o,ep=.pointer o)->Calls prog 172 #[.pointer (some ⟨d,1,none⟩),m,ep] z fun e j=>e=.returned (.tuple #[])/\AI z d #[.pointer (some ⟨D,0,none⟩),m,ep,.nilIface,kv,ov] j):=fun z ep h1 he=>cU z d _ _ _ _ _ _ m ep (h1.trans E) a.iface he;have HB:Hid (∀ob,Below w.heap.size w (w.alloc ob).drew):=fun ob=>b_.drew;have HK:Hid (∀ob,(w.alloc ob).drew.heap[d]?=w.heap[d]?):=fun ob=>(HB ob).block d aa;have HN:Hid (∀cs T,(w.alloc (.cells cs T)).drew.heap[w.heap.size]?=some (.cells cs T (0,0))):=fun cs T=>heap_alloc_new w _;obtain⟨oe,rfl⟩:=t.ptr;obtain⟨T,y,rfl⟩:=a.iface;clear h E I A F a t p J Q K r;go_enter func394,ntmps394
  go_upto_region 4 with(go_at_call 298;refine(HC _ _ rfl).mono ?_;rintro e j ⟨rfl,rfl⟩)
  go_cut [] (fun wx=>Hid (AS M C s tb mb D P d (jC W S q args) (.returned .nilIface) wx))
  case first =>
   have HY:Hid (∀v,AI (w.alloc (.cells #[.slice R q.1.ns.length U,.slice L k.length n,.pointer oe] M8)).drew d #[.pointer (some ⟨D,0,none⟩),.iface T y,.pointer (some ⟨w.heap.size,0,none⟩),.nilIface,kv,ov] v->AS M C s tb mb D P d (jC W S q args) (.returned .nilIface) v):=fun v hc=>HX.out w.heap.size _ v (HB _) n_ (HN _ _) hc;have HZ:Hid (Calls prog 172 #[.pointer (some ⟨d,1,none⟩),.iface T y,.pointer (some ⟨w.heap.size,0,none⟩)] (w.alloc (.cells #[.slice R q.1.ns.length U,.slice L k.length n,.pointer oe] M8)).drew fun e j=>e=.returned (.tuple #[])/\Hid (AS M C s tb mb D P d (jC W S q args) (.returned .nilIface) j)):=show Calls _ _ _ _ _ from(HG _ _ (HK _) ⟨_,rfl⟩).mono (fun e j h=>⟨h.1,HY j h.2⟩);clear HX HG HB HK HN HY HC;go_region_with (go_at_call 172;refine Calls.mono HZ ?_;rintro e w3 ⟨rfl,HQ⟩)
   all_goals
    go_wp2_with fail
    go_meet
    exact HQ
  case rest =>have HQ:=hcut;go_wp2_with fail;go_ret;exact HQ
 ·have HC:Hid (∀j V,V=n->Calls prog 298 #[.string ⟨#[97,32,112,114,111,99,101,100,117,114,101]⟩,.int .i64 (q.1.ns.length:Int),.slice L k.length V] j fun e v=>j=v/\∃es,e=.returned (aY es 10)):=fun j V X=>by
   subst X;refine(J j).mono (fun e v ⟨h1,G⟩=>⟨h1,?_⟩);rcases G with⟨G,_⟩ | ⟨_,G⟩
   ·exact absurd G r
   ·exact G
  have HX:Hid (∀es,AS M C s tb mb D P d (jC W S q args) (.returned (aY es 10)) w):=fun es=>by unfold jC;rw [if_pos (fun Z=>r (by rw [K];exact Z))];exact h.no r_ (by decide)
  clear h E I A F a t p J Q K r;go_enter func394,ntmps394;go_wp2_with (go_at_call 298;refine(HC _ _ rfl).mono ?_;rintro e j ⟨rfl,es,rfl⟩;unfold aY);go_ret;exact HX.out es
theorem zF(w f:World)(M:Nat->Prop)(s:Sg)(tb mb g i c b:Nat)(j:Option Addr)(n a:Nat)(r:SR)(k:Calls prog 394 #[.pointer (some ⟨c,0,none⟩),.pointer (some ⟨b,0,none⟩),.slice j n a] w fun e d=>AS M f s tb mb g i c r e d) :Calls prog 392 #[.pointer (some ⟨c,0,none⟩),.iface 330 (.pointer (some ⟨b,0,none⟩)),.slice j n a] w fun e d=>AS M f s tb mb g i c r e d:=by have l:Hid (Calls prog 394 #[.pointer (some ⟨c,0,none⟩),.pointer (some ⟨b,0,none⟩),.slice j n a] w fun e d=>∃x,e=.returned x/\AS M f s tb mb g i c r (.returned x) d):=show Calls _ _ _ _ _ from k.mono (fun e d h=>by obtain⟨x,rfl⟩:=h.one;exact⟨x,rfl,h⟩);have o:=Tryz.vq_q;clear k;go_enter func392,ntmps392;go_wp2_with (go_at_call 394;refine Calls.mono l ?_;rintro e p ⟨x,rfl,m⟩);go_ret;exact m
theorem zI(w f:World)(M:Nat->Prop)(s:Sg)(tb mb g i c b:Nat)(j:Option Addr)(n a:Nat)(r:SR)(k:Calls prog 395 #[.pointer (some ⟨c,0,none⟩),.pointer (some ⟨b,0,none⟩),.slice j n a] w fun e d=>AS M f s tb mb g i c r e d) :Calls prog 392 #[.pointer (some ⟨c,0,none⟩),.iface 522 (.pointer (some ⟨b,0,none⟩)),.slice j n a] w fun e d=>AS M f s tb mb g i c r e d:=by have l:Hid (Calls prog 395 #[.pointer (some ⟨c,0,none⟩),.pointer (some ⟨b,0,none⟩),.slice j n a] w fun e d=>∃x,e=.returned x/\AS M f s tb mb g i c r (.returned x) d):=show Calls _ _ _ _ _ from k.mono (fun e d h=>by obtain⟨x,rfl⟩:=h.one;exact⟨x,rfl,h⟩);have o:=Tryz.vq_c;have p:=Tryz.vc_c;clear k;go_enter func392,ntmps392;go_wp2_with (go_at_call 395;refine Calls.mono l ?_;rintro e q ⟨x,rfl,m⟩);go_ret;exact m
theorem vH(w d:World)(M:Nat->Prop)(s:Sg)(tb mb f g b:Nat)(i:Option Addr)(n a:Nat)(r:SR)(j:Calls prog 396 #[.pointer (some ⟨b,0,none⟩),.slice i n a] (w.alloc (.cells #[] 243)) fun e c=>AS M d s tb mb f g b r e c) :Calls prog 392 #[.pointer (some ⟨b,0,none⟩),.iface 243 (.agg #[]),.slice i n a] w fun e c=>AS M d s tb mb f g b r e c:=by have k:Hid (Calls prog 396 #[.pointer (some ⟨b,0,none⟩),.slice i n a] (w.alloc (.cells #[] 243)) fun e c=>∃x,e=.returned x/\AS M d s tb mb f g b r (.returned x) c):=show Calls _ _ _ _ _ from j.mono (fun e c h=>by obtain⟨x,rfl⟩:=h.one;exact⟨x,rfl,h⟩);have m:=Tryz.Q4;have o:=Tryz.Q5;have p:=Tryz.vk_k;clear j;go_enter func392,ntmps392;go_wp2_with (go_at_call 396;refine Calls.mono k ?_;rintro e q ⟨x,rfl,l⟩);go_ret;exact l
theorem zH(w:World)(d:Nat)(x:Value)(f:Option Addr)(n a:Nat)(t:AE)(j:t.length<=202)(c:Calls prog 126 #[.iface 294 x] w fun e b=>e=.returned (.string ⟨t.toArray⟩)/\Below w.heap.size w b) :Calls prog 392 #[.pointer (some ⟨d,0,none⟩),.iface 294 x,.slice f n a] w fun e b=>Below w.heap.size w b/\∃g,e=.returned (aY g 9):=by
 have h:=h_ c;have k:=Tryz.P_;have l:=Tryz.S_;have m:=Tryz.R_;have o:=Tryz.Q_;clear c;go_enter func392,ntmps392
 go_wp2_with (first
  | (go_at_call 126;refine Calls.mono h ?_;rintro e p ⟨rfl,i⟩)
  | (go_at_call 78;refine(bJ _ _ _).mono ?_;rintro e q ⟨rfl,rfl⟩))
 go_ret;exact⟨i,_,rfl⟩
theorem sN(w:World)(d:Nat)(x:Value)(f:Option Addr)(n a:Nat)(t:AE)(j:t.length<=202)(c:Calls prog 126 #[.iface 296 x] w fun e b=>e=.returned (.string ⟨t.toArray⟩)/\Below w.heap.size w b) :Calls prog 392 #[.pointer (some ⟨d,0,none⟩),.iface 296 x,.slice f n a] w fun e b=>Below w.heap.size w b/\∃g,e=.returned (aY g 9):=by
 have h:=h_ c;have k:=Tryz.R6;have l:=Tryz.SC;have m:=Tryz.SA;have o:=Tryz.R8;clear c;go_enter func392,ntmps392
 go_wp2_with (first
  | (go_at_call 126;refine Calls.mono h ?_;rintro e p ⟨rfl,i⟩)
  | (go_at_call 78;refine(bJ _ _ _).mono ?_;rintro e q ⟨rfl,rfl⟩))
 go_ret;exact⟨i,_,rfl⟩
theorem vG(w:World)(d:Nat)(x:Value)(f:Option Addr)(n a:Nat)(t:AE)(j:t.length<=202)(c:Calls prog 126 #[.iface 297 x] w fun e b=>e=.returned (.string ⟨t.toArray⟩)/\Below w.heap.size w b) :Calls prog 392 #[.pointer (some ⟨d,0,none⟩),.iface 297 x,.slice f n a] w fun e b=>Below w.heap.size w b/\∃g,e=.returned (aY g 9):=by
 have h:=h_ c;have k:=Tryz.VU;have l:=Tryz.V2;have m:=Tryz.VZ;have o:=Tryz.VW;clear c;go_enter func392,ntmps392
 go_wp2_with (first
  | (go_at_call 126;refine Calls.mono h ?_;rintro e p ⟨rfl,i⟩)
  | (go_at_call 78;refine(bJ _ _ _).mono ?_;rintro e q ⟨rfl,rfl⟩))
 go_ret;exact⟨i,_,rfl⟩
theorem sO(w:World)(d:Nat)(x:Value)(f:Option Addr)(n a:Nat)(t:AE)(j:t.length<=202)(c:Calls prog 126 #[.iface 366 x] w fun e b=>e=.returned (.string ⟨t.toArray⟩)/\Below w.heap.size w b) :Calls prog 392 #[.pointer (some ⟨d,0,none⟩),.iface 366 x,.slice f n a] w fun e b=>Below w.heap.size w b/\∃g,e=.returned (aY g 9):=by
 have h:=h_ c;have k:=Tryz.R7;have l:=Tryz.SD;have m:=Tryz.SB;have o:=Tryz.R9;clear c;go_enter func392,ntmps392
 go_wp2_with (first
  | (go_at_call 126;refine Calls.mono h ?_;rintro e p ⟨rfl,i⟩)
  | (go_at_call 78;refine(bJ _ _ _).mono ?_;rintro e q ⟨rfl,rfl⟩))
 go_ret;exact⟨i,_,rfl⟩
theorem nN(w:World)(d:Nat)(x:Value)(f:Option Addr)(n a:Nat)(t:AE)(j:t.length<=202)(c:Calls prog 126 #[.iface 299 x] w fun e b=>e=.returned (.string ⟨t.toArray⟩)/\Below w.heap.size w b) :Calls prog 392 #[.pointer (some ⟨d,0,none⟩),.iface 299 x,.slice f n a] w fun e b=>Below w.heap.size w b/\∃g,e=.returned (aY g 9):=by
 have h:=h_ c;have k:=Tryz.OX;have l:=Tryz.O0;have m:=Tryz.OZ;have o:=Tryz.OY;clear c;go_enter func392,ntmps392
 go_wp2_with (first
  | (go_at_call 126;refine Calls.mono h ?_;rintro e p ⟨rfl,i⟩)
  | (go_at_call 78;refine(bJ _ _ _).mono ?_;rintro e q ⟨rfl,rfl⟩))
 go_ret;exact⟨i,_,rfl⟩
theorem vF(w:World)(d:Nat)(x:Value)(f:Option Addr)(n a:Nat)(t:AE)(j:t.length<=202)(c:Calls prog 126 #[.iface 367 x] w fun e b=>e=.returned (.string ⟨t.toArray⟩)/\Below w.heap.size w b) :Calls prog 392 #[.pointer (some ⟨d,0,none⟩),.iface 367 x,.slice f n a] w fun e b=>Below w.heap.size w b/\∃g,e=.returned (aY g 9):=by
 have h:=h_ c;have k:=Tryz.VT;have l:=Tryz.V1;have m:=Tryz.VY;have o:=Tryz.VV;clear c;go_enter func392,ntmps392
 go_wp2_with (first
  | (go_at_call 126;refine Calls.mono h ?_;rintro e p ⟨rfl,i⟩)
  | (go_at_call 78;refine(bJ _ _ _).mono ?_;rintro e q ⟨rfl,rfl⟩))
 go_ret;exact⟨i,_,rfl⟩
structure Wf(W:PW):Prop where
 wp:OU W
 out:W.out.length<=1000
theorem qS(M:Nat->Prop)(r w:World)(s:Sg)(tb mb u x d:Nat)(W:PW)(p:Wf W)(S:PS)(B C D E F H:Value)(l:List Value)(args:List PV)(h:Ap M r w s tb mb u x d W S B C D E F H l args)(O:∀v∈args,BL W v)(L:Value)(f:PV)(N:RV s L f)(g:BL W f)(I:f≠.AZ AU) :Calls prog 392 #[.pointer (some ⟨d,0,none⟩),L,H] w fun e y=>AS M r s tb mb u x d (AH W S f args) e y:=by
 have j:=N
 cases N with
 | num n =>obtain⟨c,a,rfl,_,_⟩:=h.args;exact(zH w d _ c l.length a _ (Pl.FL _) (hH W p.wp s w _ _ (h.wd.TJ h.below) j g)).mono (fun e y ⟨m,A,o⟩=>by subst o;exact h.no m (by decide))
 | AT b =>obtain⟨c,a,rfl,_,_⟩:=h.args;exact(sN w d _ c l.length a _ (Pl.FL _) (hH W p.wp s w _ _ (h.wd.TJ h.below) j g)).mono (fun e y ⟨m,A,o⟩=>by subst o;exact h.no m (by decide))
 | name t =>obtain⟨c,a,rfl,_,_⟩:=h.args;exact(vG w d _ c l.length a _ (Pl.FL _) (hH W p.wp s w _ _ (h.wd.TJ h.below) j g)).mono (fun e y ⟨m,A,o⟩=>by subst o;exact h.no m (by decide))
 | empty =>obtain⟨c,a,rfl,_,_⟩:=h.args;exact(sO w d _ c l.length a _ (Pl.FL _) (hH W p.wp s w _ _ (h.wd.TJ h.below) j g)).mono (fun e y ⟨m,A,o⟩=>by subst o;exact h.no m (by decide))
 | nothing =>obtain⟨c,a,rfl,_,_⟩:=h.args;exact(nN w d _ c l.length a _ (Pl.FL _) (hH W p.wp s w _ _ (h.wd.TJ h.below) j g)).mono (fun e y ⟨m,A,o⟩=>by subst o;exact h.no m (by decide))
 | pair i b G =>obtain⟨c,a,rfl,_,_⟩:=h.args;exact(vF w d _ c l.length a _ (Pl.FL _) (hH W p.wp s w _ _ (h.wd.TJ h.below) j g)).mono (fun e y ⟨m,A,o⟩=>by subst o;exact h.no m (by decide))
 | EC=>exact absurd rfl I
 | AZ k t P J=>exact zG M r w s tb mb u x d W p.wp S B C D E F H l args h O p.out k t P J
 | proc i b G =>
  obtain⟨q,K,z⟩:=h.wd.procs.get G;obtain⟨c,a,rfl,_,_⟩:=h.args;rw [h.wd.tq];refine zF w r M s tb mb u x d b c l.length a _ ?_;have:AH W S (.proc i) args=jC W S q args:=by unfold AH jC;dsimp only;rw [K]
  rw [this];exact o7 M r w s tb mb u x d W S B C D E F _ l args h b q z
 | cont i b G =>
  obtain⟨q,K,z⟩:=h.wd.AG.get G;obtain⟨c,a,rfl,_,_⟩:=h.args;rw [h.wd.tc];refine zI w r M s tb mb u x d b c l.length a _ ?_;have:AH W S (.cont i) args=tF W S q args:=by unfold AH tF;dsimp only;rw [K];rfl
  rw [this];exact o8 M r w s tb mb u x d W S B C D E F _ l args h b q z
theorem qR(M:Nat->Prop)(G w:World)(s:Sg)(tb mb A B j:Nat)(W:PW)(S:PS)(J K L d N U:Value)(u:Value)(a:PV)(h:Ap M G w s tb mb A B j W S J K L d N U [u] [a])(r:SR)
  (C:∀(V D:World)(t:Sg)(X:Value)(v:Value),Sg.Le s t->Ap M V D t tb mb A B j (W.keep S) S J K L d N X [v] [.cont W.AG.length]->RV t u a->Calls prog 392 #[.pointer (some ⟨j,0,none⟩),u,X] D fun e f=>AS M V t tb mb A B j r e f) :
  Calls prog 396 #[.pointer (some ⟨j,0,none⟩),U] w fun e f=>AS M G s tb mb A B j r e f:=by
 have q:=h.MO;have aa:=aB q;have E:=aB h.run.blk;obtain⟨ao,O,rfl,Y,k⟩:=h.args;obtain⟨g,m,ab,rfl,ac,P,n⟩:=k (by simp);have ad:=aB P;have z:RV s u a:=h.CH.2 0 u a rfl rfl;have d0:w.cell? ⟨g,m,none⟩=some u:=(aA P m).trans (by have:=n 0 u rfl;simpa using this);have e4:w.cell? ⟨j,4,none⟩=some d:=aA q 4
 have Z:Hid (∀f H,H=O->Calls prog 298 #[.string ⟨#[99,97,108,108,47,99,99]⟩,.int .i64 1,.slice (some ⟨g,m,none⟩) 1 H] f fun e D=>f=D/\e=.returned .nilIface):=fun f H Q=>by
  subst Q;refine Calls.mono (gR ⟨#[99,97,108,108,47,99,99]⟩ 1 (some ⟨g,m,none⟩) 1 H f (by omega) (by decide)) (fun e D ⟨h1,F⟩=>⟨h1,?_⟩);rcases F with⟨_,F⟩ | ⟨F,_⟩
  ·exact F
  ·exact absurd rfl F
 have HZ:Hid (Calls prog 392 #[.pointer (some ⟨j,0,none⟩),u,.slice (some ⟨w.heap.size+1,0,none⟩) 1 1] ((w.alloc (.cells #[d] J0)).alloc (.cells #[.iface 522 (.pointer (some ⟨w.heap.size,0,none⟩))] B9)).drew fun e f=>∃x,e=.returned x/\Hid (AS M G s tb mb A B j r (.returned x) f)):=by
  have R:Below w.heap.size w (w.alloc (.cells #[d] J0)):=b_;have b:=h.below.trans (R.mono h.below.size);have o:Stp M G M (w.alloc (.cells #[d] J0)):=Stp.AA b;obtain⟨k1,k2⟩:=h.wd.IJ b (p:=w.heap.size) h.below.size (heap_alloc_new w _) S.AB h.fr;have l:=s.LD w.heap.size;have hn:((w.alloc (.cells #[d] J0)).alloc (.cells #[.iface 522 (.pointer (some ⟨w.heap.size,0,none⟩))] B9)).drew.heap[w.heap.size+1]?=some (.cells #[.iface 522 (.pointer (some ⟨w.heap.size,0,none⟩))] B9 (0,0)):=by have:=heap_alloc_new (w.alloc (.cells #[d] J0)) (.cells #[.iface 522 (.pointer (some ⟨w.heap.size,0,none⟩))] B9);rw [show(w.alloc (.cells #[d] J0)).heap.size=w.heap.size+1 from by simp] at this;exact this
  have hA:Ap M (w.alloc (.cells #[d] J0)) ((w.alloc (.cells #[d] J0)).alloc (.cells #[.iface 522 (.pointer (some ⟨w.heap.size,0,none⟩))] B9)).drew (s.IJ w.heap.size) tb mb A B j (W.keep S) S J K L d N (.slice (some ⟨w.heap.size+1,0,none⟩) 1 1) [.iface 522 (.pointer (some ⟨w.heap.size,0,none⟩))] [.cont W.AG.length] :=
   ⟨b_.drew,k1,⟨(b.block j E).trans h.run.blk,h.run.JK⟩,h.fr.go o l,h.out.below b,⟨rfl,fun i x y c I=>by
    match i,c,I with
    | 0,c,I=>simp at c I;subst c I;exact k2
    | i+1,c,_=>simp at c⟩,by simp,⟨_,1,rfl,n_,fun _=>⟨w.heap.size+1,0,_,rfl,by simp,hn,fun i x c=>by
    match i,c with
    | 0,c=>simp at c;subst c;rfl
    | i+1,c=>simp at c⟩⟩⟩
  exact(C _ _ _ _ _ l hA (z.le l)).mono (fun e f hh=>by
   obtain⟨x,rfl⟩:=hh.one
   exact⟨x,rfl,hh.M7 o l (EG.same rfl rfl)⟩)
 obtain⟨ok,rfl⟩:=h.fr.ptr;obtain⟨T,x,rfl⟩:=z.iface;have ae:(0:Int)<1:=by decide
 clear h q k P n z C;go_enter func396,ntmps396
 go_upto_region 4 with(go_at_call 298;refine(Z _ _ rfl).mono ?_;rintro e f ⟨rfl,rfl⟩)
 clear Z;go_region_with (go_at_call 392;refine Calls.mono HZ ?_;rintro e w3 ⟨x1,rfl,HQ⟩)
 all_goals
  go_wp2_with fail
  go_ret;exact HQ
theorem sM(w:World)(i:Nat)(g:Option Addr)(n a:Nat)(c:n≠1) :Calls prog 396 #[.pointer (some ⟨i,0,none⟩),.slice g n a] w fun e b=>w=b/\∃d,e=.returned (aY d 10):=by
 have j:Hid (∀b,Calls prog 298 #[.string ⟨#[99,97,108,108,47,99,99]⟩,.int .i64 1,.slice g n a] b fun e h=>b=h/\∃d,e=.returned (aY d 10)):=fun b=>by
  refine Calls.mono (gR ⟨#[99,97,108,108,47,99,99]⟩ 1 g n a b (by omega) (by decide)) (fun e h ⟨k,f⟩=>⟨k,?_⟩);rcases f with⟨f,_⟩ | ⟨_,f⟩
  ·exact absurd f c
  ·exact f
 clear c;go_enter func396,ntmps396;go_wp2_with (go_at_call 298;refine(j _).mono ?_;rintro e b ⟨rfl,d,rfl⟩;unfold aY);go_ret;exact⟨rfl,d,rfl⟩
theorem Wf.keep{W:PW}(h:Wf W)(S:PS):Wf (W.keep S):=⟨⟨h.wp.KV,fun i p a=>⟨(h.wp.CH i p a).1.le ⟨VP _,n_,by simp [Pl.PW.keep],n_⟩,(h.wp.CH i p a).2.le ⟨VP _,n_,by simp [Pl.PW.keep],n_⟩⟩⟩,h.out⟩
theorem aAB{W:PW}{v:PV}(h:BL W v)(S:PS):BL (W.keep S) v:=h.le ⟨VP _,n_,by simp [Pl.PW.keep],n_⟩
theorem Ap.later{M:Nat->Prop}{w0 w w2:World}{s:Sg}{tb mb sb gb rb:Nat}{W:PW}{S:PS}{fv ev gv kv ov av:Value}{us:List Value}{args:List PV}(h:Ap M w0 w s tb mb sb gb rb W S fv ev gv kv ov av us args)(d:Below w.heap.size w w2):Ap M w0 w2 s tb mb sb gb rb W S fv ev gv kv ov av us args :=
 ⟨h.below.trans (d.mono h.below.size),h.wd,h.run,h.fr,h.out,h.CH,h.len,by
  obtain⟨f,a,i,j,k⟩:=h.args;refine⟨f,a,i,j,fun l=>?_⟩;obtain⟨g,b,c,m,n,e,o⟩:=k l
  exact⟨g,b,c,m,n,(d.block g (aB e)).trans e,o⟩⟩
theorem nM(M:Nat->Prop)(f w:World)(s:Sg)(tb mb c d b:Nat)(W:PW)(r:Wf W)(S:PS)(g i j k m p:Value)(u:Value)(a:PV)(h:Ap M f w s tb mb c d b W S g i j k m p [u] [a])(y:BL W a)(n:a≠.AZ AU) :Calls prog 392 #[.pointer (some ⟨b,0,none⟩),.iface 243 (.agg #[]),p] w fun e z=>AS M f s tb mb c d b (AH (W.keep S) S a [.cont W.AG.length]) e z:=by obtain⟨A,o,rfl,_,_⟩:=h.args;refine vH w f M s tb mb c d b A 1 o _ ?_;refine qR M f _ s tb mb c d b W S g i j k m _ u a (h.later b_) _ (fun B C t D v l E F=>?_);exact qS M B C t tb mb c d b (W.keep S) (r.keep S) S g i j k m D [v] _ E (fun x q=>by simp at q;subst q;show W.AG.length<(W.AG++[S.AB]).length;simp) u a F (aAB y S) n
theorem XQ(M:Nat->Prop)(i w:World)(s:Sg)(tb mb d g b:Nat)(W:PW)(C:Wf W)(S:PS)(o p q r x z:Value)(y:List Value)(args:List PV)(h:Ap M i w s tb mb d g b W S o p q r x z y args)(H:∀v∈args,BL W v)(A:Value)(f:PV)(I:RV s A f)(D:BL W f) :Calls prog 392 #[.pointer (some ⟨b,0,none⟩),A,z] w fun e J=>AS M i s tb mb d g b (Pl.apply W S f args) e J:=by
 by_cases j:f=.AZ AU
 ·subst j
  obtain rfl:A=.iface 243 (.agg #[]):=by
   cases I with
   | AZ k t E F=>exact absurd (lR E) (by omega)
   | EC=>rfl
  by_cases n:args.length=1
  ·obtain⟨a,rfl⟩:∃a,args=[a]:=List.length_eq_one_iff.1 n;obtain⟨u,rfl⟩:∃u,y=[u]:=List.length_eq_one_iff.1 (h.CH.1.trans n);by_cases G:a=.AZ AU
   ·subst G;have m:Pl.apply W S (.AZ AU) [.AZ AU]=AH ((W.keep S).keep S) S (.cont W.AG.length) [.cont (W.AG.length+1)]:=by unfold Pl.apply;rw [if_pos rfl];dsimp only;rw [if_pos rfl]
    rw [m];obtain⟨B,c,rfl,_,_⟩:=h.args;refine vH w i M s tb mb d g b B 1 c _ ?_;refine qR M i _ s tb mb d g b W S o p q r x _ u _ (h.later b_) _ (fun K L t N v l O P=>?_)
    obtain rfl:u=.iface 243 (.agg #[]):=by
     cases P with
     | AZ k t E F=>exact absurd (lR E) (by omega)
     | EC=>rfl
    have:=nM M K L t tb mb d g b (W.keep S) (C.keep S) S o p q r x N v _ O (by show W.AG.length<(W.AG++[S.AB]).length;simp) (by simp);rw [show(W.keep S).AG.length=W.AG.length+1 from by simp [Pl.PW.keep]] at this;exact this
   ·have m:Pl.apply W S (.AZ AU) [a]=AH (W.keep S) S a [.cont W.AG.length]:=by
     unfold Pl.apply;rw [if_pos rfl];dsimp only;rw [if_neg G]
    rw [m];exact nM M i w s tb mb d g b W C S o p q r x z u a h (H a (by simp)) G
  ·have m:Pl.apply W S (.AZ AU) args=⟨10,W,S⟩:=by
    unfold Pl.apply;rw [if_pos rfl]
    match args,n with
    | [],_=>rfl
    | [_],n=>exact absurd rfl n
    | _::_::_,_=>rfl
   rw [m];obtain⟨B,c,rfl,_,_⟩:=h.args;refine vH w i M s tb mb d g b B y.length c _ ?_;exact(sM _ b B y.length c (by rw [h.CH.1];exact n)).mono (fun e J ⟨Q,T,R⟩=>by subst Q R;exact h.no b_ (by decide))
 ·have m:Pl.apply W S f args=AH W S f args:=if_neg j;rw [m];exact qS M i w s tb mb d g b W C S o p q r x z y args h H A f I D j
end
end Go.Proofs.YtkgbdddkcjpgfaaGreatDoor
