import Derived.Test.YtkgbdddkcjpgfaaGreatDoorT44
import Derived.Test.YtkgbdddkcjpgfaaGreatDoorT35
namespace Go.Proofs.YtkgbdddkcjpgfaaGreatDoor
set_option maxHeartbeats 4000000
set_option maxRecDepth 100000
open Go.Proofs.Tryz
open Pl (PV PW PS PF CW SR AE Env arity AO A2 B0 AH BH A4 BA BR BW IA CS C8 DN DY DW A7)
section
open Go.RowKit Go.Lib Go.Maps
variable {M:Nat->Prop} {w w0 w':World} {tb mb sb gb rb:Nat} {ev kv gv ov fv av a:Value} {us:List Value}
theorem Kept.AA(h:Below w.heap.size w w')(a:rb<w.heap.size):Kept M w rb w':=⟨Stp.AA h,h.block rb a,fun g _ _ b=>h.block g (aB b)⟩
theorem E2.le{D:DataW Value}{s t:Sg}{W W':PW}(h:E2 D s W)(l:Sg.Le s t)(f:t.ns=s.ns)(g:W'.globals=W.globals)(q:W'.places=W.places):E2 D t W' :=
 ⟨h.tidy,fun k e i d c=>by
  rw [f] at d;rw [g] at c;obtain⟨j,v,p,m,r,u⟩:=h.yes k e i d c
  exact⟨j,v,p,m,by rw [q];exact r,u.le l⟩,fun k e d c=>by rw [f] at d;rw [g] at c;exact h.no k e d c,fun k d=>by rw [f];exact h.keys k d,fun e i c=>by
  rw [g] at c;obtain⟨j,m⟩:=h.names e i c
  exact⟨by rw [f];exact j,bS l.lp m⟩,fun a b i n o=>by rw [g] at n o;exact h.inj a b i n o⟩
theorem Wd.more{s t:Sg}{W W':PW}(h:Wd M w s tb mb sb gb W)(l:Sg.Le s t)(d:t.pb=s.pb)(e:t.lp=s.lp)(a:t.ns=s.ns)(f:W'.pairs=W.pairs)(b:W'.places=W.places)(c:W'.globals=W.globals)(g:OW (GR M w t) t.qb W'.procs)(i:OW (GX M w t) t.cb W'.AG):Wd M w t tb mb sb gb W':=by refine⟨⟨by rw [a];exact h.CY.B3,by rw [f];exact h.CY.pairs.le l d,h.CY.FV,h.CY.JJ,h.CY.mlt⟩,h.NN,h.msb,?_,h.TH,h.UE,g,i,by rw [b];exact h.places.le l e,h.gs,h.JQ,h.gt,h.ge,by rw [l.tq];exact h.tq,by rw [l.tc];exact h.tc⟩;obtain⟨D,j,k⟩:=h.DI;exact⟨D,by rw [c];exact j,k.le l a c b⟩
def Sg.JE(s:Sg)(b:Nat):Sg:={s with qb:=s.qb++[b]}
def Sg.IJ(s:Sg)(b:Nat):Sg:={s with cb:=s.cb++[b]}
theorem Sg.LA(s:Sg)(b:Nat):Sg.Le s (s.JE b):=⟨rfl,rfl,List.prefix_refl _,List.prefix_append _ _,List.prefix_refl _,List.prefix_refl _,List.prefix_refl _⟩
theorem Sg.LD(s:Sg)(b:Nat):Sg.Le s (s.IJ b):=⟨rfl,rfl,List.prefix_refl _,List.prefix_refl _,List.prefix_append _ _,List.prefix_refl _,List.prefix_refl _⟩
theorem OW.lt{α:Type}{R:Nat->α->Prop}{bs:List Nat}{l:List α}(h:OW R bs l){n:Nat}(a:∀b x,R b x->b<n):∀b∈bs,b<n:=fun b c=>by obtain⟨i,d⟩:=List.getElem?_of_mem c;obtain⟨x,_,e⟩:=h.get d;exact a b x e
theorem Wd.JE{s:Sg}{W:PW}(h:Wd M w s tb mb sb gb W)(i:Below w.heap.size w w'){p:Nat}(hp:w.heap.size<=p){nv body:Value}(c:w'.heap[p]?=some (.cells #[nv,body,ev] M9 (0,0)))(q:PF×Env)(x:PF)(d:q.1.ks=[x])(j:EI M w s nv q.1.ns)(k:CP M w s body x)(m:CX M w s ev q.2) :Wd M w' (s.JE p) tb mb sb gb {W with procs:=W.procs++[q]}/\RV (s.JE p) (.iface 330 (.pointer (some ⟨p,0,none⟩))) (.proc W.procs.length):=by
 have e:Stp M w M w':=Stp.AA i;have l:=s.LA p;have f:=h.mv (Mv.below i);refine⟨f.more l rfl rfl rfl rfl rfl rfl (OW.push (f.procs.mono (fun b x a=>a.go (Stp.refl _ _) l)) ?_ ?_) (f.AG.mono (fun b x a=>a.go (Stp.refl _ _) l)),?_⟩
 ·exact⟨fun g=>by have:=h.CY.mlt p g;omega,nv,body,ev,x,c,d,j.go e l,k.go e l,m.go e l⟩
 ·intro g;have:=h.procs.lt (n:=w.heap.size) (fun b x a=>by obtain⟨_,_,_,_,_,o,_⟩:=a;exact aB o) p g;omega
 ·rw [<- h.tq];exact .proc _ p (by show(s.qb++[p])[W.procs.length]?=some p;rw [<- h.procs.len];simp)
theorem Wd.IJ{s:Sg}{W:PW}(h:Wd M w s tb mb sb gb W)(f:Below w.heap.size w w'){p:Nat}(hp:w.heap.size<=p)(c:w'.heap[p]?=some (.cells #[kv] J0 (0,0)))(g:List CW)(i:GW M w s kv g) :Wd M w' (s.IJ p) tb mb sb gb {W with AG:=W.AG++[g]}/\RV (s.IJ p) (.iface 522 (.pointer (some ⟨p,0,none⟩))) (.cont W.AG.length):=by
 have j:Stp M w M w':=Stp.AA f;have l:=s.LD p;have d:=h.mv (Mv.below f);refine⟨d.more l rfl rfl rfl rfl rfl rfl (d.procs.mono (fun b x a=>a.go (Stp.refl _ _) l)) (OW.push (d.AG.mono (fun b x a=>a.go (Stp.refl _ _) l)) ?_ ?_),?_⟩
 ·exact⟨fun e=>by have:=h.CY.mlt p e;omega,kv,c,i.go j l⟩
 ·intro e;have:=h.AG.lt (n:=w.heap.size) (fun b x a=>by obtain⟨_,_,k,_⟩:=a;exact aB k) p e;omega
 ·rw [<- h.tc];exact .cont _ p (by show(s.cb++[p])[W.AG.length]?=some p;rw [<- h.AG.len];simp)
theorem r8(M:Nat->Prop)(w:World)(s:Sg)(tb mb h o a:Nat)(W:PW)(S:PS)(F:Wd M w s tb mb h o W){nv body:Value}(f x:PF)(d:C0 M w h a (.iface 329 (.agg #[nv,body])) ev gv kv ov)(G:CX M w s ev S.env)(H:GW M w s kv S.AB)(I:DS M w ov W.out)(j:f.ks=[x])(q:EI M w s nv f.ns)(r:CP M w s body x) :Calls prog 128 #[.pointer (some ⟨a,0,none⟩)] w fun e t=>AS M w s tb mb h o a ⟨0,{W with procs:=W.procs++[(f,S.env)]},S.A1 (.proc W.procs.length)⟩ e t:=by
 generalize u:Value.iface 329 (.agg #[nv,body])=y at d;have g:=aB d.blk;have X:w.cell? ⟨a,1,none⟩=some y:=aA d.blk 1;have Y:w.cell? ⟨a,2,none⟩=some ev:=aA d.blk 2;have k:Hid (∀i,Below w.heap.size w (w.alloc i)):=fun i=>b_;have Z:Hid (∀i,(w.alloc i).drew.heap[a]?=w.heap[a]?):=fun i=>(k i).block a g;subst u;have fy:=Tryz.N7;have K:=Tryz.IP;have L:=Tryz.KH;have N:Hid (∀m p,Below w.heap.size w m->w.heap.size<=p->m.heap[p]?=some (.cells #[nv,body,ev] M9 (0,0))->∀z,AI m a #[.pointer (some ⟨h,0,none⟩),.nilIface,.pointer none,.iface 330 (.pointer (some ⟨p,0,none⟩)),kv,ov] z->AS M w s tb mb h o a ⟨0,{W with procs:=W.procs++[(f,S.env)]},S.A1 (.proc W.procs.length)⟩ (.returned .nilIface) z):=fun m p J O A z P=>by obtain⟨B,Q⟩:=F.JE J O A (f,S.env) x j q r G;exact iF (W:=W) d H I (Kept.AA J g) (s.LA p) (EG.same rfl rfl) B rfl Q rfl P
 have R:Hid (∀(l:World) v,l.heap[a]?=w.heap[a]? -> (∃T x,v=.iface T x)->Calls prog 169 #[.pointer (some ⟨a,1,none⟩),v] l fun e t=>e=.returned (.tuple #[])/\AI l a #[.pointer (some ⟨h,0,none⟩),.nilIface,.pointer none,v,kv,ov] t):=fun l v B U=>jF l a _ _ _ _ _ _ v (B.trans d.blk) U;have C:Hid (∀b D,((w.alloc b).alloc D).drew.heap[a]?=w.heap[a]?):=fun b D=>(((k b).alloc (k b).size D)).block a g;have V:Hid (∀b,((w.alloc b).alloc (.cells #[nv,body,ev] M9)).drew.heap[w.heap.size+1]?=some (.cells #[nv,body,ev] M9 (0,0))):=fun b=>by have:=heap_alloc_new (w.alloc b) (.cells #[nv,body,ev] M9);rw [show(w.alloc b).heap.size=w.heap.size+1 from by simp] at this;exact this
 obtain⟨oe,rfl⟩:=G.ptr;obtain⟨T,x',rfl⟩:=r.iface;obtain⟨n,c,rfl⟩:∃n c,nv=.slice n f.ns.length c:=by obtain⟨⟨ks,_,_,n,c,rfl,_⟩,_,_⟩:=q;exact⟨n,c,rfl⟩
 clear F d H I r q j;go_enter func128,ntmps128;go_wp2_with fail;go_region_with (go_at_call 169;refine(R _ _ (C _ _) ⟨_,_,rfl⟩).mono ?_;rintro e w3 ⟨rfl,E⟩)
 all_goals
  go_wp2_with fail
  go_ret;exact N.out _ (w.heap.size+1) (((k _).alloc (k _).size _).drew) (by omega) (V _) _ E
theorem p_wfIf(M:Nat->Prop)(w:World)(s:Sg)(tb mb i E d:Nat)(W:PW)(S:PS)(hW:Wd M w s tb mb i E W)(F:S.AB.length<=6500000000000000000){b c:Value}(y z:PF)(f x:PF)(q:C0 M w i d (.iface 335 (.agg #[a,b,c])) ev gv kv ov)(v:CX M w s ev S.env)(A:GW M w s kv S.AB)(ho:DS M w ov W.out)(r:CP M w s a x)(hk:f.k=.iff)(G:f.ks=[x,y,z])(hb:CP M w s b y)(hc:CP M w s c z)(o:Option PF)(H:o=some x) :Calls prog 128 #[.pointer (some ⟨d,0,none⟩)] w fun e j=>AS M w s tb mb i E d ⟨0,W,(S.push ⟨f,[],1,S.env⟩).work o S.env⟩ e j:=by
 generalize I:Value.iface 335 (.agg #[a,b,c])=J at q;have K:=aB q.blk;have e1:w.cell? ⟨d,1,none⟩=some J:=aA q.blk 1;have e2:w.cell? ⟨d,2,none⟩=some ev:=aA q.blk 2;have B:Hid (∀h,Below w.heap.size w (w.alloc h)):=fun h=>b_;have HK:Hid (∀h,(w.alloc h).drew.heap[d]?=w.heap[d]?):=fun h=>(B h).block d K;subst I;have fy:=Tryz.YT;have aa:=Tryz.KI;have ab:=Tryz.OB;have ac:=Tryz.LV;have HT:Hid (FF M w s (.iface 338 (.agg #[a,b,c,ev])) ⟨f,[],1,S.env⟩):=.iff a b c ev _ x y z hk G r.iface hb hc v;have HX:Hid (∀g p cs,w.heap.size<=p->g.heap[p]?=some (.cells #[.iface 338 (.agg #[a,b,c,ev]),kv,.int .i64 ((S.AB.length+1:Nat):Int)] DQ (0,0))->AI w d cs g->∀L,AI g d #[.pointer (some ⟨i,0,none⟩),a,ev,.nilIface,.pointer (some ⟨p,0,none⟩),ov] L->AS M w s tb mb i E d ⟨0,W,(S.push ⟨f,[],1,S.env⟩).work o S.env⟩ (.returned .nilIface) L):=fun g p cs k n l L m=>dL hW q A ho r v HT l k n m H;have HP:Hid (∀h,Calls prog 171 #[.pointer (some ⟨d,1,none⟩),.iface 338 (.agg #[a,b,c,ev])] (w.alloc h).drew fun e j=>e=.returned (.tuple #[])/\Hid (∃p,w.heap.size<=p/\j.heap[p]?=some (.cells #[.iface 338 (.agg #[a,b,c,ev]),kv,.int .i64 ((S.AB.length+1:Nat):Int)] DQ (0,0))/\AI w d #[.pointer (some ⟨i,0,none⟩),.iface 335 (.agg #[a,b,c]),ev,gv,.pointer (some ⟨p,0,none⟩),ov] j/\j.heap[w.heap.size]?=(w.alloc h).heap[w.heap.size]?)):=fun h =>(kS (w.alloc h).drew d _ _ _ _ kv ov _ S.AB.length ((HK h).trans q.blk) ⟨_,_,rfl⟩ A.ptr (A.J7.below (B h).drew) F).mono (fun e j ⟨k,p,n,l,m⟩=>⟨k,p,t_ (B h).size n,l,m.after (B h).drew,m.other _ (by simp) (by omega)⟩);have HG:Hid (∀(N g:World) c1 c2 c3 O,N.heap[d]?=some (.cells #[.pointer (some ⟨i,0,none⟩),c1,c2,c3,O,ov] BT (0,0))->g.heap[d]?=N.heap[d]? -> Calls prog 172 #[.pointer (some ⟨d,1,none⟩),a,ev] g fun e j=>e=.returned (.tuple #[])/\AI g d #[.pointer (some ⟨i,0,none⟩),a,ev,.nilIface,O,ov] j):=fun N g c1 c2 c3 O h0 k=>cU g d _ _ _ _ _ _ a ev (k.trans h0) r.iface v.ptr;have t:Hid ((w.alloc (.cells #[a,b,c] 335)).heap[w.heap.size]?=some (.cells #[a,b,c] 335 (0,0))):=heap_alloc_new w _;obtain⟨P,Q,rfl⟩:=hb.iface;obtain⟨R,U,rfl⟩:=hc.iface;obtain⟨C,rfl⟩:=v.ptr;obtain⟨T,u,rfl⟩:=r.iface;clear hW q A ho r;go_enter func128,ntmps128
 go_upto_region 14 with fail
 go_cut [] (fun V=>Hid (∃p,w.heap.size<=p/\V.heap[p]?=some (.cells #[.iface 338 (.agg #[.iface T u,.iface P Q,.iface R U,.pointer C]),kv,.int .i64 ((S.AB.length+1:Nat):Int)] DQ (0,0))/\AI w d #[.pointer (some ⟨i,0,none⟩),.iface 335 (.agg #[.iface T u,.iface P Q,.iface R U]),.pointer C,gv,.pointer (some ⟨p,0,none⟩),ov] V/\V.heap[w.heap.size]?=some (.cells #[.iface T u,.iface P Q,.iface R U] 335 (0,0))))
 case first =>
  go_region_with (go_at_call 171;refine(HP _).mono ?_;rintro e w3 ⟨rfl,D⟩)
  all_goals
   go_wp2_with fail
   go_meet
   obtain⟨p,k,n,l,m⟩:=D.out;exact⟨p,k,n,l,m.trans t⟩
 case rest =>
  have D:=hcut;obtain⟨p,k,n,l,m⟩:=D.out;have HY:=HX.out wc p _ k n l;have X:=h_ HY;have Y:Hid (∀g:World,g.heap[d]?=wc.heap[d]? -> Calls prog 172 #[.pointer (some ⟨d,1,none⟩),.iface T u,.pointer C] g fun e j=>e=.returned (.tuple #[])/\AI g d #[.pointer (some ⟨i,0,none⟩),.iface T u,.pointer C,.nilIface,.pointer (some ⟨p,0,none⟩),ov] j):=fun g e1=>HG.out wc g _ _ _ _ l.blk e1;have b0:=aA m 0;have b2:=aA m 2;simp only [List.getElem?_toArray,List.getElem?_cons_zero,List.getElem?_cons_succ] at b0 b2;have ad:d<wc.heap.size:=aB l.blk;clear k n l m D hcut HY HX HP HG t;go_wp2_with fail;go_region_with (go_at_call 172;refine(Y _ (by rfl)).mono ?_;rintro e w3 ⟨rfl,Z⟩)
  all_goals
   go_wp2_with fail
   go_ret;exact X.out _ (Z.after (r_.drew))
theorem XA(M:Nat->Prop)(w:World)(s:Sg)(tb mb g B b:Nat)(W:PW)(S:PS)(R:Wd M w s tb mb g B W)(C:S.AB.length<=6500000000000000000)(nm:AE)(k:Nat)(f x:PF)(n:C0 M w g b (.iface 340 (.agg #[.string ⟨nm.toArray⟩,.int .i64 (k:Int),a])) ev gv kv ov)(r:CX M w s ev S.env)(t:GW M w s kv S.AB)(U:DS M w ov W.out)(u:CP M w s a x)(hk:f.k=.set)(D:f.nm=nm)(E:s.ns[k]?=some nm)(o:Option PF)(F:o=some x) :Calls prog 128 #[.pointer (some ⟨b,0,none⟩)] w fun e h=>AS M w s tb mb g B b ⟨0,W,(S.push ⟨f,[],1,S.env⟩).work o S.env⟩ e h:=by
 generalize G:Value.iface 340 (.agg #[.string ⟨nm.toArray⟩,.int .i64 (k:Int),a])=H at n;have I:=aB n.blk;have V:w.cell? ⟨b,1,none⟩=some H:=aA n.blk 1;have e2:w.cell? ⟨b,2,none⟩=some ev:=aA n.blk 2;have v:Hid (∀d,Below w.heap.size w (w.alloc d)):=fun d=>b_;have HK:Hid (∀d,(w.alloc d).drew.heap[b]?=w.heap[b]?):=fun d=>(v d).block b I;subst G;have fy:=Tryz.UH;have aa:=Tryz.JV;have ab:=Tryz.MV;have ac:=Tryz.K5;have ad:=Tryz.PY;have HT:Hid (FF M w s (.iface 342 (.agg #[.string ⟨nm.toArray⟩,.int .i64 (k:Int),ev])) ⟨f,[],1,S.env⟩):=show FF _ _ _ _ _ from by subst D;exact .set k ev ⟨f,[],1,S.env⟩ hk E r
 have X:Hid (∀c p Y,w.heap.size<=p->c.heap[p]?=some (.cells #[.iface 342 (.agg #[.string ⟨nm.toArray⟩,.int .i64 (k:Int),ev]),kv,.int .i64 ((S.AB.length+1:Nat):Int)] DQ (0,0))->AI w b Y c->∀J,AI c b #[.pointer (some ⟨g,0,none⟩),a,ev,.nilIface,.pointer (some ⟨p,0,none⟩),ov] J->AS M w s tb mb g B b ⟨0,W,(S.push ⟨f,[],1,S.env⟩).work o S.env⟩ (.returned .nilIface) J):=fun c p Y i m j J l=>dL R n t U u r HT j i m l F;have Z:Hid (∀d,Calls prog 171 #[.pointer (some ⟨b,1,none⟩),.iface 342 (.agg #[.string ⟨nm.toArray⟩,.int .i64 (k:Int),ev])] (w.alloc d).drew fun e h=>e=.returned (.tuple #[])/\Hid (∃p,w.heap.size<=p/\h.heap[p]?=some (.cells #[.iface 342 (.agg #[.string ⟨nm.toArray⟩,.int .i64 (k:Int),ev]),kv,.int .i64 ((S.AB.length+1:Nat):Int)] DQ (0,0))/\AI w b #[.pointer (some ⟨g,0,none⟩),.iface 340 (.agg #[.string ⟨nm.toArray⟩,.int .i64 (k:Int),a]),ev,gv,.pointer (some ⟨p,0,none⟩),ov] h/\h.heap[w.heap.size]?=(w.alloc d).heap[w.heap.size]?)):=fun d =>(kS (w.alloc d).drew b _ _ _ _ kv ov _ S.AB.length ((HK d).trans n.blk) ⟨_,_,rfl⟩ t.ptr (t.J7.below (v d).drew) C).mono (fun e h ⟨i,p,m,j,l⟩=>⟨i,p,t_ (v d).size m,j,l.after (v d).drew,l.other _ (by simp) (by omega)⟩);have HG:Hid (∀(K c:World) c1 c2 c3 L,K.heap[b]?=some (.cells #[.pointer (some ⟨g,0,none⟩),c1,c2,c3,L,ov] BT (0,0))->c.heap[b]?=K.heap[b]? -> Calls prog 172 #[.pointer (some ⟨b,1,none⟩),a,ev] c fun e h=>e=.returned (.tuple #[])/\AI c b #[.pointer (some ⟨g,0,none⟩),a,ev,.nilIface,L,ov] h):=fun K c c1 c2 c3 L h0 i=>cU c b _ _ _ _ _ _ a ev (i.trans h0) u.iface r.ptr;have q:Hid ((w.alloc (.cells #[.string ⟨nm.toArray⟩,.int .i64 (k:Int),a] 340)).heap[w.heap.size]?=some (.cells #[.string ⟨nm.toArray⟩,.int .i64 (k:Int),a] 340 (0,0))):=heap_alloc_new w _
 skip
 obtain⟨y,rfl⟩:=r.ptr;obtain⟨T,z,rfl⟩:=u.iface;clear R n t U u;go_enter func128,ntmps128
 go_upto_region 18 with fail
 go_cut [] (fun N=>Hid (∃p,w.heap.size<=p/\N.heap[p]?=some (.cells #[.iface 342 (.agg #[.string ⟨nm.toArray⟩,.int .i64 (k:Int),.pointer y]),kv,.int .i64 ((S.AB.length+1:Nat):Int)] DQ (0,0))/\AI w b #[.pointer (some ⟨g,0,none⟩),.iface 340 (.agg #[.string ⟨nm.toArray⟩,.int .i64 (k:Int),.iface T z]),.pointer y,gv,.pointer (some ⟨p,0,none⟩),ov] N/\N.heap[w.heap.size]?=some (.cells #[.string ⟨nm.toArray⟩,.int .i64 (k:Int),.iface T z] 340 (0,0))))
 case first =>
  go_region_with (go_at_call 171;refine(Z _).mono ?_;rintro e w3 ⟨rfl,A⟩)
  all_goals
   go_wp2_with fail
   go_meet
   obtain⟨p,i,m,j,l⟩:=A.out;exact⟨p,i,m,j,l.trans q⟩
 case rest =>
  have A:=hcut;obtain⟨p,i,m,j,l⟩:=A.out;have HY:=X.out wc p _ i m j;have O:=h_ HY;have P:Hid (∀c:World,c.heap[b]?=wc.heap[b]? -> Calls prog 172 #[.pointer (some ⟨b,1,none⟩),.iface T z,.pointer y] c fun e h=>e=.returned (.tuple #[])/\AI c b #[.pointer (some ⟨g,0,none⟩),.iface T z,.pointer y,.nilIface,.pointer (some ⟨p,0,none⟩),ov] h):=fun c V=>HG.out wc c _ _ _ _ j.blk V;have b0:=aA l 0;have b2:=aA l 2;simp only [List.getElem?_toArray,List.getElem?_cons_zero,List.getElem?_cons_succ] at b0 b2;have ae:b<wc.heap.size:=aB j.blk;clear i m j l A hcut HY X Z HG q;go_wp2_with fail;go_region_with (go_at_call 172;refine(P _ (by rfl)).mono ?_;rintro e w3 ⟨rfl,Q⟩)
  all_goals
   go_wp2_with fail
   go_ret;exact O.out _ (Q.after (r_.drew))
theorem r9(M:Nat->Prop)(w:World)(s:Sg)(tb mb g z b:Nat)(W:PW)(S:PS)(R:Wd M w s tb mb g z W)(A:S.AB.length<=6500000000000000000)(nm:AE)(k:Nat)(f x:PF)(n:C0 M w g b (.iface 218 (.agg #[.string ⟨nm.toArray⟩,.int .i64 (k:Int),a])) ev gv kv ov)(B:CX M w s ev S.env)(r:GW M w s kv S.AB)(U:DS M w ov W.out)(t:CP M w s a x)(hk:f.k=.define)(C:f.nm=nm)(D:s.ns[k]?=some nm)(o:Option PF)(E:o=some x) :Calls prog 128 #[.pointer (some ⟨b,0,none⟩)] w fun e h=>AS M w s tb mb g z b ⟨0,W,(S.push ⟨f,[],1,S.env⟩).work o S.env⟩ e h:=by
 generalize F:Value.iface 218 (.agg #[.string ⟨nm.toArray⟩,.int .i64 (k:Int),a])=G at n;have H:=aB n.blk;have V:w.cell? ⟨b,1,none⟩=some G:=aA n.blk 1;have e2:w.cell? ⟨b,2,none⟩=some ev:=aA n.blk 2;have u:Hid (∀d,Below w.heap.size w (w.alloc d)):=fun d=>b_;have HK:Hid (∀d,(w.alloc d).drew.heap[b]?=w.heap[b]?):=fun d=>(u d).block b H;subst F;have fy:=Tryz.N8;have aa:=Tryz.IQ;have ab:=Tryz.KJ;have ac:=Tryz.JB;have ad:=Tryz.LW;have ae:=Tryz.K6;have HT:Hid (FF M w s (.iface 344 (.agg #[.string ⟨nm.toArray⟩,.int .i64 (k:Int)])) ⟨f,[],1,S.env⟩):=show FF _ _ _ _ _ from by subst C;exact .define k ⟨f,[],1,S.env⟩ hk D
 have X:Hid (∀c p Y,w.heap.size<=p->c.heap[p]?=some (.cells #[.iface 344 (.agg #[.string ⟨nm.toArray⟩,.int .i64 (k:Int)]),kv,.int .i64 ((S.AB.length+1:Nat):Int)] DQ (0,0))->AI w b Y c->∀I,AI c b #[.pointer (some ⟨g,0,none⟩),a,ev,.nilIface,.pointer (some ⟨p,0,none⟩),ov] I->AS M w s tb mb g z b ⟨0,W,(S.push ⟨f,[],1,S.env⟩).work o S.env⟩ (.returned .nilIface) I):=fun c p Y i m j I l=>dL R n r U t B HT j i m l E;have Z:Hid (∀d,Calls prog 171 #[.pointer (some ⟨b,1,none⟩),.iface 344 (.agg #[.string ⟨nm.toArray⟩,.int .i64 (k:Int)])] (w.alloc d).drew fun e h=>e=.returned (.tuple #[])/\Hid (∃p,w.heap.size<=p/\h.heap[p]?=some (.cells #[.iface 344 (.agg #[.string ⟨nm.toArray⟩,.int .i64 (k:Int)]),kv,.int .i64 ((S.AB.length+1:Nat):Int)] DQ (0,0))/\AI w b #[.pointer (some ⟨g,0,none⟩),.iface 218 (.agg #[.string ⟨nm.toArray⟩,.int .i64 (k:Int),a]),ev,gv,.pointer (some ⟨p,0,none⟩),ov] h/\h.heap[w.heap.size]?=(w.alloc d).heap[w.heap.size]?)):=fun d =>(kS (w.alloc d).drew b _ _ _ _ kv ov _ S.AB.length ((HK d).trans n.blk) ⟨_,_,rfl⟩ r.ptr (r.J7.below (u d).drew) A).mono (fun e h ⟨i,p,m,j,l⟩=>⟨i,p,t_ (u d).size m,j,l.after (u d).drew,l.other _ (by simp) (by omega)⟩);have HG:Hid (∀(J c:World) c1 c2 c3 K,J.heap[b]?=some (.cells #[.pointer (some ⟨g,0,none⟩),c1,c2,c3,K,ov] BT (0,0))->c.heap[b]?=J.heap[b]? -> Calls prog 172 #[.pointer (some ⟨b,1,none⟩),a,ev] c fun e h=>e=.returned (.tuple #[])/\AI c b #[.pointer (some ⟨g,0,none⟩),a,ev,.nilIface,K,ov] h):=fun J c c1 c2 c3 K h0 i=>cU c b _ _ _ _ _ _ a ev (i.trans h0) t.iface B.ptr;have q:Hid ((w.alloc (.cells #[.string ⟨nm.toArray⟩,.int .i64 (k:Int),a] 218)).heap[w.heap.size]?=some (.cells #[.string ⟨nm.toArray⟩,.int .i64 (k:Int),a] 218 (0,0))):=heap_alloc_new w _
 skip
 obtain⟨L,rfl⟩:=B.ptr;obtain⟨T,v,rfl⟩:=t.iface;clear R n r U t;go_enter func128,ntmps128
 go_upto_region 22 with fail
 go_cut [] (fun N=>Hid (∃p,w.heap.size<=p/\N.heap[p]?=some (.cells #[.iface 344 (.agg #[.string ⟨nm.toArray⟩,.int .i64 (k:Int)]),kv,.int .i64 ((S.AB.length+1:Nat):Int)] DQ (0,0))/\AI w b #[.pointer (some ⟨g,0,none⟩),.iface 218 (.agg #[.string ⟨nm.toArray⟩,.int .i64 (k:Int),.iface T v]),.pointer L,gv,.pointer (some ⟨p,0,none⟩),ov] N/\N.heap[w.heap.size]?=some (.cells #[.string ⟨nm.toArray⟩,.int .i64 (k:Int),.iface T v] 218 (0,0))))
 case first =>
  go_region_with (go_at_call 171;refine(Z _).mono ?_;rintro e w3 ⟨rfl,y⟩)
  all_goals
   go_wp2_with fail
   go_meet
   obtain⟨p,i,m,j,l⟩:=y.out;exact⟨p,i,m,j,l.trans q⟩
 case rest =>
  have y:=hcut;obtain⟨p,i,m,j,l⟩:=y.out;have HY:=X.out wc p _ i m j;have O:=h_ HY;have P:Hid (∀c:World,c.heap[b]?=wc.heap[b]? -> Calls prog 172 #[.pointer (some ⟨b,1,none⟩),.iface T v,.pointer L] c fun e h=>e=.returned (.tuple #[])/\AI c b #[.pointer (some ⟨g,0,none⟩),.iface T v,.pointer L,.nilIface,.pointer (some ⟨p,0,none⟩),ov] h):=fun c V=>HG.out wc c _ _ _ _ j.blk V;have b0:=aA l 0;have b2:=aA l 2;simp only [List.getElem?_toArray,List.getElem?_cons_zero,List.getElem?_cons_succ] at b0 b2;have af:b<wc.heap.size:=aB j.blk;clear i m j l y hcut HY X Z HG q;go_wp2_with fail;go_region_with (go_at_call 172;refine(P _ (by rfl)).mono ?_;rintro e w3 ⟨rfl,Q⟩)
  all_goals
   go_wp2_with fail
   go_ret;exact O.out _ (Q.after (r_.drew))
structure Ap(M:Nat->Prop)(w0 w:World)(s:Sg)(tb mb sb gb rb:Nat)(W:PW)(S:PS)(fv ev gv kv ov av:Value)(us:List Value)(args:List PV):Prop where
 below:Below w0.heap.size w0 w
 wd:Wd M w0 s tb mb sb gb W
 run:C0 M w0 sb rb fv ev gv kv ov
 fr:GW M w0 s kv S.AB
 out:DS M w0 ov W.out
 CH:BY (RV s) us args
 len:us.length<=2000
 args:∃ao cap,av=.slice ao us.length cap/\us.length<=cap/\(us.length≠0->∃(g off:Nat)(cur:Array Value),ao=some ⟨g,off,none⟩/\w0.heap.size<=g/\w.heap[g]?=some (Obj.cells cur B9 (0,0))/\∀(i:Nat)(u:Value),us[i]?=some u->cur[off+i]?=some u)
def kJ(g off:Nat):Nat->List (Option (Nat×Nat))
 | 0=>[]
 | n+1=>kJ g off n++[some (g,off+n)]
theorem dU(g a:Nat):∀n,(kJ g a n).length=n
 | 0=>rfl
 | n+1=>by simp [kJ,dU g a n]
theorem jL(g a:Nat):∀(n i:Nat),i<n->(kJ g a n)[i]?=some (some (g,a+i))
 | 0,i,h=>by omega
 | n+1,i,h=>by
  rcases Nat.lt_or_ge i n with b | b
  ·rw [kJ,List.getElem?_append_left (by rw [dU];exact b)];exact jL g a n i b
  ·obtain rfl:i=n:=by omega
   rw [kJ,List.getElem?_append_right (by rw [dU];exact n_),dU];simp
theorem dS(g a n i:Nat)(c:Option (Nat×Nat))(h:(kJ g a n)[i]?=some c):i<n/\c=some (g,a+i):=by
 have b:i<n:=by have:=(s_ h).1;rw [dU] at this;exact this
 rw [jL g a n i b] at h;exact⟨b,(i_ h).symm⟩
def Sg.OK(s:Sg)(g off n:Nat):Sg:={s with lp:=s.lp++kJ g off n}
theorem Sg.OJ(s:Sg)(g a n:Nat):Sg.Le s (s.OK g a n):=⟨rfl,rfl,List.prefix_refl _,List.prefix_refl _,List.prefix_refl _,List.prefix_append _ _,List.prefix_refl _⟩
def Mg(M:Nat->Prop)(g n:Nat):Nat->Prop:=Mn M (fun k=>n≠0/\k=g)
theorem wR{α:Type}{a b:List α}{i:Nat}{x:α}(h:(a++b)[i]?=some x):(i<a.length/\a[i]?=some x)\/(a.length<=i/\b[i-a.length]?=some x):=by
 rcases Nat.lt_or_ge i a.length with c | c
 ·left;rw [List.getElem?_append_left c] at h;exact⟨c,h⟩
 ·right;rw [List.getElem?_append_right c] at h;exact⟨c,h⟩
theorem Wd.OK{s:Sg}{W:PW}(h:Wd M w s tb mb sb gb W)(U:Below w.heap.size w w'){args:List PV}(P:BY (RV s) us args)(g d:Nat)(o:Array Value)(A:us.length≠0->w.heap.size<=g/\w'.heap[g]?=some (.cells o B9 (0,0))/\∀(i:Nat)(u:Value),us[i]?=some u->o[d+i]?=some u) :Wd (Mg M g us.length) w' (s.OK g d us.length) tb mb sb gb {W with places:=W.places++args}/\Mv M w (Mg M g us.length) w':=by
 have Q:Mv M w (Mg M g us.length) w':=Mv.wide _ (fun k q=>by rw [q.2];exact(A q.1).1) U (fun k q=>by rw [q.2];exact aB (A q.1).2.1);have a:=h.mv Q;have l:=s.OJ g d us.length;have B:∀i y C,s.lp[i]?=some (some (y,C))->y<w.heap.size:=fun i y C z=>by have V:=(s_ z).1;obtain⟨_,_,_,n,_⟩:=h.places.at_ i y C _ z (g_ (by rw [<- h.places.len];exact V));exact aB n
 refine⟨⟨⟨a.CY.B3,a.CY.pairs.le l rfl,a.CY.FV,a.CY.JJ,a.CY.mlt⟩,a.NN,a.msb,?_,a.TH,a.UE,a.procs.mono (fun b x J=>J.go (Stp.refl _ _) l),a.AG.mono (fun b x J=>J.go (Stp.refl _ _) l),?_,a.gs,a.JQ,a.gt,a.ge,a.tq,a.tc⟩,Q⟩
 ·obtain⟨D,X,n⟩:=a.DI;refine⟨D,X,n.tidy,fun k K i q L=>?_,n.no,n.keys,fun K i L=>?_,n.inj⟩
  ·obtain⟨r,v,p,f,E,N⟩:=n.yes k K i q L;exact⟨r,v,p,f,bS (List.prefix_append _ _) E,N.le l⟩
  ·obtain⟨r,f⟩:=n.names K i L;exact⟨r,bS l.lp f⟩
 ·refine⟨?_,?_,?_⟩
  ·show(s.lp++kJ g d us.length).length=(W.places++args).length;rw [a_,a_,dU,h.places.len,P.1]
  ·intro i j c z Y;rcases wR z with⟨F,m⟩ | ⟨F,m⟩<;>rcases wR Y with⟨Z,G⟩ | ⟨Z,G⟩
   ·exact h.places.inj i j c m G
   ·obtain⟨j3,O⟩:=dS _ _ _ _ _ G;have:=i_ O;subst this;have r:=B i _ _ m;have f:=(A (by omega)).1;omega
   ·obtain⟨R,H⟩:=dS _ _ _ _ _ m;have:=i_ H;subst this;have r:=B j _ _ G;have f:=(A (by omega)).1;omega
   ·obtain⟨R,H⟩:=dS _ _ _ _ _ m;obtain⟨j3,O⟩:=dS _ _ _ _ _ G;have e1:=i_ H;have S:=i_ O;rw [e1] at S;simp only [Prod.mk.injEq,true_and] at S;omega
  ·intro i y C p z T;rcases wR z with⟨F,m⟩ | ⟨F,m⟩
   ·have t:W.places[i]?=some p:=by
     have:(W.places++args)[i]?=some p:=T
     rwa [List.getElem?_append_left (by rw [<- h.places.len];exact F)] at this
    obtain⟨r,I,v,f,E,N⟩:=a.places.at_ i y C p m t;exact⟨r,I,v,f,E,N.le l⟩
   ·obtain⟨R,H⟩:=dS _ _ _ _ _ m;have e:=i_ H;simp only [Prod.mk.injEq] at e;obtain⟨rfl,rfl⟩:=e
    have t:args[i-s.lp.length]?=some p:=by
     have:(W.places++args)[i]?=some p:=T
     rwa [List.getElem?_append_right (by rw [<- h.places.len];exact F),<-h.places.len] at this
    obtain⟨u,hu,hr⟩:=P.at_ t;obtain⟨_,f,E⟩:=A (by omega);exact⟨.inr ⟨by omega,rfl⟩,o,u,f,E _ u hu,hr.le l⟩
def jC(W:PW)(S:PS)(q:PF×Env)(args:List PV):SR:=if args.length≠q.1.ns.length then⟨10,W,S⟩ else⟨0,{W with places:=W.places++args},S.work q.1.ks[0]? (q.2++Pl.C1 q.1.ns W.places.length)⟩
theorem Ap.no{w2:World}{s:Sg}{W:PW}{S S':PS}{args:List PV}(h:Ap M w0 w s tb mb sb gb rb W S fv ev gv kv ov av us args)(a:Below w.heap.size w w2){b:ByteArray}{c:Nat}(d:c≠0):AS M w0 s tb mb sb gb rb ⟨c,W,S'⟩ (.returned (aY b c)) w2:=iG h.wd h.run h.out (h.below.trans (a.mono h.below.size)) d
theorem Ap.MO{s:Sg}{W:PW}{S:PS}{args:List PV}(h:Ap M w0 w s tb mb sb gb rb W S fv ev gv kv ov av us args):w.heap[rb]?=some (.cells #[.pointer (some ⟨sb,0,none⟩),fv,ev,gv,kv,ov] BT (0,0)):=(h.below.block rb (aB h.run.blk)).trans h.run.blk
def tF(W:PW)(S:PS)(fs:List CW)(args:List PV):SR:=match args with
 | [a]=>⟨0,W,{S with AB:=fs}.A1 a⟩
 | _=>⟨10,W,S⟩
theorem aAL{W:PW}{S:PS}{a:List CW}{args:List PV}(h:args.length≠1):tF W S a args=⟨10,W,S⟩:=by
 match args,h with
 | [],_=>rfl
 | [_],h=>exact absurd rfl h
 | _::_::_,_=>rfl
theorem o8(M:Nat->Prop)(G w:World)(s:Sg)(tb mb D K c:Nat)(W:PW)(S:PS)(fv ev gv X L Y:Value)(H:List Value)(args:List PV)(h:Ap M G w s tb mb D K c W S fv ev gv X L Y H args)(b:Nat)(E:List CW)(hq:GX M G s b E) :Calls prog 395 #[.pointer (some ⟨c,0,none⟩),.pointer (some ⟨b,0,none⟩),Y] w fun e d=>AS M G s tb mb D K c (tF W S E args) e d:=by
 have i:=h.MO;have ab:=aB i;obtain⟨ac,y,l,m⟩:=hq;have z:=(h.below.block b (aB l)).trans l;have c0:w.cell? ⟨b,0,none⟩=some y:=aA z 0;obtain⟨Z,A,rfl,aa,f⟩:=h.args;have n:=fun d=>gR ⟨#[97,32,99,111,110,116,105,110,117,97,116,105,111,110]⟩ 1 Z H.length A d (by omega) (by decide);have o:=h.CH.1;by_cases j:H.length=1
 ·obtain⟨u,rfl⟩:∃u,H=[u]:=List.length_eq_one_iff.1 j;obtain⟨a,rfl⟩:∃a,args=[a]:=List.length_eq_one_iff.1 (by rw [<- o];exact j);have p:RV s u a:=h.CH.2 0 u a rfl rfl;obtain⟨g,q,ad,rfl,ae,N,v⟩:=f (by simp);have d0:w.cell? ⟨g,q,none⟩=some u:=(aA N q).trans (by have:=v 0 u rfl;simpa using this);have O:g≠c:=fun e=>by subst e;have:=aB h.run.blk;omega
  have P:=aB N
  have Q:Hid (∀d B,B=A->Calls prog 298 #[.string ⟨#[97,32,99,111,110,116,105,110,117,97,116,105,111,110]⟩,.int .i64 1,.slice (some ⟨g,q,none⟩) 1 B] d fun e r=>d=r/\e=.returned .nilIface):=fun d B C=>by
   subst C;refine Calls.mono (n d) (fun e r ⟨I,k⟩=>⟨I,?_⟩);rcases k with⟨_,k⟩ | ⟨k,_⟩
   ·exact k
   ·exact absurd rfl k
  have e4:w.cell? ⟨c,4,none⟩=some X:=aA i 4;have f4:w.frozen? ⟨c,4,none⟩=false:=aF i 4;have t:=AI.set i 4 y rfl;have R:Hid (∀r,AI (w.setCell ⟨c,4,none⟩ y) c #[.pointer (some ⟨D,0,none⟩),.nilIface,.pointer none,u,y,L] r->AS M G s tb mb D K c (tF W S E [a]) (.returned .nilIface) r):=fun r hc=>by have U:=(t.trans hc).after h.below;exact eH (S':={S with AB:=E}.A1 a) h.wd h.run.blk h.run.JK U (fun _=>eX (S:={S with AB:=E}) p) (fun hs=>m.go hs (Sg.Le.refl _)) h.out
  have HG:Hid (∀J:World,J.heap[c]?=(w.setCell ⟨c,4,none⟩ y).heap[c]? -> Calls prog 169 #[.pointer (some ⟨c,1,none⟩),u] J fun e d=>e=.returned (.tuple #[])/\AI J c #[.pointer (some ⟨D,0,none⟩),.nilIface,.pointer none,u,y,L] d):=fun J I=>jF J c _ _ _ _ _ _ u (I.trans t.blk) p.iface;have af:(w.setCell ⟨c,4,none⟩ y).cell? ⟨g,q,none⟩=some u:=(World.cell?_of_block (w:=w) (t.other g P O)).trans d0;obtain⟨ok,rfl⟩:=m.ptr;obtain⟨T,x,rfl⟩:=p.iface;clear h i l z m f n p N v t o j;go_enter func395,ntmps395;go_wp2_with (go_at_call 298;refine(Q _ _ rfl).mono ?_;rintro e d ⟨rfl,rfl⟩);go_region_with (go_at_call 169;refine(HG _ (by rfl)).mono ?_;rintro e w3 ⟨rfl,V⟩)
  all_goals
   go_wp2_with fail
   go_ret;exact R.out _ (V.after (r_.drew))
 ·have Q:Hid (∀d B,B=A->Calls prog 298 #[.string ⟨#[97,32,99,111,110,116,105,110,117,97,116,105,111,110]⟩,.int .i64 1,.slice Z H.length B] d fun e r=>d=r/\∃F,e=.returned (aY F 10)):=fun d B C=>by
   subst C;refine Calls.mono (n d) (fun e r ⟨I,k⟩=>⟨I,?_⟩);rcases k with⟨k,_⟩ | ⟨_,k⟩
   ·exact absurd k j
   ·exact k
  have R:Hid (∀F,AS M G s tb mb D K c (tF W S E args) (.returned (aY F 10)) w):=fun F=>by rw [aAL (by rw [<- o];exact j)];exact h.no r_ (by decide)
  clear h i l z m f n o j;go_enter func395,ntmps395;go_wp2_with (go_at_call 298;refine(Q _ _ rfl).mono ?_;rintro e d ⟨rfl,F,rfl⟩;unfold aY);go_ret;exact R.out F
theorem Tryz.VS(v:Value)(w:World):(Instr.typeAssert (.iface 246 v) 161 330 true).run prog w=.ok (.tuple #[.pointer none,.bool false]) w:=by kernel_rfl
theorem Tryz.V0(v:Value)(w:World):(Instr.typeAssert (.iface 246 v) 161 522 true).run prog w=.ok (.tuple #[.pointer none,.bool false]) w:=by kernel_rfl
theorem Tryz.Q4(v:Value)(w:World):(Instr.typeAssert (.iface 243 v) 161 330 true).run prog w=.ok (.tuple #[.pointer none,.bool false]) w:=by kernel_rfl
theorem Tryz.Q5(v:Value)(w:World):(Instr.typeAssert (.iface 243 v) 161 522 true).run prog w=.ok (.tuple #[.pointer none,.bool false]) w:=by kernel_rfl
theorem Tryz.P_(v:Value)(w:World):(Instr.typeAssert (.iface 294 v) 161 330 true).run prog w=.ok (.tuple #[.pointer none,.bool false]) w:=by kernel_rfl
theorem Tryz.S_(v:Value)(w:World):(Instr.typeAssert (.iface 294 v) 161 522 true).run prog w=.ok (.tuple #[.pointer none,.bool false]) w:=by kernel_rfl
theorem Tryz.R6(v:Value)(w:World):(Instr.typeAssert (.iface 296 v) 161 330 true).run prog w=.ok (.tuple #[.pointer none,.bool false]) w:=by kernel_rfl
theorem Tryz.SC(v:Value)(w:World):(Instr.typeAssert (.iface 296 v) 161 522 true).run prog w=.ok (.tuple #[.pointer none,.bool false]) w:=by kernel_rfl
theorem Tryz.VU(v:Value)(w:World):(Instr.typeAssert (.iface 297 v) 161 330 true).run prog w=.ok (.tuple #[.pointer none,.bool false]) w:=by kernel_rfl
theorem Tryz.V2(v:Value)(w:World):(Instr.typeAssert (.iface 297 v) 161 522 true).run prog w=.ok (.tuple #[.pointer none,.bool false]) w:=by kernel_rfl
theorem Tryz.R7(v:Value)(w:World):(Instr.typeAssert (.iface 366 v) 161 330 true).run prog w=.ok (.tuple #[.pointer none,.bool false]) w:=by kernel_rfl
theorem Tryz.SD(v:Value)(w:World):(Instr.typeAssert (.iface 366 v) 161 522 true).run prog w=.ok (.tuple #[.pointer none,.bool false]) w:=by kernel_rfl
theorem Tryz.OX(v:Value)(w:World):(Instr.typeAssert (.iface 299 v) 161 330 true).run prog w=.ok (.tuple #[.pointer none,.bool false]) w:=by kernel_rfl
theorem Tryz.O0(v:Value)(w:World):(Instr.typeAssert (.iface 299 v) 161 522 true).run prog w=.ok (.tuple #[.pointer none,.bool false]) w:=by kernel_rfl
theorem Tryz.VT(v:Value)(w:World):(Instr.typeAssert (.iface 367 v) 161 330 true).run prog w=.ok (.tuple #[.pointer none,.bool false]) w:=by kernel_rfl
theorem Tryz.V1(v:Value)(w:World):(Instr.typeAssert (.iface 367 v) 161 522 true).run prog w=.ok (.tuple #[.pointer none,.bool false]) w:=by kernel_rfl
theorem Tryz.VX(v:Value)(w:World):(Instr.typeAssert (.iface 246 v) 161 243 true).run prog w=.ok (.tuple #[.agg #[],.bool false]) w:=by kernel_rfl
theorem Tryz.R_(v:Value)(w:World):(Instr.typeAssert (.iface 294 v) 161 243 true).run prog w=.ok (.tuple #[.agg #[],.bool false]) w:=by kernel_rfl
theorem Tryz.SA(v:Value)(w:World):(Instr.typeAssert (.iface 296 v) 161 243 true).run prog w=.ok (.tuple #[.agg #[],.bool false]) w:=by kernel_rfl
theorem Tryz.VZ(v:Value)(w:World):(Instr.typeAssert (.iface 297 v) 161 243 true).run prog w=.ok (.tuple #[.agg #[],.bool false]) w:=by kernel_rfl
theorem Tryz.SB(v:Value)(w:World):(Instr.typeAssert (.iface 366 v) 161 243 true).run prog w=.ok (.tuple #[.agg #[],.bool false]) w:=by kernel_rfl
theorem Tryz.OZ(v:Value)(w:World):(Instr.typeAssert (.iface 299 v) 161 243 true).run prog w=.ok (.tuple #[.agg #[],.bool false]) w:=by kernel_rfl
theorem Tryz.VY(v:Value)(w:World):(Instr.typeAssert (.iface 367 v) 161 243 true).run prog w=.ok (.tuple #[.agg #[],.bool false]) w:=by kernel_rfl
theorem Tryz.Q_(v:Value)(w:World):(Instr.typeAssert (.iface 294 v) 161 246 true).run prog w=.ok (.tuple #[.int .i64 0,.bool false]) w:=by kernel_rfl
theorem Tryz.R8(v:Value)(w:World):(Instr.typeAssert (.iface 296 v) 161 246 true).run prog w=.ok (.tuple #[.int .i64 0,.bool false]) w:=by kernel_rfl
theorem Tryz.VW(v:Value)(w:World):(Instr.typeAssert (.iface 297 v) 161 246 true).run prog w=.ok (.tuple #[.int .i64 0,.bool false]) w:=by kernel_rfl
theorem Tryz.R9(v:Value)(w:World):(Instr.typeAssert (.iface 366 v) 161 246 true).run prog w=.ok (.tuple #[.int .i64 0,.bool false]) w:=by kernel_rfl
theorem Tryz.OY(v:Value)(w:World):(Instr.typeAssert (.iface 299 v) 161 246 true).run prog w=.ok (.tuple #[.int .i64 0,.bool false]) w:=by kernel_rfl
theorem Tryz.VV(v:Value)(w:World):(Instr.typeAssert (.iface 367 v) 161 246 true).run prog w=.ok (.tuple #[.int .i64 0,.bool false]) w:=by kernel_rfl
theorem Tryz.vq_q(v:Value)(w:World):(Instr.typeAssert (.iface 330 v) 161 330 true).run prog w=.ok (.tuple #[v,.bool true]) w:=by kernel_rfl
theorem Tryz.vq_c(v:Value)(w:World):(Instr.typeAssert (.iface 522 v) 161 330 true).run prog w=.ok (.tuple #[.pointer none,.bool false]) w:=by kernel_rfl
theorem Tryz.vc_c(v:Value)(w:World):(Instr.typeAssert (.iface 522 v) 161 522 true).run prog w=.ok (.tuple #[v,.bool true]) w:=by kernel_rfl
theorem Tryz.vk_k(v:Value)(w:World):(Instr.typeAssert (.iface 243 v) 161 243 true).run prog w=.ok (.tuple #[v,.bool true]) w:=by kernel_rfl
theorem Tryz.vp_p(v:Value)(w:World):(Instr.typeAssert (.iface 246 v) 161 246 true).run prog w=.ok (.tuple #[v,.bool true]) w:=by kernel_rfl
def PA(M:Nat->Prop)(w0:World)(s:Sg)(tb mb sb gb rb:Nat)(fv ev gv kv:Value)(r:SR)(v1 e1:Value)(w':World):Prop :=
 (e1=.nilIface/\(∃T x,v1=.iface T x)/\∃ov',w'.heap[rb]?=some (.cells #[.pointer (some ⟨sb,0,none⟩),fv,ev,gv,kv,ov'] BT (0,0))/\∀w2,AI w' rb #[.pointer (some ⟨sb,0,none⟩),.nilIface,.pointer none,v1,kv,ov'] w2->AS M w0 s tb mb sb gb rb r (.returned .nilIface) w2) \/
 (∃es,∃c:Nat,e1=aY es c/\v1=.nilIface/\AS M w0 s tb mb sb gb rb r (.returned (aY es c)) w')
theorem aU(M:Nat->Prop)(p w:World)(s:Sg)(tb mb g q a:Nat)(z A B t:Value)(k:Nat)(u:Option Addr)(n b:Nat)(r:SR)
  (v:Calls prog 314 #[.int .i64 (k:Int),.slice u n b,.pointer (some ⟨a,5,none⟩)] w fun e d=>∃h i,e=.returned (.tuple #[h,i])/\PA M p s tb mb g q a z A B t r h i d) :
  Calls prog 392 #[.pointer (some ⟨a,0,none⟩),.iface 246 (.int .i64 (k:Int)),.slice u n b] w fun e d=>AS M p s tb mb g q a r e d:=by
 have C:=h_ v;have F:=Tryz.VS;have G:=Tryz.V0;have H:=Tryz.VX;have I:=Tryz.vp_p;clear v;go_enter func392,ntmps392
 go_upto_region 14 with(go_at_call 314;refine Calls.mono C ?_;rintro e j ⟨h,i,rfl,D⟩)
 rcases D with⟨rfl,⟨T,x,rfl⟩,l,y,f⟩ | ⟨J,c,rfl,rfl,f⟩
 ·have E:Hid (Calls prog 169 #[.pointer (some ⟨a,1,none⟩),.iface T x] j fun e d=>e=.returned (.tuple #[])/\AI j a #[.pointer (some ⟨g,0,none⟩),.nilIface,.pointer none,.iface T x,t,l] d):=jF j a _ _ _ _ _ _ _ y ⟨_,_,rfl⟩;have m:=h_ f;clear f y;go_wp2_with (go_at_call 169;refine Calls.mono E ?_;rintro e K ⟨rfl,o⟩);go_ret;exact m.out _ o
 ·have m:=h_ f;clear f;unfold aY;go_wp2_with fail;go_ret;exact m
theorem Ap.pure{w2:World}{s:Sg}{W:PW}{S:PS}{args:List PV}(h:Ap M w0 w s tb mb sb gb rb W S fv ev gv kv ov av us args)(k:Below w.heap.size w w2){f:PS->SR}{e:Ending}(l:GZ W s f e):∃g i,e=.returned (.tuple #[g,i])/\PA M w0 s tb mb sb gb rb fv ev gv kv (f S) g i w2:=by
 have a:=h.below.trans (k.mono h.below.size);rcases l with⟨v,q,rfl,j,b⟩ | ⟨m,c,d,rfl,b⟩
 ·refine⟨v,_,rfl,.inl ⟨rfl,j.iface,ov,(a.block rb (aB h.run.blk)).trans h.run.blk,fun o d=>?_⟩⟩;rw [b];exact eH h.wd h.run.blk h.run.JK (d.after a) (fun _=>eX j) (fun n=>h.fr.go n (Sg.Le.refl _)) h.out
 ·refine⟨_,_,rfl,.inr ⟨m,c,rfl,rfl,?_⟩⟩;rw [b];exact iG h.wd h.run h.out a d
theorem Wd.DD{s:Sg}{W:PW}(h:Wd M w s tb mb sb gb W){x y:Value}{p:PV×PV}(c:RV s x p.1)(d:RV s y p.2):Wd M (w.alloc (.cells #[x,y] E0)) (s.DD w.heap.size) tb mb sb gb {W with pairs:=W.pairs++[p]}/\RV (s.DD w.heap.size) (.iface 367 (.pointer (some ⟨w.heap.size,0,none⟩))) (.pair W.pairs.length):=by have e:Below w.heap.size w (w.alloc (.cells #[x,y] E0)):=b_;have a:=h.mv (Mv.below e);have l:=s.EK w.heap.size;obtain⟨f,g⟩:=h.CY.pairs.push h.CY.mlt c d;refine⟨⟨⟨a.CY.B3,f,a.CY.FV,a.CY.JJ,a.CY.mlt⟩,a.NN,a.msb,?_,a.TH,a.UE,a.procs.mono (fun b x c=>c.go (Stp.refl _ _) l),a.AG.mono (fun b x c=>c.go (Stp.refl _ _) l),a.places.le l rfl,a.gs,a.JQ,a.gt,a.ge,a.tq,a.tc⟩,g⟩;obtain⟨D,i,j⟩:=a.DI;exact⟨D,i,j.le l rfl rfl rfl⟩
theorem Ap.cons{wa:World}{s:Sg}{W:PW}{S:PS}{args:List PV}(h:Ap M w0 w s tb mb sb gb rb W S fv ev gv kv ov av us args)(g:Below w.heap.size w wa){x y:Value}{a b:PV}(i:RV s x a)(j:RV s y b):PA M w0 s tb mb sb gb rb fv ev gv kv (A2 W S CS a b) (.iface 367 (.pointer (some ⟨wa.heap.size,0,none⟩))) .nilIface (wa.alloc (.cells #[x,y] E0)):=by
 have c:=h.below.trans (g.mono h.below.size);have d:=aB h.run.blk;obtain⟨k,l⟩:=(h.wd.mv (Mv.below c)).DD (p:=(a,b)) i j;have e:Below w0.heap.size w0 (wa.alloc (.cells #[x,y] E0)):=c.alloc c.size _;refine .inl ⟨rfl,⟨_,_,rfl⟩,ov,(e.block rb d).trans h.run.blk,fun o m=>?_⟩;have n:A2 W S CS a b=⟨0,{W with pairs:=W.pairs++[(a,b)]},S.A1 (.pair W.pairs.length)⟩:=if_pos rfl;rw [n]
 exact iF (W:=W) h.run h.fr h.out (Kept.AA e d) (s.EK _) ⟨rfl,fun b f=>by
  rcases List.mem_append.1 f with f | f
  ·exact .inl f
  ·exact .inr (by rw [List.mem_singleton.1 f];exact c.size)⟩ k rfl l rfl m
theorem Ap.disp{s:Sg}{W:PW}{S:PS}{args:List PV}(h:Ap M w0 w s tb mb sb gb rb W S fv ev gv kv ov av us args){a:PV}{e:Ending}(O:OR W w rb 5 ov W.out a e w'):∃J o,e=.returned (.tuple #[J,o])/\PA M w0 s tb mb sb gb rb fv ev gv kv (B0 W S A7 a) J o w':=by
 have K:B0 W S A7 a=if W.out.length+(Pl.cut (Pl.text W.pairs a)).length<=1000 then⟨0,{W with out:=W.out++Pl.cut (Pl.text W.pairs a)},S.A1 .nothing⟩ else⟨11,W,S⟩:=if_pos rfl;rcases O with⟨L,D,P,rfl⟩ | ⟨L,rfl,Q,D,f,t,i,b,v,rfl⟩
 ·refine⟨_,_,rfl,.inr ⟨P,11,rfl,rfl,?_⟩⟩;rw [K,if_neg (by omega)];exact h.no D (by decide)
 ·have j:=h.below.trans (D.mono h.below.size);have E:=aB h.run.blk;have z:=(j.block rb E).trans h.run.blk;have F:rb<Q.heap.size:=aB z
  have G:some rb≠ov.ownBlock:=fun e=>by
   rcases h.out.1.2 with⟨rfl,_⟩ | ⟨g,A,B,rfl,_,c,_⟩
   ·cases e
   ·simp only [Value.ownBlock,o_] at e;subst e;rw [h.run.blk] at c;simp only [o_,Obj.cells.injEq] at c;exact absurd c.2.1 (by decide)
  have l:=(b.block rb F G).trans z
  have H:∀g,f.ownBlock=some g->g≠rb:=fun g c e=>by
   subst e;rcases i.2 with⟨rfl,_⟩ | ⟨X,A,B,rfl,_,p,_⟩
   ·cases c
   ·simp only [Value.ownBlock,o_] at c;subst c;rw [l] at p;simp only [o_,Obj.cells.injEq] at p;exact absurd p.2.1 (by decide)
  have m:∀k,k<w0.heap.size->k≠rb->some k≠ov.ownBlock->(t.setCell ⟨rb,5,none⟩ f).heap[k]?=w0.heap[k]? := fun k d o u=>by rw [Below.heap_setCell _ _ _ _ (fun x=>o (by simpa using x)),b.block k (l_ d j.size) u];exact j.block k d
  have q:Mv M w0 (Mn M (fun k=>f.ownBlock=some k/\w0.heap.size<=k)) (t.setCell ⟨rb,5,none⟩ f):=by
   refine⟨⟨b.os.trans j.os,b.tape.trans j.tape,b.output.trans j.output,by have:=b.size;have:=j.size;simp [World.setCell];omega,fun k d C=>⟨m k d (fun e=>C (by rw [e];exact h.run.JK)) (fun e=>C (h.out.2 k e.symm)),fun x=>x.elim C (fun y=>by have:=y.2;omega)⟩⟩,fun k d C=>⟨.inl C,?_⟩,fun R k d=>?_⟩
   ·by_cases o:k=rb
    ·subst o;exact .inr ⟨_,BT,_,h.run.blk,by decide⟩
    ·by_cases u:some k=ov.ownBlock
     ·rcases h.out.1.2 with⟨rfl,_⟩ | ⟨g,A,B,rfl,_,c,_⟩
      ·cases u
      ·simp only [Value.ownBlock,o_] at u;subst u;exact .inr ⟨_,JM,_,c,by decide⟩
     ·exact .inl (m k d o u)
   ·have T:t.heap.size=(t.setCell ⟨rb,5,none⟩ f).heap.size:=by simp [World.setCell]
    rcases d with d | d
    ·have:=R k d;have:=b.size;have:=j.size;omega
    ·have:=(i.lt k d.1).2;omega
  have r:=h.wd.mv q;have I:Wd (Mn M (fun k=>f.ownBlock=some k/\w0.heap.size<=k)) (t.setCell ⟨rb,5,none⟩ f) s tb mb sb gb {W with out:=W.out++Pl.cut (Pl.text W.pairs a)} :=r.more (Sg.Le.refl _) rfl rfl rfl rfl rfl rfl r.procs r.AG;have n:(t.setCell ⟨rb,5,none⟩ f).heap[rb]?=some (.cells #[.pointer (some ⟨sb,0,none⟩),fv,ev,gv,kv,f] BT (0,0)):=aD l 5 f;refine⟨_,_,rfl,.inl ⟨rfl,⟨_,_,rfl⟩,f,n,fun Y U=>?_⟩⟩;rw [K,if_pos L];refine(eH I n (.inl h.run.JK) U (fun _=>eX .nothing) (fun V=>(h.fr.go q.AQ (Sg.Le.refl _)).go V (Sg.Le.refl _)) ?_).M7 q.AQ (Sg.Le.refl _) (EG.refl _ _);refine⟨gA i (fun g c=>Below.heap_setCell _ _ _ _ (fun x=>H g c (by simpa using x))),fun g c=>?_⟩;rcases v g c with N | N
  ·exact .inl (h.out.2 g N)
  ·exact .inr ⟨c,by have:=j.size;omega⟩
theorem Wd.TJ{w1:World}{s:Sg}{W:PW}(h:Wd M w s tb mb sb gb W)(e:Below w.heap.size w w1):QB w1 s W.pairs w1.heap.size:=by
 have a:=h.mv (Mv.below e);refine⟨fun i k p c f=>?_,a.CY.pairs.nodup,a.CY.pairs.len,fun i k c=>?_,fun i k c=>?_,a.gs.B3,a.gs.size,a.NH,a.procs.nodup,a.AG.nodup⟩
 ·obtain⟨_,x,y,b,g⟩:=a.CY.pairs.at_ i k p c f;exact⟨aB b,x,y,b,g⟩
 ·obtain⟨q,_,_,j,d,l,x,b,_⟩:=a.procs.get c;exact⟨aB b,#[j,d,l],by rw [a.tq];exact b⟩
 ·obtain⟨q,_,_,m,b,_⟩:=a.AG.get c;exact⟨aB b,#[m],by rw [a.tc];exact b⟩
theorem Ap.two{s:Sg}{W:PW}{S:PS}{args:List PV}(h:Ap M w0 w s tb mb sb gb rb W S fv ev gv kv ov av us args)(j:args.length=2):∃u v a b g c e,args=[a,b]/\av=.slice (some ⟨g,c,none⟩) 2 e/\w.cell? ⟨g,c,none⟩=some u/\w.cell? ⟨g,c+1,none⟩=some v/\RV s u a/\RV s v b:=by
 have i:=h.CH.1
 obtain⟨u,v,rfl⟩:∃u v,us=[u,v]:=by
  match us,i.trans j with
  | [u,v],_=>exact⟨u,v,rfl⟩
 obtain⟨a,b,rfl⟩:∃a b,args=[a,b]:=by
  match args,j with
  | [a,b],_=>exact⟨a,b,rfl⟩
 obtain⟨m,e,rfl,_,f⟩:=h.args;obtain⟨g,c,l,rfl,_,k,d⟩:=f (by simp);exact⟨u,v,a,b,g,c,e,rfl,rfl,(aA k c).trans (by simpa using d 0 u rfl),(aA k (c+1)).trans (d 1 v rfl),h.CH.2 0 u a rfl rfl,h.CH.2 1 v b rfl rfl⟩
theorem Ap.one{s:Sg}{W:PW}{S:PS}{args:List PV}(h:Ap M w0 w s tb mb sb gb rb W S fv ev gv kv ov av us args)(i:args.length=1):∃u a g b c,args=[a]/\av=.slice (some ⟨g,b,none⟩) 1 c/\w.cell? ⟨g,b,none⟩=some u/\RV s u a:=by have f:=h.CH.1;obtain⟨u,rfl⟩:∃u,us=[u]:=List.length_eq_one_iff.1 (f.trans i);obtain⟨a,rfl⟩:∃a,args=[a]:=List.length_eq_one_iff.1 i;obtain⟨l,c,rfl,_,d⟩:=h.args;obtain⟨g,b,j,rfl,_,k,e⟩:=d (by simp);exact⟨u,a,g,b,c,rfl,rfl,(aA k b).trans (by simpa using e 0 u rfl),h.CH.2 0 u a rfl rfl⟩
theorem Ap.JQ{s:Sg}{W:PW}{S:PS}{args:List PV}(h:Ap M w0 w s tb mb sb gb rb W S fv ev gv kv ov av us args):EH w:=(h.wd.mv (Mv.below h.below)).JQ
theorem Ap.prs{s:Sg}{W:PW}{S:PS}{args:List PV}(h:Ap M w0 w s tb mb sb gb rb W S fv ev gv kv ov av us args):BD M w s W.pairs:=(h.wd.mv (Mv.below h.below)).CY.pairs
theorem fM(W:PW)(S:PS)(nm:AE)(a b:PV)(h:arity nm=2):AH W S (.AZ nm) [a,b]=A2 W S nm a b:=by show(if([a,b]:List PV).length≠arity nm then _ else _)=_;rw [if_neg (fun c=>c (by rw [h];rfl))]
theorem jX(W:PW)(S:PS)(nm:AE)(a:PV)(h:arity nm=1):AH W S (.AZ nm) [a]=B0 W S nm a:=by show(if([a]:List PV).length≠arity nm then _ else _)=_;rw [if_neg (fun b=>b (by rw [h];rfl))]
theorem p_ap0(M:Nat->Prop)(f w:World)(s:Sg)(tb mb i j d:Nat)(W:PW)(S:PS)(l m n o t p:Value)(x:List Value)(args:List PV)(h:Ap M f w s tb mb i j d W S l m n o t p x args)(q:∀v∈args,BL W v)(y:args.length=arity BH) :Calls prog 392 #[.pointer (some ⟨d,0,none⟩),.iface 246 (.int .i64 ((0:Nat):Int)),p] w fun e r=>AS M f s tb mb i j d (AH W S (.AZ BH) args) e r:=by obtain⟨u,v,a,b,g,k,c,rfl,rfl,z,A,B,C⟩:=h.two y;rw [fM W S BH a b (by decide)];exact aU M f w s tb mb i j d l m n o 0 _ 2 c _ ((zE w s W g k c u v _ a b h.JQ h.wd.NH z A B C (q a (by simp)) (q b (by simp))).mono (fun e r ⟨D,E⟩=>h.pure D E))
theorem p_ap1(M:Nat->Prop)(f w:World)(s:Sg)(tb mb i j d:Nat)(W:PW)(S:PS)(l m n o t p:Value)(x:List Value)(args:List PV)(h:Ap M f w s tb mb i j d W S l m n o t p x args)(q:∀v∈args,BL W v)(y:args.length=arity A4) :Calls prog 392 #[.pointer (some ⟨d,0,none⟩),.iface 246 (.int .i64 ((1:Nat):Int)),p] w fun e r=>AS M f s tb mb i j d (AH W S (.AZ A4) args) e r:=by obtain⟨u,v,a,b,g,k,c,rfl,rfl,z,A,B,C⟩:=h.two y;rw [fM W S A4 a b (by decide)];exact aU M f w s tb mb i j d l m n o 1 _ 2 c _ ((zD w s W g k c u v _ a b h.JQ h.wd.NH z A B C (q a (by simp)) (q b (by simp))).mono (fun e r ⟨D,E⟩=>h.pure D E))
theorem p_ap2(M:Nat->Prop)(f w:World)(s:Sg)(tb mb i j d:Nat)(W:PW)(S:PS)(l m n o t p:Value)(x:List Value)(args:List PV)(h:Ap M f w s tb mb i j d W S l m n o t p x args)(q:∀v∈args,BL W v)(y:args.length=arity BA) :Calls prog 392 #[.pointer (some ⟨d,0,none⟩),.iface 246 (.int .i64 ((2:Nat):Int)),p] w fun e r=>AS M f s tb mb i j d (AH W S (.AZ BA) args) e r:=by obtain⟨u,v,a,b,g,k,c,rfl,rfl,z,A,B,C⟩:=h.two y;rw [fM W S BA a b (by decide)];exact aU M f w s tb mb i j d l m n o 2 _ 2 c _ ((zC w s W g k c u v _ a b h.JQ h.wd.NH z A B C (q a (by simp)) (q b (by simp))).mono (fun e r ⟨D,E⟩=>h.pure D E))
theorem p_ap3(M:Nat->Prop)(f w:World)(s:Sg)(tb mb i j d:Nat)(W:PW)(S:PS)(l m n o t p:Value)(x:List Value)(args:List PV)(h:Ap M f w s tb mb i j d W S l m n o t p x args)(q:∀v∈args,BL W v)(y:args.length=arity BW) :Calls prog 392 #[.pointer (some ⟨d,0,none⟩),.iface 246 (.int .i64 ((3:Nat):Int)),p] w fun e r=>AS M f s tb mb i j d (AH W S (.AZ BW) args) e r:=by obtain⟨u,v,a,b,g,k,c,rfl,rfl,z,A,B,C⟩:=h.two y;rw [fM W S BW a b (by decide)];exact aU M f w s tb mb i j d l m n o 3 _ 2 c _ ((zB w s W g k c u v _ a b h.JQ h.wd.NH z A B C (q a (by simp)) (q b (by simp))).mono (fun e r ⟨D,E⟩=>h.pure D E))
theorem p_ap4(M:Nat->Prop)(f w:World)(s:Sg)(tb mb i j d:Nat)(W:PW)(S:PS)(l m n o t p:Value)(x:List Value)(args:List PV)(h:Ap M f w s tb mb i j d W S l m n o t p x args)(q:∀v∈args,BL W v)(y:args.length=arity IA) :Calls prog 392 #[.pointer (some ⟨d,0,none⟩),.iface 246 (.int .i64 ((4:Nat):Int)),p] w fun e r=>AS M f s tb mb i j d (AH W S (.AZ IA) args) e r:=by obtain⟨u,v,a,b,g,k,c,rfl,rfl,z,A,B,C⟩:=h.two y;rw [fM W S IA a b (by decide)];exact aU M f w s tb mb i j d l m n o 4 _ 2 c _ ((zA w s W g k c u v _ a b h.JQ h.wd.NH z A B C (q a (by simp)) (q b (by simp))).mono (fun e r ⟨D,E⟩=>h.pure D E))
theorem p_ap6(M:Nat->Prop)(d w:World)(s:Sg)(tb mb f i c:Nat)(W:PW)(S:PS)(k l m n q o:Value)(r:List Value)(args:List PV)(h:Ap M d w s tb mb f i c W S k l m n q o r args)(t:args.length=arity DN) :Calls prog 392 #[.pointer (some ⟨c,0,none⟩),.iface 246 (.int .i64 ((6:Nat):Int)),o] w fun e p=>AS M d s tb mb f i c (AH W S (.AZ DN) args) e p:=by obtain⟨u,a,g,j,b,rfl,rfl,v,x⟩:=h.one t;rw [jX W S DN a (by decide)];exact aU M d w s tb mb f i c k l m n 6 _ 1 b _ ((y8 M w s W g j b u _ a h.JQ h.prs h.wd.NH v x).mono (fun e p ⟨y,z⟩=>h.pure y z))
theorem p_ap7(M:Nat->Prop)(d w:World)(s:Sg)(tb mb f i c:Nat)(W:PW)(S:PS)(k l m n q o:Value)(r:List Value)(args:List PV)(h:Ap M d w s tb mb f i c W S k l m n q o r args)(t:args.length=arity C8) :Calls prog 392 #[.pointer (some ⟨c,0,none⟩),.iface 246 (.int .i64 ((7:Nat):Int)),o] w fun e p=>AS M d s tb mb f i c (AH W S (.AZ C8) args) e p:=by obtain⟨u,a,g,j,b,rfl,rfl,v,x⟩:=h.one t;rw [jX W S C8 a (by decide)];exact aU M d w s tb mb f i c k l m n 7 _ 1 b _ ((y7 M w s W g j b u _ a h.JQ h.prs h.wd.NH v x).mono (fun e p ⟨y,z⟩=>h.pure y z))
theorem p_ap8(M:Nat->Prop)(d w:World)(s:Sg)(tb mb f i c:Nat)(W:PW)(S:PS)(k l m n q o:Value)(r:List Value)(args:List PV)(h:Ap M d w s tb mb f i c W S k l m n q o r args)(t:args.length=arity DY) :Calls prog 392 #[.pointer (some ⟨c,0,none⟩),.iface 246 (.int .i64 ((8:Nat):Int)),o] w fun e p=>AS M d s tb mb f i c (AH W S (.AZ DY) args) e p:=by obtain⟨u,a,g,j,b,rfl,rfl,v,x⟩:=h.one t;rw [jX W S DY a (by decide)];exact aU M d w s tb mb f i c k l m n 8 _ 1 b _ ((y6 M w s W g j b u _ a h.JQ h.prs h.wd.NH v x).mono (fun e p ⟨y,z⟩=>h.pure y z))
theorem p_ap9(M:Nat->Prop)(d w:World)(s:Sg)(tb mb f i c:Nat)(W:PW)(S:PS)(k l m n q o:Value)(r:List Value)(args:List PV)(h:Ap M d w s tb mb f i c W S k l m n q o r args)(t:args.length=arity DW) :Calls prog 392 #[.pointer (some ⟨c,0,none⟩),.iface 246 (.int .i64 ((9:Nat):Int)),o] w fun e p=>AS M d s tb mb f i c (AH W S (.AZ DW) args) e p:=by obtain⟨u,a,g,j,b,rfl,rfl,v,x⟩:=h.one t;rw [jX W S DW a (by decide)];exact aU M d w s tb mb f i c k l m n 9 _ 1 b _ ((yZ M w s W g j b u _ a h.JQ h.prs h.wd.NH v x).mono (fun e p ⟨y,z⟩=>h.pure y z))
theorem p_ap10(M:Nat->Prop)(f w:World)(s:Sg)(tb mb i j d:Nat)(W:PW)(S:PS)(l m n o r p:Value)(t:List Value)(args:List PV)(h:Ap M f w s tb mb i j d W S l m n o r p t args)(x:args.length=arity BR) :Calls prog 392 #[.pointer (some ⟨d,0,none⟩),.iface 246 (.int .i64 ((10:Nat):Int)),p] w fun e q=>AS M f s tb mb i j d (AH W S (.AZ BR) args) e q:=by obtain⟨u,v,a,b,g,k,c,rfl,rfl,y,z,A,B⟩:=h.two x;rw [fM W S BR a b (by decide)];exact aU M f w s tb mb i j d l m n o 10 _ 2 c _ ((vE w s W g k c _ u v _ a b h.JQ (h.wd.TJ h.below) y z A B).mono (fun e q ⟨C,D⟩=>h.pure C D))
theorem p_ap5(M:Nat->Prop)(f w:World)(s:Sg)(tb mb i j d:Nat)(W:PW)(S:PS)(l m n o x p:Value)(y:List Value)(args:List PV)(h:Ap M f w s tb mb i j d W S l m n o x p y args)(z:args.length=arity CS) :Calls prog 392 #[.pointer (some ⟨d,0,none⟩),.iface 246 (.int .i64 ((5:Nat):Int)),p] w fun e q=>AS M f s tb mb i j d (AH W S (.AZ CS) args) e q:=by obtain⟨u,v,a,b,g,k,c,rfl,rfl,A,B,r,t⟩:=h.two z;rw [fM W S CS a b (by decide)];exact aU M f w s tb mb i j d l m n o 5 _ 2 c _ ((y9 w g k c u v _ h.JQ A B r.iface t.iface).mono (fun e q ⟨F,C,D,E⟩=>⟨_,_,E,by subst D;exact h.cons C r t⟩))
theorem p_ap11(M:Nat->Prop)(d w:World)(s:Sg)(tb mb f i b:Nat)(W:PW)(r:OU W)(S:PS)(k l m n o p:Value)(t:List Value)(args:List PV)(h:Ap M d w s tb mb f i b W S k l m n o p t args)(x:∀v∈args,BL W v)(y:W.out.length<=1000)(z:args.length=arity A7) :Calls prog 392 #[.pointer (some ⟨b,0,none⟩),.iface 246 (.int .i64 ((11:Nat):Int)),p] w fun e q=>AS M d s tb mb f i b (AH W S (.AZ A7) args) e q:=by obtain⟨u,a,g,j,c,rfl,rfl,A,B⟩:=h.one z;rw [jX W S A7 a (by decide)];exact aU M d w s tb mb f i b k l m n 11 _ 1 c _ ((vD w s W r b 5 _ BT o W.out g j c u a h.JQ (h.wd.TJ h.below) B (x a (by simp)) h.MO rfl (gA h.out.1 (fun g C=>h.below.block g (h.out.1.lt g C).2)) (by decide) y A).mono (fun e q D=>h.disp D))
theorem zG(M:Nat->Prop)(c w:World)(s:Sg)(tb mb d f b:Nat)(W:PW)(z:OU W)(S:PS)(i j l m q o:Value)(g:List Value)(args:List PV)(h:Ap M c w s tb mb d f b W S i j l m q o g args)(t:∀v∈args,BL W v)(A:W.out.length<=1000)(k:Nat)(nm:AE)(a:AO[k]?=some nm)(r:k<12) :Calls prog 392 #[.pointer (some ⟨b,0,none⟩),.iface 246 (.int .i64 (k:Int)),o] w fun e x=>AS M c s tb mb d f b (AH W S (.AZ nm) args) e x:=by
 by_cases p:args.length=arity nm
 ·match k,r,a with
  | 0,_,a=>obtain rfl:=i_ a;exact p_ap0 M c w s tb mb d f b W S i j l m q o g args h t p
  | 1,_,a=>obtain rfl:=i_ a;exact p_ap1 M c w s tb mb d f b W S i j l m q o g args h t p
  | 2,_,a=>obtain rfl:=i_ a;exact p_ap2 M c w s tb mb d f b W S i j l m q o g args h t p
  | 3,_,a=>obtain rfl:=i_ a;exact p_ap3 M c w s tb mb d f b W S i j l m q o g args h t p
  | 4,_,a=>obtain rfl:=i_ a;exact p_ap4 M c w s tb mb d f b W S i j l m q o g args h t p
  | 5,_,a=>obtain rfl:=i_ a;exact p_ap5 M c w s tb mb d f b W S i j l m q o g args h p
  | 6,_,a=>obtain rfl:=i_ a;exact p_ap6 M c w s tb mb d f b W S i j l m q o g args h p
  | 7,_,a=>obtain rfl:=i_ a;exact p_ap7 M c w s tb mb d f b W S i j l m q o g args h p
  | 8,_,a=>obtain rfl:=i_ a;exact p_ap8 M c w s tb mb d f b W S i j l m q o g args h p
  | 9,_,a=>obtain rfl:=i_ a;exact p_ap9 M c w s tb mb d f b W S i j l m q o g args h p
  | 10,_,a=>obtain rfl:=i_ a;exact p_ap10 M c w s tb mb d f b W S i j l m q o g args h p
  | 11,_,a=>obtain rfl:=i_ a;exact p_ap11 M c w s tb mb d f b W z S i j l m q o g args h t A p
  | n+12,r,_=>omega
 ·obtain⟨y,u,rfl,_,_⟩:=h.args;have B:AH W S (.AZ nm) args=⟨10,W,S⟩:=by show(if args.length≠arity nm then _ else _)=_;rw [if_pos p]
  rw [B];exact aU M c w s tb mb d f b i j l m k y g.length u _ ((vC k nm w y g.length u _ h.JQ a r (by rw [h.CH.1];exact p)).mono (fun e x ⟨C,D,E⟩=>⟨_,_,E,.inr ⟨D,10,rfl,rfl,h.no C (by decide)⟩⟩))
end
end Go.Proofs.YtkgbdddkcjpgfaaGreatDoor
