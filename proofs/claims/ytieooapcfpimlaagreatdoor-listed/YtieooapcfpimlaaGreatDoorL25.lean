import Derived.Test.YtieooapcfpimlaaGreatDoorL24
namespace Go.Proofs.YtieooapcfpimlaaGreatDoor
set_option maxHeartbeats 4000000
set_option maxRecDepth 100000
open Go.Proofs.Tryz
open Pl (PV PW PS PF CW SR AE Env)
section
open Go.RowKit Go.Lib Go.Maps
variable {kv ev gv ov fv ev0 a:Value} {M:Nat->Prop} {w w':World} {tb mb sb gb rb:Nat}
theorem Kept.after{w1:World}(h:Kept M w1 rb w')(a:Below w.heap.size w w1)(d:rb<w.heap.size):Kept M w rb w' :=⟨(Stp.AA a).trans h.AQ,h.run.trans (a.block rb d),fun g b e c=>(h.outs g b e ((a.block g (aB c)).trans c)).trans (a.block g (aB c))⟩
theorem iF{w1 w2:World}{s t:Sg}{W W':PW}{S S':PS}{v:Value}{q:PV}(c:C0 M w sb rb fv ev gv kv ov)(d:GW M w s kv S.AB)(e:DS M w ov W.out)(a:Kept M w rb w1)(l:Sg.Le s t)(f:EG w s t)(h:Wd M w1 t tb mb sb gb W')(i:W'.out=W.out)(j:RV t v q)(k:S'=S.A1 q)(m:AI w1 rb #[.pointer (some ⟨sb,0,none⟩),.nilIface,.pointer none,v,kv,ov] w2):AS M w s tb mb sb gb rb ⟨0,W',S'⟩ (.returned .nilIface) w2:=by
 subst k;refine(eH h (a.run.trans c.blk) c.JK m (fun _=>eX j) (fun n=>?_) ?_).M7 a.AQ l f
 ·exact(d.go a.AQ l).go n (Sg.Le.refl _)
 ·rw [i];exact e.keep (fun g b o p r=>⟨a.outs g b o r,p⟩)
def VC(M:Nat->Prop)(w:World)(s:Sg)(tb mb sb gb rb:Nat)(W:PW)(env:Env)(nm:AE)(q:PV)(v:Value)(w':World):Prop :=(∃i,Pl.DL W env nm=some i/\v=.nilIface/\Wd M w' s tb mb sb gb {W with places:=W.places.set i q}/\Kept M w rb w')\/(Pl.DL W env nm=none/\(∃es,v=aY es 8)/\Below w.heap.size w w')
theorem p_setR(M:Nat->Prop)(w:World)(s:Sg)(tb mb r B n:Nat)(W:PW)(env:Env)(N:Wd M w s tb mb r B W)(Y:CT s)(F:W.globals.length<=6500000000000000000)(O:C0 M w r n fv ev0 gv kv ov)(P:CX M w s ev env)(nm:AE)(k:Nat)(Q:s.ns[k]?=some nm)(hl:nm.length<=1000)(v:Value)(q:PV)(f:RV s v q) :Calls prog 293 #[.pointer (some ⟨n,0,none⟩),.agg #[.string ⟨nm.toArray⟩,.int .i64 (k:Int)],ev,v] w fun e w'=>∃x,e=.returned x/\VC M w s tb mb r B n W env nm q x w':=by
 have t:Below w.heap.size w (w.alloc (.cells #[.string ⟨nm.toArray⟩,.int .i64 (k:Int)] B6)):=b_;have C:=aB O.blk
 have HP:Hid (Calls prog 154 #[ev,.agg #[.string ⟨nm.toArray⟩,.int .i64 (k:Int)]] (w.alloc (.cells #[.string ⟨nm.toArray⟩,.int .i64 (k:Int)] B6)) fun e K=>∃v,e=.returned (.pointer v)/\Hid (Below w.heap.size w K/\K.heap[w.heap.size]?=some (.cells #[.string ⟨nm.toArray⟩,.int .i64 (k:Int)] B6 (0,0))/\VG s env nm (.returned (.pointer v)))) :=
  show Calls _ _ _ _ _ from(uW M _ s ev env nm k N.nodup (P.go (Stp.AA t) (Sg.Le.refl _)) Q).mono (fun e K h=>by
   have b:K.heap[w.heap.size]?=some (.cells #[.string ⟨nm.toArray⟩,.int .i64 (k:Int)] B6 (0,0)):=(h.1.block w.heap.size (by simp)).trans (heap_alloc_new w _);rcases h.2 with⟨R,rfl⟩ | ⟨i,g,o,R,h2,rfl⟩
   ·exact⟨_,rfl,t.trans (h.1.mono (by simp)),b,.inl ⟨R,rfl⟩⟩
   ·exact⟨_,rfl,t.trans (h.1.mono (by simp)),b,.inr ⟨i,g,o,R,h2,rfl⟩⟩)
 have D:=h_ N;have HR:=h_ O;have E:Hid (s.ns[k]?=some nm/\CT s/\W.globals.length<=6500000000000000000):=⟨Q,Y,F⟩
 have Z:=h_ f;obtain⟨oe,rfl⟩:=P.ptr;obtain⟨T,x,rfl⟩:=f.iface;clear N Y O P Q t F f;go_enter func293,ntmps293
 go_upto_region 2 with(go_at_call 154;refine Calls.mono HP ?_;rintro e wc ⟨v,rfl,L⟩)
 obtain⟨a,b,S⟩:=L.out;have d:=(a.block n C).trans HR.blk;have y:=h_ a;have z:=D.mv (Mv.below a);rcases S with⟨A,f⟩ | ⟨i,g,o,hi,G,f⟩
 ·simp only [Ending.returned.injEq,Value.pointer.injEq] at f;subst f;have U:=(iU D).2;have H:=(iU D).1;have d0:wc.cell? ⟨n,0,none⟩=some (.pointer (some ⟨r,0,none⟩)):=aA d 0;have d1:wc.cell? ⟨r,0,none⟩=some (.map (some B)):=aA ((a.block r U).trans D.NN) 0;have d2:wc.cell? ⟨w.heap.size,0,none⟩=some (.string ⟨nm.toArray⟩):=aA b 0;have d3:wc.cell? ⟨w.heap.size,1,none⟩=some (.int .i64 (k:Int)):=aA b 1
  cases c:Pl.find W.globals nm with
  | some i =>
   obtain⟨v,p,hp,f,I⟩:=rE D.DI E.2.1 E.1 c;have l2:=I wc.drew (a.block B H);have j:Pl.DL W env nm=some i:=by unfold Pl.DL;rw [A];exact c
   obtain⟨w3,V,l,m⟩:=Wd.putG (w:=wc.drew.drew) (D.mv (Mv.below y.drew.drew)) E.2.1 E.1 c Z E.2.2 n _ d;have J:Hid (VC M w s tb mb r B n W env nm q .nilIface w3):=.inl ⟨i,j,rfl,l,m.after y.drew.drew C⟩;obtain⟨T',x',rfl⟩:=f.iface;clear I f hp c A a b d L z j l m;go_wp2_with fail
   go_region
   all_goals
    go_wp2_with fail
    go_region
    all_goals
     go_wp2_with fail
     go_ret;exact⟨_,rfl,J⟩
  | none =>
   have l2:=pS D.DI E.2.1 E.1 c wc.drew (a.block B H);have J:Hid (∀X,VC M w s tb mb r B n W env nm q (aY X 8) wc.drew):=fun X=>.inr ⟨by unfold Pl.DL;rw [A];exact c,⟨X,rfl⟩,y.drew⟩;clear c A a b d L z;go_wp2_with fail
   go_region
   all_goals
    go_wp2_with (go_at_call 33;refine(bJ _ _ _).mono ?_;rintro e w3 ⟨rfl,rfl⟩)
    go_ret;exact⟨_,rfl,J _⟩
 ·simp only [Ending.returned.injEq,Value.pointer.injEq] at f;subst f;have j:Pl.DL W env nm=some i:=by unfold Pl.DL;rw [hi]
  obtain⟨l,m,aa,u,ab⟩:=z.SU G Z n _ d;have J:Hid (VC M w s tb mb r B n W env nm q .nilIface (wc.setCell ⟨g,o,none⟩ (.iface T x))):=.inl ⟨i,j,rfl,l,m.after y C⟩;clear hi G a b d L z j l m;go_wp2_with fail;go_ret;exact⟨_,rfl,J⟩
theorem uO(M:Nat->Prop)(w:World)(s:Sg)(tb mb g l b:Nat)(W:PW)(S:PS)(env:Env)(C:Wd M w s tb mb g l W)(J:CT s)(m:W.globals.length<=6500000000000000000)(n:C0 M w g b fv ev0 gv kv ov)(K:GW M w s kv S.AB)(L:DS M w ov W.out)(D:CX M w s ev env)(nm:AE)(k:Nat)(N:s.ns[k]?=some nm)(R:nm.length<=1000)(v:Value)(q:PV)(E:RV s v q)(r:SR)
  (c:r=match Pl.DL W env nm with | some i=>⟨0,{W with places:=W.places.set i q},S.A1 .nothing⟩ | none=>⟨8,W,S⟩) :
  Calls prog 292 #[.agg #[.string ⟨nm.toArray⟩,.int .i64 (k:Int),ev],.pointer (some ⟨b,0,none⟩),v] w fun e o=>AS M w s tb mb g l b r e o:=by
 have d:Below w.heap.size w (w.alloc (.cells #[.string ⟨nm.toArray⟩,.int .i64 (k:Int),ev] 289)):=b_;have p:=aB n.blk;have t:Stp M w M (w.alloc (.cells #[.string ⟨nm.toArray⟩,.int .i64 (k:Int),ev] 289)):=Stp.AA d;have O:Hid (Calls prog 293 #[.pointer (some ⟨b,0,none⟩),.agg #[.string ⟨nm.toArray⟩,.int .i64 (k:Int)],ev,v] (w.alloc (.cells #[.string ⟨nm.toArray⟩,.int .i64 (k:Int),ev] 289)) fun e o=>∃x,e=.returned x/\VC M (w.alloc (.cells #[.string ⟨nm.toArray⟩,.int .i64 (k:Int),ev] 289)) s tb mb g l b W env nm q x o) :=p_setR M _ s tb mb g l b W env (C.mv (Mv.below d)) J m ⟨(d.block b p).trans n.blk,n.JK⟩ (D.go t (Sg.Le.refl _)) nm k N R v q E;have h:=h_ d;have U:=h_ C;have F:=h_ n;have V:=h_ K;have P:=h_ L;obtain⟨oe,rfl⟩:=D.ptr;obtain⟨T,x,rfl⟩:=E.iface;clear C J n D K L N d t m E
 cases f:Pl.DL W env nm with
 | some i =>
  rw [f] at c;have j:=h_ c;clear c;go_enter func292,ntmps292
  go_upto_region 2 with(go_at_call 293;refine Calls.mono O ?_;rintro e wc ⟨X,rfl,G⟩)
  rcases G with⟨Q,a,rfl,u,y⟩ | ⟨a,_⟩
  ·obtain rfl:Q=i:=i_ (a.symm.trans f);have H:=y.after h p;have A:Hid (∀B,AI wc b #[.pointer (some ⟨g,0,none⟩),.nilIface,.pointer none,.iface 192 (.agg #[]),kv,ov] B->AS M w s tb mb g l b r (.returned .nilIface) B):=fun B Y=>by rw [j.out];exact iF (W:=W) F V P H (Sg.Le.refl _) (EG.refl _ _) u rfl .nothing rfl Y
   have Z:Hid (Calls prog 149 #[.pointer (some ⟨b,1,none⟩),.iface 192 (.agg #[])] wc fun e o=>e=.returned (.tuple #[])/\AI wc b #[.pointer (some ⟨g,0,none⟩),.nilIface,.pointer none,.iface 192 (.agg #[]),kv,ov] o):=jF wc b _ _ _ _ _ _ _ (H.run.trans F.blk) ⟨_,_,rfl⟩;clear u y H;go_wp2_with (go_at_call 149;refine Calls.mono Z ?_;rintro e B ⟨rfl,I⟩);go_ret;exact A.out _ I
  ·rw [f] at a;cases a
 | none =>
  rw [f] at c;have j:=h_ c;clear c;go_enter func292,ntmps292
  go_upto_region 2 with(go_at_call 293;refine Calls.mono O ?_;rintro e wc ⟨X,rfl,G⟩)
  rcases G with⟨Q,a,_⟩ | ⟨_,⟨es,rfl⟩,z⟩
  ·rw [f] at a;cases a
  ·have A:Hid (AS M w s tb mb g l b r (.returned (aY es 8)) wc):=show AS _ _ _ _ _ _ _ _ _ _ _ from by
    rw [j.out];exact iG U F P (h.trans (z.mono h.size)) (by decide)
   clear z;unfold aY at A ⊢;go_wp2_with fail;go_ret;exact A
theorem m7(M:Nat->Prop)(w:World)(s:Sg)(tb mb f n a:Nat)(W:PW)(S:PS)(p:Wd M w s tb mb f n W)(B:CT s)(r:LG W W.globals)(h:W.globals.length<=6500000000000000000)(o:C0 M w f a fv ev0 gv kv ov)(J:GW M w s kv S.AB)(K:DS M w ov W.out)(nm:AE)(k:Nat)(C:s.ns[k]?=some nm)(v:Value)(q:PV)(z:RV s v q) :Calls prog 294 #[.agg #[.string ⟨nm.toArray⟩,.int .i64 (k:Int)],.pointer (some ⟨a,0,none⟩),v] w fun e D=>AS M w s tb mb f n a ⟨0,Pl.bind W nm q,S.A1 .nothing⟩ e D:=by
 have d:Below w.heap.size w (w.alloc (.cells #[.string ⟨nm.toArray⟩,.int .i64 (k:Int)] 291)).drew:=b_.drew;have j:=aB o.blk;have N:=(iU p).2;have R:w.cell? ⟨a,0,none⟩=some (.pointer (some ⟨f,0,none⟩)):=aA o.blk 0;have U:w.cell? ⟨f,0,none⟩=some (.map (some n)):=aA p.NN 0;have l:=(d.block a j).trans o.blk
 have u:∃c t,(Instr.mapUpdate 58 (.map (some n)) (.int .i64 (k:Int)) v).run prog (w.alloc (.cells #[.string ⟨nm.toArray⟩,.int .i64 (k:Int)] 291)).drew=.ok () c/\(Sg.Le s t/\EG w s t)/\Wd M c t tb mb f n (Pl.bind W nm q)/\(Pl.bind W nm q).out=W.out/\Kept M w a c:=by
  cases b:Pl.find W.globals nm with
  | some i =>
   obtain⟨c,E,F,G⟩:=Wd.putG (p.mv (Mv.below d)) B C b z h a _ l;refine⟨c,s,E,⟨Sg.Le.refl _,EG.refl _ _⟩,?_,?_,G.after d j⟩
   ·unfold Pl.bind;rw [b];exact F
   ·unfold Pl.bind;rw [b]
  | none =>
   obtain⟨c,E,F,G⟩:=Wd.newG (p.mv (Mv.below d)) B C b z r h a _ l;refine⟨c,s.FO,E,⟨s.FC,EG.same rfl rfl⟩,?_,?_,G.after d j⟩
   ·unfold Pl.bind;rw [b];exact F
   ·unfold Pl.bind;rw [b]
 obtain⟨c,t,L,m,y,g,H⟩:=u;have O:Hid (∀A,AI c a #[.pointer (some ⟨f,0,none⟩),.nilIface,.pointer none,.iface 192 (.agg #[]),kv,ov] A->AS M w s tb mb f n a ⟨0,Pl.bind W nm q,S.A1 .nothing⟩ (.returned .nilIface) A):=fun A P=>iF (W:=W) o J K H m.1 m.2 y g .nothing rfl P;have Q:Hid (Calls prog 149 #[.pointer (some ⟨a,1,none⟩),.iface 192 (.agg #[])] c fun e D=>e=.returned (.tuple #[])/\AI c a #[.pointer (some ⟨f,0,none⟩),.nilIface,.pointer none,.iface 192 (.agg #[]),kv,ov] D):=jF c a _ _ _ _ _ _ _ (H.run.trans o.blk) ⟨_,_,rfl⟩;obtain⟨T,x,rfl⟩:=z.iface;clear p B r h o J K C z m y g H l;go_enter func294,ntmps294;go_wp2_with fail
 go_region
 all_goals
  go_wp2_with (go_at_call 149;refine Calls.mono Q ?_;rintro e A ⟨rfl,I⟩)
  go_ret;exact O.out _ I
theorem Kept.AA(h:Below w.heap.size w w')(a:rb<w.heap.size):Kept M w rb w':=⟨Stp.AA h,h.block rb a,fun g _ _ b=>h.block g (aB b)⟩
theorem AC.le{D:DataW Value}{s t:Sg}{W W':PW}(h:AC D s W)(l:Sg.Le s t)(f:t.ns=s.ns)(g:W'.globals=W.globals)(q:W'.places=W.places):AC D t W' :=
 ⟨h.tidy,fun k e i d c=>by
  rw [f] at d;rw [g] at c;obtain⟨j,v,p,m,r,u⟩:=h.yes k e i d c
  exact⟨j,v,p,m,by rw [q];exact r,u.le l⟩,fun k e d c=>by rw [f] at d;rw [g] at c;exact h.no k e d c,fun k d=>by rw [f];exact h.keys k d,fun e i c=>by
  rw [g] at c;obtain⟨j,m⟩:=h.names e i c
  exact⟨by rw [f];exact j,bS l.lp m⟩,fun a b i n o=>by rw [g] at n o;exact h.inj a b i n o⟩
theorem Wd.more{s t:Sg}{W W':PW}(h:Wd M w s tb mb sb gb W)(l:Sg.Le s t)(d:t.pb=s.pb)(e:t.lp=s.lp)(a:t.ns=s.ns)(f:W'.pairs=W.pairs)(b:W'.places=W.places)(c:W'.globals=W.globals)(g:OW (GR M w t) t.qb W'.procs)(i:OW (GX M w t) t.cb W'.AG):Wd M w t tb mb sb gb W':=by refine⟨⟨by rw [a];exact h.CY.B3,by rw [f];exact h.CY.pairs.le l d,h.CY.FV,h.CY.JJ,h.CY.mlt⟩,h.NN,h.msb,?_,h.TH,h.UE,g,i,by rw [b];exact h.places.le l e,h.gs,h.JQ,h.gt,h.ge,by rw [l.tq];exact h.tq,by rw [l.tc];exact h.tc⟩;obtain⟨D,j,k⟩:=h.DI;exact⟨D,by rw [c];exact j,k.le l a c b⟩
def Sg.JE(s:Sg)(b:Nat):Sg:={s with qb:=s.qb++[b]}
def Sg.IJ(s:Sg)(b:Nat):Sg:={s with cb:=s.cb++[b]}
theorem Sg.LA(s:Sg)(b:Nat):Sg.Le s (s.JE b):=⟨rfl,rfl,List.prefix_refl _,List.prefix_append _ _,List.prefix_refl _,List.prefix_refl _,List.prefix_refl _⟩
theorem Sg.LD(s:Sg)(b:Nat):Sg.Le s (s.IJ b):=⟨rfl,rfl,List.prefix_refl _,List.prefix_refl _,List.prefix_append _ _,List.prefix_refl _,List.prefix_refl _⟩
theorem OW.lt{α:Type}{R:Nat->α->Prop}{bs:List Nat}{l:List α}(h:OW R bs l){n:Nat}(a:∀b x,R b x->b<n):∀b∈bs,b<n:=fun b c=>by obtain⟨i,d⟩:=List.getElem?_of_mem c;obtain⟨x,_,e⟩:=h.get d;exact a b x e
theorem Wd.JE{s:Sg}{W:PW}(h:Wd M w s tb mb sb gb W)(i:Below w.heap.size w w'){p:Nat}(hp:w.heap.size<=p){nv body:Value}(c:w'.heap[p]?=some (.cells #[nv,body,ev] EQ (0,0)))(q:PF×Env)(x:PF)(d:q.1.ks=[x])(j:EI M w s nv q.1.ns)(k:CP M w s body x)(m:CX M w s ev q.2) :Wd M w' (s.JE p) tb mb sb gb {W with procs:=W.procs++[q]}/\RV (s.JE p) (.iface 280 (.pointer (some ⟨p,0,none⟩))) (.proc W.procs.length):=by
 have e:Stp M w M w':=Stp.AA i;have l:=s.LA p;have f:=h.mv (Mv.below i);refine⟨f.more l rfl rfl rfl rfl rfl rfl (OW.push (f.procs.mono (fun b x a=>a.go (Stp.refl _ _) l)) ?_ ?_) (f.AG.mono (fun b x a=>a.go (Stp.refl _ _) l)),?_⟩
 ·exact⟨fun g=>by have:=h.CY.mlt p g;omega,nv,body,ev,x,c,d,j.go e l,k.go e l,m.go e l⟩
 ·intro g;have:=h.procs.lt (n:=w.heap.size) (fun b x a=>by obtain⟨_,_,_,_,_,o,_⟩:=a;exact aB o) p g;omega
 ·rw [<- h.tq];exact .proc _ p (by show(s.qb++[p])[W.procs.length]?=some p;rw [<- h.procs.len];simp) (by have:=h.gs.size;omega)
theorem Wd.IJ{s:Sg}{W:PW}(h:Wd M w s tb mb sb gb W)(f:Below w.heap.size w w'){p:Nat}(hp:w.heap.size<=p)(c:w'.heap[p]?=some (.cells #[kv] J0 (0,0)))(fs:List CW)(g:GW M w s kv fs) :Wd M w' (s.IJ p) tb mb sb gb {W with AG:=W.AG++[fs]}/\RV (s.IJ p) (.iface 402 (.pointer (some ⟨p,0,none⟩))) (.cont W.AG.length):=by
 have i:Stp M w M w':=Stp.AA f;have l:=s.LD p;have d:=h.mv (Mv.below f);refine⟨d.more l rfl rfl rfl rfl rfl rfl (d.procs.mono (fun b x a=>a.go (Stp.refl _ _) l)) (OW.push (d.AG.mono (fun b x a=>a.go (Stp.refl _ _) l)) ?_ ?_),?_⟩
 ·exact⟨fun e=>by have:=h.CY.mlt p e;omega,kv,c,g.go i l⟩
 ·intro e;have:=h.AG.lt (n:=w.heap.size) (fun b x a=>by obtain⟨_,_,j,_⟩:=a;exact aB j) p e;omega
 ·rw [<- h.tc];exact .cont _ p (by show(s.cb++[p])[W.AG.length]?=some p;rw [<- h.AG.len];simp)
theorem r8(M:Nat->Prop)(w:World)(s:Sg)(tb mb h o a:Nat)(W:PW)(S:PS)(F:Wd M w s tb mb h o W){nv body:Value}(f x:PF)(d:C0 M w h a (.iface 210 (.agg #[nv,body])) ev gv kv ov)(G:CX M w s ev S.env)(H:GW M w s kv S.AB)(I:DS M w ov W.out)(j:f.ks=[x])(q:EI M w s nv f.ns)(r:CP M w s body x) :Calls prog 147 #[.pointer (some ⟨a,0,none⟩)] w fun e t=>AS M w s tb mb h o a ⟨0,{W with procs:=W.procs++[(f,S.env)]},S.A1 (.proc W.procs.length)⟩ e t:=by
 generalize u:Value.iface 210 (.agg #[nv,body])=y at d;have g:=aB d.blk;have X:w.cell? ⟨a,1,none⟩=some y:=aA d.blk 1;have Y:w.cell? ⟨a,2,none⟩=some ev:=aA d.blk 2;have k:Hid (∀i,Below w.heap.size w (w.alloc i)):=fun i=>b_;have Z:Hid (∀i,(w.alloc i).drew.heap[a]?=w.heap[a]?):=fun i=>(k i).block a g;subst u;have fy:=Tryz.N7;have K:=Tryz.IP;have L:=Tryz.KH;have N:Hid (∀m p,Below w.heap.size w m->w.heap.size<=p->m.heap[p]?=some (.cells #[nv,body,ev] EQ (0,0))->∀z,AI m a #[.pointer (some ⟨h,0,none⟩),.nilIface,.pointer none,.iface 280 (.pointer (some ⟨p,0,none⟩)),kv,ov] z->AS M w s tb mb h o a ⟨0,{W with procs:=W.procs++[(f,S.env)]},S.A1 (.proc W.procs.length)⟩ (.returned .nilIface) z):=fun m p J O A z P=>by obtain⟨B,Q⟩:=F.JE J O A (f,S.env) x j q r G;exact iF (W:=W) d H I (Kept.AA J g) (s.LA p) (EG.same rfl rfl) B rfl Q rfl P
 have R:Hid (∀(l:World) v,l.heap[a]?=w.heap[a]? -> (∃T x,v=.iface T x)->Calls prog 149 #[.pointer (some ⟨a,1,none⟩),v] l fun e t=>e=.returned (.tuple #[])/\AI l a #[.pointer (some ⟨h,0,none⟩),.nilIface,.pointer none,v,kv,ov] t):=fun l v B U=>jF l a _ _ _ _ _ _ v (B.trans d.blk) U;have C:Hid (∀b D,((w.alloc b).alloc D).drew.heap[a]?=w.heap[a]?):=fun b D=>(((k b).alloc (k b).size D)).block a g;have V:Hid (∀b,((w.alloc b).alloc (.cells #[nv,body,ev] EQ)).drew.heap[w.heap.size+1]?=some (.cells #[nv,body,ev] EQ (0,0))):=fun b=>by have:=heap_alloc_new (w.alloc b) (.cells #[nv,body,ev] EQ);rw [show(w.alloc b).heap.size=w.heap.size+1 from by simp] at this;exact this
 obtain⟨oe,rfl⟩:=G.ptr;obtain⟨T,x',rfl⟩:=r.iface;obtain⟨n,c,rfl⟩:∃n c,nv=.slice n f.ns.length c:=by obtain⟨⟨ks,_,_,n,c,rfl,_⟩,_,_⟩:=q;exact⟨n,c,rfl⟩
 clear F d H I r q j;go_enter func147,ntmps147;go_wp2_with fail;go_region_with (go_at_call 149;refine(R _ _ (C _ _) ⟨_,_,rfl⟩).mono ?_;rintro e w3 ⟨rfl,E⟩)
 all_goals
  go_wp2_with fail
  go_ret;exact N.out _ (w.heap.size+1) (((k _).alloc (k _).size _).drew) (by omega) (V _) _ E
theorem p_wfIf(M:Nat->Prop)(w:World)(s:Sg)(tb mb i E d:Nat)(W:PW)(S:PS)(hW:Wd M w s tb mb i E W)(F:S.AB.length<=6500000000000000000){b c:Value}(y z:PF)(f x:PF)(q:C0 M w i d (.iface 202 (.agg #[a,b,c])) ev gv kv ov)(v:CX M w s ev S.env)(A:GW M w s kv S.AB)(ho:DS M w ov W.out)(r:CP M w s a x)(hk:f.k=.iff)(G:f.ks=[x,y,z])(hb:CP M w s b y)(hc:CP M w s c z)(o:Option PF)(H:o=some x) :Calls prog 147 #[.pointer (some ⟨d,0,none⟩)] w fun e j=>AS M w s tb mb i E d ⟨0,W,(S.push ⟨f,[],1,S.env⟩).work o S.env⟩ e j:=by
 generalize I:Value.iface 202 (.agg #[a,b,c])=J at q;have K:=aB q.blk;have e1:w.cell? ⟨d,1,none⟩=some J:=aA q.blk 1;have e2:w.cell? ⟨d,2,none⟩=some ev:=aA q.blk 2;have B:Hid (∀h,Below w.heap.size w (w.alloc h)):=fun h=>b_;have HK:Hid (∀h,(w.alloc h).drew.heap[d]?=w.heap[d]?):=fun h=>(B h).block d K;subst I;have fy:=Tryz.YT;have aa:=Tryz.KI;have ab:=Tryz.H3;have ac:=Tryz.LV;have HT:Hid (FF M w s (.iface 286 (.agg #[a,b,c,ev])) ⟨f,[],1,S.env⟩):=.iff a b c ev _ x y z hk G r.iface hb hc v;have HX:Hid (∀g p cs,w.heap.size<=p->g.heap[p]?=some (.cells #[.iface 286 (.agg #[a,b,c,ev]),kv,.int .i64 ((S.AB.length+1:Nat):Int)] DQ (0,0))->AI w d cs g->∀L,AI g d #[.pointer (some ⟨i,0,none⟩),a,ev,.nilIface,.pointer (some ⟨p,0,none⟩),ov] L->AS M w s tb mb i E d ⟨0,W,(S.push ⟨f,[],1,S.env⟩).work o S.env⟩ (.returned .nilIface) L):=fun g p cs k n l L m=>dL hW q A ho r v HT l k n m H;have HP:Hid (∀h,Calls prog 151 #[.pointer (some ⟨d,1,none⟩),.iface 286 (.agg #[a,b,c,ev])] (w.alloc h).drew fun e j=>e=.returned (.tuple #[])/\Hid (∃p,w.heap.size<=p/\j.heap[p]?=some (.cells #[.iface 286 (.agg #[a,b,c,ev]),kv,.int .i64 ((S.AB.length+1:Nat):Int)] DQ (0,0))/\AI w d #[.pointer (some ⟨i,0,none⟩),.iface 202 (.agg #[a,b,c]),ev,gv,.pointer (some ⟨p,0,none⟩),ov] j/\j.heap[w.heap.size]?=(w.alloc h).heap[w.heap.size]?)):=fun h =>(kS (w.alloc h).drew d _ _ _ _ kv ov _ S.AB.length ((HK h).trans q.blk) ⟨_,_,rfl⟩ A.ptr (A.J7.below (B h).drew) F).mono (fun e j ⟨k,p,n,l,m⟩=>⟨k,p,t_ (B h).size n,l,m.after (B h).drew,m.other _ (by simp) (by omega)⟩);have HG:Hid (∀(N g:World) c1 c2 c3 O,N.heap[d]?=some (.cells #[.pointer (some ⟨i,0,none⟩),c1,c2,c3,O,ov] BT (0,0))->g.heap[d]?=N.heap[d]? -> Calls prog 152 #[.pointer (some ⟨d,1,none⟩),a,ev] g fun e j=>e=.returned (.tuple #[])/\AI g d #[.pointer (some ⟨i,0,none⟩),a,ev,.nilIface,O,ov] j):=fun N g c1 c2 c3 O h0 k=>cU g d _ _ _ _ _ _ a ev (k.trans h0) r.iface v.ptr;have t:Hid ((w.alloc (.cells #[a,b,c] 202)).heap[w.heap.size]?=some (.cells #[a,b,c] 202 (0,0))):=heap_alloc_new w _;obtain⟨P,Q,rfl⟩:=hb.iface;obtain⟨R,U,rfl⟩:=hc.iface;obtain⟨C,rfl⟩:=v.ptr;obtain⟨T,u,rfl⟩:=r.iface;clear hW q A ho r;go_enter func147,ntmps147
 go_upto_region 14 with fail
 go_cut [] (fun V=>Hid (∃p,w.heap.size<=p/\V.heap[p]?=some (.cells #[.iface 286 (.agg #[.iface T u,.iface P Q,.iface R U,.pointer C]),kv,.int .i64 ((S.AB.length+1:Nat):Int)] DQ (0,0))/\AI w d #[.pointer (some ⟨i,0,none⟩),.iface 202 (.agg #[.iface T u,.iface P Q,.iface R U]),.pointer C,gv,.pointer (some ⟨p,0,none⟩),ov] V/\V.heap[w.heap.size]?=some (.cells #[.iface T u,.iface P Q,.iface R U] 202 (0,0))))
 case first =>
  go_region_with (go_at_call 151;refine(HP _).mono ?_;rintro e w3 ⟨rfl,D⟩)
  all_goals
   go_wp2_with fail
   go_meet
   obtain⟨p,k,n,l,m⟩:=D.out;exact⟨p,k,n,l,m.trans t⟩
 case rest =>
  have D:=hcut;obtain⟨p,k,n,l,m⟩:=D.out;have HY:=HX.out wc p _ k n l;have X:=h_ HY;have Y:Hid (∀g:World,g.heap[d]?=wc.heap[d]? -> Calls prog 152 #[.pointer (some ⟨d,1,none⟩),.iface T u,.pointer C] g fun e j=>e=.returned (.tuple #[])/\AI g d #[.pointer (some ⟨i,0,none⟩),.iface T u,.pointer C,.nilIface,.pointer (some ⟨p,0,none⟩),ov] j):=fun g e1=>HG.out wc g _ _ _ _ l.blk e1;have b0:=aA m 0;have b2:=aA m 2;simp only [List.getElem?_toArray,List.getElem?_cons_zero,List.getElem?_cons_succ] at b0 b2;have ad:d<wc.heap.size:=aB l.blk;clear k n l m D hcut HY HX HP HG t;go_wp2_with fail;go_region_with (go_at_call 152;refine(Y _ (by rfl)).mono ?_;rintro e w3 ⟨rfl,Z⟩)
  all_goals
   go_wp2_with fail
   go_ret;exact X.out _ (Z.after (r_.drew))
theorem XA(M:Nat->Prop)(w:World)(s:Sg)(tb mb g B b:Nat)(W:PW)(S:PS)(R:Wd M w s tb mb g B W)(C:S.AB.length<=6500000000000000000)(nm:AE)(k:Nat)(f x:PF)(n:C0 M w g b (.iface 205 (.agg #[.string ⟨nm.toArray⟩,.int .i64 (k:Int),a])) ev gv kv ov)(r:CX M w s ev S.env)(t:GW M w s kv S.AB)(U:DS M w ov W.out)(u:CP M w s a x)(hk:f.k=.set)(D:f.nm=nm)(E:s.ns[k]?=some nm)(o:Option PF)(F:o=some x) :Calls prog 147 #[.pointer (some ⟨b,0,none⟩)] w fun e h=>AS M w s tb mb g B b ⟨0,W,(S.push ⟨f,[],1,S.env⟩).work o S.env⟩ e h:=by
 generalize G:Value.iface 205 (.agg #[.string ⟨nm.toArray⟩,.int .i64 (k:Int),a])=H at n;have I:=aB n.blk;have V:w.cell? ⟨b,1,none⟩=some H:=aA n.blk 1;have e2:w.cell? ⟨b,2,none⟩=some ev:=aA n.blk 2;have v:Hid (∀d,Below w.heap.size w (w.alloc d)):=fun d=>b_;have HK:Hid (∀d,(w.alloc d).drew.heap[b]?=w.heap[b]?):=fun d=>(v d).block b I;subst G;have fy:=Tryz.UH;have aa:=Tryz.JV;have ab:=Tryz.MV;have ac:=Tryz.K5;have ad:=Tryz.PY;have HT:Hid (FF M w s (.iface 289 (.agg #[.string ⟨nm.toArray⟩,.int .i64 (k:Int),ev])) ⟨f,[],1,S.env⟩):=show FF _ _ _ _ _ from by subst D;exact .set k ev ⟨f,[],1,S.env⟩ hk E r
 have X:Hid (∀c p Y,w.heap.size<=p->c.heap[p]?=some (.cells #[.iface 289 (.agg #[.string ⟨nm.toArray⟩,.int .i64 (k:Int),ev]),kv,.int .i64 ((S.AB.length+1:Nat):Int)] DQ (0,0))->AI w b Y c->∀J,AI c b #[.pointer (some ⟨g,0,none⟩),a,ev,.nilIface,.pointer (some ⟨p,0,none⟩),ov] J->AS M w s tb mb g B b ⟨0,W,(S.push ⟨f,[],1,S.env⟩).work o S.env⟩ (.returned .nilIface) J):=fun c p Y i m j J l=>dL R n t U u r HT j i m l F;have Z:Hid (∀d,Calls prog 151 #[.pointer (some ⟨b,1,none⟩),.iface 289 (.agg #[.string ⟨nm.toArray⟩,.int .i64 (k:Int),ev])] (w.alloc d).drew fun e h=>e=.returned (.tuple #[])/\Hid (∃p,w.heap.size<=p/\h.heap[p]?=some (.cells #[.iface 289 (.agg #[.string ⟨nm.toArray⟩,.int .i64 (k:Int),ev]),kv,.int .i64 ((S.AB.length+1:Nat):Int)] DQ (0,0))/\AI w b #[.pointer (some ⟨g,0,none⟩),.iface 205 (.agg #[.string ⟨nm.toArray⟩,.int .i64 (k:Int),a]),ev,gv,.pointer (some ⟨p,0,none⟩),ov] h/\h.heap[w.heap.size]?=(w.alloc d).heap[w.heap.size]?)):=fun d =>(kS (w.alloc d).drew b _ _ _ _ kv ov _ S.AB.length ((HK d).trans n.blk) ⟨_,_,rfl⟩ t.ptr (t.J7.below (v d).drew) C).mono (fun e h ⟨i,p,m,j,l⟩=>⟨i,p,t_ (v d).size m,j,l.after (v d).drew,l.other _ (by simp) (by omega)⟩);have HG:Hid (∀(K c:World) c1 c2 c3 L,K.heap[b]?=some (.cells #[.pointer (some ⟨g,0,none⟩),c1,c2,c3,L,ov] BT (0,0))->c.heap[b]?=K.heap[b]? -> Calls prog 152 #[.pointer (some ⟨b,1,none⟩),a,ev] c fun e h=>e=.returned (.tuple #[])/\AI c b #[.pointer (some ⟨g,0,none⟩),a,ev,.nilIface,L,ov] h):=fun K c c1 c2 c3 L h0 i=>cU c b _ _ _ _ _ _ a ev (i.trans h0) u.iface r.ptr;have q:Hid ((w.alloc (.cells #[.string ⟨nm.toArray⟩,.int .i64 (k:Int),a] 205)).heap[w.heap.size]?=some (.cells #[.string ⟨nm.toArray⟩,.int .i64 (k:Int),a] 205 (0,0))):=heap_alloc_new w _
 skip
 obtain⟨y,rfl⟩:=r.ptr;obtain⟨T,z,rfl⟩:=u.iface;clear R n t U u;go_enter func147,ntmps147
 go_upto_region 18 with fail
 go_cut [] (fun N=>Hid (∃p,w.heap.size<=p/\N.heap[p]?=some (.cells #[.iface 289 (.agg #[.string ⟨nm.toArray⟩,.int .i64 (k:Int),.pointer y]),kv,.int .i64 ((S.AB.length+1:Nat):Int)] DQ (0,0))/\AI w b #[.pointer (some ⟨g,0,none⟩),.iface 205 (.agg #[.string ⟨nm.toArray⟩,.int .i64 (k:Int),.iface T z]),.pointer y,gv,.pointer (some ⟨p,0,none⟩),ov] N/\N.heap[w.heap.size]?=some (.cells #[.string ⟨nm.toArray⟩,.int .i64 (k:Int),.iface T z] 205 (0,0))))
 case first =>
  go_region_with (go_at_call 151;refine(Z _).mono ?_;rintro e w3 ⟨rfl,A⟩)
  all_goals
   go_wp2_with fail
   go_meet
   obtain⟨p,i,m,j,l⟩:=A.out;exact⟨p,i,m,j,l.trans q⟩
 case rest =>
  have A:=hcut;obtain⟨p,i,m,j,l⟩:=A.out;have HY:=X.out wc p _ i m j;have O:=h_ HY;have P:Hid (∀c:World,c.heap[b]?=wc.heap[b]? -> Calls prog 152 #[.pointer (some ⟨b,1,none⟩),.iface T z,.pointer y] c fun e h=>e=.returned (.tuple #[])/\AI c b #[.pointer (some ⟨g,0,none⟩),.iface T z,.pointer y,.nilIface,.pointer (some ⟨p,0,none⟩),ov] h):=fun c V=>HG.out wc c _ _ _ _ j.blk V;have b0:=aA l 0;have b2:=aA l 2;simp only [List.getElem?_toArray,List.getElem?_cons_zero,List.getElem?_cons_succ] at b0 b2;have ae:b<wc.heap.size:=aB j.blk;clear i m j l A hcut HY X Z HG q;go_wp2_with fail;go_region_with (go_at_call 152;refine(P _ (by rfl)).mono ?_;rintro e w3 ⟨rfl,Q⟩)
  all_goals
   go_wp2_with fail
   go_ret;exact O.out _ (Q.after (r_.drew))
theorem r9(M:Nat->Prop)(w:World)(s:Sg)(tb mb g z b:Nat)(W:PW)(S:PS)(R:Wd M w s tb mb g z W)(A:S.AB.length<=6500000000000000000)(nm:AE)(k:Nat)(f x:PF)(n:C0 M w g b (.iface 152 (.agg #[.string ⟨nm.toArray⟩,.int .i64 (k:Int),a])) ev gv kv ov)(B:CX M w s ev S.env)(r:GW M w s kv S.AB)(U:DS M w ov W.out)(t:CP M w s a x)(hk:f.k=.define)(C:f.nm=nm)(D:s.ns[k]?=some nm)(o:Option PF)(E:o=some x) :Calls prog 147 #[.pointer (some ⟨b,0,none⟩)] w fun e h=>AS M w s tb mb g z b ⟨0,W,(S.push ⟨f,[],1,S.env⟩).work o S.env⟩ e h:=by
 generalize F:Value.iface 152 (.agg #[.string ⟨nm.toArray⟩,.int .i64 (k:Int),a])=G at n;have H:=aB n.blk;have V:w.cell? ⟨b,1,none⟩=some G:=aA n.blk 1;have e2:w.cell? ⟨b,2,none⟩=some ev:=aA n.blk 2;have u:Hid (∀d,Below w.heap.size w (w.alloc d)):=fun d=>b_;have HK:Hid (∀d,(w.alloc d).drew.heap[b]?=w.heap[b]?):=fun d=>(u d).block b H;subst F;have fy:=Tryz.N8;have aa:=Tryz.IQ;have ab:=Tryz.KJ;have ac:=Tryz.JB;have ad:=Tryz.LW;have ae:=Tryz.K6;have HT:Hid (FF M w s (.iface 291 (.agg #[.string ⟨nm.toArray⟩,.int .i64 (k:Int)])) ⟨f,[],1,S.env⟩):=show FF _ _ _ _ _ from by subst C;exact .define k ⟨f,[],1,S.env⟩ hk D
 have X:Hid (∀c p Y,w.heap.size<=p->c.heap[p]?=some (.cells #[.iface 291 (.agg #[.string ⟨nm.toArray⟩,.int .i64 (k:Int)]),kv,.int .i64 ((S.AB.length+1:Nat):Int)] DQ (0,0))->AI w b Y c->∀I,AI c b #[.pointer (some ⟨g,0,none⟩),a,ev,.nilIface,.pointer (some ⟨p,0,none⟩),ov] I->AS M w s tb mb g z b ⟨0,W,(S.push ⟨f,[],1,S.env⟩).work o S.env⟩ (.returned .nilIface) I):=fun c p Y i m j I l=>dL R n r U t B HT j i m l E;have Z:Hid (∀d,Calls prog 151 #[.pointer (some ⟨b,1,none⟩),.iface 291 (.agg #[.string ⟨nm.toArray⟩,.int .i64 (k:Int)])] (w.alloc d).drew fun e h=>e=.returned (.tuple #[])/\Hid (∃p,w.heap.size<=p/\h.heap[p]?=some (.cells #[.iface 291 (.agg #[.string ⟨nm.toArray⟩,.int .i64 (k:Int)]),kv,.int .i64 ((S.AB.length+1:Nat):Int)] DQ (0,0))/\AI w b #[.pointer (some ⟨g,0,none⟩),.iface 152 (.agg #[.string ⟨nm.toArray⟩,.int .i64 (k:Int),a]),ev,gv,.pointer (some ⟨p,0,none⟩),ov] h/\h.heap[w.heap.size]?=(w.alloc d).heap[w.heap.size]?)):=fun d =>(kS (w.alloc d).drew b _ _ _ _ kv ov _ S.AB.length ((HK d).trans n.blk) ⟨_,_,rfl⟩ r.ptr (r.J7.below (u d).drew) A).mono (fun e h ⟨i,p,m,j,l⟩=>⟨i,p,t_ (u d).size m,j,l.after (u d).drew,l.other _ (by simp) (by omega)⟩);have HG:Hid (∀(J c:World) c1 c2 c3 K,J.heap[b]?=some (.cells #[.pointer (some ⟨g,0,none⟩),c1,c2,c3,K,ov] BT (0,0))->c.heap[b]?=J.heap[b]? -> Calls prog 152 #[.pointer (some ⟨b,1,none⟩),a,ev] c fun e h=>e=.returned (.tuple #[])/\AI c b #[.pointer (some ⟨g,0,none⟩),a,ev,.nilIface,K,ov] h):=fun J c c1 c2 c3 K h0 i=>cU c b _ _ _ _ _ _ a ev (i.trans h0) t.iface B.ptr;have q:Hid ((w.alloc (.cells #[.string ⟨nm.toArray⟩,.int .i64 (k:Int),a] 152)).heap[w.heap.size]?=some (.cells #[.string ⟨nm.toArray⟩,.int .i64 (k:Int),a] 152 (0,0))):=heap_alloc_new w _
 skip
 obtain⟨L,rfl⟩:=B.ptr;obtain⟨T,v,rfl⟩:=t.iface;clear R n r U t;go_enter func147,ntmps147
 go_upto_region 22 with fail
 go_cut [] (fun N=>Hid (∃p,w.heap.size<=p/\N.heap[p]?=some (.cells #[.iface 291 (.agg #[.string ⟨nm.toArray⟩,.int .i64 (k:Int)]),kv,.int .i64 ((S.AB.length+1:Nat):Int)] DQ (0,0))/\AI w b #[.pointer (some ⟨g,0,none⟩),.iface 152 (.agg #[.string ⟨nm.toArray⟩,.int .i64 (k:Int),.iface T v]),.pointer L,gv,.pointer (some ⟨p,0,none⟩),ov] N/\N.heap[w.heap.size]?=some (.cells #[.string ⟨nm.toArray⟩,.int .i64 (k:Int),.iface T v] 152 (0,0))))
 case first =>
  go_region_with (go_at_call 151;refine(Z _).mono ?_;rintro e w3 ⟨rfl,y⟩)
  all_goals
   go_wp2_with fail
   go_meet
   obtain⟨p,i,m,j,l⟩:=y.out;exact⟨p,i,m,j,l.trans q⟩
 case rest =>
  have y:=hcut;obtain⟨p,i,m,j,l⟩:=y.out;have HY:=X.out wc p _ i m j;have O:=h_ HY;have P:Hid (∀c:World,c.heap[b]?=wc.heap[b]? -> Calls prog 152 #[.pointer (some ⟨b,1,none⟩),.iface T v,.pointer L] c fun e h=>e=.returned (.tuple #[])/\AI c b #[.pointer (some ⟨g,0,none⟩),.iface T v,.pointer L,.nilIface,.pointer (some ⟨p,0,none⟩),ov] h):=fun c V=>HG.out wc c _ _ _ _ j.blk V;have b0:=aA l 0;have b2:=aA l 2;simp only [List.getElem?_toArray,List.getElem?_cons_zero,List.getElem?_cons_succ] at b0 b2;have af:b<wc.heap.size:=aB j.blk;clear i m j l y hcut HY X Z HG q;go_wp2_with fail;go_region_with (go_at_call 152;refine(P _ (by rfl)).mono ?_;rintro e w3 ⟨rfl,Q⟩)
  all_goals
   go_wp2_with fail
   go_ret;exact O.out _ (Q.after (r_.drew))
end
end Go.Proofs.YtieooapcfpimlaaGreatDoor
