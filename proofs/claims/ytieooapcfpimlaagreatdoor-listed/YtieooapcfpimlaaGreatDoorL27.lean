import Derived.Test.YtieooapcfpimlaaGreatDoorL25
import Derived.Test.YtieooapcfpimlaaGreatDoorL26
namespace Go.Proofs.YtieooapcfpimlaaGreatDoor
set_option maxHeartbeats 4000000
set_option maxRecDepth 100000
open Go.Proofs.Tryz
open Pl (PV PW PS PF CW SR Env A2 B0 CS A7)
section
open Go.RowKit Go.Lib Go.Maps
variable {M:Nat->Prop} {w w0:World} {tb mb sb gb rb:Nat} {us:List Value} {fv ev gv kv ov av:Value}
structure Ap(M:Nat->Prop)(w0 w:World)(s:Sg)(tb mb sb gb rb:Nat)(W:PW)(S:PS)(fv ev gv kv ov av:Value)(us:List Value)(args:List PV):Prop where
 below:Below w0.heap.size w0 w
 wd:Wd M w0 s tb mb sb gb W
 run:C0 M w0 sb rb fv ev gv kv ov
 fr:GW M w0 s kv S.AB
 out:DS M w0 ov W.out
 CH:BY (RV s) us args
 len:us.length<=2000
 args:∃ao cap,av=.slice ao us.length cap/\us.length<=cap/\(us.length≠0->∃(g off:Nat)(cur:Array Value),ao=some ⟨g,off,none⟩/\w0.heap.size<=g/\w.heap[g]?=some (Obj.cells cur B9 (0,0))/\∀(i:Nat)(u:Value),us[i]?=some u->cur[off+i]?=some u)
def kJ(g off:Nat):Nat->List (Option (Nat×Nat))
 | 0=>[]
 | n+1=>kJ g off n++[some (g,off+n)]
theorem dU(g a:Nat):∀n,(kJ g a n).length=n
 | 0=>rfl
 | n+1=>by simp [kJ,dU g a n]
theorem jL(g a:Nat):∀(n i:Nat),i<n->(kJ g a n)[i]?=some (some (g,a+i))
 | 0,i,h=>by omega
 | n+1,i,h=>by
  rcases Nat.lt_or_ge i n with b | b
  ·rw [kJ,List.getElem?_append_left (by rw [dU];exact b)];exact jL g a n i b
  ·obtain rfl:i=n:=by omega
   rw [kJ,List.getElem?_append_right (by rw [dU];exact n_),dU];simp
theorem dS(g a n i:Nat)(c:Option (Nat×Nat))(h:(kJ g a n)[i]?=some c):i<n/\c=some (g,a+i):=by
 have b:i<n:=by have:=(s_ h).1;rw [dU] at this;exact this
 rw [jL g a n i b] at h;exact⟨b,(i_ h).symm⟩
def Sg.OK(s:Sg)(g off n:Nat):Sg:={s with lp:=s.lp++kJ g off n}
theorem Sg.OJ(s:Sg)(g a n:Nat):Sg.Le s (s.OK g a n):=⟨rfl,rfl,List.prefix_refl _,List.prefix_refl _,List.prefix_refl _,List.prefix_append _ _,List.prefix_refl _⟩
def Mg(M:Nat->Prop)(g n:Nat):Nat->Prop:=Mn M (fun k=>n≠0/\k=g)
theorem wR{α:Type}{a b:List α}{i:Nat}{x:α}(h:(a++b)[i]?=some x):(i<a.length/\a[i]?=some x)\/(a.length<=i/\b[i-a.length]?=some x):=by
 rcases Nat.lt_or_ge i a.length with c | c
 ·left;rw [List.getElem?_append_left c] at h;exact⟨c,h⟩
 ·right;rw [List.getElem?_append_right c] at h;exact⟨c,h⟩
theorem Wd.OK{w':World}{s:Sg}{W:PW}(h:Wd M w s tb mb sb gb W)(U:Below w.heap.size w w'){args:List PV}(P:BY (RV s) us args)(g d:Nat)(o:Array Value)(A:us.length≠0->w.heap.size<=g/\w'.heap[g]?=some (.cells o B9 (0,0))/\∀(i:Nat)(u:Value),us[i]?=some u->o[d+i]?=some u) :Wd (Mg M g us.length) w' (s.OK g d us.length) tb mb sb gb {W with places:=W.places++args}/\Mv M w (Mg M g us.length) w':=by
 have Q:Mv M w (Mg M g us.length) w':=Mv.wide _ (fun k q=>by rw [q.2];exact(A q.1).1) U (fun k q=>by rw [q.2];exact aB (A q.1).2.1);have a:=h.mv Q;have l:=s.OJ g d us.length;have B:∀i y C,s.lp[i]?=some (some (y,C))->y<w.heap.size:=fun i y C z=>by have V:=(s_ z).1;obtain⟨_,_,_,n,_⟩:=h.places.at_ i y C _ z (g_ (by rw [<- h.places.len];exact V));exact aB n
 refine⟨⟨⟨a.CY.B3,a.CY.pairs.le l rfl,a.CY.FV,a.CY.JJ,a.CY.mlt⟩,a.NN,a.msb,?_,a.TH,a.UE,a.procs.mono (fun b x J=>J.go (Stp.refl _ _) l),a.AG.mono (fun b x J=>J.go (Stp.refl _ _) l),?_,a.gs,a.JQ,a.gt,a.ge,a.tq,a.tc⟩,Q⟩
 ·obtain⟨D,X,n⟩:=a.DI;refine⟨D,X,n.tidy,fun k K i q L=>?_,n.no,n.keys,fun K i L=>?_,n.inj⟩
  ·obtain⟨r,v,p,f,E,N⟩:=n.yes k K i q L;exact⟨r,v,p,f,bS (List.prefix_append _ _) E,N.le l⟩
  ·obtain⟨r,f⟩:=n.names K i L;exact⟨r,bS l.lp f⟩
 ·refine⟨?_,?_,?_⟩
  ·show(s.lp++kJ g d us.length).length=(W.places++args).length;rw [a_,a_,dU,h.places.len,P.1]
  ·intro i j c z Y;rcases wR z with⟨F,m⟩ | ⟨F,m⟩<;>rcases wR Y with⟨Z,G⟩ | ⟨Z,G⟩
   ·exact h.places.inj i j c m G
   ·obtain⟨j3,O⟩:=dS _ _ _ _ _ G;have:=i_ O;subst this;have r:=B i _ _ m;have f:=(A (by omega)).1;omega
   ·obtain⟨R,H⟩:=dS _ _ _ _ _ m;have:=i_ H;subst this;have r:=B j _ _ G;have f:=(A (by omega)).1;omega
   ·obtain⟨R,H⟩:=dS _ _ _ _ _ m;obtain⟨j3,O⟩:=dS _ _ _ _ _ G;have e1:=i_ H;have S:=i_ O;rw [e1] at S;simp only [Prod.mk.injEq,true_and] at S;omega
  ·intro i y C p z T;rcases wR z with⟨F,m⟩ | ⟨F,m⟩
   ·have t:W.places[i]?=some p:=by
     have:(W.places++args)[i]?=some p:=T
     rwa [List.getElem?_append_left (by rw [<- h.places.len];exact F)] at this
    obtain⟨r,I,v,f,E,N⟩:=a.places.at_ i y C p m t;exact⟨r,I,v,f,E,N.le l⟩
   ·obtain⟨R,H⟩:=dS _ _ _ _ _ m;have e:=i_ H;simp only [Prod.mk.injEq] at e;obtain⟨rfl,rfl⟩:=e
    have t:args[i-s.lp.length]?=some p:=by
     have:(W.places++args)[i]?=some p:=T
     rwa [List.getElem?_append_right (by rw [<- h.places.len];exact F),<-h.places.len] at this
    obtain⟨u,hu,hr⟩:=P.at_ t;obtain⟨_,f,E⟩:=A (by omega);exact⟨.inr ⟨by omega,rfl⟩,o,u,f,E _ u hu,hr.le l⟩
def jC(W:PW)(S:PS)(q:PF×Env)(args:List PV):SR:=if args.length≠q.1.ns.length then⟨10,W,S⟩ else⟨0,{W with places:=W.places++args},S.work q.1.ks[0]? (q.2++Pl.C1 q.1.ns W.places.length)⟩
theorem Ap.no{w2:World}{s:Sg}{W:PW}{S S':PS}{args:List PV}(h:Ap M w0 w s tb mb sb gb rb W S fv ev gv kv ov av us args)(a:Below w.heap.size w w2){b:ByteArray}{c:Nat}(d:c≠0):AS M w0 s tb mb sb gb rb ⟨c,W,S'⟩ (.returned (aY b c)) w2:=iG h.wd h.run h.out (h.below.trans (a.mono h.below.size)) d
theorem Ap.MO{s:Sg}{W:PW}{S:PS}{args:List PV}(h:Ap M w0 w s tb mb sb gb rb W S fv ev gv kv ov av us args):w.heap[rb]?=some (.cells #[.pointer (some ⟨sb,0,none⟩),fv,ev,gv,kv,ov] BT (0,0)):=(h.below.block rb (aB h.run.blk)).trans h.run.blk
def tF(W:PW)(S:PS)(fs:List CW)(args:List PV):SR:=match args with
 | [a]=>⟨0,W,{S with AB:=fs}.A1 a⟩
 | _=>⟨10,W,S⟩
theorem aAL{W:PW}{S:PS}{fs:List CW}{args:List PV}(h:args.length≠1):tF W S fs args=⟨10,W,S⟩:=by
 match args,h with
 | [],_=>rfl
 | [_],h=>exact absurd rfl h
 | _::_::_,_=>rfl
theorem o8(M:Nat->Prop)(F w:World)(s:Sg)(tb mb D I c:Nat)(W:PW)(S:PS)(Z ev gv U J V:Value)(us:List Value)(args:List PV)(h:Ap M F w s tb mb D I c W S Z ev gv U J V us args)(b:Nat)(fs:List CW)(hq:GX M F s b fs) :Calls prog 300 #[.pointer (some ⟨c,0,none⟩),.pointer (some ⟨b,0,none⟩),V] w fun e d=>AS M F s tb mb D I c (tF W S fs args) e d:=by
 have i:=h.MO;have aa:=aB i;obtain⟨ab,y,l,m⟩:=hq;have z:=(h.below.block b (aB l)).trans l;have c0:w.cell? ⟨b,0,none⟩=some y:=aA z 0;obtain⟨X,A,rfl,Y,f⟩:=h.args;have n:=fun d=>gR ⟨#[97,32,99,111,110,116,105,110,117,97,116,105,111,110]⟩ 1 X us.length A d (by omega) (by decide);have o:=h.CH.1;by_cases j:us.length=1
 ·obtain⟨u,rfl⟩:∃u,us=[u]:=List.length_eq_one_iff.1 j;obtain⟨a,rfl⟩:∃a,args=[a]:=List.length_eq_one_iff.1 (by rw [<- o];exact j);have p:RV s u a:=h.CH.2 0 u a rfl rfl;obtain⟨g,q,ac,rfl,ad,K,v⟩:=f (by simp);have d0:w.cell? ⟨g,q,none⟩=some u:=(aA K q).trans (by have:=v 0 u rfl;simpa using this);have L:g≠c:=fun e=>by subst e;have:=aB h.run.blk;omega
  have N:=aB K
  have O:Hid (∀d B,B=A->Calls prog 195 #[.string ⟨#[97,32,99,111,110,116,105,110,117,97,116,105,111,110]⟩,.int .i64 1,.slice (some ⟨g,q,none⟩) 1 B] d fun e r=>d=r/\e=.returned .nilIface):=fun d B C=>by
   subst C;refine Calls.mono (n d) (fun e r ⟨G,k⟩=>⟨G,?_⟩);rcases k with⟨_,k⟩ | ⟨k,_⟩
   ·exact k
   ·exact absurd rfl k
  have e4:w.cell? ⟨c,4,none⟩=some U:=aA i 4;have f4:w.frozen? ⟨c,4,none⟩=false:=aF i 4;have t:=AI.set i 4 y rfl;have P:Hid (∀r,AI (w.setCell ⟨c,4,none⟩ y) c #[.pointer (some ⟨D,0,none⟩),.nilIface,.pointer none,u,y,J] r->AS M F s tb mb D I c (tF W S fs [a]) (.returned .nilIface) r):=fun r hc=>by have Q:=(t.trans hc).after h.below;exact eH (S':={S with AB:=fs}.A1 a) h.wd h.run.blk h.run.JK Q (fun _=>eX (S:={S with AB:=fs}) p) (fun hs=>m.go hs (Sg.Le.refl _)) h.out
  have HG:Hid (∀H:World,H.heap[c]?=(w.setCell ⟨c,4,none⟩ y).heap[c]? -> Calls prog 149 #[.pointer (some ⟨c,1,none⟩),u] H fun e d=>e=.returned (.tuple #[])/\AI H c #[.pointer (some ⟨D,0,none⟩),.nilIface,.pointer none,u,y,J] d):=fun H G=>jF H c _ _ _ _ _ _ u (G.trans t.blk) p.iface;have ae:(w.setCell ⟨c,4,none⟩ y).cell? ⟨g,q,none⟩=some u:=(World.cell?_of_block (w:=w) (t.other g N L)).trans d0;obtain⟨ok,rfl⟩:=m.ptr;obtain⟨T,x,rfl⟩:=p.iface;clear h i l z m f n p K v t o j;go_enter func300,ntmps300;go_wp2_with (go_at_call 195;refine(O _ _ rfl).mono ?_;rintro e d ⟨rfl,rfl⟩);go_region_with (go_at_call 149;refine(HG _ (by rfl)).mono ?_;rintro e w3 ⟨rfl,R⟩)
  all_goals
   go_wp2_with fail
   go_ret;exact P.out _ (R.after (r_.drew))
 ·have O:Hid (∀d B,B=A->Calls prog 195 #[.string ⟨#[97,32,99,111,110,116,105,110,117,97,116,105,111,110]⟩,.int .i64 1,.slice X us.length B] d fun e r=>d=r/\∃E,e=.returned (aY E 10)):=fun d B C=>by
   subst C;refine Calls.mono (n d) (fun e r ⟨G,k⟩=>⟨G,?_⟩);rcases k with⟨k,_⟩ | ⟨_,k⟩
   ·exact absurd k j
   ·exact k
  have P:Hid (∀E,AS M F s tb mb D I c (tF W S fs args) (.returned (aY E 10)) w):=fun E=>by rw [aAL (by rw [<- o];exact j)];exact h.no r_ (by decide)
  clear h i l z m f n o j;go_enter func300,ntmps300;go_wp2_with (go_at_call 195;refine(O _ _ rfl).mono ?_;rintro e d ⟨rfl,E,rfl⟩;unfold aY);go_ret;exact P.out E
theorem Tryz.VS(v:Value)(w:World):(Instr.typeAssert (.iface 86 v) 88 280 true).run prog w=.ok (.tuple #[.pointer none,.bool false]) w:=by kernel_rfl
theorem Tryz.V0(v:Value)(w:World):(Instr.typeAssert (.iface 86 v) 88 402 true).run prog w=.ok (.tuple #[.pointer none,.bool false]) w:=by kernel_rfl
theorem Tryz.Q4(v:Value)(w:World):(Instr.typeAssert (.iface 83 v) 88 280 true).run prog w=.ok (.tuple #[.pointer none,.bool false]) w:=by kernel_rfl
theorem Tryz.Q5(v:Value)(w:World):(Instr.typeAssert (.iface 83 v) 88 402 true).run prog w=.ok (.tuple #[.pointer none,.bool false]) w:=by kernel_rfl
theorem Tryz.P_(v:Value)(w:World):(Instr.typeAssert (.iface 187 v) 88 280 true).run prog w=.ok (.tuple #[.pointer none,.bool false]) w:=by kernel_rfl
theorem Tryz.S_(v:Value)(w:World):(Instr.typeAssert (.iface 187 v) 88 402 true).run prog w=.ok (.tuple #[.pointer none,.bool false]) w:=by kernel_rfl
theorem Tryz.R6(v:Value)(w:World):(Instr.typeAssert (.iface 189 v) 88 280 true).run prog w=.ok (.tuple #[.pointer none,.bool false]) w:=by kernel_rfl
theorem Tryz.SC(v:Value)(w:World):(Instr.typeAssert (.iface 189 v) 88 402 true).run prog w=.ok (.tuple #[.pointer none,.bool false]) w:=by kernel_rfl
theorem Tryz.VU(v:Value)(w:World):(Instr.typeAssert (.iface 190 v) 88 280 true).run prog w=.ok (.tuple #[.pointer none,.bool false]) w:=by kernel_rfl
theorem Tryz.V2(v:Value)(w:World):(Instr.typeAssert (.iface 190 v) 88 402 true).run prog w=.ok (.tuple #[.pointer none,.bool false]) w:=by kernel_rfl
theorem Tryz.R7(v:Value)(w:World):(Instr.typeAssert (.iface 212 v) 88 280 true).run prog w=.ok (.tuple #[.pointer none,.bool false]) w:=by kernel_rfl
theorem Tryz.SD(v:Value)(w:World):(Instr.typeAssert (.iface 212 v) 88 402 true).run prog w=.ok (.tuple #[.pointer none,.bool false]) w:=by kernel_rfl
theorem Tryz.OX(v:Value)(w:World):(Instr.typeAssert (.iface 192 v) 88 280 true).run prog w=.ok (.tuple #[.pointer none,.bool false]) w:=by kernel_rfl
theorem Tryz.O0(v:Value)(w:World):(Instr.typeAssert (.iface 192 v) 88 402 true).run prog w=.ok (.tuple #[.pointer none,.bool false]) w:=by kernel_rfl
theorem Tryz.VT(v:Value)(w:World):(Instr.typeAssert (.iface 213 v) 88 280 true).run prog w=.ok (.tuple #[.pointer none,.bool false]) w:=by kernel_rfl
theorem Tryz.V1(v:Value)(w:World):(Instr.typeAssert (.iface 213 v) 88 402 true).run prog w=.ok (.tuple #[.pointer none,.bool false]) w:=by kernel_rfl
theorem Tryz.VX(v:Value)(w:World):(Instr.typeAssert (.iface 86 v) 88 83 true).run prog w=.ok (.tuple #[.agg #[],.bool false]) w:=by kernel_rfl
theorem Tryz.R_(v:Value)(w:World):(Instr.typeAssert (.iface 187 v) 88 83 true).run prog w=.ok (.tuple #[.agg #[],.bool false]) w:=by kernel_rfl
theorem Tryz.SA(v:Value)(w:World):(Instr.typeAssert (.iface 189 v) 88 83 true).run prog w=.ok (.tuple #[.agg #[],.bool false]) w:=by kernel_rfl
theorem Tryz.VZ(v:Value)(w:World):(Instr.typeAssert (.iface 190 v) 88 83 true).run prog w=.ok (.tuple #[.agg #[],.bool false]) w:=by kernel_rfl
theorem Tryz.SB(v:Value)(w:World):(Instr.typeAssert (.iface 212 v) 88 83 true).run prog w=.ok (.tuple #[.agg #[],.bool false]) w:=by kernel_rfl
theorem Tryz.OZ(v:Value)(w:World):(Instr.typeAssert (.iface 192 v) 88 83 true).run prog w=.ok (.tuple #[.agg #[],.bool false]) w:=by kernel_rfl
theorem Tryz.VY(v:Value)(w:World):(Instr.typeAssert (.iface 213 v) 88 83 true).run prog w=.ok (.tuple #[.agg #[],.bool false]) w:=by kernel_rfl
theorem Tryz.Q_(v:Value)(w:World):(Instr.typeAssert (.iface 187 v) 88 86 true).run prog w=.ok (.tuple #[.int .i64 0,.bool false]) w:=by kernel_rfl
theorem Tryz.R8(v:Value)(w:World):(Instr.typeAssert (.iface 189 v) 88 86 true).run prog w=.ok (.tuple #[.int .i64 0,.bool false]) w:=by kernel_rfl
theorem Tryz.VW(v:Value)(w:World):(Instr.typeAssert (.iface 190 v) 88 86 true).run prog w=.ok (.tuple #[.int .i64 0,.bool false]) w:=by kernel_rfl
theorem Tryz.R9(v:Value)(w:World):(Instr.typeAssert (.iface 212 v) 88 86 true).run prog w=.ok (.tuple #[.int .i64 0,.bool false]) w:=by kernel_rfl
theorem Tryz.OY(v:Value)(w:World):(Instr.typeAssert (.iface 192 v) 88 86 true).run prog w=.ok (.tuple #[.int .i64 0,.bool false]) w:=by kernel_rfl
theorem Tryz.VV(v:Value)(w:World):(Instr.typeAssert (.iface 213 v) 88 86 true).run prog w=.ok (.tuple #[.int .i64 0,.bool false]) w:=by kernel_rfl
theorem Tryz.vq_q(v:Value)(w:World):(Instr.typeAssert (.iface 280 v) 88 280 true).run prog w=.ok (.tuple #[v,.bool true]) w:=by kernel_rfl
theorem Tryz.vq_c(v:Value)(w:World):(Instr.typeAssert (.iface 402 v) 88 280 true).run prog w=.ok (.tuple #[.pointer none,.bool false]) w:=by kernel_rfl
theorem Tryz.vc_c(v:Value)(w:World):(Instr.typeAssert (.iface 402 v) 88 402 true).run prog w=.ok (.tuple #[v,.bool true]) w:=by kernel_rfl
theorem Tryz.vk_k(v:Value)(w:World):(Instr.typeAssert (.iface 83 v) 88 83 true).run prog w=.ok (.tuple #[v,.bool true]) w:=by kernel_rfl
theorem Tryz.vp_p(v:Value)(w:World):(Instr.typeAssert (.iface 86 v) 88 86 true).run prog w=.ok (.tuple #[v,.bool true]) w:=by kernel_rfl
def PA(M:Nat->Prop)(w0:World)(s:Sg)(tb mb sb gb rb:Nat)(fv ev gv kv:Value)(r:SR)(v1 e1:Value)(w':World):Prop :=
 (e1=.nilIface/\(∃T x,v1=.iface T x)/\∃ov',w'.heap[rb]?=some (.cells #[.pointer (some ⟨sb,0,none⟩),fv,ev,gv,kv,ov'] BT (0,0))/\∀w2,AI w' rb #[.pointer (some ⟨sb,0,none⟩),.nilIface,.pointer none,v1,kv,ov'] w2->AS M w0 s tb mb sb gb rb r (.returned .nilIface) w2) \/
 (∃es,∃c:Nat,e1=aY es c/\v1=.nilIface/\AS M w0 s tb mb sb gb rb r (.returned (aY es c)) w')
theorem aU(M:Nat->Prop)(p w:World)(s:Sg)(tb mb g q a:Nat)(z ev A t:Value)(k:Nat)(u:Option Addr)(n b:Nat)(r:SR)
  (v:Calls prog 211 #[.int .i64 (k:Int),.slice u n b,.pointer (some ⟨a,5,none⟩)] w fun e d=>∃h i,e=.returned (.tuple #[h,i])/\PA M p s tb mb g q a z ev A t r h i d) :
  Calls prog 297 #[.pointer (some ⟨a,0,none⟩),.iface 86 (.int .i64 (k:Int)),.slice u n b] w fun e d=>AS M p s tb mb g q a r e d:=by
 have B:=h_ v;have E:=Tryz.VS;have F:=Tryz.V0;have G:=Tryz.VX;have H:=Tryz.vp_p;clear v;go_enter func297,ntmps297
 go_upto_region 14 with(go_at_call 211;refine Calls.mono B ?_;rintro e j ⟨h,i,rfl,C⟩)
 rcases C with⟨rfl,⟨T,x,rfl⟩,l,y,f⟩ | ⟨I,c,rfl,rfl,f⟩
 ·have D:Hid (Calls prog 149 #[.pointer (some ⟨a,1,none⟩),.iface T x] j fun e d=>e=.returned (.tuple #[])/\AI j a #[.pointer (some ⟨g,0,none⟩),.nilIface,.pointer none,.iface T x,t,l] d):=jF j a _ _ _ _ _ _ _ y ⟨_,_,rfl⟩;have m:=h_ f;clear f y;go_wp2_with (go_at_call 149;refine Calls.mono D ?_;rintro e J ⟨rfl,o⟩);go_ret;exact m.out _ o
 ·have m:=h_ f;clear f;unfold aY;go_wp2_with fail;go_ret;exact m
theorem Ap.pure{w2:World}{s:Sg}{W:PW}{S:PS}{args:List PV}(h:Ap M w0 w s tb mb sb gb rb W S fv ev gv kv ov av us args)(k:Below w.heap.size w w2){f:PS->SR}{e:Ending}(l:GZ W s f e):∃g i,e=.returned (.tuple #[g,i])/\PA M w0 s tb mb sb gb rb fv ev gv kv (f S) g i w2:=by
 have a:=h.below.trans (k.mono h.below.size);rcases l with⟨v,q,rfl,j,b⟩ | ⟨m,c,d,rfl,b⟩
 ·refine⟨v,_,rfl,.inl ⟨rfl,j.iface,ov,(a.block rb (aB h.run.blk)).trans h.run.blk,fun o d=>?_⟩⟩;rw [b];exact eH h.wd h.run.blk h.run.JK (d.after a) (fun _=>eX j) (fun n=>h.fr.go n (Sg.Le.refl _)) h.out
 ·refine⟨_,_,rfl,.inr ⟨m,c,rfl,rfl,?_⟩⟩;rw [b];exact iG h.wd h.run h.out a d
theorem Wd.DD{s:Sg}{W:PW}(h:Wd M w s tb mb sb gb W){x y:Value}{p:PV×PV}(c:RV s x p.1)(d:RV s y p.2):Wd M (w.alloc (.cells #[x,y] E0)) (s.DD w.heap.size) tb mb sb gb {W with pairs:=W.pairs++[p]}/\RV (s.DD w.heap.size) (.iface 213 (.pointer (some ⟨w.heap.size,0,none⟩))) (.pair W.pairs.length):=by have e:Below w.heap.size w (w.alloc (.cells #[x,y] E0)):=b_;have a:=h.mv (Mv.below e);have l:=s.EK w.heap.size;obtain⟨f,g⟩:=h.CY.pairs.push h.CY.mlt c d;refine⟨⟨⟨a.CY.B3,f,a.CY.FV,a.CY.JJ,a.CY.mlt⟩,a.NN,a.msb,?_,a.TH,a.UE,a.procs.mono (fun b x c=>c.go (Stp.refl _ _) l),a.AG.mono (fun b x c=>c.go (Stp.refl _ _) l),a.places.le l rfl,a.gs,a.JQ,a.gt,a.ge,a.tq,a.tc⟩,g⟩;obtain⟨D,i,j⟩:=a.DI;exact⟨D,i,j.le l rfl rfl rfl⟩
theorem Ap.cons{wa:World}{s:Sg}{W:PW}{S:PS}{args:List PV}(h:Ap M w0 w s tb mb sb gb rb W S fv ev gv kv ov av us args)(g:Below w.heap.size w wa){x y:Value}{a b:PV}(i:RV s x a)(j:RV s y b):PA M w0 s tb mb sb gb rb fv ev gv kv (A2 W S CS a b) (.iface 213 (.pointer (some ⟨wa.heap.size,0,none⟩))) .nilIface (wa.alloc (.cells #[x,y] E0)):=by
 have c:=h.below.trans (g.mono h.below.size);have d:=aB h.run.blk;obtain⟨k,l⟩:=(h.wd.mv (Mv.below c)).DD (p:=(a,b)) i j;have e:Below w0.heap.size w0 (wa.alloc (.cells #[x,y] E0)):=c.alloc c.size _;refine .inl ⟨rfl,⟨_,_,rfl⟩,ov,(e.block rb d).trans h.run.blk,fun o m=>?_⟩;have n:A2 W S CS a b=⟨0,{W with pairs:=W.pairs++[(a,b)]},S.A1 (.pair W.pairs.length)⟩:=if_pos rfl;rw [n]
 exact iF (W:=W) h.run h.fr h.out (Kept.AA e d) (s.EK _) ⟨rfl,fun b f=>by
  rcases List.mem_append.1 f with f | f
  ·exact .inl f
  ·exact .inr (by rw [List.mem_singleton.1 f];exact c.size)⟩ k rfl l rfl m
theorem Ap.disp{w':World}{s:Sg}{W:PW}{S:PS}{args:List PV}(h:Ap M w0 w s tb mb sb gb rb W S fv ev gv kv ov av us args){a:PV}{e:Ending}(O:OR W w rb 5 ov W.out a e w'):∃J o,e=.returned (.tuple #[J,o])/\PA M w0 s tb mb sb gb rb fv ev gv kv (B0 W S A7 a) J o w':=by
 have K:B0 W S A7 a=if W.out.length+(Pl.cut (Pl.text W.pairs a)).length<=1000 then⟨0,{W with out:=W.out++Pl.cut (Pl.text W.pairs a)},S.A1 .nothing⟩ else⟨11,W,S⟩:=if_pos rfl;rcases O with⟨L,D,P,rfl⟩ | ⟨L,rfl,Q,D,f,t,i,b,v,rfl⟩
 ·refine⟨_,_,rfl,.inr ⟨P,11,rfl,rfl,?_⟩⟩;rw [K,if_neg (by omega)];exact h.no D (by decide)
 ·have j:=h.below.trans (D.mono h.below.size);have E:=aB h.run.blk;have z:=(j.block rb E).trans h.run.blk;have F:rb<Q.heap.size:=aB z
  have G:some rb≠ov.ownBlock:=fun e=>by
   rcases h.out.1.2 with⟨rfl,_⟩ | ⟨g,A,B,rfl,_,c,_⟩
   ·cases e
   ·simp only [Value.ownBlock,o_] at e;subst e;rw [h.run.blk] at c;simp only [o_,Obj.cells.injEq] at c;exact absurd c.2.1 (by decide)
  have l:=(b.block rb F G).trans z
  have H:∀g,f.ownBlock=some g->g≠rb:=fun g c e=>by
   subst e;rcases i.2 with⟨rfl,_⟩ | ⟨X,A,B,rfl,_,p,_⟩
   ·cases c
   ·simp only [Value.ownBlock,o_] at c;subst c;rw [l] at p;simp only [o_,Obj.cells.injEq] at p;exact absurd p.2.1 (by decide)
  have m:∀k,k<w0.heap.size->k≠rb->some k≠ov.ownBlock->(t.setCell ⟨rb,5,none⟩ f).heap[k]?=w0.heap[k]? := fun k d o u=>by rw [Below.heap_setCell _ _ _ _ (fun x=>o (by simpa using x)),b.block k (l_ d j.size) u];exact j.block k d
  have q:Mv M w0 (Mn M (fun k=>f.ownBlock=some k/\w0.heap.size<=k)) (t.setCell ⟨rb,5,none⟩ f):=by
   refine⟨⟨b.os.trans j.os,b.tape.trans j.tape,b.output.trans j.output,by have:=b.size;have:=j.size;simp [World.setCell];omega,fun k d C=>⟨m k d (fun e=>C (by rw [e];exact h.run.JK)) (fun e=>C (h.out.2 k e.symm)),fun x=>x.elim C (fun y=>by have:=y.2;omega)⟩⟩,fun k d C=>⟨.inl C,?_⟩,fun R k d=>?_⟩
   ·by_cases o:k=rb
    ·subst o;exact .inr ⟨_,BT,_,h.run.blk,by decide⟩
    ·by_cases u:some k=ov.ownBlock
     ·rcases h.out.1.2 with⟨rfl,_⟩ | ⟨g,A,B,rfl,_,c,_⟩
      ·cases u
      ·simp only [Value.ownBlock,o_] at u;subst u;exact .inr ⟨_,JM,_,c,by decide⟩
     ·exact .inl (m k d o u)
   ·have T:t.heap.size=(t.setCell ⟨rb,5,none⟩ f).heap.size:=by simp [World.setCell]
    rcases d with d | d
    ·have:=R k d;have:=b.size;have:=j.size;omega
    ·have:=(i.lt k d.1).2;omega
  have r:=h.wd.mv q;have I:Wd (Mn M (fun k=>f.ownBlock=some k/\w0.heap.size<=k)) (t.setCell ⟨rb,5,none⟩ f) s tb mb sb gb {W with out:=W.out++Pl.cut (Pl.text W.pairs a)} :=r.more (Sg.Le.refl _) rfl rfl rfl rfl rfl rfl r.procs r.AG;have n:(t.setCell ⟨rb,5,none⟩ f).heap[rb]?=some (.cells #[.pointer (some ⟨sb,0,none⟩),fv,ev,gv,kv,f] BT (0,0)):=aD l 5 f;refine⟨_,_,rfl,.inl ⟨rfl,⟨_,_,rfl⟩,f,n,fun Y U=>?_⟩⟩;rw [K,if_pos L];refine(eH I n (.inl h.run.JK) U (fun _=>eX .nothing) (fun V=>(h.fr.go q.AQ (Sg.Le.refl _)).go V (Sg.Le.refl _)) ?_).M7 q.AQ (Sg.Le.refl _) (EG.refl _ _);refine⟨gA i (fun g c=>Below.heap_setCell _ _ _ _ (fun x=>H g c (by simpa using x))),fun g c=>?_⟩;rcases v g c with N | N
  ·exact .inl (h.out.2 g N)
  ·exact .inr ⟨c,by have:=j.size;omega⟩
theorem Wd.TJ{w1:World}{s:Sg}{W:PW}(h:Wd M w s tb mb sb gb W)(f:Below w.heap.size w w1):QB w1 s W.pairs w1.heap.size:=by
 have a:=h.mv (Mv.below f);refine⟨fun i k p c g=>?_,a.CY.pairs.nodup,a.CY.pairs.len,fun i k c _=>?_,fun i k c=>?_,a.gs.B3,a.gs.size,a.NH,fun i j k l m _=>Decidable.byContradiction fun e=>l7 a.procs.nodup l m e rfl,a.AG.nodup⟩
 ·obtain⟨_,x,y,b,n⟩:=a.CY.pairs.at_ i k p c g;exact⟨aB b,x,y,b,n⟩
 ·obtain⟨q,_,_,o,d,r,x,b,_⟩:=a.procs.get c;exact⟨aB b,#[o,d,r],by rw [a.tq];exact b⟩
 ·obtain⟨q,_,_,t,b,_⟩:=a.AG.get c;exact⟨aB b,#[t],by rw [a.tc];exact b⟩
theorem o7(M:Nat->Prop)(B w:World)(s:Sg)(tb mb C O d:Nat)(W:PW)(S:PS)(fv ev gv kv ov av:Value)(us:List Value)(args:List PV)(h:Ap M B w s tb mb C O d W S fv ev gv kv ov av us args)(b:Nat)(q:PF×Env)(hq:GR M B s b q) :Calls prog 299 #[.pointer (some ⟨d,0,none⟩),.pointer (some ⟨b,0,none⟩),av] w fun e j=>AS M B s tb mb C O d (jC W S q args) e j:=by
 have D:=h.MO;have aa:=aB D;obtain⟨ak,nv,k,eq,x,H,P,E,a,r⟩:=hq;have z:=(h.below.block b (aB H)).trans H;have al:=aB z;have c0:w.cell? ⟨b,0,none⟩=some nv:=aA z 0;have c1:w.cell? ⟨b,1,none⟩=some k:=aA z 1;have c2:w.cell? ⟨b,2,none⟩=some eq:=aA z 2;obtain⟨K,m,rfl,ai,n⟩:=h.args;have am:=E.len;obtain⟨Q,R,rfl⟩:∃Q R,nv=.slice Q q.1.ns.length R:=by obtain⟨⟨ks,_,_,Q,R,rfl,_⟩,_,_⟩:=E;exact⟨Q,R,rfl⟩
 have I:=fun j=>gR ⟨#[97,32,112,114,111,99,101,100,117,114,101]⟩ q.1.ns.length K us.length m j (by omega) (by decide);have J:=h.CH.1;by_cases p:us.length=q.1.ns.length
 ·have HC:Hid (∀j U,U=m->Calls prog 195 #[.string ⟨#[97,32,112,114,111,99,101,100,117,114,101]⟩,.int .i64 (q.1.ns.length:Int),.slice K us.length U] j fun e t=>j=t/\e=.returned .nilIface):=fun j U V=>by
   subst V;refine(I j).mono (fun e t ⟨h1,F⟩=>⟨h1,?_⟩);rcases F with⟨_,F⟩ | ⟨F,_⟩
   ·exact F
   ·exact absurd p F
  have HX:Hid (∀L v t,Below w.heap.size w v->w.heap.size<=L->v.heap[L]?=some (.cells #[.slice Q q.1.ns.length R,.slice K us.length m,eq] M8 (0,0))->AI v d #[.pointer (some ⟨C,0,none⟩),k,.pointer (some ⟨L,0,none⟩),.nilIface,kv,ov] t->AS M B s tb mb C O d (jC W S q args) (.returned .nilIface) t):=fun L v t X ap ab hc=>by
   have N:Below B.heap.size B v:=h.below.trans (X.mono h.below.size)
   obtain⟨g,c,A,hg,ac⟩:∃(g c:Nat)(A:Array Value),(us.length≠0->B.heap.size<=g/\v.heap[g]?=some (Obj.cells A B9 (0,0))/\∀(i:Nat)(u:Value),us[i]?=some u->A[c+i]?=some u)/\(us.length≠0->K=some ⟨g,c,none⟩/\g<w.heap.size):=by
    by_cases h0:us.length=0
    ·exact⟨0,0,#[],fun Y=>absurd h0 Y,fun Y=>absurd h0 Y⟩
    ·obtain⟨g,c,A,k1,k2,k3,k4⟩:=n h0;exact⟨g,c,A,fun _=>⟨k2,(X.block g (aB k3)).trans k3,k4⟩,fun _=>⟨k1,aB k3⟩⟩
   obtain⟨ad,G⟩:=h.wd.OK N h.CH g c A hg;have l:=s.OJ g c us.length
   have ae:¬Mg M g us.length L:=fun hx=>by
    rcases hx with hx | ⟨hx,rfl⟩
    ·have:=h.wd.CY.mlt L hx;have:=h.below.size;omega
    ·have:=(ac hx).2;omega
   have hE:CX (Mg M g us.length) v (s.OK g c us.length) (.pointer (some ⟨L,0,none⟩)) (q.2++Pl.C1 q.1.ns W.places.length):=by refine .cons L _ eq K m W.places.length q.1.ns q.2 (by rw [ab,p]) ae (E.go G.AQ l) (by omega) (fun i hi=>?_) (r.go G.AQ l);refine⟨g,c,(ac (by omega)).1,?_⟩;show(s.lp++kJ g c us.length)[W.places.length+i]?=_;rw [<- h.wd.places.len,List.getElem?_append_right (by omega),Nat.add_sub_cancel_left];exact jL g c us.length i (by omega)
   have hp:jC W S q args=⟨0,{W with places:=W.places++args},S.work q.1.ks[0]? (q.2++Pl.C1 q.1.ns W.places.length)⟩:=by unfold jC;rw [if_neg (fun Y=>Y (by rw [<- J];exact p))]
   rw [hp];have af:C0 (Mg M g us.length) v C d fv ev gv kv ov:=⟨(X.block d aa).trans D,.inl h.run.JK⟩
   refine(iP (f:=x) ad af (h.fr.go G.AQ l) ?_ (a.go G.AQ l) hE hc (by rw [P];rfl)).M7 G.AQ l (EG.same rfl rfl);exact h.out.keep (fun g' aj fz ag ah=>⟨N.block g' (aB ah),.inl ag⟩)
  have HG:Hid (∀(v:World) ep,v.heap[d]?=w.heap[d]? -> (∃o,ep=.pointer o)->Calls prog 152 #[.pointer (some ⟨d,1,none⟩),k,ep] v fun e j=>e=.returned (.tuple #[])/\AI v d #[.pointer (some ⟨C,0,none⟩),k,ep,.nilIface,kv,ov] j):=fun v ep h1 he=>cU v d _ _ _ _ _ _ k ep (h1.trans D) a.iface he;have HB:Hid (∀Z,Below w.heap.size w (w.alloc Z).drew):=fun Z=>b_.drew;have HK:Hid (∀Z,(w.alloc Z).drew.heap[d]?=w.heap[d]?):=fun Z=>(HB Z).block d aa;have HN:Hid (∀cs T,(w.alloc (.cells cs T)).drew.heap[w.heap.size]?=some (.cells cs T (0,0))):=fun cs T=>heap_alloc_new w _;obtain⟨oe,rfl⟩:=r.ptr;obtain⟨T,y,rfl⟩:=a.iface;clear h D H z E a r n I P J p;go_enter func299,ntmps299
  go_upto_region 4 with(go_at_call 195;refine(HC _ _ rfl).mono ?_;rintro e j ⟨rfl,rfl⟩)
  go_cut [] (fun wx=>Hid (AS M B s tb mb C O d (jC W S q args) (.returned .nilIface) wx))
  case first =>
   have HY:Hid (∀t,AI (w.alloc (.cells #[.slice Q q.1.ns.length R,.slice K us.length m,.pointer oe] M8)).drew d #[.pointer (some ⟨C,0,none⟩),.iface T y,.pointer (some ⟨w.heap.size,0,none⟩),.nilIface,kv,ov] t->AS M B s tb mb C O d (jC W S q args) (.returned .nilIface) t):=fun t hc=>HX.out w.heap.size _ t (HB _) n_ (HN _ _) hc;have HZ:Hid (Calls prog 152 #[.pointer (some ⟨d,1,none⟩),.iface T y,.pointer (some ⟨w.heap.size,0,none⟩)] (w.alloc (.cells #[.slice Q q.1.ns.length R,.slice K us.length m,.pointer oe] M8)).drew fun e j=>e=.returned (.tuple #[])/\Hid (AS M B s tb mb C O d (jC W S q args) (.returned .nilIface) j)):=show Calls _ _ _ _ _ from(HG _ _ (HK _) ⟨_,rfl⟩).mono (fun e j h=>⟨h.1,HY j h.2⟩);clear HX HG HB HK HN HY HC;go_region_with (go_at_call 152;refine Calls.mono HZ ?_;rintro e w3 ⟨rfl,HQ⟩)
   all_goals
    go_wp2_with fail
    go_meet
    exact HQ
  case rest =>have HQ:=hcut;go_wp2_with fail;go_ret;exact HQ
 ·have HC:Hid (∀j U,U=m->Calls prog 195 #[.string ⟨#[97,32,112,114,111,99,101,100,117,114,101]⟩,.int .i64 (q.1.ns.length:Int),.slice K us.length U] j fun e t=>j=t/\∃es,e=.returned (aY es 10)):=fun j U V=>by
   subst V;refine(I j).mono (fun e t ⟨h1,F⟩=>⟨h1,?_⟩);rcases F with⟨F,_⟩ | ⟨_,F⟩
   ·exact absurd F p
   ·exact F
  have HX:Hid (∀es,AS M B s tb mb C O d (jC W S q args) (.returned (aY es 10)) w):=fun es=>by unfold jC;rw [if_pos (fun Y=>p (by rw [J];exact Y))];exact h.no r_ (by decide)
  clear h D H z E a r n I P J p;go_enter func299,ntmps299;go_wp2_with (go_at_call 195;refine(HC _ _ rfl).mono ?_;rintro e j ⟨rfl,es,rfl⟩;unfold aY);go_ret;exact HX.out es
end
end Go.Proofs.YtieooapcfpimlaaGreatDoor
