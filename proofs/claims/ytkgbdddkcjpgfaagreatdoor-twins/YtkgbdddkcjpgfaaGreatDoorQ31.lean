import Derived.Test.YtkgbdddkcjpgfaaGreatDoorQ26
import Derived.Test.YtkgbdddkcjpgfaaGreatDoorQ30
namespace Go.Proofs.YtkgbdddkcjpgfaaGreatDoor
set_option maxHeartbeats 1000000
set_option maxRecDepth 100000
open Go.Proofs.Tryz
open Pl (PV PW PS AE arity AO A2 B0 AH BH A4 BA BR BW IA CS C8 DN DY DW A7)
section
open Go.RowKit Go.Lib Go.Maps
variable {M:Nat->Prop} {w0 w:World} {tb mb sb gb rb:Nat} {fv ev gv kv ov av:Value} {us:List Value}
theorem Ap.two{s:Sg}{W:PW}{S:PS}{args:List PV}(h:Ap M w0 w s tb mb sb gb rb W S fv ev gv kv ov av us args)(j:args.length=2):∃u v a b g c e,args=[a,b]/\av=.slice (some ⟨g,c,none⟩) 2 e/\w.cell? ⟨g,c,none⟩=some u/\w.cell? ⟨g,c+1,none⟩=some v/\RV s u a/\RV s v b:=by
 have i:=h.CH.1
 obtain⟨u,v,rfl⟩:∃u v,us=[u,v]:=by
  match us,i.trans j with
  | [u,v],_=>exact⟨u,v,rfl⟩
 obtain⟨a,b,rfl⟩:∃a b,args=[a,b]:=by
  match args,j with
  | [a,b],_=>exact⟨a,b,rfl⟩
 obtain⟨m,e,rfl,_,f⟩:=h.args;obtain⟨g,c,l,rfl,_,k,d⟩:=f (by simp);exact⟨u,v,a,b,g,c,e,rfl,rfl,(aA k c).trans (by simpa using d 0 u rfl),(aA k (c+1)).trans (d 1 v rfl),h.CH.2 0 u a rfl rfl,h.CH.2 1 v b rfl rfl⟩
theorem Ap.one{s:Sg}{W:PW}{S:PS}{args:List PV}(h:Ap M w0 w s tb mb sb gb rb W S fv ev gv kv ov av us args)(i:args.length=1):∃u a g b c,args=[a]/\av=.slice (some ⟨g,b,none⟩) 1 c/\w.cell? ⟨g,b,none⟩=some u/\RV s u a:=by have f:=h.CH.1;obtain⟨u,rfl⟩:∃u,us=[u]:=List.length_eq_one_iff.1 (f.trans i);obtain⟨a,rfl⟩:∃a,args=[a]:=List.length_eq_one_iff.1 i;obtain⟨l,c,rfl,_,d⟩:=h.args;obtain⟨g,b,j,rfl,_,k,e⟩:=d (by simp);exact⟨u,a,g,b,c,rfl,rfl,(aA k b).trans (by simpa using e 0 u rfl),h.CH.2 0 u a rfl rfl⟩
theorem Ap.JQ{s:Sg}{W:PW}{S:PS}{args:List PV}(h:Ap M w0 w s tb mb sb gb rb W S fv ev gv kv ov av us args):EH w:=(h.wd.mv (Mv.below h.below)).JQ
theorem Ap.prs{s:Sg}{W:PW}{S:PS}{args:List PV}(h:Ap M w0 w s tb mb sb gb rb W S fv ev gv kv ov av us args):BD M w s W.pairs:=(h.wd.mv (Mv.below h.below)).CY.pairs
theorem fM(W:PW)(S:PS)(nm:AE)(a b:PV)(h:arity nm=2):AH W S (.AZ nm) [a,b]=A2 W S nm a b:=by show(if([a,b]:List PV).length≠arity nm then _ else _)=_;rw [if_neg (fun c=>c (by rw [h];rfl))]
theorem jX(W:PW)(S:PS)(nm:AE)(a:PV)(h:arity nm=1):AH W S (.AZ nm) [a]=B0 W S nm a:=by show(if([a]:List PV).length≠arity nm then _ else _)=_;rw [if_neg (fun b=>b (by rw [h];rfl))]
theorem p_ap0(M:Nat->Prop)(f w:World)(s:Sg)(tb mb i j d:Nat)(W:PW)(S:PS)(l ev m n r o:Value)(us:List Value)(args:List PV)(h:Ap M f w s tb mb i j d W S l ev m n r o us args)(p:∀v∈args,BL W v)(t:args.length=arity BH) :Calls prog 392 #[.pointer (some ⟨d,0,none⟩),.iface 246 (.int .i64 ((0:Nat):Int)),o] w fun e q=>AS M f s tb mb i j d (AH W S (.AZ BH) args) e q:=by obtain⟨u,v,a,b,g,k,c,rfl,rfl,x,y,z,A⟩:=h.two t;rw [fM W S BH a b (by decide)];exact aU M f w s tb mb i j d l ev m n 0 _ 2 c _ ((zE w s W g k c u v _ a b h.JQ h.wd.NH x y z A (p a (by simp)) (p b (by simp))).mono (fun e q ⟨B,C⟩=>h.pure B C))
theorem p_ap1(M:Nat->Prop)(f w:World)(s:Sg)(tb mb i j d:Nat)(W:PW)(S:PS)(l ev m n r o:Value)(us:List Value)(args:List PV)(h:Ap M f w s tb mb i j d W S l ev m n r o us args)(p:∀v∈args,BL W v)(t:args.length=arity A4) :Calls prog 392 #[.pointer (some ⟨d,0,none⟩),.iface 246 (.int .i64 ((1:Nat):Int)),o] w fun e q=>AS M f s tb mb i j d (AH W S (.AZ A4) args) e q:=by obtain⟨u,v,a,b,g,k,c,rfl,rfl,x,y,z,A⟩:=h.two t;rw [fM W S A4 a b (by decide)];exact aU M f w s tb mb i j d l ev m n 1 _ 2 c _ ((zD w s W g k c u v _ a b h.JQ h.wd.NH x y z A (p a (by simp)) (p b (by simp))).mono (fun e q ⟨B,C⟩=>h.pure B C))
theorem p_ap2(M:Nat->Prop)(f w:World)(s:Sg)(tb mb i j d:Nat)(W:PW)(S:PS)(l ev m n r o:Value)(us:List Value)(args:List PV)(h:Ap M f w s tb mb i j d W S l ev m n r o us args)(p:∀v∈args,BL W v)(t:args.length=arity BA) :Calls prog 392 #[.pointer (some ⟨d,0,none⟩),.iface 246 (.int .i64 ((2:Nat):Int)),o] w fun e q=>AS M f s tb mb i j d (AH W S (.AZ BA) args) e q:=by obtain⟨u,v,a,b,g,k,c,rfl,rfl,x,y,z,A⟩:=h.two t;rw [fM W S BA a b (by decide)];exact aU M f w s tb mb i j d l ev m n 2 _ 2 c _ ((zC w s W g k c u v _ a b h.JQ h.wd.NH x y z A (p a (by simp)) (p b (by simp))).mono (fun e q ⟨B,C⟩=>h.pure B C))
theorem p_ap3(M:Nat->Prop)(f w:World)(s:Sg)(tb mb i j d:Nat)(W:PW)(S:PS)(l ev m n r o:Value)(us:List Value)(args:List PV)(h:Ap M f w s tb mb i j d W S l ev m n r o us args)(p:∀v∈args,BL W v)(t:args.length=arity BW) :Calls prog 392 #[.pointer (some ⟨d,0,none⟩),.iface 246 (.int .i64 ((3:Nat):Int)),o] w fun e q=>AS M f s tb mb i j d (AH W S (.AZ BW) args) e q:=by obtain⟨u,v,a,b,g,k,c,rfl,rfl,x,y,z,A⟩:=h.two t;rw [fM W S BW a b (by decide)];exact aU M f w s tb mb i j d l ev m n 3 _ 2 c _ ((zB w s W g k c u v _ a b h.JQ h.wd.NH x y z A (p a (by simp)) (p b (by simp))).mono (fun e q ⟨B,C⟩=>h.pure B C))
theorem p_ap4(M:Nat->Prop)(f w:World)(s:Sg)(tb mb i j d:Nat)(W:PW)(S:PS)(l ev m n r o:Value)(us:List Value)(args:List PV)(h:Ap M f w s tb mb i j d W S l ev m n r o us args)(p:∀v∈args,BL W v)(t:args.length=arity IA) :Calls prog 392 #[.pointer (some ⟨d,0,none⟩),.iface 246 (.int .i64 ((4:Nat):Int)),o] w fun e q=>AS M f s tb mb i j d (AH W S (.AZ IA) args) e q:=by obtain⟨u,v,a,b,g,k,c,rfl,rfl,x,y,z,A⟩:=h.two t;rw [fM W S IA a b (by decide)];exact aU M f w s tb mb i j d l ev m n 4 _ 2 c _ ((zA w s W g k c u v _ a b h.JQ h.wd.NH x y z A (p a (by simp)) (p b (by simp))).mono (fun e q ⟨B,C⟩=>h.pure B C))
theorem p_ap6(M:Nat->Prop)(d w:World)(s:Sg)(tb mb f i c:Nat)(W:PW)(S:PS)(k ev l m p n:Value)(us:List Value)(args:List PV)(h:Ap M d w s tb mb f i c W S k ev l m p n us args)(q:args.length=arity DN) :Calls prog 392 #[.pointer (some ⟨c,0,none⟩),.iface 246 (.int .i64 ((6:Nat):Int)),n] w fun e o=>AS M d s tb mb f i c (AH W S (.AZ DN) args) e o:=by obtain⟨u,a,g,j,b,rfl,rfl,r,t⟩:=h.one q;rw [jX W S DN a (by decide)];exact aU M d w s tb mb f i c k ev l m 6 _ 1 b _ ((y8 M w s W g j b u _ a h.JQ h.prs h.wd.NH r t).mono (fun e o ⟨v,x⟩=>h.pure v x))
theorem p_ap7(M:Nat->Prop)(d w:World)(s:Sg)(tb mb f i c:Nat)(W:PW)(S:PS)(k ev l m p n:Value)(us:List Value)(args:List PV)(h:Ap M d w s tb mb f i c W S k ev l m p n us args)(q:args.length=arity C8) :Calls prog 392 #[.pointer (some ⟨c,0,none⟩),.iface 246 (.int .i64 ((7:Nat):Int)),n] w fun e o=>AS M d s tb mb f i c (AH W S (.AZ C8) args) e o:=by obtain⟨u,a,g,j,b,rfl,rfl,r,t⟩:=h.one q;rw [jX W S C8 a (by decide)];exact aU M d w s tb mb f i c k ev l m 7 _ 1 b _ ((p_apply7 M w s W g j b u _ a h.JQ h.prs h.wd.NH r t).mono (fun e o ⟨v,x⟩=>h.pure v x))
theorem p_ap8(M:Nat->Prop)(d w:World)(s:Sg)(tb mb f i c:Nat)(W:PW)(S:PS)(k ev l m p n:Value)(us:List Value)(args:List PV)(h:Ap M d w s tb mb f i c W S k ev l m p n us args)(q:args.length=arity DY) :Calls prog 392 #[.pointer (some ⟨c,0,none⟩),.iface 246 (.int .i64 ((8:Nat):Int)),n] w fun e o=>AS M d s tb mb f i c (AH W S (.AZ DY) args) e o:=by obtain⟨u,a,g,j,b,rfl,rfl,r,t⟩:=h.one q;rw [jX W S DY a (by decide)];exact aU M d w s tb mb f i c k ev l m 8 _ 1 b _ ((p_apply8 M w s W g j b u _ a h.JQ h.prs h.wd.NH r t).mono (fun e o ⟨v,x⟩=>h.pure v x))
theorem p_ap9(M:Nat->Prop)(d w:World)(s:Sg)(tb mb f i c:Nat)(W:PW)(S:PS)(k ev l m p n:Value)(us:List Value)(args:List PV)(h:Ap M d w s tb mb f i c W S k ev l m p n us args)(q:args.length=arity DW) :Calls prog 392 #[.pointer (some ⟨c,0,none⟩),.iface 246 (.int .i64 ((9:Nat):Int)),n] w fun e o=>AS M d s tb mb f i c (AH W S (.AZ DW) args) e o:=by obtain⟨u,a,g,j,b,rfl,rfl,r,t⟩:=h.one q;rw [jX W S DW a (by decide)];exact aU M d w s tb mb f i c k ev l m 9 _ 1 b _ ((yZ M w s W g j b u _ a h.JQ h.prs h.wd.NH r t).mono (fun e o ⟨v,x⟩=>h.pure v x))
theorem p_ap10(M:Nat->Prop)(f w:World)(s:Sg)(tb mb i j d:Nat)(W:PW)(S:PS)(l ev m n q o:Value)(us:List Value)(args:List PV)(h:Ap M f w s tb mb i j d W S l ev m n q o us args)(r:args.length=arity BR) :Calls prog 392 #[.pointer (some ⟨d,0,none⟩),.iface 246 (.int .i64 ((10:Nat):Int)),o] w fun e p=>AS M f s tb mb i j d (AH W S (.AZ BR) args) e p:=by obtain⟨u,v,a,b,g,k,c,rfl,rfl,t,x,y,z⟩:=h.two r;rw [fM W S BR a b (by decide)];exact aU M f w s tb mb i j d l ev m n 10 _ 2 c _ ((vE w s W g k c _ u v _ a b h.JQ (h.wd.TJ h.below) t x y z).mono (fun e p ⟨A,B⟩=>h.pure A B))
theorem p_ap5(M:Nat->Prop)(f w:World)(s:Sg)(tb mb i j d:Nat)(W:PW)(S:PS)(l ev m n t o:Value)(us:List Value)(args:List PV)(h:Ap M f w s tb mb i j d W S l ev m n t o us args)(x:args.length=arity CS) :Calls prog 392 #[.pointer (some ⟨d,0,none⟩),.iface 246 (.int .i64 ((5:Nat):Int)),o] w fun e p=>AS M f s tb mb i j d (AH W S (.AZ CS) args) e p:=by obtain⟨u,v,a,b,g,k,c,rfl,rfl,y,z,q,r⟩:=h.two x;rw [fM W S CS a b (by decide)];exact aU M f w s tb mb i j d l ev m n 5 _ 2 c _ ((y9 w g k c u v _ h.JQ y z q.iface r.iface).mono (fun e p ⟨D,A,B,C⟩=>⟨_,_,C,by subst B;exact h.cons A q r⟩))
theorem p_ap11(M:Nat->Prop)(d w:World)(s:Sg)(tb mb f i b:Nat)(W:PW)(q:OU W)(S:PS)(k ev l m n o:Value)(us:List Value)(args:List PV)(h:Ap M d w s tb mb f i b W S k ev l m n o us args)(r:∀v∈args,BL W v)(t:W.out.length<=1000)(x:args.length=arity A7) :Calls prog 392 #[.pointer (some ⟨b,0,none⟩),.iface 246 (.int .i64 ((11:Nat):Int)),o] w fun e p=>AS M d s tb mb f i b (AH W S (.AZ A7) args) e p:=by obtain⟨u,a,g,j,c,rfl,rfl,y,z⟩:=h.one x;rw [jX W S A7 a (by decide)];exact aU M d w s tb mb f i b k ev l m 11 _ 1 c _ ((vD w s W q b 5 _ BT n W.out g j c u a h.JQ (h.wd.TJ h.below) z (r a (by simp)) h.MO rfl (gA h.out.1 (fun g A=>h.below.block g (h.out.1.lt g A).2)) (by decide) t y).mono (fun e p B=>h.disp B))
theorem zG(M:Nat->Prop)(c w:World)(s:Sg)(tb mb d f b:Nat)(W:PW)(x:OU W)(S:PS)(g ev i j o l:Value)(us:List Value)(args:List PV)(h:Ap M c w s tb mb d f b W S g ev i j o l us args)(q:∀v∈args,BL W v)(y:W.out.length<=1000)(k:Nat)(nm:AE)(a:AO[k]?=some nm)(p:k<12) :Calls prog 392 #[.pointer (some ⟨b,0,none⟩),.iface 246 (.int .i64 (k:Int)),l] w fun e t=>AS M c s tb mb d f b (AH W S (.AZ nm) args) e t:=by
 by_cases m:args.length=arity nm
 ·match k,p,a with
  | 0,_,a=>obtain rfl:=i_ a;exact p_ap0 M c w s tb mb d f b W S g ev i j o l us args h q m
  | 1,_,a=>obtain rfl:=i_ a;exact p_ap1 M c w s tb mb d f b W S g ev i j o l us args h q m
  | 2,_,a=>obtain rfl:=i_ a;exact p_ap2 M c w s tb mb d f b W S g ev i j o l us args h q m
  | 3,_,a=>obtain rfl:=i_ a;exact p_ap3 M c w s tb mb d f b W S g ev i j o l us args h q m
  | 4,_,a=>obtain rfl:=i_ a;exact p_ap4 M c w s tb mb d f b W S g ev i j o l us args h q m
  | 5,_,a=>obtain rfl:=i_ a;exact p_ap5 M c w s tb mb d f b W S g ev i j o l us args h m
  | 6,_,a=>obtain rfl:=i_ a;exact p_ap6 M c w s tb mb d f b W S g ev i j o l us args h m
  | 7,_,a=>obtain rfl:=i_ a;exact p_ap7 M c w s tb mb d f b W S g ev i j o l us args h m
  | 8,_,a=>obtain rfl:=i_ a;exact p_ap8 M c w s tb mb d f b W S g ev i j o l us args h m
  | 9,_,a=>obtain rfl:=i_ a;exact p_ap9 M c w s tb mb d f b W S g ev i j o l us args h m
  | 10,_,a=>obtain rfl:=i_ a;exact p_ap10 M c w s tb mb d f b W S g ev i j o l us args h m
  | 11,_,a=>obtain rfl:=i_ a;exact p_ap11 M c w s tb mb d f b W x S g ev i j o l us args h q y m
  | n+12,p,_=>omega
 ·obtain⟨u,r,rfl,_,_⟩:=h.args;have z:AH W S (.AZ nm) args=⟨10,W,S⟩:=by show(if args.length≠arity nm then _ else _)=_;rw [if_pos m]
  rw [z];exact aU M c w s tb mb d f b g ev i j k u us.length r _ ((vC k nm w u us.length r _ h.JQ a p (by rw [h.CH.1];exact m)).mono (fun e t ⟨A,B,C⟩=>⟨_,_,C,.inr ⟨B,10,rfl,rfl,h.no A (by decide)⟩⟩))
end
open Pl (CW SR)
section
open Go.RowKit Go.Maps Go.Lib
variable {M O:Nat->Prop} {w w':World} {us:List Value} {kv av:Value} {k:Nat}
theorem FW.TJ{L:Lo}{F:Fg}{N:Nat}{W:PW}(h:FW L M O w F N W):QB w F.s W.pairs w.heap.size:=by
 refine⟨fun i k p b d=>?_,h.CY.pairs.nodup,h.CY.pairs.len,fun i k b e=>?_,fun i k b=>?_,h.gs.B3,h.gs.size,h.NH,h.pqi,h.AG.nodup⟩
 ·obtain⟨_,x,y,a,f⟩:=h.CY.pairs.at_ i k p b d;exact⟨aB a,x,y,a,f⟩
 ·have c:=(s_ b).1;obtain⟨u,g,_,_,a,_⟩:=h.pqa i k _ b (g_ (by rw [<- h.pql];exact c)) e;exact⟨aB a.2,_,by rw [h.tq];exact a.2⟩
 ·obtain⟨q,_,j,a,_⟩:=h.AG.get b;exact⟨aB a.2,_,by rw [h.tc];exact a.2⟩
def ArgR(w:World)(v:Value)(us:List Value):Prop:=∃ao cap,v=.slice ao us.length cap/\us.length<=cap/\∀(i:Nat)(u:Value),us[i]?=some u->∃g off,ao=some ⟨g,off,none⟩/\w.cell? ⟨g,off+i,none⟩=some u
theorem ArgsAt.r{s:Sg}{v:Value}(h:ArgsAt M O w s v us):ArgR w v us:=by
 obtain⟨e,a,f,j,c⟩:=h;refine⟨e,a,f,j,fun i u d=>?_⟩;rcases c with c | ⟨g,b,k,rfl,_,_,l,m,_⟩
 ·have:=(s_ d).1;omega
 ·exact⟨g,b,rfl,(aA l _).trans (m i u d)⟩
structure Pm(c:Cx)(M O:Nat->Prop)(w:World)(F:Fg)(kv:Value)(K:List CW)(k:Nat)(W:PW)(S S0:PS)(t:AE)(av:Value)(us:List Value)(args:List PV):Prop where
 st:Stt c M O w F kv (k+1) (k+1) W
 at_:c.At k W S
 ne:S.ended=false
 step:Pl.step W S=AH W S0 (.AZ t) args
 fr:S0.AB=K
 row:ArgR w av us
 CH:BY (RV F.s) us args
 wf:∀v∈args,BL W v
theorem Pm.blw{c:Cx}{F:Fg}{K:List CW}{W:PW}{S d:PS}{t:AE}{args:List PV}(h:Pm c M O w F kv K k W S d t av us args)(a:Below w.heap.size w w'):Stp M w M w'/\(∀b,O b->w'.heap[b]?=w.heap[b]?)/\Stt c M O w' F kv (k+1) (k+1) W:=⟨Stp.AA a,fun b e=>a.block b (h.st.fw.olt e),h.st.below a⟩
theorem Pm.no{c:Cx}{F:Fg}{K:List CW}{W:PW}{S a:PS}{t:AE}{args:List PV}(h:Pm c M O w F kv K k W S a t av us args)(e:Below w.heap.size w w'){x:Nat}(f:x≠0)(b:AH W a (.AZ t) args=⟨x,W,a⟩)(d:ByteArray):Post c M O w F kv K (k+1) 1 (aGG .nilIface (aY d (x:Int))) w':=by obtain⟨g,i,j⟩:=h.blw e;exact Post.faultT g i (Fg.Le.refl _) h.at_ h.ne d f (by rw [h.step,b]) (by rw [h.step,b]) j n_
theorem Pm.pure{c:Cx}{F:Fg}{K:List CW}{W:PW}{S a:PS}{t:AE}{args:List PV}(h:Pm c M O w F kv K k W S a t av us args)(d:Below w.heap.size w w'){f:PS->SR}{e:Ending}(b:GZ W F.s f e)(g:AH W a (.AZ t) args=f a):Post c M O w F kv K (k+1) 1 e w':=by
 rcases b with⟨v,q,rfl,i,b⟩ | ⟨j,x,l,rfl,b⟩
 ·obtain⟨m,n,o⟩:=h.blw d;exact Post.giveT m n (Fg.Le.refl _) h.at_ h.ne (h.step.trans (g.trans (b a))) (fun _=>rfl) rfl h.fr i o n_
 ·exact h.no d l (g.trans (b a)) j
theorem FW.DD{L:Lo}{F:Fg}{N:Nat}{W:PW}(h:FW L M O w F N W){x y:Value}{p:PV×PV}(c:RV F.s x p.1)(d:RV F.s y p.2):FW L M O (w.alloc (.cells #[x,y] E0)) {F with s:=F.s.DD w.heap.size,pr:=F.pr++[]} N {W with pairs:=W.pairs++[p]}/\RV (F.s.DD w.heap.size) (.iface 367 (.pointer (some ⟨w.heap.size,0,none⟩))) (.pair W.pairs.length):=by have e:Below w.heap.size w (w.alloc (.cells #[x,y] E0)):=b_;have a:=h.below e;have l:Fg.Le F {F with s:=F.s.DD w.heap.size,pr:=F.pr++[]}:=Fg.le_s (F.s.EK w.heap.size);obtain⟨f,g⟩:=h.CY.pairs.push h.CY.mlt c d;exact⟨a.re l rfl rfl rfl rfl ⟨a.CY.B3,f,a.CY.FV,a.CY.JJ,a.CY.mlt⟩ rfl (fun _ _ x=>x) h.pql h.pqi (fun i b q j k m=>(a.pqa i b q j k m).go (Stp.refl _ _) l) (a.AG.mono (fun b x c=>c.go (Stp.refl _ _) l)) (a.places.le l.s rfl) a.oth (by simp [h.pr]),g⟩
theorem Pm.cons{c:Cx}{wa:World}{F:Fg}{K:List CW}{W:PW}{S e:PS}{t:AE}{args:List PV}(h:Pm c M O w F kv K k W S e t av us args)(i:Below w.heap.size w wa){x y:Value}{a b:PV}(j:RV F.s x a)(l:RV F.s y b)(m:AH W e (.AZ t) args=⟨0,{W with pairs:=W.pairs++[(a,b)]},e.A1 (.pair W.pairs.length)⟩):Post c M O w F kv K (k+1) 1 (aGG (.iface 367 (.pointer (some ⟨wa.heap.size,0,none⟩))) .nilIface) (wa.alloc (.cells #[x,y] E0)):=by obtain⟨n,o,f⟩:=h.blw i;have d:Below wa.heap.size wa (wa.alloc (.cells #[x,y] E0)):=b_;obtain⟨q,r⟩:=f.fw.DD (p:=(a,b)) j l;exact Post.giveT (n.trans (Stp.AA d)) (fun b g=>(d.block b (f.fw.olt g)).trans (o b g)) (Fg.le_s (F.s.EK _)) h.at_ h.ne (h.step.trans m) (fun _=>rfl) rfl h.fr r (f.fwd d q rfl) n_
theorem tBy:JM≠B9/\JM≠TGlb/\JM≠TCod/\JM≠TInt/\JM≠TFMc/\JM≠TFrm:=by decide
theorem Pm.disp{c:Cx}{F:Fg}{K:List CW}{W:PW}{S r:PS}{t:AE}{args:List PV}(h:Pm c M O w F kv K k W S r t av us args)(hz:k<c.z){lv av' gv ov:Value}(z:Mch c M w kv lv av' gv (k+1) ov)(A:LfR M w lv [])(J:DS M w ov W.out){a:PV}{e:Ending}(R:OR W w c.rb 6 ov W.out a e w')(L:AH W r (.AZ t) args=B0 W r A7 a):Post c M O w F kv K (k+1) 1 e w':=by
 have B:B0 W r A7 a=if W.out.length+(Pl.cut (Pl.text W.pairs a)).length<=1000 then⟨0,{W with out:=W.out++Pl.cut (Pl.text W.pairs a)},r.A1 .nothing⟩ else⟨11,W,r⟩:=if_pos rfl;rcases R with⟨N,i,T,rfl⟩ | ⟨N,rfl,P,i,s,C,d,j,u,rfl⟩
 ·exact h.no i (x:=11) (by decide) (by rw [L,B,if_neg (by omega)]) T
 ·rw [if_pos N] at B;have l:=aGK i J.1;have n:=z.below i;obtain⟨U,V⟩:=Mf.own (M:=M) l J.2 j d u tBy.1 tBy.2.1 tBy.2.2.1 tBy.2.2.2.1;have D:some c.rb≠ov.ownBlock:=fun e=>by obtain⟨o,f⟩:=aF9 l e.symm;exact aGF n.blk f tMc.2.2.2.2.2 rfl
  have p:C.heap[c.rb]?=some (.cells #[kv,lv,av',gv,.int .i64 ((k+1:Nat):Int),.int .i64 (c.z:Int),ov] TFMc (0,0)):=(j.block _ (aB n.blk) D).trans n.blk;have E:Mch c (Mn M (fun k=>s.ownBlock=some k/\P.heap.size<=k)) C kv lv av' gv (k+1) ov:=⟨p,.inl z.m⟩
  have G:=(Mf.below i).trans (U.trans (E.mf 6 s))
  have H:∀g,lv.ownBlock=some g->(C.setCell ⟨c.rb,6,none⟩ s).heap[g]?=w.heap[g]? := fun g v=>by
   obtain⟨o,f⟩:=aF9 A.1 v;have y:=(i.block g (aB f)).trans f;have X:g≠c.rb:=aGF f z.blk tMc.2.2.2.2.1.symm;have Y:some g≠ov.ownBlock:=fun e=>by obtain⟨Q,I⟩:=aF9 l e.symm;exact aGF y I tBy.2.2.2.2.2.symm rfl
   rw [Below.heap_setCell _ _ _ _ (fun x=>X (by simpa using x)),j.block g (aB y) Y,i.block g (aB f)]
  refine Post.giveT (M':=Mn M (fun k=>s.ownBlock=some k/\P.heap.size<=k)) G.AQ (fun b Z=>?_) (Fg.Le.refl _) h.at_ h.ne (h.step.trans (L.trans B)) (fun q=>by omega) rfl h.fr .nothing (m:=k+1) ⟨(h.st.fw.mf G).outW _,⟨lv,av',gv,s,⟨aD p 6 s,.inl z.m⟩,⟨aGD A.1 H,fun g v=>.inl (A.2 g v)⟩,⟨aGD d (fun g v=>Below.heap_setCell _ _ _ _ (fun x=>?_)),V⟩⟩,h.st.bd⟩ n_
  ·obtain⟨hm,⟨o,f⟩,_⟩:=h.st.fw.oth b Z;exact(G.same hm f (.inl rfl)).2.trans f.symm
  ·obtain⟨o,f⟩:=aF9 d v;exact aGF f p tBy.2.2.2.2.1 (by simpa using x)
theorem Pm.two{c:Cx}{F:Fg}{K:List CW}{W:PW}{S n:PS}{t:AE}{args:List PV}(h:Pm c M O w F kv K k W S n t av us args)(l:args.length=2):∃u v a b g d i,args=[a,b]/\av=.slice (some ⟨g,d,none⟩) 2 i/\w.cell? ⟨g,d,none⟩=some u/\w.cell? ⟨g,d+1,none⟩=some v/\RV F.s u a/\RV F.s v b:=by
 have j:=h.CH.1
 obtain⟨u,v,rfl⟩:∃u v,us=[u,v]:=by
  match us,j.trans l with
  | [u,v],_=>exact⟨u,v,rfl⟩
 obtain⟨a,b,rfl⟩:∃a b,args=[a,b]:=by
  match args,l with
  | [a,b],_=>exact⟨a,b,rfl⟩
 obtain⟨q,i,rfl,_,f⟩:=h.row;obtain⟨g,d,rfl,o⟩:=f 0 u rfl;obtain⟨r,m,e,p⟩:=f 1 v rfl;simp only [o_,Addr.mk.injEq,and_true] at e;obtain⟨rfl,rfl⟩:=e;exact⟨u,v,a,b,g,d,i,rfl,rfl,o,p,h.CH.2 0 u a rfl rfl,h.CH.2 1 v b rfl rfl⟩
theorem Pm.one{c:Cx}{F:Fg}{K:List CW}{W:PW}{S j:PS}{t:AE}{args:List PV}(h:Pm c M O w F kv K k W S j t av us args)(i:args.length=1):∃u a g b d,args=[a]/\av=.slice (some ⟨g,b,none⟩) 1 d/\w.cell? ⟨g,b,none⟩=some u/\RV F.s u a:=by have f:=h.CH.1;obtain⟨u,rfl⟩:∃u,us=[u]:=List.length_eq_one_iff.1 (f.trans i);obtain⟨a,rfl⟩:∃a,args=[a]:=List.length_eq_one_iff.1 i;obtain⟨m,d,rfl,_,e⟩:=h.row;obtain⟨g,b,rfl,l⟩:=e 0 u rfl;exact⟨u,a,g,b,d,rfl,rfl,l,h.CH.2 0 u a rfl rfl⟩
theorem f_ap0{c:Cx}{F:Fg}{K:List CW}{W:PW}{S i:PS}{args:List PV}(h:Pm c M O w F kv K k W S i BH av us args)(j:args.length=arity BH) :Calls prog 314 #[.int .i64 ((0:Nat):Int),av,.pointer (some ⟨c.rb,6,none⟩)] w (Post c M O w F kv K (k+1) 1):=by obtain⟨u,v,a,b,g,d,f,rfl,rfl,l,m,n,o⟩:=h.two j;exact(zE w F.s W g d f u v _ a b h.st.fw.JQ h.st.fw.NH l m n o (h.wf a (by simp)) (h.wf b (by simp))).mono (fun e r ⟨p,q⟩=>h.pure p q (fM W i BH a b (by decide)))
theorem f_ap1{c:Cx}{F:Fg}{K:List CW}{W:PW}{S i:PS}{args:List PV}(h:Pm c M O w F kv K k W S i A4 av us args)(j:args.length=arity A4) :Calls prog 314 #[.int .i64 ((1:Nat):Int),av,.pointer (some ⟨c.rb,6,none⟩)] w (Post c M O w F kv K (k+1) 1):=by obtain⟨u,v,a,b,g,d,f,rfl,rfl,l,m,n,o⟩:=h.two j;exact(zD w F.s W g d f u v _ a b h.st.fw.JQ h.st.fw.NH l m n o (h.wf a (by simp)) (h.wf b (by simp))).mono (fun e r ⟨p,q⟩=>h.pure p q (fM W i A4 a b (by decide)))
theorem f_ap2{c:Cx}{F:Fg}{K:List CW}{W:PW}{S i:PS}{args:List PV}(h:Pm c M O w F kv K k W S i BA av us args)(j:args.length=arity BA) :Calls prog 314 #[.int .i64 ((2:Nat):Int),av,.pointer (some ⟨c.rb,6,none⟩)] w (Post c M O w F kv K (k+1) 1):=by obtain⟨u,v,a,b,g,d,f,rfl,rfl,l,m,n,o⟩:=h.two j;exact(zC w F.s W g d f u v _ a b h.st.fw.JQ h.st.fw.NH l m n o (h.wf a (by simp)) (h.wf b (by simp))).mono (fun e r ⟨p,q⟩=>h.pure p q (fM W i BA a b (by decide)))
theorem f_ap3{c:Cx}{F:Fg}{K:List CW}{W:PW}{S i:PS}{args:List PV}(h:Pm c M O w F kv K k W S i BW av us args)(j:args.length=arity BW) :Calls prog 314 #[.int .i64 ((3:Nat):Int),av,.pointer (some ⟨c.rb,6,none⟩)] w (Post c M O w F kv K (k+1) 1):=by obtain⟨u,v,a,b,g,d,f,rfl,rfl,l,m,n,o⟩:=h.two j;exact(zB w F.s W g d f u v _ a b h.st.fw.JQ h.st.fw.NH l m n o (h.wf a (by simp)) (h.wf b (by simp))).mono (fun e r ⟨p,q⟩=>h.pure p q (fM W i BW a b (by decide)))
theorem f_ap4{c:Cx}{F:Fg}{K:List CW}{W:PW}{S i:PS}{args:List PV}(h:Pm c M O w F kv K k W S i IA av us args)(j:args.length=arity IA) :Calls prog 314 #[.int .i64 ((4:Nat):Int),av,.pointer (some ⟨c.rb,6,none⟩)] w (Post c M O w F kv K (k+1) 1):=by obtain⟨u,v,a,b,g,d,f,rfl,rfl,l,m,n,o⟩:=h.two j;exact(zA w F.s W g d f u v _ a b h.st.fw.JQ h.st.fw.NH l m n o (h.wf a (by simp)) (h.wf b (by simp))).mono (fun e r ⟨p,q⟩=>h.pure p q (fM W i IA a b (by decide)))
theorem f_ap6{c:Cx}{F:Fg}{K:List CW}{W:PW}{S f:PS}{args:List PV}(h:Pm c M O w F kv K k W S f DN av us args)(i:args.length=arity DN) :Calls prog 314 #[.int .i64 ((6:Nat):Int),av,.pointer (some ⟨c.rb,6,none⟩)] w (Post c M O w F kv K (k+1) 1):=by obtain⟨u,a,g,b,d,rfl,rfl,j,l⟩:=h.one i;exact(y8 M w F.s W g b d u _ a h.st.fw.JQ h.st.fw.CY.pairs h.st.fw.NH j l).mono (fun e o ⟨m,n⟩=>h.pure m n (jX W f DN a (by decide)))
theorem f_ap7{c:Cx}{F:Fg}{K:List CW}{W:PW}{S f:PS}{args:List PV}(h:Pm c M O w F kv K k W S f C8 av us args)(i:args.length=arity C8) :Calls prog 314 #[.int .i64 ((7:Nat):Int),av,.pointer (some ⟨c.rb,6,none⟩)] w (Post c M O w F kv K (k+1) 1):=by obtain⟨u,a,g,b,d,rfl,rfl,j,l⟩:=h.one i;exact(p_apply7 M w F.s W g b d u _ a h.st.fw.JQ h.st.fw.CY.pairs h.st.fw.NH j l).mono (fun e o ⟨m,n⟩=>h.pure m n (jX W f C8 a (by decide)))
theorem f_ap8{c:Cx}{F:Fg}{K:List CW}{W:PW}{S f:PS}{args:List PV}(h:Pm c M O w F kv K k W S f DY av us args)(i:args.length=arity DY) :Calls prog 314 #[.int .i64 ((8:Nat):Int),av,.pointer (some ⟨c.rb,6,none⟩)] w (Post c M O w F kv K (k+1) 1):=by obtain⟨u,a,g,b,d,rfl,rfl,j,l⟩:=h.one i;exact(p_apply8 M w F.s W g b d u _ a h.st.fw.JQ h.st.fw.CY.pairs h.st.fw.NH j l).mono (fun e o ⟨m,n⟩=>h.pure m n (jX W f DY a (by decide)))
theorem f_ap9{c:Cx}{F:Fg}{K:List CW}{W:PW}{S f:PS}{args:List PV}(h:Pm c M O w F kv K k W S f DW av us args)(i:args.length=arity DW) :Calls prog 314 #[.int .i64 ((9:Nat):Int),av,.pointer (some ⟨c.rb,6,none⟩)] w (Post c M O w F kv K (k+1) 1):=by obtain⟨u,a,g,b,d,rfl,rfl,j,l⟩:=h.one i;exact(yZ M w F.s W g b d u _ a h.st.fw.JQ h.st.fw.CY.pairs h.st.fw.NH j l).mono (fun e o ⟨m,n⟩=>h.pure m n (jX W f DW a (by decide)))
theorem f_ap10{c:Cx}{F:Fg}{K:List CW}{W:PW}{S i:PS}{args:List PV}(h:Pm c M O w F kv K k W S i BR av us args)(j:args.length=arity BR) :Calls prog 314 #[.int .i64 ((10:Nat):Int),av,.pointer (some ⟨c.rb,6,none⟩)] w (Post c M O w F kv K (k+1) 1):=by obtain⟨u,v,a,b,g,d,f,rfl,rfl,l,m,n,o⟩:=h.two j;exact(vE w F.s W g d f _ u v _ a b h.st.fw.JQ h.st.fw.TJ l m n o).mono (fun e r ⟨p,q⟩=>h.pure p q (fM W i BR a b (by decide)))
theorem f_ap5{c:Cx}{F:Fg}{K:List CW}{W:PW}{S i:PS}{args:List PV}(h:Pm c M O w F kv K k W S i CS av us args)(m:args.length=arity CS) :Calls prog 314 #[.int .i64 ((5:Nat):Int),av,.pointer (some ⟨c.rb,6,none⟩)] w (Post c M O w F kv K (k+1) 1):=by
 obtain⟨u,v,a,b,g,d,f,rfl,rfl,n,o,j,l⟩:=h.two m
 exact(y9 w g d f u v _ h.st.fw.JQ n o j.iface l.iface).mono (fun e s ⟨t,p,q,r⟩=>by
  subst q r
  exact h.cons p j l ((fM W i CS a b (by decide)).trans (if_pos rfl)))
theorem f_ap11{c:Cx}{F:Fg}{K:List CW}{W:PW}{S f:PS}{args:List PV}(h:Pm c M O w F kv K k W S f A7 av us args)(l:k<c.z)(m:args.length=arity A7) :Calls prog 314 #[.int .i64 ((11:Nat):Int),av,.pointer (some ⟨c.rb,6,none⟩)] w (Post c M O w F kv K (k+1) 1):=by obtain⟨u,a,g,b,d,rfl,rfl,n,o⟩:=h.one m;obtain⟨y,p,z,q,i,r,j⟩:=h.st.mc;obtain⟨s,t,v,_⟩:=h.at_.inv;exact(vD w F.s W (aC2 v) c.rb 6 _ TFMc q W.out g b d u a h.st.fw.JQ h.st.fw.TJ o (h.wf a (by simp)) i.blk rfl j.1 tMc.2.2.2.2.2 s n).mono (fun e A x=>h.disp l i r j x (jX W f A7 a (by decide)))
theorem f_apply{c:Cx}{F:Fg}{K:List CW}{W:PW}{S g:PS}{t:AE}{args:List PV}(h:Pm c M O w F kv K k W S g t av us args)(j:k<c.z)(f:Nat)(a:AO[f]?=some t)(d:f<12) :Calls prog 314 #[.int .i64 (f:Int),av,.pointer (some ⟨c.rb,6,none⟩)] w (Post c M O w F kv K (k+1) 1):=by
 by_cases b:args.length=arity t
 ·match f,d,a with
  | 0,_,a=>obtain rfl:=i_ a;exact f_ap0 h b
  | 1,_,a=>obtain rfl:=i_ a;exact f_ap1 h b
  | 2,_,a=>obtain rfl:=i_ a;exact f_ap2 h b
  | 3,_,a=>obtain rfl:=i_ a;exact f_ap3 h b
  | 4,_,a=>obtain rfl:=i_ a;exact f_ap4 h b
  | 5,_,a=>obtain rfl:=i_ a;exact f_ap5 h b
  | 6,_,a=>obtain rfl:=i_ a;exact f_ap6 h b
  | 7,_,a=>obtain rfl:=i_ a;exact f_ap7 h b
  | 8,_,a=>obtain rfl:=i_ a;exact f_ap8 h b
  | 9,_,a=>obtain rfl:=i_ a;exact f_ap9 h b
  | 10,_,a=>obtain rfl:=i_ a;exact f_ap10 h b
  | 11,_,a=>obtain rfl:=i_ a;exact f_ap11 h j b
  | n+12,d,_=>omega
 ·have l:AH W g (.AZ t) args=⟨10,W,g⟩:=by
   show(if args.length≠arity t then _ else _)=_;rw [if_pos b]
  have m:=h.CH.1;obtain⟨o,i,rfl,_,_⟩:=h.row;exact(vC f t w o us.length i _ h.st.fw.JQ a d (by rw [m];exact b)).mono (fun e s ⟨p,q,r⟩=>by subst r;exact h.no p (x:=10) (by decide) l q)
theorem aJD(w:World):Calls prog 266 #[] w fun e a=>∃b,e=.returned (aY b 7)/\w=a:=by
 go_enter func266,ntmps266
 go_wp2_with (go_at_call 78;refine(bJ _ _ _).mono ?_;rintro e c ⟨rfl,rfl⟩)
 go_ret;exact⟨_,rfl,rfl⟩
theorem aK3{c:Cx}{F:Fg}{K:List CW}{W:PW}{S v:PS}{t:AE}{args:List PV}(h:Pm c M O w F kv K k W S v t av us args)(d:Nat)(x:AO[d]?=some t)(l:d<12) :Calls prog 299 #[.pointer (some ⟨c.rb,0,none⟩),.int .i64 (d:Int),av] w (Post c M O w F kv K (k+1) 1):=by
 have m:Below w.heap.size w w.drew:=r_.drew;have g:Pm c M O w.drew F kv K k W S v t av us args:=by obtain⟨n,a,o,p,q⟩:=h.row;exact⟨h.st.below m,h.at_,h.ne,h.step,h.fr,⟨n,a,o,p,fun i u y=>q i u y⟩,h.CH,h.wf⟩
 obtain⟨G,H,_⟩:=h.st.cells;have z:=h.st.bd;have A:=h.at_.le;obtain⟨n,a,rfl,_,_⟩:=h.row;by_cases B:k<c.z
 ·have C:Hid (Calls prog 314 #[.int .i64 (d:Int),.slice n us.length a,.pointer (some ⟨c.rb,6,none⟩)] w.drew (Post c M O w F kv K (k+1) 1)):=(f_apply g B d x l).mono (fun e I f=>f.after (Stp.AA m) (fun b _=>rfl) (Fg.Le.refl _) n_ n_);have r:((k+1:Nat):Int)<=(c.z:Int):=by omega
  clear h g;go_enter func299,ntmps299;go_wp2_with fail
  go_region
  go_wp2_with (go_at_call 314;refine(Calls.mono C ?_);intro e D f;obtain⟨J,L,rfl⟩:=f.tup;have s:=(show Hid _ from f);clear f)
  go_ret2;exact s
 ·have E:Hid (∀j,Post c M O w F kv K (k+1) 1 (aGG .nilIface (aY j 7)) w.drew):=fun j=>⟨M,F,k,W,S,Stp.AA m,fun _ _=>rfl,Fg.Le.refl _,h.at_,h.ne,by omega,by omega,.spent j (by omega) g.st⟩
  have r:(c.z:Int)<((k+1:Nat):Int):=by omega
  clear h g;go_enter func299,ntmps299;go_wp2_with fail
  go_region
  go_wp2_with (go_at_call 266;refine(aJD _).mono ?_;rintro e D ⟨j,rfl,rfl⟩)
  go_ret2;exact E.out _
end
end Go.Proofs.YtkgbdddkcjpgfaaGreatDoor
