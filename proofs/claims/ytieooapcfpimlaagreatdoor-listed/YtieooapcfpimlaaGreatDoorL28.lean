import Derived.Test.YtieooapcfpimlaaGreatDoorL27
namespace Go.Proofs.YtieooapcfpimlaaGreatDoor
set_option maxHeartbeats 4000000
set_option maxRecDepth 100000
open Go.Proofs.Tryz
open Pl (PV PW PS SR AE arity AO A2 B0 AH BH A4 BA BR BW IA CS C8 DN DY DW A7 AU)
section
open Go.RowKit Go.Lib Go.Maps
variable {M:Nat->Prop} {w0 w:World} {tb mb sb gb rb:Nat} {fv ev gv kv ov av:Value} {us:List Value}
theorem Ap.two{s:Sg}{W:PW}{S:PS}{args:List PV}(h:Ap M w0 w s tb mb sb gb rb W S fv ev gv kv ov av us args)(j:args.length=2):∃u v a b g c e,args=[a,b]/\av=.slice (some ⟨g,c,none⟩) 2 e/\w.cell? ⟨g,c,none⟩=some u/\w.cell? ⟨g,c+1,none⟩=some v/\RV s u a/\RV s v b:=by
 have i:=h.CH.1
 obtain⟨u,v,rfl⟩:∃u v,us=[u,v]:=by
  match us,i.trans j with
  | [u,v],_=>exact⟨u,v,rfl⟩
 obtain⟨a,b,rfl⟩:∃a b,args=[a,b]:=by
  match args,j with
  | [a,b],_=>exact⟨a,b,rfl⟩
 obtain⟨m,e,rfl,_,f⟩:=h.args;obtain⟨g,c,l,rfl,_,k,d⟩:=f (by simp);exact⟨u,v,a,b,g,c,e,rfl,rfl,(aA k c).trans (by simpa using d 0 u rfl),(aA k (c+1)).trans (d 1 v rfl),h.CH.2 0 u a rfl rfl,h.CH.2 1 v b rfl rfl⟩
theorem Ap.one{s:Sg}{W:PW}{S:PS}{args:List PV}(h:Ap M w0 w s tb mb sb gb rb W S fv ev gv kv ov av us args)(i:args.length=1):∃u a g b c,args=[a]/\av=.slice (some ⟨g,b,none⟩) 1 c/\w.cell? ⟨g,b,none⟩=some u/\RV s u a:=by have f:=h.CH.1;obtain⟨u,rfl⟩:∃u,us=[u]:=List.length_eq_one_iff.1 (f.trans i);obtain⟨a,rfl⟩:∃a,args=[a]:=List.length_eq_one_iff.1 i;obtain⟨l,c,rfl,_,d⟩:=h.args;obtain⟨g,b,j,rfl,_,k,e⟩:=d (by simp);exact⟨u,a,g,b,c,rfl,rfl,(aA k b).trans (by simpa using e 0 u rfl),h.CH.2 0 u a rfl rfl⟩
theorem Ap.JQ{s:Sg}{W:PW}{S:PS}{args:List PV}(h:Ap M w0 w s tb mb sb gb rb W S fv ev gv kv ov av us args):EH w:=(h.wd.mv (Mv.below h.below)).JQ
theorem Ap.prs{s:Sg}{W:PW}{S:PS}{args:List PV}(h:Ap M w0 w s tb mb sb gb rb W S fv ev gv kv ov av us args):BD M w s W.pairs:=(h.wd.mv (Mv.below h.below)).CY.pairs
theorem fM(W:PW)(S:PS)(nm:AE)(a b:PV)(h:arity nm=2):AH W S (.AZ nm) [a,b]=A2 W S nm a b:=by show(if([a,b]:List PV).length≠arity nm then _ else _)=_;rw [if_neg (fun c=>c (by rw [h];rfl))]
theorem jX(W:PW)(S:PS)(nm:AE)(a:PV)(h:arity nm=1):AH W S (.AZ nm) [a]=B0 W S nm a:=by show(if([a]:List PV).length≠arity nm then _ else _)=_;rw [if_neg (fun b=>b (by rw [h];rfl))]
theorem p_ap0(M:Nat->Prop)(f w:World)(s:Sg)(tb mb i j d:Nat)(W:PW)(S:PS)(l ev m n r o:Value)(us:List Value)(args:List PV)(h:Ap M f w s tb mb i j d W S l ev m n r o us args)(p:∀v∈args,BL W v)(t:args.length=arity BH) :Calls prog 297 #[.pointer (some ⟨d,0,none⟩),.iface 86 (.int .i64 ((0:Nat):Int)),o] w fun e q=>AS M f s tb mb i j d (AH W S (.AZ BH) args) e q:=by obtain⟨u,v,a,b,g,k,c,rfl,rfl,x,y,z,A⟩:=h.two t;rw [fM W S BH a b (by decide)];exact aU M f w s tb mb i j d l ev m n 0 _ 2 c _ ((zE w s W g k c u v _ a b h.JQ h.wd.NH x y z A (p a (by simp)) (p b (by simp))).mono (fun e q ⟨B,C⟩=>h.pure B C))
theorem p_ap1(M:Nat->Prop)(f w:World)(s:Sg)(tb mb i j d:Nat)(W:PW)(S:PS)(l ev m n r o:Value)(us:List Value)(args:List PV)(h:Ap M f w s tb mb i j d W S l ev m n r o us args)(p:∀v∈args,BL W v)(t:args.length=arity A4) :Calls prog 297 #[.pointer (some ⟨d,0,none⟩),.iface 86 (.int .i64 ((1:Nat):Int)),o] w fun e q=>AS M f s tb mb i j d (AH W S (.AZ A4) args) e q:=by obtain⟨u,v,a,b,g,k,c,rfl,rfl,x,y,z,A⟩:=h.two t;rw [fM W S A4 a b (by decide)];exact aU M f w s tb mb i j d l ev m n 1 _ 2 c _ ((zD w s W g k c u v _ a b h.JQ h.wd.NH x y z A (p a (by simp)) (p b (by simp))).mono (fun e q ⟨B,C⟩=>h.pure B C))
theorem p_ap2(M:Nat->Prop)(f w:World)(s:Sg)(tb mb i j d:Nat)(W:PW)(S:PS)(l ev m n r o:Value)(us:List Value)(args:List PV)(h:Ap M f w s tb mb i j d W S l ev m n r o us args)(p:∀v∈args,BL W v)(t:args.length=arity BA) :Calls prog 297 #[.pointer (some ⟨d,0,none⟩),.iface 86 (.int .i64 ((2:Nat):Int)),o] w fun e q=>AS M f s tb mb i j d (AH W S (.AZ BA) args) e q:=by obtain⟨u,v,a,b,g,k,c,rfl,rfl,x,y,z,A⟩:=h.two t;rw [fM W S BA a b (by decide)];exact aU M f w s tb mb i j d l ev m n 2 _ 2 c _ ((zC w s W g k c u v _ a b h.JQ h.wd.NH x y z A (p a (by simp)) (p b (by simp))).mono (fun e q ⟨B,C⟩=>h.pure B C))
theorem p_ap3(M:Nat->Prop)(f w:World)(s:Sg)(tb mb i j d:Nat)(W:PW)(S:PS)(l ev m n r o:Value)(us:List Value)(args:List PV)(h:Ap M f w s tb mb i j d W S l ev m n r o us args)(p:∀v∈args,BL W v)(t:args.length=arity BW) :Calls prog 297 #[.pointer (some ⟨d,0,none⟩),.iface 86 (.int .i64 ((3:Nat):Int)),o] w fun e q=>AS M f s tb mb i j d (AH W S (.AZ BW) args) e q:=by obtain⟨u,v,a,b,g,k,c,rfl,rfl,x,y,z,A⟩:=h.two t;rw [fM W S BW a b (by decide)];exact aU M f w s tb mb i j d l ev m n 3 _ 2 c _ ((zB w s W g k c u v _ a b h.JQ h.wd.NH x y z A (p a (by simp)) (p b (by simp))).mono (fun e q ⟨B,C⟩=>h.pure B C))
theorem p_ap4(M:Nat->Prop)(f w:World)(s:Sg)(tb mb i j d:Nat)(W:PW)(S:PS)(l ev m n r o:Value)(us:List Value)(args:List PV)(h:Ap M f w s tb mb i j d W S l ev m n r o us args)(p:∀v∈args,BL W v)(t:args.length=arity IA) :Calls prog 297 #[.pointer (some ⟨d,0,none⟩),.iface 86 (.int .i64 ((4:Nat):Int)),o] w fun e q=>AS M f s tb mb i j d (AH W S (.AZ IA) args) e q:=by obtain⟨u,v,a,b,g,k,c,rfl,rfl,x,y,z,A⟩:=h.two t;rw [fM W S IA a b (by decide)];exact aU M f w s tb mb i j d l ev m n 4 _ 2 c _ ((zA w s W g k c u v _ a b h.JQ h.wd.NH x y z A (p a (by simp)) (p b (by simp))).mono (fun e q ⟨B,C⟩=>h.pure B C))
theorem p_ap6(M:Nat->Prop)(d w:World)(s:Sg)(tb mb f i c:Nat)(W:PW)(S:PS)(k ev l m p n:Value)(us:List Value)(args:List PV)(h:Ap M d w s tb mb f i c W S k ev l m p n us args)(q:args.length=arity DN) :Calls prog 297 #[.pointer (some ⟨c,0,none⟩),.iface 86 (.int .i64 ((6:Nat):Int)),n] w fun e o=>AS M d s tb mb f i c (AH W S (.AZ DN) args) e o:=by obtain⟨u,a,g,j,b,rfl,rfl,r,t⟩:=h.one q;rw [jX W S DN a (by decide)];exact aU M d w s tb mb f i c k ev l m 6 _ 1 b _ ((p_apply6 M w s W g j b u _ a h.JQ h.prs h.wd.NH r t).mono (fun e o ⟨v,x⟩=>h.pure v x))
theorem p_ap7(M:Nat->Prop)(d w:World)(s:Sg)(tb mb f i c:Nat)(W:PW)(S:PS)(k ev l m p n:Value)(us:List Value)(args:List PV)(h:Ap M d w s tb mb f i c W S k ev l m p n us args)(q:args.length=arity C8) :Calls prog 297 #[.pointer (some ⟨c,0,none⟩),.iface 86 (.int .i64 ((7:Nat):Int)),n] w fun e o=>AS M d s tb mb f i c (AH W S (.AZ C8) args) e o:=by obtain⟨u,a,g,j,b,rfl,rfl,r,t⟩:=h.one q;rw [jX W S C8 a (by decide)];exact aU M d w s tb mb f i c k ev l m 7 _ 1 b _ ((p_apply7 M w s W g j b u _ a h.JQ h.prs h.wd.NH r t).mono (fun e o ⟨v,x⟩=>h.pure v x))
theorem p_ap8(M:Nat->Prop)(d w:World)(s:Sg)(tb mb f i c:Nat)(W:PW)(S:PS)(k ev l m p n:Value)(us:List Value)(args:List PV)(h:Ap M d w s tb mb f i c W S k ev l m p n us args)(q:args.length=arity DY) :Calls prog 297 #[.pointer (some ⟨c,0,none⟩),.iface 86 (.int .i64 ((8:Nat):Int)),n] w fun e o=>AS M d s tb mb f i c (AH W S (.AZ DY) args) e o:=by obtain⟨u,a,g,j,b,rfl,rfl,r,t⟩:=h.one q;rw [jX W S DY a (by decide)];exact aU M d w s tb mb f i c k ev l m 8 _ 1 b _ ((p_apply8 M w s W g j b u _ a h.JQ h.prs h.wd.NH r t).mono (fun e o ⟨v,x⟩=>h.pure v x))
theorem p_ap9(M:Nat->Prop)(d w:World)(s:Sg)(tb mb f i c:Nat)(W:PW)(S:PS)(k ev l m p n:Value)(us:List Value)(args:List PV)(h:Ap M d w s tb mb f i c W S k ev l m p n us args)(q:args.length=arity DW) :Calls prog 297 #[.pointer (some ⟨c,0,none⟩),.iface 86 (.int .i64 ((9:Nat):Int)),n] w fun e o=>AS M d s tb mb f i c (AH W S (.AZ DW) args) e o:=by obtain⟨u,a,g,j,b,rfl,rfl,r,t⟩:=h.one q;rw [jX W S DW a (by decide)];exact aU M d w s tb mb f i c k ev l m 9 _ 1 b _ ((yZ M w s W g j b u _ a h.JQ h.prs h.wd.NH r t).mono (fun e o ⟨v,x⟩=>h.pure v x))
theorem p_ap10(M:Nat->Prop)(f w:World)(s:Sg)(tb mb i j d:Nat)(W:PW)(S:PS)(l ev m n q o:Value)(us:List Value)(args:List PV)(h:Ap M f w s tb mb i j d W S l ev m n q o us args)(r:args.length=arity BR) :Calls prog 297 #[.pointer (some ⟨d,0,none⟩),.iface 86 (.int .i64 ((10:Nat):Int)),o] w fun e p=>AS M f s tb mb i j d (AH W S (.AZ BR) args) e p:=by obtain⟨u,v,a,b,g,k,c,rfl,rfl,t,x,y,z⟩:=h.two r;rw [fM W S BR a b (by decide)];exact aU M f w s tb mb i j d l ev m n 10 _ 2 c _ ((vE w s W g k c _ u v _ a b h.JQ (h.wd.TJ h.below) t x y z).mono (fun e p ⟨A,B⟩=>h.pure A B))
theorem p_ap5(M:Nat->Prop)(f w:World)(s:Sg)(tb mb i j d:Nat)(W:PW)(S:PS)(l ev m n t o:Value)(us:List Value)(args:List PV)(h:Ap M f w s tb mb i j d W S l ev m n t o us args)(x:args.length=arity CS) :Calls prog 297 #[.pointer (some ⟨d,0,none⟩),.iface 86 (.int .i64 ((5:Nat):Int)),o] w fun e p=>AS M f s tb mb i j d (AH W S (.AZ CS) args) e p:=by obtain⟨u,v,a,b,g,k,c,rfl,rfl,y,z,q,r⟩:=h.two x;rw [fM W S CS a b (by decide)];exact aU M f w s tb mb i j d l ev m n 5 _ 2 c _ ((y9 w g k c u v _ h.JQ y z q.iface r.iface).mono (fun e p ⟨D,A,B,C⟩=>⟨_,_,C,by subst B;exact h.cons A q r⟩))
theorem p_ap11(M:Nat->Prop)(d w:World)(s:Sg)(tb mb f i b:Nat)(W:PW)(q:OU W)(S:PS)(k ev l m n o:Value)(us:List Value)(args:List PV)(h:Ap M d w s tb mb f i b W S k ev l m n o us args)(r:∀v∈args,BL W v)(t:W.out.length<=1000)(x:args.length=arity A7) :Calls prog 297 #[.pointer (some ⟨b,0,none⟩),.iface 86 (.int .i64 ((11:Nat):Int)),o] w fun e p=>AS M d s tb mb f i b (AH W S (.AZ A7) args) e p:=by obtain⟨u,a,g,j,c,rfl,rfl,y,z⟩:=h.one x;rw [jX W S A7 a (by decide)];exact aU M d w s tb mb f i b k ev l m 11 _ 1 c _ ((vD w s W q b 5 _ BT n W.out g j c u a h.JQ (h.wd.TJ h.below) z (r a (by simp)) h.MO rfl (gA h.out.1 (fun g A=>h.below.block g (h.out.1.lt g A).2)) (by decide) t y).mono (fun e p B=>h.disp B))
theorem zG(M:Nat->Prop)(c w:World)(s:Sg)(tb mb d f b:Nat)(W:PW)(x:OU W)(S:PS)(g ev i j o l:Value)(us:List Value)(args:List PV)(h:Ap M c w s tb mb d f b W S g ev i j o l us args)(q:∀v∈args,BL W v)(y:W.out.length<=1000)(k:Nat)(nm:AE)(a:AO[k]?=some nm)(p:k<12) :Calls prog 297 #[.pointer (some ⟨b,0,none⟩),.iface 86 (.int .i64 (k:Int)),l] w fun e t=>AS M c s tb mb d f b (AH W S (.AZ nm) args) e t:=by
 by_cases m:args.length=arity nm
 ·match k,p,a with
  | 0,_,a=>obtain rfl:=i_ a;exact p_ap0 M c w s tb mb d f b W S g ev i j o l us args h q m
  | 1,_,a=>obtain rfl:=i_ a;exact p_ap1 M c w s tb mb d f b W S g ev i j o l us args h q m
  | 2,_,a=>obtain rfl:=i_ a;exact p_ap2 M c w s tb mb d f b W S g ev i j o l us args h q m
  | 3,_,a=>obtain rfl:=i_ a;exact p_ap3 M c w s tb mb d f b W S g ev i j o l us args h q m
  | 4,_,a=>obtain rfl:=i_ a;exact p_ap4 M c w s tb mb d f b W S g ev i j o l us args h q m
  | 5,_,a=>obtain rfl:=i_ a;exact p_ap5 M c w s tb mb d f b W S g ev i j o l us args h m
  | 6,_,a=>obtain rfl:=i_ a;exact p_ap6 M c w s tb mb d f b W S g ev i j o l us args h m
  | 7,_,a=>obtain rfl:=i_ a;exact p_ap7 M c w s tb mb d f b W S g ev i j o l us args h m
  | 8,_,a=>obtain rfl:=i_ a;exact p_ap8 M c w s tb mb d f b W S g ev i j o l us args h m
  | 9,_,a=>obtain rfl:=i_ a;exact p_ap9 M c w s tb mb d f b W S g ev i j o l us args h m
  | 10,_,a=>obtain rfl:=i_ a;exact p_ap10 M c w s tb mb d f b W S g ev i j o l us args h m
  | 11,_,a=>obtain rfl:=i_ a;exact p_ap11 M c w s tb mb d f b W x S g ev i j o l us args h q y m
  | n+12,p,_=>omega
 ·obtain⟨u,r,rfl,_,_⟩:=h.args;have z:AH W S (.AZ nm) args=⟨10,W,S⟩:=by show(if args.length≠arity nm then _ else _)=_;rw [if_pos m]
  rw [z];exact aU M c w s tb mb d f b g ev i j k u us.length r _ ((vC k nm w u us.length r _ h.JQ a p (by rw [h.CH.1];exact m)).mono (fun e t ⟨A,B,C⟩=>⟨_,_,C,.inr ⟨B,10,rfl,rfl,h.no A (by decide)⟩⟩))
theorem zF(w f:World)(M:Nat->Prop)(s:Sg)(tb mb g i c b:Nat)(j:Option Addr)(n a:Nat)(r:SR)(k:Calls prog 299 #[.pointer (some ⟨c,0,none⟩),.pointer (some ⟨b,0,none⟩),.slice j n a] w fun e d=>AS M f s tb mb g i c r e d) :Calls prog 297 #[.pointer (some ⟨c,0,none⟩),.iface 280 (.pointer (some ⟨b,0,none⟩)),.slice j n a] w fun e d=>AS M f s tb mb g i c r e d:=by have l:Hid (Calls prog 299 #[.pointer (some ⟨c,0,none⟩),.pointer (some ⟨b,0,none⟩),.slice j n a] w fun e d=>∃x,e=.returned x/\AS M f s tb mb g i c r (.returned x) d):=show Calls _ _ _ _ _ from k.mono (fun e d h=>by obtain⟨x,rfl⟩:=h.one;exact⟨x,rfl,h⟩);have o:=Tryz.vq_q;clear k;go_enter func297,ntmps297;go_wp2_with (go_at_call 299;refine Calls.mono l ?_;rintro e p ⟨x,rfl,m⟩);go_ret;exact m
theorem zI(w f:World)(M:Nat->Prop)(s:Sg)(tb mb g i c b:Nat)(j:Option Addr)(n a:Nat)(r:SR)(k:Calls prog 300 #[.pointer (some ⟨c,0,none⟩),.pointer (some ⟨b,0,none⟩),.slice j n a] w fun e d=>AS M f s tb mb g i c r e d) :Calls prog 297 #[.pointer (some ⟨c,0,none⟩),.iface 402 (.pointer (some ⟨b,0,none⟩)),.slice j n a] w fun e d=>AS M f s tb mb g i c r e d:=by have l:Hid (Calls prog 300 #[.pointer (some ⟨c,0,none⟩),.pointer (some ⟨b,0,none⟩),.slice j n a] w fun e d=>∃x,e=.returned x/\AS M f s tb mb g i c r (.returned x) d):=show Calls _ _ _ _ _ from k.mono (fun e d h=>by obtain⟨x,rfl⟩:=h.one;exact⟨x,rfl,h⟩);have o:=Tryz.vq_c;have p:=Tryz.vc_c;clear k;go_enter func297,ntmps297;go_wp2_with (go_at_call 300;refine Calls.mono l ?_;rintro e q ⟨x,rfl,m⟩);go_ret;exact m
theorem vH(w d:World)(M:Nat->Prop)(s:Sg)(tb mb f g b:Nat)(i:Option Addr)(n a:Nat)(r:SR)(j:Calls prog 301 #[.pointer (some ⟨b,0,none⟩),.slice i n a] (w.alloc (.cells #[] 83)) fun e c=>AS M d s tb mb f g b r e c) :Calls prog 297 #[.pointer (some ⟨b,0,none⟩),.iface 83 (.agg #[]),.slice i n a] w fun e c=>AS M d s tb mb f g b r e c:=by have k:Hid (Calls prog 301 #[.pointer (some ⟨b,0,none⟩),.slice i n a] (w.alloc (.cells #[] 83)) fun e c=>∃x,e=.returned x/\AS M d s tb mb f g b r (.returned x) c):=show Calls _ _ _ _ _ from j.mono (fun e c h=>by obtain⟨x,rfl⟩:=h.one;exact⟨x,rfl,h⟩);have m:=Tryz.Q4;have o:=Tryz.Q5;have p:=Tryz.vk_k;clear j;go_enter func297,ntmps297;go_wp2_with (go_at_call 301;refine Calls.mono k ?_;rintro e q ⟨x,rfl,l⟩);go_ret;exact l
theorem zH(w:World)(d:Nat)(x:Value)(f:Option Addr)(n a:Nat)(t:AE)(j:t.length<=202)(c:Calls prog 143 #[.iface 187 x] w fun e b=>e=.returned (.string ⟨t.toArray⟩)/\Below w.heap.size w b) :Calls prog 297 #[.pointer (some ⟨d,0,none⟩),.iface 187 x,.slice f n a] w fun e b=>Below w.heap.size w b/\∃g,e=.returned (aY g 9):=by
 have h:=h_ c;have k:=Tryz.P_;have l:=Tryz.S_;have m:=Tryz.R_;have o:=Tryz.Q_;clear c;go_enter func297,ntmps297
 go_wp2_with (first
  | (go_at_call 143;refine Calls.mono h ?_;rintro e p ⟨rfl,i⟩)
  | (go_at_call 33;refine(bJ _ _ _).mono ?_;rintro e q ⟨rfl,rfl⟩))
 go_ret;exact⟨i,_,rfl⟩
theorem sN(w:World)(d:Nat)(x:Value)(f:Option Addr)(n a:Nat)(t:AE)(j:t.length<=202)(c:Calls prog 143 #[.iface 189 x] w fun e b=>e=.returned (.string ⟨t.toArray⟩)/\Below w.heap.size w b) :Calls prog 297 #[.pointer (some ⟨d,0,none⟩),.iface 189 x,.slice f n a] w fun e b=>Below w.heap.size w b/\∃g,e=.returned (aY g 9):=by
 have h:=h_ c;have k:=Tryz.R6;have l:=Tryz.SC;have m:=Tryz.SA;have o:=Tryz.R8;clear c;go_enter func297,ntmps297
 go_wp2_with (first
  | (go_at_call 143;refine Calls.mono h ?_;rintro e p ⟨rfl,i⟩)
  | (go_at_call 33;refine(bJ _ _ _).mono ?_;rintro e q ⟨rfl,rfl⟩))
 go_ret;exact⟨i,_,rfl⟩
theorem vG(w:World)(d:Nat)(x:Value)(f:Option Addr)(n a:Nat)(t:AE)(j:t.length<=202)(c:Calls prog 143 #[.iface 190 x] w fun e b=>e=.returned (.string ⟨t.toArray⟩)/\Below w.heap.size w b) :Calls prog 297 #[.pointer (some ⟨d,0,none⟩),.iface 190 x,.slice f n a] w fun e b=>Below w.heap.size w b/\∃g,e=.returned (aY g 9):=by
 have h:=h_ c;have k:=Tryz.VU;have l:=Tryz.V2;have m:=Tryz.VZ;have o:=Tryz.VW;clear c;go_enter func297,ntmps297
 go_wp2_with (first
  | (go_at_call 143;refine Calls.mono h ?_;rintro e p ⟨rfl,i⟩)
  | (go_at_call 33;refine(bJ _ _ _).mono ?_;rintro e q ⟨rfl,rfl⟩))
 go_ret;exact⟨i,_,rfl⟩
theorem sO(w:World)(d:Nat)(x:Value)(f:Option Addr)(n a:Nat)(t:AE)(j:t.length<=202)(c:Calls prog 143 #[.iface 212 x] w fun e b=>e=.returned (.string ⟨t.toArray⟩)/\Below w.heap.size w b) :Calls prog 297 #[.pointer (some ⟨d,0,none⟩),.iface 212 x,.slice f n a] w fun e b=>Below w.heap.size w b/\∃g,e=.returned (aY g 9):=by
 have h:=h_ c;have k:=Tryz.R7;have l:=Tryz.SD;have m:=Tryz.SB;have o:=Tryz.R9;clear c;go_enter func297,ntmps297
 go_wp2_with (first
  | (go_at_call 143;refine Calls.mono h ?_;rintro e p ⟨rfl,i⟩)
  | (go_at_call 33;refine(bJ _ _ _).mono ?_;rintro e q ⟨rfl,rfl⟩))
 go_ret;exact⟨i,_,rfl⟩
theorem nN(w:World)(d:Nat)(x:Value)(f:Option Addr)(n a:Nat)(t:AE)(j:t.length<=202)(c:Calls prog 143 #[.iface 192 x] w fun e b=>e=.returned (.string ⟨t.toArray⟩)/\Below w.heap.size w b) :Calls prog 297 #[.pointer (some ⟨d,0,none⟩),.iface 192 x,.slice f n a] w fun e b=>Below w.heap.size w b/\∃g,e=.returned (aY g 9):=by
 have h:=h_ c;have k:=Tryz.OX;have l:=Tryz.O0;have m:=Tryz.OZ;have o:=Tryz.OY;clear c;go_enter func297,ntmps297
 go_wp2_with (first
  | (go_at_call 143;refine Calls.mono h ?_;rintro e p ⟨rfl,i⟩)
  | (go_at_call 33;refine(bJ _ _ _).mono ?_;rintro e q ⟨rfl,rfl⟩))
 go_ret;exact⟨i,_,rfl⟩
theorem vF(w:World)(d:Nat)(x:Value)(f:Option Addr)(n a:Nat)(t:AE)(j:t.length<=202)(c:Calls prog 143 #[.iface 213 x] w fun e b=>e=.returned (.string ⟨t.toArray⟩)/\Below w.heap.size w b) :Calls prog 297 #[.pointer (some ⟨d,0,none⟩),.iface 213 x,.slice f n a] w fun e b=>Below w.heap.size w b/\∃g,e=.returned (aY g 9):=by
 have h:=h_ c;have k:=Tryz.VT;have l:=Tryz.V1;have m:=Tryz.VY;have o:=Tryz.VV;clear c;go_enter func297,ntmps297
 go_wp2_with (first
  | (go_at_call 143;refine Calls.mono h ?_;rintro e p ⟨rfl,i⟩)
  | (go_at_call 33;refine(bJ _ _ _).mono ?_;rintro e q ⟨rfl,rfl⟩))
 go_ret;exact⟨i,_,rfl⟩
structure Wf(W:PW):Prop where
 wp:OU W
 out:W.out.length<=1000
theorem qS(M:Nat->Prop)(p w:World)(s:Sg)(tb mb r u d:Nat)(W:PW)(o:Wf W)(S:PS)(A ev B C D F:Value)(us:List Value)(args:List PV)(h:Ap M p w s tb mb r u d W S A ev B C D F us args)(L:∀v∈args,BL W v)(J:Value)(f:PV)(K:RV s J f)(g:BL W f)(G:f≠.AZ AU) :Calls prog 297 #[.pointer (some ⟨d,0,none⟩),J,F] w fun e x=>AS M p s tb mb r u d (AH W S f args) e x:=by
 have j:=K
 cases K with
 | num n =>obtain⟨c,a,rfl,_,_⟩:=h.args;exact(zH w d _ c us.length a _ (Pl.FL _) (hH W o.wp s w _ _ (h.wd.TJ h.below) j g)).mono (fun e x ⟨l,z,m⟩=>by subst m;exact h.no l (by decide))
 | AT b =>obtain⟨c,a,rfl,_,_⟩:=h.args;exact(sN w d _ c us.length a _ (Pl.FL _) (hH W o.wp s w _ _ (h.wd.TJ h.below) j g)).mono (fun e x ⟨l,z,m⟩=>by subst m;exact h.no l (by decide))
 | name t =>obtain⟨c,a,rfl,_,_⟩:=h.args;exact(vG w d _ c us.length a _ (Pl.FL _) (hH W o.wp s w _ _ (h.wd.TJ h.below) j g)).mono (fun e x ⟨l,z,m⟩=>by subst m;exact h.no l (by decide))
 | empty =>obtain⟨c,a,rfl,_,_⟩:=h.args;exact(sO w d _ c us.length a _ (Pl.FL _) (hH W o.wp s w _ _ (h.wd.TJ h.below) j g)).mono (fun e x ⟨l,z,m⟩=>by subst m;exact h.no l (by decide))
 | nothing =>obtain⟨c,a,rfl,_,_⟩:=h.args;exact(nN w d _ c us.length a _ (Pl.FL _) (hH W o.wp s w _ _ (h.wd.TJ h.below) j g)).mono (fun e x ⟨l,z,m⟩=>by subst m;exact h.no l (by decide))
 | pair i b E =>obtain⟨c,a,rfl,_,_⟩:=h.args;exact(vF w d _ c us.length a _ (Pl.FL _) (hH W o.wp s w _ _ (h.wd.TJ h.below) j g)).mono (fun e x ⟨l,z,m⟩=>by subst m;exact h.no l (by decide))
 | EC=>exact absurd rfl G
 | AZ k t N H=>exact zG M p w s tb mb r u d W o.wp S A ev B C D F us args h L o.out k t N H
 | proc i b E _ =>
  obtain⟨q,I,y⟩:=h.wd.procs.get E;obtain⟨c,a,rfl,_,_⟩:=h.args;rw [h.wd.tq];refine zF w p M s tb mb r u d b c us.length a _ ?_;have:AH W S (.proc i) args=jC W S q args:=by unfold AH jC;dsimp only;rw [I]
  rw [this];exact o7 M p w s tb mb r u d W S A ev B C D _ us args h b q y
 | cont i b E =>
  obtain⟨q,I,y⟩:=h.wd.AG.get E;obtain⟨c,a,rfl,_,_⟩:=h.args;rw [h.wd.tc];refine zI w p M s tb mb r u d b c us.length a _ ?_;have:AH W S (.cont i) args=tF W S q args:=by unfold AH tF;dsimp only;rw [I];rfl
  rw [this];exact o8 M p w s tb mb r u d W S A ev B C D _ us args h b q y
theorem qR(M:Nat->Prop)(G w:World)(s:Sg)(tb mb A B j:Nat)(W:PW)(S:PS)(J ev K d L R:Value)(u:Value)(a:PV)(h:Ap M G w s tb mb A B j W S J ev K d L R [u] [a])(r:SR)
  (C:∀(U D:World)(t:Sg)(V:Value)(v:Value),Sg.Le s t->Ap M U D t tb mb A B j (W.keep S) S J ev K d L V [v] [.cont W.AG.length]->RV t u a->Calls prog 297 #[.pointer (some ⟨j,0,none⟩),u,V] D fun e f=>AS M U t tb mb A B j r e f) :
  Calls prog 301 #[.pointer (some ⟨j,0,none⟩),R] w fun e f=>AS M G s tb mb A B j r e f:=by
 have q:=h.MO;have aa:=aB q;have E:=aB h.run.blk;obtain⟨ao,N,rfl,X,k⟩:=h.args;obtain⟨g,m,ab,rfl,ac,O,n⟩:=k (by simp);have ad:=aB O;have z:RV s u a:=h.CH.2 0 u a rfl rfl;have d0:w.cell? ⟨g,m,none⟩=some u:=(aA O m).trans (by have:=n 0 u rfl;simpa using this);have e4:w.cell? ⟨j,4,none⟩=some d:=aA q 4
 have Y:Hid (∀f H,H=N->Calls prog 195 #[.string ⟨#[99,97,108,108,47,99,99]⟩,.int .i64 1,.slice (some ⟨g,m,none⟩) 1 H] f fun e D=>f=D/\e=.returned .nilIface):=fun f H P=>by
  subst P;refine Calls.mono (gR ⟨#[99,97,108,108,47,99,99]⟩ 1 (some ⟨g,m,none⟩) 1 H f (by omega) (by decide)) (fun e D ⟨h1,F⟩=>⟨h1,?_⟩);rcases F with⟨_,F⟩ | ⟨F,_⟩
  ·exact F
  ·exact absurd rfl F
 have HZ:Hid (Calls prog 297 #[.pointer (some ⟨j,0,none⟩),u,.slice (some ⟨w.heap.size+1,0,none⟩) 1 1] ((w.alloc (.cells #[d] J0)).alloc (.cells #[.iface 402 (.pointer (some ⟨w.heap.size,0,none⟩))] B9)).drew fun e f=>∃x,e=.returned x/\Hid (AS M G s tb mb A B j r (.returned x) f)):=by
  have Q:Below w.heap.size w (w.alloc (.cells #[d] J0)):=b_;have b:=h.below.trans (Q.mono h.below.size);have o:Stp M G M (w.alloc (.cells #[d] J0)):=Stp.AA b;obtain⟨k1,k2⟩:=h.wd.IJ b (p:=w.heap.size) h.below.size (heap_alloc_new w _) S.AB h.fr;have l:=s.LD w.heap.size;have hn:((w.alloc (.cells #[d] J0)).alloc (.cells #[.iface 402 (.pointer (some ⟨w.heap.size,0,none⟩))] B9)).drew.heap[w.heap.size+1]?=some (.cells #[.iface 402 (.pointer (some ⟨w.heap.size,0,none⟩))] B9 (0,0)):=by have:=heap_alloc_new (w.alloc (.cells #[d] J0)) (.cells #[.iface 402 (.pointer (some ⟨w.heap.size,0,none⟩))] B9);rw [show(w.alloc (.cells #[d] J0)).heap.size=w.heap.size+1 from by simp] at this;exact this
  have hA:Ap M (w.alloc (.cells #[d] J0)) ((w.alloc (.cells #[d] J0)).alloc (.cells #[.iface 402 (.pointer (some ⟨w.heap.size,0,none⟩))] B9)).drew (s.IJ w.heap.size) tb mb A B j (W.keep S) S J ev K d L (.slice (some ⟨w.heap.size+1,0,none⟩) 1 1) [.iface 402 (.pointer (some ⟨w.heap.size,0,none⟩))] [.cont W.AG.length] :=
   ⟨b_.drew,k1,⟨(b.block j E).trans h.run.blk,h.run.JK⟩,h.fr.go o l,h.out.below b,⟨rfl,fun i x y c I=>by
    match i,c,I with
    | 0,c,I=>simp at c I;subst c I;exact k2
    | i+1,c,_=>simp at c⟩,by simp,⟨_,1,rfl,n_,fun _=>⟨w.heap.size+1,0,_,rfl,by simp,hn,fun i x c=>by
    match i,c with
    | 0,c=>simp at c;subst c;rfl
    | i+1,c=>simp at c⟩⟩⟩
  exact(C _ _ _ _ _ l hA (z.le l)).mono (fun e f Z=>by
   obtain⟨x,rfl⟩:=Z.one
   exact⟨x,rfl,Z.M7 o l (EG.same rfl rfl)⟩)
 obtain⟨ok,rfl⟩:=h.fr.ptr;obtain⟨T,x,rfl⟩:=z.iface;have ae:(0:Int)<1:=by decide
 clear h q k O n z C;go_enter func301,ntmps301
 go_upto_region 4 with(go_at_call 195;refine(Y _ _ rfl).mono ?_;rintro e f ⟨rfl,rfl⟩)
 clear Y;go_region_with (go_at_call 297;refine Calls.mono HZ ?_;rintro e w3 ⟨x1,rfl,HQ⟩)
 all_goals
  go_wp2_with fail
  go_ret;exact HQ
theorem sM(w:World)(i:Nat)(g:Option Addr)(n a:Nat)(c:n≠1) :Calls prog 301 #[.pointer (some ⟨i,0,none⟩),.slice g n a] w fun e b=>w=b/\∃d,e=.returned (aY d 10):=by
 have j:Hid (∀b,Calls prog 195 #[.string ⟨#[99,97,108,108,47,99,99]⟩,.int .i64 1,.slice g n a] b fun e h=>b=h/\∃d,e=.returned (aY d 10)):=fun b=>by
  refine Calls.mono (gR ⟨#[99,97,108,108,47,99,99]⟩ 1 g n a b (by omega) (by decide)) (fun e h ⟨k,f⟩=>⟨k,?_⟩);rcases f with⟨f,_⟩ | ⟨_,f⟩
  ·exact absurd f c
  ·exact f
 clear c;go_enter func301,ntmps301;go_wp2_with (go_at_call 195;refine(j _).mono ?_;rintro e b ⟨rfl,d,rfl⟩;unfold aY);go_ret;exact⟨rfl,d,rfl⟩
theorem Wf.keep{W:PW}(h:Wf W)(S:PS):Wf (W.keep S):=⟨⟨h.wp.KV,fun i p a=>⟨(h.wp.CH i p a).1.le ⟨VP _,n_,by simp [Pl.PW.keep],n_⟩,(h.wp.CH i p a).2.le ⟨VP _,n_,by simp [Pl.PW.keep],n_⟩⟩⟩,h.out⟩
theorem aAB{W:PW}{v:PV}(h:BL W v)(S:PS):BL (W.keep S) v:=h.le ⟨VP _,n_,by simp [Pl.PW.keep],n_⟩
theorem Ap.later{w2:World}{s:Sg}{W:PW}{S:PS}{args:List PV}(h:Ap M w0 w s tb mb sb gb rb W S fv ev gv kv ov av us args)(d:Below w.heap.size w w2):Ap M w0 w2 s tb mb sb gb rb W S fv ev gv kv ov av us args :=
 ⟨h.below.trans (d.mono h.below.size),h.wd,h.run,h.fr,h.out,h.CH,h.len,by
  obtain⟨f,a,i,j,k⟩:=h.args;refine⟨f,a,i,j,fun l=>?_⟩;obtain⟨g,b,c,m,n,e,o⟩:=k l
  exact⟨g,b,c,m,n,(d.block g (aB e)).trans e,o⟩⟩
theorem nM(M:Nat->Prop)(f w:World)(s:Sg)(tb mb c d b:Nat)(W:PW)(q:Wf W)(S:PS)(g ev i j k o:Value)(u:Value)(a:PV)(h:Ap M f w s tb mb c d b W S g ev i j k o [u] [a])(r:BL W a)(m:a≠.AZ AU) :Calls prog 297 #[.pointer (some ⟨b,0,none⟩),.iface 83 (.agg #[]),o] w fun e y=>AS M f s tb mb c d b (AH (W.keep S) S a [.cont W.AG.length]) e y:=by obtain⟨z,n,rfl,_,_⟩:=h.args;refine vH w f M s tb mb c d b z 1 n _ ?_;refine qR M f _ s tb mb c d b W S g ev i j k _ u a (h.later b_) _ (fun A B t C v l D E=>?_);exact qS M A B t tb mb c d b (W.keep S) (q.keep S) S g ev i j k C [v] _ D (fun x p=>by simp at p;subst p;show W.AG.length<(W.AG++[S.AB]).length;simp) u a E (aAB r S) m
theorem XQ(M:Nat->Prop)(i w:World)(s:Sg)(tb mb d g b:Nat)(W:PW)(A:Wf W)(S:PS)(o ev p q r x:Value)(us:List Value)(args:List PV)(h:Ap M i w s tb mb d g b W S o ev p q r x us args)(F:∀v∈args,BL W v)(y:Value)(f:PV)(G:RV s y f)(B:BL W f) :Calls prog 297 #[.pointer (some ⟨b,0,none⟩),y,x] w fun e H=>AS M i s tb mb d g b (Pl.apply W S f args) e H:=by
 by_cases j:f=.AZ AU
 ·subst j
  obtain rfl:y=.iface 83 (.agg #[]):=by
   cases G with
   | AZ k t C D=>exact absurd (lR C) (by omega)
   | EC=>rfl
  by_cases n:args.length=1
  ·obtain⟨a,rfl⟩:∃a,args=[a]:=List.length_eq_one_iff.1 n;obtain⟨u,rfl⟩:∃u,us=[u]:=List.length_eq_one_iff.1 (h.CH.1.trans n);by_cases E:a=.AZ AU
   ·subst E;have m:Pl.apply W S (.AZ AU) [.AZ AU]=AH ((W.keep S).keep S) S (.cont W.AG.length) [.cont (W.AG.length+1)]:=by unfold Pl.apply;rw [if_pos rfl];dsimp only;rw [if_pos rfl]
    rw [m];obtain⟨z,c,rfl,_,_⟩:=h.args;refine vH w i M s tb mb d g b z 1 c _ ?_;refine qR M i _ s tb mb d g b W S o ev p q r _ u _ (h.later b_) _ (fun I J t K v l L N=>?_)
    obtain rfl:u=.iface 83 (.agg #[]):=by
     cases N with
     | AZ k t C D=>exact absurd (lR C) (by omega)
     | EC=>rfl
    have:=nM M I J t tb mb d g b (W.keep S) (A.keep S) S o ev p q r K v _ L (by show W.AG.length<(W.AG++[S.AB]).length;simp) (by simp);rw [show(W.keep S).AG.length=W.AG.length+1 from by simp [Pl.PW.keep]] at this;exact this
   ·have m:Pl.apply W S (.AZ AU) [a]=AH (W.keep S) S a [.cont W.AG.length]:=by
     unfold Pl.apply;rw [if_pos rfl];dsimp only;rw [if_neg E]
    rw [m];exact nM M i w s tb mb d g b W A S o ev p q r x u a h (F a (by simp)) E
  ·have m:Pl.apply W S (.AZ AU) args=⟨10,W,S⟩:=by
    unfold Pl.apply;rw [if_pos rfl]
    match args,n with
    | [],_=>rfl
    | [_],n=>exact absurd rfl n
    | _::_::_,_=>rfl
   rw [m];obtain⟨z,c,rfl,_,_⟩:=h.args;refine vH w i M s tb mb d g b z us.length c _ ?_;exact(sM _ b z us.length c (by rw [h.CH.1];exact n)).mono (fun e H ⟨O,Q,P⟩=>by subst O P;exact h.no b_ (by decide))
 ·have m:Pl.apply W S f args=AH W S f args:=if_neg j;rw [m];exact qS M i w s tb mb d g b W A S o ev p q r x us args h F y f G B j
end
end Go.Proofs.YtieooapcfpimlaaGreatDoor
