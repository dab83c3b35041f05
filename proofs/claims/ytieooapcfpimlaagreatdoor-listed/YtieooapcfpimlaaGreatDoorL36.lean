import Derived.Test.YtieooapcfpimlaaGreatDoorL35
import Derived.Test.YtieooapcfpimlaaGreatDoorL28
namespace Go.Proofs.YtieooapcfpimlaaGreatDoor
set_option maxHeartbeats 1000000
set_option maxRecDepth 100000
open Go.Proofs.Tryz
open Pl (PV PW PS PF CW SR AE Env arity AO B0 AH BH A4 BA BR BW IA CS C8 DN DY DW A7 AU)
section
open Go.RowKit Go.Maps Go.Lib
variable {w w':World} {M O:Nat->Prop} {k n N:Nat} {kv av v:Value} {us xs:List Value}
theorem FW.TJ{L:Lo}{F:Fg}{W:PW}(h:FW L M O w F N W):QB w F.s W.pairs w.heap.size:=by
 refine⟨fun i k p b d=>?_,h.CY.pairs.nodup,h.CY.pairs.len,fun i k b e=>?_,fun i k b=>?_,h.gs.B3,h.gs.size,h.NH,h.pqi,h.AG.nodup⟩
 ·obtain⟨_,x,y,a,f⟩:=h.CY.pairs.at_ i k p b d;exact⟨aB a,x,y,a,f⟩
 ·have c:=(s_ b).1;obtain⟨u,g,_,_,a,_⟩:=h.pqa i k _ b (g_ (by rw [<- h.pql];exact c)) e;exact⟨aB a.2,_,by rw [h.tq];exact a.2⟩
 ·obtain⟨q,_,j,a,_⟩:=h.AG.get b;exact⟨aB a.2,_,by rw [h.tc];exact a.2⟩
def ArgR(w:World)(v:Value)(us:List Value):Prop:=∃ao cap,v=.slice ao us.length cap/\us.length<=cap/\∀(i:Nat)(u:Value),us[i]?=some u->∃g off,ao=some ⟨g,off,none⟩/\w.cell? ⟨g,off+i,none⟩=some u
theorem ArgsAt.r{s:Sg}(h:ArgsAt M O w s v us):ArgR w v us:=by
 obtain⟨e,a,f,j,c⟩:=h;refine⟨e,a,f,j,fun i u d=>?_⟩;rcases c with c | ⟨g,b,k,rfl,_,_,l,m,_⟩
 ·have:=(s_ d).1;omega
 ·exact⟨g,b,rfl,(aA l _).trans (m i u d)⟩
structure Pm(c:Cx)(M O:Nat->Prop)(w:World)(F:Fg)(kv:Value)(K:List CW)(k:Nat)(W:PW)(S S0:PS)(t:AE)(av:Value)(us:List Value)(args:List PV):Prop where
 st:Stt c M O w F kv (k+1) (k+1) W
 at_:c.At k W S
 ne:S.ended=false
 step:Pl.step W S=AH W S0 (.AZ t) args
 fr:S0.AB=K
 row:ArgR w av us
 CH:BY (RV F.s) us args
 wf:∀v∈args,BL W v
theorem Pm.blw{c:Cx}{F:Fg}{K:List CW}{W:PW}{S d:PS}{t:AE}{args:List PV}(h:Pm c M O w F kv K k W S d t av us args)(a:Below w.heap.size w w'):Stp M w M w'/\(∀b,O b->w'.heap[b]?=w.heap[b]?)/\Stt c M O w' F kv (k+1) (k+1) W:=⟨Stp.AA a,fun b e=>a.block b (h.st.fw.olt e),h.st.below a⟩
theorem Pm.no{c:Cx}{F:Fg}{K:List CW}{W:PW}{S a:PS}{t:AE}{args:List PV}(h:Pm c M O w F kv K k W S a t av us args)(e:Below w.heap.size w w'){x:Nat}(f:x≠0)(b:AH W a (.AZ t) args=⟨x,W,a⟩)(d:ByteArray):Post c M O w F kv K (k+1) 1 (aGG .nilIface (aY d (x:Int))) w':=by obtain⟨g,i,j⟩:=h.blw e;exact Post.faultT g i (Fg.Le.refl _) h.at_ h.ne d f (by rw [h.step,b]) (by rw [h.step,b]) j n_
theorem Pm.pure{c:Cx}{F:Fg}{K:List CW}{W:PW}{S a:PS}{t:AE}{args:List PV}(h:Pm c M O w F kv K k W S a t av us args)(d:Below w.heap.size w w'){f:PS->SR}{e:Ending}(b:GZ W F.s f e)(g:AH W a (.AZ t) args=f a):Post c M O w F kv K (k+1) 1 e w':=by
 rcases b with⟨v,q,rfl,i,b⟩ | ⟨j,x,l,rfl,b⟩
 ·obtain⟨m,n,o⟩:=h.blw d;exact Post.giveT m n (Fg.Le.refl _) h.at_ h.ne (h.step.trans (g.trans (b a))) (fun _=>rfl) rfl h.fr i o n_
 ·exact h.no d l (g.trans (b a)) j
theorem FW.DD{L:Lo}{F:Fg}{W:PW}(h:FW L M O w F N W){x y:Value}{p:PV×PV}(c:RV F.s x p.1)(d:RV F.s y p.2):FW L M O (w.alloc (.cells #[x,y] E0)) {F with s:=F.s.DD w.heap.size,pr:=F.pr++[]} N {W with pairs:=W.pairs++[p]}/\RV (F.s.DD w.heap.size) (.iface 213 (.pointer (some ⟨w.heap.size,0,none⟩))) (.pair W.pairs.length):=by have e:Below w.heap.size w (w.alloc (.cells #[x,y] E0)):=b_;have a:=h.below e;have l:Fg.Le F {F with s:=F.s.DD w.heap.size,pr:=F.pr++[]}:=Fg.le_s (F.s.EK w.heap.size);obtain⟨f,g⟩:=h.CY.pairs.push h.CY.mlt c d;exact⟨a.re l rfl rfl rfl rfl ⟨a.CY.B3,f,a.CY.FV,a.CY.JJ,a.CY.mlt⟩ rfl (fun _ _ x=>x) h.pql h.pqi (fun i b q j k m=>(a.pqa i b q j k m).go (Stp.refl _ _) l) (a.AG.mono (fun b x c=>c.go (Stp.refl _ _) l)) (a.places.le l.s rfl) a.oth (by simp [h.pr]),g⟩
theorem Pm.cons{c:Cx}{wa:World}{F:Fg}{K:List CW}{W:PW}{S e:PS}{t:AE}{args:List PV}(h:Pm c M O w F kv K k W S e t av us args)(i:Below w.heap.size w wa){x y:Value}{a b:PV}(j:RV F.s x a)(l:RV F.s y b)(m:AH W e (.AZ t) args=⟨0,{W with pairs:=W.pairs++[(a,b)]},e.A1 (.pair W.pairs.length)⟩):Post c M O w F kv K (k+1) 1 (aGG (.iface 213 (.pointer (some ⟨wa.heap.size,0,none⟩))) .nilIface) (wa.alloc (.cells #[x,y] E0)):=by obtain⟨n,o,f⟩:=h.blw i;have d:Below wa.heap.size wa (wa.alloc (.cells #[x,y] E0)):=b_;obtain⟨q,r⟩:=f.fw.DD (p:=(a,b)) j l;exact Post.giveT (n.trans (Stp.AA d)) (fun b g=>(d.block b (f.fw.olt g)).trans (o b g)) (Fg.le_s (F.s.EK _)) h.at_ h.ne (h.step.trans m) (fun _=>rfl) rfl h.fr r (f.fwd d q rfl) n_
theorem tBy:JM≠B9/\JM≠TGlb/\JM≠TCod/\JM≠TInt/\JM≠TFMc/\JM≠TFrm:=by decide
theorem Pm.disp{c:Cx}{F:Fg}{K:List CW}{W:PW}{S r:PS}{t:AE}{args:List PV}(h:Pm c M O w F kv K k W S r t av us args)(hz:k<c.z){lv av' gv ov:Value}(z:Mch c M w kv lv av' gv (k+1) ov)(A:LfR M w lv [])(J:DS M w ov W.out){a:PV}{e:Ending}(R:OR W w c.rb 6 ov W.out a e w')(L:AH W r (.AZ t) args=B0 W r A7 a):Post c M O w F kv K (k+1) 1 e w':=by
 have B:B0 W r A7 a=if W.out.length+(Pl.cut (Pl.text W.pairs a)).length<=1000 then⟨0,{W with out:=W.out++Pl.cut (Pl.text W.pairs a)},r.A1 .nothing⟩ else⟨11,W,r⟩:=if_pos rfl;rcases R with⟨N,i,T,rfl⟩ | ⟨N,rfl,P,i,s,C,d,j,u,rfl⟩
 ·exact h.no i (x:=11) (by decide) (by rw [L,B,if_neg (by omega)]) T
 ·rw [if_pos N] at B;have l:=aGK i J.1;have n:=z.below i;obtain⟨U,V⟩:=Mf.own (M:=M) l J.2 j d u tBy.1 tBy.2.1 tBy.2.2.1 tBy.2.2.2.1;have D:some c.rb≠ov.ownBlock:=fun e=>by obtain⟨o,f⟩:=aF9 l e.symm;exact aGF n.blk f tMc.2.2.2.2.2 rfl
  have p:C.heap[c.rb]?=some (.cells #[kv,lv,av',gv,.int .i64 ((k+1:Nat):Int),.int .i64 (c.z:Int),ov] TFMc (0,0)):=(j.block _ (aB n.blk) D).trans n.blk;have E:Mch c (Mn M (fun k=>s.ownBlock=some k/\P.heap.size<=k)) C kv lv av' gv (k+1) ov:=⟨p,.inl z.m⟩
  have G:=(Mf.below i).trans (U.trans (E.mf 6 s))
  have H:∀g,lv.ownBlock=some g->(C.setCell ⟨c.rb,6,none⟩ s).heap[g]?=w.heap[g]? := fun g v=>by
   obtain⟨o,f⟩:=aF9 A.1 v;have y:=(i.block g (aB f)).trans f;have X:g≠c.rb:=aGF f z.blk tMc.2.2.2.2.1.symm;have Y:some g≠ov.ownBlock:=fun e=>by obtain⟨Q,I⟩:=aF9 l e.symm;exact aGF y I tBy.2.2.2.2.2.symm rfl
   rw [Below.heap_setCell _ _ _ _ (fun x=>X (by simpa using x)),j.block g (aB y) Y,i.block g (aB f)]
  refine Post.giveT (M':=Mn M (fun k=>s.ownBlock=some k/\P.heap.size<=k)) G.AQ (fun b Z=>?_) (Fg.Le.refl _) h.at_ h.ne (h.step.trans (L.trans B)) (fun q=>by omega) rfl h.fr .nothing (m:=k+1) ⟨(h.st.fw.mf G).outW _,⟨lv,av',gv,s,⟨aD p 6 s,.inl z.m⟩,⟨aGD A.1 H,fun g v=>.inl (A.2 g v)⟩,⟨aGD d (fun g v=>Below.heap_setCell _ _ _ _ (fun x=>?_)),V⟩⟩,h.st.bd⟩ n_
  ·obtain⟨hm,⟨o,f⟩,_⟩:=h.st.fw.oth b Z;exact(G.same hm f (.inl rfl)).2.trans f.symm
  ·obtain⟨o,f⟩:=aF9 d v;exact aGF f p tBy.2.2.2.2.1 (by simpa using x)
theorem Pm.two{c:Cx}{F:Fg}{K:List CW}{W:PW}{S n:PS}{t:AE}{args:List PV}(h:Pm c M O w F kv K k W S n t av us args)(l:args.length=2):∃u v a b g d i,args=[a,b]/\av=.slice (some ⟨g,d,none⟩) 2 i/\w.cell? ⟨g,d,none⟩=some u/\w.cell? ⟨g,d+1,none⟩=some v/\RV F.s u a/\RV F.s v b:=by
 have j:=h.CH.1
 obtain⟨u,v,rfl⟩:∃u v,us=[u,v]:=by
  match us,j.trans l with
  | [u,v],_=>exact⟨u,v,rfl⟩
 obtain⟨a,b,rfl⟩:∃a b,args=[a,b]:=by
  match args,l with
  | [a,b],_=>exact⟨a,b,rfl⟩
 obtain⟨q,i,rfl,_,f⟩:=h.row;obtain⟨g,d,rfl,o⟩:=f 0 u rfl;obtain⟨r,m,e,p⟩:=f 1 v rfl;simp only [o_,Addr.mk.injEq,and_true] at e;obtain⟨rfl,rfl⟩:=e;exact⟨u,v,a,b,g,d,i,rfl,rfl,o,p,h.CH.2 0 u a rfl rfl,h.CH.2 1 v b rfl rfl⟩
theorem Pm.one{c:Cx}{F:Fg}{K:List CW}{W:PW}{S j:PS}{t:AE}{args:List PV}(h:Pm c M O w F kv K k W S j t av us args)(i:args.length=1):∃u a g b d,args=[a]/\av=.slice (some ⟨g,b,none⟩) 1 d/\w.cell? ⟨g,b,none⟩=some u/\RV F.s u a:=by have f:=h.CH.1;obtain⟨u,rfl⟩:∃u,us=[u]:=List.length_eq_one_iff.1 (f.trans i);obtain⟨a,rfl⟩:∃a,args=[a]:=List.length_eq_one_iff.1 i;obtain⟨m,d,rfl,_,e⟩:=h.row;obtain⟨g,b,rfl,l⟩:=e 0 u rfl;exact⟨u,a,g,b,d,rfl,rfl,l,h.CH.2 0 u a rfl rfl⟩
theorem f_ap0{c:Cx}{F:Fg}{K:List CW}{W:PW}{S i:PS}{args:List PV}(h:Pm c M O w F kv K k W S i BH av us args)(j:args.length=arity BH) :Calls prog 211 #[.int .i64 ((0:Nat):Int),av,.pointer (some ⟨c.rb,6,none⟩)] w (Post c M O w F kv K (k+1) 1):=by obtain⟨u,v,a,b,g,d,f,rfl,rfl,l,m,n,o⟩:=h.two j;exact(zE w F.s W g d f u v _ a b h.st.fw.JQ h.st.fw.NH l m n o (h.wf a (by simp)) (h.wf b (by simp))).mono (fun e r ⟨p,q⟩=>h.pure p q (fM W i BH a b (by decide)))
theorem f_ap1{c:Cx}{F:Fg}{K:List CW}{W:PW}{S i:PS}{args:List PV}(h:Pm c M O w F kv K k W S i A4 av us args)(j:args.length=arity A4) :Calls prog 211 #[.int .i64 ((1:Nat):Int),av,.pointer (some ⟨c.rb,6,none⟩)] w (Post c M O w F kv K (k+1) 1):=by obtain⟨u,v,a,b,g,d,f,rfl,rfl,l,m,n,o⟩:=h.two j;exact(zD w F.s W g d f u v _ a b h.st.fw.JQ h.st.fw.NH l m n o (h.wf a (by simp)) (h.wf b (by simp))).mono (fun e r ⟨p,q⟩=>h.pure p q (fM W i A4 a b (by decide)))
theorem f_ap2{c:Cx}{F:Fg}{K:List CW}{W:PW}{S i:PS}{args:List PV}(h:Pm c M O w F kv K k W S i BA av us args)(j:args.length=arity BA) :Calls prog 211 #[.int .i64 ((2:Nat):Int),av,.pointer (some ⟨c.rb,6,none⟩)] w (Post c M O w F kv K (k+1) 1):=by obtain⟨u,v,a,b,g,d,f,rfl,rfl,l,m,n,o⟩:=h.two j;exact(zC w F.s W g d f u v _ a b h.st.fw.JQ h.st.fw.NH l m n o (h.wf a (by simp)) (h.wf b (by simp))).mono (fun e r ⟨p,q⟩=>h.pure p q (fM W i BA a b (by decide)))
theorem f_ap3{c:Cx}{F:Fg}{K:List CW}{W:PW}{S i:PS}{args:List PV}(h:Pm c M O w F kv K k W S i BW av us args)(j:args.length=arity BW) :Calls prog 211 #[.int .i64 ((3:Nat):Int),av,.pointer (some ⟨c.rb,6,none⟩)] w (Post c M O w F kv K (k+1) 1):=by obtain⟨u,v,a,b,g,d,f,rfl,rfl,l,m,n,o⟩:=h.two j;exact(zB w F.s W g d f u v _ a b h.st.fw.JQ h.st.fw.NH l m n o (h.wf a (by simp)) (h.wf b (by simp))).mono (fun e r ⟨p,q⟩=>h.pure p q (fM W i BW a b (by decide)))
theorem f_ap4{c:Cx}{F:Fg}{K:List CW}{W:PW}{S i:PS}{args:List PV}(h:Pm c M O w F kv K k W S i IA av us args)(j:args.length=arity IA) :Calls prog 211 #[.int .i64 ((4:Nat):Int),av,.pointer (some ⟨c.rb,6,none⟩)] w (Post c M O w F kv K (k+1) 1):=by obtain⟨u,v,a,b,g,d,f,rfl,rfl,l,m,n,o⟩:=h.two j;exact(zA w F.s W g d f u v _ a b h.st.fw.JQ h.st.fw.NH l m n o (h.wf a (by simp)) (h.wf b (by simp))).mono (fun e r ⟨p,q⟩=>h.pure p q (fM W i IA a b (by decide)))
theorem f_ap6{c:Cx}{F:Fg}{K:List CW}{W:PW}{S f:PS}{args:List PV}(h:Pm c M O w F kv K k W S f DN av us args)(i:args.length=arity DN) :Calls prog 211 #[.int .i64 ((6:Nat):Int),av,.pointer (some ⟨c.rb,6,none⟩)] w (Post c M O w F kv K (k+1) 1):=by obtain⟨u,a,g,b,d,rfl,rfl,j,l⟩:=h.one i;exact(p_apply6 M w F.s W g b d u _ a h.st.fw.JQ h.st.fw.CY.pairs h.st.fw.NH j l).mono (fun e o ⟨m,n⟩=>h.pure m n (jX W f DN a (by decide)))
theorem f_ap7{c:Cx}{F:Fg}{K:List CW}{W:PW}{S f:PS}{args:List PV}(h:Pm c M O w F kv K k W S f C8 av us args)(i:args.length=arity C8) :Calls prog 211 #[.int .i64 ((7:Nat):Int),av,.pointer (some ⟨c.rb,6,none⟩)] w (Post c M O w F kv K (k+1) 1):=by obtain⟨u,a,g,b,d,rfl,rfl,j,l⟩:=h.one i;exact(p_apply7 M w F.s W g b d u _ a h.st.fw.JQ h.st.fw.CY.pairs h.st.fw.NH j l).mono (fun e o ⟨m,n⟩=>h.pure m n (jX W f C8 a (by decide)))
theorem f_ap8{c:Cx}{F:Fg}{K:List CW}{W:PW}{S f:PS}{args:List PV}(h:Pm c M O w F kv K k W S f DY av us args)(i:args.length=arity DY) :Calls prog 211 #[.int .i64 ((8:Nat):Int),av,.pointer (some ⟨c.rb,6,none⟩)] w (Post c M O w F kv K (k+1) 1):=by obtain⟨u,a,g,b,d,rfl,rfl,j,l⟩:=h.one i;exact(p_apply8 M w F.s W g b d u _ a h.st.fw.JQ h.st.fw.CY.pairs h.st.fw.NH j l).mono (fun e o ⟨m,n⟩=>h.pure m n (jX W f DY a (by decide)))
theorem f_ap9{c:Cx}{F:Fg}{K:List CW}{W:PW}{S f:PS}{args:List PV}(h:Pm c M O w F kv K k W S f DW av us args)(i:args.length=arity DW) :Calls prog 211 #[.int .i64 ((9:Nat):Int),av,.pointer (some ⟨c.rb,6,none⟩)] w (Post c M O w F kv K (k+1) 1):=by obtain⟨u,a,g,b,d,rfl,rfl,j,l⟩:=h.one i;exact(yZ M w F.s W g b d u _ a h.st.fw.JQ h.st.fw.CY.pairs h.st.fw.NH j l).mono (fun e o ⟨m,n⟩=>h.pure m n (jX W f DW a (by decide)))
theorem f_ap10{c:Cx}{F:Fg}{K:List CW}{W:PW}{S i:PS}{args:List PV}(h:Pm c M O w F kv K k W S i BR av us args)(j:args.length=arity BR) :Calls prog 211 #[.int .i64 ((10:Nat):Int),av,.pointer (some ⟨c.rb,6,none⟩)] w (Post c M O w F kv K (k+1) 1):=by obtain⟨u,v,a,b,g,d,f,rfl,rfl,l,m,n,o⟩:=h.two j;exact(vE w F.s W g d f _ u v _ a b h.st.fw.JQ h.st.fw.TJ l m n o).mono (fun e r ⟨p,q⟩=>h.pure p q (fM W i BR a b (by decide)))
theorem f_ap5{c:Cx}{F:Fg}{K:List CW}{W:PW}{S i:PS}{args:List PV}(h:Pm c M O w F kv K k W S i CS av us args)(m:args.length=arity CS) :Calls prog 211 #[.int .i64 ((5:Nat):Int),av,.pointer (some ⟨c.rb,6,none⟩)] w (Post c M O w F kv K (k+1) 1):=by
 obtain⟨u,v,a,b,g,d,f,rfl,rfl,n,o,j,l⟩:=h.two m
 exact(y9 w g d f u v _ h.st.fw.JQ n o j.iface l.iface).mono (fun e s ⟨t,p,q,r⟩=>by
  subst q r
  exact h.cons p j l ((fM W i CS a b (by decide)).trans (if_pos rfl)))
theorem f_ap11{c:Cx}{F:Fg}{K:List CW}{W:PW}{S f:PS}{args:List PV}(h:Pm c M O w F kv K k W S f A7 av us args)(l:k<c.z)(m:args.length=arity A7) :Calls prog 211 #[.int .i64 ((11:Nat):Int),av,.pointer (some ⟨c.rb,6,none⟩)] w (Post c M O w F kv K (k+1) 1):=by obtain⟨u,a,g,b,d,rfl,rfl,n,o⟩:=h.one m;obtain⟨y,p,z,q,i,r,j⟩:=h.st.mc;obtain⟨s,t,v,_⟩:=h.at_.inv;exact(vD w F.s W (aC2 v) c.rb 6 _ TFMc q W.out g b d u a h.st.fw.JQ h.st.fw.TJ o (h.wf a (by simp)) i.blk rfl j.1 tMc.2.2.2.2.2 s n).mono (fun e A x=>h.disp l i r j x (jX W f A7 a (by decide)))
theorem f_apply{c:Cx}{F:Fg}{K:List CW}{W:PW}{S g:PS}{t:AE}{args:List PV}(h:Pm c M O w F kv K k W S g t av us args)(j:k<c.z)(f:Nat)(a:AO[f]?=some t)(d:f<12) :Calls prog 211 #[.int .i64 (f:Int),av,.pointer (some ⟨c.rb,6,none⟩)] w (Post c M O w F kv K (k+1) 1):=by
 by_cases b:args.length=arity t
 ·match f,d,a with
  | 0,_,a=>obtain rfl:=i_ a;exact f_ap0 h b
  | 1,_,a=>obtain rfl:=i_ a;exact f_ap1 h b
  | 2,_,a=>obtain rfl:=i_ a;exact f_ap2 h b
  | 3,_,a=>obtain rfl:=i_ a;exact f_ap3 h b
  | 4,_,a=>obtain rfl:=i_ a;exact f_ap4 h b
  | 5,_,a=>obtain rfl:=i_ a;exact f_ap5 h b
  | 6,_,a=>obtain rfl:=i_ a;exact f_ap6 h b
  | 7,_,a=>obtain rfl:=i_ a;exact f_ap7 h b
  | 8,_,a=>obtain rfl:=i_ a;exact f_ap8 h b
  | 9,_,a=>obtain rfl:=i_ a;exact f_ap9 h b
  | 10,_,a=>obtain rfl:=i_ a;exact f_ap10 h b
  | 11,_,a=>obtain rfl:=i_ a;exact f_ap11 h j b
  | n+12,d,_=>omega
 ·have l:AH W g (.AZ t) args=⟨10,W,g⟩:=by
   show(if args.length≠arity t then _ else _)=_;rw [if_pos b]
  have m:=h.CH.1;obtain⟨o,i,rfl,_,_⟩:=h.row;exact(vC f t w o us.length i _ h.st.fw.JQ a d (by rw [m];exact b)).mono (fun e s ⟨p,q,r⟩=>by subst r;exact h.no p (x:=10) (by decide) l q)
theorem aJD(w:World):Calls prog 163 #[] w fun e a=>∃b,e=.returned (aY b 7)/\w=a:=by
 go_enter func163,ntmps163
 go_wp2_with (go_at_call 33;refine(bJ _ _ _).mono ?_;rintro e c ⟨rfl,rfl⟩)
 go_ret;exact⟨_,rfl,rfl⟩
theorem aK3{c:Cx}{F:Fg}{K:List CW}{W:PW}{S v:PS}{t:AE}{args:List PV}(h:Pm c M O w F kv K k W S v t av us args)(d:Nat)(x:AO[d]?=some t)(l:d<12) :Calls prog 196 #[.pointer (some ⟨c.rb,0,none⟩),.int .i64 (d:Int),av] w (Post c M O w F kv K (k+1) 1):=by
 have m:Below w.heap.size w w.drew:=r_.drew;have g:Pm c M O w.drew F kv K k W S v t av us args:=by obtain⟨n,a,o,p,q⟩:=h.row;exact⟨h.st.below m,h.at_,h.ne,h.step,h.fr,⟨n,a,o,p,fun i u y=>q i u y⟩,h.CH,h.wf⟩
 obtain⟨G,H,_⟩:=h.st.cells;have z:=h.st.bd;have A:=h.at_.le;obtain⟨n,a,rfl,_,_⟩:=h.row;by_cases B:k<c.z
 ·have C:Hid (Calls prog 211 #[.int .i64 (d:Int),.slice n us.length a,.pointer (some ⟨c.rb,6,none⟩)] w.drew (Post c M O w F kv K (k+1) 1)):=(f_apply g B d x l).mono (fun e I f=>f.after (Stp.AA m) (fun b _=>rfl) (Fg.Le.refl _) n_ n_);have r:((k+1:Nat):Int)<=(c.z:Int):=by omega
  clear h g;go_enter func196,ntmps196;go_wp2_with fail
  go_region
  go_wp2_with (go_at_call 211;refine(Calls.mono C ?_);intro e D f;obtain⟨J,L,rfl⟩:=f.tup;have s:=(show Hid _ from f);clear f)
  go_ret2;exact s
 ·have E:Hid (∀j,Post c M O w F kv K (k+1) 1 (aGG .nilIface (aY j 7)) w.drew):=fun j=>⟨M,F,k,W,S,Stp.AA m,fun _ _=>rfl,Fg.Le.refl _,h.at_,h.ne,by omega,by omega,.spent j (by omega) g.st⟩
  have r:(c.z:Int)<((k+1:Nat):Int):=by omega
  clear h g;go_enter func196,ntmps196;go_wp2_with fail
  go_region
  go_wp2_with (go_at_call 163;refine(aJD _).mono ?_;rintro e D ⟨j,rfl,rfl⟩)
  go_ret2;exact E.out _
def Ow(O:Nat->Prop)(v:Value)(k:Nat):Prop:=O k\/v.ownBlock=some k
theorem FW.ownApp{L:Lo}{F:Fg}{W:PW}{v':Value}{n':Nat}{xs':List Value}(h:FW L M (Ow O v) w F N W)(ho:w.ownsRow 0 B9 1 v n xs)(s:w.grownBy w' v.ownBlock)(z:w'.ownsRow 0 B9 1 v' n' xs')(A:∀g,v'.ownBlock=some g->v.ownBlock=some g\/w.heap.size<=g)(hO:∀g,v.ownBlock=some g->¬O g) :FW L (Mn M (fun k=>v'.ownBlock=some k/\w.heap.size<=k)) (Ow O v') w' F N W/\Stp M w (Mn M (fun k=>v'.ownBlock=some k/\w.heap.size<=k)) w'/\(∀k,O k->w'.heap[k]?=w.heap[k]?)/\(∀k,M k->k<w.heap.size->v.ownBlock≠some k->w'.heap[k]?=w.heap[k]?)/\∀g,v'.ownBlock=some g->¬O g:=by
 have B:=h.CY.mlt;have P:∀k,v.ownBlock=some k->M k:=fun k a=>(h.oth k (.inr a)).1;have j:Stp M w (Mn M (fun k=>v'.ownBlock=some k/\w.heap.size<=k)) w':=⟨s.os,s.tape,s.output,s.size,fun k a hn=>⟨s.block k a (fun e=>hn (P k e.symm)),fun x=>x.elim hn (fun y=>by have:=y.2;omega)⟩⟩
 have f:∀k,k<w.heap.size->v.ownBlock≠some k->w'.heap[k]?=w.heap[k]? := fun k a e=>s.block k a (fun q=>e q.symm)
 have r:∀{k:Nat} {T:TypeId} {Q:Array Value},w.heap[k]?=some (.cells Q T (0,0))->T≠B9->w'.heap[k]?=some (.cells Q T (0,0)):=fun {k} {T} {Q} a hT=>(f k (aB a) (fun e=>by
  obtain⟨d,u⟩:=aF9 ho e
  exact aGF a u hT rfl)).trans a
 obtain⟨R,nn,C⟩:=h.map.F6;obtain⟨ab,n2,t⟩:=h.CY.B3.F6
 have l:∀{k:Nat} {R:Array MapEntry} {n:Nat},w.heap[k]?=some (.map R n)->w'.heap[k]?=w.heap[k]? := fun {k} {R} {n} a=>f k (aB a) (fun e=>by
  obtain⟨d,u⟩:=aF9 ho e
  exact aGN a u rfl)
 have hl:=Fg.Le.refl F
 have S:∀g,v'.ownBlock=some g->¬O g:=fun g U D=>by
  rcases A g U with q | q
  ·exact hO g q D
  ·have:=B g (h.oth g (.inl D)).1;omega
 have E:∀k,O k->w'.heap[k]?=w.heap[k]? := fun k a=>by obtain⟨K,⟨d,V⟩,_⟩:=h.oth k (.inl a);exact f k (aB V) (fun e=>hO k e a)
 refine⟨⟨⟨h.CY.B3.keep (j.block _ h.CY.B3.lt.1 h.CY.JJ).1 (l t),h.CY.pairs.AQ j,.inl h.CY.FV,(j.block _ h.CY.B3.lt.1 h.CY.JJ).2,fun k a=>?_⟩,h.NN.go j,.inl h.TH,h.UE,h.map.keep (l C),h.gn,fun k g a=>?_,h.ginj,h.gall,h.gpl,fun G m=>?_,h.sn1,h.sn2,h.sgl,h.pql,h.pqi,fun i b q H I X=>(h.pqa i b q H I X).go j hl,h.AG.mono (fun b x hx=>hx.go j hl),⟨h.places.len,h.places.inj,fun i g o p J Y=>?_⟩,fun k a=>?_,h.pr,h.gs.AQ j,h.JQ.AQ h.gs j,(bY h.gs j kT).trans h.gt,?_,h.tq,h.tc,h.nl⟩,j,E,fun k _ a e=>f k a e,S⟩
 ·rcases a with a | a
  ·exact l_ (B k a) s.size
  ·exact(z.lt k a.1).2
 ·obtain⟨H,v',c,nm,I,X,h4⟩:=h.gat k g a;exact⟨.inl H,v',c,nm,I,r X tVs.2.2.1.symm,h4⟩
 ·obtain⟨k,a⟩:=h.sgl G m;obtain⟨us,mv,gv,c,e,e1,e2,e3,_⟩:=(h.sit G m).ex;exact(h.sit G m).go j (.inl (h.sit G m).mb) (.inl (h.sit G m).sb) ((r e1 tVs.1.symm).trans e1.symm) ((r e2 tVs.2.1.symm).trans e2.symm) ((r e3 tVs.2.2.1.symm).trans e3.symm)
 ·obtain⟨k1,d,x,k2,k3,k4⟩:=h.places.at_ i g o p J Y;exact⟨.inl k1,d,x,(f g (aB k2) (fun e=>(h.oth g (.inr e)).2.2 i o J)).trans k2,k3,k4⟩
 ·rcases a with a | a
  ·obtain⟨K,⟨d,V⟩,Z⟩:=h.oth k (.inl a);exact⟨.inl K,⟨d,(E k a).trans V⟩,Z⟩
  ·obtain⟨d,u⟩:=aF9 z a;rcases A k a with q | q
   ·obtain⟨K,_,Z⟩:=h.oth k (.inr q);exact⟨.inl K,⟨d,u⟩,Z⟩
   ·refine⟨.inr ⟨a,q⟩,⟨d,u⟩,fun i o e=>?_⟩;have aa:=(s_ e).1;obtain⟨p,Y⟩:∃p,W.places[i]?=some p:=⟨_,g_ (by rw [<- h.places.len];exact aa)⟩
    have:=aB (h.places.at_ i k o p e Y).2.choose_spec.choose_spec.1;omega
 ·obtain⟨v,H,I⟩:=h.ge;exact⟨v,(bY h.gs j kU).trans H,I⟩
def Mz(M:Nat->Prop)(v:Value)(k:Nat):Prop:=M k/\v.ownBlock≠some k
theorem Stp.freeze(M:Nat->Prop)(v:Value)(w:World):Stp M w (Mz M v) w:=⟨rfl,rfl,rfl,n_,fun _ _ a=>⟨rfl,fun x=>a x.1⟩⟩
theorem FW.freeze{L:Lo}{F:Fg}{W:PW}(h:FW L M (Ow O v) w F N W)(D:w.ownsRow 0 B9 1 v n xs)(H:∀g,v.ownBlock=some g->¬O g):FW L (Mz M v) O w F N W:=by
 have m:=Stp.freeze M v w;have E:=Fg.Le.refl F;have f:∀{k:Nat} {T:TypeId} {G:Array Value},w.heap[k]?=some (.cells G T (0,0))->T≠B9->v.ownBlock≠some k:=fun {k} {T} {G} a I e=>by obtain⟨j,z⟩:=aF9 D e;exact aGF a z I rfl
 have r:∀{k:Nat} {A:Array MapEntry} {n:Nat},w.heap[k]?=some (.map A n)->v.ownBlock≠some k:=fun {k} {A} {n} a e=>by obtain⟨j,z⟩:=aF9 D e;exact aGN a z rfl
 obtain⟨A,nn,s⟩:=h.map.F6;obtain⟨J,n2,l⟩:=h.CY.B3.F6;refine⟨⟨h.CY.B3,h.CY.pairs.AQ m,⟨h.CY.FV,r l⟩,fun x=>h.CY.JJ x.1,fun k a=>h.CY.mlt k a.1⟩,h.NN.go m,⟨h.TH,r s⟩,h.UE,h.map,h.gn,fun k g a=>?_,h.ginj,h.gall,h.gpl,fun u d=>?_,h.sn1,h.sn2,h.sgl,h.pql,h.pqi,fun i b q B C y=>(h.pqa i b q B C y).go m E,h.AG.mono (fun b x K=>K.go m E),⟨h.places.len,h.places.inj,fun i g o p t P=>?_⟩,fun k a=>?_,h.pr,h.gs.AQ m,h.JQ,h.gt,h.ge,h.tq,h.tc,h.nl⟩
 ·obtain⟨B,Q,c,R,C,y,S⟩:=h.gat k g a;exact⟨⟨B,f y tVs.2.2.1.symm⟩,Q,c,R,C,y,S⟩
 ·obtain⟨us,mv,gv,c,e,U,V,e3,_⟩:=(h.sit u d).ex;exact(h.sit u d).go m ⟨(h.sit u d).mb,f U tVs.1.symm⟩ ⟨(h.sit u d).sb,f V tVs.2.1.symm⟩ rfl rfl rfl
 ·obtain⟨X,j,x,Y,Z,k4⟩:=h.places.at_ i g o p t P;exact⟨⟨X,fun e=>(h.oth g (.inr e)).2.2 i o t⟩,j,x,Y,Z,k4⟩
 ·obtain⟨a1,a2,a3⟩:=h.oth k (.inl a);exact⟨⟨a1,fun e=>H k e a⟩,a2,a3⟩
theorem aHT{W:PW}{S:PS}{fr:CW}{K:List CW}{g:PV}{args:List PV}(a:S.form=none)(b:S.AB=fr::K)(c:fr.form.k=.call)(hp:fr.pos=fr.form.ks.length)(d:fr.B8++[S.val]=g::args):Pl.step W S=Pl.apply W {S with AB:=K} g args:=by rw [aGY a];simp only [Pl.taken,b,c,d,hp,if_true]
theorem aIG{W:PW}{S:PS}{fr:CW}{K:List CW}(a:S.form=none)(b:S.AB=fr::K)(c:fr.form.k=.call)(hp:fr.pos≠fr.form.ks.length):Pl.step W S=⟨0,W,(({S with AB:=K}:PS).push {fr with B8:=fr.B8++[S.val],pos:=fr.pos+1}).work fr.form.ks[fr.pos]? fr.env⟩:=by rw [aGY a];simp only [Pl.taken,b,c,if_neg hp]
theorem aII{t:AE}(h:AO[k]?=some t)(a:k<12):t≠AU:=by
 have:∀k:Fin 12,AO[k.1]? ≠ some AU:=by decide
 intro e;exact this ⟨k,a⟩ (by rw [h,e])
theorem aJM{W:PW}{S:PS}{t:AE}(h:AO[k]?=some t)(a:k<12)(args:List PV):Pl.apply W S (.AZ t) args=AH W S (.AZ t) args:=by unfold Pl.apply;rw [if_neg (fun e=>aII h a (Pl.PV.AZ.inj e))]
theorem Fs.entOne:Enters 220:=enters_of func220 (by kernel_rfl) rfl
theorem FsentTwo:Enters 221:=enters_of func221 (by kernel_rfl) rfl
theorem FsentTwo2:Enters 222:=enters_of func222 (by kernel_rfl) rfl
theorem Cx.At.val{c:Cx}{W:PW}{S:PS}(h:c.At n W S)(a:S.form=none):BL W S.val:=by obtain⟨t,_,b⟩:=h.ww;exact b.val a
theorem Cx.At.B8{c:Cx}{W:PW}{S:PS}(h:c.At n W S){fr:CW}{K:List CW}(a:S.AB=fr::K)(b:fr.form.k=.call):∀v∈fr.B8,BL W v:=by obtain⟨t,_,d⟩:=h.ww;exact((d.AB.1 fr (by rw [a];simp)).call b).2.2
theorem aJP{c:Cx}{M0:Nat->Prop}{w0:World}{A:Fg}{b kp:Nat}{t:AE}{fr:CW}{sc:List (List AE)}(B:fr.form.k=.call)(C:fr.form.ks.length=2)(D:fr.B8=[.AZ t])(hp:fr.pos=2)(s:AO[kp]?=some t)(f:kp<12)(g:Bx M0 w0 b (.int .i64 (kp:Int)) TPrm):TakeOk c M0 w0 A (fnV 220 #[pt b]) fr sc 1:=by
 refine⟨_,_,rfl,Fs.entOne,?_⟩;intro M O w F E G v K k W S n l h y o p q a J;show Calls prog 220 #[.pointer (some ⟨c.rb,0,none⟩),G,v,.pointer (some ⟨b,0,none⟩)] w _;have d:=(g.go n).cell;have L:=aB (g.go n).2;have j:Pl.step W S=AH W {S with AB:=K} (.AZ t) [S.val]:=(aHT p q B (by rw [hp,C]) (by rw [D];rfl)).trans (aJM s f _);have m:Below w.heap.size w (w.alloc (.cells #[v] B9)):=b_
 have H:Hid (Calls prog 196 #[.pointer (some ⟨c.rb,0,none⟩),.int .i64 (kp:Int),.slice (some ⟨w.heap.size,0,none⟩) 1 1] (w.alloc (.cells #[v] B9)) (Post c M O w F E K (k+1) 1)):=by
  refine(aK3 (us:=[v]) (args:=[S.val]) ⟨(h.below m).up (by omega),o,aF8 q,j,rfl,⟨_,1,rfl,n_,fun i u z=>?_⟩,(BY.nil _).cons a,fun x I=>by rw [List.mem_singleton.1 I];exact o.val p⟩ kp s f).mono (fun e N hp=>hp.after (Stp.AA m) (fun b g=>m.block b (h.fw.olt g)) (Fg.Le.refl _) n_ n_)
  cases i with
  | zero=>exact⟨_,0,rfl,(aA (heap_alloc_new w _) 0).trans (by simpa using z)⟩
  | succ i=>simp at z
 obtain⟨T,u,rfl⟩:=a.iface;obtain⟨P,rfl⟩:=y.ptr;clear h n y o g j a p q m;go_enter func220,ntmps220;go_wp2_with (go_at_call 196;refine(Calls.mono H ?_);intro e Q hp;obtain⟨R,U,rfl⟩:=hp.tup;have r:=(show Hid _ from hp);clear hp);go_ret2;exact r
theorem row_two(w:World)(u v:Value):ArgR (w.alloc (.cells #[u,v] B9)) (.slice (some ⟨w.heap.size,0,none⟩) 2 2) [u,v]:=by
 refine⟨_,2,rfl,n_,fun i x a=>?_⟩
 match i with
 | 0=>exact⟨_,0,rfl,(aA (heap_alloc_new w _) 0).trans (by simpa using a)⟩
 | 1=>exact⟨_,0,rfl,(aA (heap_alloc_new w _) 1).trans (by simpa using a)⟩
 | i+2=>simp at a
theorem aJV{c:Cx}{F:Fg}{u:Value}{K:List CW}{kp:Nat}{t:AE}{p:PV}{W:PW}{S:PS}{fr:CW}(h:Stt c M O w F kv (k+1) (k+1) W)(d:c.At k W S)(j:S.form=none)(f:S.AB=fr::K)(l:fr.form.k=.call)(q:fr.form.ks.length=3)(m:fr.B8=[.AZ t,p])(hp:fr.pos=3)(n:AO[kp]?=some t)(a:kp<12)(r:RV F.s u p)(s:RV F.s v S.val) :Calls prog 196 #[.pointer (some ⟨c.rb,0,none⟩),.int .i64 (kp:Int),.slice (some ⟨w.heap.size,0,none⟩) 2 2] (w.alloc (.cells #[u,v] B9)) (Post c M O w F kv K (k+1) 1):=by
 have g:Below w.heap.size w (w.alloc (.cells #[u,v] B9)):=b_;have i:Pl.step W S=AH W {S with AB:=K} (.AZ t) [p,S.val]:=(aHT j f l (by rw [hp,q]) (by rw [m];rfl)).trans (aJM n a _);refine(aK3 (us:=[u,v]) (args:=[p,S.val]) ⟨h.below g,d,aF8 f,i,rfl,row_two w u v,((BY.nil _).cons s).cons r,fun x o=>?_⟩ kp n a).mono (fun e z hp=>hp.after (Stp.AA g) (fun b y=>g.block b (h.fw.olt y)) (Fg.Le.refl _) n_ n_);simp only [List.mem_cons,List.not_mem_nil,or_false] at o;rcases o with rfl | rfl
 ·exact d.B8 f l _ (by rw [m];simp)
 ·exact d.val j
theorem aKB{P:Program}{g:Array Oper}{o:Oper}{a:Act}{K:Act->World->Prop}{Q:Exit->Act->World->Prop}{E:Prop}(j:o.guard=none)(l:Operand)(m:Array Operand)(n:Array TypeId)
  (p:o.op=.call {callee:=.value l,args:=m,argTypes:=n}) (f:Nat) (d:Array Value) (k:a.eval l=.func (.func f) #[] d) (q:∀(c:Array Value)(w:World),(callFunc f c).run P w=.ok (.enter f c) w)
  (b:Array Value) (r:m.map a.eval=b) {R:Ending->World->Prop} (s:Calls P f (b++d) w R) (h:∀e i,R e i->∃v,e=.returned v/\K (a.put o.dst v) i):if Region.wanted o (yielded g a.tmps)=true then Oper.wp P o a w K Q else E:=by
 have t:Region.wanted o (yielded g a.tmps)=true:=by simp [Region.wanted,j]
 rw [if_pos t];have u:(execOp a.eval o).run P w=.ok (.enter f (b++d)) w:=by subst r;simp [execOp,p,resolve,invoke,Deferred.ofValue,k,q]
 unfold Oper.wp;rw [u,Oper.upon_enter];refine s.mono (fun e i x=>?_);obtain⟨v,rfl,y⟩:=h e i x;exact y
theorem Stt.ownApp{c:Cx}{F:Fg}{nn m:Nat}{W:PW}{v':Value}{n':Nat}{xs':List Value}(h:Stt c M (Ow O v) w F kv nn m W)(q:w.ownsRow 0 B9 1 v n xs)(b:w.grownBy w' v.ownBlock)(o:w'.ownsRow 0 B9 1 v' n' xs')(p:∀g,v'.ownBlock=some g->v.ownBlock=some g\/w.heap.size<=g)(t:∀g,v.ownBlock=some g->¬O g) :Stt c (Mn M (fun k=>v'.ownBlock=some k/\w.heap.size<=k)) (Ow O v') w' F kv nn m W/\Stp M w (Mn M (fun k=>v'.ownBlock=some k/\w.heap.size<=k)) w'/\(∀k,O k->w'.heap[k]?=w.heap[k]?)/\∀g,v'.ownBlock=some g->¬O g:=by
 obtain⟨u,x,y,z,A⟩:=h.fw.ownApp q b o p t;obtain⟨B,C,D,E,i,j,l⟩:=h.mc
 have a:∀{k:Nat} {T:TypeId} {r:Array Value},M k->w.heap[k]?=some (.cells r T (0,0))->T≠B9->w'.heap[k]?=w.heap[k]? := fun {k} {T} {r} G s H=>z k G (aB s) (fun e=>by
  obtain⟨d,f⟩:=aF9 q e
  exact aGF s f H rfl)
 refine⟨⟨u,⟨B,C,D,E,⟨(a i.m i.blk tMc.1).trans i.blk,.inl i.m⟩,⟨aGD j.1 (fun g b=>?_),fun g b=>.inl (j.2 g b)⟩,⟨aGD l.1 (fun g b=>?_),fun g b=>.inl (l.2 g b)⟩⟩,h.bd⟩,x,y,A⟩
 ·obtain⟨d,f⟩:=aF9 j.1 b;exact a (j.2 g b) f tLf.1
 ·obtain⟨d,f⟩:=aF9 l.1 b;exact a (l.2 g b) f tBy.1
theorem Pend.freeze{c:Cx}{F:Fg}{nn:Nat}{W:PW}{p:List CW}{q:PV}{args:List PV}(h:Pend c M (Ow O v) w F kv nn W p q args)(r:w.ownsRow 0 B9 1 v n xs)(u:∀g,v.ownBlock=some g->¬O g):Pend c (Mz M v) O w F kv nn W p q args:=by
 obtain⟨y,z,A,B,C,D,i,j,E,l,G,H,I⟩:=h.mc;have J:=Stp.freeze M v w;have b:∀{k:Nat} {T:TypeId} {s:Array Value},w.heap[k]?=some (.cells s T (0,0))->T≠B9->v.ownBlock≠some k:=fun {k} {T} {s} K L e=>by obtain⟨a,d⟩:=aF9 r e;exact aGF K d L rfl
 refine⟨h.fw.freeze r u,⟨y,z,A,B,C,D,⟨i.blk,i.m,b i.blk tMc.1⟩,⟨j.1,fun g f=>⟨j.2 g f,?_⟩⟩,E.mono (fun _ _ x=>x.go J (Fg.Le.refl _)),⟨l.1,fun g f=>⟨l.2 g f,?_⟩⟩,G,?_,I⟩,h.bd,h.wf⟩
 ·obtain⟨a,d⟩:=aF9 j.1 f;exact b d tLf.1
 ·obtain⟨a,d⟩:=aF9 l.1 f;exact b d tBy.1
 ·obtain⟨N,m,P,Q,R⟩:=H;refine⟨N,m,P,Q,R.imp id ?_⟩;rintro⟨g,o,a,S,U,t,V,X,Y⟩;exact⟨g,o,a,S,⟨U,fun e=>t (.inr e)⟩,fun x=>t (.inl x),V,X,Y⟩
def AllOk(c:Cx)(M0:Nat->Prop)(w0:World)(F0:Fg)(u:Value)(env:Env)(sc:List (List AE))(a:List PV)(z:Nat):Prop:=∃kf cap,u=fnV kf cap/\Enters kf/\∀(M O:Nat->Prop)(w:World)(F:Fg)(kv hv vv:Value)(K:List CW)(fr:CW)(k:Nat)(W:PW)(S:PS)(us:List Value)(ps:List PV),Stp M0 w0 M w->Fg.Le F0 F->St c M O w F kv (k+1) W->EnvF M w F.s hv env sc->c.At k W S->S.form=none->S.AB=fr::K->fr.form.k=.call->fr.pos=fr.form.ks.length->fr.B8++[S.val]=a++ps->ArgsAt M O w F.s vv us->BY (RV F.s) us ps->us.length<=2000->k+1+z<=c.T ->
 Calls prog kf (#[pt c.rb,hv,vv]++cap) w (Post c M O w F kv K (k+1) z)
inductive GS (c:Cx) (f:PF) (env:Env) (K:List CW) (a:List PV) (l:Nat) (n:Nat) (W:PW) (ps:List PV):Prop
 | part (S:PS) (ha:c.At n W S) (hl:ps.length<l) (hf:S.form=f.ks[a.length+ps.length]?) (he:S.env=env) (hK:S.AB=⟨f,a++ps,a.length+ps.length+1,env⟩::K)
 | all (S:PS) (fr:CW) (k:Nat) (hn:n=k+1) (ha:c.At k W S) (hl:ps.length=l) (hf:S.form=none) (hfm:fr.form=f) (hK:S.AB=fr::K) (hp:fr.pos=f.ks.length) (hg:fr.B8++[S.val]=a++ps)
structure GaI(c:Cx)(M O:Nat->Prop)(w:World)(F:Fg)(kv:Value)(K:List CW)(n:Nat)(f:PF)(env:Env)(a:List PV)(l q:Nat)(sl hv tk:Value)(b1 b2 b3:Nat)(ws:List Value)(vv:Value)(wr:World):Prop where
 ex:∃M' G n' W' ps,Stp M w M' wr/\(∀b,O b->wr.heap[b]?=w.heap[b]?)/\Fg.Le F G/\St c M' (Ow O vv) wr G kv n' W'/\wr.ownsRow 0 B9 1 vv ws.length ws/\(∀g,vv.ownBlock=some g->¬O g)/\BY (RV G.s) ws ps/\GS c f env K a l n' W' ps/\n<=n'/\n'+2*OT (f.ks.drop (a.length+ps.length))<=q/\Bx M' wr b1 sl TCds/\Bx M' wr b2 hv TPlP/\Bx M' wr b3 tk TTk2
theorem GS.next{c:Cx}{f:PF}{env:Env}{K:List CW}{a ps:List PV}{l:Nat}{W:PW}{S:PS}(j:f.k=.call)(e:a.length+l=f.ks.length)(g:c.At k W S)(i:S.form=none)(b:S.AB=⟨f,a++ps,a.length+ps.length+1,env⟩::K)(n:ps.length<l)(m:k<c.T):GS c f env K a l (k+1) W (ps++[S.val]):=by
 by_cases h:ps.length+1=l
 ·exact .all S _ k rfl g (by simp [h]) i rfl b (by show a.length+ps.length+1=_;omega) (by simp)
 ·have d:=aIG (W:=W) i b j (show a.length+ps.length+1≠f.ks.length from by omega);exact .part _ (g.next (aF8 b) d (fun _=>rfl) m) (by simp;omega) (by simp [Pl.PS.work,Pl.PS.push];congr 1) rfl (by simp [Pl.PS.work,Pl.PS.push];omega)
end
end Go.Proofs.YtieooapcfpimlaaGreatDoor
