import Derived.Test.YtbgghmjmcapmlaaGreatDoorF34
import Derived.Test.YtbgghmjmcapmlaaGreatDoorF31
namespace Go.Proofs.YtbgghmjmcapmlaaGreatDoor
set_option maxHeartbeats 4000000
set_option maxRecDepth 100000
open Go.Proofs.Tryz
open Pl (PW PF SR AE A8)
theorem zL1{P:Prop}(h:P:=by
 go_wp2_with fail
 go_quiet (fail)
 all_goals
  go_wp2_with (go_at_call 184;refine(Calls.mono (m _) ?_);rintro e W ⟨v',J,rfl,d,s⟩;have l:=(show Hid _ from d);have K:=(show Hid _ from s);clear d s)
  exact⟨l,K⟩):P:=h
theorem zL2{P:Prop}(h:P:=by
 go_wp2_with fail
 go_quiet (fail)
 all_goals
  go_wp2_with fail
  go_quiet (fail)
  all_goals
   go_wp2_with fail
   go_ret2;exact B.out _ (by first | exact aGV _ _ | exact aHF _ _ _)):P:=h
section
open Go.RowKit Go.Maps Go.Lib
variable {w:World} {M:Q5} {F:Fg} {L:Lo} {N eb z T:Nat} {W:PW} {f:PF} {fv:Value}
theorem aHF(w:World)(n m:Nat):Q3 w ((w.drewN n).drewN m):=⟨rfl,rfl,rfl,n_,fun _ _=>rfl⟩
theorem p_fRun{c:Cx}{O:Q5}{u:Value}(L:RC M w F u f [])(h:St c M O w F (.pointer none) 0 c.W0)(k:c.At 0 c.W0 c.S0)(C:c.S0.form=some f)(N:c.S0.AB=[])(i:c.S0.env=[])(D:c.T=c.z+5000) :Q2 179 #[Q0 c.rb,u] w (RnQ c M O w F):=by
 have X:=h.bd.2.2;have E:=(k.wf C).nd;obtain⟨y,G,rfl,P,b⟩:=aGZ c L
 have m:Hid (Q2 y (#[pt c.rb,.pointer none]++G) w (fun e Q=>∃v a,e=aGG v a/\LpI c M O w F v a Q)) :=
  (b M O w F (.pointer none) (.pointer none) [] 0 c.W0 c.S0 (Stp.refl _ _) (Fg.Le.refl _) h (by rw [i];exact .nil) k C N x8).mono (fun e Q d=>by
   have R:=d.nx (show PlF M w F (.pointer none) [] from rfl);obtain⟨v,a,rfl⟩:=R.tup
   exact⟨v,a,rfl,R.after (Stp.refl _ _) (fun _ _=>rfl) (Fg.Le.refl _) n_ n_ x8⟩)
 have Y:∀(j:Array Value)(w:World),(callFunc y j).run prog w=.ok (.enter y j) w:=P;have z:Hid (∀v a wr,LpI c M O w F v a wr->Lp c M O w F v a wr):=fun v a wr q=>lp_of D X q;clear L h k C N i b P E;go_enter func179,ntmps179;go_wp2_with (go_at_fn y;refine(Calls.mono m ?_);rintro e w3 ⟨v,a,rfl,d⟩;have g:=(show Hid _ from d);clear d);clear m
 go_loopw [6,7] (fun v a wr=>Hid (LpI c M O w F v a wr)) (fun v a wr=>muL c v a wr)
 case atStart=>exact g
 case round =>
  rename_i v2 Z
  cases z.out _ _ _ hrel.out with
  | go n kv A i hk H S U c0 V =>
   subst i;obtain⟨o,rfl⟩:=H;have m:=h_ V;have p:((n:Nat):Int)<=(c.z:Int):=by omega
   clear V z g;have r:decide (n<=c.z)=true:=by simpa using A
   rcases hk with rfl | ⟨⟨T,x,rfl⟩,a9,I⟩
   ·clear hrel;exact zL1
   ·clear hrel;obtain rfl:o=some a9:=by simpa using I
    exact zL1
  | off n kv A i S U c0 t =>
   have B:=h_ t;have p:((n:Nat):Int)<=(c.z:Int):=by omega
   have r:decide (n<=c.z)=true:=by simpa using A
   clear t z g hrel;rcases i with⟨rfl,⟨T,x,rfl⟩,rfl⟩ | ⟨rfl,es,x,rfl⟩
   ·exact zL2
   ·unfold aY at *;exact zL2
  | spent n A p i S U t =>
   have B:=h_ t;have aa:(c.z:Int)<((n:Nat):Int):=by omega
   have r:decide (n<=c.z)=false:=by simp;omega
   clear t z g hrel;rcases i with⟨rfl,rfl | ⟨T,x,rfl⟩⟩ | ⟨rfl,es,x,rfl⟩
   all_goals
    try unfold aY at *
    go_wp2_with fail
    go_quiet (fail)
    all_goals
     go_wp2_with fail
     go_quiet (fail)
     all_goals
      go_wp2_with (go_at_call 185;refine(aJD _).mono ?_;rintro e W ⟨ab,rfl,rfl⟩;unfold aY)
      go_ret2;exact B.out _ _ (by first | exact aGV _ _ | exact aHF _ _ _)
theorem aHY(w:World)(i:Nat)(cs:Array Value)(j:Value)(b:AE)(k:w.heap[i]?=some (.cells cs TFMc (0,0)))(l:cs[6]?=some j)(a:w.ownsRow 0 JM 1 j b.length (byCells b)):Q2 181 #[.pointer (some ⟨i,6,none⟩)] w fun e n=>e=.returned (.string ⟨b.toArray⟩)/\w=n:=by
 have s:w.cell? ⟨i,6,none⟩=some j:=(aA k 6).trans l;obtain⟨o,d,rfl,m,f⟩:=cJ a
 have p:(convert 226 9 (.slice o b.length d)).run prog w=.ok (.string ⟨b.toArray⟩) w:=by
  rcases a.2 with⟨h,q⟩ | ⟨g,c,r,h,_⟩
  ·simp only [Value.slice.injEq] at h;obtain⟨rfl,_,rfl⟩:=h;obtain rfl:=e_ q;exact qY w _ _
  ·simp only [Value.slice.injEq] at h;obtain⟨rfl,_,rfl⟩:=h;have:=lY a b.length n_ d;rw [List.take_length] at this;exact this
 clear a f k l;go_enter func181,ntmps181;go_wp2_with fail;go_ret;exact⟨rfl,rfl⟩
def aGQ(z:Nat):Array Value:=#[.pointer none,.slice none 0 0,.nilIface,.slice none 0 0,Q1 0,Q1 z,.slice none 0 0]
inductive FRn (L:Lo) (r:SR) (N:Nat) (M:Q5) (w:World) (F:Fg):Ending->Prop
 | val (he:r.e=0) (h:FW L M (fun _=>False) w F N r.W):FRn L r N M w F (.returned (.tuple #[.string ⟨r.W.out.toArray⟩,.string ⟨(Pl.cut (Pl.text r.W.pairs r.S.val)).toArray⟩,.nilIface]))
 | err (es:Q8) (x:Nat) (he:r.e=x) (hx:x≠0) (h7:x≠7) (h:FW L M (fun _=>False) w F N r.W):FRn L r N M w F (.returned (.tuple #[.string ⟨r.W.out.toArray⟩,.string ⟨#[]⟩,aY es (x:Int)]))
 | spent (es:Q8) (W':PW) (he:r.e=7) (h:FW L M (fun _=>False) w F N W'):FRn L r N M w F (.returned (.tuple #[.string ⟨r.W.out.toArray⟩,.string ⟨#[]⟩,aY es 7]))
def FRunQ(L:Lo)(r:SR)(N:Nat)(M:Q5)(w:World)(F:Fg)(e:Ending)(w':World):Prop:=∃M' G,Stp M w M' w'/\Fg.Le F G/\FRn L r N M' w' G e
theorem fs_code(l:T=z+5000)(h:FW L M (fun _=>False) w F N W)(B:W.out=[])(C:CP M w F.s fv f)(D:J2 T W ⟨some f,[],.nothing,[]⟩)(E:z<=1000000)(X:IU f<=1100)(H:N+IU f+T<=9000000000000000000) :Q2 180 #[Q0 L.sb,fv,.pointer none] (w.alloc (.cells (aGQ z) TFMc)) fun e m=>∃d i,e=.returned (.func (.func d) #[] i)/\Q2 179 #[Q0 w.heap.size,.func (.func d) #[] i] m fun e n=>∃j G,Stp M w j n/\Fg.Le F G/\RnR ⟨L,w.heap.size,z,T,N+IU f,W,⟨some f,[],.nothing,[]⟩⟩ j (fun _=>False) n G e:=by
 have I:Q3 w (w.alloc (.cells (aGQ z) TFMc)):=b_;obtain⟨J,x⟩:=h.more I (fun k=>k=w.heap.size) (fun k o=>by omega) (fun k o=>by simp;omega);have y:(w.alloc (.cells (aGQ z) TFMc)).heap[w.heap.size]?=some (.cells (aGQ z) TFMc (0,0)):=heap_alloc_new w _;have p:∀k,(fun k=>k=w.heap.size) k->Cr (Mn M (fun k=>k=w.heap.size)) (w.alloc (.cells (aGQ z) TFMc)) F k:=fun k o=>by obtain rfl:k=w.heap.size:=o;refine⟨.inr rfl,⟨_,TFMc,y,.inr rfl⟩,fun K a=>?_⟩;obtain⟨Y,Z,gv,c,e,O,P,_⟩:=(h.sit K a).ex;have:=aB O;have:=aB P;omega
 refine(p_cmp L (fun _=>False) W (IU f) f n_ _ (fun k=>k=w.heap.size) _ F N fv (.pointer none) [] J p (C.go x (Sg.Le.refl _)) .nil r7 x8).mono (fun e m q=>?_);obtain⟨u,Q,G,rfl,b,A⟩:=q;obtain⟨d,i,rfl⟩:=A.func;refine⟨d,i,rfl,?_⟩;have r:=(b.row w.heap.size rfl).trans y;have s:=(b.cr w.heap.size rfl).1;have t:T<=1010000:=by omega
 have a:St ⟨L,w.heap.size,z,T,N+IU f,W,⟨some f,[],.nothing,[]⟩⟩ Q (fun _=>False) m G (.pointer none) 0 W:=by refine⟨b.fw,⟨.slice none 0 0,.nilIface,.slice none 0 0,.slice none 0 0,⟨r,s⟩,⟨World.ownsRow_nil _ _ _ _,fun g v=>by cases v⟩,?_⟩,⟨H,t,E⟩⟩;rw [B];exact⟨World.ownsRow_nil _ _ _ _,fun g v=>by cases v⟩
 refine(p_fRun (c:=⟨L,w.heap.size,z,T,N+IU f,W,⟨some f,[],.nothing,[]⟩⟩) A a ⟨.nil,by simpa using D,Nat.zero_le _⟩ rfl rfl rfl l).mono (fun e n q=>?_);obtain⟨j,R,S,_,U,V⟩:=q;exact⟨j,R,(x.trans b.AQ).trans S,b.le.trans U,V⟩
def FRdy(L:Lo)(r:SR)(N:Nat)(M:Q5)(w:World)(F:Fg)(rb:Nat)(e:Ending)(w3:World):Prop :=
 (∃T x,e=.returned (.tuple #[.iface T x,.nilIface])/\Q2 181 #[.pointer (some ⟨rb,6,none⟩)] w3 (fun e w'=>e=.returned (.string ⟨r.W.out.toArray⟩)/\w3=w')/\Q2 182 #[.iface T x] w3 (fun e w'=>e=.returned (.string ⟨(Pl.cut (Pl.text r.W.pairs r.S.val)).toArray⟩)/\FRunQ L r N M w F (.returned (.tuple #[.string ⟨r.W.out.toArray⟩,.string ⟨(Pl.cut (Pl.text r.W.pairs r.S.val)).toArray⟩,.nilIface])) w')) \/
 (∃es,∃x:Nat,e=.returned (.tuple #[.nilIface,aY es (x:Int)])/\Q2 181 #[.pointer (some ⟨rb,6,none⟩)] w3 (fun e w'=>e=.returned (.string ⟨r.W.out.toArray⟩)/\w3=w')/\FRunQ L r N M w F (.returned (.tuple #[.string ⟨r.W.out.toArray⟩,.string ⟨#[]⟩,aY es (x:Int)])) w3)
theorem fs_done{M3:Q5}{w3:World}{G:Fg}{e:Ending}(C:OU (A8 z W ⟨some f,[],.nothing,[]⟩).W)(D:(A8 z W ⟨some f,[],.nothing,[]⟩).e=0->BL (A8 z W ⟨some f,[],.nothing,[]⟩).W (A8 z W ⟨some f,[],.nothing,[]⟩).S.val)(o:Stp M w M3 w3)(p:Fg.Le F G)(E:RnR ⟨L,w.heap.size,z,T,N+IU f,W,⟨some f,[],.nothing,[]⟩⟩ M3 (fun _=>False) w3 G e) :FRdy L (A8 z W ⟨some f,[],.nothing,[]⟩) (N+IU f+T) M w F w.heap.size e w3:=by
 generalize b:A8 z W ⟨some f,[],.nothing,[]⟩=r at *
 cases E with
 | val v n d H g a t h =>simp only at a g;rw [b] at a;subst a;obtain⟨u,y,A,B,i,j,k⟩:=h.mc;have l:=h.fw.up (N':=N+IU f+T) zM4;obtain⟨I,x,rfl⟩:=t.iface;refine .inl ⟨I,x,rfl,aHY w3 w.heap.size _ i d.out j.blk rfl k.1,(hH d C G.s w3 _ H.val h.fw.TJ t (D rfl)).mono (fun e O q=>⟨q.1,M3,G,o.trans (Stp.AA q.2),p,.val rfl (l.below q.2)⟩)⟩
 | err m x n d g J K a c h =>simp only at a g c;rw [b] at a c;subst c;obtain⟨u,y,A,B,i,j,k⟩:=h.mc;have l:=h.fw.up (N':=N+IU f+T) zM4;exact .inr ⟨m,x,rfl,aHY w3 w.heap.size _ i r.W.out j.blk rfl k.1,M3,G,o,p,.err m x a J K l⟩
 | spent m n d g a s h =>simp only at a g s;rw [b] at a s;obtain⟨u,y,A,B,i,j,k⟩:=h.mc;have l:=h.fw.up (N':=N+IU f+T) zM4;exact .inr ⟨m,7,rfl,by rw [s];exact aHY w3 w.heap.size _ i d.out j.blk rfl k.1,M3,G,o,p,.spent m d a l⟩
theorem p_fsRun(c:T=z+5000)(h:FW L M (fun _=>False) w F N W)(s:W.out=[])(m:CP M w F.s fv f)(t:J2 T W ⟨some f,[],.nothing,[]⟩)(u:z<=1000000)(v:IU f<=1100)(A:N+IU f+T<=9000000000000000000)(B:OU (A8 z W ⟨some f,[],.nothing,[]⟩).W)(C:(A8 z W ⟨some f,[],.nothing,[]⟩).e=0->BL (A8 z W ⟨some f,[],.nothing,[]⟩).W (A8 z W ⟨some f,[],.nothing,[]⟩).S.val) :Q2 177 #[Q0 L.sb,fv,Q1 z] w (FRunQ L (A8 z W ⟨some f,[],.nothing,[]⟩) (N+IU f+T) M w F):=by
 have k:Hid (Q2 180 #[Q0 L.sb,fv,.pointer none] (w.alloc (.cells (aGQ z) TFMc)) fun e n=>∃d g,e=.returned (.func (.func d) #[] g)/\Q2 179 #[Q0 w.heap.size,.func (.func d) #[] g] n (FRdy L (A8 z W ⟨some f,[],.nothing,[]⟩) (N+IU f+T) M w F w.heap.size)):=(fs_code c h s m t u v A).mono (fun e n b=>by
  obtain⟨d,g,rfl,o⟩:=b
  exact⟨d,g,rfl,o.mono (fun e E b=>by
   obtain⟨K,G,H,I,o⟩:=b
   exact fs_done B C H I o)⟩)
 obtain⟨O,x,rfl⟩:=m.iface;generalize A8 z W ⟨some f,[],.nothing,[]⟩=r at *;generalize N+IU f+T=P at *;clear c;clear h s m t u v A B C;unfold aGQ at k;go_enter func177,ntmps177
 go_upto_region 3 with(first
  | (go_at_call 180;refine(Calls.mono k ?_);rintro e n ⟨d,g,rfl,D⟩;have p:=(show Hid _ from D);clear D)
  | (go_at_call 179;refine(Calls.mono p ?_);rintro e E (⟨Q,R,rfl,i,j⟩ | ⟨S,y,rfl,i,j⟩)))
 ·have a:=h_ i;have q:=h_ j;clear i j k p
  go_wp2_with (first
   | (go_at_call 181;refine(Calls.mono a ?_);rintro e J ⟨rfl,rfl⟩)
   | (go_at_call 182;refine(Calls.mono q ?_);rintro e U ⟨rfl,b⟩;have l:=(show Hid _ from b);clear b))
  go_ret3
  exact l
 ·have a:=h_ i;have l:=h_ j;clear i j k p;unfold aY at l ⊢;go_wp2_with (go_at_call 181;refine(Calls.mono a ?_);rintro e J ⟨rfl,rfl⟩)
  go_ret3
  exact l
def TEng:TypeId:=74
def aIR:Q8:=⟨#[114,117,110,110,105,110,103,32,119,104,97,116,32,99,111,109,101,115,32,98,101,104,105,110,100]⟩
def aHH(es:Q8):Value:=.iface 158 (.agg #[.string aIR,aY es 7])
structure FeAt(L:Lo)(M:Q5)(w:World)(F:Fg)(N:Nat)(W:PW)(eb:Nat)(sv:Value):Prop where
 fw:FW L M (fun _=>False) w F N W
 blk:w.heap[eb]?=some (.cells #[pt L.sb,sv] TEng (0,0))
 nm:¬M eb
 lo:8<=eb
theorem FeAt.below{w':World}{sv:Value}(h:FeAt L M w F N W eb sv)(a:Q3 w w'):FeAt L M w' F N W eb sv:=⟨h.fw.below a,(a.block eb (aB h.blk)).trans h.blk,h.nm,h.lo⟩
theorem Sty.set{c:Array Value}(b:w.heap[eb]?=some (.cells c TEng (0,0)))(f:8<=eb)(o:Nat)(v:Value):Sty w (w.setCell ⟨eb,o,none⟩ v):=by
 have a:∀k,k≠eb->(w.setCell ⟨eb,o,none⟩ v).heap[k]?=w.heap[k]? := fun k d=>Below.heap_setCell _ _ _ _ (fun e=>d a6);refine⟨zN1,fun {k i T} h g=>?_,fun {k j n} h=>?_,fun k d=>a k x8⟩
 ·exact(a k (fun e=>by
   subst e;rw [b] at h;simp only [o_,Obj.cells.injEq] at h
   exact g (.inr (.inl h.2.1.symm)))).trans h
 ·exact(a k (fun e=>by subst e;rw [b] at h;cases h)).trans h
def Xe(eb k:Nat):Prop:=k=eb
def FeQ(L:Lo)(r:SR)(N:Nat)(M:Q5)(w:World)(F:Fg)(eb:Nat)(e:Ending)(w':World):Prop:=∃M' G,Stp (Mn M (Xe eb)) w (Mn M' (Xe eb)) w'/\Fg.Le F G /\
 ((r.e=0/\FeAt L M' w' G N r.W eb .nilIface/\e=.returned (.tuple #[.string ⟨r.W.out.toArray⟩,.string ⟨(Pl.cut (Pl.text r.W.pairs r.S.val)).toArray⟩,.nilIface])) \/
  (∃es,∃x:Nat,r.e=x/\x≠0/\x≠7/\FeAt L M' w' G N r.W eb .nilIface/\e=.returned (.tuple #[.string ⟨r.W.out.toArray⟩,.string ⟨#[]⟩,aY es (x:Int)])) \/
  (∃es W',r.e=7/\FeAt L M' w' G N W' eb (aHH es)/\e=.returned (.tuple #[.string ⟨r.W.out.toArray⟩,.string ⟨#[]⟩,aY es 7])))
theorem aMM{M':Q5}{w':World}(h:Stp M w M' w'):Stp (Mn M (Xe eb)) w (Mn M' (Xe eb)) w':=⟨h.os,h.tape,h.output,h.size,fun k b a=>by
 obtain⟨c,d⟩:=h.block k b (fun x=>a (.inl x))
 exact⟨c,fun x=>x.elim d (fun y=>a (.inr y))⟩⟩
def IsQ(L:Lo)(r:SR)(N:Nat)(M:Q5)(w:World)(F:Fg)(eb:Nat)(e:Ending)(w3:World):Prop:=∃ot tx ev,e=.returned (.tuple #[.string ot,.string tx,ev]) /\
 ((ev=.nilIface/\FeQ L r N M w F eb e w3) \/
  (∃es,∃x:Int,ev=aY es x/\Q2 178 #[aY es x,.iface 142 (.int .i64 7)] w3 fun e4 w4=>(e4=.returned (.bool false)/\FeQ L r N M w F eb e w4)\/(e4=.returned (.bool true)/\w4.cell? ⟨eb,1,none⟩=some .nilIface/\w4.frozen? ⟨eb,1,none⟩=false/\FeQ L r N M w F eb e (w4.setCell ⟨eb,1,none⟩ (.iface 158 (.agg #[.string aIR,aY es x]))))))
theorem aM5{r:SR}{N0:Nat}(h:FeAt L M w F N0 W eb .nilIface){e:Ending}{w3:World}(c:FRunQ L r N M w F e w3):IsQ L r N M w F eb e w3:=by
 obtain⟨m,G,s,l,q⟩:=c;have t:=aB h.blk;obtain⟨u,j⟩:=s.block eb t h.nm;have b:=u.trans h.blk;have n:=aMM (eb:=eb) s
 cases q with
 | val d f=>exact⟨_,_,_,rfl,.inl ⟨rfl,m,G,n,l,.inl ⟨d,⟨f,b,j,h.lo⟩,rfl⟩⟩⟩
 | err a x d v y f =>
  refine⟨_,_,_,rfl,.inr ⟨a,x,rfl,(aJ2 a (x:Int) w3).mono (fun z A c=>?_)⟩⟩;obtain⟨rfl,rfl⟩:=c;have g:Q3 w3 (w3.alloc (.cells #[.string a,.iface 142 (.int .i64 (x:Int))] 158)):=b_;have o:((x:Int)==7)=false:=by simp;omega
  exact .inl ⟨by rw [o],m,G,n.trans (Stp.AA g),l,.inr (.inl ⟨a,x,d,v,y,(FeAt.mk f b j h.lo).below g,rfl⟩)⟩
 | spent a B d f =>refine⟨_,_,_,rfl,.inr ⟨a,7,rfl,(aJ2 a 7 w3).mono (fun z A c=>?_)⟩⟩;obtain⟨rfl,rfl⟩:=c;have g:Q3 w3 (w3.alloc (.cells #[.string a,.iface 142 (.int .i64 7)] 158)):=b_;have i:=(FeAt.mk f b j h.lo).below g;refine .inr ⟨rfl,aA i.blk 1,aF i.blk 1,m,G,?_,l,.inr (.inr ⟨a,B,d,⟨i.fw.sty (Sty.set i.blk h.lo 1 _),aD i.blk 1 _,j,h.lo⟩,rfl⟩)⟩;refine(n.trans (Stp.AA g)).trans ⟨rfl,rfl,rfl,zN1,fun k _ p=>⟨Below.heap_setCell _ _ _ _ (fun e=>p (.inr (show k=eb by simpa using e))),p⟩⟩
theorem p_feRun{r:SR}{N0:Nat}(h:FeAt L M w F N0 W eb .nilIface)(hi:∃T x,fv=.iface T x)(f:Q2 177 #[Q0 L.sb,fv,Q1 z] w (FRunQ L r N M w F)) :Q2 176 #[Q0 eb,fv,Q1 z] w (FeQ L r N M w F eb):=by
 have b:Hid (Q2 177 #[Q0 L.sb,fv,Q1 z] w (IsQ L r N M w F eb)):=f.mono (fun e i c=>aM5 h c);have l:w.cell? ⟨eb,0,none⟩=some (Q0 L.sb):=aA h.blk 0;have m:w.cell? ⟨eb,1,none⟩=some .nilIface:=aA h.blk 1;obtain⟨T,x,rfl⟩:=hi;clear h f;unfold IsQ aY aIR at b;go_enter func176,ntmps176
 go_upto_region 4 with(go_at_call 177;refine(Calls.mono b ?_);rintro e i ⟨n,o,p,rfl,c⟩)
 rcases c with⟨rfl,a⟩ | ⟨q,y,rfl,g⟩
 ·have d:=h_ a;clear a b;go_wp2_with (go_at_call 178;refine(Calls.mono (is_nil7 _ _) ?_);rintro e j ⟨rfl,rfl⟩)
  go_ret3
  exact d
 ·have k:=h_ g;clear g b;go_wp2_with (go_at_call 178;refine(Calls.mono k ?_);rintro e j (⟨rfl,a⟩ | ⟨rfl,s,t,a⟩)<;>(have d:=(show Hid _ from a);clear a))
  all_goals
   go_ret3
   exact d
theorem aK7(w:World)(eb d:Nat)(z:Int)(T:TypeId)(x:Value)(a:Q8)(c:w.heap[eb]?=some (.cells #[pt d,aHH a] TEng (0,0))) :Q2 176 #[Q0 eb,.iface T x,Q1 z] w fun e f=>e=.returned (.tuple #[.string ⟨#[]⟩,.string ⟨#[]⟩,aHH a])/\Q3 w f:=by
 have g:w.cell? ⟨eb,1,none⟩=some (aHH a):=aA c 1;have h:Hid (∀n,Q3 w (w.drewN n)):=fun n=>aGV w n;have b:Hid (Q3 w w.drew):=r_.drew;clear c;unfold aHH aY at g ⊢;go_enter func176,ntmps176;go_wp2_with fail
 go_region
 all_goals
  go_wp2_with fail
  go_ret3
  exact⟨rfl,by first | exact b.out | exact h.out _⟩
theorem p_newFE(w:World)(d:Option Addr)(Q:Nat->World->Prop)(h:Q2 18 #[.pointer d] w fun e c=>∃a,e=.returned (Q0 a)/\Q a c) :Q2 9 #[.pointer d] w fun e c=>∃a b,e=.returned (Q0 b.heap.size)/\c=b.alloc (.cells #[pt a,.nilIface] TEng)/\Q a b:=by have g:=h_ h;clear h;go_enter func9,ntmps9;go_wp2_with (go_at_call 18;refine(Calls.mono g ?_);rintro e b ⟨a,rfl,f⟩;have i:=(show Hid _ from f);clear f);go_ret;exact⟨a,b,rfl,rfl,i⟩
theorem FeAt.new(h:FW L M (fun _=>False) w F N W):FeAt L M (w.alloc (.cells #[pt L.sb,.nilIface] TEng)) F N W w.heap.size .nilIface :=⟨h.below b_,aF7 rfl,fun x=>Nat.lt_irrefl _ (h.mlt _ x),h.gs.size⟩
end
end Go.Proofs.YtbgghmjmcapmlaaGreatDoor
