import Derived.Test.YtieooapcfpimlaaGreatDoorL29
import Derived.Deep.SlicePairs
import Derived.WideShapes
import Derived.ChangeMaps5
import Derived.Test.YtieooapcfpimlaaGreatDoorRows
import Derived.OpenShut
import Derived.ChangeSame
import Derived.FnData
namespace Go.Proofs.YtieooapcfpimlaaGreatDoor
set_option maxHeartbeats 4000000
set_option maxRecDepth 100000
open Go.Proofs.Tryz
open Pl (PW PS PF SR AE PO AW A8)
section
open Go.RowKit Go.Lib Go.Maps
variable {w w':World} {v:Value}
theorem p_ended(M:Nat->Prop)(w:World)(s:Sg)(o j:Nat)(S:PS)(l:AE)(h:LO M w s o j S l):Calls prog 145 #[.pointer (some ⟨j,1,none⟩)] w fun e p=>e=.returned (.bool S.ended)/\w=p:=by
 obtain⟨q,t,u,m,v,d,a,c,_⟩:=h.ex;have y:w.cell? ⟨j,1,none⟩=some q:=aA d.blk 1;have z:w.cell? ⟨j,4,none⟩=some m:=aA d.blk 4;unfold FE at a
 cases g:S.form with
 | some f =>
  rw [g] at a;obtain⟨T,x,rfl⟩:=a.1.iface;have i:Hid (S.ended=false):=show S.ended=false from by unfold Pl.PS.ended;rw [g];rfl
  clear a c d h;go_enter func145,ntmps145;go_wp2_with fail;go_ret;exact⟨by rw [i.out];rfl,rfl⟩
 | none =>
  rw [g] at a;obtain⟨rfl,_⟩:=a
  cases k:S.AB with
  | nil =>
   rw [k] at c;obtain rfl:m=.pointer none:=c;have i:Hid (S.ended=true):=show S.ended=true from by unfold Pl.PS.ended;rw [g,k];rfl
   clear d h;go_enter func145,ntmps145;go_wp2_with fail;go_ret;exact⟨by rw [i.out];rfl,rfl⟩
  | cons A n =>
   rw [k] at c;obtain⟨b,r,B,rfl,_⟩:=c;have i:Hid (S.ended=false):=show S.ended=false from by unfold Pl.PS.ended;rw [g,k];rfl
   clear d h;go_enter func145,ntmps145;go_wp2_with fail;go_ret;exact⟨by rw [i.out];rfl,rfl⟩
theorem nY{n:Nat}{W:PW}{S:PS}(h:S.ended=false):A8 (n+1) W S=if(Pl.step W S).e=0 then A8 n (Pl.step W S).W (Pl.step W S).S else Pl.step W S:=by show(if S.ended then _ else _)=_;rw [h];rfl
theorem aAE{n:Nat}{W:PW}{S:PS}(h:S.ended=true):A8 n W S=⟨0,W,S⟩:=by
 cases n with
 | zero=>show(if S.ended then _ else _)=_;rw [h];rfl
 | succ n=>show(if S.ended then _ else _)=_;rw [h];rfl
theorem wK{W:PW}{S:PS}(h:S.ended=false):A8 0 W S=⟨7,W,S⟩:=by show(if S.ended then _ else _)=_;rw [h];rfl
structure FinI(M:Nat->Prop)(w:World)(s:Sg)(tb mb sb gb rb:Nat)(r:SR)(m:Nat)(wr:World)(Mk:Nat->Prop)(sk:Sg)(Wk:PW)(Sk:PS):Prop where
 AQ:Stp M w Mk wr
 le:Sg.Le s sk/\EG w s sk
 wd:Wd Mk wr sk tb mb sb gb Wk
 sta:LO Mk wr sk sb rb Sk Wk.out
 inv:J2 m Wk Sk
 ne:Sk.ended=false
 eq:r=A8 m Wk Sk
theorem yV(M:Nat->Prop)(w:World)(s:Sg)(tb mb j k g n:Nat)(W:PW)(S:PS)(U:Wd M w s tb mb j k W)(B:LO M w s j g S W.out)(V:J2 n W S)(C:S.ended=false)(hn:n<=1000000) :Calls prog 141 #[.pointer (some ⟨g,0,none⟩),.int .i64 (n:Int)] w fun e D=>∃v,e=.returned v/\KA M w s tb mb j k g (A8 n W S) v D:=by
 have HI:Hid (FinI M w s tb mb j k g (A8 n W S) n w M s W S):=⟨Stp.refl _ _,⟨Sg.Le.refl _,EG.refl _ _⟩,U,B,V,C,rfl⟩
 clear U B V C;generalize A8 n W S=r at *;go_enter func141,ntmps141;go_wp2_with fail
 go_loopw [7] (fun Q wr=>∃(i:Nat)(E:Nat->Prop)(F:Sg)(b:PW)(c:PS),Q=.int .i64 (i:Int)/\i<=n/\Hid (FinI M w s tb mb j k g r (n-i) wr E F b c)) (fun Q _=>n-(RowKit.intOf Q).toNat)
 case atStart=>exact⟨0,M,s,W,S,rfl,Nat.zero_le _,HI⟩
 case round =>
  obtain⟨i,E,F,b,c,rfl,hi,O⟩:=hrel;by_cases ab:i<n
  ·obtain⟨m,X⟩:∃m,n-i=m+1:=⟨n-i-1,by omega⟩
   have d:=O.out;rw [X] at d;obtain⟨R,T,G⟩:=wF d.inv;obtain⟨Y,t,H,I,m2,J,Z⟩:=d.inv;have HS:Hid (Calls prog 144 #[.pointer (some ⟨g,0,none⟩)] wr fun e D=>∃v,e=.returned v/\KA E wr F tb mb j k g (Pl.step b c) v D):=p_step E wr F tb mb j k g t m2 b c d.wd d.wd.CY.B3.nsok d.sta H I J (t_ (Nat.le_add_right _ _) Z) Y d.ne;have aa:(i:Int)<(n:Int):=by omega
   have HZ:Hid (((Pl.step b c).e=0->(Pl.step b c).S.ended=true\/J2 m (Pl.step b c).W (Pl.step b c).S)/\n-(i+1)=m):=⟨G,by omega⟩
   have a:=h_ d;clear R T G d Y H I Z J X O
   go_upto_region 4 with(go_at_call 144;refine Calls.mono HS ?_;rintro e u ⟨v,rfl,HQ⟩)
   obtain⟨K,L,x,l,y,⟨p,N,q⟩ | ⟨z,p,N,q⟩⟩:=HQ
   ·simp only [Ending.returned.injEq] at N;subst N;have o:=nY (n:=m) (W:=b) (S:=c) a.ne;rw [if_pos p] at o;have P:Hid (Calls prog 145 #[.pointer (some ⟨g,1,none⟩)] u fun e D=>e=.returned (.bool (Pl.step b c).S.ended)/\u=D):=p_ended K u L j g _ _ q
    cases f:(Pl.step b c).S.ended with
    | true =>
     rw [f] at P
     have A:Hid (KA M w s tb mb j k g r .nilIface u):=by
      have hr:r=⟨0,(Pl.step b c).W,(Pl.step b c).S⟩:=by rw [a.eq,o,aAE f]
      rw [hr];exact⟨K,L,a.AQ.trans x,⟨a.le.1.trans l.1,a.le.2.trans l.2 a.AQ.size⟩,y,.inl ⟨rfl,rfl,q⟩⟩
     clear x l y p q o f;go_wp2_with (go_at_call 145;refine Calls.mono P ?_;rintro e w3 ⟨rfl,rfl⟩);go_ret;exact⟨_,rfl,A⟩
    | false =>
     rw [f] at P
     have HN:Hid (FinI M w s tb mb j k g r m u K L (Pl.step b c).W (Pl.step b c).S):=by
      refine⟨a.AQ.trans x,⟨a.le.1.trans l.1,a.le.2.trans l.2 a.AQ.size⟩,y,q,?_,f,by rw [a.eq,o]⟩;rcases HZ.1 p with h | h
      ·rw [f] at h;cases h
      ·exact h
     clear x l y p q o f;go_wp2_with (go_at_call 145;refine Calls.mono P ?_;rintro e w3 ⟨rfl,rfl⟩)
     go_roundw
     case rel=>exact⟨i+1,K,L,_,_,by go_num,by omega,by rw [HZ.2];exact HN⟩
     case measure=>simp only [RowKit.intOf];omega
   ·simp only [Ending.returned.injEq] at N;subst N;have o:=nY (n:=m) (W:=b) (S:=c) a.ne;rw [if_neg p] at o;have A:Hid (KA M w s tb mb j k g r (aY z ((Pl.step b c).e:Nat)) u):=by rw [a.eq,o];exact⟨K,L,a.AQ.trans x,⟨a.le.1.trans l.1,a.le.2.trans l.2 a.AQ.size⟩,y,.inr ⟨z,p,rfl,q⟩⟩
    clear x l y p q o;generalize (Pl.step b c).e=ec at *;unfold aY at A ⊢;go_wp2_with fail;go_ret;exact⟨_,rfl,A⟩
  ·obtain rfl:i=n:=by omega
   have d:=O.out;rw [Nat.sub_self] at d;have A:Hid (∀z,KA M w s tb mb j k g r (aY z 7) wr):=fun z=>by rw [d.eq,wK d.ne];exact⟨E,F,d.AQ,d.le,d.wd,.inr ⟨z,by simp,rfl,d.sta.out_⟩⟩
   clear d O;go_wp2_with (go_at_call 33;refine(bJ _ _ _).mono ?_;rintro e w3 ⟨rfl,rfl⟩);go_ret;exact⟨_,rfl,A _⟩
theorem qN(w:World)(i:Nat)(cs:Array Value)(j:Value)(b:AE)(k:w.heap[i]?=some (.cells cs BT (0,0)))(l:cs[5]?=some j)(a:w.ownsRow 0 JM 1 j b.length (byCells b)):Calls prog 142 #[.pointer (some ⟨i,5,none⟩)] w fun e n=>e=.returned (.string ⟨b.toArray⟩)/\w=n:=by
 have s:w.cell? ⟨i,5,none⟩=some j:=(aA k 5).trans l;obtain⟨o,d,rfl,m,f⟩:=cJ a
 have p:(convert 72 9 (.slice o b.length d)).run prog w=.ok (.string ⟨b.toArray⟩) w:=by
  rcases a.2 with⟨h,q⟩ | ⟨g,c,r,h,_⟩
  ·simp only [Value.slice.injEq] at h;obtain⟨rfl,_,rfl⟩:=h;obtain rfl:=e_ q;exact qY w _ _
  ·simp only [Value.slice.injEq] at h;obtain⟨rfl,_,rfl⟩:=h;have:=lY a b.length n_ d;rw [List.take_length] at this;exact this
 clear a f k l;go_enter func142,ntmps142;go_wp2_with fail;go_ret;exact⟨rfl,rfl⟩
def cQ(sb:Nat)(fv:Value):Array Value:=#[.pointer (some ⟨sb,0,none⟩),fv,.pointer none,.nilIface,.pointer none,.slice none 0 0]
theorem p_start(w:World)(b:Nat)(a:Value)(c:∃T x,a=.iface T x):Calls prog 140 #[.pointer (some ⟨b,0,none⟩),a] w fun e d=>e=.returned (.pointer (some ⟨w.heap.size,0,none⟩))/\d=w.alloc (.cells (cQ b a) BT):=by obtain⟨T,x,rfl⟩:=c;go_enter func140,ntmps140;go_wp2_with fail;go_ret;exact⟨rfl,rfl⟩
def ZP(M:Nat->Prop)(w:World)(s:Sg)(tb mb sb gb:Nat)(r:SR)(e:Ending)(w':World):Prop :=
 ∃(M':Nat->Prop)(s':Sg)(tx:AE)(ev:Value),Stp M w M' w'/\(Sg.Le s s'/\EG w s s')/\Wd M' w' s' tb mb sb gb r.W/\e=.returned (.tuple #[.string ⟨r.W.out.toArray⟩,.string ⟨tx.toArray⟩,ev]) /\
  ((r.e=0/\ev=.nilIface/\tx=Pl.cut (Pl.text r.W.pairs r.S.val))\/(r.e≠0/\tx=[]/\∃es,ev=aY es (r.e:Nat)))
theorem Wd.out0{M:Nat->Prop}{s:Sg}{tb mb sb gb:Nat}{W:PW}(h:Wd M w s tb mb sb gb W)(o:AE):Wd M w s tb mb sb gb {W with out:=o}:=h.more (Sg.Le.refl _) rfl rfl rfl rfl rfl rfl h.procs h.AG
theorem p_run(M:Nat->Prop)(w:World)(s:Sg)(tb mb c z n:Nat)(W:PW)(f:PF)(i:Value)(Y:Wd M w s tb mb c z W)(Z:W.out=[])(I:CP M w s i f)(hI:J2 n W ⟨some f,[],.nothing,[]⟩)(hn:n<=1000000)(hP:OU (A8 n W ⟨some f,[],.nothing,[]⟩).W)(hv:(A8 n W ⟨some f,[],.nothing,[]⟩).e=0->(A8 n W ⟨some f,[],.nothing,[]⟩).S.form=none/\BL (A8 n W ⟨some f,[],.nothing,[]⟩).W (A8 n W ⟨some f,[],.nothing,[]⟩).S.val) :Calls prog 139 #[.pointer (some ⟨c,0,none⟩),i,.int .i64 (n:Int)] w fun e m=>ZP M w s tb mb c z (A8 n W ⟨some f,[],.nothing,[]⟩) e m:=by
 have C:Below w.heap.size w (w.alloc (.cells (cQ c i) BT)):=b_;have o:Mv M w (Mn M (fun k=>k=w.heap.size)) (w.alloc (.cells (cQ c i) BT)):=Mv.wide _ (fun k P=>by rw [P];exact n_) C (fun k P=>by rw [P];simp);have t:(w.alloc (.cells (cQ c i) BT)).heap[w.heap.size]?=some (.cells (cQ c i) BT (0,0)):=heap_alloc_new w _;have u:LO (Mn M (fun k=>k=w.heap.size)) (w.alloc (.cells (cQ c i) BT)) s c w.heap.size ⟨some f,[],.nothing,[]⟩ W.out:=by rw [Z];exact⟨i,.pointer none,.nilIface,.pointer none,.slice none 0 0,⟨t,.inr rfl⟩,⟨I.go o.AQ (Sg.Le.refl _),.nil⟩,rfl,⟨World.ownsRow_nil _ _ _ _,fun g Q=>by cases Q⟩⟩
 have HS:=h_ (p_start w c i I.iface);have HF:Hid (Calls prog 141 #[.pointer (some ⟨w.heap.size,0,none⟩),.int .i64 (n:Int)] (w.alloc (.cells (cQ c i) BT)) fun e m=>∃v,e=.returned v/\KA (Mn M (fun k=>k=w.heap.size)) (w.alloc (.cells (cQ c i) BT)) s tb mb c z w.heap.size (A8 n W ⟨some f,[],.nothing,[]⟩) v m):=yV _ _ s tb mb c z w.heap.size n W _ (Y.mv o) u hI rfl hn;have J:=h_ o.AQ;have HP:Hid (OU (A8 n W ⟨some f,[],.nothing,[]⟩).W/\((A8 n W ⟨some f,[],.nothing,[]⟩).e=0->(A8 n W ⟨some f,[],.nothing,[]⟩).S.form=none/\BL (A8 n W ⟨some f,[],.nothing,[]⟩).W (A8 n W ⟨some f,[],.nothing,[]⟩).S.val)):=⟨hP,hv⟩
 obtain⟨T,x,rfl⟩:=I.iface;clear Y Z I hI hP hv C o t u;generalize A8 n W ⟨some f,[],.nothing,[]⟩=r at *;go_enter func139,ntmps139
 go_upto_region 3 with(first
  | (go_at_call 140;refine Calls.mono HS ?_;rintro e j ⟨rfl,rfl⟩)
  | (go_at_call 141;refine Calls.mono HF ?_;rintro e d ⟨v,rfl,HQ⟩))
 obtain⟨M2,R,K,A,D,⟨B,E,L⟩ | ⟨es,B,E,L⟩⟩:=HQ
 ·simp only [Ending.returned.injEq] at E;subst E;obtain⟨k7,k8⟩:=HP.2 B;obtain⟨S,U,p,V,y,a,b,F,h⟩:=L.ex;unfold FE at b;rw [k7] at b;have e3:d.cell? ⟨w.heap.size,3,none⟩=some p:=aA a.blk 3;have G:=aB a.blk;have l:Hid (∀j,Below d.heap.size d j->Calls prog 142 #[.pointer (some ⟨w.heap.size,5,none⟩)] j fun e m=>e=.returned (.string ⟨r.W.out.toArray⟩)/\j=m):=fun j q=>qN j w.heap.size _ y r.W.out ((q.block _ G).trans a.blk) rfl (gA h.1 (fun g Q=>q.block g (h.1.lt g Q).2));have X:Hid (∀j,Below d.heap.size d j->Calls prog 143 #[p] j fun e m=>e=.returned (.string ⟨(Pl.cut (Pl.text r.W.pairs r.S.val)).toArray⟩)/\Hid (Below d.heap.size d m)):=fun j q=>(hH r.W HP.1 R j p r.S.val (D.TJ q) b.2 k8).mono (fun e m ⟨j1,j2⟩=>⟨j1,q.trans (j2.mono q.size)⟩);have N:Hid (∀O,Below d.heap.size d O->ZP M w s tb mb c z r (.returned (.tuple #[.string ⟨r.W.out.toArray⟩,.string ⟨(Pl.cut (Pl.text r.W.pairs r.S.val)).toArray⟩,.nilIface])) O):=fun O q=>⟨M2,R,_,_,(J.trans K).trans (Stp.AA q),⟨A.1,A.2.back J.size⟩,D.mv (Mv.below q),rfl,.inl ⟨B,rfl,rfl⟩⟩
  obtain⟨Tg,xg,rfl⟩:=b.2.iface;clear K A D B L k7 k8 a b F h;generalize Pl.cut (Pl.text r.W.pairs r.S.val)=tx at *;generalize r.W.out=ot at *;go_wp2_with fail
  go_region_with (first
   | (go_at_call 143;refine(X _ (by exact r_.drew)).mono ?_;rintro e O ⟨rfl,H⟩)
   | (go_at_call 142;refine(l _ (by first | exact r_.drew | exact H)).mono ?_;rintro e w4 ⟨rfl,rfl⟩))
  all_goals
   go_wp2_with fail
   go_ret3
   exact N.out _ H
 ·simp only [Ending.returned.injEq] at E;subst E;obtain⟨S,U,p,V,y,a,h⟩:=L;have G:=aB a.blk;have l:Hid (Calls prog 142 #[.pointer (some ⟨w.heap.size,5,none⟩)] d fun e m=>e=.returned (.string ⟨r.W.out.toArray⟩)/\d=m):=qN d w.heap.size _ y r.W.out a.blk rfl h.1;have N:Hid (ZP M w s tb mb c z r (.returned (.tuple #[.string ⟨r.W.out.toArray⟩,.string ⟨#[]⟩,aY es (r.e:Nat)])) d):=⟨M2,R,[],_,J.trans K,⟨A.1,A.2.back J.size⟩,D,rfl,.inr ⟨B,rfl,es,rfl⟩⟩
  clear K A D B a h;generalize r.W.out=ot at *;generalize aa:r.e=re at *;unfold aY at N ⊢;go_wp2_with (go_at_call 142;refine Calls.mono l ?_;rintro e w4 ⟨rfl,rfl⟩)
  go_ret3
  exact N
theorem LH.grown{R:Nat}{c:Array Value}{b:Nat×Nat}(g:w.grownBy w' (some R))(d:w.heap[R]?=some (.cells c FZ b))(h:8<=R):LH w w' :=
 ⟨g.size,fun k x a f=>(g.block k (aB a) (fun e=>by
   have:=i_ e;subst this;rw [d] at a
   exact f c FZ b (.inl rfl) (i_ a).symm)).trans a,fun k a=>g.block k (by have:=aB d;omega) (fun e=>by have:=i_ e;omega)⟩
theorem pV{M M':Nat->Prop}{w3 w4:World}{s:Sg}{tb mb sb gb R:Nat}{W:PW}{cs:Array Value}(h:Wd M' w3 s tb mb sb gb W)(i:Stp M w M' w3)(d:w3.heap[R]?=some (.cells cs FZ (0,0)))(p:w.heap.size<=R)(q:8<=w.heap.size)(b:Below w3.heap.size w3 w4)(c:Int)(o t:ByteArray):Wd M' (aL4 w4 R c o t) s tb mb sb gb W/\Stp M w M' (aL4 w4 R c o t):=by have j:=(b.block R (aB d)).trans d;have g:w4.grownBy (aL4 w4 R c o t) (some R):=aC (aC (aE w4 R 0 _) (aE _ R 1 _)) (aE _ R 2 _);have a:=i.trans (Stp.AA b);refine⟨(h.mv (Mv.below b)).FQ (LH.grown g j (by omega)),⟨g.os.trans a.os,g.tape.trans a.tape,g.output.trans a.output,t_ a.size g.size,fun k f l=>?_⟩⟩;obtain⟨m,n⟩:=a.block k f l;exact⟨(g.block k (l_ f a.size) (fun e=>by have:=i_ e;omega)).trans m,n⟩
theorem zJ(M:Nat->Prop)(w:World)(s:Sg)(tb mb o D t m:Nat)(W:PW)(b:ByteArray)(n:Int)(hW:Wd M w s tb mb o D W)(aa:WW W t)(ab:OV W m)(ht:m+1001000<=6500000000000000000)(hz:s.ns.length+300<=BS) :Calls prog 18 #[.iface 40 (.pointer (some ⟨o,0,none⟩)),.agg #[.string b,.int .i64 n],.pointer (some ⟨tb,0,none⟩)] w fun e a=>AnsP M w s tb mb o D (Pl.answer W (b.data.toList,n)) e a:=by
 obtain⟨a1,O,a3,R⟩:=aLZ w b n;have h:Wd M (oE w b n) s tb mb o D W:=hW.mv (Mv.below R);have x:∀j,w.heap.size<=j->¬M j:=fun j hj hm=>by have:=hW.CY.mlt j hm;omega
 have I:Stp M w M (oE w b n):=Stp.AA R;have E:=aB0 b n M (oE w b n) s tb mb W.pairs h.CY h.ge hz;have J:=hW.gs.size
 cases l:Pl.over n with
 | true =>
  have P:Pl.answer W (b.data.toList,n)=(W,⟨6,[],[]⟩):=by unfold Pl.answer;rw [if_pos l]
  rw [P];refine(gS w _ _ b n 6 (fun a=>Below (oE w b n).heap.size (oE w b n) a) ⟨_,_,rfl⟩ ⟨_,rfl⟩ (E.mono (fun e a g=>?_)) (fun a A=>?_)).mono (fun e a g=>?_)
  ·obtain⟨v,Y,rfl,⟨_,⟨G,rfl⟩,H⟩ | ⟨d,_⟩⟩:=g
   ·exact⟨v,G,rfl,H⟩
   ·rw [l] at d;cases d
  ·exact⟨(h.mv (Mv.below A)).gt,(A.block _ (by omega)).trans O⟩
  ·obtain⟨K,w4,rfl,A,y,rfl⟩:=g;obtain⟨S,T⟩:=pV (h.mv (Mv.below A)) (I.trans (Stp.AA A)) ((A.block _ (by omega)).trans O) (by omega) J y (6:Nat) ⟨#[]⟩ ⟨#[]⟩;exact⟨rfl,M,s,T,⟨Sg.Le.refl _,LP.refl _ _⟩,by omega,S⟩
 | false =>
  by_cases Z:Pl.check b.data.toList=0
  ·cases hf:Pl.BQ b.data.toList with
   | none =>
    refine(gS w _ _ b n 5 (fun _=>False) ⟨_,_,rfl⟩ ⟨_,rfl⟩ (E.mono (fun e a g=>?_)) (fun a A=>A.elim)).mono (fun e a g=>?_)
    ·obtain⟨v,Y,rfl,⟨d,_⟩ | ⟨_,_,u,_,_,⟨c,G,d,p,_⟩ | ⟨f,_,p,_⟩⟩⟩:=g
     ·rw [l] at d;cases d
     ·omega
     ·rw [hf] at p;cases p
    ·obtain⟨K,w4,_,A,_⟩:=g;exact A.elim
   | some f =>
    obtain⟨hI,hP,hV⟩:=aDN (i:=(b.data.toList,n)) aa ab ht f l Z hf;have P:Pl.answer W (b.data.toList,n)=((A8 n.toNat (Pl.AR W f) (Pl.AV W f)).W,Pl.told (A8 n.toNat (Pl.AR W f) (Pl.AV W f))):=by unfold Pl.answer;dsimp only;rw [if_neg (by simp [l]),if_neg (by simp [Z]),hf]
    have ac:0<=n/\n<=1000000:=by unfold Pl.over at l;simp at l;omega
    rw [P];dsimp only at hI hP hV;obtain⟨k,rfl⟩:∃k:Nat,n=(k:Int):=⟨n.toNat,by omega⟩
    simp only [Int.toNat_natCast] at hI hP hV ⊢;have U:∀F q u,Wd M q u tb mb o D (Pl.AR W f)->CP M q u F (Pl.settle f W.pairs.length).1->Calls prog 139 #[.pointer (some ⟨o,0,none⟩),F,.int .i64 (k:Int)] q fun e a=>ZP M q u tb mb o D (A8 k (Pl.AR W f) (Pl.AV W f)) e a:=fun F q u L N=>p_run M q u tb mb o D k (Pl.AR W f) _ F L rfl N hI (by omega) hP hV;clear hI hP hV P;generalize A8 k (Pl.AR W f) (Pl.AV W f)=r at *
    refine(sP w o _ b (k:Int) ⟨r.W.out.toArray⟩ ⟨(Pl.told r).val.toArray⟩ r.e
     (fun F q=>∃u,(Sg.Le s u/\LP w s u)/\u.ns.length<=s.ns.length+300/\Stp M (oE w b (k:Int)) M q/\Wd M q u tb mb o D (Pl.AR W f)/\CP M q u F (Pl.settle f W.pairs.length).1)
     (fun K=>∃B u,Stp M (oE w b (k:Int)) B K/\(Sg.Le s u/\LP w s u)/\u.ns.length<=s.ns.length+300/\Wd B K u tb mb o D r.W) ⟨_,rfl⟩ (E.mono (fun e a g=>?_)) (fun F a g=>?_) (fun F q g=>?_) (fun a g=>?_)).mono (fun e a g=>?_)
    ·obtain⟨v,Y,rfl,⟨d,_⟩ | ⟨_,C,u,z,Q,⟨c,G,d,p,_⟩ | ⟨f1,_,p,rfl,L,N⟩⟩⟩:=g
     ·rw [l] at d;cases d
     ·omega
     ·obtain rfl:f=f1:=by rw [hf] at p;exact i_ p
      exact⟨v,rfl,u,⟨z.1.le,(LP.refl w s).trans z.2 R.size⟩,Q,eL C h.CY.FV,(h.read C z.1 L).out0 [],N⟩
    ·obtain⟨u,_,_,H,_,N⟩:=g;exact⟨N.iface,(H.block _ (by omega) (x _ n_)).1.trans a1⟩
    ·obtain⟨u,d,p,H,L,N⟩:=g;refine(U F q u L N).mono (fun e a hq=>?_);obtain⟨B,u',tx,Y,q1,⟨q2,q3⟩,q4,rfl,q5⟩:=hq;have V:∃B u,Stp M (oE w b (k:Int)) B a/\(Sg.Le s u/\LP w s u)/\u.ns.length<=s.ns.length+300/\Wd B a u tb mb o D r.W:=⟨B,u',H.trans q1,⟨d.1.trans q2,d.2.trans q3.2 (t_ R.size H.size)⟩,by rw [q3.1];exact p,q4⟩
     rcases q5 with⟨e0,rfl,rfl⟩ | ⟨e0,rfl,G,rfl⟩
     ·refine⟨.nilIface,?_,?_,V⟩
      ·unfold Pl.told;rw [if_pos e0]
      ·have:=sL a;rw [e0];exact this
     ·refine⟨aY G (r.e:Nat),?_,aCA G _ a q4.gt,V⟩;unfold Pl.told;rw [if_neg e0]
    ·obtain⟨B,u,d,_,_,_⟩:=g;exact(d.block _ (by omega) (x _ (Nat.le_succ _))).1.trans O
    ·obtain⟨K,w4,rfl,⟨B,u,d,p,H,L⟩,y,rfl⟩:=g;obtain⟨S,T⟩:=pV L (I.trans d) ((d.block _ (by omega) (x _ (Nat.le_succ _))).1.trans O) (by omega) J y (r.e:Nat) ⟨r.W.out.toArray⟩ ⟨(Pl.told r).val.toArray⟩;exact⟨rfl,B,u,T,p,H,S⟩
  ·have P:Pl.answer W (b.data.toList,n)=(W,⟨Pl.check b.data.toList,[],[]⟩):=by unfold Pl.answer;dsimp only;rw [if_neg (by simp [l]),if_pos Z]
   rw [P];refine(gS w _ _ b n (Pl.check b.data.toList) (fun a=>∃u,(DK s u/\LP (oE w b n) s u)/\u.ns.length<=s.ns.length+300/\(oE w b n).grownBy a (some mb)/\BM M a u tb mb W.pairs) ⟨_,_,rfl⟩ ⟨_,rfl⟩ (E.mono (fun e a g=>?_)) (fun a g=>?_)).mono (fun e a g=>?_)
   ·obtain⟨v,Y,rfl,⟨d,_⟩ | ⟨_,C,u,z,Q,⟨c,G,d,p,_,rfl,_,h6⟩ | ⟨f1,d,_⟩⟩⟩:=g
    ·rw [l] at d;cases d
    ·exact⟨v,G,by rw [d],u,z,Q,C,h6⟩
    ·exact absurd d Z
   ·obtain⟨u,z,Q,C,hR⟩:=g;exact⟨(h.read C z.1 hR).gt,((eL C h.CY.FV).block _ (by omega) (x _ (Nat.le_succ _))).1.trans O⟩
   ·obtain⟨K,w4,rfl,⟨u,z,Q,C,hR⟩,y,rfl⟩:=g;have X:Stp M (oE w b n) M K:=eL C h.CY.FV;obtain⟨S,T⟩:=pV (h.read C z.1 hR) (I.trans X) ((X.block _ (by omega) (x _ (Nat.le_succ _))).1.trans O) (by omega) J y (Pl.check b.data.toList:Nat) ⟨#[]⟩ ⟨#[]⟩;exact⟨rfl,M,u,T,⟨z.1.le,(LP.refl w s).trans z.2 R.size⟩,Q,S⟩
theorem p_slow2(w:World)(v:Value)(ins:List (ByteArray×Int))(C:F8 w v ins)(D:ins.length<=GK)(j:8<=w.heap.size)(f:Lib.TabIs prog w oS .u64 Lib.pow10Tab)(hp:EH w)(o:GT w)(p:GE w) :Calls prog 9 #[v] w fun e i=>∃c,e=.returned c/\Below w.heap.size w i/\KB i c (Pl.AF AW (ins.map B5)).2/\∃g,w.heap.size<=g/\c=.slice (some ⟨g,0,none⟩) ins.length ins.length:=by
 have l:Gs w (fun _=>False):=⟨j,fun _ _ h=>h,f⟩
 have E:=h_ (sE w);have F:Hid (∀a,Below w.heap.size w a/\IW a (w.heap.size+1) w.heap.size []->Calls prog 15 #[.pointer (some ⟨w.heap.size+1,0,none⟩)] a fun e i=>∃d,e=.returned (.pointer (some ⟨d.heap.size,0,none⟩))/\Hid (i=d.alloc (xM a.heap.size)/\GQ a (w.heap.size+1) w.heap.size a.heap.size [] 13 d)):=fun a ⟨x,y⟩=>nD a _ _ [] (by simp) List.nodup_nil y (hp.AQ l (Stp.AA x)) (t_ j x.size)
 have G:Hid (∀a d z,Below w.heap.size w a/\IW a (w.heap.size+1) w.heap.size []->z=d.alloc (xM a.heap.size)/\GQ a (w.heap.size+1) w.heap.size a.heap.size [] 13 d->Calls prog 14 #[.iface 40 (.pointer (some ⟨d.heap.size,0,none⟩)),v,.pointer (some ⟨w.heap.size+1,0,none⟩)] z fun e i=>∃c,e=.returned c/\Hid (Below w.heap.size w i/\KB i c (Pl.AF AW (ins.map B5)).2/\∃g,w.heap.size<=g/\c=.slice (some ⟨g,0,none⟩) ins.length ins.length)):=fun a d z ⟨x,y⟩ ⟨H,I⟩=>by
  subst H;obtain⟨J,A⟩:=new_wd x l hp o p n_ (by omega) y.lt.1 y.lt.2 I;obtain⟨K,L⟩:=aBY (scr_in C) A (fun _ h=>h);refine(p_runS _ _ (sgN []) _ _ _ _ v ins (fun M w s t m W b n N O P Q R=>zJ M w s _ _ _ _ t m W b n N O P Q R) J (t_ (aBB [] 13) (by decide)) K L D).mono (fun e i S=>?_)
  ·obtain⟨c,M',s',T,U,V,X⟩:=S;have q:=A.trans U.AQ;exact⟨c,T,⟨q.os,q.tape,q.output,q.size,fun k Y=>(q.block k Y (fun h=>h)).1⟩,V,_,A.size,X⟩
 obtain⟨ao,Z,rfl,_,_⟩:=C;clear j f hp o p l D;go_enter func9,ntmps9
 go_wp2_with (first
  | (go_at_call 13;refine Calls.mono E ?_;rintro e a ⟨rfl,r⟩)
  | (go_at_call 15;refine Calls.mono (F _ r) ?_;rintro e z ⟨d,rfl,B⟩)
  | (go_at_call 14;refine Calls.mono (G _ _ _ r B) ?_;rintro e w4 ⟨c,rfl,u⟩))
 go_ret;exact⟨c,rfl,u.1,u.2⟩
theorem p_slow(w:World)(v:Value)(ins:List (ByteArray×Int))(h:F8 w v ins)(i:ins.length<=GK)(c:8<=w.heap.size)(a:Lib.TabIs prog w oS .u64 Lib.pow10Tab)(hp:EH w)(d:GT w)(f:GE w) :Calls prog 9 #[v] w fun e g=>∃b,e=.returned b/\Below w.heap.size w g/\KB g b (Pl.AF AW (ins.map B5)).2:=(p_slow2 w v ins h i c a hp d f).mono (fun _ _ ⟨b,j,k,l,_⟩=>⟨b,j,k,l⟩)
theorem KB.below{l:List PO}(h:KB w v l)(a:Below w.heap.size w w'):KB w' v l:=by obtain⟨d,c,e,f,i⟩:=h;refine⟨d,c,e,f,fun k o j=>?_⟩;obtain⟨g,m,b,n,q,r⟩:=i k o j;exact⟨g,m,l_ b a.size,(a.cell (p:=⟨g,_,none⟩) b).trans n,(a.cell (p:=⟨g,_,none⟩) b).trans q,(a.cell (p:=⟨g,_,none⟩) b).trans r⟩
theorem F8.below{l:List (ByteArray×Int)}(h:F8 w v l)(a:Below w.heap.size w w'):F8 w' v l:=by obtain⟨d,b,e,f,i⟩:=h;refine⟨d,b,e,f,fun k o j=>?_⟩;obtain⟨g,m,c,n,q⟩:=i k o j;exact⟨g,m,l_ c a.size,(a.cell (p:=⟨g,_,none⟩) c).trans n,(a.cell (p:=⟨g,_,none⟩) c).trans q⟩
theorem F8.slice{l:List (ByteArray×Int)}(h:F8 w v l):∃b n a,v=.slice b n a:=by obtain⟨b,a,e,_⟩:=h;exact⟨b,_,a,e⟩
theorem KB.slice{l:List PO}(h:KB w v l):∃b n a,v=.slice b n a:=by obtain⟨b,a,e,_⟩:=h;exact⟨b,_,a,e⟩
end
open Pl (arity)
section
open Go.ChangeShapes Go.WideShapes Go.RowKit Go.Deep
theorem Tryz.P2:prog.cellsOf 3=1:=by kernel_rfl
theorem Tryz.KU:prog.cellsOf 9=1:=by kernel_rfl
theorem rK{H:Type}{enc:TypeId×Value->H}{W W':World}{base:Nat}{t:TypeId}{v:Value}{d:DataW H}{ps:List MemPlace}(b:DataW.Trod enc prog W base (fun _=>true) true t v d ps)(c:∀p∈ps,p.block<W.heap.size)(e:Below W.heap.size W W'):DataW.Trod enc prog W' base (fun _=>true) true t v d ps:=by obtain⟨a,f⟩:=b;exact⟨a,DataW.trod_carry a t _ _ f (fun p g=>e.same (c p g))⟩
theorem Tryz.gPrm:prog.globalNamed "stepper/value.primitives"=some 0:=by kernel_rfl
theorem Tryz.gPrmT:(prog.globals[0]?).map (·.type)=some 85:=by kernel_rfl
theorem Tryz.UZ:prog.cellsOf 84=2:=by kernel_rfl
def Z7:List (DataW Unit):=Pl.AO.take 12 |>.map fun nm=>.agg [.lit (.string nm),.lit (.int .i64 (arity nm:Nat))]
theorem sY:(Rows.laid_stepper_value_primitives:DataW Unit)=.agg Z7:=rfl
theorem oQ{W:World}{rest:List (String×DataW Unit)}(h:laidMet prog (("stepper/value.primitives",Rows.laid_stepper_value_primitives)::rest) W):EH W:=by
 obtain⟨R,⟨S,T,v,w,p,q,g,o,a,y,_,_⟩,_⟩:=h;obtain rfl:=i_ (Tryz.gPrm.symm.trans g);obtain rfl:=i_ (Tryz.gPrmT.symm.trans o);rw [sY] at y;obtain⟨r,m,_,A,U,V,c⟩:=DataW.trod_array Tryz.NK y;simp only [Prod.mk.injEq,DataW.agg.injEq] at A;intro k t H d;have B:=c k d;obtain⟨x,f⟩:∃x,r[k]?=some x:=⟨r[k]'(by omega),g_ _⟩
 rw [f,Tryz.UZ] at B
 have b:x.1=.agg [.lit (.string t),.lit (.int .i64 (arity t:Nat))]:=by
  have e:(r.map (·.1))[k]?=some x.1:=by rw [List.getElem?_map,f];rfl
  rw [<- A.1] at e;unfold Z7 at e;rw [List.getElem?_map,List.getElem?_take_of_lt d,H] at e;exact(i_ e).symm
 obtain⟨X,Y,n,I,_,J,K⟩:=trod_struct2 underlying84 B;obtain⟨s,C,L,_⟩:=DataW.trod_string underlying9 J;obtain⟨z,D,M,_⟩:=DataW.trod_int underlying3 K;rw [I,L,M] at b;simp only [DataW.agg.injEq,List.cons.injEq,DataW.lit.injEq,Lit.string.injEq,Lit.int.injEq,and_true,true_and] at b;obtain⟨E,N⟩:=b;rw [show prog.cellsOf 9=1 from Tryz.KU] at C;rw [show prog.cellsOf 3=1 from Tryz.P2] at D;have O:∀(l:List Value)(i j:Nat)(u:Value),((l.drop i).drop j).take 1=[u]->l[i+j]?=some u:=fun l i j u P=>by have:=congrArg (fun l=>l[0]?) P;simpa using this
 have F:v.toList[k*2+0]?=some (.string s):=by have:=congrArg (fun l=>l[0]?) C;simpa [List.getElem?_take,List.getElem?_drop] using this
 have G:v.toList[k*2+1]?=some (.int .i64 z):=by have:=congrArg (fun l=>l[0]?) D;simpa [List.getElem?_take,List.getElem?_drop] using this
 have Q:s=⟨t.toArray⟩:=by obtain⟨⟨Z⟩⟩:=s;simp only at E;rw [<- E]
 rw [World.var?_cell Tryz.gPrm a,World.var?_cell Tryz.gPrm a];rw [Q] at F;rw [N] at G;exact⟨by simpa using F,by simpa using G⟩
end
section
open Go.RowKit Go.Lib Go.Maps
variable {w:World}
structure Low(w:World):Prop where
 DI:8<=w.heap.size
 B3:Lib.TabIs prog w oS .u64 Lib.pow10Tab
 JQ:EH w
 gt:GT w
 ge:GE w
theorem Low.below{w1:World}(h:Low w)(b:Below w.heap.size w w1):Low w1:=by
 have a:Gs w (fun _=>False):=⟨h.DI,fun _ _ h=>h,h.B3⟩
 have c:=a.below b;exact⟨c.size,c.B3,h.JQ.AQ a (Stp.AA b),h.gt.below b,h.ge.below b⟩
theorem j0(w:World)(v:Value)(ins:List (ByteArray×Int))(c:F8 w v ins)(d:ins.length<=GK)(h:Low w) :Calls prog 9 #[v] w fun e a=>∃b,e=.returned b/\Below w.heap.size w a/\KB a b (Pl.AF AW (ins.map B5)).2:=p_slow w v ins c d h.DI h.B3 h.JQ h.gt h.ge
theorem aRC(w:World)(s:ByteArray):Calls prog 6 #[.string s] w fun e a=>e=.returned (.agg #[.string s,.int .i64 2000])/\Below w.heap.size w a:=by
 go_enter func6,ntmps6
 go_wp2_with fail
 (try simp only [Exit.inBlock,Exit.then])
 refine bodyPost_ret (v:=.agg #[.string s,.int .i64 2000]) ?_ rfl ?_
 ·rw [aO rfl]
  go_simp
  try rfl
 exact⟨rfl,b_⟩
theorem b6{a b:ByteArray}:a.toList=b.toList↔a=b:=by rw [Lib.toList_data,Lib.toList_data];exact⟨fun e=>by cases a;cases b;simpa using e,fun e=>by rw [e]⟩
theorem aAT(w:World)(c:Int)(o t a b:ByteArray):Calls prog 11 #[.agg #[.int .i64 c,.string o,.string t],.string a,.string b] w fun e i=>e=.returned (.bool (decide (c=0/\t=a/\o=b)))/\Below w.heap.size w i:=by
 by_cases d:c=0
 ·by_cases f:t=a
  ·by_cases g:o=b
   ·subst d f g;go_enter func11,ntmps11;go_wp2_with fail;go_ret;exact⟨by simp,b_⟩
   ·subst d f;have h:(o.toList==b.toList)=false:=by rw [beq_eq_false_iff_ne];exact fun e=>g (by rw [<- b6];exact e)
    go_enter func11,ntmps11
    go_wp2_with fail
    go_ret;exact⟨by simp [g],b_⟩
  ·subst d;have h:(t.toList==a.toList)=false:=by rw [beq_eq_false_iff_ne];exact fun e=>f (by rw [<- b6];exact e)
   go_enter func11,ntmps11
   go_wp2_with fail
   go_ret;exact⟨by simp [f],b_⟩
 ·have h:(c==0)=false:=by simpa using d
  go_enter func11,ntmps11
  go_wp2_with fail
  go_ret;exact⟨by simp [d],b_⟩
def awakeI:List (ByteArray×Int):=[(⟨#[55]⟩,1),(⟨#[55]⟩,0),(⟨#[120]⟩,2000),(⟨#[40]⟩,2000),(⟨#[55]⟩,1000000)]
theorem awake_ses:(Pl.AF AW (awakeI.map B5)).2=[⟨0,[],[55]⟩,⟨7,[],[]⟩,⟨8,[],[]⟩,⟨2,[],[]⟩,⟨0,[],[55]⟩]:=by kernel_rfl
theorem qB{l:List (ByteArray×Int)}{g:Nat}{cs:Array Value}{T:TypeId}(b:w.heap[g]?=some (.cells cs T (0,0)))(h:∀(k:Nat)(i:ByteArray×Int),l[k]?=some i->cs[k*2]?=some (.string i.1)/\cs[k*2+1]?=some (.int .i64 i.2))(a:Nat)(d:l.length<=a):F8 w (.slice (some ⟨g,0,none⟩) l.length a) l :=⟨some ⟨g,0,none⟩,a,rfl,d,fun k i c=>⟨g,rfl,aB b,(aA b _).trans (h k i c).1,(aA b _).trans (h k i c).2⟩⟩
def awakeC:Array Value:=#[.string ⟨#[55]⟩,.int .i64 1,.string ⟨#[55]⟩,.int .i64 0,.string ⟨#[120]⟩,.int .i64 2000,.string ⟨#[40]⟩,.int .i64 2000,.string ⟨#[55]⟩,.int .i64 1000000]
theorem awake_scr(w:World):F8 (w.alloc (.cells awakeC 25)) (.slice (some ⟨w.heap.size,0,none⟩) 5 5) awakeI:=by refine qB (l:=awakeI) (heap_alloc_new w _) (fun k i a=>?_) 5 (by decide);have b:k<5:=(s_ a).1;rcases(show k=0\/k=1\/k=2\/k=3\/k=4 from by omega) with rfl | rfl | rfl | rfl | rfl<;>(obtain rfl:=i_ a;exact⟨rfl,rfl⟩)
def AwQ(w w':World)(g cap:Nat):Prop:=Below w.heap.size w w'/\5<=cap/\g<w'.heap.size/\w'.cell? ⟨g,0,none⟩=some (.int .i64 0)/\w'.cell? ⟨g,1,none⟩=some (.string ⟨#[]⟩)/\w'.cell? ⟨g,2,none⟩=some (.string ⟨#[55]⟩)/\w'.cell? ⟨g,3,none⟩=some (.int .i64 7)/\w'.cell? ⟨g,6,none⟩=some (.int .i64 8)/\w'.cell? ⟨g,9,none⟩=some (.int .i64 2)/\w'.cell? ⟨g,12,none⟩=some (.int .i64 0)/\w'.cell? ⟨g,13,none⟩=some (.string ⟨#[]⟩)/\w'.cell? ⟨g,14,none⟩=some (.string ⟨#[55]⟩)
theorem AwQ.later{w1 w2:World}{g cap:Nat}(h:AwQ w w1 g cap)(a:Below w1.heap.size w1 w2):AwQ w w2 g cap:=by obtain⟨c,d,b,e,f,i,j,k,l,m,n,o⟩:=h;exact⟨c.trans (a.mono c.size),d,l_ b a.size,(a.cell (p:=⟨g,_,none⟩) b).trans e,(a.cell (p:=⟨g,_,none⟩) b).trans f,(a.cell (p:=⟨g,_,none⟩) b).trans i,(a.cell (p:=⟨g,_,none⟩) b).trans j,(a.cell (p:=⟨g,_,none⟩) b).trans k,(a.cell (p:=⟨g,_,none⟩) b).trans l,(a.cell (p:=⟨g,_,none⟩) b).trans m,(a.cell (p:=⟨g,_,none⟩) b).trans n,(a.cell (p:=⟨g,_,none⟩) b).trans o⟩
theorem awake_q{w':World}{rv:Value}(i:Below w.heap.size w w')(h:KB w' rv [⟨0,[],[55]⟩,⟨7,[],[]⟩,⟨8,[],[]⟩,⟨2,[],[]⟩,⟨0,[],[55]⟩]):∃g a,rv=.slice (some ⟨g,0,none⟩) 5 a/\AwQ w w' g a:=by obtain⟨u,a,rfl,j,b⟩:=h;obtain⟨g,rfl,k,l,m,n⟩:=b 0 _ rfl;obtain⟨v,c,_,o,_,_⟩:=b 1 _ rfl;obtain⟨x,d,_,p,_,_⟩:=b 2 _ rfl;obtain⟨y,e,_,q,_,_⟩:=b 3 _ rfl;obtain⟨z,f,_,r,s,t⟩:=b 4 _ rfl;simp only [o_,Addr.mk.injEq,and_true] at c d e f;subst c d e f;exact⟨g,a,rfl,i,j,k,l,m,n,o,p,q,r,s,t⟩
theorem p_awake(w:World)(h:Low w):Calls prog 4 #[] w fun e b=>e=.returned (.bool true)/\Below w.heap.size w b:=by
 have D:Hid (∀(c:World)(s:ByteArray),Below w.heap.size w c->Calls prog 6 #[.string s] c fun e b=>e=.returned (.agg #[.string s,.int .i64 2000])/\Hid (Below w.heap.size w b)):=fun c s j=>(aRC c s).mono (fun e b ⟨k,l⟩=>⟨k,j.trans (l.mono j.size)⟩);have q:Hid (∀f:World,Below w.heap.size w f->Calls prog 9 #[.slice (some ⟨f.heap.size,0,none⟩) 5 5] (f.alloc (.cells awakeC 25)) fun e b=>∃g a,e=.returned (.slice (some ⟨g,0,none⟩) 5 a)/\Hid (AwQ w b g a)):=fun f j=>by have d:Below w.heap.size w (f.alloc (.cells awakeC 25)):=j.alloc j.size _;refine(j0 _ _ awakeI (awake_scr f) (by decide) (h.below d)).mono (fun e b ⟨G,k,l,r⟩=>?_);rw [awake_ses] at r;obtain⟨g,a,rfl,p⟩:=awake_q (d.trans (l.mono d.size)) r;exact⟨g,a,k,p⟩
 have E:Hid (∀c g a,AwQ w c g a->Calls prog 11 #[.agg #[.int .i64 0,.string ⟨#[]⟩,.string ⟨#[55]⟩],.string ⟨#[55]⟩,.string ⟨#[]⟩] c fun e b=>e=.returned (.bool true)/\Hid (AwQ w b g a)):=fun c g a p=>(aAT c 0 _ _ _ _).mono (fun e b ⟨k,l⟩=>⟨by rw [k];simp,p.later l⟩);unfold awakeC at q;clear h;go_enter func4,ntmps4
 go_wp2_with (first
  | (go_at_call 6;refine(D _ _ (by first | exact m.out | exact r_)).mono ?_;rintro e c ⟨rfl,m⟩)
  | (go_at_call 9;refine(q _ m).mono ?_;rintro e H ⟨g,a,rfl,i⟩;obtain⟨_,n,F,t,u,v,x,y,z,A,B,C⟩:=i.out)
  | (go_at_call 11;refine(E _ _ _ i).mono ?_;rintro e I ⟨rfl,o⟩;clear i t u v x y z A B C;have i:=o;clear o;obtain⟨_,n,F,t,u,v,x,y,z,A,B,C⟩:=i.out))
 go_ret;exact⟨rfl,i.1⟩
abbrev OB:=Nat×ByteArray×ByteArray
def noB:ByteArray:=⟨#[]⟩
end
end Go.Proofs.YtieooapcfpimlaaGreatDoor
