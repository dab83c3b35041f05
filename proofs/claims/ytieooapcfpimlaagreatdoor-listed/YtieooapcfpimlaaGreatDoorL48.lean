import Derived.Test.YtieooapcfpimlaaGreatDoorL47
namespace Go.Proofs.YtieooapcfpimlaaGreatDoor
set_option maxHeartbeats 4000000
set_option maxRecDepth 100000
open Go.Proofs.Tryz
open Pl (PV PW PS PF CW SR AE arity AO AH C8 DN DY DW A7 AU A8)
section
open Go.RowKit Go.Maps Go.Lib
variable {w:World} {M O:Nat->Prop} {kv u:Value} {k:Nat} {e:Ending}
def PoN(e:Ending):Prop:=e≠aGG .nilIface .nilIface
theorem GZ.n{W:PW}{s:Sg}{a:PS->SR}(h:GZ W s a e):PoN e:=by
 rcases h with⟨v,q,rfl,b,_⟩ | ⟨c,x,d,rfl,_⟩
 ·intro e;simp at e;exact b.notNil e
 ·intro e;simp [aY] at e
theorem OR.n{W:PW}{w':World}{b o:Nat}{sv:Value}{a:AE}{p:PV}(h:OR W w b o sv a p e w'):PoN e:=by rcases h with⟨_,_,c,rfl⟩ | ⟨_,rfl,_⟩<;>intro e<;>simp [aY] at e
theorem k_apply{c:Cx}{F:Fg}{K:List CW}{W:PW}{S o:PS}{t:AE}{av u0:Value}{i:PV}(h:Pm c M O w F kv K k W S o t av [u0] [i])(C:k<c.z)(s:Nat)(b:AO[s]?=some t)(p:s<12) :Calls prog 211 #[.int .i64 (s:Int),av,.pointer (some ⟨c.rb,6,none⟩)] w (fun e r=>Post c M O w F kv K (k+1) 1 e r/\PoN e):=by
 by_cases m:arity t=1
 ·obtain⟨u,a,g,l,d,z,rfl,v,y⟩:=h.one rfl;simp only [List.cons.injEq,and_true] at z;subst z
  match s,p,b with
  | 0,_,b=>obtain rfl:=i_ b;exact absurd m (by decide)
  | 1,_,b=>obtain rfl:=i_ b;exact absurd m (by decide)
  | 2,_,b=>obtain rfl:=i_ b;exact absurd m (by decide)
  | 3,_,b=>obtain rfl:=i_ b;exact absurd m (by decide)
  | 4,_,b=>obtain rfl:=i_ b;exact absurd m (by decide)
  | 5,_,b=>obtain rfl:=i_ b;exact absurd m (by decide)
  | 6,_,b =>obtain rfl:=i_ b;exact(p_apply6 M w F.s W g l d u _ i h.st.fw.JQ h.st.fw.CY.pairs h.st.fw.NH v y).mono (fun e r ⟨j,f⟩=>⟨h.pure j f (jX W o DN i (by decide)),f.n⟩)
  | 7,_,b =>obtain rfl:=i_ b;exact(p_apply7 M w F.s W g l d u _ i h.st.fw.JQ h.st.fw.CY.pairs h.st.fw.NH v y).mono (fun e r ⟨j,f⟩=>⟨h.pure j f (jX W o C8 i (by decide)),f.n⟩)
  | 8,_,b =>obtain rfl:=i_ b;exact(p_apply8 M w F.s W g l d u _ i h.st.fw.JQ h.st.fw.CY.pairs h.st.fw.NH v y).mono (fun e r ⟨j,f⟩=>⟨h.pure j f (jX W o DY i (by decide)),f.n⟩)
  | 9,_,b =>obtain rfl:=i_ b;exact(yZ M w F.s W g l d u _ i h.st.fw.JQ h.st.fw.CY.pairs h.st.fw.NH v y).mono (fun e r ⟨j,f⟩=>⟨h.pure j f (jX W o DW i (by decide)),f.n⟩)
  | 10,_,b=>obtain rfl:=i_ b;exact absurd m (by decide)
  | 11,_,b =>obtain rfl:=i_ b;obtain⟨N,D,P,E,j,f,A⟩:=h.st.mc;obtain⟨G,t,H,_⟩:=h.at_.inv;exact(vD w F.s W (aC2 H) c.rb 6 _ TFMc E W.out g l d u i h.st.fw.JQ h.st.fw.TJ y (h.wf i (by simp)) j.blk rfl A.1 tMc.2.2.2.2.2 G v).mono (fun e r B=>⟨h.disp C j f A B (jX W o A7 i (by decide)),B.n⟩)
  | n+12,p,_=>omega
 ·have I:AH W o (.AZ t) [i]=⟨10,W,o⟩:=by
   show(if([i]:List PV).length≠arity t then _ else _)=_;rw [if_pos (fun q=>m q.symm)]
  obtain⟨J,d,rfl,_,_⟩:=h.row;exact(vC s t w J 1 d _ h.st.fw.JQ b p (fun q=>m q.symm)).mono (fun e r ⟨j,L,f⟩=>by subst f;exact⟨h.no j (x:=10) (by decide) I L,by intro e;simp [aY] at e⟩)
theorem k_prim{c:Cx}{F:Fg}{K:List CW}{W:PW}{S x:PS}{t:AE}{av u0:Value}{y:PV}(h:Pm c M O w F kv K k W S x t av [u0] [y])(f:Nat)(z:AO[f]?=some t)(m:f<12) :Calls prog 196 #[.pointer (some ⟨c.rb,0,none⟩),.int .i64 (f:Int),av] w (fun e j=>Post c M O w F kv K (k+1) 1 e j/\PoN e):=by
 have n:Below w.heap.size w w.drew:=r_.drew;have l:Pm c M O w.drew F kv K k W S x t av [u0] [y]:=by obtain⟨o,a,p,q,r⟩:=h.row;exact⟨h.st.below n,h.at_,h.ne,h.step,h.fr,⟨o,a,p,q,fun i u A=>r i u A⟩,h.CH,h.wf⟩
 obtain⟨I,J,_⟩:=h.st.cells;have B:=h.st.bd;have C:=h.at_.le;obtain⟨o,a,rfl,_,_⟩:=h.row;by_cases D:k<c.z
 ·have E:Hid (Calls prog 211 #[.int .i64 (f:Int),.slice o 1 a,.pointer (some ⟨c.rb,6,none⟩)] w.drew (fun e j=>Post c M O w F kv K (k+1) 1 e j/\PoN e)):=(k_apply l D f z m).mono (fun e j d=>⟨d.1.after (Stp.AA n) (fun b _=>rfl) (Fg.Le.refl _) n_ n_,d.2⟩);have s:((k+1:Nat):Int)<=(c.z:Int):=by omega
  clear h l;go_enter func196,ntmps196;go_wp2_with fail
  go_region
  go_wp2_with (go_at_call 211;refine(Calls.mono E ?_);intro e G d;obtain⟨L,N,rfl⟩:=d.1.tup;have v:=(show Hid _ from d);clear d)
  go_ret2;exact v
 ·have H:Hid (∀g,Post c M O w F kv K (k+1) 1 (aGG .nilIface (aY g 7)) w.drew/\PoN (aGG .nilIface (aY g 7))):=fun g=>⟨⟨M,F,k,W,S,Stp.AA n,fun _ _=>rfl,Fg.Le.refl _,h.at_,h.ne,by omega,by omega,.spent g (by omega) l.st⟩,by intro e;simp [aY] at e⟩
  have s:(c.z:Int)<((k+1:Nat):Int):=by omega
  clear h l;go_enter func196,ntmps196;go_wp2_with fail
  go_region
  go_wp2_with (go_at_call 163;refine(aJD _).mono ?_;rintro e G ⟨g,rfl,rfl⟩)
  go_ret2;exact H.out _
theorem aMW{c:Cx}{F:Fg}{gv:Value}{kp:Nat}{W b:PW}{S A:PS}{t:AE}{a:PV}(h:St c M O w F kv (k+1) b)(hp:PlF M w F kv A.AB)(B:c.At k W S)(hn:S.ended=false)(g:Pl.step W S=AH b A (.AZ t) [a])(d:b.out=W.out)(Y:AO[kp]?=some t)(C:kp<12)(ha:ArgsAt M O w F.s gv [u])(hu:RV F.s u a)(D:BL b a)(hT:k+1<=c.T) :Calls prog 196 #[.pointer (some ⟨c.rb,0,none⟩),.int .i64 (kp:Int),gv] w (NxQ c M O w F (k+1) (k+1) 2100):=by
 obtain⟨ho,t0,hW,hS,m,hm,hX⟩:=B.inv;have E:=aII Y C;obtain⟨H,r,g3,o,g4⟩:=aJJ b ⟨none,[],a,[]⟩ A t a;have I:=(jQ hW hS).2.1;have j:Sm (Pl.step W S).W (Pl.step W S).S (m+1):=ML W S hm;rw [g,r,g4] at I;rw [g,r,g4] at j;have Z:=I.outW;have J:OV b (m+1):=⟨j.w.pairs,j.w.globals,j.w.AG⟩
 have aa:BL b (.AZ t):=q_ Y;obtain⟨s,l⟩:∃s,s=({c with W0:=b,S0:=addD k (aMQ t a),T:=c.T-1}:Cx):=⟨_,rfl⟩
 have K:s.At k b (aMQ t a):=by
  subst l;refine⟨?_,⟨by rw [d];exact ho,t0+310+1,Z.later (by omega),⟨fun f hf=>(by cases hf),fun x L=>(by cases L),Nat.zero_le _,fun _=>D,fun fr ab=>?_,by simp [aMQ]⟩,m+1,⟨J,by simp [aMQ]⟩,?_⟩,by show k<=c.T-1;omega⟩
  ·have:=aLQ b (aMQ t a) rfl c.z k k n_;rw [Nat.sub_self] at this;exact this
  ·have:fr=⟨calF,[.AZ t],2,[]⟩:=by simpa [aMQ] using ab
   subst this;exact⟨wf_calF b,fun x L=>(by cases L),Nat.zero_le _,.inr (.inr (.inr (.inr rfl))),fun e=>(by cases e),fun _=>⟨rfl,n_,fun v hv=>by rw [List.mem_singleton.1 hv];exact aa⟩⟩
  ·show m+1+(c.T-1-k)<=6500000000000000000;omega
 have n:∀{N:Nat->Prop} {V:World} {G:Fg} {X:PW},St c N O V G kv (k+1) X↔St s N O V G kv (k+1) X:=fun {N} {V} {G} {X}=>by
  subst l;constructor
  ·intro q;obtain⟨lv,av,gv,ov,P,m2,m3⟩:=q.mc;exact⟨q.fw,⟨lv,av,gv,ov,⟨P.blk,P.m⟩,m2,m3⟩,⟨by have:=q.bd;show c.B+(c.T-1)<=9000000000000000000;omega,by have:=q.bd;show c.T-1<=1010000;omega,q.bd.2.2⟩⟩
  ·intro q;obtain⟨lv,av,gv,ov,P,m2,m3⟩:=q.mc;exact⟨q.fw,⟨lv,av,gv,ov,⟨P.blk,P.m⟩,m2,m3⟩,h.bd⟩
 have ac:s.rb=c.rb:=by rw [l]
 have Q:s.z=c.z:=by rw [l]
 have pm:Pm s M O w F kv [] k b (aMQ t a) ⟨none,[],a,[]⟩ t gv [u] [a]:=⟨n.1 h,K,rfl,aI1 b E,rfl,ha.r,(BY.nil _).cons hu,fun v hv=>by rw [List.mem_singleton.1 hv];exact D⟩
 have R:=k_prim pm kp Y C;rw [ac] at R;refine R.mono (fun e V ad=>?_);obtain⟨⟨N,G,k',X,S',h1,h2,h3,h4,h5,h6,h7,h8⟩,U⟩:=ad;obtain rfl:k'=k:=by omega
 obtain⟨e1,e2⟩:=K.go.same h4.go;subst e1 e2;refine⟨N,G,k',W,S,h1,h2,h3,B,hn,by omega,by omega,fun q=>absurd q U,?_⟩;have y:=aI1 (a:=a) b E
 cases h8 with
 | val v W3 S3 p ae ai aj af i =>
  rw [y] at p;rw [p] at H r g3;obtain⟨v',q1,q2⟩:=g3 rfl
  have z:Pl.step W S=⟨0,W3,A.A1 v'⟩:=by
   rw [g]
   cases hr:AH b A (.AZ t) [a] with
   | mk e9 W9 S9 =>rw [hr] at H r q2;simp only at H r q2;subst H r q2;rfl
  have ag:RV G.s v v':=by
   have:S3.val=v':=by rw [show S3=_ from q1];rfl
   rw [<- this];exact af
  exact .val v kv W3 _ z (fun q=>(ae (by rw [Q];exact q)).trans d) rfl (PlF.go h1 h3 _ _ hp) ag (n.2 i)
 | err es x L p ah i=>exact .err es x kv b L (by rw [g,H,<-y];exact p) (by rw [g,r,<-y];exact ah) d (n.2 i)
 | spent es hz i=>exact .spent es kv b (by rw [<- Q];exact hz) d (n.2 i)
 | pend=>exact absurd rfl U
theorem aLH{c:Cx}{F:Fg}{gv:Value}{v:PW}{x:PS}{a:PV}(h:St c M O w F kv (k+1) v)(hp:PlF M w F kv x.AB)(W:ArgsAt M O w F.s gv [u])(R:RV F.s u a)
  (y:∀(C:Nat->Prop)(Y:World)(G:Fg)(A S:Value),St c C O Y G kv (k+1) (v.keep x)->PlF C Y G kv x.AB->RV G.s u a->ArgsAt C O Y G.s A [S]->RV G.s S (.cont v.AG.length)->Calls prog 174 #[.pointer (some ⟨c.rb,0,none⟩),.agg #[u,A]] Y (NxQ c C O Y G (k+1) (k+1) 2100)) :
  Calls prog 174 #[.pointer (some ⟨c.rb,0,none⟩),.agg #[.iface 83 (.agg #[]),gv]] w (NxQ c M O w F (k+1) (k+1) 2100):=by
 obtain⟨lv,X,Z,ov,m1,m2,m3⟩:=h.mc;obtain⟨ao,m,rfl,T,H⟩:=W;rcases H with H | ⟨g,d,aa,rfl,hm,_,I,hc,_⟩
 ·simp at H
 have o:w.cell? ⟨g,d,none⟩=some u:=(aA I d).trans (by have:=hc 0 u rfl;simpa using this);obtain⟨f,i⟩:∃f,f=((w.alloc (.cells #[.iface 83 (.agg #[]),.slice (some ⟨g,d,none⟩) 1 m] TApp)).alloc (.cells #[] 83)).alloc (.cells #[kv] TFCo):=⟨_,rfl⟩
 have D:Below w.heap.size w f:=by rw [i];exact(b_.alloc (by simp) _).alloc (by simp;omega) _
 have J:f.heap.size=w.heap.size+1+1+1:=by rw [i];simp
 have K:f.heap[w.heap.size+1+1]?=some (.cells #[kv] TFCo (0,0)):=by
  rw [i];have:=heap_alloc_new ((w.alloc (.cells #[.iface 83 (.agg #[]),.slice (some ⟨g,d,none⟩) 1 m] TApp)).alloc (.cells #[] 83)) (.cells #[kv] TFCo)
  rwa [World.size_alloc,World.size_alloc] at this
 obtain⟨f1,f2⟩:=h.fw.IJ D (p:=w.heap.size+1+1) (by omega) K x.AB hp;have l:Fg.Le F {F with s:=F.s.IJ (w.heap.size+1+1),pr:=F.pr++[]}:=Fg.le_s (F.s.LD _);have q:=h.fwd D f1 rfl;have B:(f.alloc (.cells #[.iface 357 (pt (w.heap.size+1+1))] B9)).ownsRow 0 B9 1 (.slice (some ⟨f.heap.size,0,none⟩) 1 1) 1 [.iface 357 (pt (w.heap.size+1+1))] :=⟨rfl,.inr ⟨_,1,_,rfl,Nat.zero_le _,heap_alloc_new _ _,n_,by unfold maxLen;omega,rfl,rfl⟩⟩
 have L:Stt c M (Ow O (.slice none 0 0)) f {F with s:=F.s.IJ (w.heap.size+1+1),pr:=F.pr++[]} kv (k+1) (k+1) {v with AG:=v.AG++[x.AB]}:=⟨q.fw.less (fun k N=>N.elim id (fun e=>by cases e)),q.mc,q.bd⟩
 obtain⟨E,y2,y3,y4⟩:=L.ownApp (World.ownsRow_nil _ _ _ _) (World.grownBy_alloc f _ _) B (fun g' P=>.inr (by simp only [Value.ownBlock,o_] at P;omega)) (fun g I=>by cases I);have r:=aLY E.fw B y4;have s1:=Stp.AA (M:=M) D;have U:=s1.trans y2;have Q:=y _ _ _ _ _ (⟨E.fw.less (fun k N=>.inl N),E.mc,E.bd⟩:St c _ O _ _ kv (k+1) (v.keep x)) (PlF.go U l _ _ hp) (R.le l.s) r f2;refine nxW_cc w c.rb g d kv u m (PlF.ptr hp) (aA m1.blk 0) o R.iface (fun e w' t=>t.tup) ?_;have j:=Q.mono (fun e w' t=>NxQ.after (n:=k+1) (p:=k+1) (z:=2100) U (fun b V=>(y3 b V).trans (D.block b (h.fw.olt V))) l t n_ n_ n_);rw [J] at j;rw [<- i];exact j
theorem p_next{c:Cx}{F:Fg}{W:PW}{S n:PS}{D:PV}{args:List PV}(h:Pend c M O w F kv (k+1) W [] D args)(hp:PlF M w F kv n.AB)(j:c.At k W S)(A:S.ended=false)(d:Pl.step W S=Pl.apply W n D args)(hT:k+1+2100<=c.T) :∃v B,w.cell? ⟨c.rb,2,none⟩=some v/\w.cell? ⟨c.rb,3,none⟩=some B/\(∃T x,v=.iface T x)/\(∃a l k,B=.slice a l k)/\Calls prog 174 #[.pointer (some ⟨c.rb,0,none⟩),.agg #[v,B]] w (NxQ c M O w F (k+1) (k+1) 2100):=by
 obtain⟨lv,v,B,ov,fs,E,X,h2,h3,h4,Z,C,q⟩:=h.mc;have aa:fs=[]:=e_ (by have:=h3.1;simpa using this);subst aa;have H:St c M O w F kv (k+1) W:=⟨h.fw,⟨lv,v,B,ov,X,h2,h4⟩,h.bd⟩
 refine⟨v,B,aA X.blk 2,aA X.blk 3,Z.iface,by obtain⟨a,b,e,_⟩:=C;exact⟨a,_,b,e⟩,?_⟩;obtain⟨t,hW,hS⟩:=j.ww;obtain⟨p1,p2,p3⟩:=h.wf;by_cases y:D=.AZ AU
 ·subst y
  have ab:v=.iface 83 (.agg #[]):=by
   cases Z with
   | AZ P _ I m=>exact absurd rfl (aII I m)
   | EC=>rfl
  subst ab;unfold Pl.apply at d;rw [if_pos rfl] at d
  match args,E,q,d with
  | [a],[u],q,d =>
   have hu:RV F.s u a:=q.2 0 u a rfl rfl;have ac:BL W a:=p1 a (by simp);by_cases p:a=.AZ AU
   ·have f:Pl.step W S=AH ((W.keep n).keep n) n (.cont W.AG.length) [.cont (W.AG.length+1)]:=by
     rw [d];simp only [p,if_true]
    subst p;refine aLH H hp C hu (fun M2 Y G ad u2 J Q q3 R U=>?_)
    have ae:u=.iface 83 (.agg #[]):=by
     cases hu with
     | AZ P _ I m=>exact absurd rfl (aII I m)
     | EC=>rfl
    subst ae;refine aLH J Q R U (fun M3 Y3 G3 ak u3 r1 r2 r3 r4 r5=>?_);have K:(W.keep n).AG.length=W.AG.length+1:=by simp [Pl.PW.keep]
    rw [K] at r5;have af:=r1.fw.tc
    cases r3 with
    | cont i b ag =>rw [af];exact aLG r1 j A f rfl ag r4 ((BY.nil _).cons r5)
   ·have f:Pl.step W S=AH (W.keep n) n a [.cont W.AG.length]:=by
     rw [d];simp only [p,if_false]
    refine aLH H hp C hu (fun M2 Y G ad u2 J Q q3 R U=>?_);have ah:BL (W.keep n) a:=ac.TT;by_cases L:∃t,a=.AZ t
    ·obtain⟨t1,rfl⟩:=L
     cases q3 with
     | EC=>exact absurd rfl p
     | AZ P _ I m =>
      obtain⟨s,g,rfl,N,ai⟩:=R;have V:∀o,Below Y.heap.size Y (Y.alloc o):=fun o=>b_;refine aMY Y c.rb P 1 s g (fun e w' z=>z.tup) ?_;have aj:ArgsAt M2 O Y G.s (.slice s 1 g) [u2]:=⟨s,g,rfl,N,ai⟩
      have s1:=Stp.AA (M:=M2) (V (.cells #[.iface 86 (.int .i64 (P:Int)),.slice s 1 g] TApp));exact(aMW (J.below (V _)) (PlF.go s1 (Fg.Le.refl _) _ _ Q) j A f rfl I m (aj.mf (Mf.below (V _))) U (BL.TO) (by omega)).mono (fun e w' z=>z.after s1 (fun b hb=>(V _).block b (J.fw.olt hb)) (Fg.Le.refl _) n_ n_ n_)
    ·exact nx_B J Q j A f rfl (fun t e=>L ⟨t,e⟩) q3 R ((BY.nil _).cons U) ah hW.q.keep hT
  | [],E,q,d =>obtain⟨s,g,rfl,_⟩:=C;exact(aJ0 w c.rb E.length (.agg #[]) rfl s g (by rw [q.1];simp)).mono (fun e w' ⟨⟨es,j1⟩,j2⟩=>by subst j1;exact aGW H j2 j A es (x:=10) (by decide) d rfl (by omega))
  | a::b::r,E,q,d =>obtain⟨s,g,rfl,_⟩:=C;exact(aJ0 w c.rb E.length (.agg #[]) rfl s g (by rw [q.1];simp)).mono (fun e w' ⟨⟨es,j1⟩,j2⟩=>by subst j1;exact aGW H j2 j A es (x:=10) (by decide) d rfl (by omega))
 ·have f:Pl.step W S=AH W n D args:=by
   rw [d];unfold Pl.apply;rw [if_neg y]
  exact nx_B H hp j A f rfl (fun t e=>y (by rw [e,p2 t e])) Z C q (p1 D (by simp)) hW.q hT
theorem p_frame(c:Cx){F:Fg}{fr:CW}(h:FrF M w F u fr):FrFOk c M w F u fr:=by
 cases h with
 | hand b r I q _ H f g l s=>exact fr_hand f g l s
 | row b r d i j J q K _ H m f g x l y z n A B=>exact fr_row m f g x l y z n A B
 | gath b r d e J q O I K P a _ H m f g x l C y z D E L o n A B=>exact fr_gath m f g x l C y z D E L o n A B
 | two b r k t v p _ m N D n s G f g q=>exact fr_two m N D n s G f g q
theorem aMU{c:Cx}{F:Fg}{W:PW}{S n:PS}{j K:List CW}{o:PV}{args:List PV}(f:c.At k W S)(p:S.ended=false)(g:Pl.step W S=Pl.apply W n o args)(q:n.AB=j++K)(hp:PlF M w F kv K)(r:j.length<=1010000)(h:Pend c M O w F kv (k+1) W j o args)(s:k+1+2100<=c.T) :Calls prog 162 #[.pointer (some ⟨c.rb,0,none⟩),.nilIface] w (NxQ c M O w F (k+1) (k+1) 2100):=by
 have y:Hid (Calls prog 173 #[.pointer (some ⟨c.rb,0,none⟩)] w fun e i=>(∃v,e=.returned v)/\∃b d,i.cell? ⟨c.rb,2,none⟩=some b/\i.cell? ⟨c.rb,3,none⟩=some d/\(∃T x,b=.iface T x)/\(∃a l k,d=.slice a l k)/\Calls prog 174 #[.pointer (some ⟨c.rb,0,none⟩),.agg #[b,d]] i (NxQ c M O w F (k+1) (k+1) 2100)):=(aMS h hp r).mono (fun e i ⟨z,A,B,C,t,D⟩=>by
  rw [<- q] at t;obtain⟨b,d,E,G,H,I,J⟩:=p_next D t f p g s
  exact⟨z,b,d,E,G,H,I,J.mono (fun e P L=>L.after B C (Fg.Le.refl _) n_ n_ n_)⟩)
 clear f p g q hp r h s;go_enter func162,ntmps162
 go_wp2_with (first
  | (go_at_call 173;refine(Calls.mono y ?_);rintro e Q ⟨⟨v,rfl⟩,b,d,R,U,⟨T,x,rfl⟩,⟨a,l,V,rfl⟩,u⟩;have N:=(show Hid _ from u);clear u)
  | (go_at_call 174;refine(Calls.mono N ?_);intro e X hp;obtain⟨Y,Z,rfl⟩:=hp.tup;have m:=(show Hid _ from hp);clear hp))
 go_ret2;exact m
theorem p_goVal{c:Cx}{F:Fg}{v:Value}{n:Nat}{W:PW}{S:PS}{fr:CW}{K:List CW}(h:St c M O w F kv n W)(hp:PlF M w F kv (fr::K))(f:c.At n W S)(y:S.form=none)(q:S.AB=fr::K)(r:RV F.s v S.val)(H:n+1+2100<=c.T) :Calls prog 162 #[.pointer (some ⟨c.rb,0,none⟩),v] w (NxQ c M O w F (n+1) n 2100):=by
 obtain⟨b,I,m,rfl,g,j,i⟩:=hp;have s:=(f.frW q).nd;obtain⟨k,l,rfl,z,a⟩:=p_frame c j;obtain⟨A,B,C⟩:=h.setK m;obtain⟨D,E,G⟩:=A.tick (n+1);have p:=B.trans E;have J:Hid (Calls prog k (#[pt c.rb,v]++l) ((w.setCell ⟨c.rb,0,none⟩ m).setCell ⟨c.rb,4,none⟩ (.int .i64 ((n+1:Nat):Int))) (NxQ c M O w F (n+1) n 2100)) :=(a M O _ F m v K n W S p (Fg.Le.refl _) D f y q r (by omega)).mono (fun e Q L=>(L.nx (PlF.go p (Fg.Le.refl _) _ _ i)).after p (fun b g=>(G b g).trans (C b g)) (Fg.Le.refl _) n_ (by omega) (by omega));have N:∀(d:Array Value)(w:World),(callFunc k d).run prog w=.ok (.enter k d) w:=z;obtain⟨R,_,U⟩:=h.cells;obtain⟨V,X,Y,Z,t,_,_⟩:=h.mc;have c0:w.cell? ⟨c.rb,0,none⟩=some (.pointer (some ⟨b,0,none⟩)):=aA t.blk 0;have f0:w.frozen? ⟨c.rb,0,none⟩=false:=aF t.blk 0;have d0:w.cell? ⟨b,0,none⟩=some (.func (.func k) #[] l):=aA g.2 0;have d1:w.cell? ⟨b,1,none⟩=some m:=aA g.2 1;have P:b≠c.rb:=h.ne g.1;have hn:n<=1010000:=by have:=h.bd.2.1;omega
 obtain⟨o,rfl⟩:=PlF.ptr i;obtain⟨T,x,rfl⟩:=r.iface;clear h g j i f y q r H a A B C D E G p t s z;go_enter func162,ntmps162;go_wp2_with (go_at_fn k;refine(Calls.mono J ?_);intro e w4 hp;obtain⟨v',x',rfl⟩:=hp.tup;have u:=(show Hid _ from hp);clear hp);go_ret2;exact u
structure Fin(c:Cx)(M O:Nat->Prop)(w:World)(F:Fg)(n:Nat)(W:PW):Prop where
 fw:FW c.L M O w F (c.B+n) W
 mc:∃kv lv av gv ov,Mch c M w kv lv av gv n ov/\DS M w ov W.out
theorem Stt.fin{c:Cx}{F:Fg}{n:Nat}{W:PW}(h:St c M O w F kv n W):Fin c M O w F n W:=by obtain⟨a,b,d,e,f,_,g⟩:=h.mc;exact⟨h.fw,kv,a,b,d,e,f,g⟩
theorem Pend.fin{c:Cx}{F:Fg}{n:Nat}{W:PW}{a:List CW}{b:PV}{args:List PV}(h:Pend c M O w F kv n W a b args):Fin c M O w F n W:=by obtain⟨d,e,f,g,k,l,i,_,_,j,_⟩:=h.mc;exact⟨h.fw,kv,d,e,f,g,i,j⟩
theorem Fin.below{c:Cx}{w':World}{F:Fg}{n:Nat}{W:PW}(h:Fin c M O w F n W)(a:Below w.heap.size w w'):Fin c M O w' F n W:=by obtain⟨b,d,e,f,g,i,j⟩:=h.mc;exact⟨h.fw.below a,b,d,e,f,g,i.below a,j.belowF a⟩
inductive RnR (c:Cx) (M O:Nat->Prop) (w:World) (F:Fg):Ending->Prop
 | val (v:Value) (n:Nat) (W':PW) (S':PS) (hn:n<=c.T) (hg:A8 c.z c.W0 c.S0=⟨0,W',S'⟩) (hv:RV F.s v S'.val) (h:Fin c M O w F n W'):RnR c M O w F (aGG v .nilIface)
 | err (es:ByteArray) (x:Nat) (n:Nat) (W':PW) (hn:n<=c.T) (hx:x≠0) (h7:x≠7) (hg:(A8 c.z c.W0 c.S0).e=x) (hw:(A8 c.z c.W0 c.S0).W=W') (h:Fin c M O w F n W'):RnR c M O w F (aGG .nilIface (aY es (x:Int)))
 | spent (es:ByteArray) (n:Nat) (W':PW) (hn:n<=c.T) (hg:(A8 c.z c.W0 c.S0).e=7) (ho:(A8 c.z c.W0 c.S0).W.out=W'.out) (h:Fin c M O w F n W'):RnR c M O w F (aGG .nilIface (aY es 7))
def RnQ(c:Cx)(M O:Nat->Prop)(w:World)(F:Fg)(e:Ending)(w':World):Prop:=∃M' G,Stp M w M' w'/\(∀b,O b->w'.heap[b]?=w.heap[b]?)/\Fg.Le F G/\RnR c M' O w' G e
def rkL(v er:Value):Nat:=match er with
 | .nilIface=>match v with
  | .nilIface=>2
  | _=>1
 | _=>0
def stpL(c:Cx)(w:World):Nat:=match w.cell? ⟨c.rb,4,none⟩ with
 | some (.int _ i)=>i.toNat
 | _=>0
def muL(c:Cx)(v er:Value)(w:World):Nat:=3*(c.T+1-stpL c w)+rkL v er
abbrev LpI(c:Cx)(M O:Nat->Prop)(w:World)(F:Fg)(v er:Value)(wr:World):Prop:=NxQ c M O w F 0 0 (c.z+2200) (aGG v er) wr
theorem aHV{c:Cx}{F:Fg}{n m:Nat}{W:PW}(h:Stt c M O w F kv n m W):stpL c w=n:=by unfold stpL;rw [h.cells.1];simp
theorem Pend.cells{c:Cx}{F:Fg}{n:Nat}{W:PW}{b:List CW}{d:PV}{args:List PV}(h:Pend c M O w F kv n W b d args):w.cell? ⟨c.rb,4,none⟩=some (.int .i64 (n:Int))/\w.cell? ⟨c.rb,5,none⟩=some (.int .i64 (c.z:Int))/\w.cell? ⟨c.rb,0,none⟩=some kv:=by obtain⟨e,f,g,i,j,k,a,_⟩:=h.mc;exact⟨aA a.blk 4,aA a.blk 5,aA a.blk 0⟩
theorem Stt.cell0{c:Cx}{F:Fg}{n m:Nat}{W:PW}(h:Stt c M O w F kv n m W):w.cell? ⟨c.rb,0,none⟩=some kv:=by obtain⟨b,d,e,f,a,_⟩:=h.mc;exact aA a.blk 0
inductive Lp (c:Cx) (M O:Nat->Prop) (w:World) (F:Fg) (v er:Value) (wr:World):Prop
 | go (n:Nat) (kv:Value) (hn:n<=c.z) (he:er=.nilIface) (hk:v=.nilIface\/((∃T x,v=.iface T x)/\∃a,kv=.pointer (some a))) (hkp:∃o,kv=.pointer o) (c4:wr.cell? ⟨c.rb,4,none⟩=some (.int .i64 (n:Int))) (c5:wr.cell? ⟨c.rb,5,none⟩=some (.int .i64 (c.z:Int))) (c0:wr.cell? ⟨c.rb,0,none⟩=some kv)
   (hC:∀nq,Calls prog 162 #[.pointer (some ⟨c.rb,0,none⟩),v] (wr.drewN nq) (fun e w'=>∃v' er',e=aGG v' er'/\LpI c M O w F v' er' w'/\muL c v' er' w'<muL c v er wr))
 | off (n:Nat) (kv:Value) (hn:n<=c.z) (he:(er=.nilIface/\(∃T x,v=.iface T x)/\kv=.pointer none)\/(v=.nilIface/\∃es x,er=aY es x)) (c4:wr.cell? ⟨c.rb,4,none⟩=some (.int .i64 (n:Int))) (c5:wr.cell? ⟨c.rb,5,none⟩=some (.int .i64 (c.z:Int))) (c0:wr.cell? ⟨c.rb,0,none⟩=some kv)
   (hQ:∀wx,Below wr.heap.size wr wx->RnQ c M O w F (aGG v er) wx)
 | spent (n:Nat) (hn:c.z<n) (hn2:n<=1020000) (he:(er=.nilIface/\(v=.nilIface\/∃T x,v=.iface T x))\/(v=.nilIface/\∃es x,er=aY es x)) (c4:wr.cell? ⟨c.rb,4,none⟩=some (.int .i64 (n:Int))) (c5:wr.cell? ⟨c.rb,5,none⟩=some (.int .i64 (c.z:Int)))
   (hQ:∀es wx,Below wr.heap.size wr wx->RnQ c M O w F (aGG .nilIface (aY es 7)) wx)
theorem aGV(w:World)(n:Nat):Below w.heap.size w (w.drewN n):=⟨rfl,rfl,rfl,n_,fun _ _=>rfl⟩
theorem RnQ.drew{c:Cx}{M':Nat->Prop}{wr:World}{F G:Fg}(i:Stp M w M' wr)(j:∀b,O b->wr.heap[b]?=w.heap[b]?)(l:Fg.Le F G)(h:∀a,Below wr.heap.size wr a->RnR c M' O a G e)(d:∀b,O b->b<wr.heap.size)(a:World)(f:Below wr.heap.size wr a):RnQ c M O w F e a:=⟨M',G,i.trans (Stp.AA f),fun b g=>(f.block b (d b g)).trans (j b g),l,h _ f⟩
theorem lp_of{c:Cx}{F:Fg}{v er:Value}{wr:World}(ah:c.T=c.z+5000)(hz:c.z<=1000000)(h:LpI c M O w F v er wr):Lp c M O w F v er wr:=by
 obtain⟨M',G,k,W,S,t,u,y,B,N,h6,h7,h9,h8⟩:=h;have hB:=aGV wr;have Z:=fun n=>Stp.AA (M:=M') (hB n);have i:k<c.T:=by omega
 have aa:(Pl.step W S).e≠7:=by have hi:=B.inv;rw [show c.T-k=(c.T-(k+1))+1 from by omega] at hi;exact(wF hi).1
 generalize z:aGG v er=E at h8
 cases h8 with
 | val P A C S' D U hf s Q d =>
  simp only [Ending.returned.injEq,Value.tuple.injEq,Array.mk.injEq,List.cons.injEq,and_true] at z;obtain⟨rfl,rfl⟩:=z;have ha:=B.next N D U i;obtain⟨l,m,_⟩:=d.cells;by_cases H:k+1<=c.z
  ·cases R:S'.AB with
   | nil =>
    rw [R] at s;have:A=.pointer none:=s;subst this;have V:S'.ended=true:=by simp [Pl.PS.ended,hf,R]
    exact .off (k+1) _ H (.inl ⟨rfl,Q.iface,rfl⟩) l m d.cell0 (RnQ.drew t u y (fun X f=>.val v (k+1) C S' i (ha.go.done V H) Q (d.fin.below f)) (fun b o=>d.fw.olt o))
   | cons fr K =>
    rw [R] at s;have ab:∃a,A=.pointer (some a):=by obtain⟨b,_,_,e,_⟩:=s;exact⟨_,e⟩
    refine .go (k+1) A H rfl (.inr ⟨Q.iface,ab⟩) (PlF.ptr s) l m d.cell0 (fun I=>?_);refine(p_goVal (d.below (hB I)) (PlF.go (Z I) (Fg.Le.refl _) _ _ s) ha hf R Q (by omega)).mono (fun e w' J=>?_);obtain⟨P,p,rfl⟩:=J.tup;refine⟨P,p,rfl,J.after (t.trans (Z I)) u y (Nat.zero_le _) (Nat.zero_le _) (by omega),?_⟩;obtain⟨M2,G2,k2,W2,S2,j1,j2,j3,j4,j5,j6,j7,j9,j8⟩:=J
    have Y:stpL c w'=k2+1:=by
     cases j8 with
     | val _ _ _ _ _ _ _ _ _ q=>exact aHV q
     | err _ _ _ _ _ _ _ _ q=>exact aHV q
     | spent _ _ _ _ _ q=>exact aHV q
     | pend _ _ _ _ _ _ _ _ _ _ q=>unfold stpL;rw [q.cells.1];simp
    have ai:rkL P p<=2:=by unfold rkL;split<;>(try split)<;>omega
    have ac:rkL v .nilIface=1:=by obtain⟨T,x,rfl⟩:=Q.iface;rfl
    have:=j4.le;unfold muL;rw [Y,aHV d,ac];omega
  ·refine .spent (k+1) (by omega) (by omega) (.inl ⟨rfl,.inr Q.iface⟩) l m (fun j=>RnQ.drew t u y (fun X f=>?_) (fun b o=>d.fw.olt o));obtain⟨Wz,Sz,r,L⟩:=ha.go.off (by omega);exact .spent j (k+1) C i (by rw [r]) (by rw [r];exact L) (d.fin.below f)
 | err j x A C hx D hw U d =>
  simp only [Ending.returned.injEq,Value.tuple.injEq,Array.mk.injEq,List.cons.injEq,and_true] at z;obtain⟨rfl,rfl⟩:=z;obtain⟨l,m,_⟩:=d.cells;by_cases H:k+1<=c.z
  ·have hg:=B.go.err N (by rw [D];exact hx) (by omega);exact .off (k+1) A H (.inr ⟨rfl,j,_,rfl⟩) l m d.cell0 (RnQ.drew t u y (fun X f=>.err j x (k+1) C i hx (by rw [<- D];exact aa) (by rw [hg];exact D) (by rw [hg];exact hw) (d.fin.below f)) (fun b o=>d.fw.olt o))
  ·refine .spent (k+1) (by omega) (by omega) (.inr ⟨rfl,j,_,rfl⟩) l m (fun j=>RnQ.drew t u y (fun X f=>?_) (fun b o=>d.fw.olt o));obtain⟨Wz,Sz,r,L⟩:=B.go.spent N (by omega);exact .spent j (k+1) C i (by rw [r]) (by rw [r,U];exact L) (d.fin.below f)
 | spent j A C ad U d =>simp only [Ending.returned.injEq,Value.tuple.injEq,Array.mk.injEq,List.cons.injEq,and_true] at z;obtain⟨rfl,rfl⟩:=z;obtain⟨l,m,_⟩:=d.cells;refine .spent (k+1) (by omega) (by omega) (.inr ⟨rfl,j,_,rfl⟩) l m (fun j=>RnQ.drew t u y (fun X f=>?_) (fun b o=>d.fw.olt o));obtain⟨Wz,Sz,r,L⟩:=B.go.spent N ad;exact .spent j (k+1) C i (by rw [r]) (by rw [r,U];exact L) (d.fin.below f)
 | pend Fs K A S0 fx ag D R s hl d =>
  simp only [Ending.returned.injEq,Value.tuple.injEq,Array.mk.injEq,List.cons.injEq,and_true] at z;obtain⟨rfl,rfl⟩:=z;obtain⟨l,m,c0⟩:=d.cells;by_cases H:k+1<=c.z
  ·refine .go (k+1) A H rfl (.inl rfl) (PlF.ptr s) l m c0 (fun I=>?_);refine(aMU B N D R (PlF.go (Z I) (Fg.Le.refl _) _ _ s) (by omega) (d.below (hB I)) (by omega)).mono (fun e w' J=>?_);obtain⟨P,p,rfl⟩:=J.tup;refine⟨P,p,rfl,J.after (t.trans (Z I)) u y (Nat.zero_le _) (Nat.zero_le _) (by omega),?_⟩;obtain⟨M2,G2,k2,W2,S2,j1,j2,j3,j4,j5,j6,j7,j9,j8⟩:=J;have aj:=j4.le;have hm:muL c .nilIface .nilIface wr=3*(c.T+1-(k+1))+2:=by unfold muL stpL;rw [l];simp [rkL]
   rw [hm];generalize g:aGG P p=E2 at j8 j9
   cases j8 with
   | val v9 _ _ _ _ _ _ _ ae q =>simp only [Ending.returned.injEq,Value.tuple.injEq,Array.mk.injEq,List.cons.injEq,and_true] at g;obtain⟨rfl,rfl⟩:=g;obtain⟨T,x,rfl⟩:=ae.iface;unfold muL;rw [aHV q];show 3*_+1<_;omega
   | err _ _ _ _ _ _ _ _ q =>simp only [Ending.returned.injEq,Value.tuple.injEq,Array.mk.injEq,List.cons.injEq,and_true] at g;obtain⟨rfl,rfl⟩:=g;unfold muL;rw [aHV q];show 3*_+0<_;omega
   | spent _ _ _ _ _ q =>simp only [Ending.returned.injEq,Value.tuple.injEq,Array.mk.injEq,List.cons.injEq,and_true] at g;obtain⟨rfl,rfl⟩:=g;unfold muL;rw [aHV q];show 3*_+0<_;omega
   | pend _ _ _ _ _ _ _ _ _ _ q =>
    have:=j9 rfl;simp only [Ending.returned.injEq,Value.tuple.injEq,Array.mk.injEq,List.cons.injEq,and_true] at g;obtain⟨rfl,rfl⟩:=g;have af:muL c .nilIface .nilIface w'=3*(c.T+1-(k2+1))+2:=by unfold muL stpL;rw [q.cells.1];simp [rkL]
    rw [af];omega
  ·refine .spent (k+1) (by omega) (by omega) (.inl ⟨rfl,.inl rfl⟩) l m (fun j=>RnQ.drew t u y (fun X f=>?_) (fun b o=>d.fw.olt o));obtain⟨Wz,Sz,r,L⟩:=B.go.spent N (by omega);exact .spent j (k+1) W i (by rw [r]) (by rw [r];exact L) (d.fin.below f)
theorem aHF(w:World)(n m:Nat):Below w.heap.size w ((w.drewN n).drewN m):=⟨rfl,rfl,rfl,n_,fun _ _=>rfl⟩
theorem p_fRun{c:Cx}{F:Fg}{f:PF}(L:RC M w F u f [])(h:St c M O w F (.pointer none) 0 c.W0)(k:c.At 0 c.W0 c.S0)(C:c.S0.form=some f)(N:c.S0.AB=[])(i:c.S0.env=[])(D:c.T=c.z+5000) :Calls prog 159 #[.pointer (some ⟨c.rb,0,none⟩),u] w (RnQ c M O w F):=by
 have X:=h.bd.2.2;have E:=(k.wf C).nd;obtain⟨y,G,rfl,P,b⟩:=aGZ c L
 have m:Hid (Calls prog y (#[pt c.rb,.pointer none]++G) w (fun e Q=>∃v a,e=aGG v a/\LpI c M O w F v a Q)) :=
  (b M O w F (.pointer none) (.pointer none) [] 0 c.W0 c.S0 (Stp.refl _ _) (Fg.Le.refl _) h (by rw [i];exact .nil) k C N (by omega)).mono (fun e Q d=>by
   have R:=d.nx (show PlF M w F (.pointer none) [] from rfl);obtain⟨v,a,rfl⟩:=R.tup
   exact⟨v,a,rfl,R.after (Stp.refl _ _) (fun _ _=>rfl) (Fg.Le.refl _) n_ n_ (by omega)⟩)
 have Y:∀(j:Array Value)(w:World),(callFunc y j).run prog w=.ok (.enter y j) w:=P;have z:Hid (∀v a wr,LpI c M O w F v a wr->Lp c M O w F v a wr):=fun v a wr q=>lp_of D X q;clear L h k C N i b P E;go_enter func159,ntmps159;go_wp2_with (go_at_fn y;refine(Calls.mono m ?_);rintro e w3 ⟨v,a,rfl,d⟩;have g:=(show Hid _ from d);clear d);clear m
 go_loopw [6,7] (fun v a wr=>Hid (LpI c M O w F v a wr)) (fun v a wr=>muL c v a wr)
 case atStart=>exact g
 case round =>
  rename_i v2 Z
  cases z.out _ _ _ hrel.out with
  | go n kv A i hk H S U c0 V =>
   subst i;obtain⟨o,rfl⟩:=H;have m:=h_ V;have p:((n:Nat):Int)<=(c.z:Int):=by omega
   clear V z g;have r:decide (n<=c.z)=true:=by simpa using A
   rcases hk with rfl | ⟨⟨T,x,rfl⟩,a9,I⟩
   ·clear hrel;go_wp2_with fail
    go_quiet (fail)
    all_goals
     go_wp2_with (go_at_call 162;refine(Calls.mono (m _) ?_);rintro e W ⟨v',J,rfl,d,s⟩;have l:=(show Hid _ from d);have K:=(show Hid _ from s);clear d s)
     exact⟨l,K⟩
   ·clear hrel;obtain rfl:o=some a9:=by simpa using I
    go_wp2_with fail
    go_quiet (fail)
    all_goals
     go_wp2_with (go_at_call 162;refine(Calls.mono (m _) ?_);rintro e W ⟨v',J,rfl,d,s⟩;have l:=(show Hid _ from d);have K:=(show Hid _ from s);clear d s)
     exact⟨l,K⟩
  | off n kv A i S U c0 t =>
   have B:=h_ t;have p:((n:Nat):Int)<=(c.z:Int):=by omega
   have r:decide (n<=c.z)=true:=by simpa using A
   clear t z g hrel;rcases i with⟨rfl,⟨T,x,rfl⟩,rfl⟩ | ⟨rfl,es,x,rfl⟩
   ·go_wp2_with fail
    go_quiet (fail)
    all_goals
     go_wp2_with fail
     go_quiet (fail)
     all_goals
      go_wp2_with fail
      go_ret2;exact B.out _ (by first | exact aGV _ _ | exact aHF _ _ _)
   ·unfold aY at *;go_wp2_with fail
    go_quiet (fail)
    all_goals
     go_wp2_with fail
     go_quiet (fail)
     all_goals
      go_wp2_with fail
      go_ret2;exact B.out _ (by first | exact aGV _ _ | exact aHF _ _ _)
  | spent n A p i S U t =>
   have B:=h_ t;have aa:(c.z:Int)<((n:Nat):Int):=by omega
   have r:decide (n<=c.z)=false:=by simp;omega
   clear t z g hrel;rcases i with⟨rfl,rfl | ⟨T,x,rfl⟩⟩ | ⟨rfl,es,x,rfl⟩
   all_goals
    try unfold aY at *
    go_wp2_with fail
    go_quiet (fail)
    all_goals
     go_wp2_with fail
     go_quiet (fail)
     all_goals
      go_wp2_with (go_at_call 163;refine(aJD _).mono ?_;rintro e W ⟨ab,rfl,rfl⟩;unfold aY)
      go_ret2;exact B.out _ _ (by first | exact aGV _ _ | exact aHF _ _ _)
end
end Go.Proofs.YtieooapcfpimlaaGreatDoor
