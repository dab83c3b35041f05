import Derived.Test.YtieooapcfpimlaaGreatDoorL43
import Derived.Test.YtieooapcfpimlaaGreatDoorL48
import Derived.Test.YtieooapcfpimlaaGreatDoorL30
namespace Go.Proofs.YtieooapcfpimlaaGreatDoor
set_option maxHeartbeats 8000000
set_option maxRecDepth 100000
open Go.Proofs.Tryz
open Pl (PV PW PF SR AE A8)
section
open Go.RowKit Go.Maps Go.Lib
variable {w:World} {M O P:Nat->Prop} {N eb z T:Nat} {a b c fv:Value}
theorem aH8(L:Lo)(w:World)(d:Option Addr)(T:TypeId)(y:Value)(q:Bool)(Q:Ending->World->Prop)(f:Hid (Calls prog 164 #[.iface T y] (w.alloc (.cells #[.iface T y,.bool q] 157)) fun e g=>Q e g/\∃k c,e=.returned (fnV k c))) :Calls prog 160 #[.pointer (some ⟨L.sb,0,none⟩),.iface 157 (.agg #[.iface T y,.bool q]),.pointer d] w Q:=by have h:=aI6;go_enter func160,ntmps160;go_wp2_with (go_at_call 164;refine(Calls.mono f ?_);rintro e i ⟨b,j,l,rfl⟩;have a:=(show Hid _ from b);clear b);exact a
theorem aJ7(L:Lo)(w:World)(b:Option Addr)(nm:AE)(k:Nat)(Q:Ending->World->Prop)(f:Hid (Calls prog 165 #[.pointer (some ⟨L.sb,0,none⟩),.agg #[.string ⟨nm.toArray⟩,.int .i64 (k:Int)],.pointer b] (w.alloc (.cells #[.string ⟨nm.toArray⟩,.int .i64 (k:Int)] 148)) fun e g=>Q e g/\∃k c,e=.returned (fnV k c))) :Calls prog 160 #[.pointer (some ⟨L.sb,0,none⟩),.iface 148 (.agg #[.string ⟨nm.toArray⟩,.int .i64 (k:Int)]),.pointer b] w Q:=by have i:=aJ5;have h:=aHA;go_enter func160,ntmps160;go_wp2_with (go_at_call 165;refine(Calls.mono f ?_);rintro e j ⟨d,l,m,rfl⟩;have a:=(show Hid _ from d);clear d);exact a
theorem aKT(L:Lo)(w:World)(b:Option Addr)(nm:AE)(k:Nat)(T:TypeId)(y:Value)(Q:Ending->World->Prop)(f:Hid (Calls prog 169 #[.pointer (some ⟨L.sb,0,none⟩),.agg #[.string ⟨nm.toArray⟩,.int .i64 (k:Int),.iface T y],.pointer b] (w.alloc (.cells #[.string ⟨nm.toArray⟩,.int .i64 (k:Int),.iface T y] 205)) fun e g=>Q e g/\∃k c,e=.returned (fnV k c))) :Calls prog 160 #[.pointer (some ⟨L.sb,0,none⟩),.iface 205 (.agg #[.string ⟨nm.toArray⟩,.int .i64 (k:Int),.iface T y]),.pointer b] w Q:=by have m:=ffy_Set;have h:=aHN;have i:=aHI;have j:=aKL;have l:=aIM;go_enter func160,ntmps160;go_wp2_with (go_at_call 169;refine(Calls.mono f ?_);rintro e n ⟨d,o,p,rfl⟩;have a:=(show Hid _ from d);clear d);exact a
theorem aIV(L:Lo)(w:World)(b:Option Addr)(nm:AE)(k:Nat)(T:TypeId)(y:Value)(Q:Ending->World->Prop)(f:Hid (Calls prog 170 #[.pointer (some ⟨L.sb,0,none⟩),.agg #[.string ⟨nm.toArray⟩,.int .i64 (k:Int),.iface T y],.pointer b] (w.alloc (.cells #[.string ⟨nm.toArray⟩,.int .i64 (k:Int),.iface T y] 152)) fun e g=>Q e g/\∃k c,e=.returned (fnV k c))) :Calls prog 160 #[.pointer (some ⟨L.sb,0,none⟩),.iface 152 (.agg #[.string ⟨nm.toArray⟩,.int .i64 (k:Int),.iface T y]),.pointer b] w Q:=by have n:=aKK;have h:=aG1;have i:=aGT;have j:=aIP;have l:=aHP;have m:=aIC;go_enter func160,ntmps160;go_wp2_with (go_at_call 170;refine(Calls.mono f ?_);rintro e o ⟨d,p,q,rfl⟩;have a:=(show Hid _ from d);clear d);exact a
theorem aIU(L:Lo)(w:World)(f:Option Addr)(b:Option Addr)(n a:Nat)(T:TypeId)(y:Value)(Q:Ending->World->Prop)(h:Hid (Calls prog 171 #[.pointer (some ⟨L.sb,0,none⟩),.agg #[.slice b n a,.iface T y],.pointer f] (w.alloc (.cells #[.slice b n a,.iface T y] 210)) fun e i=>Q e i/\∃k c,e=.returned (fnV k c))) :Calls prog 160 #[.pointer (some ⟨L.sb,0,none⟩),.iface 210 (.agg #[.slice b n a,.iface T y]),.pointer f] w Q:=by have r:=aIE;have j:=aG0;have l:=aH4;have m:=aIN;have o:=aHO;have p:=aIB;have q:=aHB;go_enter func160,ntmps160;go_wp2_with (go_at_call 171;refine(Calls.mono h ?_);rintro e s ⟨g,t,u,rfl⟩;have d:=(show Hid _ from g);clear g);exact d
theorem aJ8(L:Lo)(w:World)(f:Option Addr)(b:Option Addr)(n a:Nat)(Q:Ending->World->Prop)(h:Hid (Calls prog 172 #[.pointer (some ⟨L.sb,0,none⟩),.agg #[.slice b n a],.pointer f] (w.alloc (.cells #[.slice b n a] 211)) fun e i=>Q e i/\∃k c,e=.returned (fnV k c))) :Calls prog 160 #[.pointer (some ⟨L.sb,0,none⟩),.iface 211 (.agg #[.slice b n a]),.pointer f] w Q:=by have s:=aM4;have j:=aHE;have l:=aG5;have m:=aJK;have o:=aID;have p:=aI7;have q:=aH7;have r:=aGU;go_enter func160,ntmps160;go_wp2_with (go_at_call 172;refine(Calls.mono h ?_);rintro e t ⟨g,u,v,rfl⟩;have d:=(show Hid _ from g);clear g);exact d
theorem aJA(L:Lo)(w:World)(h c:Option Addr)(n a:Nat)(Q:Ending->World->Prop)(k:Hid (Calls prog 168 #[.pointer (some ⟨L.sb,0,none⟩),.slice c n a,.pointer h] (w.alloc (.cells #[.slice c n a] 204)) fun e i=>∃b d f,e=.returned (.slice b d f)/\Q (.returned (fnV 183 #[pt i.heap.size])) (i.alloc (.cells #[.slice b d f] TCds)))) :Calls prog 160 #[.pointer (some ⟨L.sb,0,none⟩),.iface 204 (.agg #[.slice c n a]),.pointer h] w Q:=by
 have p:=aLV;have l:=aG6;have m:=aGX;have o:=aI8;go_enter func160,ntmps160
 go_wp2_with (first
  | (go_at_call 168;refine(Calls.mono k ?_);rintro e q ⟨b,d,f,rfl,j⟩;have g:=(show Hid _ from j);clear j)
  | (go_at_call 167;refine(Calls.mono (p_rowMk _ _ _ _) ?_);rintro e r ⟨rfl,rfl⟩))
 exact g
def IfS(L:Lo)(M O P:Nat->Prop)(w:World)(F:Fg)(W:PW)(N:Nat)(sc:List (List AE))(a b c:Value)(A:Nat)(l:List (Value×PF))(wx:World):Prop:=∃M' G,Cmp L M O P w F W M' wx G (N+A)/\Bk M' wx w.heap.size #[a,b,c] 202/\∀p∈l,RC M' wx G p.1 p.2 sc
theorem aJH{L:Lo}{F:Fg}{W:PW}{sc:List (List AE)}{av:Value}(o:ScR M w F.s av sc){u:Value}{x:PF}(q:CP M w F.s u x)(r:CmpOk L O W x)(s:sc.length+IU x<=1100)(A:Nat)(l:List (Value×PF))(j:World)(t:N+A+IU x<=9000000000000000000)(h:IfS L M O P w F W N sc a b c A l j) :Calls prog 160 #[.pointer (some ⟨L.sb,0,none⟩),u,av] j fun e m=>∃f g,e=.returned (fnV f g)/\IfS L M O P w F W N sc a b c (A+IU x) ((fnV f g,x)::l) m:=by
 obtain⟨y,G,d,z,B⟩:=h;refine(r y P j G _ u av sc d.fw d.cr (q.go d.AQ d.le.s) (o.go d.AQ d.le.s) s t).mono (fun e m C=>?_);obtain⟨v,D,E,rfl,i,n⟩:=C;obtain⟨f,g,rfl⟩:=n.func;refine⟨f,g,rfl,D,E,(d.trans i).up (by omega),z.go i.AQ,fun p k=>?_⟩;rcases List.mem_cons.1 k with rfl | k
 ·exact n
 ·exact(B p k).go i.AQ i.le
theorem if_end{L:Lo}{F:Fg}{W:PW}{sc:List (List AE)}{A:Nat}{l:List (Value×PF)}{wx:World}(h:IfS L M O P w F W N sc a b c A l wx){u1 u2 u3:Value}{x y z:PF}(k:(u1,x)∈l)(m:(u2,y)∈l)(n:(u3,z)∈l)(nm:AE)(d:Pl.A9)(v:PV)(ns:List AE)(o:N+A<=N+IU (.mk .iff nm d v [x,y,z] ns)) :Calls prog 166 #[u1,u2,u3] wx fun e f=>CmpR L M O P w F W (.mk .iff nm d v [x,y,z] ns) sc (N+IU (.mk .iff nm d v [x,y,z] ns)) e f/\f.heap[w.heap.size]?=some (.cells #[a,b,c] 202 (0,0)):=by obtain⟨r,G,g,p,i⟩:=h;refine(aMV g.fw g.cr (i _ k) (i _ m) (i _ n) nm d v ns).mono (fun e f j=>⟨j.after g o,?_⟩);obtain⟨_,_,_,_,q,_⟩:=j;exact(p.go q.AQ).2
theorem aL5{L:Lo}{F:Fg}{W:PW}(h:FW L M O w F N W)(hP:∀k,P k->Cr M w F k){av:Value}{x y z:PF}(I:CP M w F.s a x)(J:CP M w F.s b y)(K:CP M w F.s c z)(i1:CmpOk L O W x)(i2:CmpOk L O W y)(i3:CmpOk L O W z){sc:List (List AE)}(n:ScR M w F.s av sc)(nm:AE)(d:Pl.A9)(v:PV)(ns:List AE)(hl:sc.length+IU (.mk .iff nm d v [x,y,z] ns)<=1100)(hN:N+IU (.mk .iff nm d v [x,y,z] ns)<=9000000000000000000) :Calls prog 160 #[.pointer (some ⟨L.sb,0,none⟩),.iface 202 (.agg #[a,b,c]),av] w (CmpQ L M O P w F W (.mk .iff nm d v [x,y,z] ns) sc (N+IU (.mk .iff nm d v [x,y,z] ns))):=by
 have j:IU (.mk .iff nm d v [x,y,z] ns)=1+(IU x+(IU y+IU z)):=by rw [OL,ZL,ZL,ZL,aA5];omega
 obtain⟨f,Q⟩:∃f,f=Pl.PF.mk .iff nm d v [x,y,z] ns:=⟨_,rfl⟩
 rw [<- Q] at hl hN j ⊢
 have HU:Hid (∀A l g u m,((u=a/\m=x)\/(u=b/\m=y)\/(u=c/\m=z))->A+IU m<=IU x+IU y+IU z->IfS L M O P w F W N sc a b c A l g->Calls prog 160 #[.pointer (some ⟨L.sb,0,none⟩),u,av] g fun e E=>∃R S,e=.returned (fnV R S)/\IfS L M O P w F W N sc a b c (A+IU m) ((fnV R S,m)::l) E):=fun A l g u m G hA q=>by
  rcases G with⟨rfl,rfl⟩ | ⟨rfl,rfl⟩ | ⟨rfl,rfl⟩
  ·exact aJH n I i1 (by omega) A l g (by omega) q
  ·exact aJH n J i2 (by omega) A l g (by omega) q
  ·exact aJH n K i3 (by omega) A l g (by omega) q
 have HZ:Hid (∀A l g T U V,A<=IU x+IU y+IU z->(T,x)∈l->(U,y)∈l->(V,z)∈l->IfS L M O P w F W N sc a b c A l g->Calls prog 166 #[T,U,V] g fun e E=>CmpR L M O P w F W f sc (N+IU f) e E/\E.heap[w.heap.size]?=some (.cells #[a,b,c] 202 (0,0))):=fun A l g T U V hA q1 q2 q3 q=>by subst Q;exact if_end q q1 q2 q3 nm d v ns (by omega)
 have i:Hid (IfS L M O P w F W N sc a b c 0 [] (w.alloc (.cells #[a,b,c] 202)).drew):=by have hB:Below w.heap.size w (w.alloc (.cells #[a,b,c] 202)).drew:=b_.drew;exact⟨M,F,(Cmp.refl h hP).below hB,⟨fun q=>Nat.lt_irrefl _ (h.mlt _ q),aF6 (aF7 rfl)⟩,fun p H=>by cases H⟩
 obtain⟨o,r,rfl⟩:=I.iface;obtain⟨s,t,rfl⟩:=J.iface;obtain⟨B,C,rfl⟩:=K.iface;obtain⟨oa,rfl⟩:=n.ptr;have HS:Hid (∀g:World,g.heap[w.heap.size]?=some (.cells #[.iface o r,.iface s t,.iface B C] 202 (0,0))->g.cell? ⟨w.heap.size,0,none⟩=some (.iface o r)/\g.cell? ⟨w.heap.size,1,none⟩=some (.iface s t)/\g.cell? ⟨w.heap.size,2,none⟩=some (.iface B C)):=fun g q=>⟨aA q 0,aA q 1,aA q 2⟩
 have X:Hid (∀A l g,IfS L M O P w F W N sc (.iface o r) (.iface s t) (.iface B C) A l g->g.heap[w.heap.size]?=some (.cells #[.iface o r,.iface s t,.iface B C] 202 (0,0))):=fun A l g ⟨_,_,_,q,_⟩=>q.2;clear h hP I J K i1 i2 i3 n hl hN j Q;have fy:=ffy_If;have aa:=aH6;have ab:=aH5;go_enter func160,ntmps160
 go_upto_region 10 with fail
 go_region_held3 (fun g=>g.cell? ⟨w.heap.size,0,none⟩=some (.iface o r)/\g.cell? ⟨w.heap.size,1,none⟩=some (.iface s t)/\g.cell? ⟨w.heap.size,2,none⟩=some (.iface B C))
  ((refine HS.out _ ?_;first | exact Y.out | exact X.out _ _ _ i.out | exact aF7 rfl))
  ((first
   | (go_at_call 160;refine(Calls.mono (HU _ _ _ _ _ (by first | exact .inl ⟨rfl,rfl⟩ | exact .inr (.inl ⟨rfl,rfl⟩) | exact .inr (.inr ⟨rfl,rfl⟩)) (by omega) i) ?_);rintro e w4 ⟨R,S,rfl,D⟩;have i:=(show Hid _ from D);clear D)
   | (go_at_call 166;refine(Calls.mono (HZ _ _ _ _ _ _ (by omega) (by simp) (by simp) (by simp) i) ?_);rintro e w6 ⟨⟨H,k6,c6,rfl⟩,G⟩;have Y:=(show Hid _ from G);have Z:=(show Hid _ from H);clear H G)))
 all_goals
  go_wp2_with fail
  go_ret;exact Z
theorem aLW{α:Type}{l:List α}(h:1<=l.length):∃x r,l=x::r:=by
 cases l with
 | nil=>simp at h
 | cons x r=>exact⟨x,r,rfl⟩
theorem p_cmp(L:Lo)(O:Nat->Prop)(W:PW):∀(n:Nat)(f:PF),IU f<=n->CmpOk L O W f:=by
 intro n
 induction n with
 | zero=>intro f hf;have:=aGO f;omega
 | succ n ad =>
  intro f am M P w F N v av sc h hP hv H Z hN;have Y:∀y,IU y<IU f->CmpOk L O W y:=fun y hy=>ad y (by omega);have l:=Sg.Le.refl F.s
  cases hv with
  | const x q m d v o p B I =>obtain⟨J,rfl⟩:=H.ptr;obtain⟨T,y,rfl⟩:=B.iface;have K:Below w.heap.size w (w.alloc (.cells #[.iface T y,.bool q] 157)):=b_;have j:=(Cmp.refl h hP).below K;exact aH8 L w J T y q _ ((aKE j.fw j.cr B m d o p sc).mono (fun e w' I=>I.after j (by omega)))
  | name k m d v o p hn =>obtain⟨J,rfl⟩:=H.ptr;have K:Below w.heap.size w (w.alloc (.cells #[.string ⟨m.toArray⟩,.int .i64 (k:Int)] 148)):=b_;have j:=(Cmp.refl h hP).below K;have hp:=aGO (.mk .name m d v o p);exact aJ7 L w J m k _ ((aJX j.fw j.cr hn (H.go j.AQ l) (by omega) (by omega) d v o p).mono (fun e w' I=>I.after j (by omega)))
  | iff a b c x y z m d v p ha hb hc =>
   have e:IU (.mk .iff m d v [x,y,z] p)=1+(IU x+(IU y+IU z)):=by rw [OL,ZL,ZL,ZL,aA5];omega
   exact aL5 h hP ha hb hc (Y x (by omega)) (Y y (by omega)) (Y z (by omega)) H m d v p Z hN
  | begin sl V m d v o p h1 h2 h3 h4 S =>
   obtain⟨J,rfl⟩:=H.ptr;obtain⟨U,r,rfl,_⟩:=h1.shape;have e:IU (.mk .begin m d v o p)=1+OT o:=OL ..;have K:Below w.heap.size w (w.alloc (.cells #[.slice U o.length r] 204)):=b_;have j:=(Cmp.refl h hP).below K;have t:Sl M w D8 1 (.slice U o.length r) V.length V:=by rw [h2];exact h1
   refine aJA L w J U o.length r _ ((aLA j.fw j.cr (t.AQ j.AQ) h2 (fun i u x q1 q2=>(h3 i u x q1 q2).go j.AQ l) (fun i x q=>Y x (by have:=aDP (q_ q);omega)) (H.go j.AQ l) (by omega) (by omega) S).mono (fun e' w2 I=>?_));obtain⟨rb,M2,G,ae,rfl,c2,an,af,ag,ah⟩:=I;have ab:Below w2.heap.size w2 (w2.alloc (.cells #[.slice (some ⟨rb,0,none⟩) o.length o.length] TCds)):=b_;have s2:=Stp.AA (M:=M2) ab;exact⟨_,_,_,rfl,_,M2,G,rfl,((j.trans c2).below ab).up (by omega),.begin _ _ ae m d v o p sc (aGH c2.mlt (aF7 rfl)) (af.AQ s2) ag (fun i u x q1 q2=>(ah i u x q1 q2).go s2 (Fg.Le.refl _)) h4 S⟩
  | call sl V m d v o p h1 h2 h3 h4 S =>
   obtain⟨J,rfl⟩:=H.ptr;obtain⟨x0,o,rfl⟩:=aLW h4;obtain⟨u0,V,rfl⟩:=aLW (l:=V) (by omega);simp only [c_] at h1 h2 h4 S;obtain⟨U,r,rfl,ak⟩:=h1.shape;obtain⟨c,rfl⟩:∃c,r=c+1:=⟨r-1,by omega⟩
   have C:V.length=o.length:=by omega
   obtain⟨g,A,rfl⟩:∃g A,U=some ⟨g,A,none⟩:=by
    obtain⟨_,ap,al,e,_,h6⟩:=h1;simp only [Value.slice.injEq] at e;obtain⟨rfl,_,_⟩:=e;rcases h6 with h6 | ⟨g,A,_,e,_⟩
    ·omega
    ·exact⟨g,A,e⟩
   have e:IU (.mk .call m d v (x0::o) p)=1+(IU x0+OT o):=by rw [OL,ZL]
   have K:Below w.heap.size w (w.alloc (.cells #[.slice (some ⟨g,A,none⟩) (o.length+1) (c+1)] 211)):=b_;have j:=(Cmp.refl h hP).below K;have s:=j.AQ;have t:Sl M (w.alloc (.cells #[.slice (some ⟨g,A,none⟩) (o.length+1) (c+1)] 211)) D8 1 (.slice (some ⟨g,A,none⟩) (o.length+1) (c+1)) (V.length+1) (u0::V):=by rw [C];exact h1.AQ s
   have B:∀(i:Nat)(u:Value)(x:PF),V[i]?=some u->o[i]?=some x->CP M (w.alloc (.cells #[.slice (some ⟨g,A,none⟩) (o.length+1) (c+1)] 211)) F.s u x:=fun i u x q1 q2=>(h3 (i+1) u x (by simpa using q1) (by simpa using q2)).go s l;have D:∀(i:Nat)(x:PF),o[i]?=some x->CmpOk L O W x:=fun i x q=>Y x (by have:=aDP (q_ q);omega);have h0:=h3 0 u0 x0 rfl rfl;have Q:=h0.go s l;have i0:=Y x0 (by omega);have E:=H.go s l;refine aJ8 L w J (some ⟨g,A,none⟩) (o.length+1) (c+1) _ (Calls.mono (R:=CmpQ L M O P (w.alloc (.cells #[.slice (some ⟨g,A,none⟩) (o.length+1) (c+1)] 211)) F W (.mk .call m d v (x0::o) p) sc (N+IU (.mk .call m d v (x0::o) p))) ?_ (fun e w' I=>I.after j n_))
   cases h0 with
   | const _ _ _ _ _ _ _ _ _=>exact aGI j.fw j.cr C B D E S _ _ _ _ t Q i0 Z hN _ _ (aG2 _) (aHD _)
   | name k ai d' v' aj ac hn=>exact aJ9 j.fw j.cr C B D E S _ _ _ _ d' v' aj ac t hn i0 Z hN
   | iff a b c x y z m d v p ha hb hc=>exact aGI j.fw j.cr C B D E S _ _ _ _ t Q i0 Z hN _ _ (aIO _) (aH5 _)
   | begin sl V m d v o p h1 h2 h3 h4 S=>exact aGI j.fw j.cr C B D E (by omega) _ _ _ _ t Q i0 Z hN _ _ (aHQ _) (aGX _)
   | call sl V m d v o p h1 h2 h3 h4 S=>exact aGI j.fw j.cr C B D E (by omega) _ _ _ _ t Q i0 Z hN _ _ (aGU _) (aG5 _)
   | set k a x m d v p hn aa=>exact aGI j.fw j.cr C B D E S _ _ _ _ t Q i0 Z hN _ _ (aIA _) (aHI _)
   | define k a x m d v p hn aa=>exact aGI j.fw j.cr C B D E S _ _ _ _ t Q i0 Z hN _ _ (aHC _) (aGT _)
   | lambda aq a0 x ai d' v' ac X aa=>exact aKA j.fw j.cr C B D E S _ _ _ _ d' v' t (X.go s l) (aa.go s l) (Y x (by rw [aH2] at e;omega)) Z hN
  | set k a x m d v p hn B =>obtain⟨J,rfl⟩:=H.ptr;obtain⟨T,y,rfl⟩:=B.iface;have e:=aH2 .set m d v x p;have K:Below w.heap.size w (w.alloc (.cells #[.string ⟨m.toArray⟩,.int .i64 (k:Int),.iface T y] 205)):=b_;have j:=(Cmp.refl h hP).below K;exact aKT L w J m k T y _ ((p_setMk j.fw j.cr hn (B.go j.AQ l) (Y x (by omega)) (H.go j.AQ l) (by omega) (by omega) d v p).mono (fun e' w' I=>I.after j (by omega)))
  | define k a x m d v p hn B =>obtain⟨J,rfl⟩:=H.ptr;obtain⟨T,y,rfl⟩:=B.iface;have e:=aH2 .define m d v x p;have K:Below w.heap.size w (w.alloc (.cells #[.string ⟨m.toArray⟩,.int .i64 (k:Int),.iface T y] 152)):=b_;have j:=(Cmp.refl h hP).below K;exact aIV L w J m k T y _ ((p_defMk j.fw j.cr hn (B.go j.AQ l) (Y x (by omega)) (H.go j.AQ l) (by omega) (by omega) d v p).mono (fun e' w' I=>I.after j (by omega)))
  | lambda sl a x m d v p X B =>
   obtain⟨J,rfl⟩:=H.ptr;obtain⟨T,y,rfl⟩:=B.iface;obtain⟨U,r,rfl⟩:∃U r,sl=.slice U p.length r:=by obtain⟨⟨_,_,h2⟩,_,_⟩:=X;obtain⟨U,r,e,_⟩:=h2.shape;exact⟨U,r,e⟩
   have e:=aH2 .lambda m d v x p;have K:Below w.heap.size w (w.alloc (.cells #[.slice U p.length r,.iface T y] 210)):=b_;have j:=(Cmp.refl h hP).below K;exact aIU L w J U p.length r T y _ ((aKD j.fw j.cr (X.go j.AQ l) X.nodup (B.go j.AQ l) (Y x (by omega)) (H.go j.AQ l) (by omega) (by omega) m d v).mono (fun e' w' I=>I.after j (by omega)))
theorem aHY(w:World)(i:Nat)(cs:Array Value)(j:Value)(b:AE)(k:w.heap[i]?=some (.cells cs TFMc (0,0)))(l:cs[6]?=some j)(a:w.ownsRow 0 JM 1 j b.length (byCells b)):Calls prog 142 #[.pointer (some ⟨i,6,none⟩)] w fun e n=>e=.returned (.string ⟨b.toArray⟩)/\w=n:=by
 have s:w.cell? ⟨i,6,none⟩=some j:=(aA k 6).trans l;obtain⟨o,d,rfl,m,f⟩:=cJ a
 have p:(convert 72 9 (.slice o b.length d)).run prog w=.ok (.string ⟨b.toArray⟩) w:=by
  rcases a.2 with⟨h,q⟩ | ⟨g,c,r,h,_⟩
  ·simp only [Value.slice.injEq] at h;obtain⟨rfl,_,rfl⟩:=h;obtain rfl:=e_ q;exact qY w _ _
  ·simp only [Value.slice.injEq] at h;obtain⟨rfl,_,rfl⟩:=h;have:=lY a b.length n_ d;rw [List.take_length] at this;exact this
 clear a f k l;go_enter func142,ntmps142;go_wp2_with fail;go_ret;exact⟨rfl,rfl⟩
def aGQ(z:Nat):Array Value:=#[.pointer none,.slice none 0 0,.nilIface,.slice none 0 0,.int .i64 0,.int .i64 (z:Int),.slice none 0 0]
inductive FRn (L:Lo) (r:SR) (N:Nat) (M:Nat->Prop) (w:World) (F:Fg):Ending->Prop
 | val (he:r.e=0) (h:FW L M (fun _=>False) w F N r.W):FRn L r N M w F (.returned (.tuple #[.string ⟨r.W.out.toArray⟩,.string ⟨(Pl.cut (Pl.text r.W.pairs r.S.val)).toArray⟩,.nilIface]))
 | err (es:ByteArray) (x:Nat) (he:r.e=x) (hx:x≠0) (h7:x≠7) (h:FW L M (fun _=>False) w F N r.W):FRn L r N M w F (.returned (.tuple #[.string ⟨r.W.out.toArray⟩,.string ⟨#[]⟩,aY es (x:Int)]))
 | spent (es:ByteArray) (W':PW) (he:r.e=7) (h:FW L M (fun _=>False) w F N W'):FRn L r N M w F (.returned (.tuple #[.string ⟨r.W.out.toArray⟩,.string ⟨#[]⟩,aY es 7]))
def FRunQ(L:Lo)(r:SR)(N:Nat)(M:Nat->Prop)(w:World)(F:Fg)(e:Ending)(w':World):Prop:=∃M' G,Stp M w M' w'/\Fg.Le F G/\FRn L r N M' w' G e
theorem fs_code{L:Lo}{F:Fg}{W:PW}{f:PF}(l:T=z+5000)(h:FW L M (fun _=>False) w F N W)(B:W.out=[])(C:CP M w F.s fv f)(D:J2 T W ⟨some f,[],.nothing,[]⟩)(E:z<=1000000)(X:IU f<=1100)(H:N+IU f+T<=9000000000000000000) :Calls prog 160 #[.pointer (some ⟨L.sb,0,none⟩),fv,.pointer none] (w.alloc (.cells (aGQ z) TFMc)) fun e m=>∃d i,e=.returned (.func (.func d) #[] i)/\Calls prog 159 #[.pointer (some ⟨w.heap.size,0,none⟩),.func (.func d) #[] i] m fun e n=>∃j G,Stp M w j n/\Fg.Le F G/\RnR ⟨L,w.heap.size,z,T,N+IU f,W,⟨some f,[],.nothing,[]⟩⟩ j (fun _=>False) n G e:=by
 have I:Below w.heap.size w (w.alloc (.cells (aGQ z) TFMc)):=b_;obtain⟨J,x⟩:=h.more I (fun k=>k=w.heap.size) (fun k o=>by omega) (fun k o=>by simp;omega);have y:(w.alloc (.cells (aGQ z) TFMc)).heap[w.heap.size]?=some (.cells (aGQ z) TFMc (0,0)):=heap_alloc_new w _;have p:∀k,(fun k=>k=w.heap.size) k->Cr (Mn M (fun k=>k=w.heap.size)) (w.alloc (.cells (aGQ z) TFMc)) F k:=fun k o=>by obtain rfl:k=w.heap.size:=o;refine⟨.inr rfl,⟨_,TFMc,y,.inr rfl⟩,fun K a=>?_⟩;obtain⟨Y,Z,gv,c,e,O,P,_⟩:=(h.sit K a).ex;have:=aB O;have:=aB P;omega
 refine(p_cmp L (fun _=>False) W (IU f) f n_ _ (fun k=>k=w.heap.size) _ F N fv (.pointer none) [] J p (C.go x (Sg.Le.refl _)) .nil (by simp;omega) (by omega)).mono (fun e m q=>?_);obtain⟨u,Q,G,rfl,b,A⟩:=q;obtain⟨d,i,rfl⟩:=A.func;refine⟨d,i,rfl,?_⟩;have r:=(b.row w.heap.size rfl).trans y;have s:=(b.cr w.heap.size rfl).1;have t:T<=1010000:=by omega
 have a:St ⟨L,w.heap.size,z,T,N+IU f,W,⟨some f,[],.nothing,[]⟩⟩ Q (fun _=>False) m G (.pointer none) 0 W:=by refine⟨b.fw,⟨.slice none 0 0,.nilIface,.slice none 0 0,.slice none 0 0,⟨r,s⟩,⟨World.ownsRow_nil _ _ _ _,fun g v=>by cases v⟩,?_⟩,⟨H,t,E⟩⟩;rw [B];exact⟨World.ownsRow_nil _ _ _ _,fun g v=>by cases v⟩
 refine(p_fRun (c:=⟨L,w.heap.size,z,T,N+IU f,W,⟨some f,[],.nothing,[]⟩⟩) A a ⟨.nil,by simpa using D,Nat.zero_le _⟩ rfl rfl rfl l).mono (fun e n q=>?_);obtain⟨j,R,S,_,U,V⟩:=q;exact⟨j,R,(x.trans b.AQ).trans S,b.le.trans U,V⟩
def FRdy(L:Lo)(r:SR)(N:Nat)(M:Nat->Prop)(w:World)(F:Fg)(rb:Nat)(e:Ending)(w3:World):Prop :=
 (∃T x,e=.returned (.tuple #[.iface T x,.nilIface])/\Calls prog 142 #[.pointer (some ⟨rb,6,none⟩)] w3 (fun e w'=>e=.returned (.string ⟨r.W.out.toArray⟩)/\w3=w')/\Calls prog 143 #[.iface T x] w3 (fun e w'=>e=.returned (.string ⟨(Pl.cut (Pl.text r.W.pairs r.S.val)).toArray⟩)/\FRunQ L r N M w F (.returned (.tuple #[.string ⟨r.W.out.toArray⟩,.string ⟨(Pl.cut (Pl.text r.W.pairs r.S.val)).toArray⟩,.nilIface])) w')) \/
 (∃es,∃x:Nat,e=.returned (.tuple #[.nilIface,aY es (x:Int)])/\Calls prog 142 #[.pointer (some ⟨rb,6,none⟩)] w3 (fun e w'=>e=.returned (.string ⟨r.W.out.toArray⟩)/\w3=w')/\FRunQ L r N M w F (.returned (.tuple #[.string ⟨r.W.out.toArray⟩,.string ⟨#[]⟩,aY es (x:Int)])) w3)
theorem fs_done{L:Lo}{M3:Nat->Prop}{w3:World}{F G:Fg}{W:PW}{f:PF}{e:Ending}(C:OU (A8 z W ⟨some f,[],.nothing,[]⟩).W)(D:(A8 z W ⟨some f,[],.nothing,[]⟩).e=0->BL (A8 z W ⟨some f,[],.nothing,[]⟩).W (A8 z W ⟨some f,[],.nothing,[]⟩).S.val)(o:Stp M w M3 w3)(p:Fg.Le F G)(E:RnR ⟨L,w.heap.size,z,T,N+IU f,W,⟨some f,[],.nothing,[]⟩⟩ M3 (fun _=>False) w3 G e) :FRdy L (A8 z W ⟨some f,[],.nothing,[]⟩) (N+IU f+T) M w F w.heap.size e w3:=by
 generalize b:A8 z W ⟨some f,[],.nothing,[]⟩=r at *
 cases E with
 | val v n d H g a t h =>simp only at a g;rw [b] at a;subst a;obtain⟨u,y,A,B,i,j,k⟩:=h.mc;have l:=h.fw.up (N':=N+IU f+T) (by simp only;omega);obtain⟨I,x,rfl⟩:=t.iface;refine .inl ⟨I,x,rfl,aHY w3 w.heap.size _ i d.out j.blk rfl k.1,(hH d C G.s w3 _ H.val h.fw.TJ t (D rfl)).mono (fun e O q=>⟨q.1,M3,G,o.trans (Stp.AA q.2),p,.val rfl (l.below q.2)⟩)⟩
 | err m x n d g J K a c h =>simp only at a g c;rw [b] at a c;subst c;obtain⟨u,y,A,B,i,j,k⟩:=h.mc;have l:=h.fw.up (N':=N+IU f+T) (by simp only;omega);exact .inr ⟨m,x,rfl,aHY w3 w.heap.size _ i r.W.out j.blk rfl k.1,M3,G,o,p,.err m x a J K l⟩
 | spent m n d g a s h =>simp only at a g s;rw [b] at a s;obtain⟨u,y,A,B,i,j,k⟩:=h.mc;have l:=h.fw.up (N':=N+IU f+T) (by simp only;omega);exact .inr ⟨m,7,rfl,by rw [s];exact aHY w3 w.heap.size _ i d.out j.blk rfl k.1,M3,G,o,p,.spent m d a l⟩
theorem p_fsRun{L:Lo}{F:Fg}{W:PW}{f:PF}(c:T=z+5000)(h:FW L M (fun _=>False) w F N W)(s:W.out=[])(m:CP M w F.s fv f)(t:J2 T W ⟨some f,[],.nothing,[]⟩)(u:z<=1000000)(v:IU f<=1100)(A:N+IU f+T<=9000000000000000000)(B:OU (A8 z W ⟨some f,[],.nothing,[]⟩).W)(C:(A8 z W ⟨some f,[],.nothing,[]⟩).e=0->BL (A8 z W ⟨some f,[],.nothing,[]⟩).W (A8 z W ⟨some f,[],.nothing,[]⟩).S.val) :Calls prog 157 #[.pointer (some ⟨L.sb,0,none⟩),fv,.int .i64 (z:Int)] w (FRunQ L (A8 z W ⟨some f,[],.nothing,[]⟩) (N+IU f+T) M w F):=by
 have k:Hid (Calls prog 160 #[.pointer (some ⟨L.sb,0,none⟩),fv,.pointer none] (w.alloc (.cells (aGQ z) TFMc)) fun e n=>∃d g,e=.returned (.func (.func d) #[] g)/\Calls prog 159 #[.pointer (some ⟨w.heap.size,0,none⟩),.func (.func d) #[] g] n (FRdy L (A8 z W ⟨some f,[],.nothing,[]⟩) (N+IU f+T) M w F w.heap.size)):=(fs_code c h s m t u v A).mono (fun e n b=>by
  obtain⟨d,g,rfl,o⟩:=b
  exact⟨d,g,rfl,o.mono (fun e E b=>by
   obtain⟨K,G,H,I,o⟩:=b
   exact fs_done B C H I o)⟩)
 obtain⟨O,x,rfl⟩:=m.iface;generalize A8 z W ⟨some f,[],.nothing,[]⟩=r at *;generalize N+IU f+T=P at *;clear c;clear h s m t u v A B C;unfold aGQ at k;go_enter func157,ntmps157
 go_upto_region 3 with(first
  | (go_at_call 160;refine(Calls.mono k ?_);rintro e n ⟨d,g,rfl,D⟩;have p:=(show Hid _ from D);clear D)
  | (go_at_call 159;refine(Calls.mono p ?_);rintro e E (⟨Q,R,rfl,i,j⟩ | ⟨S,y,rfl,i,j⟩)))
 ·have a:=h_ i;have q:=h_ j;clear i j k p
  go_wp2_with (first
   | (go_at_call 142;refine(Calls.mono a ?_);rintro e J ⟨rfl,rfl⟩)
   | (go_at_call 143;refine(Calls.mono q ?_);rintro e U ⟨rfl,b⟩;have l:=(show Hid _ from b);clear b))
  go_ret3
  exact l
 ·have a:=h_ i;have l:=h_ j;clear i j k p;unfold aY at l ⊢;go_wp2_with (go_at_call 142;refine(Calls.mono a ?_);rintro e J ⟨rfl,rfl⟩)
  go_ret3
  exact l
def TEng:TypeId:=67
def aIR:ByteArray:=⟨#[114,117,110,110,105,110,103,32,119,104,97,116,32,99,111,109,101,115,32,98,101,104,105,110,100]⟩
def aHH(es:ByteArray):Value:=.iface 110 (.agg #[.string aIR,aY es 7])
structure FeAt(L:Lo)(M:Nat->Prop)(w:World)(F:Fg)(N:Nat)(W:PW)(eb:Nat)(sv:Value):Prop where
 fw:FW L M (fun _=>False) w F N W
 blk:w.heap[eb]?=some (.cells #[pt L.sb,sv] TEng (0,0))
 nm:¬M eb
 lo:8<=eb
theorem FeAt.below{L:Lo}{w':World}{F:Fg}{W:PW}{sv:Value}(h:FeAt L M w F N W eb sv)(a:Below w.heap.size w w'):FeAt L M w' F N W eb sv:=⟨h.fw.below a,(a.block eb (aB h.blk)).trans h.blk,h.nm,h.lo⟩
theorem Sty.set{c:Array Value}(b:w.heap[eb]?=some (.cells c TEng (0,0)))(f:8<=eb)(o:Nat)(v:Value):Sty w (w.setCell ⟨eb,o,none⟩ v):=by
 have a:∀k,k≠eb->(w.setCell ⟨eb,o,none⟩ v).heap[k]?=w.heap[k]? := fun k d=>Below.heap_setCell _ _ _ _ (fun e=>d (by simpa using e));refine⟨by simp [World.setCell],fun {k i T} h g=>?_,fun {k j n} h=>?_,fun k d=>a k (by omega)⟩
 ·exact(a k (fun e=>by
   subst e;rw [b] at h;simp only [o_,Obj.cells.injEq] at h
   exact g (.inr (.inl h.2.1.symm)))).trans h
 ·exact(a k (fun e=>by subst e;rw [b] at h;cases h)).trans h
def Xe(eb k:Nat):Prop:=k=eb
def FeQ(L:Lo)(r:SR)(N:Nat)(M:Nat->Prop)(w:World)(F:Fg)(eb:Nat)(e:Ending)(w':World):Prop:=∃M' G,Stp (Mn M (Xe eb)) w (Mn M' (Xe eb)) w'/\Fg.Le F G /\
 ((r.e=0/\FeAt L M' w' G N r.W eb .nilIface/\e=.returned (.tuple #[.string ⟨r.W.out.toArray⟩,.string ⟨(Pl.cut (Pl.text r.W.pairs r.S.val)).toArray⟩,.nilIface])) \/
  (∃es,∃x:Nat,r.e=x/\x≠0/\x≠7/\FeAt L M' w' G N r.W eb .nilIface/\e=.returned (.tuple #[.string ⟨r.W.out.toArray⟩,.string ⟨#[]⟩,aY es (x:Int)])) \/
  (∃es W',r.e=7/\FeAt L M' w' G N W' eb (aHH es)/\e=.returned (.tuple #[.string ⟨r.W.out.toArray⟩,.string ⟨#[]⟩,aY es 7])))
theorem aMM{M':Nat->Prop}{w':World}(h:Stp M w M' w'):Stp (Mn M (Xe eb)) w (Mn M' (Xe eb)) w':=⟨h.os,h.tape,h.output,h.size,fun k b a=>by
 obtain⟨c,d⟩:=h.block k b (fun x=>a (.inl x))
 exact⟨c,fun x=>x.elim d (fun y=>a (.inr y))⟩⟩
def IsQ(L:Lo)(r:SR)(N:Nat)(M:Nat->Prop)(w:World)(F:Fg)(eb:Nat)(e:Ending)(w3:World):Prop:=∃ot tx ev,e=.returned (.tuple #[.string ot,.string tx,ev]) /\
 ((ev=.nilIface/\FeQ L r N M w F eb e w3) \/
  (∃es,∃x:Int,ev=aY es x/\Calls prog 158 #[aY es x,.iface 104 (.int .i64 7)] w3 fun e4 w4=>(e4=.returned (.bool false)/\FeQ L r N M w F eb e w4)\/(e4=.returned (.bool true)/\w4.cell? ⟨eb,1,none⟩=some .nilIface/\w4.frozen? ⟨eb,1,none⟩=false/\FeQ L r N M w F eb e (w4.setCell ⟨eb,1,none⟩ (.iface 110 (.agg #[.string aIR,aY es x]))))))
theorem aM5{L:Lo}{r:SR}{N0:Nat}{F:Fg}{W:PW}(h:FeAt L M w F N0 W eb .nilIface){e:Ending}{w3:World}(c:FRunQ L r N M w F e w3):IsQ L r N M w F eb e w3:=by
 obtain⟨m,G,s,l,q⟩:=c;have t:=aB h.blk;obtain⟨u,j⟩:=s.block eb t h.nm;have b:=u.trans h.blk;have n:=aMM (eb:=eb) s
 cases q with
 | val d f=>exact⟨_,_,_,rfl,.inl ⟨rfl,m,G,n,l,.inl ⟨d,⟨f,b,j,h.lo⟩,rfl⟩⟩⟩
 | err a x d v y f =>
  refine⟨_,_,_,rfl,.inr ⟨a,x,rfl,(aJ2 a (x:Int) w3).mono (fun z A c=>?_)⟩⟩;obtain⟨rfl,rfl⟩:=c;have g:Below w3.heap.size w3 (w3.alloc (.cells #[.string a,.iface 104 (.int .i64 (x:Int))] 110)):=b_;have o:((x:Int)==7)=false:=by simp;omega
  exact .inl ⟨by rw [o],m,G,n.trans (Stp.AA g),l,.inr (.inl ⟨a,x,d,v,y,(FeAt.mk f b j h.lo).below g,rfl⟩)⟩
 | spent a B d f =>refine⟨_,_,_,rfl,.inr ⟨a,7,rfl,(aJ2 a 7 w3).mono (fun z A c=>?_)⟩⟩;obtain⟨rfl,rfl⟩:=c;have g:Below w3.heap.size w3 (w3.alloc (.cells #[.string a,.iface 104 (.int .i64 7)] 110)):=b_;have i:=(FeAt.mk f b j h.lo).below g;refine .inr ⟨rfl,aA i.blk 1,aF i.blk 1,m,G,?_,l,.inr (.inr ⟨a,B,d,⟨i.fw.sty (Sty.set i.blk h.lo 1 _),aD i.blk 1 _,j,h.lo⟩,rfl⟩)⟩;refine(n.trans (Stp.AA g)).trans ⟨rfl,rfl,rfl,by simp [World.setCell],fun k _ p=>⟨Below.heap_setCell _ _ _ _ (fun e=>p (.inr (show k=eb by simpa using e))),p⟩⟩
theorem p_feRun{L:Lo}{r:SR}{F:Fg}{W:PW}{N0:Nat}(h:FeAt L M w F N0 W eb .nilIface)(hi:∃T x,fv=.iface T x)(f:Calls prog 157 #[.pointer (some ⟨L.sb,0,none⟩),fv,.int .i64 (z:Int)] w (FRunQ L r N M w F)) :Calls prog 156 #[.pointer (some ⟨eb,0,none⟩),fv,.int .i64 (z:Int)] w (FeQ L r N M w F eb):=by
 have b:Hid (Calls prog 157 #[.pointer (some ⟨L.sb,0,none⟩),fv,.int .i64 (z:Int)] w (IsQ L r N M w F eb)):=f.mono (fun e i c=>aM5 h c);have l:w.cell? ⟨eb,0,none⟩=some (.pointer (some ⟨L.sb,0,none⟩)):=aA h.blk 0;have m:w.cell? ⟨eb,1,none⟩=some .nilIface:=aA h.blk 1;obtain⟨T,x,rfl⟩:=hi;clear h f;unfold IsQ aY aIR at b;go_enter func156,ntmps156
 go_upto_region 4 with(go_at_call 157;refine(Calls.mono b ?_);rintro e i ⟨n,o,p,rfl,c⟩)
 rcases c with⟨rfl,a⟩ | ⟨q,y,rfl,g⟩
 ·have d:=h_ a;clear a b;go_wp2_with (go_at_call 158;refine(Calls.mono (is_nil7 _ _) ?_);rintro e j ⟨rfl,rfl⟩)
  go_ret3
  exact d
 ·have k:=h_ g;clear g b;go_wp2_with (go_at_call 158;refine(Calls.mono k ?_);rintro e j (⟨rfl,a⟩ | ⟨rfl,s,t,a⟩)<;>(have d:=(show Hid _ from a);clear a))
  all_goals
   go_ret3
   exact d
theorem aK7(w:World)(eb d:Nat)(z:Int)(T:TypeId)(x:Value)(a:ByteArray)(c:w.heap[eb]?=some (.cells #[pt d,aHH a] TEng (0,0))) :Calls prog 156 #[.pointer (some ⟨eb,0,none⟩),.iface T x,.int .i64 z] w fun e f=>e=.returned (.tuple #[.string ⟨#[]⟩,.string ⟨#[]⟩,aHH a])/\Below w.heap.size w f:=by
 have g:w.cell? ⟨eb,1,none⟩=some (aHH a):=aA c 1;have h:Hid (∀n,Below w.heap.size w (w.drewN n)):=fun n=>aGV w n;have b:Hid (Below w.heap.size w w.drew):=r_.drew;clear c;unfold aHH aY at g ⊢;go_enter func156,ntmps156;go_wp2_with fail
 go_region
 all_goals
  go_wp2_with fail
  go_ret3
  exact⟨rfl,by first | exact b.out | exact h.out _⟩
theorem p_newFE(w:World)(d:Option Addr)(Q:Nat->World->Prop)(h:Calls prog 20 #[.pointer d] w fun e c=>∃a,e=.returned (.pointer (some ⟨a,0,none⟩))/\Q a c) :Calls prog 16 #[.pointer d] w fun e c=>∃a b,e=.returned (.pointer (some ⟨b.heap.size,0,none⟩))/\c=b.alloc (.cells #[pt a,.nilIface] TEng)/\Q a b:=by have g:=h_ h;clear h;go_enter func16,ntmps16;go_wp2_with (go_at_call 20;refine(Calls.mono g ?_);rintro e b ⟨a,rfl,f⟩;have i:=(show Hid _ from f);clear f);go_ret;exact⟨a,b,rfl,rfl,i⟩
theorem FeAt.new{L:Lo}{F:Fg}{W:PW}(h:FW L M (fun _=>False) w F N W):FeAt L M (w.alloc (.cells #[pt L.sb,.nilIface] TEng)) F N W w.heap.size .nilIface :=⟨h.below b_,aF7 rfl,fun x=>Nat.lt_irrefl _ (h.mlt _ x),h.gs.size⟩
end
end Go.Proofs.YtieooapcfpimlaaGreatDoor
