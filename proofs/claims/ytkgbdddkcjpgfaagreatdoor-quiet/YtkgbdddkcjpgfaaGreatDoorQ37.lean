import Derived.Test.YtkgbdddkcjpgfaaGreatDoorQ36
namespace Go.Proofs.YtkgbdddkcjpgfaaGreatDoor
set_option maxHeartbeats 2000000
set_option maxRecDepth 100000
open Go.Proofs.Tryz
open Pl (PV PW PF AE FK)
section
open Go.RowKit Go.Maps Go.Lib
variable {M O P:Nat->Prop} {w:World} {N k:Nat} {av a:Value}
def CmpQ(L:Lo)(M O P:Nat->Prop)(w:World)(F:Fg)(W:PW)(f:PF)(sc:List (List AE))(N:Nat)(e:Ending)(w':World):Prop:=∃u M' G,e=.returned u/\Cmp L M O P w F W M' w' G N/\RC M' w' G u f sc
def CmpOk(L:Lo)(O:Nat->Prop)(W:PW)(f:PF):Prop:=∀(M P:Nat->Prop)(w:World)(F:Fg)(N:Nat)(v av:Value) (sc:List (List AE)),FW L M O w F N W->(∀k,P k->Cr M w F k)->CP M w F.s v f->ScR M w F.s av sc->sc.length+IU f<=1100->N+IU f<=9000000000000000000 ->
 Calls prog 263 #[.pointer (some ⟨L.sb,0,none⟩),v,av] w (CmpQ L M O P w F W f sc (N+IU f))
theorem Cmp.mlt{L:Lo}{M':Nat->Prop}{w':World}{F G:Fg}{W:PW}(h:Cmp L M O P w F W M' w' G N):∀k,M' k->k<w'.heap.size:=h.fw.CY.mlt
theorem FW.mlt{L:Lo}{F:Fg}{W:PW}(h:FW L M O w F N W):∀k,M k->k<w.heap.size:=h.CY.mlt
theorem FW.nd{L:Lo}{F:Fg}{W:PW}(h:FW L M O w F N W):F.s.ns.Nodup:=by obtain⟨D,_,a⟩:=h.CY.B3.map;exact a.nodup
theorem aGH{b:Nat}{v:Value}{T:TypeId}(a:∀k,M k->k<b)(h:w.heap[b]?=some (.cells #[v] T (0,0))):Bx M w b v T:=⟨fun y=>Nat.lt_irrefl _ (a b y),h⟩
theorem aKE{L:Lo}{F:Fg}{W:PW}(h:FW L M O w F N W)(c:∀k,P k->Cr M w F k){x:Value}{v:PV}(a:RV F.s x v)(nm:AE)(d:Pl.A9)(b:List PF)(ns:List AE)(sc:List (List AE)) :Calls prog 267 #[x] w (CmpQ L M O P w F W (.mk .const nm d v b ns) sc N):=by
 have e:Below w.heap.size w (w.alloc (.cells #[x] B9)):=b_;have f:Hid (CmpQ L M O P w F W (.mk .const nm d v b ns) sc N (.returned (fnV 278 #[pt w.heap.size])) (w.alloc (.cells #[x] B9))):=⟨_,M,F,rfl,(Cmp.refl h c).below e,.const w.heap.size x nm d v b ns sc (aGH h.mlt (heap_alloc_new w _)) a⟩
 obtain⟨T,y,rfl⟩:=a.iface;clear h c a e;go_enter func267,ntmps267;go_wp2_with fail;go_ret;exact f
theorem p_rowMk(w:World)(b:Option Addr)(n a:Nat):Calls prog 270 #[.slice b n a] w fun e c=>e=.returned (fnV 286 #[pt w.heap.size])/\c=w.alloc (.cells #[.slice b n a] TCds):=by
 go_enter func270,ntmps270
 go_wp2_with fail
 go_ret;exact⟨rfl,rfl⟩
theorem aH1(d:∀k,M k->k<w.heap.size)(a b c:Value):Below w.heap.size w (((w.alloc (.cells #[a] TInt)).alloc (.cells #[b] TCod)).alloc (.cells #[c] TTak))/\Bx M (((w.alloc (.cells #[a] TInt)).alloc (.cells #[b] TCod)).alloc (.cells #[c] TTak)) w.heap.size a TInt/\Bx M (((w.alloc (.cells #[a] TInt)).alloc (.cells #[b] TCod)).alloc (.cells #[c] TTak)) (w.heap.size+1) b TCod/\Bx M (((w.alloc (.cells #[a] TInt)).alloc (.cells #[b] TCod)).alloc (.cells #[c] TTak)) (w.heap.size+1+1) c TTak:=⟨aG3 w _ _ _,(Bx.three d).1,(Bx.three d).2.1,(Bx.three d).2.2⟩
theorem aMV{L:Lo}{F:Fg}{W:PW}(h:FW L M O w F N W)(r:∀k,P k->Cr M w F k){u v1 v2:Value}{x y z:PF}{sc:List (List AE)}(j:RC M w F u x sc)(m:RC M w F v1 y sc)(n:RC M w F v2 z sc)(nm:AE)(d:Pl.A9)(v:PV)(ns:List AE) :Calls prog 269 #[u,v1,v2] w (CmpQ L M O P w F W (.mk .iff nm d v [x,y,z] ns) sc N):=by
 obtain⟨s,t,J⟩:=j.func;obtain⟨V,X,K⟩:=m.func;obtain⟨Y,Z,Q⟩:=n.func;obtain⟨a,b⟩:∃a,a=(w.alloc (.cells #[v1] TCod)).alloc (.cells #[v2] TCod):=⟨_,rfl⟩
 have c:Below w.heap.size w a:=by rw [b];exact b_.alloc (by simp) _
 have o:a.heap.size=w.heap.size+1+1:=by rw [b];simp
 have A:Bx M a w.heap.size v1 TCod:=aGH h.mlt (by rw [b];exact(k_ (by simp)).trans (heap_alloc_new w _))
 have B:Bx M a (w.heap.size+1) v2 TCod:=aGH (fun k R=>Nat.lt_succ_of_lt (h.mlt k R)) (by
  rw [b];have:=heap_alloc_new (w.alloc (.cells #[v1] TCod)) (.cells #[v2] TCod)
  rwa [World.size_alloc] at this)
 have f:=(Cmp.refl h r).below c;obtain⟨p,C,D,E⟩:=aH1 (M:=M) (w:=a) f.mlt (.int .i64 1) u (fnV 285 #[pt (w.heap.size+1),pt w.heap.size]);have i:=Stp.AA (M:=M) c;have g:=Stp.AA (M:=M) p;have l:=Fg.Le.refl F;have G:Hid (CmpQ L M O P w F W (.mk .iff nm d v [x,y,z] ns) sc N (.returned (fnV 300 #[pt a.heap.size,pt (a.heap.size+1),pt (a.heap.size+1+1)])) (((a.alloc (.cells #[.int .i64 1] TInt)).alloc (.cells #[u] TCod)).alloc (.cells #[fnV 285 #[pt (w.heap.size+1),pt w.heap.size]] TTak))) :=⟨_,M,F,rfl,f.below p,.iff _ _ _ _ _ u v1 v2 x y z nm d v ns sc C D E (B.go g) (A.go g) ((j.go i l).go g l) ((m.go i l).go g l) ((n.go i l).go g l)⟩
 subst J K Q
 have S:Hid (Calls prog 284 #[.int .i64 1,fnV s t,fnV 285 #[pt (w.heap.size+1),pt w.heap.size]] a fun e H=>CmpQ L M O P w F W (.mk .iff nm d v [x,y,z] ns) sc N e H/\∃x,e=.returned x):=(aG4 a 1 s 285 t _).mono (fun e H ⟨T,U⟩=>by
  subst T U
  exact⟨G,_,rfl⟩)
 subst b;clear h r j m n c o A B f p C D E i g G;go_enter func269,ntmps269;go_wp2_with (go_at_call 284;refine(Calls.mono S ?_);rintro e w3 ⟨I,x9,rfl⟩;have q:=(show Hid _ from I);clear I);go_ret;exact q
theorem aJX{L:Lo}{F:Fg}{W:PW}(h:FW L M O w F N W)(s:∀k,P k->Cr M w F k){nm:AE}(t:F.s.ns[k]?=some nm){sc:List (List AE)}(u:ScR M w F.s av sc)(K:sc.length<=1100)(Q:N+1<=9000000000000000000)(d:Pl.A9)(v:PV)(q:List PF)(ns:List AE) :Calls prog 268 #[.pointer (some ⟨L.sb,0,none⟩),.agg #[.string ⟨nm.toArray⟩,.int .i64 (k:Int)],av] w (CmpQ L M O P w F W (.mk .name nm d v q ns) sc (N+1)):=by
 have i:Below w.heap.size w (w.alloc (.cells #[.string ⟨nm.toArray⟩,.int .i64 (k:Int)] B6)):=b_;have R:=(Cmp.refl h s).below i;have x:Hid (Calls prog 279 #[av,.agg #[.string ⟨nm.toArray⟩,.int .i64 (k:Int)]] (w.alloc (.cells #[.string ⟨nm.toArray⟩,.int .i64 (k:Int)] B6)) fun e f=>(Below w.heap.size w f/\f.heap[w.heap.size]?=some (.cells #[.string ⟨nm.toArray⟩,.int .i64 (k:Int)] B6 (0,0)))/\FndQ sc nm e):=(aK6 M _ F.s av sc nm k h.nd (u.go (Stp.AA i) (Sg.Le.refl _)) t K).mono (fun e f ⟨E,S⟩=>⟨⟨i.trans (E.mono (by simp)),(E.block _ (by simp)).trans (heap_alloc_new w _)⟩,S⟩)
 have z:Hid (∀a,Below w.heap.size w a->∀l n:Nat,scF sc nm=some (l,n)->l<=sc.length->CmpQ L M O P w F W (.mk .name nm d v q ns) sc (N+1) (.returned (fnV 280 #[pt a.heap.size,pt (a.heap.size+1)])) ((a.alloc (.cells #[.int .i64 (l:Int)] TInt)).alloc (.cells #[.int .i64 (n:Int)] TInt))):=fun a b l n o H=>by
  have p:=(Cmp.refl h s).below b;have m:Below a.heap.size a ((a.alloc (.cells #[.int .i64 (l:Int)] TInt)).alloc (.cells #[.int .i64 (n:Int)] TInt)):=b_.alloc (by simp) _;refine⟨_,M,F,rfl,(p.below m).up (by omega),.loc _ _ l n nm d v q ns sc (aGH p.mlt ((k_ (by simp)).trans (heap_alloc_new a _))) (aGH (fun j T=>Nat.lt_succ_of_lt (p.mlt j T)) ?_) o (by omega)⟩;have:=heap_alloc_new (a.alloc (.cells #[.int .i64 (l:Int)] TInt)) (.cells #[.int .i64 (n:Int)] TInt)
  rwa [World.size_alloc] at this
 have A:Hid (∀a,Below w.heap.size w a->a.heap[w.heap.size]?=some (.cells #[.string ⟨nm.toArray⟩,.int .i64 (k:Int)] B6 (0,0))->scF sc nm=none->Calls prog 282 #[.pointer (some ⟨L.sb,0,none⟩),.agg #[.string ⟨nm.toArray⟩,.int .i64 (k:Int)]] ((a.alloc (.cells #[.int .i64 0] TInt)).alloc (.cells #[.int .i64 0] TInt)) fun e f=>∃g,e=.returned (pt g)/\CmpQ L M O P w F W (.mk .name nm d v q ns) sc (N+1) (.returned (fnV 283 #[pt f.heap.size,pt w.heap.size])) (f.alloc (.cells #[pt g] TGlP))):=fun a b c o=>by
  have m:Below a.heap.size a ((a.alloc (.cells #[.int .i64 0] TInt)).alloc (.cells #[.int .i64 0] TInt)):=b_.alloc (by simp) _;have B:=b.trans (m.mono b.size);have p:=(Cmp.refl h s).below B;refine(aHR p.fw p.cr t Q).mono (fun e f U=>?_);obtain⟨g,V,G,rfl,I,X⟩:=U;have r:Below f.heap.size f (f.alloc (.cells #[pt g] TGlP)):=b_;have Y:Bk M ((a.alloc (.cells #[.int .i64 0] TInt)).alloc (.cells #[.int .i64 0] TInt)) w.heap.size #[.string ⟨nm.toArray⟩,.int .i64 (k:Int)] B6:=⟨fun y=>Nat.lt_irrefl _ (h.mlt _ y),(m.block _ (aB c)).trans c⟩
  have C:=p.trans I;exact⟨g,rfl,_,V,G,rfl,C.below r,.DI _ _ g k nm d v q ns sc (aGH C.mlt (heap_alloc_new f _)) ((Y.go I.AQ).go (Stp.AA r)) (bS C.le.s.ns t) X o⟩
 obtain⟨oa,rfl⟩:=u.ptr;clear h s u R i t;go_enter func268,ntmps268
 go_upto_region 2 with(go_at_call 279;refine(Calls.mono x ?_);rintro e a ⟨⟨b,c⟩,⟨l,n,o,H,hi,rfl⟩ | ⟨o,rfl⟩⟩)
 ·have Z:=h_ (z a b l n o H);clear z A x c b;go_wp2_with fail;go_ret;exact Z
 ·have HC:=h_ (A a b c o);have d0:a.cell? ⟨w.heap.size,0,none⟩=some (.string ⟨nm.toArray⟩):=aA c 0;have d1:a.cell? ⟨w.heap.size,1,none⟩=some (.int .i64 (k:Int)):=aA c 1;have dl:=aB c;have aa:w.heap.size<a.heap.size+1:=by omega
  clear z A x c b;go_wp2_with (go_at_call 282;refine(Calls.mono HC ?_);rintro e w3 ⟨g,rfl,J⟩;have D:=(show Hid _ from J);clear J);go_ret;exact D
def TDef:TypeId:=218
theorem aH2(k:FK)(nm:AE)(d:Pl.A9)(v:PV)(x:PF)(ns:List AE):IU (.mk k nm d v [x] ns)=1+IU x:=by rw [OL,ZL,aA5];omega
theorem aJI{L:Lo}{M':Nat->Prop}{w':World}{F G:Fg}{kf kt:Nat}{W:PW}{cap ct:Array Value}{f:PF}{sc:List (List AE)}(h:Cmp L M O P w F W M' w' G N)(c:∀a,Stp M' w' M' a->Bx M' a w'.heap.size (.int .i64 1) TInt->Bx M' a (w'.heap.size+1) (fnV kf cap) TCod->Bx M' a (w'.heap.size+1+1) (fnV kt ct) TTak->RC M' a G (fnV 300 #[pt w'.heap.size,pt (w'.heap.size+1),pt (w'.heap.size+1+1)]) f sc) :Calls prog 284 #[.int .i64 1,fnV kf cap,fnV kt ct] w' fun e a=>CmpQ L M O P w F W f sc N e a/\∃x,e=.returned x:=(aG4 w' 1 kf kt cap ct).mono (fun e a ⟨d,g⟩=>by
 subst d g;obtain⟨b,i,j,k⟩:=aH1 (M:=M') (w:=w') h.mlt (.int .i64 1) (fnV kf cap) (fnV kt ct)
 exact⟨⟨_,M',G,rfl,h.below b,c _ (Stp.AA b) i j k⟩,_,rfl⟩)
theorem p_defMk{L:Lo}{F:Fg}{W:PW}(h:FW L M O w F N W)(E:∀k,P k->Cr M w F k){nm:AE}(p:F.s.ns[k]?=some nm){x:PF}(q:CP M w F.s a x)(H:CmpOk L O W x){sc:List (List AE)}(r:ScR M w F.s av sc)(X:sc.length+IU x<=1100)(hN:N+(1+IU x)<=9000000000000000000)(d:Pl.A9)(v:PV)(ns:List AE) :Calls prog 273 #[.pointer (some ⟨L.sb,0,none⟩),.agg #[.string ⟨nm.toArray⟩,.int .i64 (k:Int),a],av] w (CmpQ L M O P w F W (.mk .define nm d v [x] ns) sc (N+(1+IU x))):=by
 obtain⟨i,c⟩:∃i,i=w.alloc (.cells #[.string ⟨nm.toArray⟩,.int .i64 (k:Int),a] TDef):=⟨_,rfl⟩
 have j:Below w.heap.size w i:=by rw [c];exact b_
 have o:=(Cmp.refl h E).below j;have I:Bk M i w.heap.size #[.string ⟨nm.toArray⟩,.int .i64 (k:Int),a] TDef:=⟨fun y=>Nat.lt_irrefl _ (h.mlt _ y),by rw [c];exact heap_alloc_new w _⟩
 have Y:Hid (Calls prog 282 #[.pointer (some ⟨L.sb,0,none⟩),.agg #[.string ⟨nm.toArray⟩,.int .i64 (k:Int)]] i fun e b=>∃g,e=.returned (pt g)/\b.cell? ⟨w.heap.size,2,none⟩=some a/\w.heap.size<b.heap.size/\Calls prog 263 #[.pointer (some ⟨L.sb,0,none⟩),a,av] (b.alloc (.cells #[pt g] TGlP)) fun e s=>∃l m,e=.returned (fnV l m)/\Calls prog 284 #[.int .i64 1,fnV l m,fnV 291 #[pt b.heap.size]] s fun e t=>CmpQ L M O P w F W (.mk .define nm d v [x] ns) sc (N+(1+IU x)) e t/\∃x,e=.returned x):=by refine(aHR o.fw o.cr p (by omega)).mono (fun e b z=>?_);obtain⟨g,J,G,rfl,A,Z⟩:=z;have B:Below b.heap.size b (b.alloc (.cells #[pt g] TGlP)):=b_;have f:=(o.trans A).below B;have b4:Bx J (b.alloc (.cells #[pt g] TGlP)) b.heap.size (pt g) TGlP:=aGH A.mlt (heap_alloc_new b _);have n:=I.go A.AQ;refine⟨g,rfl,aA n.2 2,aB n.2,?_⟩;refine(H J P _ G (N+1) a av sc f.fw f.cr (q.go f.AQ f.le.s) (r.go f.AQ f.le.s) X (by omega)).mono (fun e s z=>?_);obtain⟨u,M4,G4,rfl,C,K⟩:=z;obtain⟨l,m,rfl⟩:=K.func;have Q:=(f.trans C).up (N':=N+(1+IU x)) (by omega);exact⟨l,m,rfl,aJI Q (fun t R q1 q2 q3=>.define _ _ _ _ g k _ x nm d v ns sc q1 q2 q3 ((b4.go C.AQ).go R) (bS Q.le.s.ns p) (C.le.gl _ _ Z) (K.go R (Fg.Le.refl _)))⟩
 obtain⟨oa,rfl⟩:=r.ptr;obtain⟨T,y,rfl⟩:=q.iface;subst c;clear h E p q H r o I j;go_enter func273,ntmps273
 go_wp2_with (first
  | (go_at_call 282;refine(Calls.mono Y ?_);rintro e b ⟨g,rfl,d2,dl,S⟩;have HC:=(show Hid _ from S);clear S)
  | (go_at_call 263;refine(Calls.mono HC ?_);rintro e s ⟨l,m,rfl,U⟩;have HH:=(show Hid _ from U);clear U)
  | (go_at_call 284;refine(Calls.mono HH ?_);rintro e t ⟨V,x9,rfl⟩;have D:=(show Hid _ from V);clear V))
 go_ret;exact D
theorem p_setMk{L:Lo}{F:Fg}{W:PW}(h:FW L M O w F N W)(hP:∀k,P k->Cr M w F k){nm:AE}(hn:F.s.ns[k]?=some nm){x:PF}(hx:CP M w F.s a x)(ih:CmpOk L O W x){sc:List (List AE)}(Q:ScR M w F.s av sc)(hl:sc.length+IU x<=1100)(hN:N+(1+IU x)<=9000000000000000000)(d:Pl.A9)(v:PV)(ns:List AE) :Calls prog 272 #[.pointer (some ⟨L.sb,0,none⟩),.agg #[.string ⟨nm.toArray⟩,.int .i64 (k:Int),a],av] w (CmpQ L M O P w F W (.mk .set nm d v [x] ns) sc (N+(1+IU x))):=by
 obtain⟨J,r⟩:∃J,J=w.alloc (.cells #[.string ⟨nm.toArray⟩,.int .i64 (k:Int),a] TSet):=⟨_,rfl⟩
 have z:Below w.heap.size w J:=by rw [r];exact b_
 have R:J.heap.size=w.heap.size+1:=by rw [r];simp
 have t:J.heap[w.heap.size]?=some (.cells #[.string ⟨nm.toArray⟩,.int .i64 (k:Int),a] TSet (0,0)):=by rw [r];exact heap_alloc_new w _
 have S:sc.length<=1100:=by omega
 have HF:Hid (Calls prog 279 #[av,.agg #[.string ⟨nm.toArray⟩,.int .i64 (k:Int)]] J fun e w'=>(Below w.heap.size w w'/\w'.heap[w.heap.size]?=some (.cells #[.string ⟨nm.toArray⟩,.int .i64 (k:Int),a] TSet (0,0)))/\FndQ sc nm e):=(aK6 M _ F.s av sc nm k h.nd (Q.go (Stp.AA z) (Sg.Le.refl _)) hn S).mono (fun e w' ⟨j1,j2⟩=>⟨⟨z.trans (j1.mono (by omega)),(j1.block _ (by omega)).trans t⟩,j2⟩)
 have HL:Hid (∀b,Below w.heap.size w b->∀i m:Nat,scF sc nm=some (i,m)->i<=sc.length->Calls prog 263 #[.pointer (some ⟨L.sb,0,none⟩),a,av] ((b.alloc (.cells #[.int .i64 (i:Int)] TInt)).alloc (.cells #[.int .i64 (m:Int)] TInt)) fun e A=>∃n o,e=.returned (fnV n o)/\Calls prog 284 #[.int .i64 1,fnV n o,fnV 288 #[pt b.heap.size,pt (b.heap.size+1)]] A fun e B=>CmpQ L M O P w F W (.mk .set nm d v [x] ns) sc (N+(1+IU x)) e B/\∃x,e=.returned x):=fun b f i m C hd=>by
  have D:=(Cmp.refl h hP).below f;have s:Below b.heap.size b ((b.alloc (.cells #[.int .i64 (i:Int)] TInt)).alloc (.cells #[.int .i64 (m:Int)] TInt)):=b_.alloc (by simp) _;have p:=D.below s;have b4:Bx M ((b.alloc (.cells #[.int .i64 (i:Int)] TInt)).alloc (.cells #[.int .i64 (m:Int)] TInt)) b.heap.size (.int .i64 (i:Int)) TInt:=aGH D.mlt ((k_ (by simp)).trans (heap_alloc_new b _))
  have b5:Bx M ((b.alloc (.cells #[.int .i64 (i:Int)] TInt)).alloc (.cells #[.int .i64 (m:Int)] TInt)) (b.heap.size+1) (.int .i64 (m:Int)) TInt:=aGH (fun j hj=>Nat.lt_succ_of_lt (D.mlt j hj)) (by
   have:=heap_alloc_new (b.alloc (.cells #[.int .i64 (i:Int)] TInt)) (.cells #[.int .i64 (m:Int)] TInt)
   rwa [World.size_alloc] at this)
  refine(ih M P _ F N a av sc p.fw p.cr (hx.go p.AQ p.le.s) (Q.go p.AQ p.le.s) hl (by omega)).mono (fun e A U=>?_);obtain⟨u,M4,G4,rfl,q,V⟩:=U;obtain⟨n,o,rfl⟩:=V.func;have K:=(p.trans q).up (N':=N+(1+IU x)) (by omega);exact⟨n,o,rfl,aJI K (fun B E q1 q2 q3=>.setL _ _ _ _ _ i m _ x nm d v ns sc q1 q2 q3 ((b4.go q.AQ).go E) ((b5.go q.AQ).go E) C (by omega) (V.go E (Fg.Le.refl _)))⟩
 have HG:Hid (∀b,Below w.heap.size w b->b.heap[w.heap.size]?=some (.cells #[.string ⟨nm.toArray⟩,.int .i64 (k:Int),a] TSet (0,0))->scF sc nm=none->Calls prog 282 #[.pointer (some ⟨L.sb,0,none⟩),.agg #[.string ⟨nm.toArray⟩,.int .i64 (k:Int)]] ((b.alloc (.cells #[.int .i64 0] TInt)).alloc (.cells #[.int .i64 0] TInt)) fun e l=>∃g,e=.returned (pt g)/\l.cell? ⟨w.heap.size,2,none⟩=some a/\w.heap.size<l.heap.size/\Calls prog 263 #[.pointer (some ⟨L.sb,0,none⟩),a,av] (l.alloc (.cells #[pt g] TGlP)) fun e A=>∃n o,e=.returned (fnV n o)/\Calls prog 284 #[.int .i64 1,fnV n o,fnV 289 #[pt l.heap.size,pt w.heap.size]] A fun e B=>CmpQ L M O P w F W (.mk .set nm d v [x] ns) sc (N+(1+IU x)) e B/\∃x,e=.returned x):=fun b f c C=>by
  have s:Below b.heap.size b ((b.alloc (.cells #[.int .i64 0] TInt)).alloc (.cells #[.int .i64 0] TInt)):=b_.alloc (by simp) _;have D:=(Cmp.refl h hP).below (f.trans (s.mono f.size));have bk:Bk M ((b.alloc (.cells #[.int .i64 0] TInt)).alloc (.cells #[.int .i64 0] TInt)) w.heap.size #[.string ⟨nm.toArray⟩,.int .i64 (k:Int),a] TSet:=⟨fun y=>Nat.lt_irrefl _ (h.mlt _ y),(s.block _ (aB c)).trans c⟩
  refine(aHR D.fw D.cr hn (by omega)).mono (fun e l U=>?_);obtain⟨g,M3,G,rfl,p,hg⟩:=U;have X:Below l.heap.size l (l.alloc (.cells #[pt g] TGlP)):=b_;have q:=(D.trans p).below X;have b4:Bx M3 (l.alloc (.cells #[pt g] TGlP)) l.heap.size (pt g) TGlP:=aGH p.mlt (heap_alloc_new l _);have H:=bk.go p.AQ;refine⟨g,rfl,aA H.2 2,aB H.2,?_⟩;refine(ih M3 P _ G (N+1) a av sc q.fw q.cr (hx.go q.AQ q.le.s) (Q.go q.AQ q.le.s) hl (by omega)).mono (fun e A U=>?_);obtain⟨u,M4,G4,rfl,K,V⟩:=U;obtain⟨n,o,rfl⟩:=V.func;have c6:=(q.trans K).up (N':=N+(1+IU x)) (by omega);exact⟨n,o,rfl,aJI c6 (fun B E q1 q2 q3=>.setG _ _ _ _ _ g k a _ x nm d v ns sc q1 q2 q3 ((b4.go K.AQ).go E) (((H.go (Stp.AA X)).go K.AQ).go E) (bS c6.le.s.ns hn) (K.le.gl _ _ hg) C (V.go E (Fg.Le.refl _)))⟩
 obtain⟨oa,rfl⟩:=Q.ptr;obtain⟨T,y,rfl⟩:=hx.iface;subst r;clear h hP hn hx ih Q z R t S;go_enter func272,ntmps272
 go_upto_region 2 with(go_at_call 279;refine(Calls.mono HF ?_);rintro e b ⟨⟨f,c⟩,⟨i,m,C,hd,hi,rfl⟩ | ⟨C,rfl⟩⟩)
 ·have HC:=h_ (HL b f i m C hd);have d2:b.cell? ⟨w.heap.size,2,none⟩=some (.iface T y):=aA c 2;have dl:=aB c;have aa:w.heap.size<b.heap.size+1:=by omega
  clear HL HG HF c f
  go_wp2_with (first
   | (go_at_call 263;refine(Calls.mono HC ?_);rintro e A ⟨n,o,rfl,Y⟩;have HH:=(show Hid _ from Y);clear Y)
   | (go_at_call 284;refine(Calls.mono HH ?_);rintro e B ⟨Z,x9,rfl⟩;have I:=(show Hid _ from Z);clear Z))
  go_ret;exact I
 ·have HK:=h_ (HG b f c C);have d0:b.cell? ⟨w.heap.size,0,none⟩=some (.string ⟨nm.toArray⟩):=aA c 0;have d1:b.cell? ⟨w.heap.size,1,none⟩=some (.int .i64 (k:Int)):=aA c 1;have dl:=aB c;have aa:w.heap.size<b.heap.size+1:=by omega
  clear HL HG HF c f
  go_wp2_with (first
   | (go_at_call 282;refine(Calls.mono HK ?_);rintro e l ⟨g,rfl,d3,ab,hc⟩;have HC:=(show Hid _ from hc);clear hc)
   | (go_at_call 263;refine(Calls.mono HC ?_);rintro e A ⟨n,o,rfl,Y⟩;have HH:=(show Hid _ from Y);clear Y)
   | (go_at_call 284;refine(Calls.mono HH ?_);rintro e B ⟨Z,x9,rfl⟩;have I:=(show Hid _ from Z);clear Z))
  go_ret;exact I
def TLam:TypeId:=329
theorem p_body{L:Lo}{F:Fg}{W:PW}(h:FW L M O w F N W)(r:∀k,P k->Cr M w F k){sl:Value}{x:PF}{ns:List AE}(d:EI M w F.s sl ns)(n:CP M w F.s a x)(s:CmpOk L O W x){sc:List (List AE)}(o:ScR M w F.s av sc)(I:sc.length+1+IU x<=1100)(A:N+IU x<=9000000000000000000) :Calls prog 292 #[.pointer (some ⟨L.sb,0,none⟩),.agg #[sl,a],av] w (CmpQ L M O P w F W x (ns::sc) (N+IU x)):=by
 obtain⟨g,f⟩:∃g,g=(w.alloc (.cells #[sl,a] TLam)).alloc (.cells #[sl,av] TScp):=⟨_,rfl⟩
 have i:Below w.heap.size w g:=by rw [f];exact b_.alloc (by simp) _
 have b:=(Cmp.refl h r).below i
 have t:Bk M g (w.heap.size+1) #[sl,av] TScp:=⟨fun y=>by have:=h.mlt _ y;omega,by
  rw [f];have:=heap_alloc_new (w.alloc (.cells #[sl,a] TLam)) (.cells #[sl,av] TScp)
  rwa [World.size_alloc] at this⟩
 have B:Hid (Calls prog 263 #[.pointer (some ⟨L.sb,0,none⟩),a,.pointer (some ⟨w.heap.size+1,0,none⟩)] g fun e p=>∃j l,e=.returned (fnV j l)/\CmpQ L M O P w F W x (ns::sc) (N+IU x) e p):=by refine(s M P _ F N a _ (ns::sc) b.fw b.cr (n.go b.AQ b.le.s) (.cons _ sl av ns sc t (d.go b.AQ b.le.s) (o.go b.AQ b.le.s)) (by simp;omega) A).mono (fun e p C=>?_);obtain⟨u,D,E,rfl,G,v⟩:=C;obtain⟨j,l,rfl⟩:=v.func;exact⟨j,l,rfl,_,D,E,rfl,b.trans G,v⟩
 obtain⟨J,rfl⟩:=o.ptr;obtain⟨T,y,rfl⟩:=n.iface;obtain⟨m,c,rfl⟩:∃m c,sl=.slice m ns.length c:=by obtain⟨⟨_,_,H⟩,_,_⟩:=d;obtain⟨m,c,e,_⟩:=H.shape;exact⟨m,c,e⟩
 subst f;clear h r d n s o b t i;go_enter func292,ntmps292;go_wp2_with (go_at_call 263;refine(Calls.mono B ?_);rintro e p ⟨j,l,rfl,z⟩;have q:=(show Hid _ from z);clear z);go_ret;exact q
end
end Go.Proofs.YtkgbdddkcjpgfaaGreatDoor
