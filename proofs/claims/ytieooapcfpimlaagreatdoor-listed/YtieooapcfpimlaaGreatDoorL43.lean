import Derived.Test.YtieooapcfpimlaaGreatDoorL42
namespace Go.Proofs.YtieooapcfpimlaaGreatDoor
set_option maxHeartbeats 4000000
set_option maxRecDepth 100000
open Go.Proofs.Tryz
open Pl (PV PW PF AE)
section
open Go.RowKit Go.Maps Go.Lib
variable {M O P:Nat->Prop} {w w2:World} {N g off m c rb:Nat} {av:Value} {us:List Value}
theorem aI6(v:Value)(w:World):(Instr.typeAssert (.iface 157 v) 76 157 true).run prog w=.ok (.tuple #[v,.bool true]) w:=by kernel_rfl
theorem aHD(v:Value)(w:World):(Instr.typeAssert (.iface 157 v) 76 148 true).run prog w=.ok (.tuple #[.agg #[.string ⟨#[]⟩,.int .i64 0],.bool false]) w:=by kernel_rfl
theorem aG2(v:Value)(w:World):(Instr.typeAssert (.iface 157 v) 76 210 true).run prog w=.ok (.tuple #[.agg #[.slice none 0 0,.nilIface],.bool false]) w:=by kernel_rfl
theorem aJ5(v:Value)(w:World):(Instr.typeAssert (.iface 148 v) 76 148 true).run prog w=.ok (.tuple #[v,.bool true]) w:=by kernel_rfl
theorem aHA(v:Value)(w:World):(Instr.typeAssert (.iface 148 v) 76 157 true).run prog w=.ok (.tuple #[.agg #[.nilIface,.bool false],.bool false]) w:=by kernel_rfl
theorem aH3(v:Value)(w:World):(Instr.typeAssert (.iface 148 v) 76 210 true).run prog w=.ok (.tuple #[.agg #[.slice none 0 0,.nilIface],.bool false]) w:=by kernel_rfl
theorem ffy_If(v:Value)(w:World):(Instr.typeAssert (.iface 202 v) 76 202 true).run prog w=.ok (.tuple #[v,.bool true]) w:=by kernel_rfl
theorem aH6(v:Value)(w:World):(Instr.typeAssert (.iface 202 v) 76 157 true).run prog w=.ok (.tuple #[.agg #[.nilIface,.bool false],.bool false]) w:=by kernel_rfl
theorem aH5(v:Value)(w:World):(Instr.typeAssert (.iface 202 v) 76 148 true).run prog w=.ok (.tuple #[.agg #[.string ⟨#[]⟩,.int .i64 0],.bool false]) w:=by kernel_rfl
theorem aIO(v:Value)(w:World):(Instr.typeAssert (.iface 202 v) 76 210 true).run prog w=.ok (.tuple #[.agg #[.slice none 0 0,.nilIface],.bool false]) w:=by kernel_rfl
theorem aLV(v:Value)(w:World):(Instr.typeAssert (.iface 204 v) 76 204 true).run prog w=.ok (.tuple #[v,.bool true]) w:=by kernel_rfl
theorem aG6(v:Value)(w:World):(Instr.typeAssert (.iface 204 v) 76 157 true).run prog w=.ok (.tuple #[.agg #[.nilIface,.bool false],.bool false]) w:=by kernel_rfl
theorem aGX(v:Value)(w:World):(Instr.typeAssert (.iface 204 v) 76 148 true).run prog w=.ok (.tuple #[.agg #[.string ⟨#[]⟩,.int .i64 0],.bool false]) w:=by kernel_rfl
theorem aI8(v:Value)(w:World):(Instr.typeAssert (.iface 204 v) 76 202 true).run prog w=.ok (.tuple #[.agg #[.nilIface,.nilIface,.nilIface],.bool false]) w:=by kernel_rfl
theorem aHQ(v:Value)(w:World):(Instr.typeAssert (.iface 204 v) 76 210 true).run prog w=.ok (.tuple #[.agg #[.slice none 0 0,.nilIface],.bool false]) w:=by kernel_rfl
theorem ffy_Set(v:Value)(w:World):(Instr.typeAssert (.iface 205 v) 76 205 true).run prog w=.ok (.tuple #[v,.bool true]) w:=by kernel_rfl
theorem aHN(v:Value)(w:World):(Instr.typeAssert (.iface 205 v) 76 157 true).run prog w=.ok (.tuple #[.agg #[.nilIface,.bool false],.bool false]) w:=by kernel_rfl
theorem aHI(v:Value)(w:World):(Instr.typeAssert (.iface 205 v) 76 148 true).run prog w=.ok (.tuple #[.agg #[.string ⟨#[]⟩,.int .i64 0],.bool false]) w:=by kernel_rfl
theorem aKL(v:Value)(w:World):(Instr.typeAssert (.iface 205 v) 76 202 true).run prog w=.ok (.tuple #[.agg #[.nilIface,.nilIface,.nilIface],.bool false]) w:=by kernel_rfl
theorem aIM(v:Value)(w:World):(Instr.typeAssert (.iface 205 v) 76 204 true).run prog w=.ok (.tuple #[.agg #[.slice none 0 0],.bool false]) w:=by kernel_rfl
theorem aIA(v:Value)(w:World):(Instr.typeAssert (.iface 205 v) 76 210 true).run prog w=.ok (.tuple #[.agg #[.slice none 0 0,.nilIface],.bool false]) w:=by kernel_rfl
theorem aKK(v:Value)(w:World):(Instr.typeAssert (.iface 152 v) 76 152 true).run prog w=.ok (.tuple #[v,.bool true]) w:=by kernel_rfl
theorem aG1(v:Value)(w:World):(Instr.typeAssert (.iface 152 v) 76 157 true).run prog w=.ok (.tuple #[.agg #[.nilIface,.bool false],.bool false]) w:=by kernel_rfl
theorem aGT(v:Value)(w:World):(Instr.typeAssert (.iface 152 v) 76 148 true).run prog w=.ok (.tuple #[.agg #[.string ⟨#[]⟩,.int .i64 0],.bool false]) w:=by kernel_rfl
theorem aIP(v:Value)(w:World):(Instr.typeAssert (.iface 152 v) 76 202 true).run prog w=.ok (.tuple #[.agg #[.nilIface,.nilIface,.nilIface],.bool false]) w:=by kernel_rfl
theorem aHP(v:Value)(w:World):(Instr.typeAssert (.iface 152 v) 76 204 true).run prog w=.ok (.tuple #[.agg #[.slice none 0 0],.bool false]) w:=by kernel_rfl
theorem aIC(v:Value)(w:World):(Instr.typeAssert (.iface 152 v) 76 205 true).run prog w=.ok (.tuple #[.agg #[.string ⟨#[]⟩,.int .i64 0,.nilIface],.bool false]) w:=by kernel_rfl
theorem aHC(v:Value)(w:World):(Instr.typeAssert (.iface 152 v) 76 210 true).run prog w=.ok (.tuple #[.agg #[.slice none 0 0,.nilIface],.bool false]) w:=by kernel_rfl
theorem aIE(v:Value)(w:World):(Instr.typeAssert (.iface 210 v) 76 210 true).run prog w=.ok (.tuple #[v,.bool true]) w:=by kernel_rfl
theorem aG0(v:Value)(w:World):(Instr.typeAssert (.iface 210 v) 76 157 true).run prog w=.ok (.tuple #[.agg #[.nilIface,.bool false],.bool false]) w:=by kernel_rfl
theorem aH4(v:Value)(w:World):(Instr.typeAssert (.iface 210 v) 76 148 true).run prog w=.ok (.tuple #[.agg #[.string ⟨#[]⟩,.int .i64 0],.bool false]) w:=by kernel_rfl
theorem aIN(v:Value)(w:World):(Instr.typeAssert (.iface 210 v) 76 202 true).run prog w=.ok (.tuple #[.agg #[.nilIface,.nilIface,.nilIface],.bool false]) w:=by kernel_rfl
theorem aHO(v:Value)(w:World):(Instr.typeAssert (.iface 210 v) 76 204 true).run prog w=.ok (.tuple #[.agg #[.slice none 0 0],.bool false]) w:=by kernel_rfl
theorem aIB(v:Value)(w:World):(Instr.typeAssert (.iface 210 v) 76 205 true).run prog w=.ok (.tuple #[.agg #[.string ⟨#[]⟩,.int .i64 0,.nilIface],.bool false]) w:=by kernel_rfl
theorem aHB(v:Value)(w:World):(Instr.typeAssert (.iface 210 v) 76 152 true).run prog w=.ok (.tuple #[.agg #[.string ⟨#[]⟩,.int .i64 0,.nilIface],.bool false]) w:=by kernel_rfl
theorem aM4(v:Value)(w:World):(Instr.typeAssert (.iface 211 v) 76 211 true).run prog w=.ok (.tuple #[v,.bool true]) w:=by kernel_rfl
theorem aHE(v:Value)(w:World):(Instr.typeAssert (.iface 211 v) 76 157 true).run prog w=.ok (.tuple #[.agg #[.nilIface,.bool false],.bool false]) w:=by kernel_rfl
theorem aG5(v:Value)(w:World):(Instr.typeAssert (.iface 211 v) 76 148 true).run prog w=.ok (.tuple #[.agg #[.string ⟨#[]⟩,.int .i64 0],.bool false]) w:=by kernel_rfl
theorem aJK(v:Value)(w:World):(Instr.typeAssert (.iface 211 v) 76 202 true).run prog w=.ok (.tuple #[.agg #[.nilIface,.nilIface,.nilIface],.bool false]) w:=by kernel_rfl
theorem aID(v:Value)(w:World):(Instr.typeAssert (.iface 211 v) 76 204 true).run prog w=.ok (.tuple #[.agg #[.slice none 0 0],.bool false]) w:=by kernel_rfl
theorem aI7(v:Value)(w:World):(Instr.typeAssert (.iface 211 v) 76 205 true).run prog w=.ok (.tuple #[.agg #[.string ⟨#[]⟩,.int .i64 0,.nilIface],.bool false]) w:=by kernel_rfl
theorem aH7(v:Value)(w:World):(Instr.typeAssert (.iface 211 v) 76 152 true).run prog w=.ok (.tuple #[.agg #[.string ⟨#[]⟩,.int .i64 0,.nilIface],.bool false]) w:=by kernel_rfl
theorem aGU(v:Value)(w:World):(Instr.typeAssert (.iface 211 v) 76 210 true).run prog w=.ok (.tuple #[.agg #[.slice none 0 0,.nilIface],.bool false]) w:=by kernel_rfl
def CaR(L:Lo)(M O P:Nat->Prop)(w:World)(F:Fg)(W:PW)(N:Nat)(sc:List (List AE))(ks:List PF)(rb:Nat)(w2:World):Prop:=∃M2 G us,Cmp L M O P w F W M2 w2 G (N+OT ks)/\rb<w2.heap.size/\Sl M2 w2 TCod 1 (.slice (some ⟨rb,0,none⟩) ks.length ks.length) us.length us/\us.length=ks.length/\∀(i:Nat)(u:Value)(x:PF),us[i]?=some u->ks[i]?=some x->RC M2 w2 G u x sc
def CmpR(L:Lo)(M O P:Nat->Prop)(w:World)(F:Fg)(W:PW)(f:PF)(sc:List (List AE))(N:Nat)(e:Ending)(w':World):Prop:=CmpQ L M O P w F W f sc N e w'/\∃k c,e=.returned (fnV k c)
theorem CmpQ.after{L:Lo}{M2:Nat->Prop}{w':World}{F G:Fg}{W:PW}{f:PF}{sc:List (List AE)}{N2 N3:Nat}{e:Ending}(c:Cmp L M O P w F W M2 w2 G N)(h:CmpQ L M2 O P w2 G W f sc N2 e w')(b:N2<=N3):CmpR L M O P w F W f sc N3 e w':=by obtain⟨u,d,g,rfl,i,a⟩:=h;obtain⟨k,j,rfl⟩:=a.func;exact⟨⟨_,d,g,rfl,(c.trans i).up b,a⟩,k,j,rfl⟩
theorem ca_any{L:Lo}{F:Fg}{W:PW}{sc:List (List AE)}{a:List PF}(y:CaR L M O P w F W N sc a rb w2){u0:Value}{f:PF}(z:CP M w F.s u0 f)(A:CmpOk L O W f)(B:ScR M w F.s av sc)(nm:AE)(d:Pl.A9)(v:PV)(ns:List AE)(C:sc.length+IU (.mk .call nm d v (f::a) ns)<=1100)(D:N+IU (.mk .call nm d v (f::a) ns)<=9000000000000000000)(E:a.length+1<=2000)(w':World)(p:Below w2.heap.size w2 w') :Calls prog 160 #[.pointer (some ⟨L.sb,0,none⟩),u0,av] w' fun e q=>∃h j,e=.returned (.func (.func h) #[] j)/\Calls prog 193 #[.func (.func h) #[] j,.slice (some ⟨rb,0,none⟩) a.length a.length] q (CmpR L M O P w F W (.mk .call nm d v (f::a) ns) sc (N+IU (.mk .call nm d v (f::a) ns))):=by obtain⟨r,G,J,c,k,l,m,n⟩:=y;have b:=c.below p;rw [OL,ZL] at C D ⊢;refine(A r P w' G _ u0 av sc b.fw b.cr (z.go b.AQ b.le.s) (B.go b.AQ b.le.s) (by omega) (by omega)).mono (fun e q o=>?_);obtain⟨u,K,Q,rfl,g,t⟩:=o;obtain⟨h,j,rfl⟩:=t.func;have s:=(Stp.AA (M:=r) p).trans g.AQ;exact⟨h,j,rfl,(aI2 g.fw g.cr t (l_ k s.size) (l.AQ s) m (fun i u x H I=>(n i u x H I).go s g.le) E nm d v ns).mono (fun e R o=>o.after (b.trans g) (by omega))⟩
theorem ca_glob{L:Lo}{F:Fg}{W:PW}{sc:List (List AE)}{g:List PF}(q:CaR L M O P w F W N sc g rb w2){k:Nat}{a:AE}(r:F.s.ns[k]?=some a)(t:scF sc a=none)(nm:AE)(d:Pl.A9)(v:PV)(ns:List AE)(h:Pl.A9)(v':PV)(b:List PF)(f:List AE)(D:N+IU (.mk .call nm d v (.mk .name a h v' b f::g) ns)<=9000000000000000000)(y:g.length+1<=2000)(w':World)(p:Below w2.heap.size w2 w') :Calls prog 192 #[.pointer (some ⟨L.sb,0,none⟩),.agg #[.string ⟨a.toArray⟩,.int .i64 (k:Int)],.slice (some ⟨rb,0,none⟩) g.length g.length] w' (CmpR L M O P w F W (.mk .call nm d v (.mk .name a h v' b f::g) ns) sc (N+IU (.mk .call nm d v (.mk .name a h v' b f::g) ns))):=by
 obtain⟨z,G,E,c,j,l,m,n⟩:=q;have o:=c.below p;have s:=Stp.AA (M:=z) p;have e:N+OT g+1+1<=N+IU (.mk .call nm d v (.mk .name a h v' b f::g) ns):=by rw [OL,ZL];have:=aGO (.mk .name a h v' b f);omega
 exact(aKF o.fw o.cr (bS c.le.s.ns r) (l_ j s.size) (l.AQ s) m (fun i u x A B=>(n i u x A B).go s (Fg.Le.refl _)) t y (by omega) nm d v ns h v' b f).mono (fun H I C=>C.after o e)
theorem ca_lam{L:Lo}{F:Fg}{W:PW}{sc:List (List AE)}{j:List PF}(D:CaR L M O P w F W N sc j rb w2){sl a:Value}{x:PF}{f:List AE}(l:EI M w F.s sl f)(E:CP M w F.s a x)(H:CmpOk L O W x)(I:ScR M w F.s av sc)(nm:AE)(d:Pl.A9)(v:PV)(ns:List AE)(g:AE)(m:Pl.A9)(v':PV)(J:sc.length+IU (.mk .call nm d v (.mk .lambda g m v' [x] f::j) ns)<=1100)(K:N+IU (.mk .call nm d v (.mk .lambda g m v' [x] f::j) ns)<=9000000000000000000)(Z:j.length+1<=2000)(w':World)(B:Below w2.heap.size w2 w') :Calls prog 189 #[.pointer (some ⟨L.sb,0,none⟩),.agg #[sl,a],av] w' fun e r=>∃n o,e=.returned (.func (.func n) #[] o)/\(∀b,w2.heap.size<=b->b<w'.heap.size->r.heap[b]?=w'.heap[b]?)/\Calls prog 191 #[.int .i64 (f.length:Int),.func (.func n) #[] o,.slice (some ⟨rb,0,none⟩) j.length j.length] r (fun e t=>CmpR L M O P w F W (.mk .call nm d v (.mk .lambda g m v' [x] f::j) ns) sc (N+IU (.mk .call nm d v (.mk .lambda g m v' [x] f::j) ns)) e t/\∀b,w2.heap.size<=b->b<w'.heap.size->t.heap[b]?=w'.heap[b]?):=by
 obtain⟨Q,G,us,c,R,y,z,A⟩:=D;have h:=c.below B;rw [OL,ZL,aH2] at J K ⊢;refine(p_body h.fw h.cr (l.go h.AQ h.le.s) (E.go h.AQ h.le.s) H (I.go h.AQ h.le.s) (by omega) (by omega)).mono (fun e r p=>?_);obtain⟨u,M5,G5,rfl,k,C⟩:=p;obtain⟨n,o,rfl⟩:=C.func;have s:=(Stp.AA (M:=Q) B).trans k.AQ;refine⟨n,o,rfl,fun b S q=>(k.AQ.block b q (fun x=>by have:=c.mlt b x;omega)).1,?_⟩
 exact(aLE k.fw k.cr l.nodup C (y.AQ s) z (fun i u x T U=>(A i u x T U).go s k.le) (by omega) nm d v ns g m v').mono (fun e t p=>⟨p.after (h.trans k) (by omega),fun b S q=>by
  obtain⟨_,_,_,_,V,_⟩:=p;obtain⟨X,Y⟩:=k.AQ.block b q (fun x=>by have:=c.mlt b x;omega)
  exact(V.AQ.block b (l_ q k.AQ.size) Y).1.trans X⟩)
def TCal:TypeId:=211
theorem Sl.tailC{T:TypeId}{u:Value}(h:Sl M w T 1 (.slice (some ⟨g,off,none⟩) m (c+1)) (us.length+1) (u::us)):m=us.length+1/\us.length<=c/\¬M g/\g<w.heap.size/\w.cell? ⟨g,off,none⟩=some u/\Sl M w T 1 (.slice (some ⟨g,off+1,none⟩) us.length c) us.length us/\∀a f,us=[]->Sl M w T 1 (.slice a 0 f) us.length us:=by
 obtain⟨_,a,o,e,q,j⟩:=h;simp only [Value.slice.injEq] at e;obtain⟨rfl,rfl,rfl⟩:=e;rcases j with j | ⟨r,k,b,e,l,d,n⟩
 ·omega
 ·simp only [o_,Addr.mk.injEq,and_true] at e;obtain⟨rfl,rfl⟩:=e;refine⟨rfl,by omega,l,aB d,(aA d off).trans (by simpa using n 0 u rfl),⟨by simp,_,_,rfl,by omega,.inr ⟨g,off+1,b,rfl,l,d,fun i v p=>?_⟩⟩,fun a f e=>?_⟩
  ·have:=n (i+1) v (by simpa using p);rw [<- this]
   congr 1
   omega
  ·subst e;exact⟨rfl,_,_,rfl,Nat.zero_le _,.inl rfl⟩
def CaQ(L:Lo)(M O P:Nat->Prop)(w:World)(F:Fg)(W:PW)(N:Nat)(sc:List (List AE))(ks:List PF)(g off:Nat)(sl u0:Value)(e:Ending)(w2:World):Prop:=∃rb,e=.returned (.slice (some ⟨rb,0,none⟩) ks.length ks.length)/\w2.cell? ⟨w.heap.size,0,none⟩=some sl/\w.heap.size<w2.heap.size/\w2.cell? ⟨g,off,none⟩=some u0/\g<w2.heap.size/\CaR L M O P w F W N sc ks rb w2
theorem aIQ{L:Lo}{F:Fg}{W:PW}(h:FW L M O w F N W)(H:∀k,P k->Cr M w F k){u0:Value}{b:List PF}(D:Sl M w D8 1 (.slice (some ⟨g,off,none⟩) m (c+1)) (us.length+1) (u0::us))(j:us.length=b.length)(I:∀(i:Nat)(u:Value)(x:PF),us[i]?=some u->b[i]?=some x->CP M w F.s u x)(J:∀(i:Nat)(x:PF),b[i]?=some x->CmpOk L O W x){sc:List (List AE)}(K:ScR M w F.s av sc)(Q:sc.length+OT b<=1100)(R:N+OT b<=9000000000000000000)(S:b.length<=2000)(a:Value)(l:a=.slice (some ⟨g,off+1,none⟩) us.length c\/(us=[]/\∃n o,a=.slice n 0 o)) :Calls prog 168 #[.pointer (some ⟨L.sb,0,none⟩),a,av] (w.alloc (.cells #[.slice (some ⟨g,off,none⟩) m (c+1)] TCal)) (CaQ L M O P w F W N sc b g off (.slice (some ⟨g,off,none⟩) m (c+1)) u0):=by
 obtain⟨rfl,_,hm,hg,p,T,q⟩:=D.tailC;have r:Below w.heap.size w (w.alloc (.cells #[.slice (some ⟨g,off,none⟩) (us.length+1) (c+1)] TCal)):=b_;have t:=(Cmp.refl h H).below r;have s:=Stp.AA (M:=M) r;have E:Bx M (w.alloc (.cells #[.slice (some ⟨g,off,none⟩) (us.length+1) (c+1)] TCal)) w.heap.size (.slice (some ⟨g,off,none⟩) (us.length+1) (c+1)) TCal:=aGH h.mlt (aF7 rfl)
 have d:Sl M w D8 1 a us.length us:=by
  rcases l with rfl | ⟨e,n,o,rfl⟩
  ·exact T
  ·exact q n o e
 refine(aLA t.fw t.cr (d.AQ s) j (fun i u x U V=>(I i u x U V).go s (Sg.Le.refl _)) J (K.go s (Sg.Le.refl _)) Q R S).mono (fun e w2 X=>?_);obtain⟨Y,Z,G,v,rfl,f,y,z,A,B⟩:=X;obtain⟨_,_,_,aa,C,_⟩:=((D.AQ s).AQ f.AQ).tailC
 exact⟨Y,rfl,(E.go f.AQ).cell,aB (E.go f.AQ).2,C,by
  have:=r.size;have:=f.AQ.size
  omega,Z,G,v,t.trans f,y,z,A,B⟩
theorem aGI{L:Lo}{F:Fg}{W:PW}(h:FW L M O w F N W)(R:∀k,P k->Cr M w F k){a:List PF}(o:us.length=a.length)(S:∀(i:Nat)(u:Value)(x:PF),us[i]?=some u->a[i]?=some x->CP M w F.s u x)(U:∀(i:Nat)(x:PF),a[i]?=some x->CmpOk L O W x){sc:List (List AE)}(t:ScR M w F.s av sc)(h5:a.length+1<=2000)(nm:AE)(d:Pl.A9)(v:PV)(ns:List AE){T:TypeId}{y:Value}{j:PF}(z:Sl M w D8 1 (.slice (some ⟨g,off,none⟩) m (c+1)) (us.length+1) (.iface T y::us))(p:CP M w F.s (.iface T y) j)(q:CmpOk L O W j)(C:sc.length+IU (.mk .call nm d v (j::a) ns)<=1100)(D:N+IU (.mk .call nm d v (j::a) ns)<=9000000000000000000)(zl zn:Value)(fl:∀w,(Instr.typeAssert (.iface T y) 76 210 true).run prog w=.ok (.tuple #[zl,.bool false]) w)(fn:∀w,(Instr.typeAssert (.iface T y) 76 148 true).run prog w=.ok (.tuple #[zn,.bool false]) w) :Calls prog 172 #[.pointer (some ⟨L.sb,0,none⟩),.agg #[.slice (some ⟨g,off,none⟩) m (c+1)],av] w (CmpQ L M O P w F W (.mk .call nm d v (j::a) ns) sc (N+IU (.mk .call nm d v (j::a) ns))):=by
 have n:sc.length+OT a<=1100/\N+OT a<=9000000000000000000:=by rw [OL,ZL] at C D;omega
 have V:Hid (∀b,(b=.slice (some ⟨g,off+1,none⟩) (m-1) c\/(c=0/\∃E G,b=.slice E (m-1) G))->Calls prog 168 #[.pointer (some ⟨L.sb,0,none⟩),b,av] (w.alloc (.cells #[.slice (some ⟨g,off,none⟩) m (c+1)] TCal)) fun e l=>∃r,e=.returned (.slice (some ⟨r,0,none⟩) a.length a.length)/\l.cell? ⟨w.heap.size,0,none⟩=some (.slice (some ⟨g,off,none⟩) m (c+1))/\w.heap.size<l.heap.size/\l.cell? ⟨g,off,none⟩=some (.iface T y)/\g<l.heap.size/\∀A,Below l.heap.size l A->Calls prog 160 #[.pointer (some ⟨L.sb,0,none⟩),.iface T y,av] A fun e X=>∃H I,e=.returned (.func (.func H) #[] I)/\Calls prog 193 #[.func (.func H) #[] I,.slice (some ⟨r,0,none⟩) a.length a.length] X (CmpR L M O P w F W (.mk .call nm d v (j::a) ns) sc (N+IU (.mk .call nm d v (j::a) ns)))):=fun b J=>(aIQ h R z o S U t n.1 n.2 (by omega) b (by
  obtain⟨K,s,_⟩:=z.tailC;rcases J with rfl | ⟨e,E,G,rfl⟩
  ·left;rw [K];simp
  ·right;exact⟨List.length_eq_zero_iff.1 (by omega),E,G,by rw [show m-1=0 by omega]⟩)).mono (fun e l hq=>by
  obtain⟨r,rfl,q1,q2,q3,q4,B⟩:=hq;refine⟨r,rfl,q1,q2,q3,q4,?_⟩
  exact fun A hB=>ca_any B p q t nm d v ns C D h5 A hB)
 obtain⟨K,s,_,aa,_,_,_⟩:=z.tailC;have ab:(0:Int)<(m:Int):=by omega
 have ac:(1:Int)<=(m:Int):=by omega
 obtain⟨oa,rfl⟩:=t.ptr;obtain⟨f,Y⟩:∃f,f=Pl.PF.mk .call nm d v (j::a) ns:=⟨_,rfl⟩
 rw [<- Y] at V ⊢;clear h R o S U t z p q C D n K s Y;go_enter func172,ntmps172;rcases c with _ | c
 all_goals
  go_wp2_with (first
   | (go_at_call 168;refine(Calls.mono (V _ (by first | exact .inl rfl | exact .inr ⟨rfl,_,_,rfl⟩)) ?_);rintro e l ⟨r,rfl,d0,dl,d1,dg,B⟩;have HR:=(show Hid _ from B);clear B)
   | (go_at_call 160;refine(Calls.mono (HR _ r_) ?_);rintro e X ⟨H,I,rfl,Z⟩;have HH:=(show Hid _ from Z);clear Z)
   | (go_at_call 193;refine(Calls.mono HH ?_);rintro e w6 ⟨hp,k6,c6,rfl⟩;have Q:=(show Hid _ from hp);clear hp))
  go_ret;exact Q
theorem aJ9{L:Lo}{F:Fg}{W:PW}(h:FW L M O w F N W)(hP:∀k,P k->Cr M w F k){l:List PF}(D:us.length=l.length)(hx:∀(i:Nat)(u:Value)(x:PF),us[i]?=some u->l[i]?=some x->CP M w F.s u x)(ih:∀(i:Nat)(x:PF),l[i]?=some x->CmpOk L O W x){sc:List (List AE)}(E:ScR M w F.s av sc)(h5:l.length+1<=2000)(nm:AE)(d:Pl.A9)(v:PV)(ns:List AE){k:Nat}{a:AE}(o:Pl.A9)(v':PV)(b:List PF)(j:List AE)(S:Sl M w D8 1 (.slice (some ⟨g,off,none⟩) m (c+1)) (us.length+1) (.iface 148 (.agg #[.string ⟨a.toArray⟩,.int .i64 (k:Int)])::us))(T:F.s.ns[k]?=some a)(H:CmpOk L O W (.mk .name a o v' b j))(Y:sc.length+IU (.mk .call nm d v (.mk .name a o v' b j::l) ns)<=1100)(U:N+IU (.mk .call nm d v (.mk .name a o v' b j::l) ns)<=9000000000000000000) :Calls prog 172 #[.pointer (some ⟨L.sb,0,none⟩),.agg #[.slice (some ⟨g,off,none⟩) m (c+1)],av] w (CmpQ L M O P w F W (.mk .call nm d v (.mk .name a o v' b j::l) ns) sc (N+IU (.mk .call nm d v (.mk .name a o v' b j::l) ns))):=by
 have t:sc.length+OT l<=1100/\N+OT l<=9000000000000000000:=by rw [OL,ZL] at Y U;omega
 have HC:Hid (∀q,(q=.slice (some ⟨g,off+1,none⟩) (m-1) c\/(c=0/\∃Z cc,q=.slice Z (m-1) cc))->Calls prog 168 #[.pointer (some ⟨L.sb,0,none⟩),q,av] (w.alloc (.cells #[.slice (some ⟨g,off,none⟩) m (c+1)] TCal)) fun e n=>∃z,e=.returned (.slice (some ⟨z,0,none⟩) l.length l.length)/\n.cell? ⟨w.heap.size,0,none⟩=some (.slice (some ⟨g,off,none⟩) m (c+1))/\w.heap.size<n.heap.size/\n.cell? ⟨g,off,none⟩=some (.iface 148 (.agg #[.string ⟨a.toArray⟩,.int .i64 (k:Int)]))/\g<n.heap.size/\((∀r,Below n.heap.size n r->Calls prog 160 #[.pointer (some ⟨L.sb,0,none⟩),.iface 148 (.agg #[.string ⟨a.toArray⟩,.int .i64 (k:Int)]),av] r fun e w5=>∃ku cu,e=.returned (.func (.func ku) #[] cu)/\Calls prog 193 #[.func (.func ku) #[] cu,.slice (some ⟨z,0,none⟩) l.length l.length] w5 (CmpR L M O P w F W (.mk .call nm d v (.mk .name a o v' b j::l) ns) sc (N+IU (.mk .call nm d v (.mk .name a o v' b j::l) ns))))/\(scF sc a=none->∀r,Below n.heap.size n r->Calls prog 192 #[.pointer (some ⟨L.sb,0,none⟩),.agg #[.string ⟨a.toArray⟩,.int .i64 (k:Int)],.slice (some ⟨z,0,none⟩) l.length l.length] r (CmpR L M O P w F W (.mk .call nm d v (.mk .name a o v' b j::l) ns) sc (N+IU (.mk .call nm d v (.mk .name a o v' b j::l) ns))))/\Calls prog 176 #[av,.agg #[.string ⟨a.toArray⟩,.int .i64 (k:Int)]] (n.alloc (.cells #[.string ⟨a.toArray⟩,.int .i64 (k:Int)] B6)) fun e A=>(Below n.heap.size n A/\A.heap[n.heap.size]?=some (.cells #[.string ⟨a.toArray⟩,.int .i64 (k:Int)] B6 (0,0)))/\FndQ sc a e)):=fun q aa=>(aIQ h hP S D hx ih E t.1 t.2 (by omega) q (by
  obtain⟨hm,I,_⟩:=S.tailC;rcases aa with rfl | ⟨e,Z,cc,rfl⟩
  ·left;rw [hm];simp
  ·right;exact⟨List.length_eq_zero_iff.1 (by omega),Z,cc,by rw [show m-1=0 by omega]⟩)).mono (fun e n hq=>by
  obtain⟨z,rfl,q1,q2,q3,q4,B⟩:=hq;refine⟨z,rfl,q1,q2,q3,q4,?_⟩;refine⟨fun r C=>ca_any B (.name k a o v' b j T) H E nm d v ns Y U h5 r C,fun V r C=>ca_glob B T V nm d v ns o v' b j U h5 r C,?_⟩;obtain⟨M2,G,_,X,_⟩:=B;have C:Below n.heap.size n (n.alloc (.cells #[.string ⟨a.toArray⟩,.int .i64 (k:Int)] B6)):=b_
  exact(aK6 M2 _ G.s _ sc a k X.fw.nd ((E.go X.AQ X.le.s).go (Stp.AA C) (Sg.Le.refl _)) (bS X.le.s.ns T) (by omega)).mono (fun e A ⟨j1,j2⟩=>⟨⟨C.trans (j1.mono (by simp)),(j1.block _ (by simp)).trans (heap_alloc_new n _)⟩,j2⟩))
 obtain⟨hm,I,_,ac,_,_,_⟩:=S.tailC;have ad:(0:Int)<(m:Int):=by omega
 have ae:(1:Int)<=(m:Int):=by omega
 obtain⟨oa,rfl⟩:=E.ptr;obtain⟨f,V⟩:∃f,f=Pl.PF.mk .call nm d v (.mk .name a o v' b j::l) ns:=⟨_,rfl⟩
 rw [<- V] at HC ⊢;have fy:=aJ5;have fl:=aH3;clear h hP D hx ih E S T H Y U t hm I V;go_enter func172,ntmps172;rcases c with _ | c
 all_goals
  go_wp2_with (first
   | (go_at_call 168;refine(Calls.mono (HC _ (by first | exact .inl rfl | exact .inr ⟨rfl,_,_,rfl⟩)) ?_);rintro e n ⟨z,rfl,d0,dl,d1,dg,B⟩;have HR:=(show Hid _ from B);clear B)
   | (go_at_call 176;refine(Calls.mono HR.2.2 ?_);rintro e A ⟨⟨s,y⟩,ab⟩;have J:=(show Hid _ from s);have e0:=(s.cell (p:=⟨w.heap.size,0,none⟩) dl).trans d0;have e1:=(s.cell (p:=⟨g,off,none⟩) dg).trans d1;have x0:A.cell? ⟨n.heap.size,0,none⟩=some (.string ⟨a.toArray⟩):=aA y 0;have x1:A.cell? ⟨n.heap.size,1,none⟩=some (.int .i64 (k:Int)):=aA y 1;clear s y;rcases ab with⟨dp,ix,K,_,_,rfl⟩ | ⟨K,rfl⟩)
   | (go_at_call 160;refine(Calls.mono (HR.1 _ J) ?_);rintro e w5 ⟨ku,cu,rfl,hh⟩;have HH:=(show Hid _ from hh);clear hh)
   | (go_at_call 192;refine(Calls.mono (HR.2.1 K _ J) ?_);rintro e w6 ⟨Q,k6,c6,rfl⟩;have R:=(show Hid _ from Q);clear Q)
   | (go_at_call 193;refine(Calls.mono HH ?_);rintro e w6 ⟨Q,k6,c6,rfl⟩;have R:=(show Hid _ from Q);clear Q))
  all_goals
   go_ret;exact R
theorem aKA{L:Lo}{F:Fg}{W:PW}(h:FW L M O w F N W)(hP:∀k,P k->Cr M w F k){j:List PF}(E:us.length=j.length)(hx:∀(i:Nat)(u:Value)(x:PF),us[i]?=some u->j[i]?=some x->CP M w F.s u x)(ih:∀(i:Nat)(x:PF),j[i]?=some x->CmpOk L O W x){sc:List (List AE)}(S:ScR M w F.s av sc)(h5:j.length+1<=2000)(nm:AE)(d:Pl.A9)(v:PV)(ns:List AE){sl0 a0:Value}{x:PF}{l:AE}(s:Pl.A9)(v':PV){a:List AE}(T:Sl M w D8 1 (.slice (some ⟨g,off,none⟩) m (c+1)) (us.length+1) (.iface 210 (.agg #[sl0,a0])::us))(y:EI M w F.s sl0 a)(z:CP M w F.s a0 x)(G:CmpOk L O W x)(Y:sc.length+IU (.mk .call nm d v (.mk .lambda l s v' [x] a::j) ns)<=1100)(Z:N+IU (.mk .call nm d v (.mk .lambda l s v' [x] a::j) ns)<=9000000000000000000) :Calls prog 172 #[.pointer (some ⟨L.sb,0,none⟩),.agg #[.slice (some ⟨g,off,none⟩) m (c+1)],av] w (CmpQ L M O P w F W (.mk .call nm d v (.mk .lambda l s v' [x] a::j) ns) sc (N+IU (.mk .call nm d v (.mk .lambda l s v' [x] a::j) ns))):=by
 have A:sc.length+OT j<=1100/\N+OT j<=9000000000000000000:=by rw [OL,ZL] at Y Z;omega
 have HC:Hid (∀p,(p=.slice (some ⟨g,off+1,none⟩) (m-1) c\/(c=0/\∃B cc,p=.slice B (m-1) cc))->Calls prog 168 #[.pointer (some ⟨L.sb,0,none⟩),p,av] (w.alloc (.cells #[.slice (some ⟨g,off,none⟩) m (c+1)] TCal)) fun e n=>∃H,e=.returned (.slice (some ⟨H,0,none⟩) j.length j.length)/\n.cell? ⟨w.heap.size,0,none⟩=some (.slice (some ⟨g,off,none⟩) m (c+1))/\w.heap.size<n.heap.size/\n.cell? ⟨g,off,none⟩=some (.iface 210 (.agg #[sl0,a0]))/\g<n.heap.size/\∀t,Below n.heap.size n t->Calls prog 189 #[.pointer (some ⟨L.sb,0,none⟩),.agg #[sl0,a0],av] t fun e U=>∃ku cu,e=.returned (.func (.func ku) #[] cu)/\(∀b,n.heap.size<=b->b<t.heap.size->U.heap[b]?=t.heap[b]?)/\Calls prog 191 #[.int .i64 (a.length:Int),.func (.func ku) #[] cu,.slice (some ⟨H,0,none⟩) j.length j.length] U (fun e V=>CmpR L M O P w F W (.mk .call nm d v (.mk .lambda l s v' [x] a::j) ns) sc (N+IU (.mk .call nm d v (.mk .lambda l s v' [x] a::j) ns)) e V/\∀b,n.heap.size<=b->b<t.heap.size->V.heap[b]?=t.heap[b]?)):=fun p aa=>(aIQ h hP T E hx ih S A.1 A.2 (by omega) p (by
  obtain⟨hm,I,_⟩:=T.tailC;rcases aa with rfl | ⟨e,B,cc,rfl⟩
  ·left;rw [hm];simp
  ·right;exact⟨List.length_eq_zero_iff.1 (by omega),B,cc,by rw [show m-1=0 by omega]⟩)).mono (fun e n hq=>by
  obtain⟨H,rfl,q1,q2,q3,q4,X⟩:=hq;refine⟨H,rfl,q1,q2,q3,q4,?_⟩
  exact fun t hB=>ca_lam X y z G S nm d v ns l s v' Y Z h5 t hB)
 obtain⟨hm,I,_,ae,_,_,_⟩:=T.tailC;have af:(0:Int)<(m:Int):=by omega
 have ag:(1:Int)<=(m:Int):=by omega
 obtain⟨oa,rfl⟩:=S.ptr;obtain⟨f,hf⟩:∃f,f=Pl.PF.mk .call nm d v (.mk .lambda l s v' [x] a::j) ns:=⟨_,rfl⟩
 rw [<- hf] at HC ⊢;have fy:=aIE;obtain⟨r,o,rfl⟩:∃B C,sl0=.slice B a.length C:=by obtain⟨⟨_,_,h2⟩,_,_⟩:=y;obtain⟨B,C,e,_⟩:=h2.shape;exact⟨B,C,e⟩
 obtain⟨J,K,rfl⟩:=z.iface;clear h hP E hx ih S T y z G Y Z A hm I hf;go_enter func172,ntmps172;rcases c with _ | c
 all_goals
  go_upto_region 5 with(go_at_call 168;refine(Calls.mono (HC _ (by first | exact .inl rfl | exact .inr ⟨rfl,_,_,rfl⟩)) ?_);rintro e n ⟨H,rfl,d0,dl,d1,dg,X⟩;have HR:=(show Hid _ from X);clear X)
  have HS:Hid (∀D:World,D.heap[n.heap.size]?=some (.cells #[.slice r a.length o,.iface J K] TLam (0,0))->D.cell? ⟨n.heap.size,0,none⟩=some (.slice r a.length o)/\D.cell? ⟨n.heap.size,1,none⟩=some (.iface J K)):=fun D q=>⟨aA q 0,aA q 1⟩
  go_region_held3 (fun D=>D.cell? ⟨n.heap.size,0,none⟩=some (.slice r a.length o)/\D.cell? ⟨n.heap.size,1,none⟩=some (.iface J K))
   ((refine HS.out _ ?_;first | exact ab.out | exact ac.out | exact aF6 (aF7 rfl) | exact aF7 rfl))
   ((first
    | (go_at_call 189;refine(Calls.mono (HR _ (by repeat' first | exact r_ | apply Below.drew | (refine aGB ?_ n_))) ?_);rintro e U ⟨ku,cu,rfl,Q,hh⟩;have R:U.heap[n.heap.size]?=some (.cells #[.slice r a.length o,.iface J K] TLam (0,0)):=(Q _ n_ (by simp)).trans (aF6 (aF7 rfl));have ac:=(show Hid _ from R);have HH:=(show Hid _ from hh);clear R Q hh)
    | (go_at_call 191;refine(Calls.mono HH ?_);rintro e V ⟨⟨hp,k6,c6,rfl⟩,Q⟩;have R:V.heap[n.heap.size]?=some (.cells #[.slice r a.length o,.iface J K] TLam (0,0)):=(Q _ n_ (by simp)).trans (aF6 (aF7 rfl));have ab:=(show Hid _ from R);have ad:=(show Hid _ from hp);clear hp Q R)))
  all_goals
   go_wp2_with fail
   go_ret;exact ad
end
end Go.Proofs.YtieooapcfpimlaaGreatDoor
