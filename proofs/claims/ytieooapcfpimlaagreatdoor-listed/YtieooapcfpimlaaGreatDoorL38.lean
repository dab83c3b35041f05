import Derived.Test.YtieooapcfpimlaaGreatDoorL37
namespace Go.Proofs.YtieooapcfpimlaaGreatDoor
set_option maxHeartbeats 4000000
set_option maxRecDepth 100000
open Go.Proofs.Tryz
open Pl (PV PW PF AE FK)
section
open Go.RowKit Go.Maps Go.Lib
variable {w w2 wy w':World} {M O P M':Nat->Prop} {N b:Nat} {l:List Nat} {a av:Value}
def TDef:TypeId:=152
theorem aH2(k:FK)(nm:AE)(d:Pl.A9)(v:PV)(x:PF)(ns:List AE):IU (.mk k nm d v [x] ns)=1+IU x:=by rw [OL,ZL,aA5];omega
theorem aJI{L:Lo}{F G:Fg}{kf kt:Nat}{W:PW}{cap ct:Array Value}{f:PF}{sc:List (List AE)}(h:Cmp L M O P w F W M' w' G N)(c:∀a,Stp M' w' M' a->Bx M' a w'.heap.size (.int .i64 1) TInt->Bx M' a (w'.heap.size+1) (fnV kf cap) TCod->Bx M' a (w'.heap.size+1+1) (fnV kt ct) TTak->RC M' a G (fnV 197 #[pt w'.heap.size,pt (w'.heap.size+1),pt (w'.heap.size+1+1)]) f sc) :Calls prog 181 #[.int .i64 1,fnV kf cap,fnV kt ct] w' fun e a=>CmpQ L M O P w F W f sc N e a/\∃x,e=.returned x:=(aG4 w' 1 kf kt cap ct).mono (fun e a ⟨d,g⟩=>by
 subst d g;obtain⟨b,i,j,k⟩:=aH1 (M:=M') (w:=w') h.mlt (.int .i64 1) (fnV kf cap) (fnV kt ct)
 exact⟨⟨_,M',G,rfl,h.below b,c _ (Stp.AA b) i j k⟩,_,rfl⟩)
theorem p_defMk{L:Lo}{F:Fg}{W:PW}(h:FW L M O w F N W)(E:∀k,P k->Cr M w F k){k:Nat}{nm:AE}(p:F.s.ns[k]?=some nm){x:PF}(q:CP M w F.s a x)(H:CmpOk L O W x){sc:List (List AE)}(r:ScR M w F.s av sc)(X:sc.length+IU x<=1100)(hN:N+(1+IU x)<=9000000000000000000)(d:Pl.A9)(v:PV)(ns:List AE) :Calls prog 170 #[.pointer (some ⟨L.sb,0,none⟩),.agg #[.string ⟨nm.toArray⟩,.int .i64 (k:Int),a],av] w (CmpQ L M O P w F W (.mk .define nm d v [x] ns) sc (N+(1+IU x))):=by
 obtain⟨i,c⟩:∃i,i=w.alloc (.cells #[.string ⟨nm.toArray⟩,.int .i64 (k:Int),a] TDef):=⟨_,rfl⟩
 have j:Below w.heap.size w i:=by rw [c];exact b_
 have o:=(Cmp.refl h E).below j;have I:Bk M i w.heap.size #[.string ⟨nm.toArray⟩,.int .i64 (k:Int),a] TDef:=⟨fun y=>Nat.lt_irrefl _ (h.mlt _ y),by rw [c];exact heap_alloc_new w _⟩
 have Y:Hid (Calls prog 179 #[.pointer (some ⟨L.sb,0,none⟩),.agg #[.string ⟨nm.toArray⟩,.int .i64 (k:Int)]] i fun e b=>∃g,e=.returned (pt g)/\b.cell? ⟨w.heap.size,2,none⟩=some a/\w.heap.size<b.heap.size/\Calls prog 160 #[.pointer (some ⟨L.sb,0,none⟩),a,av] (b.alloc (.cells #[pt g] TGlP)) fun e s=>∃l m,e=.returned (fnV l m)/\Calls prog 181 #[.int .i64 1,fnV l m,fnV 188 #[pt b.heap.size]] s fun e t=>CmpQ L M O P w F W (.mk .define nm d v [x] ns) sc (N+(1+IU x)) e t/\∃x,e=.returned x):=by refine(aHR o.fw o.cr p (by omega)).mono (fun e b z=>?_);obtain⟨g,J,G,rfl,A,Z⟩:=z;have B:Below b.heap.size b (b.alloc (.cells #[pt g] TGlP)):=b_;have f:=(o.trans A).below B;have b4:Bx J (b.alloc (.cells #[pt g] TGlP)) b.heap.size (pt g) TGlP:=aGH A.mlt (heap_alloc_new b _);have n:=I.go A.AQ;refine⟨g,rfl,aA n.2 2,aB n.2,?_⟩;refine(H J P _ G (N+1) a av sc f.fw f.cr (q.go f.AQ f.le.s) (r.go f.AQ f.le.s) X (by omega)).mono (fun e s z=>?_);obtain⟨u,M4,G4,rfl,C,K⟩:=z;obtain⟨l,m,rfl⟩:=K.func;have Q:=(f.trans C).up (N':=N+(1+IU x)) (by omega);exact⟨l,m,rfl,aJI Q (fun t R q1 q2 q3=>.define _ _ _ _ g k _ x nm d v ns sc q1 q2 q3 ((b4.go C.AQ).go R) (bS Q.le.s.ns p) (C.le.gl _ _ Z) (K.go R (Fg.Le.refl _)))⟩
 obtain⟨oa,rfl⟩:=r.ptr;obtain⟨T,y,rfl⟩:=q.iface;subst c;clear h E p q H r o I j;go_enter func170,ntmps170
 go_wp2_with (first
  | (go_at_call 179;refine(Calls.mono Y ?_);rintro e b ⟨g,rfl,d2,dl,S⟩;have HC:=(show Hid _ from S);clear S)
  | (go_at_call 160;refine(Calls.mono HC ?_);rintro e s ⟨l,m,rfl,U⟩;have HH:=(show Hid _ from U);clear U)
  | (go_at_call 181;refine(Calls.mono HH ?_);rintro e t ⟨V,x9,rfl⟩;have D:=(show Hid _ from V);clear V))
 go_ret;exact D
theorem p_setMk{L:Lo}{F:Fg}{W:PW}(h:FW L M O w F N W)(hP:∀k,P k->Cr M w F k){k:Nat}{nm:AE}(hn:F.s.ns[k]?=some nm){x:PF}(hx:CP M w F.s a x)(ih:CmpOk L O W x){sc:List (List AE)}(Q:ScR M w F.s av sc)(hl:sc.length+IU x<=1100)(hN:N+(1+IU x)<=9000000000000000000)(d:Pl.A9)(v:PV)(ns:List AE) :Calls prog 169 #[.pointer (some ⟨L.sb,0,none⟩),.agg #[.string ⟨nm.toArray⟩,.int .i64 (k:Int),a],av] w (CmpQ L M O P w F W (.mk .set nm d v [x] ns) sc (N+(1+IU x))):=by
 obtain⟨J,r⟩:∃J,J=w.alloc (.cells #[.string ⟨nm.toArray⟩,.int .i64 (k:Int),a] TSet):=⟨_,rfl⟩
 have z:Below w.heap.size w J:=by rw [r];exact b_
 have R:J.heap.size=w.heap.size+1:=by rw [r];simp
 have t:J.heap[w.heap.size]?=some (.cells #[.string ⟨nm.toArray⟩,.int .i64 (k:Int),a] TSet (0,0)):=by rw [r];exact heap_alloc_new w _
 have S:sc.length<=1100:=by omega
 have HF:Hid (Calls prog 176 #[av,.agg #[.string ⟨nm.toArray⟩,.int .i64 (k:Int)]] J fun e w'=>(Below w.heap.size w w'/\w'.heap[w.heap.size]?=some (.cells #[.string ⟨nm.toArray⟩,.int .i64 (k:Int),a] TSet (0,0)))/\FndQ sc nm e):=(aK6 M _ F.s av sc nm k h.nd (Q.go (Stp.AA z) (Sg.Le.refl _)) hn S).mono (fun e w' ⟨j1,j2⟩=>⟨⟨z.trans (j1.mono (by omega)),(j1.block _ (by omega)).trans t⟩,j2⟩)
 have HL:Hid (∀b,Below w.heap.size w b->∀i m:Nat,scF sc nm=some (i,m)->i<=sc.length->Calls prog 160 #[.pointer (some ⟨L.sb,0,none⟩),a,av] ((b.alloc (.cells #[.int .i64 (i:Int)] TInt)).alloc (.cells #[.int .i64 (m:Int)] TInt)) fun e A=>∃n o,e=.returned (fnV n o)/\Calls prog 181 #[.int .i64 1,fnV n o,fnV 185 #[pt b.heap.size,pt (b.heap.size+1)]] A fun e B=>CmpQ L M O P w F W (.mk .set nm d v [x] ns) sc (N+(1+IU x)) e B/\∃x,e=.returned x):=fun b f i m C hd=>by
  have D:=(Cmp.refl h hP).below f;have s:Below b.heap.size b ((b.alloc (.cells #[.int .i64 (i:Int)] TInt)).alloc (.cells #[.int .i64 (m:Int)] TInt)):=b_.alloc (by simp) _;have p:=D.below s;have b4:Bx M ((b.alloc (.cells #[.int .i64 (i:Int)] TInt)).alloc (.cells #[.int .i64 (m:Int)] TInt)) b.heap.size (.int .i64 (i:Int)) TInt:=aGH D.mlt ((k_ (by simp)).trans (heap_alloc_new b _))
  have b5:Bx M ((b.alloc (.cells #[.int .i64 (i:Int)] TInt)).alloc (.cells #[.int .i64 (m:Int)] TInt)) (b.heap.size+1) (.int .i64 (m:Int)) TInt:=aGH (fun j hj=>Nat.lt_succ_of_lt (D.mlt j hj)) (by
   have:=heap_alloc_new (b.alloc (.cells #[.int .i64 (i:Int)] TInt)) (.cells #[.int .i64 (m:Int)] TInt)
   rwa [World.size_alloc] at this)
  refine(ih M P _ F N a av sc p.fw p.cr (hx.go p.AQ p.le.s) (Q.go p.AQ p.le.s) hl (by omega)).mono (fun e A U=>?_);obtain⟨u,M4,G4,rfl,q,V⟩:=U;obtain⟨n,o,rfl⟩:=V.func;have K:=(p.trans q).up (N':=N+(1+IU x)) (by omega);exact⟨n,o,rfl,aJI K (fun B E q1 q2 q3=>.setL _ _ _ _ _ i m _ x nm d v ns sc q1 q2 q3 ((b4.go q.AQ).go E) ((b5.go q.AQ).go E) C (by omega) (V.go E (Fg.Le.refl _)))⟩
 have HG:Hid (∀b,Below w.heap.size w b->b.heap[w.heap.size]?=some (.cells #[.string ⟨nm.toArray⟩,.int .i64 (k:Int),a] TSet (0,0))->scF sc nm=none->Calls prog 179 #[.pointer (some ⟨L.sb,0,none⟩),.agg #[.string ⟨nm.toArray⟩,.int .i64 (k:Int)]] ((b.alloc (.cells #[.int .i64 0] TInt)).alloc (.cells #[.int .i64 0] TInt)) fun e l=>∃g,e=.returned (pt g)/\l.cell? ⟨w.heap.size,2,none⟩=some a/\w.heap.size<l.heap.size/\Calls prog 160 #[.pointer (some ⟨L.sb,0,none⟩),a,av] (l.alloc (.cells #[pt g] TGlP)) fun e A=>∃n o,e=.returned (fnV n o)/\Calls prog 181 #[.int .i64 1,fnV n o,fnV 186 #[pt l.heap.size,pt w.heap.size]] A fun e B=>CmpQ L M O P w F W (.mk .set nm d v [x] ns) sc (N+(1+IU x)) e B/\∃x,e=.returned x):=fun b f c C=>by
  have s:Below b.heap.size b ((b.alloc (.cells #[.int .i64 0] TInt)).alloc (.cells #[.int .i64 0] TInt)):=b_.alloc (by simp) _;have D:=(Cmp.refl h hP).below (f.trans (s.mono f.size));have bk:Bk M ((b.alloc (.cells #[.int .i64 0] TInt)).alloc (.cells #[.int .i64 0] TInt)) w.heap.size #[.string ⟨nm.toArray⟩,.int .i64 (k:Int),a] TSet:=⟨fun y=>Nat.lt_irrefl _ (h.mlt _ y),(s.block _ (aB c)).trans c⟩
  refine(aHR D.fw D.cr hn (by omega)).mono (fun e l U=>?_);obtain⟨g,M3,G,rfl,p,hg⟩:=U;have X:Below l.heap.size l (l.alloc (.cells #[pt g] TGlP)):=b_;have q:=(D.trans p).below X;have b4:Bx M3 (l.alloc (.cells #[pt g] TGlP)) l.heap.size (pt g) TGlP:=aGH p.mlt (heap_alloc_new l _);have H:=bk.go p.AQ;refine⟨g,rfl,aA H.2 2,aB H.2,?_⟩;refine(ih M3 P _ G (N+1) a av sc q.fw q.cr (hx.go q.AQ q.le.s) (Q.go q.AQ q.le.s) hl (by omega)).mono (fun e A U=>?_);obtain⟨u,M4,G4,rfl,K,V⟩:=U;obtain⟨n,o,rfl⟩:=V.func;have c6:=(q.trans K).up (N':=N+(1+IU x)) (by omega);exact⟨n,o,rfl,aJI c6 (fun B E q1 q2 q3=>.setG _ _ _ _ _ g k a _ x nm d v ns sc q1 q2 q3 ((b4.go K.AQ).go E) (((H.go (Stp.AA X)).go K.AQ).go E) (bS c6.le.s.ns hn) (K.le.gl _ _ hg) C (V.go E (Fg.Le.refl _)))⟩
 obtain⟨oa,rfl⟩:=Q.ptr;obtain⟨T,y,rfl⟩:=hx.iface;subst r;clear h hP hn hx ih Q z R t S;go_enter func169,ntmps169
 go_upto_region 2 with(go_at_call 176;refine(Calls.mono HF ?_);rintro e b ⟨⟨f,c⟩,⟨i,m,C,hd,hi,rfl⟩ | ⟨C,rfl⟩⟩)
 ·have HC:=h_ (HL b f i m C hd);have d2:b.cell? ⟨w.heap.size,2,none⟩=some (.iface T y):=aA c 2;have dl:=aB c;have aa:w.heap.size<b.heap.size+1:=by omega
  clear HL HG HF c f
  go_wp2_with (first
   | (go_at_call 160;refine(Calls.mono HC ?_);rintro e A ⟨n,o,rfl,Y⟩;have HH:=(show Hid _ from Y);clear Y)
   | (go_at_call 181;refine(Calls.mono HH ?_);rintro e B ⟨Z,x9,rfl⟩;have I:=(show Hid _ from Z);clear Z))
  go_ret;exact I
 ·have HK:=h_ (HG b f c C);have d0:b.cell? ⟨w.heap.size,0,none⟩=some (.string ⟨nm.toArray⟩):=aA c 0;have d1:b.cell? ⟨w.heap.size,1,none⟩=some (.int .i64 (k:Int)):=aA c 1;have dl:=aB c;have aa:w.heap.size<b.heap.size+1:=by omega
  clear HL HG HF c f
  go_wp2_with (first
   | (go_at_call 179;refine(Calls.mono HK ?_);rintro e l ⟨g,rfl,d3,ab,hc⟩;have HC:=(show Hid _ from hc);clear hc)
   | (go_at_call 160;refine(Calls.mono HC ?_);rintro e A ⟨n,o,rfl,Y⟩;have HH:=(show Hid _ from Y);clear Y)
   | (go_at_call 181;refine(Calls.mono HH ?_);rintro e B ⟨Z,x9,rfl⟩;have I:=(show Hid _ from Z);clear Z))
  go_ret;exact I
def TLam:TypeId:=210
theorem p_body{L:Lo}{F:Fg}{W:PW}(h:FW L M O w F N W)(r:∀k,P k->Cr M w F k){sl:Value}{x:PF}{ns:List AE}(d:EI M w F.s sl ns)(n:CP M w F.s a x)(s:CmpOk L O W x){sc:List (List AE)}(o:ScR M w F.s av sc)(I:sc.length+1+IU x<=1100)(A:N+IU x<=9000000000000000000) :Calls prog 189 #[.pointer (some ⟨L.sb,0,none⟩),.agg #[sl,a],av] w (CmpQ L M O P w F W x (ns::sc) (N+IU x)):=by
 obtain⟨g,f⟩:∃g,g=(w.alloc (.cells #[sl,a] TLam)).alloc (.cells #[sl,av] TScp):=⟨_,rfl⟩
 have i:Below w.heap.size w g:=by rw [f];exact b_.alloc (by simp) _
 have b:=(Cmp.refl h r).below i
 have t:Bk M g (w.heap.size+1) #[sl,av] TScp:=⟨fun y=>by have:=h.mlt _ y;omega,by
  rw [f];have:=heap_alloc_new (w.alloc (.cells #[sl,a] TLam)) (.cells #[sl,av] TScp)
  rwa [World.size_alloc] at this⟩
 have B:Hid (Calls prog 160 #[.pointer (some ⟨L.sb,0,none⟩),a,.pointer (some ⟨w.heap.size+1,0,none⟩)] g fun e p=>∃j l,e=.returned (fnV j l)/\CmpQ L M O P w F W x (ns::sc) (N+IU x) e p):=by refine(s M P _ F N a _ (ns::sc) b.fw b.cr (n.go b.AQ b.le.s) (.cons _ sl av ns sc t (d.go b.AQ b.le.s) (o.go b.AQ b.le.s)) (by simp;omega) A).mono (fun e p C=>?_);obtain⟨u,D,E,rfl,G,v⟩:=C;obtain⟨j,l,rfl⟩:=v.func;exact⟨j,l,rfl,_,D,E,rfl,b.trans G,v⟩
 obtain⟨J,rfl⟩:=o.ptr;obtain⟨T,y,rfl⟩:=n.iface;obtain⟨m,c,rfl⟩:∃m c,sl=.slice m ns.length c:=by obtain⟨⟨_,_,H⟩,_,_⟩:=d;obtain⟨m,c,e,_⟩:=H.shape;exact⟨m,c,e⟩
 subst f;clear h r d n s o b t i;go_enter func189,ntmps189;go_wp2_with (go_at_call 160;refine(Calls.mono B ?_);rintro e p ⟨j,l,rfl,z⟩;have q:=(show Hid _ from z);clear z);go_ret;exact q
theorem aF6{x:Option Obj}(h:w.heap[b]?=x):w.drew.heap[b]?=x:=h
theorem aF5{x o:Obj}(h:w.heap[b]?=some x):(w.alloc o).heap[b]?=some x:=(k_ (aB h)).trans h
theorem aF7{c:Array Value}{T:TypeId}(h:b=w.heap.size):(w.alloc (.cells c T)).heap[b]?=some (.cells c T (0,0)):=by subst h;exact heap_alloc_new w _
theorem aGC{z v:Value}{T:TypeId}(h:w.heap[b]?=some (.cells #[z] T (0,0))):(w.setCell ⟨b,0,none⟩ v).heap[b]?=some (.cells #[v] T (0,0)):=aD h 0 v
theorem aGA{b' o:Nat}{v:Value}{x:Obj}(a:b≠b')(h:w.heap[b]?=some x):(w.setCell ⟨b',o,none⟩ v).heap[b]?=some x:=(Below.heap_setCell _ _ _ _ (fun e=>a (by simpa using e))).trans h
def Ml(M:Nat->Prop):List Nat->Nat->Prop
 | []=>M
 | b::l=>Ms (Ml M l) b
theorem Ml.not:∀{l:List Nat} {b:Nat},b∈l->¬Ml M l b
 | a::l,b,h=>fun x=>by
  rcases List.mem_cons.1 h with rfl | h
  ·exact x.2 rfl
  ·exact Ml.not h x.1
theorem Ml.le:∀{l:List Nat} {b:Nat},Ml M l b->M b
 | [],_,h=>h
 | _::l,_,h=>Ml.le (l:=l) h.1
theorem Ml.of:∀{l:List Nat} {b:Nat},M b->b∉l->Ml M l b
 | [],_,h,_=>h
 | _::_,_,h,a=>⟨Ml.of h (fun x=>a (List.mem_cons_of_mem _ x)),fun e=>a (e▸List.mem_cons_self ..)⟩
theorem Stp.shutl(M:Nat->Prop)(l:List Nat)(w:World):Stp M w (Ml M l) w:=⟨rfl,rfl,rfl,n_,fun _ _ a=>⟨rfl,fun x=>a (Ml.le x)⟩⟩
structure Cw(L:Lo)(M O P:Nat->Prop)(w:World)(F:Fg)(W:PW)(M':Nat->Prop)(w2:World)(G:Fg)(N:Nat)(l:List Nat)(wy:World):Prop where
 cmp:Cmp L M O P w F W M' wy G N
 AQ:Stp M' w2 M' wy
 cr:∀k∈l,Cr M' wy G k
 ne:∀k∈l,¬P k
theorem Cw.set{L:Lo}{F G:Fg}{W:PW}(h:Cw L M O P w F W M' w2 G N l wy)(q:b∈l)(o:Nat)(v:Value):Cw L M O P w F W M' w2 G N l (wy.setCell ⟨b,o,none⟩ v):=by
 have c:=h.cr b q;obtain⟨y,r,i⟩:=h.cmp.fw.codeSet c o v;have m:∀k,P k->k≠b:=fun k n e=>h.ne b q (e▸n)
 have d:∀k,Cr M' wy G k->Cr M' (wy.setCell ⟨b,o,none⟩ v) G k:=fun k ⟨g,⟨f,T,s,t⟩,u⟩=>by
  by_cases e:k=b
  ·subst e;exact⟨g,⟨_,T,aD s o v,t⟩,u⟩
  ·exact⟨g,⟨f,T,(i k e).trans s,t⟩,u⟩
 obtain⟨A,⟨f,B,g,z⟩,C⟩:=c;refine⟨⟨h.cmp.AQ.trans r,h.cmp.le,h.cmp.s,y,fun j a=>?_,fun j a=>(i j (m j a)).trans (h.cmp.row j a),fun j a=>d j (h.cmp.cr j a)⟩,h.AQ.trans r,fun k n=>d k (h.cr k n),h.ne⟩;obtain⟨_,⟨x,p⟩,_⟩:=h.cmp.fw.oth j a;exact(i j (aGF p g (tCs z).1)).trans (h.cmp.oth j a)
theorem Cw.below{L:Lo}{wz:World}{F G:Fg}{W:PW}(h:Cw L M O P w F W M' w2 G N l wy)(a:Below wy.heap.size wy wz):Cw L M O P w F W M' w2 G N l wz:=⟨h.cmp.below a,h.AQ.trans (Stp.AA a),fun k b=>(h.cr k b).below a,h.ne⟩
theorem Cw.alloc{L:Lo}{F G:Fg}{W:PW}(h:Cw L M O P w F W M' w2 G N l wy){o:Obj}:Cw L M O P w F W M' w2 G N l (wy.alloc o):=h.below b_
theorem Cw.drew{L:Lo}{F G:Fg}{W:PW}(h:Cw L M O P w F W M' w2 G N l wy):Cw L M O P w F W M' w2 G N l wy.drew:=h.below (r_.drew)
theorem FW.codeEndl{L:Lo}{F:Fg}{W:PW}(h:FW L M O w F N W):∀{l:List Nat},l.Nodup->(∀k∈l,Cr M w F k)->FW L (Ml M l) O w F N W
 | [],_,_=>h
 | b::l,a,c=>by have d:=FW.codeEndl h (List.nodup_cons.1 a).2 (fun k e=>c k (List.mem_cons_of_mem _ e));obtain⟨f,g,i⟩:=c b (List.mem_cons_self ..);exact d.codeEnd ⟨Ml.of f (List.nodup_cons.1 a).1,g,i⟩
theorem Cw.shut{L:Lo}{F G:Fg}{W:PW}(h:Cw L M O P w F W M' w2 G N l wy)(b:l.Nodup):Cmp L M O P w F W (Ml M' l) wy G N/\Stp M' w2 (Ml M' l) wy:=by
 have s:=Stp.shutl M' l wy
 exact⟨⟨h.cmp.AQ.trans s,h.cmp.le,h.cmp.s,h.cmp.fw.codeEndl b h.cr,h.cmp.oth,h.cmp.row,fun k a=>by
  obtain⟨c,d,e⟩:=h.cmp.cr k a
  exact⟨Ml.of c (fun x=>h.ne k x a),d,e⟩⟩,h.AQ.trans s⟩
def Ah(w:World)(w':World)(l:List Nat):Prop:=l.Nodup/\Below w.heap.size w w'/\∀k∈l,w.heap.size<=k/\∃z T,w'.heap[k]?=some (.cells #[z] T (0,0))/\(T=TCod\/T=TInt)
def Ml2(M:Nat->Prop)(l:List Nat):Nat->Prop:=Mn M (fun k=>k∈l)
theorem Ah.go{L:Lo}{F:Fg}{W:PW}(m:Ah w w' l)(h:FW L M O w F N W)(i:∀k,P k->Cr M w F k):FW L (Ml2 M l) O w' F N W/\Stp M w (Ml2 M l) w'/\(∀k,(P k\/k∈l)->Cr (Ml2 M l) w' F k)/\∀k∈l,¬P k:=by
 obtain⟨u,j,b⟩:=m;obtain⟨n,o⟩:=h.more j (fun k=>k∈l) (fun k a=>(b k a).1) (fun k a=>by obtain⟨_,_,_,q,_⟩:=b k a;exact aB q);refine⟨n,o,fun k a=>?_,fun k a x=>by have:=(i k x).lt;have:=(b k a).1;omega⟩;rcases a with a | a
 ·obtain⟨d,f,p⟩:=(i k a).below j;exact⟨.inl d,f,p⟩
 ·obtain⟨v,z,T,d,f⟩:=b k a;refine⟨.inr a,⟨_,T,d,.inl f⟩,fun r g=>?_⟩;obtain⟨y,A,B,c,e,s,t,_⟩:=(h.sit r g).ex;have:=aB s;have:=aB t;omega
theorem Cw.of{L:Lo}{F G:Fg}{W:PW}{N':Nat}(e:Ah w w' l)(h:FW L M O w F N W)(f:∀k,P k->Cr M w F k)(c:Cmp L (Ml2 M l) O (fun k=>P k\/k∈l) w' F W M' w2 G N'):Cw L M O P w F W M' w2 G N' l w2:=by obtain⟨_,s,_,d⟩:=e.go h f;obtain⟨_,g,_⟩:=e;exact⟨⟨s.trans c.AQ,c.le,c.s,c.fw,fun b i=>(c.oth b i).trans (g.block b (h.olt i)),fun k a=>(c.row k (.inl a)).trans (g.block k (f k a).lt),fun k a=>c.cr k (.inl a)⟩,Stp.refl _ _,fun k a=>c.cr k (.inr a),d⟩
def AhQ(L:Lo)(M O P:Nat->Prop)(w:World)(F:Fg)(W:PW)(x:PF)(sc:List (List AE))(N:Nat)(l:List Nat)(w':World)(e:Ending)(w2:World):Prop:=∃ku cu,e=.returned (.func (.func ku) #[] cu)/\w'.heap.size<=w2.heap.size/\(∀k,w.heap.size<=k->k<w'.heap.size->w2.heap[k]?=w'.heap[k]?)/\∃M2 G,Cw L M O P w F W M2 w2 G N l w2/\RC M2 w2 G (fnV ku cu) x sc
theorem AhQ.of{L:Lo}{F:Fg}{W:PW}{N':Nat}{x:PF}{sc:List (List AE)}{e:Ending}(f:Ah w w' l)(h:FW L M O w F N W)(g:∀k,P k->Cr M w F k)(c:CmpQ L (Ml2 M l) O (fun k=>P k\/k∈l) w' F W x sc N' e w2):AhQ L M O P w F W x sc N' l w' e w2:=by
 obtain⟨u,i,G,rfl,a,d⟩:=c;obtain⟨j,m,rfl⟩:=d.func;refine⟨j,m,rfl,a.AQ.size,fun k n b=>?_,i,G,Cw.of f h g a,d⟩;by_cases e:k∈l
 ·exact a.row k (.inr e)
 ·exact(a.AQ.block k b (fun x=>by
   rcases x with x | x
   ·have:=h.mlt k x;omega
   ·exact e x)).1
theorem ahA(w:World):Ah w w.drew []:=⟨List.nodup_nil,r_.drew,fun k a=>by cases a⟩
theorem ahB(w:World)(z:Value)(T:TypeId)(a:T=TCod\/T=TInt):Ah w (w.alloc (.cells #[z] T)).drew [w.heap.size]:=⟨by simp,b_.drew,fun k b=>by
 obtain rfl:=List.mem_singleton.1 b
 exact⟨n_,z,T,heap_alloc_new w _,a⟩⟩
theorem ahD(w:World)(z d:Value)(T a:TypeId)(e:T=TCod\/T=TInt)(b:a=TCod\/a=TInt):Ah w ((w.alloc (.cells #[z] T)).alloc (.cells #[d] a)).drew [w.heap.size,w.heap.size+1]:=⟨by simp,(b_.alloc (by simp) _).drew,fun k c=>by
 rcases List.mem_cons.1 c with rfl | c
 ·exact⟨n_,z,T,aF5 (aF7 rfl),e⟩
 ·obtain rfl:=List.mem_singleton.1 c
  exact⟨by omega,d,a,aF7 (by simp),b⟩⟩
theorem aG9{L:Lo}{M2:Nat->Prop}{F G:Fg}{W:PW}{u:Value}{x:PF}{ns:List AE}{sc:List (List AE)}(g:RC M2 w2 G u x (ns::sc))(i:Cw L M O P w F W M2 w2 G N l w2)(h:Cw L M O P w F W M2 w2 G N l wy){b7 b8:Nat}(j:wy.heap[b7]?=some (.cells #[.int .i64 (ns.length:Int)] TInt (0,0)))(k:wy.heap[b8]?=some (.cells #[u] TCod (0,0)))(m:b7∈l\/w2.heap.size<=b7)(n:b8∈l\/w2.heap.size<=b8)(o:l.Nodup)(f:ns.Nodup)(nm:AE)(d:Pl.A9)(v:PV) :CmpQ L M O P w F W (.mk .lambda nm d v [x] ns) sc N (.returned (fnV 190 #[pt b7,pt b8])) wy:=by
 obtain⟨c,s⟩:=h.shut o
 have a:∀b,(b∈l\/w2.heap.size<=b)->¬Ml M2 l b:=fun b e=>by
  rcases e with e | e
  ·exact Ml.not e
  ·exact fun x=>by have:=i.cmp.mlt b (Ml.le x);omega
 exact⟨_,_,G,rfl,c,.lambda b7 b8 u x nm d v ns sc ⟨a _ m,j⟩ ⟨a _ n,k⟩ f (g.go s (Fg.Le.refl _))⟩
theorem aKD{L:Lo}{F:Fg}{W:PW}(h:FW L M O w F N W)(hP:∀k,P k->Cr M w F k){sl:Value}{x:PF}{ns:List AE}(I:EI M w F.s sl ns)(K:ns.Nodup)(hx:CP M w F.s a x)(ih:CmpOk L O W x){sc:List (List AE)}(hs:ScR M w F.s av sc)(hl:sc.length+1+IU x<=1100)(hN:N+(1+IU x)<=9000000000000000000)(nm:AE)(d:Pl.A9)(v:PV) :Calls prog 171 #[.pointer (some ⟨L.sb,0,none⟩),.agg #[sl,a],av] w (CmpQ L M O P w F W (.mk .lambda nm d v [x] ns) sc (N+(1+IU x))):=by
 obtain⟨w1,Q⟩:∃w1,w1=w.alloc (.cells #[sl,a] TLam):=⟨_,rfl⟩
 have C:Below w.heap.size w w1:=by rw [Q];exact b_
 have R:Hid (∀S l,Ah w1 S l->Calls prog 189 #[.pointer (some ⟨L.sb,0,none⟩),.agg #[sl,a],av] S (AhQ L M O P w F W x (ns::sc) (N+(1+IU x)) l S)):=fun S l hA=>by
  have U:Ah w S l:=⟨hA.1,C.trans (hA.2.1.mono C.size),fun k o=>⟨t_ C.size (hA.2.2 k o).1,(hA.2.2 k o).2⟩⟩
  obtain⟨f,s,cr,_⟩:=U.go h hP;have l0:=Sg.Le.refl F.s;refine(p_body f cr (I.go s l0) (hx.go s l0) ih (hs.go s l0) hl (by omega)).mono (fun e b t=>?_);obtain⟨u,M',G,e1,c1,H⟩:=t;exact AhQ.of U h hP ⟨u,M',G,e1,c1.up (by omega),H⟩
 have J:Hid ns.Nodup:=K;obtain⟨oa,rfl⟩:=hs.ptr;obtain⟨T,y,rfl⟩:=hx.iface;obtain⟨A,c,rfl⟩:∃A c,sl=.slice A ns.length c:=by obtain⟨⟨_,_,h2⟩,_,_⟩:=I;obtain⟨A,c,e,_⟩:=h2.shape;exact⟨A,c,e⟩
 subst Q;clear h hP I hx ih hs C K;go_enter func171,ntmps171;have HS:Hid (∀D:World,D.heap[w.heap.size]?=some (.cells #[.slice A ns.length c,.iface T y] TLam (0,0))->w.heap.size<D.heap.size/\D.cell? ⟨w.heap.size,0,none⟩=some (.slice A ns.length c)/\D.cell? ⟨w.heap.size,1,none⟩=some (.iface T y)):=fun D q=>⟨aB q,aA q 0,aA q 1⟩
 go_upto_region 1 with fail
 have ac:∀(a:Addr)(fn:Fn)(first c:Array Value)(w:World),(store a (.func fn first c)).run prog w=stored prog w a (.func fn first c) .plain:=fun _ _ _ _ _=>run_store _ _ _ _ _ rfl
 go_region_held3 (fun D=>w.heap.size<D.heap.size/\D.cell? ⟨w.heap.size,0,none⟩=some (.slice A ns.length c)/\D.cell? ⟨w.heap.size,1,none⟩=some (.iface T y))
  ((refine HS.out _ ?_;repeat' first | exact B.out | exact aF7 rfl | apply aF6 | (refine aGA (by omega) ?_) | apply aF5))
  ((go_at_call 189;first
  | (refine(Calls.mono (R _ _ (ahD _ _ _ TInt TCod (.inr rfl) (.inl rfl))) ?_);rintro e b ⟨ku,cu,rfl,g,o,M2,G,t⟩;have p:b.heap[w.heap.size+1]?=some (.cells #[_] TInt (0,0)):=(o _ (by first | omega | (simp;done) | (simp;omega)) (by first | omega | (simp;done) | (simp;omega))).trans (aF6 (aF5 (aF7 (by first | omega | (simp;done) | (simp;omega)))));have r:b.heap[w.heap.size+1+1]?=some (.cells #[_] TCod (0,0)):=(o _ (by first | omega | (simp;done) | (simp;omega)) (by first | omega | (simp;done) | (simp;omega))).trans (aF6 (aF7 (by first | omega | (simp;done) | (simp;omega))));have i:b.heap[w.heap.size]?=some (.cells #[_,_] TLam (0,0)):=(o _ n_ (by first | omega | (simp;done) | (simp;omega))).trans (aF6 (aF5 (aF5 (aF7 rfl))));have V:b.cell? ⟨_,0,none⟩=some (.int .i64 0):=aA p 0;have X:=aF p 0;have Y:=aB p;have j:=(show Hid _ from p);clear p;have Z:b.cell? ⟨_,0,none⟩=some .nilFunc:=aA r 0;have aa:=aF r 0;have ab:=aB r;have m:=(show Hid _ from r);clear r;have HQ:=(show Hid _ from t);clear t o;have z:w.heap.size+1<=b.heap.size:=(by simp at g;omega);have d0:b.cell? ⟨w.heap.size,0,none⟩=some (.slice A ns.length c):=aA i 0;have d1:b.cell? ⟨w.heap.size,1,none⟩=some (.iface T y):=aA i 1;have E:=aB i;have B:=(show Hid _ from i);clear i g)
  | (refine(Calls.mono (R _ _ (ahD _ _ _ TCod TInt (.inl rfl) (.inr rfl))) ?_);rintro e b ⟨ku,cu,rfl,g,o,M2,G,t⟩;have r:b.heap[w.heap.size+1]?=some (.cells #[_] TCod (0,0)):=(o _ (by first | omega | (simp;done) | (simp;omega)) (by first | omega | (simp;done) | (simp;omega))).trans (aF6 (aF5 (aF7 (by first | omega | (simp;done) | (simp;omega)))));have p:b.heap[w.heap.size+1+1]?=some (.cells #[_] TInt (0,0)):=(o _ (by first | omega | (simp;done) | (simp;omega)) (by first | omega | (simp;done) | (simp;omega))).trans (aF6 (aF7 (by first | omega | (simp;done) | (simp;omega))));have i:b.heap[w.heap.size]?=some (.cells #[_,_] TLam (0,0)):=(o _ n_ (by first | omega | (simp;done) | (simp;omega))).trans (aF6 (aF5 (aF5 (aF7 rfl))));have Z:b.cell? ⟨_,0,none⟩=some .nilFunc:=aA r 0;have aa:=aF r 0;have ab:=aB r;have m:=(show Hid _ from r);clear r;have V:b.cell? ⟨_,0,none⟩=some (.int .i64 0):=aA p 0;have X:=aF p 0;have Y:=aB p;have j:=(show Hid _ from p);clear p;have HQ:=(show Hid _ from t);clear t o;have z:w.heap.size+1<=b.heap.size:=(by simp at g;omega);have d0:b.cell? ⟨w.heap.size,0,none⟩=some (.slice A ns.length c):=aA i 0;have d1:b.cell? ⟨w.heap.size,1,none⟩=some (.iface T y):=aA i 1;have E:=aB i;have B:=(show Hid _ from i);clear i g)
  | (refine(Calls.mono (R _ _ (ahB _ _ TInt (.inr rfl))) ?_);rintro e b ⟨ku,cu,rfl,g,o,M2,G,t⟩;have p:b.heap[w.heap.size+1]?=some (.cells #[_] TInt (0,0)):=(o _ (by first | omega | (simp;done) | (simp;omega)) (by first | omega | (simp;done) | (simp;omega))).trans (aF6 (aF7 (by first | omega | (simp;done) | (simp;omega))));have i:b.heap[w.heap.size]?=some (.cells #[_,_] TLam (0,0)):=(o _ n_ (by first | omega | (simp;done) | (simp;omega))).trans (aF6 (aF5 (aF7 rfl)));have V:b.cell? ⟨_,0,none⟩=some (.int .i64 0):=aA p 0;have X:=aF p 0;have Y:=aB p;have j:=(show Hid _ from p);clear p;have HQ:=(show Hid _ from t);clear t o;have z:w.heap.size+1<=b.heap.size:=(by simp at g;omega);have d0:b.cell? ⟨w.heap.size,0,none⟩=some (.slice A ns.length c):=aA i 0;have d1:b.cell? ⟨w.heap.size,1,none⟩=some (.iface T y):=aA i 1;have E:=aB i;have B:=(show Hid _ from i);clear i g)
  | (refine(Calls.mono (R _ _ (ahB _ _ TCod (.inl rfl))) ?_);rintro e b ⟨ku,cu,rfl,g,o,M2,G,t⟩;have r:b.heap[w.heap.size+1]?=some (.cells #[_] TCod (0,0)):=(o _ (by first | omega | (simp;done) | (simp;omega)) (by first | omega | (simp;done) | (simp;omega))).trans (aF6 (aF7 (by first | omega | (simp;done) | (simp;omega))));have i:b.heap[w.heap.size]?=some (.cells #[_,_] TLam (0,0)):=(o _ n_ (by first | omega | (simp;done) | (simp;omega))).trans (aF6 (aF5 (aF7 rfl)));have Z:b.cell? ⟨_,0,none⟩=some .nilFunc:=aA r 0;have aa:=aF r 0;have ab:=aB r;have m:=(show Hid _ from r);clear r;have HQ:=(show Hid _ from t);clear t o;have z:w.heap.size+1<=b.heap.size:=(by simp at g;omega);have d0:b.cell? ⟨w.heap.size,0,none⟩=some (.slice A ns.length c):=aA i 0;have d1:b.cell? ⟨w.heap.size,1,none⟩=some (.iface T y):=aA i 1;have E:=aB i;have B:=(show Hid _ from i);clear i g)
  | (refine(Calls.mono (R _ _ (ahA _)) ?_);rintro e b ⟨ku,cu,rfl,g,o,M2,G,t⟩;have i:b.heap[w.heap.size]?=some (.cells #[_,_] TLam (0,0)):=(o _ n_ (by first | omega | (simp;done) | (simp;omega))).trans (aF6 (aF7 rfl));have HQ:=(show Hid _ from t);clear t o;have z:w.heap.size+1<=b.heap.size:=(by simp at g;omega);have d0:b.cell? ⟨w.heap.size,0,none⟩=some (.slice A ns.length c):=aA i 0;have d1:b.cell? ⟨w.heap.size,1,none⟩=some (.iface T y):=aA i 1;have E:=aB i;have B:=(show Hid _ from i);clear i g)))
 all_goals
  go_wp2_with fail
  go_ret;obtain⟨n,H⟩:=HQ.out;first
  | (show CmpQ L M O P w F W (.mk .lambda nm d v [x] ns) sc (N+(1+IU x)) (.returned (fnV 190 #[pt (b.heap.size),pt (b.heap.size+1)])) _;exact(aG9 (b7:=b.heap.size) (b8:=b.heap.size+1) H n (by repeat' first | exact n | apply Cw.drew | (refine Cw.set ?_ ?_ _ _) | apply Cw.alloc | (simp;done)) (by repeat' first | exact j.out | exact m.out | exact aF7 (by simp) | apply aF6 | apply aGC | (refine aGA (by omega) ?_) | apply aF5) (by repeat' first | exact j.out | exact m.out | exact aF7 (by simp) | apply aF6 | apply aGC | (refine aGA (by omega) ?_) | apply aF5) (by first | (left;simp;done) | (right;omega) | (right;simp;done)) (by first | (left;simp;done) | (right;omega) | (right;simp;done)) (by simp) J nm d v))
  | (show CmpQ L M O P w F W (.mk .lambda nm d v [x] ns) sc (N+(1+IU x)) (.returned (fnV 190 #[pt (b.heap.size+1),pt (b.heap.size)])) _;exact(aG9 (b7:=b.heap.size+1) (b8:=b.heap.size) H n (by repeat' first | exact n | apply Cw.drew | (refine Cw.set ?_ ?_ _ _) | apply Cw.alloc | (simp;done)) (by repeat' first | exact j.out | exact m.out | exact aF7 (by simp) | apply aF6 | apply aGC | (refine aGA (by omega) ?_) | apply aF5) (by repeat' first | exact j.out | exact m.out | exact aF7 (by simp) | apply aF6 | apply aGC | (refine aGA (by omega) ?_) | apply aF5) (by first | (left;simp;done) | (right;omega) | (right;simp;done)) (by first | (left;simp;done) | (right;omega) | (right;simp;done)) (by simp) J nm d v))
  | (show CmpQ L M O P w F W (.mk .lambda nm d v [x] ns) sc (N+(1+IU x)) (.returned (fnV 190 #[pt (w.heap.size+1),pt (b.heap.size)])) _;exact(aG9 (b7:=w.heap.size+1) (b8:=b.heap.size) H n (by repeat' first | exact n | apply Cw.drew | (refine Cw.set ?_ ?_ _ _) | apply Cw.alloc | (simp;done)) (by repeat' first | exact j.out | exact m.out | exact aF7 (by simp) | apply aF6 | apply aGC | (refine aGA (by omega) ?_) | apply aF5) (by repeat' first | exact j.out | exact m.out | exact aF7 (by simp) | apply aF6 | apply aGC | (refine aGA (by omega) ?_) | apply aF5) (by first | (left;simp;done) | (right;omega) | (right;simp;done)) (by first | (left;simp;done) | (right;omega) | (right;simp;done)) (by simp) J nm d v))
  | (show CmpQ L M O P w F W (.mk .lambda nm d v [x] ns) sc (N+(1+IU x)) (.returned (fnV 190 #[pt (b.heap.size),pt (w.heap.size+1)])) _;exact(aG9 (b7:=b.heap.size) (b8:=w.heap.size+1) H n (by repeat' first | exact n | apply Cw.drew | (refine Cw.set ?_ ?_ _ _) | apply Cw.alloc | (simp;done)) (by repeat' first | exact j.out | exact m.out | exact aF7 (by simp) | apply aF6 | apply aGC | (refine aGA (by omega) ?_) | apply aF5) (by repeat' first | exact j.out | exact m.out | exact aF7 (by simp) | apply aF6 | apply aGC | (refine aGA (by omega) ?_) | apply aF5) (by first | (left;simp;done) | (right;omega) | (right;simp;done)) (by first | (left;simp;done) | (right;omega) | (right;simp;done)) (by simp) J nm d v))
  | (show CmpQ L M O P w F W (.mk .lambda nm d v [x] ns) sc (N+(1+IU x)) (.returned (fnV 190 #[pt (w.heap.size+1),pt (w.heap.size+1+1)])) _;exact(aG9 (b7:=w.heap.size+1) (b8:=w.heap.size+1+1) H n (by repeat' first | exact n | apply Cw.drew | (refine Cw.set ?_ ?_ _ _) | apply Cw.alloc | (simp;done)) (by repeat' first | exact j.out | exact m.out | exact aF7 (by simp) | apply aF6 | apply aGC | (refine aGA (by omega) ?_) | apply aF5) (by repeat' first | exact j.out | exact m.out | exact aF7 (by simp) | apply aF6 | apply aGC | (refine aGA (by omega) ?_) | apply aF5) (by first | (left;simp;done) | (right;omega) | (right;simp;done)) (by first | (left;simp;done) | (right;omega) | (right;simp;done)) (by simp) J nm d v))
  | (show CmpQ L M O P w F W (.mk .lambda nm d v [x] ns) sc (N+(1+IU x)) (.returned (fnV 190 #[pt (w.heap.size+1+1),pt (w.heap.size+1)])) _;exact(aG9 (b7:=w.heap.size+1+1) (b8:=w.heap.size+1) H n (by repeat' first | exact n | apply Cw.drew | (refine Cw.set ?_ ?_ _ _) | apply Cw.alloc | (simp;done)) (by repeat' first | exact j.out | exact m.out | exact aF7 (by simp) | apply aF6 | apply aGC | (refine aGA (by omega) ?_) | apply aF5) (by repeat' first | exact j.out | exact m.out | exact aF7 (by simp) | apply aF6 | apply aGC | (refine aGA (by omega) ?_) | apply aF5) (by first | (left;simp;done) | (right;omega) | (right;simp;done)) (by first | (left;simp;done) | (right;omega) | (right;simp;done)) (by simp) J nm d v))
end
end Go.Proofs.YtieooapcfpimlaaGreatDoor
