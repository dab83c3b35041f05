import Derived.Test.YtieooapcfpimlaaGreatDoorL40
namespace Go.Proofs.YtieooapcfpimlaaGreatDoor
set_option maxHeartbeats 2000000
set_option maxRecDepth 100000
open Go.Proofs.Tryz
open Pl (PV PW PF AE)
section
open Go.RowKit Go.Maps Go.Lib
variable {w a:World} {M O P X:Nat->Prop} {N b5 k g b b4 rb b7:Nat} {us:List Value} {ar v nv kv:Value} {o:Obj}
theorem RC.one{F:Fg}{f:PF}{sc:List (List AE)}(h:RC M w F v f sc):v.oneCell'=true:=by obtain⟨_,_,rfl⟩:=h.func;rfl
theorem aI2{L:Lo}{F:Fg}{W:PW}(h:FW L M O w F N W)(S:∀k,P k->Cr M w F k){u0:Value}{C:PF}{f:List PF}{sc:List (List AE)}(D:RC M w F u0 C sc)(E:rb<w.heap.size)(A:Sl M w TCod 1 (.slice (some ⟨rb,0,none⟩) f.length f.length) us.length us)(r:us.length=f.length)(s:∀(i:Nat)(u:Value)(x:PF),us[i]?=some u->f[i]?=some x->RC M w F u x sc)(Y:f.length+1<=2000)(nm:AE)(d:Pl.A9)(v:PV)(ns:List AE) :Calls prog 193 #[u0,.slice (some ⟨rb,0,none⟩) f.length f.length] w (CmpQ L M O P w F W (.mk .call nm d v (C::f) ns) sc N):=by
 obtain⟨t,p⟩:∃t,t=(w.alloc (.cells #[u0] TCod)).alloc (.cells #[.slice (some ⟨w.heap.size,0,none⟩) 1 1,.slice (some ⟨rb,0,none⟩) f.length f.length] TCds):=⟨_,rfl⟩
 have m:Below w.heap.size w t:=by rw [p];exact b_.alloc (by simp) _
 have T:t.heap[w.heap.size]?=some (.cells #[u0] TCod (0,0)):=by rw [p];exact aF5 (aF7 rfl)
 have G:t.heap[w.heap.size+1]?=some (.cells #[.slice (some ⟨w.heap.size,0,none⟩) 1 1,.slice (some ⟨rb,0,none⟩) f.length f.length] TCds (0,0)):=by rw [p];exact aF7 (by simp)
 have Z:Hid (Calls prog 206 #[.slice (some ⟨w.heap.size+1,0,none⟩) 2 2] t fun e q=>∃H n b,e=.returned (.slice H n b)/\CmpQ L M O P w F W (.mk .call nm d v (C::f) ns) sc N (.returned (fnV 209 #[pt q.heap.size,pt (q.heap.size+1)])) ((q.alloc (.cells #[.slice H n b] TCds)).alloc (.cells #[fnV 207 #[]] TTkA))):=by
  refine(aK9 t (w.heap.size+1) w.heap.size rb f.length us u0 (fun j u hj=>?_) (l_ E m.size) (fun u hm=>?_) D.one (by omega) (aA G 0) (by rw [r];exact aA G 1) (aA T 0)).mono (fun e q hq=>?_)
  ·obtain⟨g,aa,e,_,_,o,_⟩:=(A.AQ (Stp.AA m)).get1 hj;simp only [o_,Addr.mk.injEq,and_true] at e;obtain⟨rfl,rfl⟩:=e;rw [Nat.zero_add] at o;exact o
  ·obtain⟨i,hi,rfl⟩:=List.mem_iff_getElem.1 hm;exact(s i _ _ (g_ hi) (g_ (by omega))).one
  ·obtain⟨x,rfl,I,B,g,b,rfl⟩:=hq;have y:=m.trans (I.mono m.size);have c:=(Cmp.refl h S).below y;have z:Below q.heap.size q ((q.alloc (.cells #[.slice (some ⟨g,0,none⟩) (u0::us).length b] TCds)).alloc (.cells #[fnV 207 #[]] TTkA)):=b_.alloc (by simp) _;have U:=Stp.AA (M:=M) (y.trans (z.mono y.size));have l:=Fg.Le.refl F;refine⟨_,_,_,rfl,_,M,F,rfl,c.below z,.callA _ _ (.slice (some ⟨g,0,none⟩) (u0::us).length b) (u0::us) nm d v (C::f) ns sc (aGH c.mlt (aF5 (aF7 rfl))) (aGH (fun k J=>Nat.lt_succ_of_lt (c.mlt k J)) (aF7 (by simp))) ((own_sl B (fun k J=>l_ (h.mlt k J) m.size)).AQ (Stp.AA z)) (by simp [r]) (fun i u x K Q=>?_) (by simp) (by simpa using Y)⟩
   cases i with
   | zero =>simp only [List.getElem?_cons_zero,o_] at K Q;subst K Q;exact D.go U l
   | succ i=>exact(s i u x (by simpa using K) (by simpa using Q)).go U l
 obtain⟨k0,c0,rfl⟩:=D.func;have ab:∀(a:Addr)(V:Fn)(first b:Array Value)(w:World),(store a (.func V first b)).run prog w=stored prog w a (.func V first b) .plain:=fun _ _ _ _ _=>run_store _ _ _ _ _ rfl;subst p;clear h S D A r s m T G;go_enter func193,ntmps193;go_wp2_with (go_at_call 206;refine(Calls.mono Z ?_);rintro e q ⟨H,n,b,rfl,X⟩;have R:=(show Hid _ from X);clear X);go_ret;exact R
theorem aLE{L:Lo}{F:Fg}{W:PW}(h:FW L M O w F N W)(z:∀k,P k->Cr M w F k){u0:Value}{x:PF}{e:List PF}{sc:List (List AE)}{b:List AE}(q:b.Nodup)(r:RC M w F u0 x (b::sc))(g:Sl M w TCod 1 (.slice (some ⟨rb,0,none⟩) e.length e.length) us.length us)(j:us.length=e.length)(m:∀(i:Nat)(u:Value)(x:PF),us[i]?=some u->e[i]?=some x->RC M w F u x sc)(B:e.length<=2000)(nm:AE)(d:Pl.A9)(v:PV)(ns:List AE)(f:AE)(t:Pl.A9)(v':PV) :Calls prog 191 #[.int .i64 (b.length:Int),u0,.slice (some ⟨rb,0,none⟩) e.length e.length] w (CmpQ L M O P w F W (.mk .call nm d v (.mk .lambda f t v' [x] b::e) ns) sc N):=by
 obtain⟨p,c⟩:∃p,p=(((w.alloc (.cells #[.int .i64 (b.length:Int)] TInt)).alloc (.cells #[u0] TCod)).alloc (.cells #[.slice (some ⟨rb,0,none⟩) e.length e.length] TCds)).alloc (.cells #[fnV 201 #[pt w.heap.size,pt (w.heap.size+1)]] TTkA):=⟨_,rfl⟩
 have y:Below w.heap.size w p:=by rw [c];exact((b_.alloc (by simp) _).alloc (by simp;omega) _).alloc (by simp;omega) _
 have s:=Stp.AA (M:=M) y;have l:=Fg.Le.refl F
 have C:Hid (CmpQ L M O P w F W (.mk .call nm d v (.mk .lambda f t v' [x] b::e) ns) sc N (.returned (fnV 202 #[pt (w.heap.size+1+1),pt (w.heap.size+1+1+1)])) p) :=
  ⟨_,M,F,rfl,(Cmp.refl h z).below y,.callL _ _ w.heap.size (w.heap.size+1) _ u0 us nm d v e ns f t v' x b sc
   (aGH (fun k n=>by have:=h.mlt k n;omega) (by rw [c];exact aF5 (aF7 (by simp))))
   (aGH (fun k n=>by have:=h.mlt k n;omega) (by rw [c];exact aF7 (by simp)))
   (aGH h.mlt (by rw [c];exact aF5 (aF5 (aF5 (aF7 rfl)))))
   (aGH (fun k n=>by have:=h.mlt k n;omega) (by rw [c];exact aF5 (aF5 (aF7 (by simp)))))
   q (r.go s l) (g.AQ s) j (fun i u x D E=>(m i u x D E).go s l) B⟩
 obtain⟨H,I,rfl⟩:=r.func;have G:∀(a:Addr)(A:Fn)(first o:Array Value)(w:World),(store a (.func A first o)).run prog w=stored prog w a (.func A first o) .plain:=fun _ _ _ _ _=>run_store _ _ _ _ _ rfl;subst c;clear h z r g j m y s l;go_enter func191,ntmps191;go_wp2_with fail;go_ret;exact C
def Fg.addC(F:Fg)(st:Site):Fg:={F with cs:=F.cs++[st]}
theorem Fg.addC_le(F:Fg)(a:Site):Fg.Le F (F.addC a):=⟨Sg.Le.refl _,fun _ _ h=>h,List.prefix_append _ _,List.prefix_refl _⟩
theorem FW.addC{L:Lo}{F:Fg}{W:PW}(h:FW L M O w F N W){c:Site}(j:SitAt M w c)(o:∀s∈F.cs,s.mb≠c.mb)(p:∀s∈F.cs,s.sb≠c.sb)(t:∃k,F.gl k=some c.g):FW L M O w (F.addC c) N W:=by
 have l:=Fg.addC_le F c;have r:=Stp.refl M w;have e:∀(f:Site->Nat),(F.cs.map f).Nodup->(∀s∈F.cs,f s≠f c)->((F.cs++[c]).map f).Nodup:=fun f u v=>by rw [List.map_append,List.nodup_append];refine⟨u,by simp,fun a y b n=>?_⟩;obtain⟨s,j,rfl⟩:=List.mem_map.1 y;simp only [List.map_cons,List.map_nil,List.mem_singleton] at n;subst n;exact v s j
 obtain⟨D,g,m⟩:=h.map;refine⟨h.CY,h.NN,h.TH,h.UE,⟨D,g,⟨m.tidy,m.yes,m.no⟩⟩,h.gn,h.gat,h.ginj,h.gall,h.gpl,fun s d=>?_,e _ h.sn1 o,e _ h.sn2 p,fun s d=>?_,h.pql,h.pqi,fun i b q z A B=>(h.pqa i b q z A B).go r l,h.AG.mono (fun b x C=>C.go r l),h.places,h.oth,h.pr,h.gs,h.JQ,h.gt,h.ge,h.tq,h.tc,h.nl⟩
 ·rcases List.mem_append.1 d with q | q
  ·exact h.sit s q
  ·obtain rfl:=List.mem_singleton.1 q;exact j
 ·rcases List.mem_append.1 d with q | q
  ·exact h.sgl s q
  ·obtain rfl:=List.mem_singleton.1 q;exact t
theorem RC.nilsc{F:Fg}{u:Value}{nm:AE}{d:Pl.A9}{v:PV}{a:List PF}{ns:List AE}(h:RC M w F u (.mk .name nm d v a ns) []){sc:List (List AE)}(f:scF sc nm=none):RC M w F u (.mk .name nm d v a ns) sc:=by
 cases h with
 | loc b c n o _ _ _ _ _ _ _ _ e _=>simp [scF] at e
 | DI b c g k _ _ _ _ _ _ i j l m _=>exact .DI b c g k nm d v a ns sc i j l m f
theorem aK4{L:Lo}{F:Fg}{W:PW}(h:FW L M O w F N W){c:Nat}(j:F.gl k=some g){gv:Value}(a:w.heap[g]?=some (.cells #[gv,.int .i64 (c:Int)] TGlb (0,0))){b:Option Addr}{cap ko:Nat}{co:Array Value}(d:Sl M w TCod 1 (.slice b us.length cap) us.length us)(l:∀u∈us,∃k c,u=fnV k c)(s:us.length<=2000) :Calls prog 204 #[gv,.slice b us.length cap,fnV ko co] w (KnQ w us (fnV ko co) gv)/\((∃T x,gv=.iface T x)\/gv=.nilIface):=by
 obtain⟨_,m,v,y,_,q,_,n⟩:=h.gat k g j;rw [a] at q;simp only [o_,Obj.cells.injEq,Array.mk.injEq,List.cons.injEq,and_true] at q;obtain⟨⟨rfl,_⟩,_⟩:=q;rcases n with⟨_,rfl⟩ | ⟨i,p,_,_,o⟩
 ·exact⟨aHS _ _ _ _ _ _ _ _ Tryz.fp_nil (fun x q=>by cases q),.inr rfl⟩
 ·rcases o.isPr h.tq h.tc with⟨r,t,_,_,_,rfl⟩ | ⟨⟨T,x,rfl,e⟩,f⟩
  ·exact⟨aLO M _ r us ko co b cap d l (by omega),.inl ⟨_,_,rfl⟩⟩
  ·exact⟨aHS _ _ _ _ _ _ _ _ e f,.inl ⟨_,_,rfl⟩⟩
def Xt(a b k:Nat):Prop:=k=a\/k=b
theorem sx_set(c:X b)(o:Nat)(v:Value):Stp X w X (w.setCell ⟨b,o,none⟩ v):=by
 refine⟨rfl,rfl,rfl,by simp [World.setCell],fun k _ a=>⟨Below.heap_setCell _ _ _ _ (fun e=>a ?_),a⟩⟩;have d:k=b:=by simpa using e
 rw [d];exact c
theorem gl_fin{L:Lo}{M3:Nat->Prop}{w3 wc w4 wy:World}{F G:Fg}{W:PW}(c:Cmp L M O P w F W M3 w3 G N){ch:Nat}{m:AE}(K:G.s.ns[k]?=some m)(Z:G.gl k=some g){gv:Value}(A:w3.heap[g]?=some (.cells #[gv,.int .i64 (ch:Int)] TGlb (0,0))){b8:Nat}{ot mv:Value}{z:List PF}{sc:List (List AE)}(Q:Bx M3 w3 b7 (pt g) TGlP)(R:Bx M3 w3 b5 ar TCds)(S:Bx M3 w3 b8 ot TCod)(hf:scF sc m=none)(B:Sl M3 w3 TCod 1 ar us.length us)(T:us.length=z.length)(U:∀(i:Nat)(u:Value)(x:PF),us[i]?=some u->z[i]?=some x->RC M3 w3 G u x sc)(h5:z.length<=2000)(nm:AE)(d:Pl.A9)(v:PV)(ns:List AE)(V:Pl.A9)(v':PV)(p:List PF)(r:List AE)
  (ho:RC M3 w3 G ot (.mk .call nm d v (.mk .name m V v' p r::z) ns) sc) (f:Below w3.heap.size w3 wc) (h:Below wc.heap.size wc w4) (X:∃k c,mv=fnV k c) (hM:∀M:Nat->Prop,(∀k,M k->k<wc.heap.size)->MadeV M w4 us ot gv mv) {mb sb:Nat} (a:Stp (Xt mb sb) w4 (Xt mb sb) wy) (k1:w3.heap.size<=mb) (k2:w3.heap.size<=sb) (m1:mb<wc.heap.size\/w4.heap.size<=mb) (m2:sb<wc.heap.size\/w4.heap.size<=sb) (e1:wy.heap[mb]?=some (.cells #[mv] TCod (0,0))) (e2:wy.heap[sb]?=some (.cells #[.int .i64 (ch:Int)] TInt (0,0))) :
  CmpQ L M O P w F W (.mk .call nm d v (.mk .name m V v' p r::z) ns) sc N (.returned (fnV 205 #[pt sb,pt b7,pt b5,pt b8,pt mb])) wy:=by
 have C:Below w3.heap.size w3 wy:=⟨a.os.trans (h.os.trans f.os),a.tape.trans (h.tape.trans f.tape),a.output.trans (h.output.trans f.output),t_ f.size (t_ h.size a.size),fun j n=>by
  have j1:=f.size;have j2:=h.size
  exact(a.block j (by omega) (fun x=>by rcases x with x | x<;>omega)).1.trans ((h.block j (by omega)).trans (f.block j n))⟩
 obtain⟨f1,o⟩:=c.fw.more C (Xt mb sb) (fun j x=>by rcases x with rfl | rfl<;>assumption) (fun j x=>by
  rcases x with rfl | rfl
  ·exact aB e1
  ·exact aB e2)
 have t:MadeV (Mn M3 (Xt mb sb)) wy us ot gv mv:=by
  refine(hM (fun j=>Mn M3 (Xt mb sb) j/\j<wc.heap.size) (fun j x=>x.2)).go ⟨a.os,a.tape,a.output,a.size,fun j n K=>?_⟩
  have D:¬Mn M3 (Xt mb sb) j:=fun x=>K ⟨x,by
   have j1:=f.size;rcases x with x | x | x
   ·have:=c.mlt j x;omega
   ·omega
   ·omega⟩
  exact⟨(a.block j n (fun x=>D (.inr x))).1,D⟩
 have Y:=(C.block g (aB A)).trans A;have E:SitAt (Mn M3 (Xt mb sb)) wy ⟨mb,sb,g,ar,ot⟩:=⟨.inr (.inl rfl),.inr (.inr rfl),us,mv,gv,ch,ch,e1,e2,Y,n_,B.AQ o,by omega,X,fun _=>t⟩
 have H:∀s∈G.cs,s.mb<w3.heap.size/\s.sb<w3.heap.size:=fun s y=>by obtain⟨_,_,_,_,_,I,J,_⟩:=(c.fw.sit s y).ex;exact⟨aB I,aB J⟩
 have f2:=f1.addC E (fun s y e=>by have:=(H s y).1;simp only at e;omega) (fun s y e=>by have:=(H s y).2;simp only at e;omega) ⟨k,Z⟩;have l:=Fg.addC_le G ⟨mb,sb,g,ar,ot⟩;refine⟨_,_,_,rfl,⟨c.AQ.trans o,c.le.trans l,c.s,f2,fun b hb=>(C.block b (c.fw.olt hb)).trans (c.oth b hb),fun j n=>(C.block j (c.cr j n).lt).trans (c.row j n),fun j n=>?_⟩,.callG b7 b5 b8 k ⟨mb,sb,g,ar,ot⟩ us nm d v z ns m V v' p r sc (List.mem_append_right _ (List.mem_singleton.2 rfl)) (Q.go o) (R.go o) (S.go o) K Z hf (B.AQ o) T (fun i u x I J=>(U i u x I J).go o l) h5 (ho.go o l)⟩;obtain⟨I,J,q3⟩:=(c.cr j n).below C;refine⟨.inl I,J,fun s y=>?_⟩;rcases List.mem_append.1 y with q | q
 ·exact q3 s q
 ·obtain rfl:=List.mem_singleton.1 q;have:=(c.cr j n).lt;exact⟨by simp only;omega,by simp only;omega⟩
theorem Cw.pre{L:Lo}{M4 M5:Nat->Prop}{w4 w5 wy:World}{F a b:Fg}{W:PW}{N':Nat}{l:List Nat}(c:Cmp L M O P w F W M4 w4 a N)(h:Cw L M4 O P w4 a W M5 w5 b N' l wy):Cw L M O P w F W M5 w5 b N' l wy:=⟨c.trans h.cmp,h.AQ,h.cr,h.ne⟩
def BoxF(b4 b5:Nat)(nv kv ar:Value)(w:World):Prop:=w.heap[b4]?=some (.cells #[nv,kv] B6 (0,0))/\w.heap[b5]?=some (.cells #[ar] TCds (0,0))
theorem BoxF.alloc(h:BoxF b4 b5 nv kv ar w):BoxF b4 b5 nv kv ar (w.alloc o):=⟨aF5 h.1,aF5 h.2⟩
theorem BoxF.drew(h:BoxF b4 b5 nv kv ar w):BoxF b4 b5 nv kv ar w.drew:=h
theorem BoxF.set{o:Nat}(a:b4≠b)(c:b5≠b)(h:BoxF b4 b5 nv kv ar w):BoxF b4 b5 nv kv ar (w.setCell ⟨b,o,none⟩ v):=⟨aGA a h.1,aGA c h.2⟩
def Mid(w4:World)(l:List Nat)(w5:World)(l':List Nat):Prop:=(l'=l/\w5=w4)\/(l=[]/\∃z,l'=[w4.heap.size]/\w5=w4.alloc (.cells #[z] TCod))
def Fi(l:List Nat)(w5 w6:World)(b8:Nat)(u:Value):Prop:=(l=[]/\b8=w5.heap.size/\w6=w5.alloc (.cells #[u] TCod))\/(l=[b8]/\w6=w5.setCell ⟨b8,0,none⟩ u)
def Gl2(L:Lo)(M O P:Nat->Prop)(w:World)(F:Fg)(W:PW)(N:Nat)(f:PF)(sc:List (List AE))(k g b5 b7:Nat)(ar:Value)(us:List Value)(ks:List PF)(b8:Nat)(wx:World):Prop:=∃M6 G ko co,Cmp L M O P w F W M6 wx G N/\RC M6 wx G (fnV ko co) f sc/\G.gl k=some g/\Bx M6 wx b8 (fnV ko co) TCod/\Bx M6 wx b5 ar TCds/\Bx M6 wx b7 (pt g) TGlP/\Sl M6 wx TCod 1 ar us.length us/\∀(i:Nat)(u:Value)(x:PF),us[i]?=some u->ks[i]?=some x->RC M6 wx G u x sc
theorem gl2_fin{L:Lo}{M5:Nat->Prop}{w5 w6:World}{F G:Fg}{W:PW}{f:PF}{sc:List (List AE)}{b8 ko:Nat}{co:Array Value}{m:List PF}{l:List Nat}(h:Cw L M O P w F W M5 w5 G N l w5)(n:RC M5 w5 G (fnV ko co) f sc)(o:G.gl k=some g)(p:Bx M5 w5 b5 ar TCds)(q:Bx M5 w5 b7 (pt g) TGlP)(a:Sl M5 w5 TCod 1 ar us.length us)(d:∀(i:Nat)(u:Value)(x:PF),us[i]?=some u->m[i]?=some x->RC M5 w5 G u x sc)(v:∀b∈l,∃z,w5.heap[b]?=some (.cells #[z] TCod (0,0)))(y:Fi l w5 w6 b8 (fnV ko co)):Gl2 L M O P w F W N f sc k g b5 b7 ar us m b8 w6:=by
 have r:=Fg.Le.refl G;rcases y with⟨rfl,rfl,rfl⟩ | ⟨rfl,rfl⟩
 ·have t:Below w5.heap.size w5 (w5.alloc (.cells #[fnV ko co] TCod)):=b_;have s:=Stp.AA (M:=M5) t;exact⟨M5,G,ko,co,h.cmp.below t,n.go s r,o,aGH h.cmp.mlt (aF7 rfl),p.go s,q.go s,a.AQ s,fun i u x e j=>(d i u x e j).go s r⟩
 ·obtain⟨z,A⟩:=v b8 (by simp);obtain⟨c,s⟩:=(h.set (b:=b8) (by simp) 0 (fnV ko co)).shut (by simp);exact⟨_,G,ko,co,c,n.go s r,o,⟨Ml.not (by simp),aGC A⟩,p.go s,q.go s,a.AQ s,fun i u x e j=>(d i u x e j).go s r⟩
theorem aI9{B:Nat}(h:Below B a w){o:Nat}(d:B<=b)(v:Value):Below B a (w.setCell ⟨b,o,none⟩ v):=⟨h.os,h.tape,h.output,by simpa [World.setCell] using h.size,fun k c=>(Below.heap_setCell _ _ _ _ (fun e=>by have f:k=b:=(by simpa using e);omega)).trans (h.block k c)⟩
theorem aHL(h:Stp X a X w):Stp X a X (w.alloc o):=h.trans (Stp.AA b_)
theorem aHK(h:Stp X a X w):Stp X a X w.drew:=h.trans (Stp.AA (r_.drew))
theorem aHJ{o:Nat}(h:Stp X a X w)(c:X b):Stp X a X (w.setCell ⟨b,o,none⟩ v):=h.trans (sx_set c o v)
theorem aGB{B:Nat}(h:Below B a w)(b:B<=a.heap.size):Below B a (w.alloc o):=h.alloc (t_ b h.size) _
def MidQ(L:Lo)(M O P:Nat->Prop)(w:World)(F:Fg)(W:PW)(N:Nat)(f:PF)(sc:List (List AE))(k g b4 b5 b7:Nat)(nv kv ar:Value)(us:List Value)(ks:List PF)(l:List Nat)(w':World)(e:Ending)(w5:World):Prop:=∃ko co,e=.returned (.func (.func ko) #[] co)/\BoxF b4 b5 nv kv ar w5/\(∀b∈l,w5.heap[b]?=w'.heap[b]?)/\w'.heap.size<=w5.heap.size/\∀w6 b8,Fi l w5 w6 b8 (fnV ko co)->Gl2 L M O P w F W N f sc k g b5 b7 ar us ks b8 w6
def NamQ(L:Lo)(M O P:Nat->Prop)(w:World)(F:Fg)(W:PW)(N:Nat)(f:PF)(sc:List (List AE))(k g b4 b5 b7:Nat)(nv kv ar:Value)(us:List Value)(ks:List PF)(l:List Nat)(w':World)(e:Ending)(w4:World):Prop:=∃ku cu,e=.returned (.func (.func ku) #[] cu)/\BoxF b4 b5 nv kv ar w4/\(∀b∈l,w4.heap[b]?=w'.heap[b]?)/\w'.heap.size<=w4.heap.size/\∀w5 l',Mid w4 l w5 l'->Calls prog 193 #[.func (.func ku) #[] cu,ar] w5 (MidQ L M O P w F W N f sc k g b4 b5 b7 nv kv ar us ks l' w5)
theorem p_namQ{L:Lo}{MC:Nat->Prop}{wC:World}{F G:Fg}{W:PW}(c:Cmp L M O P w F W MC wC G N){a:AE}(hn:G.s.ns[k]?=some a)(hg:G.gl k=some g){j:List PF}{sc:List (List AE)}(h4:Bk MC wC b4 #[.string ⟨a.toArray⟩,.int .i64 (k:Int)] B6)(X:Bx MC wC b5 (.slice (some ⟨rb,0,none⟩) j.length j.length) TCds)(h7:Bx MC wC b7 (pt g) TGlP)(Y:rb<wC.heap.size)(I:Sl MC wC TCod 1 (.slice (some ⟨rb,0,none⟩) j.length j.length) us.length us)(Z:us.length=j.length)(J:∀(i:Nat)(u:Value)(x:PF),us[i]?=some u->j[i]?=some x->RC MC wC G u x sc)(hf:scF sc a=none)(hl:j.length+1<=2000)(hN:N+1<=9000000000000000000)(nm:AE)(d:Pl.A9)(v:PV)(ns:List AE)(K:Pl.A9)(v':PV)(p:List PF)(q:List AE)(w':World)(l:List Nat)(hA:Ah wC w' l)(hT:∀b∈l,∃z,w'.heap[b]?=some (.cells #[z] TCod (0,0))) :Calls prog 165 #[.pointer (some ⟨L.sb,0,none⟩),.agg #[.string ⟨a.toArray⟩,.int .i64 (k:Int)],.pointer none] w' (NamQ L M O P w F W (N+1) (.mk .call nm d v (.mk .name a K v' p q::j) ns) sc k g b4 b5 b7 (.string ⟨a.toArray⟩) (.int .i64 (k:Int)) (.slice (some ⟨rb,0,none⟩) j.length j.length) us j l w'):=by
 obtain⟨f,s,cr,_⟩:=hA.go c.fw c.cr;refine(aJX f cr hn (.nil) (by simp) hN K v' p q).mono (fun e H Q=>?_);have aa:=Q;obtain⟨u,M4,G4,rfl,U,hu⟩:=aa;obtain⟨ku,cu,rfl⟩:=hu.func;have h:=Cw.of hA c.fw c.cr U;have s4:=h.cmp.AQ;have l4:=h.cmp.le;refine⟨ku,cu,rfl,⟨(h4.go s4).2,(X.go s4).2⟩,fun b n=>U.row b (.inr n),U.AQ.size,fun m y hm=>?_⟩;have ab:=hu.nilsc hf;have R:∀(o P5:Nat->Prop)(m:World),FW L o O m G4 (N+1) W->Stp M4 H o m->(∀k,P5 k->Cr o m G4 k)->Calls prog 193 #[fnV ku cu,.slice (some ⟨rb,0,none⟩) j.length j.length] m (CmpQ L o O P5 m G4 W (.mk .call nm d v (.mk .name a K v' p q::j) ns) sc (N+1)):=fun o P5 m f5 s5 ac=>by have t:=s4.trans s5;exact aI2 f5 ac (ab.go s5 (Fg.Le.refl _)) (l_ Y t.size) (I.AQ t) Z (fun i u x q1 q2=>(J i u x q1 q2).go t l4) hl nm d v ns
 have S:∀(o:Nat->Prop)(C:Fg)(m r:World)(y:List Nat)(A:Nat)(B:Array Value),Cw L MC O P wC G W o r C (N+1) y r->RC o r C (fnV A B) (.mk .call nm d v (.mk .name a K v' p q::j) ns) sc->(∀b∈y,r.heap[b]?=m.heap[b]?)->(∀b∈y,∃z,m.heap[b]?=some (.cells #[z] TCod (0,0)))->m.heap.size<=r.heap.size->MidQ L M O P w F W (N+1) (.mk .call nm d v (.mk .name a K v' p q::j) ns) sc k g b4 b5 b7 (.string ⟨a.toArray⟩) (.int .i64 (k:Int)) (.slice (some ⟨rb,0,none⟩) j.length j.length) us j y m (.returned (fnV A B)) r:=fun o C m r y A B hc D V hz ad=>by have t:=hc.cmp.AQ;have lt:=hc.cmp.le;exact⟨A,B,rfl,⟨(h4.go t).2,(X.go t).2⟩,V,ad,fun w7 b8 ae=>gl2_fin (Cw.pre c hc) D (lt.gl _ _ hg) (X.go t) (h7.go t) (I.AQ t) (fun i u x q1 q2=>(J i u x q1 q2).go t lt) (fun b n=>by rw [V b n];exact hz b n) ae⟩
 rcases hm with⟨rfl,rfl⟩ | ⟨rfl,z,rfl,rfl⟩
 ·refine(R M4 (fun k=>P k\/k∈y) m h.cmp.fw (Stp.refl _ _) h.all).mono (fun e r Q=>?_);obtain⟨v0,o,C,rfl,E,D⟩:=Q;obtain⟨A,B,rfl⟩:=D.func;refine S o C m r y A B (h.next E) D (fun b n=>E.row b (.inr n)) (fun b n=>?_) E.AQ.size;obtain⟨z,hz⟩:=hT b n;exact⟨z,(U.row b (.inr n)).trans hz⟩
 ·have T:Ah H (H.alloc (.cells #[z] TCod)) [H.heap.size]:=⟨by simp,b_,fun k V=>by
   obtain rfl:=List.mem_singleton.1 V
   exact⟨n_,z,TCod,heap_alloc_new H _,.inl rfl⟩⟩
  obtain⟨f2,s2,af,_⟩:=T.go h.cmp.fw h.cmp.cr;refine(R _ _ _ f2 s2 af).mono (fun e r Q=>?_);obtain⟨v0,o,C,rfl,E,D⟩:=Q;obtain⟨A,B,rfl⟩:=D.func;refine S o C _ r _ A B (Cw.pre h.cmp (Cw.of T h.cmp.fw h.cmp.cr E)) D (fun b n=>E.row b (.inr n)) (fun b n=>?_) E.AQ.size;obtain rfl:=List.mem_singleton.1 n;exact⟨z,heap_alloc_new H _⟩
end
end Go.Proofs.YtieooapcfpimlaaGreatDoor
