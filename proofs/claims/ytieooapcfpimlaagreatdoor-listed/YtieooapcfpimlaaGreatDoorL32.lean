import Derived.Test.YtieooapcfpimlaaGreatDoorL23
namespace Go.Proofs.YtieooapcfpimlaaGreatDoor
open Go.Proofs.Tryz
open Pl (PV PW PF CW AE Env AO)
section
open Go.RowKit Go.Maps
variable {w w':World} {M M' O:Nat->Prop} {v:Value} {b N k:Nat} {T:TypeId}
def TPlc:TypeId:=356
def TFMc:TypeId:=309
def TFPi:TypeId:=336
def TGlb:TypeId:=94
def TScp:TypeId:=362
def TFPr:TypeId:=347
def TFCo:TypeId:=359
def TCod:TypeId:=313
def TFrm:TypeId:=334
def TFSe:TypeId:=91
def TCds:TypeId:=323
def TTak:TypeId:=364
def TTkA:TypeId:=366
def TTk2:TypeId:=373
def TInt:TypeId:=3
def TPrm:TypeId:=86
def TGlP:TypeId:=92
def TPlP:TypeId:=337
def TVls:TypeId:=293
def TSet:TypeId:=205
abbrev pt(b:Nat):Value:=.pointer (some ⟨b,0,none⟩)
abbrev fnV(k:Nat)(cap:Array Value):Value:=.func (.func k) #[] cap
def Bx(M:Nat->Prop)(w:World)(b:Nat)(v:Value)(T:TypeId):Prop:=¬M b/\w.heap[b]?=some (.cells #[v] T (0,0))
theorem Bx.go(h:Bx M w b v T)(a:Stp M w M' w'):Bx M' w' b v T:=by obtain⟨c,d⟩:=a.block b (aB h.2) h.1;exact⟨d,c.trans h.2⟩
theorem Bx.cell(h:Bx M w b v T):w.cell? ⟨b,0,none⟩=some v:=aA h.2 0
def Bk(M:Nat->Prop)(w:World)(b:Nat)(cs:Array Value)(T:TypeId):Prop:=¬M b/\w.heap[b]?=some (.cells cs T (0,0))
theorem Bk.go{cs:Array Value}(h:Bk M w b cs T)(a:Stp M w M' w'):Bk M' w' b cs T:=by obtain⟨c,d⟩:=a.block b (aB h.2) h.1;exact⟨d,c.trans h.2⟩
def scF:List (List AE)->AE->Option (Nat×Nat)
 | [],_=>none
 | ns::r,nm=>if nm∈ns then some (0,ns.idxOf nm) else(scF r nm).map fun p=>(p.1+1,p.2)
structure Site where
 mb:Nat
 sb:Nat
 g:Nat
 ar:Value
 ot:Value
structure Fg where
 s:Sg
 gl:Nat->Option Nat
 gn:Nat
 cs:List Site
 pr:List (PF×Env)
structure Fg.Le(F G:Fg):Prop where
 s:Sg.Le F.s G.s
 gl:∀k b,F.gl k=some b->G.gl k=some b
 cs:F.cs <+: G.cs
 pr:F.pr <+: G.pr
theorem Fg.Le.refl(F:Fg):Fg.Le F F:=⟨Sg.Le.refl _,fun _ _ h=>h,List.prefix_refl _,List.prefix_refl _⟩
theorem Fg.Le.trans{a b c:Fg}(h:Fg.Le a b)(k:Fg.Le b c):Fg.Le a c:=⟨h.s.trans k.s,fun i x d=>k.gl i x (h.gl i x d),h.cs.trans k.cs,h.pr.trans k.pr⟩
inductive EnvF (M:Nat->Prop) (w:World) (s:Sg):Value->Env->List (List AE)->Prop
 | nil:EnvF M w s (.pointer none) [] []
 | cons (b:Nat) (up:Value) (ao:Option Addr) (cap base:Nat) (ns:List AE) (env:Env) (sc:List (List AE))
   (hb:Bk M w b #[.slice ao ns.length cap,up] TPlc) (hcap:ns.length<=cap) (hnd:ns.Nodup)
   (hp:∀i,i<ns.length->∃g off,ao=some ⟨g,off,none⟩/\s.lp[base+i]?=some (some (g,off+i)))
   (h:EnvF M w s up env sc):EnvF M w s (.pointer (some ⟨b,0,none⟩)) (env++Pl.C1 ns base) (ns::sc)
theorem EnvF.go{s t:Sg}(m:Stp M w M' w')(l:Sg.Le s t){e:Env}{sc:List (List AE)}(h:EnvF M w s v e sc):EnvF M' w' t v e sc:=by
 induction h with
 | nil=>exact .nil
 | cons b n o d a p f sc q c j r _ u =>
  exact .cons b n o d a p f sc (q.go m) c j (fun i x=>by
   obtain⟨g,k,y,z⟩:=r i x
   exact⟨g,k,y,bS l.lp z⟩) u
theorem EnvF.ptr{s:Sg}{e:Env}{sc:List (List AE)}(h:EnvF M w s v e sc):∃o,v=.pointer o:=by cases h<;>exact⟨_,rfl⟩
inductive RC (M:Nat->Prop) (w:World) (F:Fg):Value->PF->List (List AE)->Prop
 | const (b:Nat) (x:Value) (nm:AE) (d:Pl.A9) (v:PV) (ks:List PF) (ns:List AE) (sc:List (List AE)) (hb:Bx M w b x B9) (hv:RV F.s x v):RC M w F (fnV 175 #[pt b]) (.mk .const nm d v ks ns) sc
 | loc (b c dp ix:Nat) (nm:AE) (d:Pl.A9) (v:PV) (ks:List PF) (ns:List AE) (sc:List (List AE)) (hb:Bx M w b (.int .i64 (dp:Int)) TInt) (hc:Bx M w c (.int .i64 (ix:Int)) TInt) (hf:scF sc nm=some (dp,ix)) (hd:dp<=1100):RC M w F (fnV 177 #[pt b,pt c]) (.mk .name nm d v ks ns) sc
 | DI (b c g k:Nat) (nm:AE) (d:Pl.A9) (v:PV) (ks:List PF) (ns:List AE) (sc:List (List AE)) (hb:Bx M w b (pt g) TGlP) (hc:Bk M w c #[.string ⟨nm.toArray⟩,.int .i64 (k:Int)] B6) (hn:F.s.ns[k]?=some nm) (hg:F.gl k=some g) (hf:scF sc nm=none):RC M w F (fnV 180 #[pt b,pt c]) (.mk .name nm d v ks ns) sc
 | iff (b1 b2 b3 b4 b5:Nat) (u v1 v2:Value) (x y z:PF) (nm:AE) (d:Pl.A9) (v:PV) (ns:List AE) (sc:List (List AE)) (h1:Bx M w b1 (.int .i64 1) TInt) (h2:Bx M w b2 u TCod) (h3:Bx M w b3 (fnV 182 #[pt b4,pt b5]) TTak) (h4:Bx M w b4 v2 TCod) (h5:Bx M w b5 v1 TCod) (hu:RC M w F u x sc) (hy:RC M w F v1 y sc) (hz:RC M w F v2 z sc):RC M w F (fnV 197 #[pt b1,pt b2,pt b3]) (.mk .iff nm d v [x,y,z] ns) sc
 | begin (b:Nat) (sl:Value) (us:List Value) (nm:AE) (d:Pl.A9) (v:PV) (ks:List PF) (ns:List AE) (sc:List (List AE)) (hb:Bx M w b sl TCds) (h1:Sl M w TCod 1 sl us.length us) (h2:us.length=ks.length) (h3:∀(i:Nat)(u:Value)(x:PF),us[i]?=some u->ks[i]?=some x->RC M w F u x sc) (h4:1<=ks.length) (h5:ks.length<=2000):RC M w F (fnV 183 #[pt b]) (.mk .begin nm d v ks ns) sc
 | setL (b1 b2 b3 b4 b5 dp ix:Nat) (u:Value) (x:PF) (nm:AE) (d:Pl.A9) (v:PV) (ns:List AE) (sc:List (List AE)) (h1:Bx M w b1 (.int .i64 1) TInt) (h2:Bx M w b2 u TCod) (h3:Bx M w b3 (fnV 185 #[pt b4,pt b5]) TTak) (h4:Bx M w b4 (.int .i64 (dp:Int)) TInt) (h5:Bx M w b5 (.int .i64 (ix:Int)) TInt) (hf:scF sc nm=some (dp,ix)) (hd:dp<=1100) (hu:RC M w F u x sc):RC M w F (fnV 197 #[pt b1,pt b2,pt b3]) (.mk .set nm d v [x] ns) sc
 | setG (b1 b2 b3 b4 b5 g k:Nat) (a u:Value) (x:PF) (nm:AE) (d:Pl.A9) (v:PV) (ns:List AE) (sc:List (List AE)) (h1:Bx M w b1 (.int .i64 1) TInt) (h2:Bx M w b2 u TCod) (h3:Bx M w b3 (fnV 186 #[pt b4,pt b5]) TTak) (h4:Bx M w b4 (pt g) TGlP) (h5:Bk M w b5 #[.string ⟨nm.toArray⟩,.int .i64 (k:Int),a] TSet) (hn:F.s.ns[k]?=some nm) (hg:F.gl k=some g) (hf:scF sc nm=none) (hu:RC M w F u x sc):RC M w F (fnV 197 #[pt b1,pt b2,pt b3]) (.mk .set nm d v [x] ns) sc
 | define (b1 b2 b3 b4 g k:Nat) (u:Value) (x:PF) (nm:AE) (d:Pl.A9) (v:PV) (ns:List AE) (sc:List (List AE)) (h1:Bx M w b1 (.int .i64 1) TInt) (h2:Bx M w b2 u TCod) (h3:Bx M w b3 (fnV 188 #[pt b4]) TTak) (h4:Bx M w b4 (pt g) TGlP) (hn:F.s.ns[k]?=some nm) (hg:F.gl k=some g) (hu:RC M w F u x sc):RC M w F (fnV 197 #[pt b1,pt b2,pt b3]) (.mk .define nm d v [x] ns) sc
 | lambda (b1 b2:Nat) (u:Value) (x:PF) (nm:AE) (d:Pl.A9) (v:PV) (ns:List AE) (sc:List (List AE)) (h1:Bx M w b1 (.int .i64 (ns.length:Int)) TInt) (h2:Bx M w b2 u TCod) (hnd:ns.Nodup) (hu:RC M w F u x (ns::sc)):RC M w F (fnV 190 #[pt b1,pt b2]) (.mk .lambda nm d v [x] ns) sc
 | callA (b1 b2:Nat) (sl:Value) (us:List Value) (nm:AE) (d:Pl.A9) (v:PV) (ks:List PF) (ns:List AE) (sc:List (List AE)) (hb:Bx M w b1 sl TCds) (hb2:Bx M w b2 (fnV 207 #[]) TTkA) (h1:Sl M w TCod 1 sl us.length us) (h2:us.length=ks.length) (h3:∀(i:Nat)(u:Value)(x:PF),us[i]?=some u->ks[i]?=some x->RC M w F u x sc) (h4:1<=ks.length) (h5:ks.length<=2000):RC M w F (fnV 209 #[pt b1,pt b2]) (.mk .call nm d v ks ns) sc
 | callL (b1 b2 b3 b4:Nat) (sl u0:Value) (us:List Value) (nm:AE) (d:Pl.A9) (v:PV) (ks:List PF) (ns:List AE) (nm':AE) (d':Pl.A9) (v':PV) (x:PF) (ns':List AE) (sc:List (List AE)) (hb:Bx M w b1 sl TCds) (hb2:Bx M w b2 (fnV 201 #[pt b3,pt b4]) TTkA) (hb3:Bx M w b3 (.int .i64 (ns'.length:Int)) TInt) (hb4:Bx M w b4 u0 TCod) (hnd:ns'.Nodup) (h0:RC M w F u0 x (ns'::sc)) (h1:Sl M w TCod 1 sl us.length us) (h2:us.length=ks.length) (h3:∀(i:Nat)(u:Value)(x:PF),us[i]?=some u->ks[i]?=some x->RC M w F u x sc) (h5:ks.length<=2000):RC M w F (fnV 202 #[pt b1,pt b2]) (.mk .call nm d v (.mk .lambda nm' d' v' [x] ns'::ks) ns) sc
 | callG (b1 b2 b3 k:Nat) (st:Site) (us:List Value) (nm:AE) (d:Pl.A9) (v:PV) (ks:List PF) (ns:List AE) (nm':AE) (d':Pl.A9) (v':PV) (ks':List PF) (ns':List AE) (sc:List (List AE)) (hs:st∈F.cs) (hb1:Bx M w b1 (pt st.g) TGlP) (hb2:Bx M w b2 st.ar TCds) (hb3:Bx M w b3 st.ot TCod) (hn:F.s.ns[k]?=some nm') (hg:F.gl k=some st.g) (hf:scF sc nm'=none) (h1:Sl M w TCod 1 st.ar us.length us) (h2:us.length=ks.length) (h3:∀(i:Nat)(u:Value)(x:PF),us[i]?=some u->ks[i]?=some x->RC M w F u x sc) (h5:ks.length<=2000) (ho:RC M w F st.ot (.mk .call nm d v (.mk .name nm' d' v' ks' ns'::ks) ns) sc):RC M w F (fnV 205 #[pt st.sb,pt b1,pt b2,pt b3,pt st.mb]) (.mk .call nm d v (.mk .name nm' d' v' ks' ns'::ks) ns) sc
theorem aKZ{α:Type}{a b:List α}(h:a <+: b){x:α}(c:x∈a):x∈b:=by obtain⟨t,rfl⟩:=h;exact List.mem_append_left _ c
theorem RC.go{F G:Fg}(e:Stp M w M' w')(l:Fg.Le F G){f:PF}{sc:List (List AE)}(h:RC M w F v f sc):RC M' w' G v f sc:=by
 induction h with
 | const b x i d v r j sc t hv=>exact .const b x i d v r j sc (t.go e) (hv.le l.s)
 | loc b c S T i d v r j sc t U D V=>exact .loc b c S T i d v r j sc (t.go e) (U.go e) D V
 | DI b c g k i d v r j sc t U H I D=>exact .DI b c g k i d v r j sc (t.go e) (U.go e) (bS l.s.ns H) (l.gl _ _ I) D
 | iff o p A E Q u v1 v2 x y z i d v j sc m n J B s _ _ _ i1 i2 i3=>exact .iff o p A E Q u v1 v2 x y z i d v j sc (m.go e) (n.go e) (J.go e) (B.go e) (s.go e) i1 i2 i3
 | begin b R K i d v r j sc t m n _ B s q=>exact .begin b R K i d v r j sc (t.go e) (m.AQ e) n q B s
 | setL o p A E Q S T u x i d v j sc m n J B s D V _ q=>exact .setL o p A E Q S T u x i d v j sc (m.go e) (n.go e) (J.go e) (B.go e) (s.go e) D V q
 | setG o p A E Q g k a u x i d v j sc m n J B s H I D _ q=>exact .setG o p A E Q g k a u x i d v j sc (m.go e) (n.go e) (J.go e) (B.go e) (s.go e) (bS l.s.ns H) (l.gl _ _ I) D q
 | define o p A E g k u x i d v j sc m n J B H I _ q=>exact .define o p A E g k u x i d v j sc (m.go e) (n.go e) (J.go e) (B.go e) (bS l.s.ns H) (l.gl _ _ I) q
 | lambda o p u x i d v j sc m n L _ q=>exact .lambda o p u x i d v j sc (m.go e) (n.go e) L q
 | callA o p R K i d v r j sc t C m n _ B s q=>exact .callA o p R K i d v r j sc (t.go e) (C.go e) (m.AQ e) n q B s
 | callL o p A E R u0 K i d v r j N W X x O sc t C P Y L _ m n _ s i0 q=>exact .callL o p A E R u0 K i d v r j N W X x O sc (t.go e) (C.go e) (P.go e) (Y.go e) L i0 (m.AQ e) n q s
 | callG o p A k st K i d v r j N W X Z O sc aa ab C P H I D m n _ s _ q io=>exact .callG o p A k st K i d v r j N W X Z O sc (aKZ l.cs aa) (ab.go e) (C.go e) (P.go e) (bS l.s.ns H) (l.gl _ _ I) D (m.AQ e) n q s io
theorem RC.func{F:Fg}{f:PF}{sc:List (List AE)}(h:RC M w F v f sc):∃k a,v=fnV k a:=by cases h<;>exact⟨_,_,rfl⟩
inductive RT (M:Nat->Prop) (w:World) (F:Fg):Value->CW->List (List AE)->Prop
 | iff (b4 b5:Nat) (v1 v2:Value) (x y z:PF) (fr:CW) (sc:List (List AE)) (hk:fr.form.k=.iff) (hf:fr.form.ks=[x,y,z]) (h4:Bx M w b4 v2 TCod) (h5:Bx M w b5 v1 TCod) (hy:RC M w F v1 y sc) (hz:RC M w F v2 z sc):RT M w F (fnV 182 #[pt b4,pt b5]) fr sc
 | setL (b4 b5 dp ix:Nat) (fr:CW) (sc:List (List AE)) (hk:fr.form.k=.set) (h4:Bx M w b4 (.int .i64 (dp:Int)) TInt) (h5:Bx M w b5 (.int .i64 (ix:Int)) TInt) (hf:scF sc fr.form.nm=some (dp,ix)) (hd:dp<=1100):RT M w F (fnV 185 #[pt b4,pt b5]) fr sc
 | setG (b4 b5 g k:Nat) (a:Value) (fr:CW) (sc:List (List AE)) (hk:fr.form.k=.set) (h4:Bx M w b4 (pt g) TGlP) (h5:Bk M w b5 #[.string ⟨fr.form.nm.toArray⟩,.int .i64 (k:Int),a] TSet) (hn:F.s.ns[k]?=some fr.form.nm) (hg:F.gl k=some g) (hf:scF sc fr.form.nm=none):RT M w F (fnV 186 #[pt b4,pt b5]) fr sc
 | define (b4 g k:Nat) (fr:CW) (sc:List (List AE)) (hk:fr.form.k=.define) (h4:Bx M w b4 (pt g) TGlP) (hn:F.s.ns[k]?=some fr.form.nm) (hg:F.gl k=some g):RT M w F (fnV 188 #[pt b4]) fr sc
 | one (b k:Nat) (t:AE) (fr:CW) (sc:List (List AE)) (hk:fr.form.k=.call) (hl:fr.form.ks.length=2) (hg:fr.B8=[.AZ t]) (hp:fr.pos=2) (ht:AO[k]?=some t) (h12:k<12) (hb:Bx M w b (.int .i64 (k:Int)) TPrm):RT M w F (fnV 220 #[pt b]) fr sc
 | two (b c k:Nat) (t:AE) (u:Value) (x y z:PF) (fr:CW) (sc:List (List AE)) (hk:fr.form.k=.call) (hl:fr.form.ks=[x,y,z]) (hg:fr.B8=[.AZ t]) (hp:fr.pos=2) (ht:AO[k]?=some t) (h12:k<12) (hb:Bx M w b u TCod) (hc:Bx M w c (.int .i64 (k:Int)) TPrm) (hu:RC M w F u z sc):RT M w F (fnV 221 #[pt b,pt c]) fr sc
theorem RT.go{F G:Fg}(d:Stp M w M' w')(l:Fg.Le F G){f:CW}{sc:List (List AE)}(h:RT M w F v f sc):RT M' w' G v f sc:=by
 cases h with
 | iff i o D E x y z _ _ e p j q H I=>exact .iff i o D E x y z _ _ e p (j.go d) (q.go d) (H.go d l) (I.go d l)
 | setL i o J K _ _ e j q p L=>exact .setL i o J K _ _ e (j.go d) (q.go d) p L
 | setG i o g k a _ _ e j q r m p=>exact .setG i o g k a _ _ e (j.go d) (q.go d) (bS l.s.ns r) (l.gl _ _ m) p
 | define i g k _ _ e j r m=>exact .define i g k _ _ e (j.go d) (bS l.s.ns r) (l.gl _ _ m)
 | one b k t _ _ e s m A B n C=>exact .one b k t _ _ e s m A B n (C.go d)
 | two b c k t u x y z _ _ e s m A B n C N O=>exact .two b c k t u x y z _ _ e s m A B n (C.go d) (N.go d) (O.go d l)
inductive RA (M:Nat->Prop) (w:World) (F:Fg):Value->PF->Env->List (List AE)->List PV->Prop
 | any (f:PF) (env:Env) (sc:List (List AE)):RA M w F (fnV 207 #[]) f env sc []
 | lam (b3 b4 n:Nat) (u0:Value) (f x:PF) (nm':AE) (d':Pl.A9) (v':PV) (ns':List AE) (env:Env) (sc:List (List AE)) (hf:f.ks[0]?=some (.mk .lambda nm' d' v' [x] ns')) (hb3:Bx M w b3 (.int .i64 (ns'.length:Int)) TInt) (hb4:Bx M w b4 u0 TCod) (hnd:ns'.Nodup) (h0:RC M w F u0 x (ns'::sc)) (hn:F.pr[n]?=some (.mk .lambda nm' d' v' [x] ns',env)):RA M w F (fnV 201 #[pt b3,pt b4]) f env sc [.proc n]
theorem RA.go{F G:Fg}(b:Stp M w M' w')(l:Fg.Le F G){f:PF}{env:Env}{sc:List (List AE)}{a:List PV}(h:RA M w F v f env sc a):RA M' w' G v f env sc a:=by
 cases h with
 | any=>exact .any _ _ _
 | lam j k n m _ x c o p d _ _ q e g i r s=>exact .lam j k n m _ x c o p d _ _ q (e.go b) (g.go b) i (r.go b l) (bS l.pr s)
inductive FrF (M:Nat->Prop) (w:World) (F:Fg):Value->CW->Prop
 | hand (b c:Nat) (tk hv:Value) (fr:CW) (sc:List (List AE)) (hb:Bx M w b tk TTak) (hc:Bx M w c hv TPlP) (he:EnvF M w F.s hv fr.env sc) (ht:RT M w F tk fr sc):FrF M w F (fnV 199 #[pt b,pt c]) fr
 | row (b c d i j:Nat) (sl hv:Value) (us:List Value) (fr:CW) (sc:List (List AE)) (hk:fr.form.k=.begin) (hb:Bx M w b sl TCds) (hc:Bx M w c (.int .i64 (i:Int)) TInt) (hd:Bx M w d hv TPlP) (he:EnvF M w F.s hv fr.env sc) (h1:Sl M w TCod 1 sl us.length us) (h2:BY (fun u x=>RC M w F u x sc) us (fr.form.ks.drop j)) (hp:fr.pos=j+i+1) (hi:i+1<us.length) (h5:us.length<=2000):FrF M w F (fnV 200 #[pt b,pt c,pt d]) fr
 | gath (b c d e:Nat) (sl hv gv tk:Value) (us:List Value) (vs a:List PV) (fr:CW) (sc:List (List AE)) (hk:fr.form.k=.call) (hb:Bx M w b sl TCds) (hc:Bx M w c hv TPlP) (hd:Bx M w d gv TVls) (he:Bx M w e tk TTk2) (hv:EnvF M w F.s hv fr.env sc) (h1:Sl M w TCod 1 sl us.length us) (h2:BY (fun u x=>RC M w F u x sc) us (fr.form.ks.drop a.length)) (hg:FD M w F.s gv vs) (hcl:∃ao m,gv=.slice ao m m) (ha:RA M w F tk fr.form fr.env sc a) (hgot:fr.B8=a++vs) (hp:fr.pos=a.length+vs.length+1) (hi:vs.length<us.length) (h5:us.length<=2000):FrF M w F (fnV 213 #[pt b,pt c,pt d,pt e]) fr
 | two (b c k:Nat) (t:AE) (v:Value) (p:PV) (fr:CW) (hk:fr.form.k=.call) (hl:fr.form.ks.length=3) (hg:fr.B8=[.AZ t,p]) (hp:fr.pos=3) (ht:AO[k]?=some t) (h12:k<12) (hb:Bx M w b (.int .i64 (k:Int)) TPrm) (hc:Bx M w c v B9) (hv:RV F.s v p):FrF M w F (fnV 222 #[pt b,pt c]) fr
theorem FrF.go{F G:Fg}(g:Stp M w M' w')(l:Fg.Le F G){f:CW}(h:FrF M w F v f):FrF M' w' G v f:=by
 cases h with
 | hand b c z m _ q n o r A=>exact .hand b c z m _ q (n.go g) (o.go g) (r.go g l.s) (A.go g l)
 | row b c d i j B m C _ q s n o D r E H u I J=>exact .row b c d i j B m C _ q s (n.go g) (o.go g) (D.go g) (r.go g l.s) (E.AQ g) (H.mono (fun _ _ x=>x.go g l)) u I J
 | gath b c d e B m O z C P a _ q s n o D r m E H K L Q y u I J=>exact .gath b c d e B _ O z C P a _ q s (n.go g) (o.go g) (D.go g) (r.go g) (m.go g l.s) (E.AQ g) (H.mono (fun _ _ x=>x.go g l)) (K.go g l.s) L (Q.go g l) y u I J
 | two b c k t v p _ s R K u A N n o m=>exact .two b c k t v p _ s R K u A N (n.go g) (o.go g) (m.le l.s)
theorem FrF.func{F:Fg}{f:CW}(h:FrF M w F v f):∃k a,v=fnV k a:=by cases h<;>exact⟨_,_,rfl⟩
def PlF(M:Nat->Prop)(w:World)(F:Fg):Value->List CW->Prop
 | v,[]=>v=.pointer none
 | v,f::r=>∃b top up,v=.pointer (some ⟨b,0,none⟩)/\Bk M w b #[top,up] TFPi/\FrF M w F top f/\PlF M w F up r
theorem PlF.go{F G:Fg}(a:Stp M w M' w')(l:Fg.Le F G):∀(d:List CW)(v:Value),PlF M w F v d->PlF M' w' G v d
 | [],_,h=>h
 | f::r,v,h=>by obtain⟨b,c,e,g,i,j,k⟩:=h;exact⟨b,c,e,g,i.go a,j.go a l,PlF.go a l r e k⟩
theorem PlF.ptr{F:Fg}:∀{a:List CW} {v:Value},PlF M w F v a->∃o,v=.pointer o
 | [],_,h=>⟨_,h⟩
 | _::_,_,h=>by obtain⟨b,_,_,c,_⟩:=h;exact⟨_,c⟩
def PrF(M:Nat->Prop)(w:World)(F:Fg)(b:Nat)(q:PF×Env):Prop:=∃u ev x sc,Bk M w b #[.int .i64 (q.1.ns.length:Int),u,ev] TFPr/\q.1.ks=[x]/\q.1.ns.Nodup/\RC M w F u x (q.1.ns::sc)/\EnvF M w F.s ev q.2 sc
def CoF(M:Nat->Prop)(w:World)(F:Fg)(b:Nat)(c:List CW):Prop:=∃kv,Bk M w b #[kv] TFCo/\PlF M w F kv c
theorem PrF.go{F G:Fg}(a:Stp M w M' w')(l:Fg.Le F G){q:PF×Env}(h:PrF M w F b q):PrF M' w' G b q:=by obtain⟨u,c,x,d,e,f,g,i,j⟩:=h;exact⟨u,c,x,d,e.go a,f,g,i.go a l,j.go a l.s⟩
theorem CoF.go{F G:Fg}(a:Stp M w M' w')(l:Fg.Le F G){q:List CW}(h:CoF M w F b q):CoF M' w' G b q:=by obtain⟨c,d,e⟩:=h;exact⟨c,d.go a,PlF.go a l _ _ e⟩
structure Lo where
 tb:Nat
 mb:Nat
 sb:Nat
 gb:Nat
 nn:Nat
def One(M:Nat->Prop)(w:World)(mv:Value)(k:Nat)(a:Value):Prop:=∃b1 b2 b3 b4,mv=fnV 197 #[pt b1,pt b2,pt b3]/\Bx M w b1 (.int .i64 3) TInt/\Bx M w b2 a TCod/\Bx M w b3 (fnV 220 #[pt b4]) TTak/\Bx M w b4 (.int .i64 (k:Int)) TPrm
def Two(M:Nat->Prop)(w:World)(mv:Value)(k:Nat)(a b:Value):Prop:=∃b1 b2 b3 b4 b5,mv=fnV 197 #[pt b1,pt b2,pt b3]/\Bx M w b1 (.int .i64 3) TInt/\Bx M w b2 a TCod/\Bx M w b3 (fnV 221 #[pt b4,pt b5]) TTak/\Bx M w b4 b TCod/\Bx M w b5 (.int .i64 (k:Int)) TPrm
def MadeK(M:Nat->Prop)(w:World)(us:List Value)(ot mv:Value)(k:Nat):Prop:=match us with
 | [a]=>One M w mv k a
 | [a,b]=>Two M w mv k a b
 | _=>mv=ot
def MadeV(M:Nat->Prop)(w:World)(us:List Value)(ot gv mv:Value):Prop:=(∃k:Nat,gv=.iface TPrm (.int .i64 (k:Int))/\MadeK M w us ot mv k)\/((∀x,gv≠.iface TPrm x)/\mv=ot)
theorem One.go{mv a:Value}(h:One M w mv k a)(b:Stp M w M' w'):One M' w' mv k a:=by obtain⟨c,d,e,f,g,i,j,l,m⟩:=h;exact⟨c,d,e,f,g,i.go b,j.go b,l.go b,m.go b⟩
theorem Two.go{mv a b:Value}(h:Two M w mv k a b)(c:Stp M w M' w'):Two M' w' mv k a b:=by obtain⟨d,e,f,g,i,j,l,m,n,o,p⟩:=h;exact⟨d,e,f,g,i,j,l.go c,m.go c,n.go c,o.go c,p.go c⟩
theorem MadeK.go{us:List Value}{ot mv:Value}(h:MadeK M w us ot mv k)(a:Stp M w M' w'):MadeK M' w' us ot mv k:=by
 unfold MadeK at h ⊢;split at h
 ·exact One.go h a
 ·exact Two.go h a
 ·exact h
theorem MadeV.go{us:List Value}{ot gv mv:Value}(h:MadeV M w us ot gv mv)(a:Stp M w M' w'):MadeV M' w' us ot gv mv:=by
 rcases h with⟨k,b,c⟩ | h
 ·exact .inl ⟨k,b,c.go a⟩
 ·exact .inr h
structure SitAt(M:Nat->Prop)(w:World)(st:Site):Prop where
 mb:M st.mb
 sb:M st.sb
 ex:∃us mv gv,∃c e:Nat,w.heap[st.mb]?=some (.cells #[mv] TCod (0,0))/\w.heap[st.sb]?=some (.cells #[.int .i64 (e:Int)] TInt (0,0))/\w.heap[st.g]?=some (.cells #[gv,.int .i64 (c:Int)] TGlb (0,0))/\e<=c/\Sl M w TCod 1 st.ar us.length us/\us.length<=2000/\(∃k cap,mv=fnV k cap)/\(e=c->MadeV M w us st.ot gv mv)
def GlAt(M:Nat->Prop)(w:World)(F:Fg)(N:Nat)(W:PW)(k g:Nat):Prop:=M g/\∃v,∃c:Nat,∃nm,F.s.ns[k]?=some nm/\w.heap[g]?=some (.cells #[v,.int .i64 (c:Int)] TGlb (0,0))/\c<=N/\((Pl.find W.globals nm=none/\v=.nilIface)\/∃i p,Pl.find W.globals nm=some i/\W.places[i]?=some p/\RV F.s v p)
structure GmD(D:DataW Value)(F:Fg):Prop where
 tidy:Tidy D
 yes:∀k g,F.gl k=some g->Maps.has D (.int .i64 ((k:Nat):Int))=true/\∀z,D.atKey (.int .i64 ((k:Nat):Int)) z=.held (pt g)
 no:∀k,F.gl k=none->Maps.has D (.int .i64 ((k:Nat):Int))=false
def GmAt(w:World)(gb:Nat)(F:Fg):Prop:=∃D:DataW Value,w.ownsMap prog 3 heldE gb F.gn D/\GmD D F
structure FW(L:Lo)(M O:Nat->Prop)(w:World)(F:Fg)(N:Nat)(W:PW):Prop where
 CY:BM M w F.s L.tb L.mb W.pairs
 NN:Bk M w L.sb #[.map (some L.gb)] TFSe
 TH:M L.gb
 UE:L.gb≠L.mb
 map:GmAt w L.gb F
 gn:F.gn<=N
 gat:∀k g,F.gl k=some g->GlAt M w F N W k g
 ginj:∀a b g:Nat,F.gl a=some g->F.gl b=some g->a=b
 gall:∀nm i,Pl.find W.globals nm=some i->(∃k g,F.s.ns[k]?=some nm/\F.gl k=some g)/\F.s.lp[i]?=some none
 gpl:∀a b i,Pl.find W.globals a=some i->Pl.find W.globals b=some i->a=b
 sit:∀st∈F.cs,SitAt M w st
 sn1:(F.cs.map Site.mb).Nodup
 sn2:(F.cs.map Site.sb).Nodup
 sgl:∀st∈F.cs,∃k,F.gl k=some st.g
 pql:F.s.qb.length=W.procs.length
 pqi:∀i j b:Nat,F.s.qb[i]?=some b->F.s.qb[j]?=some b->b≠0->i=j
 pqa:∀(i b:Nat)(q:PF×Env),F.s.qb[i]?=some b->W.procs[i]?=some q->b≠0->PrF M w F b q
 AG:OW (CoF M w F) F.s.cb W.AG
 places:CM M w F.s W.places
 oth:∀k,O k->M k/\(∃cur,w.heap[k]?=some (.cells cur B9 (0,0)))/\∀i o:Nat,F.s.lp[i]? ≠ some (some (k,o))
 pr:F.pr=W.procs
 gs:Gs w M
 JQ:EH w
 gt:w.cell? ⟨2,0,none⟩=some (.iface 159 (.agg #[.pointer (some ⟨8,65,none⟩)]))
 ge:GE w
 tq:F.s.tq=345
 tc:F.s.tc=357
 nl:F.s.ns.length=L.nn
structure Mf(M:Nat->Prop)(w:World)(M':Nat->Prop)(w':World):Prop where
 AQ:Stp M w M' w'
 keep:∀k,k<w.heap.size->M k->M' k/\(w'.heap[k]?=w.heap[k]? \/ ∃cur e fz,w.heap[k]?=some (.cells cur e fz)/\e≠B9/\e≠TGlb/\e≠TCod/\e≠TInt)
 lt:(∀k,M k->k<w.heap.size)->∀k,M' k->k<w'.heap.size
theorem Mf.mv(h:Mf M w M' w'):Mv M w M' w':=⟨h.AQ,fun k b c=>by
 obtain⟨d,f⟩:=h.keep k b c
 exact⟨d,f.imp id (fun⟨a,e,g,i,j,_⟩=>⟨a,e,g,i,j⟩)⟩,h.lt⟩
theorem Mf.refl(M:Nat->Prop)(w:World):Mf M w M w:=⟨Stp.refl _ _,fun _ _ h=>⟨h,.inl rfl⟩,fun h=>h⟩
theorem Mf.trans{M1 M2 M3:Nat->Prop}{a b c:World}(h:Mf M1 a M2 b)(k:Mf M2 b M3 c):Mf M1 a M3 c :=
 ⟨h.AQ.trans k.AQ,fun i e g=>by
  obtain⟨j,d⟩:=h.keep i e g;obtain⟨l,f⟩:=k.keep i (l_ e h.AQ.size) j;refine⟨l,?_⟩;rcases d with d | d
  ·rw [d] at f;exact f
  ·exact .inr d,fun m=>k.lt (h.lt m)⟩
theorem Mf.below(h:Below w.heap.size w w'):Mf M w M w':=⟨Stp.AA h,fun k a b=>⟨b,.inl (h.block k a)⟩,fun c k a=>l_ (c k a) h.size⟩
theorem Mf.set{cur:Array Value}{a:Nat×Nat}(d:w.heap[b]?=some (.cells cur T a))(f:M b)(g:T≠B9)(h:T≠TGlb)(i:T≠TCod)(j:T≠TInt)(o:Nat)(v:Value):Mf M w M (w.setCell ⟨b,o,none⟩ v) :=
 ⟨Stp.set f o v,fun k c l=>⟨l,by
  by_cases e:k=b
  ·subst e;exact .inr ⟨cur,T,a,d,g,h,i,j⟩
  ·exact .inl (Below.heap_setCell _ _ _ _ (fun x=>e (by simpa using x)))⟩,fun m k c=>by simpa [World.setCell] using m k c⟩
theorem Mf.wide(X:Nat->Prop)(h:∀k,X k->w.heap.size<=k)(a:Below w.heap.size w w')(d:∀k,X k->k<w'.heap.size):Mf M w (Mn M X) w' :=⟨⟨a.os,a.tape,a.output,a.size,fun k b c=>⟨a.block k b,fun x=>x.elim c (fun y=>by have:=h k y;omega)⟩⟩,fun k b c=>⟨.inl c,.inl (a.block k b)⟩,fun e k b=>b.elim (fun y=>l_ (e k y) a.size) (d k)⟩
theorem Mf.same(h:Mf M w M' w')(f:M k){cur:Array Value}(c:w.heap[k]?=some (.cells cur T (0,0)))(g:T=B9\/T=TGlb\/T=TCod\/T=TInt):M' k/\w'.heap[k]?=some (.cells cur T (0,0)):=by
 obtain⟨i,a⟩:=h.keep k (aB c) f;refine⟨i,?_⟩;rcases a with a | ⟨d,e,j,a,b⟩
 ·exact a.trans c
 ·rw [c] at a;simp only [o_,Obj.cells.injEq] at a;obtain⟨_,rfl,_⟩:=a;rcases g with h | h | h | h
  ·exact absurd h b.1
  ·exact absurd h b.2.1
  ·exact absurd h b.2.2.1
  ·exact absurd h b.2.2.2
theorem GmAt.keep{gb:Nat}{F:Fg}(h:GmAt w gb F)(a:w'.heap[gb]?=w.heap[gb]?):GmAt w' gb F:=by obtain⟨D,⟨b,c,d,r⟩,e⟩:=h;exact⟨D,⟨b,c,a.trans d,r⟩,e⟩
theorem GmAt.F6{gb:Nat}{F:Fg}(h:GmAt w gb F):∃a c,w.heap[gb]?=some (.map a c):=by obtain⟨D,⟨a,c,b,_⟩,_⟩:=h;exact⟨a,c,b⟩
theorem SitAt.go{a:Site}(h:SitAt M w a)(b:Stp M w M' w')(d:M' a.mb)(f:M' a.sb)(g:w'.heap[a.mb]?=w.heap[a.mb]?)(i:w'.heap[a.sb]?=w.heap[a.sb]?)(j:w'.heap[a.g]?=w.heap[a.g]?):SitAt M' w' a:=by obtain⟨k,l,m,c,e,n,o,p,q,r,s,t,u⟩:=h.ex;exact⟨d,f,k,l,m,c,e,g.trans n,i.trans o,j.trans p,q,r.AQ b,s,t,fun x=>(u x).go b⟩
theorem SitAt.mf{b:Site}(h:SitAt M w b)(a:Mf M w M' w')(i:M b.g):SitAt M' w' b:=by obtain⟨o,p,q,c,e,d,f,g,r,s,t,u,v⟩:=h.ex;obtain⟨j,k⟩:=a.same h.mb d (.inr (.inr (.inl rfl)));obtain⟨l,m⟩:=a.same h.sb f (.inr (.inr (.inr rfl)));obtain⟨_,n⟩:=a.same i g (.inr (.inl rfl));exact h.go a.AQ j l (k.trans d.symm) (m.trans f.symm) (n.trans g.symm)
theorem FW.mf{L:Lo}{F:Fg}{W:PW}(h:FW L M O w F N W)(a:Mf M w M' w'):FW L M' O w' F N W:=by
 obtain⟨A,c,p⟩:=h.map.F6;have r:=Fg.Le.refl F;refine⟨h.CY.mv a.mv,h.NN.go a.AQ,(a.keep _ (aB p) h.TH).1,h.UE,h.map.keep (DE a.mv p h.TH),h.gn,fun k g t=>?_,h.ginj,h.gall,h.gpl,fun s f=>?_,h.sn1,h.sn2,h.sgl,h.pql,h.pqi,fun i b q d e j=>(h.pqa i b q d e j).go a.AQ r,h.AG.mono (fun b x u=>u.go a.AQ r),h.places.mv a.mv,fun k l=>?_,h.pr,h.gs.AQ a.AQ,h.JQ.AQ h.gs a.AQ,(bY h.gs a.AQ kT).trans h.gt,?_,h.tq,h.tc,h.nl⟩
 ·obtain⟨d,v,c,y,e,j,m⟩:=h.gat k g t;obtain⟨n,z⟩:=a.same d j (.inr (.inl rfl));exact⟨n,v,c,y,e,z,m⟩
 ·obtain⟨k,l⟩:=h.sgl s f;exact(h.sit s f).mf a (h.gat k _ l).1
 ·obtain⟨d,⟨o,e⟩,j⟩:=h.oth k l;obtain⟨m,n⟩:=a.same d e (.inl rfl);exact⟨m,⟨o,n⟩,j⟩
 ·obtain⟨v,d,e⟩:=h.ge;exact⟨v,(bY h.gs a.AQ kU).trans d,e⟩
theorem FW.below{L:Lo}{F:Fg}{W:PW}(h:FW L M O w F N W)(a:Below w.heap.size w w'):FW L M O w' F N W:=h.mf (Mf.below a)
theorem FW.up{L:Lo}{F:Fg}{N':Nat}{W:PW}(h:FW L M O w F N W)(b:N<=N'):FW L M O w F N' W :=
 have a:∀k g,F.gl k=some g->GlAt M w F N' W k g:=fun k g a=>by obtain⟨d,v,c,e,f,i,j,l⟩:=h.gat k g a;exact⟨d,v,c,e,f,i,t_ j b,l⟩
 {h with gn:=t_ h.gn b,gat:=a}
theorem FW.outW{L:Lo}{F:Fg}{W:PW}(h:FW L M O w F N W)(o:AE):FW L M O w F N {W with out:=o}:={h with CY:=h.CY}
theorem FW.less{L:Lo}{O':Nat->Prop}{F:Fg}{W:PW}(h:FW L M O w F N W)(a:∀k,O' k->O k):FW L M O' w F N W:={h with oth:=fun k b=>h.oth k (a k b)}
end
end Go.Proofs.YtieooapcfpimlaaGreatDoor
