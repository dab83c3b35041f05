import Derived.Maps.RangeWalk
import Derived.Test.YtbgghmjmcapmlaaGreatDoorF24
namespace Go.Proofs.YtbgghmjmcapmlaaGreatDoor
set_option maxHeartbeats 4000000
set_option maxRecDepth 100000
open Go.Proofs.Tryz
open Pl (PV PW PS PF CW AE Env AO AU)
theorem zK0{P:Prop}(h:P:=by
 rintro(e | e | ⟨j,l⟩)
 ·simp only at e;omega
 ·simp only at e;omega
 ·have:=r l;simp only at this;omega):P:=h
section
open Go.RowKit Go.Maps
variable {w w':World} {M M' O:Q5} {v kv gv lv av ov:Value} {n b N k base sz m:Nat} {W:PW} {T e:TypeId} {f:PF} {s:Sg} {xs:List Value}
def TPlc:TypeId:=383
def TFMc:TypeId:=325
def TFPi:TypeId:=360
def TGlb:TypeId:=116
def TScp:TypeId:=389
def TFPr:TypeId:=374
def TFCo:TypeId:=386
def TCod:TypeId:=329
def TFrm:TypeId:=358
def TFSe:TypeId:=109
def TCds:TypeId:=340
def TTak:TypeId:=391
def TTkA:TypeId:=393
def TTk2:TypeId:=400
def TInt:TypeId:=3
def TPrm:TypeId:=149
def TGlP:TypeId:=114
def TPlP:TypeId:=361
def TVls:TypeId:=319
def TSet:TypeId:=264
abbrev pt(b:Nat):Value:=(Q0 b)
abbrev fnV(k:Nat)(cap:Array Value):Value:=.func (.func k) #[] cap
def Bx(M:Q5)(w:World)(b:Nat)(v:Value)(T:TypeId):Prop:=¬M b/\w.heap[b]?=some (.cells #[v] T (0,0))
theorem Bx.go(h:Bx M w b v T)(a:Stp M w M' w'):Bx M' w' b v T:=by obtain⟨c,d⟩:=a.block b (aB h.2) h.1;exact⟨d,c.trans h.2⟩
theorem Bx.cell(h:Bx M w b v T):w.cell? ⟨b,0,none⟩=some v:=aA h.2 0
def Bk(M:Q5)(w:World)(b:Nat)(cs:Array Value)(T:TypeId):Prop:=¬M b/\w.heap[b]?=some (.cells cs T (0,0))
theorem Bk.go{cs:Array Value}(h:Bk M w b cs T)(a:Stp M w M' w'):Bk M' w' b cs T:=by obtain⟨c,d⟩:=a.block b (aB h.2) h.1;exact⟨d,c.trans h.2⟩
def scF:List (List AE)->AE->Option (Nat×Nat)
 | [],_=>none
 | ns::r,nm=>if nm∈ns then some (0,ns.idxOf nm) else(scF r nm).map fun p=>(p.1+1,p.2)
structure Site where
 mb:Nat
 sb:Nat
 g:Nat
 ar:Value
 ot:Value
structure Fg where
 s:Sg
 gl:Nat->Option Nat
 gn:Nat
 cs:List Site
 pr:List (PF×Env)
structure Fg.Le(F G:Fg):Prop where
 s:Sg.Le F.s G.s
 gl:∀k b,F.gl k=some b->G.gl k=some b
 cs:F.cs <+: G.cs
 pr:F.pr <+: G.pr
theorem Fg.Le.refl(F:Fg):Fg.Le F F:=⟨Sg.Le.refl _,fun _ _ h=>h,List.prefix_refl _,List.prefix_refl _⟩
theorem Fg.Le.trans{a b c:Fg}(h:Fg.Le a b)(k:Fg.Le b c):Fg.Le a c:=⟨h.s.trans k.s,fun i x d=>k.gl i x (h.gl i x d),h.cs.trans k.cs,h.pr.trans k.pr⟩
inductive EnvF (M:Q5) (w:World) (s:Sg):Value->Env->List (List AE)->Prop
 | nil:EnvF M w s (.pointer none) [] []
 | cons (b:Nat) (up:Value) (ao:Option Addr) (cap base:Nat) (ns:List AE) (env:Env) (sc:List (List AE))
   (hb:Bk M w b #[.slice ao ns.length cap,up] TPlc) (hcap:ns.length<=cap) (hnd:ns.Nodup)
   (hp:∀i,i<ns.length->∃g off,ao=some ⟨g,off,none⟩/\s.lp[base+i]?=some (some (g,off+i)))
   (h:EnvF M w s up env sc):EnvF M w s (Q0 b) (env++Pl.C1 ns base) (ns::sc)
theorem EnvF.go{t:Sg}(m:Stp M w M' w')(l:Sg.Le s t){e:Env}{sc:List (List AE)}(h:EnvF M w s v e sc):EnvF M' w' t v e sc:=by
 induction h with
 | nil=>exact .nil
 | cons b n o d a p f sc q c j r _ u =>
  exact .cons b n o d a p f sc (q.go m) c j (fun i x=>by
   obtain⟨g,k,y,z⟩:=r i x
   exact⟨g,k,y,bS l.lp z⟩) u
theorem EnvF.ptr{e:Env}{sc:List (List AE)}(h:EnvF M w s v e sc):∃o,v=.pointer o:=by cases h<;>exact⟨_,rfl⟩
inductive RC (M:Q5) (w:World) (F:Fg):Value->PF->List (List AE)->Prop
 | const (b:Nat) (x:Value) (nm:AE) (d:Pl.A9) (v:PV) (ks:List PF) (ns:List AE) (sc:List (List AE)) (hb:Bx M w b x B9) (hv:RV F.s x v):RC M w F (fnV 198 #[pt b]) (.mk .const nm d v ks ns) sc
 | loc (b c dp ix:Nat) (nm:AE) (d:Pl.A9) (v:PV) (ks:List PF) (ns:List AE) (sc:List (List AE)) (hb:Bx M w b (.int .i64 (dp:Int)) TInt) (hc:Bx M w c (.int .i64 (ix:Int)) TInt) (hf:scF sc nm=some (dp,ix)) (hd:dp<=1100):RC M w F (fnV 200 #[pt b,pt c]) (.mk .name nm d v ks ns) sc
 | DI (b c g k:Nat) (nm:AE) (d:Pl.A9) (v:PV) (ks:List PF) (ns:List AE) (sc:List (List AE)) (hb:Bx M w b (pt g) TGlP) (hc:Bk M w c #[.string ⟨nm.toArray⟩,.int .i64 (k:Int)] B6) (hn:F.s.ns[k]?=some nm) (hg:F.gl k=some g) (hf:scF sc nm=none):RC M w F (fnV 203 #[pt b,pt c]) (.mk .name nm d v ks ns) sc
 | iff (b1 b2 b3 b4 b5:Nat) (u v1 v2:Value) (x y z:PF) (nm:AE) (d:Pl.A9) (v:PV) (ns:List AE) (sc:List (List AE)) (h1:Bx M w b1 (.int .i64 1) TInt) (h2:Bx M w b2 u TCod) (h3:Bx M w b3 (fnV 205 #[pt b4,pt b5]) TTak) (h4:Bx M w b4 v2 TCod) (h5:Bx M w b5 v1 TCod) (hu:RC M w F u x sc) (hy:RC M w F v1 y sc) (hz:RC M w F v2 z sc):RC M w F (fnV 221 #[pt b1,pt b2,pt b3]) (.mk .iff nm d v [x,y,z] ns) sc
 | begin (b:Nat) (sl:Value) (us:List Value) (nm:AE) (d:Pl.A9) (v:PV) (ks:List PF) (ns:List AE) (sc:List (List AE)) (hb:Bx M w b sl TCds) (h1:Sl M w TCod 1 sl us.length us) (h2:us.length=ks.length) (h3:∀(i:Nat)(u:Value)(x:PF),us[i]?=some u->ks[i]?=some x->RC M w F u x sc) (h4:1<=ks.length) (h5:ks.length<=2000):RC M w F (fnV 206 #[pt b]) (.mk .begin nm d v ks ns) sc
 | setL (b1 b2 b3 b4 b5 dp ix:Nat) (u:Value) (x:PF) (nm:AE) (d:Pl.A9) (v:PV) (ns:List AE) (sc:List (List AE)) (h1:Bx M w b1 (.int .i64 1) TInt) (h2:Bx M w b2 u TCod) (h3:Bx M w b3 (fnV 208 #[pt b4,pt b5]) TTak) (h4:Bx M w b4 (.int .i64 (dp:Int)) TInt) (h5:Bx M w b5 (.int .i64 (ix:Int)) TInt) (hf:scF sc nm=some (dp,ix)) (hd:dp<=1100) (hu:RC M w F u x sc):RC M w F (fnV 221 #[pt b1,pt b2,pt b3]) (.mk .set nm d v [x] ns) sc
 | setG (b1 b2 b3 b4 b5 g k:Nat) (a u:Value) (x:PF) (nm:AE) (d:Pl.A9) (v:PV) (ns:List AE) (sc:List (List AE)) (h1:Bx M w b1 (.int .i64 1) TInt) (h2:Bx M w b2 u TCod) (h3:Bx M w b3 (fnV 209 #[pt b4,pt b5]) TTak) (h4:Bx M w b4 (pt g) TGlP) (h5:Bk M w b5 #[.string ⟨nm.toArray⟩,.int .i64 (k:Int),a] TSet) (hn:F.s.ns[k]?=some nm) (hg:F.gl k=some g) (hf:scF sc nm=none) (hu:RC M w F u x sc):RC M w F (fnV 221 #[pt b1,pt b2,pt b3]) (.mk .set nm d v [x] ns) sc
 | define (b1 b2 b3 b4 g k:Nat) (u:Value) (x:PF) (nm:AE) (d:Pl.A9) (v:PV) (ns:List AE) (sc:List (List AE)) (h1:Bx M w b1 (.int .i64 1) TInt) (h2:Bx M w b2 u TCod) (h3:Bx M w b3 (fnV 211 #[pt b4]) TTak) (h4:Bx M w b4 (pt g) TGlP) (hn:F.s.ns[k]?=some nm) (hg:F.gl k=some g) (hu:RC M w F u x sc):RC M w F (fnV 221 #[pt b1,pt b2,pt b3]) (.mk .define nm d v [x] ns) sc
 | lambda (b1 b2:Nat) (u:Value) (x:PF) (nm:AE) (d:Pl.A9) (v:PV) (ns:List AE) (sc:List (List AE)) (h1:Bx M w b1 (.int .i64 (ns.length:Int)) TInt) (h2:Bx M w b2 u TCod) (hnd:ns.Nodup) (hu:RC M w F u x (ns::sc)):RC M w F (fnV 213 #[pt b1,pt b2]) (.mk .lambda nm d v [x] ns) sc
 | callA (b1 b2:Nat) (sl:Value) (us:List Value) (nm:AE) (d:Pl.A9) (v:PV) (ks:List PF) (ns:List AE) (sc:List (List AE)) (hb:Bx M w b1 sl TCds) (hb2:Bx M w b2 (fnV 231 #[]) TTkA) (h1:Sl M w TCod 1 sl us.length us) (h2:us.length=ks.length) (h3:∀(i:Nat)(u:Value)(x:PF),us[i]?=some u->ks[i]?=some x->RC M w F u x sc) (h4:1<=ks.length) (h5:ks.length<=2000):RC M w F (fnV 233 #[pt b1,pt b2]) (.mk .call nm d v ks ns) sc
 | callL (b1 b2 b3 b4:Nat) (sl u0:Value) (us:List Value) (nm:AE) (d:Pl.A9) (v:PV) (ks:List PF) (ns:List AE) (nm':AE) (d':Pl.A9) (v':PV) (x:PF) (ns':List AE) (sc:List (List AE)) (hb:Bx M w b1 sl TCds) (hb2:Bx M w b2 (fnV 225 #[pt b3,pt b4]) TTkA) (hb3:Bx M w b3 (.int .i64 (ns'.length:Int)) TInt) (hb4:Bx M w b4 u0 TCod) (hnd:ns'.Nodup) (h0:RC M w F u0 x (ns'::sc)) (h1:Sl M w TCod 1 sl us.length us) (h2:us.length=ks.length) (h3:∀(i:Nat)(u:Value)(x:PF),us[i]?=some u->ks[i]?=some x->RC M w F u x sc) (h5:ks.length<=2000):RC M w F (fnV 226 #[pt b1,pt b2]) (.mk .call nm d v (.mk .lambda nm' d' v' [x] ns'::ks) ns) sc
 | callG (b1 b2 b3 k:Nat) (st:Site) (us:List Value) (nm:AE) (d:Pl.A9) (v:PV) (ks:List PF) (ns:List AE) (nm':AE) (d':Pl.A9) (v':PV) (ks':List PF) (ns':List AE) (sc:List (List AE)) (hs:st∈F.cs) (hb1:Bx M w b1 (pt st.g) TGlP) (hb2:Bx M w b2 st.ar TCds) (hb3:Bx M w b3 st.ot TCod) (hn:F.s.ns[k]?=some nm') (hg:F.gl k=some st.g) (hf:scF sc nm'=none) (h1:Sl M w TCod 1 st.ar us.length us) (h2:us.length=ks.length) (h3:∀(i:Nat)(u:Value)(x:PF),us[i]?=some u->ks[i]?=some x->RC M w F u x sc) (h5:ks.length<=2000) (ho:RC M w F st.ot (.mk .call nm d v (.mk .name nm' d' v' ks' ns'::ks) ns) sc):RC M w F (fnV 229 #[pt st.sb,pt b1,pt b2,pt b3,pt st.mb]) (.mk .call nm d v (.mk .name nm' d' v' ks' ns'::ks) ns) sc
theorem aKZ{α:Type}{a b:List α}(h:a <+: b){x:α}(c:x∈a):x∈b:=by obtain⟨t,rfl⟩:=h;exact List.mem_append_left _ c
theorem RC.go{F G:Fg}(e:Stp M w M' w')(l:Fg.Le F G){sc:List (List AE)}(h:RC M w F v f sc):RC M' w' G v f sc:=by
 induction h with
 | const b x i d v r j sc t hv=>exact .const b x i d v r j sc (t.go e) (hv.le l.s)
 | loc b c S T i d v r j sc t U D V=>exact .loc b c S T i d v r j sc (t.go e) (U.go e) D V
 | DI b c g k i d v r j sc t U H I D=>exact .DI b c g k i d v r j sc (t.go e) (U.go e) (bS l.s.ns H) (l.gl _ _ I) D
 | iff o p A E Q u v1 v2 x y z i d v j sc m n J B s _ _ _ i1 i2 i3=>exact .iff o p A E Q u v1 v2 x y z i d v j sc (m.go e) (n.go e) (J.go e) (B.go e) (s.go e) i1 i2 i3
 | begin b R K i d v r j sc t m n _ B s q=>exact .begin b R K i d v r j sc (t.go e) (m.AQ e) n q B s
 | setL o p A E Q S T u x i d v j sc m n J B s D V _ q=>exact .setL o p A E Q S T u x i d v j sc (m.go e) (n.go e) (J.go e) (B.go e) (s.go e) D V q
 | setG o p A E Q g k a u x i d v j sc m n J B s H I D _ q=>exact .setG o p A E Q g k a u x i d v j sc (m.go e) (n.go e) (J.go e) (B.go e) (s.go e) (bS l.s.ns H) (l.gl _ _ I) D q
 | define o p A E g k u x i d v j sc m n J B H I _ q=>exact .define o p A E g k u x i d v j sc (m.go e) (n.go e) (J.go e) (B.go e) (bS l.s.ns H) (l.gl _ _ I) q
 | lambda o p u x i d v j sc m n L _ q=>exact .lambda o p u x i d v j sc (m.go e) (n.go e) L q
 | callA o p R K i d v r j sc t C m n _ B s q=>exact .callA o p R K i d v r j sc (t.go e) (C.go e) (m.AQ e) n q B s
 | callL o p A E R u0 K i d v r j N W X x O sc t C P Y L _ m n _ s i0 q=>exact .callL o p A E R u0 K i d v r j N W X x O sc (t.go e) (C.go e) (P.go e) (Y.go e) L i0 (m.AQ e) n q s
 | callG o p A k st K i d v r j N W X Z O sc aa ab C P H I D m n _ s _ q io=>exact .callG o p A k st K i d v r j N W X Z O sc (aKZ l.cs aa) (ab.go e) (C.go e) (P.go e) (bS l.s.ns H) (l.gl _ _ I) D (m.AQ e) n q s io
theorem RC.func{F:Fg}{sc:List (List AE)}(h:RC M w F v f sc):∃k a,v=fnV k a:=by cases h<;>exact⟨_,_,rfl⟩
inductive RT (M:Q5) (w:World) (F:Fg):Value->CW->List (List AE)->Prop
 | iff (b4 b5:Nat) (v1 v2:Value) (x y z:PF) (fr:CW) (sc:List (List AE)) (hk:fr.form.k=.iff) (hf:fr.form.ks=[x,y,z]) (h4:Bx M w b4 v2 TCod) (h5:Bx M w b5 v1 TCod) (hy:RC M w F v1 y sc) (hz:RC M w F v2 z sc):RT M w F (fnV 205 #[pt b4,pt b5]) fr sc
 | setL (b4 b5 dp ix:Nat) (fr:CW) (sc:List (List AE)) (hk:fr.form.k=.set) (h4:Bx M w b4 (.int .i64 (dp:Int)) TInt) (h5:Bx M w b5 (.int .i64 (ix:Int)) TInt) (hf:scF sc fr.form.nm=some (dp,ix)) (hd:dp<=1100):RT M w F (fnV 208 #[pt b4,pt b5]) fr sc
 | setG (b4 b5 g k:Nat) (a:Value) (fr:CW) (sc:List (List AE)) (hk:fr.form.k=.set) (h4:Bx M w b4 (pt g) TGlP) (h5:Bk M w b5 #[.string ⟨fr.form.nm.toArray⟩,.int .i64 (k:Int),a] TSet) (hn:F.s.ns[k]?=some fr.form.nm) (hg:F.gl k=some g) (hf:scF sc fr.form.nm=none):RT M w F (fnV 209 #[pt b4,pt b5]) fr sc
 | define (b4 g k:Nat) (fr:CW) (sc:List (List AE)) (hk:fr.form.k=.define) (h4:Bx M w b4 (pt g) TGlP) (hn:F.s.ns[k]?=some fr.form.nm) (hg:F.gl k=some g):RT M w F (fnV 211 #[pt b4]) fr sc
 | one (b k:Nat) (t:AE) (fr:CW) (sc:List (List AE)) (hk:fr.form.k=.call) (hl:fr.form.ks.length=2) (hg:fr.B8=[.AZ t]) (hp:fr.pos=2) (ht:AO[k]?=some t) (h12:k<12) (hb:Bx M w b (.int .i64 (k:Int)) TPrm):RT M w F (fnV 244 #[pt b]) fr sc
 | two (b c k:Nat) (t:AE) (u:Value) (x y z:PF) (fr:CW) (sc:List (List AE)) (hk:fr.form.k=.call) (hl:fr.form.ks=[x,y,z]) (hg:fr.B8=[.AZ t]) (hp:fr.pos=2) (ht:AO[k]?=some t) (h12:k<12) (hb:Bx M w b u TCod) (hc:Bx M w c (.int .i64 (k:Int)) TPrm) (hu:RC M w F u z sc):RT M w F (fnV 245 #[pt b,pt c]) fr sc
theorem RT.go{F G:Fg}(d:Stp M w M' w')(l:Fg.Le F G){f:CW}{sc:List (List AE)}(h:RT M w F v f sc):RT M' w' G v f sc:=by
 cases h with
 | iff i o D E x y z _ _ e p j q H I=>exact .iff i o D E x y z _ _ e p (j.go d) (q.go d) (H.go d l) (I.go d l)
 | setL i o J K _ _ e j q p L=>exact .setL i o J K _ _ e (j.go d) (q.go d) p L
 | setG i o g k a _ _ e j q r m p=>exact .setG i o g k a _ _ e (j.go d) (q.go d) (bS l.s.ns r) (l.gl _ _ m) p
 | define i g k _ _ e j r m=>exact .define i g k _ _ e (j.go d) (bS l.s.ns r) (l.gl _ _ m)
 | one b k t _ _ e s m A B n C=>exact .one b k t _ _ e s m A B n (C.go d)
 | two b c k t u x y z _ _ e s m A B n C N O=>exact .two b c k t u x y z _ _ e s m A B n (C.go d) (N.go d) (O.go d l)
inductive RA (M:Q5) (w:World) (F:Fg):Value->PF->Env->List (List AE)->List PV->Prop
 | any (f:PF) (env:Env) (sc:List (List AE)):RA M w F (fnV 231 #[]) f env sc []
 | lam (b3 b4 n:Nat) (u0:Value) (f x:PF) (nm':AE) (d':Pl.A9) (v':PV) (ns':List AE) (env:Env) (sc:List (List AE)) (hf:f.ks[0]?=some (.mk .lambda nm' d' v' [x] ns')) (hb3:Bx M w b3 (.int .i64 (ns'.length:Int)) TInt) (hb4:Bx M w b4 u0 TCod) (hnd:ns'.Nodup) (h0:RC M w F u0 x (ns'::sc)) (hn:F.pr[n]?=some (.mk .lambda nm' d' v' [x] ns',env)):RA M w F (fnV 225 #[pt b3,pt b4]) f env sc [.proc n]
theorem RA.go{F G:Fg}(b:Stp M w M' w')(l:Fg.Le F G){env:Env}{sc:List (List AE)}{a:List PV}(h:RA M w F v f env sc a):RA M' w' G v f env sc a:=by
 cases h with
 | any=>exact .any _ _ _
 | lam j k n m _ x c o p d _ _ q e g i r s=>exact .lam j k n m _ x c o p d _ _ q (e.go b) (g.go b) i (r.go b l) (bS l.pr s)
inductive FrF (M:Q5) (w:World) (F:Fg):Value->CW->Prop
 | hand (b c:Nat) (tk hv:Value) (fr:CW) (sc:List (List AE)) (hb:Bx M w b tk TTak) (hc:Bx M w c hv TPlP) (he:EnvF M w F.s hv fr.env sc) (ht:RT M w F tk fr sc):FrF M w F (fnV 223 #[pt b,pt c]) fr
 | row (b c d i j:Nat) (sl hv:Value) (us:List Value) (fr:CW) (sc:List (List AE)) (hk:fr.form.k=.begin) (hb:Bx M w b sl TCds) (hc:Bx M w c (.int .i64 (i:Int)) TInt) (hd:Bx M w d hv TPlP) (he:EnvF M w F.s hv fr.env sc) (h1:Sl M w TCod 1 sl us.length us) (h2:BY (fun u x=>RC M w F u x sc) us (fr.form.ks.drop j)) (hp:fr.pos=j+i+1) (hi:i+1<us.length) (h5:us.length<=2000):FrF M w F (fnV 224 #[pt b,pt c,pt d]) fr
 | gath (b c d e:Nat) (sl hv gv tk:Value) (us:List Value) (vs a:List PV) (fr:CW) (sc:List (List AE)) (hk:fr.form.k=.call) (hb:Bx M w b sl TCds) (hc:Bx M w c hv TPlP) (hd:Bx M w d gv TVls) (he:Bx M w e tk TTk2) (hv:EnvF M w F.s hv fr.env sc) (h1:Sl M w TCod 1 sl us.length us) (h2:BY (fun u x=>RC M w F u x sc) us (fr.form.ks.drop a.length)) (hg:FD M w F.s gv vs) (hcl:∃ao m,gv=.slice ao m m) (ha:RA M w F tk fr.form fr.env sc a) (hgot:fr.B8=a++vs) (hp:fr.pos=a.length+vs.length+1) (hi:vs.length<us.length) (h5:us.length<=2000):FrF M w F (fnV 237 #[pt b,pt c,pt d,pt e]) fr
 | two (b c k:Nat) (t:AE) (v:Value) (p:PV) (fr:CW) (hk:fr.form.k=.call) (hl:fr.form.ks.length=3) (hg:fr.B8=[.AZ t,p]) (hp:fr.pos=3) (ht:AO[k]?=some t) (h12:k<12) (hb:Bx M w b (.int .i64 (k:Int)) TPrm) (hc:Bx M w c v B9) (hv:RV F.s v p):FrF M w F (fnV 246 #[pt b,pt c]) fr
theorem FrF.go{F G:Fg}(g:Stp M w M' w')(l:Fg.Le F G){f:CW}(h:FrF M w F v f):FrF M' w' G v f:=by
 cases h with
 | hand b c z m _ q n o r A=>exact .hand b c z m _ q (n.go g) (o.go g) (r.go g l.s) (A.go g l)
 | row b c d i j B m C _ q s n o D r E H u I J=>exact .row b c d i j B m C _ q s (n.go g) (o.go g) (D.go g) (r.go g l.s) (E.AQ g) (H.mono (fun _ _ x=>x.go g l)) u I J
 | gath b c d e B m O z C P a _ q s n o D r m E H K L Q y u I J=>exact .gath b c d e B _ O z C P a _ q s (n.go g) (o.go g) (D.go g) (r.go g) (m.go g l.s) (E.AQ g) (H.mono (fun _ _ x=>x.go g l)) (K.go g l.s) L (Q.go g l) y u I J
 | two b c k t v p _ s R K u A N n o m=>exact .two b c k t v p _ s R K u A N (n.go g) (o.go g) (m.le l.s)
theorem FrF.func{F:Fg}{f:CW}(h:FrF M w F v f):∃k a,v=fnV k a:=by cases h<;>exact⟨_,_,rfl⟩
def PlF(M:Q5)(w:World)(F:Fg):Value->List CW->Prop
 | v,[]=>v=.pointer none
 | v,f::r=>∃b top up,v=(Q0 b)/\Bk M w b #[top,up] TFPi/\FrF M w F top f/\PlF M w F up r
theorem PlF.go{F G:Fg}(a:Stp M w M' w')(l:Fg.Le F G):∀(d:List CW)(v:Value),PlF M w F v d->PlF M' w' G v d
 | [],_,h=>h
 | f::r,v,h=>by obtain⟨b,c,e,g,i,j,k⟩:=h;exact⟨b,c,e,g,i.go a,j.go a l,PlF.go a l r e k⟩
theorem PlF.ptr{F:Fg}:∀{a:List CW} {v:Value},PlF M w F v a->∃o,v=.pointer o
 | [],_,h=>⟨_,h⟩
 | _::_,_,h=>by obtain⟨b,_,_,c,_⟩:=h;exact⟨_,c⟩
def PrF(M:Q5)(w:World)(F:Fg)(b:Nat)(q:PF×Env):Prop:=∃u ev x sc,Bk M w b #[Q1 (q.1.ns.length:Int),u,ev] TFPr/\q.1.ks=[x]/\q.1.ns.Nodup/\RC M w F u x (q.1.ns::sc)/\EnvF M w F.s ev q.2 sc
def CoF(M:Q5)(w:World)(F:Fg)(b:Nat)(c:List CW):Prop:=∃kv,Bk M w b #[kv] TFCo/\PlF M w F kv c
theorem PrF.go{F G:Fg}(a:Stp M w M' w')(l:Fg.Le F G){q:PF×Env}(h:PrF M w F b q):PrF M' w' G b q:=by obtain⟨u,c,x,d,e,f,g,i,j⟩:=h;exact⟨u,c,x,d,e.go a,f,g,i.go a l,j.go a l.s⟩
theorem CoF.go{F G:Fg}(a:Stp M w M' w')(l:Fg.Le F G){q:List CW}(h:CoF M w F b q):CoF M' w' G b q:=by obtain⟨c,d,e⟩:=h;exact⟨c,d.go a,PlF.go a l _ _ e⟩
structure Lo where
 tb:Nat
 mb:Nat
 sb:Nat
 gb:Nat
 nn:Nat
def One(M:Q5)(w:World)(mv:Value)(k:Nat)(a:Value):Prop:=∃b1 b2 b3 b4,mv=fnV 221 #[pt b1,pt b2,pt b3]/\Bx M w b1 (.int .i64 3) TInt/\Bx M w b2 a TCod/\Bx M w b3 (fnV 244 #[pt b4]) TTak/\Bx M w b4 (.int .i64 (k:Int)) TPrm
def Two(M:Q5)(w:World)(mv:Value)(k:Nat)(a b:Value):Prop:=∃b1 b2 b3 b4 b5,mv=fnV 221 #[pt b1,pt b2,pt b3]/\Bx M w b1 (.int .i64 3) TInt/\Bx M w b2 a TCod/\Bx M w b3 (fnV 245 #[pt b4,pt b5]) TTak/\Bx M w b4 b TCod/\Bx M w b5 (.int .i64 (k:Int)) TPrm
def MadeK(M:Q5)(w:World)(us:List Value)(ot mv:Value)(k:Nat):Prop:=match us with
 | [a]=>One M w mv k a
 | [a,b]=>Two M w mv k a b
 | _=>mv=ot
def MadeV(M:Q5)(w:World)(us:List Value)(ot gv mv:Value):Prop:=(∃k:Nat,gv=.iface TPrm (.int .i64 (k:Int))/\MadeK M w us ot mv k)\/((∀x,gv≠.iface TPrm x)/\mv=ot)
theorem One.go{mv a:Value}(h:One M w mv k a)(b:Stp M w M' w'):One M' w' mv k a:=by obtain⟨c,d,e,f,g,i,j,l,m⟩:=h;exact⟨c,d,e,f,g,i.go b,j.go b,l.go b,m.go b⟩
theorem Two.go{mv a b:Value}(h:Two M w mv k a b)(c:Stp M w M' w'):Two M' w' mv k a b:=by obtain⟨d,e,f,g,i,j,l,m,n,o,p⟩:=h;exact⟨d,e,f,g,i,j,l.go c,m.go c,n.go c,o.go c,p.go c⟩
theorem MadeK.go{us:List Value}{ot mv:Value}(h:MadeK M w us ot mv k)(a:Stp M w M' w'):MadeK M' w' us ot mv k:=by
 unfold MadeK at h ⊢;split at h
 ·exact One.go h a
 ·exact Two.go h a
 ·exact h
theorem MadeV.go{us:List Value}{ot mv:Value}(h:MadeV M w us ot gv mv)(a:Stp M w M' w'):MadeV M' w' us ot gv mv:=by
 rcases h with⟨k,b,c⟩ | h
 ·exact .inl ⟨k,b,c.go a⟩
 ·exact .inr h
structure SitAt(M:Q5)(w:World)(st:Site):Prop where
 mb:M st.mb
 sb:M st.sb
 ex:∃us mv gv,∃c e:Nat,w.heap[st.mb]?=some (.cells #[mv] TCod (0,0))/\w.heap[st.sb]?=some (.cells #[Q1 e] TInt (0,0))/\w.heap[st.g]?=some (.cells #[gv,Q1 c] TGlb (0,0))/\e<=c/\Sl M w TCod 1 st.ar us.length us/\us.length<=2000/\(∃k cap,mv=fnV k cap)/\(e=c->MadeV M w us st.ot gv mv)
def GlAt(M:Q5)(w:World)(F:Fg)(N:Nat)(W:PW)(k g:Nat):Prop:=M g/\∃v,∃c:Nat,∃nm,F.s.ns[k]?=some nm/\w.heap[g]?=some (.cells #[v,Q1 c] TGlb (0,0))/\c<=N/\((Pl.find W.globals nm=none/\v=.nilIface)\/∃i p,Pl.find W.globals nm=some i/\W.places[i]?=some p/\RV F.s v p)
structure GmD(D:DataW Value)(F:Fg):Prop where
 tidy:Tidy D
 yes:∀k g,F.gl k=some g->Maps.has D (.int .i64 ((k:Nat):Int))=true/\∀z,D.atKey (.int .i64 ((k:Nat):Int)) z=.held (pt g)
 no:∀k,F.gl k=none->Maps.has D (.int .i64 ((k:Nat):Int))=false
def GmAt(w:World)(gb:Nat)(F:Fg):Prop:=∃D:DataW Value,w.ownsMap prog 3 heldE gb F.gn D/\GmD D F
structure FW(L:Lo)(M O:Q5)(w:World)(F:Fg)(N:Nat)(W:PW):Prop where
 CY:BM M w F.s L.tb L.mb W.pairs
 NN:Bk M w L.sb #[.map (some L.gb)] TFSe
 TH:M L.gb
 UE:L.gb≠L.mb
 map:GmAt w L.gb F
 gn:F.gn<=N
 gat:∀k g,F.gl k=some g->GlAt M w F N W k g
 ginj:∀a b g:Nat,F.gl a=some g->F.gl b=some g->a=b
 gall:∀nm i,Pl.find W.globals nm=some i->(∃k g,F.s.ns[k]?=some nm/\F.gl k=some g)/\F.s.lp[i]?=some none
 gpl:∀a b i,Pl.find W.globals a=some i->Pl.find W.globals b=some i->a=b
 sit:∀st∈F.cs,SitAt M w st
 sn1:(F.cs.map Site.mb).Nodup
 sn2:(F.cs.map Site.sb).Nodup
 sgl:∀st∈F.cs,∃k,F.gl k=some st.g
 pql:F.s.qb.length=W.procs.length
 pqi:∀i j b:Nat,F.s.qb[i]?=some b->F.s.qb[j]?=some b->b≠0->i=j
 pqa:∀(i b:Nat)(q:PF×Env),F.s.qb[i]?=some b->W.procs[i]?=some q->b≠0->PrF M w F b q
 AG:OW (CoF M w F) F.s.cb W.AG
 places:CM M w F.s W.places
 oth:∀k,O k->M k/\(∃cur,w.heap[k]?=some (.cells cur B9 (0,0)))/\∀i o:Nat,F.s.lp[i]? ≠ some (some (k,o))
 pr:F.pr=W.procs
 gs:Gs w M
 JQ:EH w
 gt:w.cell? ⟨1,0,none⟩=some (.iface 207 (.agg #[.pointer (some ⟨8,72,none⟩)]))
 ge:GE w
 tq:F.s.tq=371
 tc:F.s.tc=384
 nl:F.s.ns.length=L.nn
structure Mf(M:Q5)(w:World)(M':Q5)(w':World):Prop where
 AQ:Stp M w M' w'
 keep:∀k,k<w.heap.size->M k->M' k/\(w'.heap[k]?=w.heap[k]? \/ ∃cur e fz,w.heap[k]?=some (.cells cur e fz)/\e≠B9/\e≠TGlb/\e≠TCod/\e≠TInt)
 lt:(∀k,M k->k<w.heap.size)->∀k,M' k->k<w'.heap.size
theorem Mf.mv(h:Mf M w M' w'):Mv M w M' w':=⟨h.AQ,fun k b c=>by
 obtain⟨d,f⟩:=h.keep k b c
 exact⟨d,f.imp id (fun⟨a,e,g,i,j,_⟩=>⟨a,e,g,i,j⟩)⟩,h.lt⟩
theorem Mf.trans{M1 M2 M3:Q5}{a b c:World}(h:Mf M1 a M2 b)(k:Mf M2 b M3 c):Mf M1 a M3 c :=
 ⟨h.AQ.trans k.AQ,fun i e g=>by
  obtain⟨j,d⟩:=h.keep i e g;obtain⟨l,f⟩:=k.keep i (l_ e h.AQ.size) j;refine⟨l,?_⟩;rcases d with d | d
  ·rw [d] at f;exact f
  ·exact .inr d,fun m=>k.lt (h.lt m)⟩
theorem Mf.below(h:Q3 w w'):Mf M w M w':=⟨Stp.AA h,fun k a b=>⟨b,.inl (h.block k a)⟩,fun c k a=>l_ (c k a) h.size⟩
theorem Mf.set{cur:Array Value}{a:Nat×Nat}(d:w.heap[b]?=some (.cells cur T a))(f:M b)(g:T≠B9)(h:T≠TGlb)(i:T≠TCod)(j:T≠TInt)(o:Nat)(v:Value):Mf M w M (w.setCell ⟨b,o,none⟩ v) :=
 ⟨Stp.set f o v,fun k c l=>⟨l,by
  by_cases e:k=b
  ·subst e;exact .inr ⟨cur,T,a,d,g,h,i,j⟩
  ·exact .inl (Below.heap_setCell _ _ _ _ (fun x=>e zM2))⟩,fun m k c=>by simpa [World.setCell] using m k c⟩
theorem Mf.wide(X:Q5)(h:∀k,X k->w.heap.size<=k)(a:Q3 w w')(d:∀k,X k->k<w'.heap.size):Mf M w (Mn M X) w' :=⟨⟨a.os,a.tape,a.output,a.size,fun k b c=>⟨a.block k b,fun x=>x.elim c (fun y=>by have:=h k y;omega)⟩⟩,fun k b c=>⟨.inl c,.inl (a.block k b)⟩,fun e k b=>b.elim (fun y=>l_ (e k y) a.size) (d k)⟩
theorem Mf.same(h:Mf M w M' w')(f:M k){cur:Array Value}(c:w.heap[k]?=some (.cells cur T (0,0)))(g:T=B9\/T=TGlb\/T=TCod\/T=TInt):M' k/\w'.heap[k]?=some (.cells cur T (0,0)):=by
 obtain⟨i,a⟩:=h.keep k (aB c) f;refine⟨i,?_⟩;rcases a with a | ⟨d,e,j,a,b⟩
 ·exact a.trans c
 ·rw [c] at a;simp only [o_,Obj.cells.injEq] at a;obtain⟨_,rfl,_⟩:=a;rcases g with h | h | h | h
  ·exact absurd h b.1
  ·exact absurd h b.2.1
  ·exact absurd h b.2.2.1
  ·exact absurd h b.2.2.2
theorem GmAt.keep{gb:Nat}{F:Fg}(h:GmAt w gb F)(a:w'.heap[gb]?=w.heap[gb]?):GmAt w' gb F:=by obtain⟨D,⟨b,c,d,r⟩,e⟩:=h;exact⟨D,⟨b,c,a.trans d,r⟩,e⟩
theorem GmAt.F6{gb:Nat}{F:Fg}(h:GmAt w gb F):∃a c,w.heap[gb]?=some (.map a c):=by obtain⟨D,⟨a,c,b,_⟩,_⟩:=h;exact⟨a,c,b⟩
theorem SitAt.go{st:Site}(h:SitAt M w st)(a:Stp M w M' w')(b:M' st.mb)(d:M' st.sb)(f:w'.heap[st.mb]?=w.heap[st.mb]?)(g:w'.heap[st.sb]?=w.heap[st.sb]?)(i:w'.heap[st.g]?=w.heap[st.g]?):SitAt M' w' st:=by obtain⟨j,k,l,c,e,m,n,o,p,q,r,s,t⟩:=h.ex;exact⟨b,d,j,k,l,c,e,f.trans m,g.trans n,i.trans o,p,q.AQ a,r,s,fun x=>(t x).go a⟩
theorem SitAt.mf{st:Site}(h:SitAt M w st)(a:Mf M w M' w')(g:M st.g):SitAt M' w' st:=by obtain⟨n,o,p,c,e,b,d,f,q,r,s,t,u⟩:=h.ex;obtain⟨i,j⟩:=a.same h.mb b (.inr (.inr (.inl rfl)));obtain⟨k,l⟩:=a.same h.sb d (.inr (.inr (.inr rfl)));obtain⟨_,m⟩:=a.same g f (.inr (.inl rfl));exact h.go a.AQ i k (j.trans b.symm) (l.trans d.symm) (m.trans f.symm)
theorem FW.mf{L:Lo}{F:Fg}(h:FW L M O w F N W)(a:Mf M w M' w'):FW L M' O w' F N W:=by
 obtain⟨A,c,p⟩:=h.map.F6;have r:=Fg.Le.refl F;refine⟨h.CY.mv a.mv,h.NN.go a.AQ,(a.keep _ (aB p) h.TH).1,h.UE,h.map.keep (DE a.mv p h.TH),h.gn,fun k g t=>?_,h.ginj,h.gall,h.gpl,fun s f=>?_,h.sn1,h.sn2,h.sgl,h.pql,h.pqi,fun i b q d e j=>(h.pqa i b q d e j).go a.AQ r,h.AG.mono (fun b x u=>u.go a.AQ r),h.places.mv a.mv,fun k l=>?_,h.pr,h.gs.AQ a.AQ,h.JQ.AQ h.gs a.AQ,(bY h.gs a.AQ kT).trans h.gt,?_,h.tq,h.tc,h.nl⟩
 ·obtain⟨d,v,c,y,e,j,m⟩:=h.gat k g t;obtain⟨n,z⟩:=a.same d j (.inr (.inl rfl));exact⟨n,v,c,y,e,z,m⟩
 ·obtain⟨k,l⟩:=h.sgl s f;exact(h.sit s f).mf a (h.gat k _ l).1
 ·obtain⟨d,⟨o,e⟩,j⟩:=h.oth k l;obtain⟨m,n⟩:=a.same d e (.inl rfl);exact⟨m,⟨o,n⟩,j⟩
 ·obtain⟨v,d,e⟩:=h.ge;exact⟨v,(bY h.gs a.AQ kU).trans d,e⟩
theorem FW.below{L:Lo}{F:Fg}(h:FW L M O w F N W)(a:Q3 w w'):FW L M O w' F N W:=h.mf (Mf.below a)
theorem FW.up{L:Lo}{F:Fg}{N':Nat}(h:FW L M O w F N W)(b:N<=N'):FW L M O w F N' W :=
 have a:∀k g,F.gl k=some g->GlAt M w F N' W k g:=fun k g a=>by obtain⟨d,v,c,e,f,i,j,l⟩:=h.gat k g a;exact⟨d,v,c,e,f,i,t_ j b,l⟩
 {h with gn:=t_ h.gn b,gat:=a}
theorem FW.outW{L:Lo}{F:Fg}(h:FW L M O w F N W)(o:AE):FW L M O w F N {W with out:=o}:={h with CY:=h.CY}
theorem FW.less{L:Lo}{O':Q5}{F:Fg}(h:FW L M O w F N W)(a:∀k,O' k->O k):FW L M O' w F N W:={h with oth:=fun k b=>h.oth k (a k b)}
structure Cx where
 L:Lo
 rb:Nat
 z:Nat
 T:Nat
 B:Nat
 W0:PW
 S0:PS
abbrev Cx.At(c:Cx)(k:Nat)(W:PW)(S:PS):Prop:=Go.Proofs.YtbgghmjmcapmlaaGreatDoor.At c.W0 c.S0 c.z c.T k W S
structure Mch(c:Cx)(M:Q5)(w:World)(kv lv av gv:Value)(n:Nat)(ov:Value):Prop where
 blk:w.heap[c.rb]?=some (.cells #[kv,lv,av,gv,Q1 n,Q1 c.z,ov] TFMc (0,0))
 m:M c.rb
def LfR(M:Q5)(w:World)(v:Value)(fs:List Value):Prop:=w.ownsRow 0 TFrm 1 v fs.length fs/\∀g,v.ownBlock=some g->M g
def ArgsAt(M O:Q5)(w:World)(s:Sg)(v:Value)(us:List Value):Prop:=∃ao cap,v=.slice ao us.length cap/\us.length<=cap/\(us.length=0\/∃g off cur,ao=some ⟨g,off,none⟩/\M g/\¬O g/\w.heap[g]?=some (.cells cur B9 (0,0))/\(∀(i:Nat)(u:Value),us[i]?=some u->cur[off+i]?=some u)/\∀i o:Nat,s.lp[i]? ≠ some (some (g,o)))
structure Stt(c:Cx)(M O:Q5)(w:World)(F:Fg)(kv:Value)(n m:Nat)(W:PW):Prop where
 fw:FW c.L M O w F (c.B+m) W
 mc:∃lv av gv ov,Mch c M w kv lv av gv n ov/\LfR M w lv []/\DS M w ov W.out
 bd:c.B+c.T<=9000000000000000000/\c.T<=1010000/\c.z<=1000000
abbrev St(c:Cx)(M O:Q5)(w:World)(F:Fg)(kv:Value)(n:Nat)(W:PW):Prop:=Stt c M O w F kv n n W
def PnW(W:PW)(fx:PV)(args:List PV):Prop:=(∀v∈fx::args,BL W v)/\(∀t,fx=.AZ t->t=AU)/\args.length<=2000
structure Pend(c:Cx)(M O:Q5)(w:World)(F:Fg)(kv:Value)(n:Nat)(W:PW)(Fs:List CW)(fx:PV)(args:List PV):Prop where
 fw:FW c.L M O w F (c.B+n) W
 mc:∃lv av gv ov fs us,Mch c M w kv lv av gv n ov/\LfR M w lv fs/\BY (FrF M w F) fs Fs/\DS M w ov W.out/\RV F.s av fx/\ArgsAt M O w F.s gv us/\BY (RV F.s) us args
 bd:c.B+c.T<=9000000000000000000/\c.T<=1010000/\c.z<=1000000
 wf:PnW W fx args
abbrev aGG(v e:Value):Ending:=.returned (.tuple #[v,e])
inductive PoR (c:Cx) (M O:Q5) (w:World) (F:Fg) (kv:Value) (K:List CW) (k z:Nat) (W:PW) (S:PS):Ending->Prop
 | val (v:Value) (W':PW) (S':PS) (hs:Pl.step W S=⟨0,W',S'⟩) (ho:c.z<=k->W'.out=W.out) (hf:S'.form=none) (hK:S'.AB=K) (hv:RV F.s v S'.val) (h:St c M O w F kv (k+1) W'):PoR c M O w F kv K k z W S (aGG v .nilIface)
 | err (es:Q8) (x:Nat) (hx:x≠0) (hs:(Pl.step W S).e=x) (hw:(Pl.step W S).W=W) (h:St c M O w F kv (k+1) W):PoR c M O w F kv K k z W S (aGG .nilIface (aY es (x:Int)))
 | spent (es:Q8) (hz:c.z<=k) (h:St c M O w F kv (k+1) W):PoR c M O w F kv K k z W S (aGG .nilIface (aY es 7))
 | pend (Fs:List CW) (S0:PS) (fx:PV) (args:List PV) (hs:Pl.step W S=Pl.apply W S0 fx args) (hK:S0.AB=Fs++K) (hl:Fs.length<=z) (h:Pend c M O w F kv (k+1) W Fs fx args):PoR c M O w F kv K k z W S (aGG .nilIface .nilIface)
def Post(c:Cx)(M O:Q5)(w:World)(F:Fg)(kv:Value)(K:List CW)(n z:Nat)(e:Ending)(w':World):Prop :=∃M' G k W S,Stp M w M' w'/\(∀b,O b->w'.heap[b]?=w.heap[b]?)/\Fg.Le F G/\c.At k W S/\S.ended=false/\n<=k+1/\k+2<=n+z/\PoR c M' O w' G kv K k z W S e
def CodeOk(c:Cx)(M0:Q5)(w0:World)(F0:Fg)(u:Value)(f:PF)(sc:List (List AE)):Prop:=∃kf cap,u=fnV kf cap/\Enters kf/\∀(M O:Q5)(w:World)(F:Fg)(kv hv:Value)(K:List CW)(n:Nat)(W:PW)(S:PS),Stp M0 w0 M w->Fg.Le F0 F->St c M O w F kv n W->EnvF M w F.s hv S.env sc->c.At n W S->S.form=some f->S.AB=K->n+2*IU f<=c.T ->
 Q2 kf (#[pt c.rb,hv]++cap) w (Post c M O w F kv K n (2*IU f))
theorem CodeOk.go{c:Cx}{F G:Fg}{u:Value}{sc:List (List AE)}(h:CodeOk c M w F u f sc)(b:Stp M w M' w')(l:Fg.Le F G):CodeOk c M' w' G u f sc:=by obtain⟨d,a,e,g,i⟩:=h;exact⟨d,a,e,g,fun j O k m o p K n W S q r=>i j O k m o p K n W S (b.trans q) (l.trans r)⟩
def CodeUp(c:Cx)(M0:Q5)(w0:World)(F0:Fg)(u:Value)(f:PF)(sc:List (List AE)):Prop:=∃kf cap,u=fnV kf cap/\Enters kf/\∀(M O:Q5)(w:World)(F:Fg)(kv hv:Value)(K:List CW)(n:Nat)(W:PW)(S:PS),Stp M0 w0 M w->Fg.Le F0 F->St c M O w F kv n W->EnvF M w F.s hv S.env sc->c.At n W S->S.form=some f->S.AB=K->n+2*IU f<=c.T ->
 Q2 kf (#[pt c.rb,hv]++cap) w (Post c M O w F kv K (n+1) (2*IU f-1))
theorem CodeUp.go{c:Cx}{F G:Fg}{u:Value}{sc:List (List AE)}(h:CodeUp c M w F u f sc)(b:Stp M w M' w')(l:Fg.Le F G):CodeUp c M' w' G u f sc:=by obtain⟨d,a,e,g,i⟩:=h;exact⟨d,a,e,g,fun j O k m o p K n W S q r=>i j O k m o p K n W S (b.trans q) (l.trans r)⟩
def TakeOk(c:Cx)(M0:Q5)(w0:World)(F0:Fg)(u:Value)(fr:CW)(sc:List (List AE))(z:Nat):Prop:=∃kf cap,u=fnV kf cap/\Enters kf/\∀(M O:Q5)(w:World)(F:Fg)(kv hv v:Value)(K:List CW)(k:Nat)(W:PW)(S:PS),Stp M0 w0 M w->Fg.Le F0 F->Stt c M O w F kv (k+1) k W->EnvF M w F.s hv fr.env sc->c.At k W S->S.form=none->S.AB=fr::K->RV F.s v S.val->k+1+z<=c.T ->
 Q2 kf (#[pt c.rb,hv,v]++cap) w (Post c M O w F kv K (k+1) z)
theorem aJZ{cs:Array Value}(d:w.heap[b]?=some (.cells cs T (0,0)))(f:T≠e)(h:w.ownsRow base e sz v n xs):∀g,v.ownBlock=some g->g≠b:=fun g c q=>by
 rcases h.2 with⟨rfl,_⟩ | ⟨k,i,j,rfl,_,a,_⟩
 ·cases c
 ·simp only [Value.ownBlock,o_] at c;subst c q;rw [d] at a;simp only [o_,Obj.cells.injEq] at a;exact f a.2.1
theorem aGD(h:w.ownsRow base e sz v n xs)(c:∀g,v.ownBlock=some g->w'.heap[g]?=w.heap[g]?):w'.ownsRow base e sz v n xs:=by refine⟨h.1,h.2.imp id ?_⟩;rintro⟨g,a,b,rfl,d,f,r⟩;exact⟨g,a,b,rfl,d,(c g rfl).trans f,r⟩
theorem tMc:TFMc≠B9/\TFMc≠TGlb/\TFMc≠TCod/\TFMc≠TInt/\TFMc≠TFrm/\TFMc≠JM:=by decide
theorem aGK(a:Q3 w w')(h:w.ownsRow base e sz v n xs):w'.ownsRow base e sz v n xs:=aGD h (fun g b=>a.block g (h.lt g b).2)
theorem LfR.below{fs:List Value}(h:LfR M w v fs)(a:Q3 w w'):LfR M w' v fs:=⟨aGK a h.1,h.2⟩
theorem DS.belowF{fs:AE}(h:DS M w v fs)(a:Q3 w w'):DS M w' v fs:=⟨aGK a h.1,h.2⟩
theorem Mch.below{c:Cx}(h:Mch c M w kv lv av gv n ov)(a:Q3 w w'):Mch c M w' kv lv av gv n ov:=⟨(a.block _ (aB h.blk)).trans h.blk,h.m⟩
theorem Stt.below{c:Cx}{F:Fg}(h:Stt c M O w F kv n m W)(a:Q3 w w'):Stt c M O w' F kv n m W:=by obtain⟨b,d,e,f,g,i,j⟩:=h.mc;exact⟨h.fw.below a,⟨b,d,e,f,g.below a,i.below a,j.belowF a⟩,h.bd⟩
theorem Mch.mf{c:Cx}(h:Mch c M w kv lv av gv n ov)(o:Nat)(v:Value):Mf M w M (w.setCell ⟨c.rb,o,none⟩ v):=Mf.set h.blk h.m tMc.1 tMc.2.1 tMc.2.2.1 tMc.2.2.2.1 o v
theorem LfR.set{c:Cx}(h:Mch c M w kv lv av gv n ov){l:Value}{fs:List Value}(a:LfR M w l fs)(o:Nat)(v:Value):LfR M (w.setCell ⟨c.rb,o,none⟩ v) l fs :=⟨aGD a.1 (fun g b=>Below.heap_setCell _ _ _ _ (fun x=>aJZ h.blk tMc.2.2.2.2.1 a.1 g b zM2)),a.2⟩
theorem DS.setF{c:Cx}(h:Mch c M w kv lv av gv n ov){l:Value}{fs:AE}(a:DS M w l fs)(o:Nat)(v:Value):DS M (w.setCell ⟨c.rb,o,none⟩ v) l fs :=⟨aGD a.1 (fun g b=>Below.heap_setCell _ _ _ _ (fun x=>aJZ h.blk tMc.2.2.2.2.2 a.1 g b zM2)),a.2⟩
theorem Stt.up{c:Cx}{F:Fg}(h:Stt c M O w F kv n m W){m':Nat}(a:m<=m'):Stt c M O w F kv n m' W:=⟨h.fw.up x8,h.mc,h.bd⟩
theorem Stt.tick{c:Cx}{F:Fg}{j:Nat}(h:Stt c M O w F kv n j W)(m:Nat):Stt c M O (w.setCell ⟨c.rb,4,none⟩ (.int .i64 (m:Int))) F kv m j W/\Stp M w M (w.setCell ⟨c.rb,4,none⟩ (.int .i64 (m:Int)))/\∀b,O b->(w.setCell ⟨c.rb,4,none⟩ (.int .i64 (m:Int))).heap[b]?=w.heap[b]? := by
 obtain⟨f,g,i,k,a,l,o⟩:=h.mc;have e:=a.mf 4 (.int .i64 (m:Int));refine⟨⟨h.fw.mf e,⟨f,g,i,k,⟨by have:=aD a.blk 4 (.int .i64 (m:Int));exact this,a.m⟩,l.set a _ _,o.setF a _ _⟩,h.bd⟩,e.AQ,fun b p=>?_⟩;obtain⟨_,⟨q,d⟩,_⟩:=h.fw.oth b p;refine Below.heap_setCell _ _ _ _ (fun x=>?_);have:b=c.rb:=by simpa using x
 subst this;rw [a.blk] at d;simp only [o_,Obj.cells.injEq] at d;exact tMc.1 d.2.1
theorem Stt.cells{c:Cx}{F:Fg}(h:Stt c M O w F kv n m W):w.cell? ⟨c.rb,4,none⟩=some (Q1 n)/\w.cell? ⟨c.rb,5,none⟩=some (Q1 c.z)/\w.frozen? ⟨c.rb,4,none⟩=false:=by obtain⟨b,d,e,f,a,_⟩:=h.mc;exact⟨aA a.blk 4,aA a.blk 5,aF a.blk 4⟩
theorem RV.notNil{p:PV}(h:RV s v p):v≠.nilIface:=by cases h<;>simp
theorem aGO(f:PF):1<=IU f:=by cases f;rw [OL];omega
theorem aGE{S:PS}(h:S.form=some f):S.ended=false:=by simp [Pl.PS.ended,h]
theorem aF8{S:PS}{fr:CW}{K:List CW}(h:S.AB=fr::K):S.ended=false:=by simp [Pl.PS.ended,h]
end
section
open Go.RowKit Go.Lib Go.Maps
variable {M:Q5} {w w':World} {v mv:Value} {F:Fg} {b k:Nat} {T:TypeId}
@[reducible] def TOuF (T:TypeId):Prop:=T=46\/T=74\/T=999999
structure Sty(w w':World):Prop where
 size:w.heap.size<=w'.heap.size
 cells:∀{k:Nat} {c:Array Value} {T:TypeId},w.heap[k]?=some (.cells c T (0,0))->¬TOuF T->w'.heap[k]?=some (.cells c T (0,0))
 map:∀{k:Nat} {es:Array MapEntry} {c:Nat},w.heap[k]?=some (.map es c)->w'.heap[k]?=some (.map es c)
 low:∀k,k<8->w'.heap[k]?=w.heap[k]?
theorem Bx.sty(h:Bx M w b v T)(a:Sty w w')(c:¬TOuF T:=by decide):Bx M w' b v T:=⟨h.1,a.cells h.2 c⟩
theorem Bk.sty{v:Array Value}(h:Bk M w b v T)(a:Sty w w')(c:¬TOuF T:=by decide):Bk M w' b v T:=⟨h.1,a.cells h.2 c⟩
theorem Sl.sty{sz:Nat}{n:Nat}{xs:List Value}(h:Sl M w T sz v n xs)(d:Sty w w')(e:¬TOuF T:=by decide):Sl M w' T sz v n xs:=by obtain⟨f,i,a,rfl,j,k⟩:=h;refine⟨f,i,a,rfl,j,k.imp id ?_⟩;rintro⟨g,b,c,rfl,l,m,o⟩;exact⟨g,b,c,rfl,l,d.cells m e,o⟩
theorem FD.sty{s:Sg}(a:Sty w w'){fs:List PV}(h:FD M w s v fs):FD M w' s v fs:=by obtain⟨b,c,d⟩:=h;exact⟨b,c.sty a,d⟩
theorem EnvF.sty{s:Sg}(l:Sty w w'){e:Env}{sc:List (List AE)}(h:EnvF M w s v e sc):EnvF M w' s v e sc:=by
 induction h with
 | nil=>exact .nil
 | cons b m n d a o f sc p c j q _ r =>
  exact .cons b m n d a o f sc (p.sty l) c j (fun i t=>by
   obtain⟨g,k,u,x⟩:=q i t
   exact⟨g,k,u,x⟩) r
theorem RC.sty(e:Sty w w'){f:PF}{sc:List (List AE)}(h:RC M w F v f sc):RC M w' F v f sc:=by
 induction h with
 | const b x i d v q j sc s hv=>exact .const b x i d v q j sc (s.sty e) hv
 | loc b c Q R i d v q j sc s S C T=>exact .loc b c Q R i d v q j sc (s.sty e) (S.sty e) C T
 | DI b c g k i d v q j sc s S E G C=>exact .DI b c g k i d v q j sc (s.sty e) (S.sty e) E G C
 | iff n o t D O u v1 v2 x y z i d v j sc l m H A r _ _ _ i1 i2 i3=>exact .iff n o t D O u v1 v2 x y z i d v j sc (l.sty e) (m.sty e) (H.sty e) (A.sty e) (r.sty e) i1 i2 i3
 | begin b P I i d v q j sc s l m _ A r p=>exact .begin b P I i d v q j sc (s.sty e) (l.sty e) m p A r
 | setL n o t D O Q R u x i d v j sc l m H A r C T _ p=>exact .setL n o t D O Q R u x i d v j sc (l.sty e) (m.sty e) (H.sty e) (A.sty e) (r.sty e) C T p
 | setG n o t D O g k a u x i d v j sc l m H A r E G C _ p=>exact .setG n o t D O g k a u x i d v j sc (l.sty e) (m.sty e) (H.sty e) (A.sty e) (r.sty e) E G C p
 | define n o t D g k u x i d v j sc l m H A E G _ p=>exact .define n o t D g k u x i d v j sc (l.sty e) (m.sty e) (H.sty e) (A.sty e) E G p
 | lambda n o u x i d v j sc l m J _ p=>exact .lambda n o u x i d v j sc (l.sty e) (m.sty e) J p
 | callA n o P I i d v q j sc s B l m _ A r p=>exact .callA n o P I i d v q j sc (s.sty e) (B.sty e) (l.sty e) m p A r
 | callL n o t D P u0 I i d v q j K U V x L sc s B N W J _ l m _ r i0 p=>exact .callL n o t D P u0 I i d v q j K U V x L sc (s.sty e) (B.sty e) (N.sty e) (W.sty e) J i0 (l.sty e) m p r
 | callG n o t k st I i d v q j K U V X L sc Y Z B N E G C l m _ r _ p io=>exact .callG n o t k st I i d v q j K U V X L sc Y (Z.sty e) (B.sty e) (N.sty e) E G C (l.sty e) m p r io
theorem RT.sty(d:Sty w w'){f:CW}{sc:List (List AE)}(h:RT M w F v f sc):RT M w' F v f sc:=by
 cases h with
 | iff i n C D x y z _ _ e o j p E G=>exact .iff i n C D x y z _ _ e o (j.sty d) (p.sty d) (E.sty d) (G.sty d)
 | setL i n H I _ _ e j p o J=>exact .setL i n H I _ _ e (j.sty d) (p.sty d) o J
 | setG i n g k a _ _ e j p q l o=>exact .setG i n g k a _ _ e (j.sty d) (p.sty d) q l o
 | define i g k _ _ e j q l=>exact .define i g k _ _ e (j.sty d) q l
 | one b k t _ _ e r l s A m B=>exact .one b k t _ _ e r l s A m (B.sty d)
 | two b c k t u x y z _ _ e r l s A m B K L=>exact .two b c k t u x y z _ _ e r l s A m (B.sty d) (K.sty d) (L.sty d)
theorem RA.sty(b:Sty w w'){f:PF}{env:Env}{sc:List (List AE)}{a:List PV}(h:RA M w F v f env sc a):RA M w' F v f env sc a:=by
 cases h with
 | any=>exact .any _ _ _
 | lam j k n l _ x c m o d _ _ p e g i q r=>exact .lam j k n l _ x c m o d _ _ p (e.sty b) (g.sty b) i (q.sty b) r
theorem FrF.sty(g:Sty w w'){f:CW}(h:FrF M w F v f):FrF M w' F v f:=by
 cases h with
 | hand b c y l _ o m n q z=>exact .hand b c y l _ o (m.sty g) (n.sty g) (q.sty g) (z.sty g)
 | row b c d i j A l B _ o r m n C q D E s G H=>exact .row b c d i j A l B _ o r (m.sty g) (n.sty g) (C.sty g) (q.sty g) (D.sty g) (E.mono (fun _ _ x=>x.sty g)) s G H
 | gath b c d e A l L y B N a _ o r m n C q l D E I J O u s G H=>exact .gath b c d e A _ L y B N a _ o r (m.sty g) (n.sty g) (C.sty g) (q.sty g) (l.sty g) (D.sty g) (E.mono (fun _ _ x=>x.sty g)) (I.sty g) J (O.sty g) u s G H
 | two b c k t v p _ r P I s z K m n l=>exact .two b c k t v p _ r P I s z K (m.sty g) (n.sty g) l
theorem PlF.sty(a:Sty w w'):∀(d:List CW)(v:Value),PlF M w F v d->PlF M w' F v d
 | [],_,h=>h
 | f::r,v,h=>by obtain⟨b,c,e,g,i,j,k⟩:=h;exact⟨b,c,e,g,i.sty a,j.sty a,PlF.sty a r e k⟩
theorem PrF.sty(a:Sty w w'){q:PF×Env}(h:PrF M w F b q):PrF M w' F b q:=by obtain⟨u,c,x,d,e,f,g,i,j⟩:=h;exact⟨u,c,x,d,e.sty a,f,g,i.sty a,j.sty a⟩
theorem CoF.sty(a:Sty w w'){q:List CW}(h:CoF M w F b q):CoF M w' F b q:=by obtain⟨c,d,e⟩:=h;exact⟨c,d.sty a,PlF.sty a _ _ e⟩
theorem One.sty{a:Value}(h:One M w mv k a)(b:Sty w w'):One M w' mv k a:=by obtain⟨c,d,e,f,g,i,j,l,m⟩:=h;exact⟨c,d,e,f,g,i.sty b,j.sty b,l.sty b,m.sty b⟩
theorem Two.sty{a b:Value}(h:Two M w mv k a b)(c:Sty w w'):Two M w' mv k a b:=by obtain⟨d,e,f,g,i,j,l,m,n,o,p⟩:=h;exact⟨d,e,f,g,i,j,l.sty c,m.sty c,n.sty c,o.sty c,p.sty c⟩
theorem MadeK.sty{us:List Value}{ot:Value}(h:MadeK M w us ot mv k)(a:Sty w w'):MadeK M w' us ot mv k:=by
 unfold MadeK at h ⊢;split at h
 ·exact One.sty h a
 ·exact Two.sty h a
 ·exact h
theorem MadeV.sty{us:List Value}{ot gv:Value}(h:MadeV M w us ot gv mv)(a:Sty w w'):MadeV M w' us ot gv mv:=by
 rcases h with⟨k,b,c⟩ | h
 ·exact .inl ⟨k,b,c.sty a⟩
 ·exact .inr h
theorem SitAt.sty{st:Site}(h:SitAt M w st)(a:Sty w w'):SitAt M w' st:=by obtain⟨b,d,f,c,e,g,i,j,k,l,m,n,o⟩:=h.ex;exact⟨h.mb,h.sb,b,d,f,c,e,a.cells g w8,a.cells i w8,a.cells j w8,k,l.sty a,m,n,fun q=>(o q).sty a⟩
theorem FW.sty{L:Lo}{O:Q5}{N:Nat}{W:PW}(h:FW L M O w F N W)(a:Sty w w'):FW L M O w' F N W:=by
 have d:∀k o,k<8->w'.cell? ⟨k,o,none⟩=w.cell? ⟨k,o,none⟩:=fun k o e=>World.cell?_of_block (w:=w) (a.low k e);obtain⟨S,T,j⟩:=h.CY.B3.F6;obtain⟨U,c,l⟩:=h.map.F6;refine⟨⟨h.CY.B3.keep ((a.cells h.CY.B3.blk w8).trans h.CY.B3.blk.symm) ((a.map j).trans j.symm),⟨h.CY.pairs.len,h.CY.pairs.nodup,fun i b p E r=>?_⟩,h.CY.FV,h.CY.JJ,fun k e=>l_ (h.CY.mlt k e) a.size⟩,h.NN.sty a,h.TH,h.UE,h.map.keep ((a.map l).trans l.symm),h.gn,fun k g e=>?_,h.ginj,h.gall,h.gpl,fun G q=>(h.sit G q).sty a,h.sn1,h.sn2,h.sgl,h.pql,h.pqi,fun i b q H I J=>(h.pqa i b q H I J).sty a,h.AG.mono (fun b x K=>K.sty a),⟨h.places.len,h.places.inj,fun i g o p P r=>?_⟩,fun k e=>?_,h.pr,⟨t_ h.gs.size a.size,h.gs.low,iH a.low h.gs.B3⟩,fun k s e t=>?_,(d _ _ kT).trans h.gt,?_,h.tq,h.tc,h.nl⟩
 ·obtain⟨m,x,y,n,z,A⟩:=h.CY.pairs.at_ i b p E r;exact⟨m,x,y,a.cells n w8,z,A⟩
 ·obtain⟨B,v,Q,s,C,D,R⟩:=h.gat k g e;exact⟨B,v,Q,s,C,a.cells D w8,R⟩
 ·obtain⟨m,f,v,n,z,A⟩:=h.places.at_ i g o p P r;exact⟨m,f,v,a.cells n w8,z,A⟩
 ·obtain⟨B,⟨f,C⟩,D⟩:=h.oth k e;exact⟨B,⟨f,a.cells C w8⟩,D⟩
 ·rw [d _ _ jN,d _ _ jN];exact h.JQ k s e t
 ·obtain⟨u,m,n⟩:=h.ge;exact⟨u,(d _ _ kU).trans m,n⟩
end
open Pl (AW)
section
open Go.RowKit Go.Maps Go.Lib
def sgF(N:List AE):Sg:=⟨371,384,[],[],[],List.replicate 13 none,N⟩
def fgF(N:List AE)(gl:Nat->Option Nat):Fg:=⟨sgF N,gl,13,[],[]⟩
def MF(L:Lo)(gl:Nat->Option Nat)(k:Nat):Prop:=k=L.mb\/k=L.gb\/∃j,gl j=some k
theorem new_fw{w0 w:World}{L:Lo}{N:List AE}{gl:Nat->Option Nat}{D:DataW Value}{W:PW}(C:N.length=L.nn)(t:W.pairs=[]/\W.procs=[]/\W.AG=[]/\W.places.length=13)(B:Stp (fun _=>False) w0 (MF L gl) w)(d:Gs w0 (fun _=>False))(hp:EH w0)(E:w0.cell? ⟨1,0,none⟩=some (.iface 207 (.agg #[.pointer (some ⟨8,72,none⟩)])))(F:GE w0)(f:IW w L.tb L.mb N)(G:¬MF L gl L.tb)(H:L.gb≠L.mb)
  (x:w.heap[L.sb]?=some (.cells #[.map (some L.gb)] TFSe (0,0))) (I:¬MF L gl L.sb) (h:w.ownsMap prog 3 heldE L.gb 13 D) (M:GmD D (fgF N gl))
  (y:∀k g,gl k=some g->∃v l i p,N[k]?=some l/\w.heap[g]?=some (.cells #[v,Q1 0] TGlb (0,0))/\Pl.find W.globals l=some i/\W.places[i]?=some p/\RV (sgF N) v p) (z:∀a b g:Nat,gl a=some g->gl b=some g->a=b)
  (A:∀l i,Pl.find W.globals l=some i->(∃k g,N[k]?=some l/\gl k=some g)/\(List.replicate 13 (none:Option (Nat×Nat)))[i]?=some none) (J:∀a b i,Pl.find W.globals a=some i->Pl.find W.globals b=some i->a=b) :
  FW L (MF L gl) (fun _=>False) w (fgF N gl) 13 W:=by
 have K:∀k,MF L gl k->k<w.heap.size:=fun k s=>by
  rcases s with rfl | rfl | ⟨j,O⟩
  ·exact f.lt.2
  ·obtain⟨Y,c,m,_⟩:=h;exact aB m
  ·obtain⟨_,_,_,_,_,m,_⟩:=y j k O;exact aB m
 refine⟨⟨f,by rw [t.1];exact⟨rfl,List.nodup_nil,fun i b p m=>by cases m⟩,.inl rfl,G,K⟩,⟨I,x⟩,.inr (.inl rfl),H,⟨D,h,M⟩,n_,fun k g s=>?_,z,A,J,fun P n=>(by cases n),List.nodup_nil,List.nodup_nil,fun P n=>(by cases n),by rw [t.2.1];rfl,fun i j b r=>(by cases r),fun i b q r=>(by cases r),by rw [t.2.2.1];exact⟨rfl,List.nodup_nil,fun i b p m=>by cases m⟩,⟨t.2.2.2.symm,fun i j c r=>?_,fun i g o p r=>?_⟩,fun k s=>s.elim,t.2.1.symm,d.AQ B,hp.AQ d B,(bY d B kT).trans E,?_,rfl,rfl,C⟩
 ·obtain⟨v,l,i,p,Q,R,S,T,U⟩:=y k g s;exact⟨.inr (.inr ⟨k,s⟩),v,0,l,Q,R,Nat.zero_le _,.inr ⟨i,p,S,T,U⟩⟩
 ·have:=q_ r;have e:=List.eq_of_mem_replicate this
  cases e
 ·have:=q_ r;have e:=List.eq_of_mem_replicate this
  cases e
 ·obtain⟨u,V,X⟩:=F;exact⟨u,(bY d B kU).trans V,X⟩
structure NwI(w2:World)(gb r:Nat)(D0:DataW Value)(wr:World)(left:Lit->Bool)(n:Nat)(Dout:DataW Value)(gl:Nat->Option Nat):Prop where
 own:wr.ownsMap prog 3 heldE gb n Dout
 yes:∀(k g:Nat),gl k=some g->Maps.has Dout (.int .i64 (k:Int))=true/\∀z,Dout.atKey (.int .i64 (k:Int)) z=.held (pt g)
 no:∀(k:Nat),gl k=none->Maps.has Dout (.int .i64 (k:Int))=false
 at_:∀(k g:Nat),gl k=some g->r<g/\∃v,wr.heap[g]?=some (.cells #[v,Q1 0] TGlb (0,0))/\∀z,D0.atKey (.int .i64 (k:Int)) z=.held v
 inj:∀(a b g:Nat),gl a=some g->gl b=some g->a=b
 lf:∀k:Nat,Maps.has D0 (.int .i64 (k:Int))=true->(∃g,gl k=some g)\/left (.int .i64 (k:Int))=true
 old:∀k,k<r->k≠gb->wr.heap[k]?=w2.heap[k]?
 same:wr.os=w2.os/\wr.tape=w2.tape/\wr.output=w2.output
 sz:r<wr.heap.size
theorem NwI.step{w2:World}{gb r:Nat}{F:DataW Value}{wr:World}{left:Lit->Bool}{n:Nat}{i:DataW Value}{gl:Nat->Option Nat}(h:NwI w2 gb r F wr left n i gl)(N:gb<r)(S:n<14){x:Int}{c:Value}(O:(Lit.int .i64 x).wf=true)(G:∀z,F.atKey (.int .i64 x) z=.held c){w1:World}(l:wr.grownBy w1 (some r))(P:w1.heap.size=wr.heap.size) :∃y,(Instr.mapUpdate 107 (.map (some gb)) (.int .i64 x) (Q0 w1.heap.size)).run prog (w1.alloc (.cells #[c,Q1 0] 116))=.ok () y/\(w1.alloc (.cells #[c,Q1 0] 116)).grownBy y (some gb)/\∃o H,NwI w2 gb r F y (fun z=>left z&&!z.sameKey (.int .i64 x)) (n+1) o H:=by
 have p:(w1.alloc (.cells #[c,Q1 0] 116)).ownsMap prog 3 heldE gb n i:=(h.own.kept l (fun e=>by have:=i_ e;omega)).alloc _;have A:WideAt.IsKeyLit (.int .i64 x):=trivial;obtain⟨y,B,q,s⟩:=p.store TN underlying107 o6 (keyOf_int_mk underlying3 O) (d:=.held (pt w1.heap.size)) (ps:=[]) (val:=pt w1.heap.size) rfl;have t:=s.grown;have K:IsMap i:=h.own.isMap;have I:Q3 w1 (w1.alloc (.cells #[c,Q1 0] 116)):=b_;have Q:=h.sz;have L:∀k,k<w1.heap.size->k≠gb->k≠r->y.heap[k]?=wr.heap[k]? := fun k f C m=>by rw [t.block k (by have:=I.size;omega) (fun e=>C (i_ e)),I.block k f];exact l.block k x8 (fun e=>m (i_ e))
 have E:∀{k:Nat},(k:Int)≠x->(Lit.int .i64 (k:Int))≠.int .i64 x:=fun f e=>f (by injection e);refine⟨y,B,t,_,fun j=>if(j:Int)=x then some w1.heap.size else gl j,⟨q,fun k g f=>?_,fun k f=>?_,fun k g f=>?_,fun a b g u w=>?_,fun k f=>?_,fun k f D=>?_,?_,?_⟩⟩
 ·try dsimp only at f
  by_cases e:(k:Int)=x
  ·rw [if_pos e] at f;obtain rfl:=i_ f;rw [e];exact⟨has_put_same K A _,fun z=>atKey_put_same K A _ z⟩
  ·rw [if_neg e] at f;obtain⟨C,m⟩:=h.yes k g f;exact⟨by rw [has_put_other (E e)];exact C,fun z=>by rw [atKey_put_other (E e)];exact m z⟩
 ·try dsimp only at f
  by_cases e:(k:Int)=x
  ·rw [if_pos e] at f;cases f
  ·rw [if_neg e] at f;rw [has_put_other (E e)];exact h.no k f
 ·try dsimp only at f
  by_cases e:(k:Int)=x
  ·rw [if_pos e] at f;obtain rfl:=i_ f;refine⟨x8,c,?_,by rw [e];exact G⟩;rw [t.block _ w9 (fun e=>by have:=i_ e;omega)];exact heap_alloc_new _ _
  ·rw [if_neg e] at f;obtain⟨C,v,m,R⟩:=h.at_ k g f;have:=aB m;exact⟨C,v,(L g x8 x8 x8).trans m,R⟩
 ·try dsimp only at u w
  have M:∀{k:Nat},gl k=some w1.heap.size->False:=fun f=>by obtain⟨_,_,m,_⟩:=h.at_ _ _ f;have:=aB m;omega
  by_cases e:(a:Int)=x<;>by_cases J:(b:Int)=x
  ·omega
  ·rw [if_pos e] at u;rw [if_neg J] at w;obtain rfl:=i_ u;exact(M w).elim
  ·rw [if_neg e] at u;rw [if_pos J] at w;obtain rfl:=i_ w;exact(M u).elim
  ·rw [if_neg e] at u;rw [if_neg J] at w;exact h.inj a b g u w
 ·try dsimp only
  by_cases e:(k:Int)=x
  ·exact .inl ⟨_,if_pos e⟩
  ·rw [if_neg e,sameKey_ne (E e)];simpa using h.lf k f
 ·rw [L k x8 D x8];exact h.old k f D
 ·exact⟨t.os.trans (l.os.trans h.same.1),t.tape.trans (l.tape.trans h.same.2.1),t.output.trans (l.output.trans h.same.2.2)⟩
 ·have:=t.size;have:=I.size;omega
theorem NwI.up{w2:World}{gb r:Nat}{b:DataW Value}{wr:World}{left:Lit->Bool}{n n':Nat}{a:DataW Value}{gl:Nat->Option Nat}(h:NwI w2 gb r b wr left n a gl)(c:n<=n'):NwI w2 gb r b wr left n' a gl:={h with own:=h.own.mono c}
def wFS(w:World):World:=(w.alloc (.map #[] 0)).alloc (.cells #[.map (some w.heap.size)] 109)
theorem wFS_at(w:World):(wFS w).heap[w.heap.size]?=some (.map #[] 0)/\(wFS w).heap[w.heap.size+1]?=some (.cells #[.map (some w.heap.size)] 109 (0,0))/\(wFS w).heap.size=w.heap.size+2/\Q3 w (wFS w):=by refine⟨(k_ w9).trans (heap_alloc_new w _),?_,by simp [wFS],b_.alloc w9 _⟩;have:=heap_alloc_new (w.alloc (.map #[] 0)) (.cells #[.map (some w.heap.size)] 109);rw [show(w.alloc (.map #[] 0)).heap.size=w.heap.size+1 from by simp] at this;exact this
def NwQ(w:World)(tb mb:Nat)(n0:List AE)(w':World):Prop:=∃w2 D0 Dout gl left,GQ (wFS w) tb mb (w.heap.size+2) n0 13 w2/\GI w2 (w.heap.size+2) n0 13 D0/\NwI w2 w.heap.size w2.heap.size D0 w' left 13 Dout gl/\∀k,left k=false
theorem intInv(a:Value)(b:Lit)(h:keyOf prog 3 a=some b):∃x,a=Value.int .i64 x:=by obtain⟨x,rfl,_⟩:=Maps.keyOf_int_inv underlying3 h;exact⟨x,rfl⟩
theorem p_newFS(w:World)(tb mb:Nat)(i:List AE)(B:i.length<=1000)(C:i.Nodup)(V:IW w tb mb i)(hg:8<=w.heap.size)(E:∀S,Q3 w S->EH S) :Q2 18 #[Q0 tb] w fun e S=>e=.returned (Q0 (w.heap.size+1))/\NwQ w tb mb i S:=by
 have W:=@run_makeMap prog;obtain⟨a1,a2,a3,U⟩:=wFS_at w;have l:=V.lt;have HG:Hid (Q2 33 #[Q0 tb] ((w.alloc (.map #[] 0)).alloc (.cells #[.map (some w.heap.size)] 109)) fun e d=>e=.returned (.map (some (w.heap.size+2)))/\∃f,d.ownsMap prog 3 heldE (w.heap.size+2) 13 f/\Hid (GQ (wFS w) tb mb (w.heap.size+2) i 13 d/\GI d (w.heap.size+2) i 13 f)):=by have h0:=sJ (wFS w) tb mb i B C (V.keep (U.block _ l.1) (U.block _ l.2)) (E _ U) x8;rw [a3] at h0;refine h0.mono (fun e d X=>⟨X.1,?_⟩);obtain⟨D,hD⟩:=X.2.2.1;exact⟨D,hD.own,X.2,hD⟩
 have HX:Hid (∀(d wr:World)(f:DataW Value),GQ (wFS w) tb mb (w.heap.size+2) i 13 d/\GI d (w.heap.size+2) i 13 f->d.grownBy wr none->wr.heap.size=d.heap.size+1->NwI d w.heap.size d.heap.size f wr (Maps.has f) 0 (.map []) (fun _=>none)):=fun d wr f ⟨Y,h2⟩ F h4=>by
  obtain⟨q1,q2,Z,q4,q5,q6,q7,q8,q9⟩:=Y;have b0:d.heap[w.heap.size]?=some (.map #[] 0):=(Z _ x8 (by have:=l.2;omega)).trans a1;have o0:d.ownsMap (H:=Value) prog 3 heldE w.heap.size 0 (.map []):=by obtain⟨es,c,hb,r⟩:=World.ownsMap_made (H:=Value) w prog 3 heldE;rw [heap_alloc_new] at hb;simp only [o_,Obj.map.injEq] at hb;obtain⟨rfl,rfl⟩:=hb;exact⟨#[],0,b0,r⟩
  exact⟨o0.kept F w9,fun k g u=>(by cases u),fun k _=>rfl,fun k g u=>(by cases u),fun a b g ha=>(by cases ha),fun k u=>.inr u,fun k u _=>F.block k u w9,⟨F.os,F.tape,F.output⟩,x8⟩
 have HS:Hid (∀(d:World)(f:DataW Value),GQ (wFS w) tb mb (w.heap.size+2) i 13 d/\GI d (w.heap.size+2) i 13 f->d.heap[w.heap.size+1]?=some (.cells #[.map (some w.heap.size)] 109 (0,0))/\w.heap.size+2<d.heap.size):=fun d f ⟨Y,h2⟩=>by obtain⟨q1,q2,Z,q4,q5,q6,q7,q8,q9⟩:=Y;exact⟨(Z _ x8 (by have:=l.2;omega)).trans a2,q8⟩
 clear V hg E B C l a1 a2 a3 U;go_enter func18,ntmps18
 go_wp2_with (first
  | (go_at_call 33;refine(Calls.mono HG ?_);rintro e d ⟨rfl,f,m,o⟩)
  | (at_range;refine wpList_range_own _ rfl _ 110 rfl 3 113 TN underlying110 _ (w.heap.size+2) 13 _ rfl m ?_;intro w0 G aa ab)
  | go_in)
 go_frame
 have am:=m.size_le;obtain⟨ac,al⟩:=HS.out d f o;have I:=h_ (HX d w0 f o aa ab);clear m HX HS HG W
 go_loopw [12] (fun _ wr=>∃(left:Lit->Bool)(p:Nat)(n:DataW Value)(gl:Nat->Option Nat),wr.ranges prog 3 heldE (w.heap.size+2) d.heap.size 13 f left p/\p<=Maps.size f/\Hid (NwI d w.heap.size d.heap.size f wr left (Maps.size f-p) n gl))
  (fun _ wr=>wr.rangeLeft (w.heap.size+2) d.heap.size)
 case atStart =>exact⟨_,_,.map [],fun _=>none,G,n_,by rw [Nat.sub_self];exact I⟩
 case round =>
  obtain⟨left,p,n,gl,J,an,K⟩:=hrel;have ad:wr.cell? ⟨w.heap.size+1,0,none⟩=some (.map (some w.heap.size)):=aA ((K.old _ x8 x8).trans ac) 0
  go_wp2_with (first
   | (at_next;refine wpList_next_ranges _ rfl _ rfl 3 TN heldE (Value.int .i64) (fun v:Value=>v) intInv (fun v _ _=>⟨v,rfl⟩) (w.heap.size+2) d.heap.size 13 _ _ _ rfl J ?_ ?_)
   | go_in)
  ·intro ae af;subst ae;have HE:=(show Hid (NwQ w tb mb i wr) from⟨d,f,n,gl,left,o.1,o.2,K.up x8,af⟩)
   clear K I;go_wp2_with fail;go_ret;exact⟨rfl,HE⟩
  ·intro x c kl y1 y2 w1 L M ao hy q N ag O s ap;obtain⟨x',ex,ah,P⟩:=Maps.keyOf_int_inv underlying3 M;obtain rfl:x=x':=by injection ex
   subst ah;have y:y1=.held c:=by have h:some ((.held c:DataW Value),([]:List MemPlace))=some (y1,y2):=hy;simp only [o_,Prod.mk.injEq] at h;exact h.1.symm
   obtain⟨Tc,xc,rfl⟩:∃T x,c=.iface T x:=by
    have hh:Maps.has f (.int .i64 x)=true:=has_true_of_atKey q;obtain⟨kk,rfl⟩:=o.2.nat x hh;obtain⟨j,nm,j1,j2,j3⟩:=o.2.no kk hh;obtain⟨k',k1,k2,k3⟩:=o.2.yes j nm j1 j2;have e1:=cV o.2.nodup j3;have e2:=cV o.2.nodup k1;obtain rfl:kk=k':=by omega
    have:=(k3 (.held .nilIface)).symm.trans ((q (.held .nilIface)).trans y);have e:NJ j=c:=by injection this
    rw [<- e]
    cases j with
    | zero=>exact⟨_,_,rfl⟩
    | succ j=>exact⟨_,_,rfl⟩
   obtain⟨w3,Q,ai,A,aj,R⟩:=K.step x8 x8 P (fun z=>(q z).trans y) O s;rw [s] at Q;have aq:w1.cell? ⟨w.heap.size+1,0,none⟩=some (.map (some w.heap.size)):=(World.cell?_of_block (w:=wr) (O.block (w.heap.size+1) (by have:=K.sz;omega) (fun e=>by have:=i_ e;omega))).trans ad;have t:=(N.alloc (.cells #[.iface Tc xc,Q1 0] 116)).kept ai (fun e=>by have:=i_ e;omega) (fun e=>by have:=i_ e;omega);have ak:=h_ R;clear R q hy y M P;go_wp2_with fail
   go_roundw
   case rel=>exact⟨_,L,A,aj,t,x8,ak.up x8⟩
   case measure=>rw [t.left_eq,J.left_eq];exact ag
theorem new_fs{w0 w1 w':World}{tb mb:Nat}{n0:List AE}(s:Q3 w0 w1)(B:Gs w0 (fun _=>False))(hp:EH w0)(C:w0.cell? ⟨1,0,none⟩=some (.iface 207 (.agg #[.pointer (some ⟨8,72,none⟩)])))(E:GE w0)(U:w0.heap.size<=mb)(V:tb≠mb)(X:tb<w1.heap.size)(Y:mb<w1.heap.size)(Z:NwQ w1 tb mb n0 w') :∃o,FW ⟨tb,mb,w1.heap.size+1,w1.heap.size,(H8 n0 13).length⟩ (MF ⟨tb,mb,w1.heap.size+1,w1.heap.size,(H8 n0 13).length⟩ o) (fun _=>False) w' (fgF (H8 n0 13) o) 13 AW/\Stp (fun _=>False) w0 (MF ⟨tb,mb,w1.heap.size+1,w1.heap.size,(H8 n0 13).length⟩ o) w':=by
 obtain⟨w2,D0,t,o,left,hG,x,c,p⟩:=Z;obtain⟨a1,a2,a3,y⟩:=wFS_at w1;obtain⟨O,_,P,q4,q5,q6,q7,q8,q9⟩:=hG;have m:=x.nodup;have n:=x.yes;have u:=x.no;clear x;generalize H8 n0 13=N at m n u O ⊢;have aa:=s.size;have F:∀k,k<w1.heap.size->k≠mb->w'.heap[k]?=w1.heap[k]? := fun k q G=>by rw [c.old k x8 x8,P k x8 G];exact y.block k q
 have r:∀{k g:Nat},o k=some g->w2.heap.size<g:=fun q=>(c.at_ _ _ q).1;have H:∀{k j:Nat} {d:AE},N[k]?=some d->N[j]?=some d->k=j:=fun h1 h2=>by have e1:=cV m h1;have e2:=cV m h2;omega
 have I:∀{d:AE},d∈oF->∃j,j<13/\oF[j]?=some d:=fun hm=>by obtain⟨j,l⟩:=List.getElem?_of_mem hm;have:=(s_ l).1;rw [aAQ] at this;exact⟨j,this,l⟩
 have Q:Stp (fun _=>False) w0 (MF ⟨tb,mb,w1.heap.size+1,w1.heap.size,N.length⟩ o) w':=by
  refine⟨c.same.1.trans (q5.trans (y.os.trans s.os)),c.same.2.1.trans (q6.trans (y.tape.trans s.tape)),c.same.2.2.trans (q7.trans (y.output.trans s.output)),by have:=c.sz;omega,fun k q _=>⟨(F k x8 x8).trans (s.block k q),?_⟩⟩;rintro(e | e | ⟨j,l⟩)
  ·simp only at e;omega
  ·simp only at e;omega
  ·have:=r l;omega
 refine⟨o,new_fw (N:=N) (gl:=o) (D:=t) (L:=⟨tb,mb,w1.heap.size+1,w1.heap.size,N.length⟩) (W:=AW) (Eq.refl _) ⟨rfl,rfl,rfl,rfl⟩ Q B hp C E (O.keep (c.old _ x8 x8) (c.old _ x8 x8)) ?_ zM4 ?_ ?_ c.own ⟨c.own.tidy TN,c.yes,c.no⟩ (fun k g q=>?_) c.inj (fun d i z=>?_) (fun a b i ha J=>?_),Q⟩
 ·exact zK0
 ·exact(c.old _ zM4 zM4).trans ((P _ zM4 zM4).trans a2)
 ·exact zK0
 ·obtain⟨_,v,J,R⟩:=c.at_ k g q;obtain⟨j,d,l,f,w⟩:=u k (has_true_of_atKey R);obtain⟨k',K,_,k3⟩:=n j d l f;obtain rfl:=H w K;have ev:v=NJ j:=by have:=(R (.held .nilIface)).symm.trans (k3 (.held .nilIface));injection this
  subst ev;have hi:=zO d (q_ f);obtain⟨i,z⟩:=Option.isSome_iff_exists.1 hi;obtain⟨M,A,S,T⟩:=l8 _ (eO _ _ _ z);refine⟨_,d,i,.AZ d,w,J,z,T,?_⟩
  cases j with
  | zero =>obtain rfl:AU=d:=i_ f;exact .EC
  | succ j =>
   refine .AZ j d ?_ x8;have:(AU::Pl.AO.take 12)[j+1]?=some d:=f
   rwa [List.getElem?_cons_succ,List.getElem?_take_of_lt x8] at this
 ·obtain⟨M,A,S,T⟩:=l8 _ (eO _ _ _ z);obtain⟨j,l,f⟩:=I A;obtain⟨k,K,k2,_⟩:=n j d l f;refine⟨?_,S⟩;rcases c.lf k k2 with⟨g,hg⟩ | h
  ·exact⟨k,g,K,hg⟩
  ·rw [p] at h;cases h
 ·obtain⟨M,_⟩:=l8 _ (eO _ _ _ ha);obtain⟨A,_⟩:=l8 _ (eO _ _ _ J);exact i_ (M.symm.trans A)
end
section
open Go.RowKit Go.Maps
variable {W W':PW} {M O M0:Q5} {w w' w0:World} {F G F0:Fg} {S:PS} {c:Cx} {kv:Value} {n b N m b' p:Nat} {L:Lo} {nm:AE} {v:PV} {f:PF} {ks:List PF} {ns:List AE} {s:Sg}
theorem aMN{d:Pl.A9}(h:S.form=some (.mk .const nm d v ks ns)):Pl.step W S=⟨0,W,S.A1 v⟩:=by unfold Pl.step;rw [h];rfl
theorem aJC{d:Pl.A9}{p:PV}{k:Nat}(h:S.form=some (.mk .name nm d v ks ns))(a:Pl.DL W S.env nm=some k)(hp:W.places[k]?=some p):Pl.step W S=⟨0,W,S.A1 p⟩:=by unfold Pl.step;rw [h];simp [Pl.PF.k,Pl.PF.nm,a,hp]
theorem aKC{d:Pl.A9}(h:S.form=some (.mk .name nm d v ks ns))(a:Pl.DL W S.env nm=none):Pl.step W S=⟨8,W,S⟩:=by unfold Pl.step;rw [h];simp [Pl.PF.k,Pl.PF.nm,a]
theorem aI0(h:S.form=some f)(a:f.k=.lambda):Pl.step W S=⟨0,{W with procs:=W.procs++[(f,S.env)]},S.A1 (.proc W.procs.length)⟩:=by unfold Pl.step;rw [h];simp [a]
theorem aIH(h:S.form=some f)(a:f.k=.iff\/f.k=.set\/f.k=.define\/f.k=.call):Pl.step W S=⟨0,W,(S.push ⟨f,[],1,S.env⟩).work f.ks[0]? S.env⟩:=by unfold Pl.step;rw [h];rcases a with a | a | a | a<;>simp [a]
theorem aMO(h:S.form=some f)(a:f.k=.begin):Pl.step W S=⟨0,W,(if 1<f.ks.length then S.push ⟨f,[],1,S.env⟩ else S).work f.ks[0]? S.env⟩:=by unfold Pl.step;rw [h];simp [a]
theorem Post.A1{M':Q5}{v:Value}{K:List CW}{z:Nat}{S':PS}(d:Stp M w M' w')(e:∀b,O b->w'.heap[b]?=w.heap[b]?)(l:Fg.Le F G)(f:c.At n W S)(g:S.ended=false)(a:Pl.step W S=⟨0,W',S'⟩)(i:W'.out=W.out)(j:S'.form=none)(k:S'.AB=K)(o:RV G.s v S'.val)(h:Stt c M' O w' G kv (n+1) m W')(q:1<=z)(p:m<=n+1:=by omega):Post c M O w F kv K (n+1) z (aGG v .nilIface) w' :=⟨M',G,n,W,S,d,e,l,f,g,x8,x8,.val v W' S' a (fun _=>i) j k o (h.up p)⟩
theorem Post.fault{M':Q5}{K:List CW}{z x:Nat}(e:Stp M w M' w')(f:∀b,O b->w'.heap[b]?=w.heap[b]?)(l:Fg.Le F G)(g:c.At n W S)(i:S.ended=false)(d:Q8)(j:x≠0)(a:(Pl.step W S).e=x)(k:(Pl.step W S).W=W)(h:Stt c M' O w' G kv (n+1) m W)(p:1<=z)(o:m<=n+1:=by omega):Post c M O w F kv K (n+1) z (aGG .nilIface (aY d (x:Int))) w' :=⟨M',G,n,W,S,e,f,l,g,i,x8,x8,.err d x j a k (h.up o)⟩
theorem Fs.ent198:Enters 198:=enters_of func198 t8 rfl
theorem aKM(c:Cx){x:Value}(nm:AE)(d:Pl.A9)(a:List PF)(ns:List AE)(sc:List (List AE))(e:Bx M0 w0 b x B9)(f:RV F0.s x v):CodeUp c M0 w0 F0 (fnV 198 #[pt b]) (.mk .const nm d v a ns) sc:=by
 refine⟨_,_,rfl,Fs.ent198,?_⟩;intro M O w F t g K n W S i l h j k m u C;show Q2 198 #[Q0 c.rb,g,Q0 b] w _;obtain⟨D,_,E⟩:=h.cells;have G:n<=1010000:=by have:=h.bd.2.1;omega
 have H:=(e.go i).cell;obtain⟨T,y,rfl⟩:=f.iface;obtain⟨o,rfl⟩:=j.ptr;obtain⟨p,r,s⟩:=h.tick (n+1);have z:b≠c.rb:=fun q=>by obtain⟨_,_,_,_,A,_⟩:=h.mc;exact(e.go i).1 (by rw [q];exact A.m)
 have B:Hid (Post c M O w F t K (n+1) (2*IU (.mk .const nm d v a ns)-1) (aGG (.iface T y) .nilIface) (w.setCell ⟨c.rb,4,none⟩ (.int .i64 ((n+1:Nat):Int)))) :=Post.A1 r s (Fg.Le.refl _) k (aGE m) (aMN m) rfl rfl u (f.le l.s) p (by have:=aGO (.mk .const nm d v a ns);omega);clear h i p r s j k e f;go_enter func198,ntmps198;go_wp2_with fail;go_ret2;exact B
theorem EnvF.no{v:Value}{env:Env}{sc:List (List AE)}(h:EnvF M w s v env sc):scF sc nm=none->Pl.find env nm=none:=by
 induction h with
 | nil=>intro _;rfl
 | cons b k l e a f env sc m d g n _ i =>
  intro c;unfold scF at c;split at c
  ·cases c
  ·rename_i j;rw [Pl.FJ,eN f a nm j];exact i zP8
def AtD(w:World):Nat->Value->Nat->Addr->Prop
 | 0,v,ix,a=>∃b ao n cap up,v=(Q0 b)/\w.heap[b]?=some (.cells #[.slice ao n cap,up] TPlc (0,0))/\ix<n/\n<=cap/\∃g off,ao=some ⟨g,off,none⟩/\a=⟨g,off+ix,none⟩
 | d+1,v,ix,a=>∃b sl up,v=(Q0 b)/\w.heap[b]?=some (.cells #[sl,up] TPlc (0,0))/\AtD w d up ix a
theorem idx_get{l:List AE}{x:AE}(h:x∈l):l[l.idxOf x]?=some x:=by have:=List.idxOf_lt_length_of_mem h;rw [g_ this];simp
theorem EnvF.yes{v:Value}{env:Env}{sc:List (List AE)}(h:EnvF M w s v env sc):∀{k l:Nat},scF sc nm=some (k,l)->∃i g o,Pl.find env nm=some i/\s.lp[i]?=some (some (g,o))/\AtD w k v l ⟨g,o,none⟩:=by
 induction h with
 | nil=>intro k l a;cases a
 | cons b x A n c e env sc y f q B _ C =>
  intro k l a;unfold scF at a;split at a
  ·rename_i m;simp only [o_,Prod.mk.injEq] at a;obtain⟨rfl,rfl⟩:=a;have z:=List.idxOf_lt_length_of_mem m;obtain⟨g,j,r,t⟩:=B _ z;refine⟨c+e.idxOf nm,g,j+e.idxOf nm,?_,t,b,A,e.length,n,x,rfl,y.2,z,f,g,j,r,rfl⟩;rw [Pl.FJ,n9 e c _ nm q (idx_get m)]
  ·rename_i m
   cases u:scF sc nm with
   | none=>rw [u] at a;cases a
   | some p =>obtain⟨d,E⟩:=p;rw [u] at a;simp only [Option.map_some,o_,Prod.mk.injEq] at a;obtain⟨rfl,rfl⟩:=a;obtain⟨i,g,o,r,t,D⟩:=C u;refine⟨i,g,o,?_,t,b,_,x,rfl,y.2,D⟩;rw [Pl.FJ,eN e c nm m];exact r
theorem p_at(w:World)(v:Value)(c f:Nat)(a:Addr)(h:AtD w c v f a)(x:c<=1100) :Q2 201 #[v,Q1 c,Q1 f] w fun e s=>e=.returned (.pointer (some a))/\w=s:=by
 have k:=h_ h;clear h;go_enter func201,ntmps201;go_wp2_with fail
 go_loopw [0,8] (fun v l wr=>∃j:Nat,l=.int .i64 (j:Int)/\j<=c/\w=wr/\Hid (AtD w (c-j) v f a)) (fun _ l _=>c-(RowKit.intOf l).toNat)
 case atStart=>exact⟨0,rfl,Nat.zero_le _,rfl,k⟩
 case round =>
  obtain⟨j,rfl,y,rfl,m⟩:=hrel;have i:=m.out;by_cases z:j<c
  ·rw [show c-j=(c-(j+1))+1 from by omega] at i;obtain⟨b,A,q,rfl,d,r⟩:=i;have t:=h_ r;have B:w.cell? ⟨b,1,none⟩=some q:=aA d 1;clear d r m k;go_wp2_with fail;exact⟨⟨j+1,rfl,x8,trivial,t⟩,zP5⟩
  ·rw [show c-j=0 from by omega] at i;obtain⟨b,C,n,o,q,rfl,d,D,E,g,p,rfl,rfl⟩:=i;have F:w.cell? ⟨b,0,none⟩=some (.slice (some ⟨g,p,none⟩) n o):=aA d 0;have u:(f:Int)<(n:Int):=by omega
   clear d m k;go_wp2_with fail;go_ret;exact⟨rfl,rfl⟩
theorem Stt.ne(h:Stt c M O w F kv n m W)(a:¬M b):b≠c.rb:=fun q=>by obtain⟨_,_,_,_,d,_⟩:=h.mc;exact a (by rw [q];exact d.m)
theorem Stt.neT(h:Stt c M O w F kv n m W){cs:Array Value}{T:TypeId}(a:w.heap[b]?=some (.cells cs T (0,0)))(d:TFMc≠T):b≠c.rb:=fun q=>by obtain⟨_,_,_,_,e,_⟩:=h.mc;subst q;rw [e.blk] at a;simp only [o_,Obj.cells.injEq] at a;exact d a.2.1
theorem FW.plc(h:FW L M O w F N W){i g o:Nat}(d:F.s.lp[i]?=some (some (g,o))):∃p v,W.places[i]?=some p/\RV F.s v p/\w.cell? ⟨g,o,none⟩=some v/\M g/\∃a,w.heap[g]?=some (.cells a B9 (0,0)):=by
 have b:=(s_ d).1;obtain⟨p,e⟩:∃p,W.places[i]?=some p:=⟨_,g_ (by rw [<- h.places.len];exact b)⟩
 obtain⟨j,a,v,f,c,k⟩:=h.places.at_ i g o p d e;exact⟨p,v,e,k,(aA f o).trans c,j,a,f⟩
theorem Cx.At.wf(h:c.At n W S)(a:S.form=some f):EU W f:=by obtain⟨_,t,_,b,_⟩:=h.inv;exact b.form f a
theorem Fs.entLoc:Enters 200:=enters_of func200 t8 rfl
theorem Fs.entGlob:Enters 203:=enters_of func203 t8 rfl
theorem aM7(c:Cx){dp ix:Nat}(nm:AE)(d:Pl.A9)(v:PV)(f:List PF)(ns:List AE)(sc:List (List AE))(j:Bx M0 w0 b (.int .i64 (dp:Int)) TInt)(k:Bx M0 w0 b' (.int .i64 (ix:Int)) TInt)(m:scF sc nm=some (dp,ix))(H:dp<=1100):CodeUp c M0 w0 F0 (fnV 200 #[pt b,pt b']) (.mk .name nm d v f ns) sc:=by
 refine⟨_,_,rfl,Fs.entLoc,?_⟩;intro M O w F I J K n W S a l h q t u L U;show Q2 200 #[Q0 c.rb,J,Q0 b,Q0 b'] w _;obtain⟨V,_,X⟩:=h.cells;have Y:n<=1010000:=by have:=h.bd.2.1;omega
 have Z:=(j.go a).cell;have N:=(k.go a).cell;have n1:=h.ne (j.go a).1;have n2:=h.ne (k.go a).1;obtain⟨z,r,A⟩:=h.tick (n+1);obtain⟨i,g,o,B,C,D⟩:=(q.go r (Sg.Le.refl _)).yes m;obtain⟨p,x,E,s,e6,_,P,G⟩:=h.fw.plc C;have n3:g≠c.rb:=h.neT G tMc.1;obtain⟨T,y,rfl⟩:=s.iface;have Q:=h_ D;have R:Hid (Post c M O w F I K (n+1) (2*IU (.mk .name nm d v f ns)-1) (aGG (.iface T y) .nilIface) (w.setCell ⟨c.rb,4,none⟩ (.int .i64 ((n+1:Nat):Int)))) :=Post.A1 r A (Fg.Le.refl _) t (aGE u) (aJC u (by unfold Pl.DL;rw [B]) E) rfl rfl L s z (by have:=aGO (.mk .name nm d v f ns);omega);obtain⟨ao,rfl⟩:=q.ptr;clear h a z r A q t j k B C D E s G;go_enter func200,ntmps200;go_wp2_with (go_at_call 201;refine(p_at _ _ _ _ _ Q H).mono ?_;rintro e w' ⟨rfl,rfl⟩);go_ret2;exact R
theorem aLX(c:Cx){g k:Nat}(nm:AE)(d:Pl.A9)(v:PV)(o:List PF)(ns:List AE)(sc:List (List AE))(t:Bx M0 w0 b (pt g) TGlP)(u:Bk M0 w0 b' #[.string ⟨nm.toArray⟩,Q1 k] B6)(P:F0.s.ns[k]?=some nm)(Q:F0.gl k=some g)(E:scF sc nm=none):CodeUp c M0 w0 F0 (fnV 203 #[pt b,pt b']) (.mk .name nm d v o ns) sc:=by
 refine⟨_,_,rfl,Fs.entGlob,?_⟩;intro M O w F L R K n W S m l h z q r U Z;show Q2 203 #[Q0 c.rb,R,Q0 b,Q0 b'] w _;obtain⟨c4,_,f4⟩:=h.cells;have hn:n<=1010000:=by have:=h.bd.2.1;omega
 have cb:=(t.go m).cell;have V:w.cell? ⟨b',0,none⟩=some (.string ⟨nm.toArray⟩):=aA (u.go m).2 0;have n1:=h.ne (t.go m).1;have n2:=h.ne (u.go m).1;obtain⟨A,B,C⟩:=h.tick (n+1);obtain⟨_,x,ch,a,G,D,_,j⟩:=h.fw.gat k g (l.gl _ _ Q);obtain rfl:a=nm:=by have:=G.symm.trans (bS l.s.ns P);exact i_ this
 have f:=z.no E;have n3:g≠c.rb:=h.neT D tMc.2.1;have cg:w.cell? ⟨g,0,none⟩=some x:=aA D 0;obtain⟨ao,rfl⟩:=z.ptr;have hz:2<=2*IU (.mk .name a d v o ns):=by have:=aGO (.mk .name a d v o ns);omega
 rcases j with⟨j,rfl⟩ | ⟨i,p,j,N,H⟩
 ·have X:a.length<=300:=(Cx.At.wf q r).lnm;have Y:(⟨a.toArray⟩:Q8).size<=300:=by simpa [ByteArray.size] using X
  have I:Hid (∀J,Post c M O w F L K (n+1) (2*IU (.mk .name a d v o ns)-1) (aGG .nilIface (aY J 8)) (w.setCell ⟨c.rb,4,none⟩ (.int .i64 ((n+1:Nat):Int)))):=fun J=>by have s:=aKC (W:=W) r (by unfold Pl.DL;rw [f];exact j);exact Post.fault (x:=8) B C (Fg.Le.refl _) q (aGE r) J w8 (by rw [s]) (by rw [s]) A x8
  clear h m A B C z q t u G D j f;go_enter func203,ntmps203;go_wp2_with (go_at_call 47;refine(bJ _ _ _).mono ?_;rintro e w3 ⟨rfl,rfl⟩);go_ret2;exact I.out _
 ·obtain⟨T,y,rfl⟩:=H.iface;have I:Hid (Post c M O w F L K (n+1) (2*IU (.mk .name a d v o ns)-1) (aGG (.iface T y) .nilIface) (w.setCell ⟨c.rb,4,none⟩ (.int .i64 ((n+1:Nat):Int)))) :=Post.A1 B C (Fg.Le.refl _) q (aGE r) (aJC r (by unfold Pl.DL;rw [f];exact j) N) rfl rfl U H A x8;clear h m A B C z q t u G D j N H f;go_enter func203,ntmps203;go_wp2_with fail;go_ret2;exact I
theorem FW.re{O':Q5}(h:FW L M O w F N W)(l:Fg.Le F G)(a:G.gl=F.gl)(r:G.gn=F.gn)(d:G.cs=F.cs)(f:G.s.ns=F.s.ns)(u:BM M w G.s L.tb L.mb W'.pairs)(x:W'.globals=W.globals)(y:∀(i:Nat)(p:PV),W.places[i]?=some p->W'.places[i]?=some p)
  (z:G.s.qb.length=W'.procs.length) (A:∀i j b:Nat,G.s.qb[i]?=some b->G.s.qb[j]?=some b->b≠0->i=j) (B:∀(i b:Nat)(q:PF×Env),G.s.qb[i]?=some b->W'.procs[i]?=some q->b≠0->PrF M w G b q) (m:OW (CoF M w G) G.s.cb W'.AG) (e:CM M w G.s W'.places)
  (C:∀k,O' k->M k/\(∃E,w.heap[k]?=some (.cells E B9 (0,0)))/\∀i o:Nat,G.s.lp[i]? ≠ some (some (k,o))) (P:G.pr=W'.procs):FW L M O' w G N W':=by
 refine⟨u,h.NN,h.TH,h.UE,?_,by rw [r];exact h.gn,fun k g J=>?_,by rw [a];exact h.ginj,fun H i K=>?_,by rw [x];exact h.gpl,by rw [d];exact h.sit,by rw [d];exact h.sn1,by rw [d];exact h.sn2,by rw [d,a];exact h.sgl,z,A,B,m,e,C,P,h.gs,h.JQ,h.gt,h.ge,by rw [l.s.tq];exact h.tq,by rw [l.s.tc];exact h.tc,by rw [f];exact h.nl⟩
 ·obtain⟨D,s,n⟩:=h.map;exact⟨D,by rw [r];exact s,n.tidy,by rw [a];exact n.yes,by rw [a];exact n.no⟩
 ·rw [a] at J;obtain⟨s,v,c,H,n,I,Q,t⟩:=h.gat k g J;refine⟨s,v,c,H,by rw [f];exact n,I,Q,?_⟩;rw [x];rcases t with t | ⟨i,p,t,R,S⟩
  ·exact .inl t
  ·exact .inr ⟨i,p,t,y i p R,S.le l.s⟩
 ·rw [x] at K;obtain⟨⟨k,g,s,n⟩,I⟩:=h.gall H i K;exact⟨⟨k,g,by rw [f];exact s,by rw [a];exact n⟩,bS l.s.lp I⟩
theorem Fg.le_s{t:Sg}{q:List (PF×Env)}(l:Sg.Le F.s t):Fg.Le F {F with s:=t,pr:=F.pr++q}:=⟨l,fun _ _ h=>h,List.prefix_refl _,List.prefix_append _ _⟩
theorem BM.leS{t:Sg}{tb mb:Nat}{ps:List (PV×PV)}(h:BM M w s tb mb ps)(l:Sg.Le s t)(hp:t.pb=s.pb)(a:t.ns=s.ns):BM M w t tb mb ps:=⟨by rw [a];exact h.B3,h.pairs.le l hp,h.FV,h.JJ,h.mlt⟩
theorem FW.JE(h:FW L M O w F N W){q:PF×Env}(k:p≠0->p∉F.s.qb/\PrF M w F p q):FW L M O w {F with s:=F.s.JE p,pr:=F.pr++[q]} N {W with procs:=W.procs++[q]}:=by
 have l:Fg.Le F {F with s:=F.s.JE p,pr:=F.pr++[q]}:=Fg.le_s (F.s.LA p);refine h.re l rfl rfl rfl rfl (h.CY.leS l.s rfl rfl) rfl (fun _ _ x=>x) (by simp [Sg.JE,h.pql]) ?_ ?_ (h.AG.mono (fun b x u=>u.go (Stp.refl _ _) l)) (h.places.le l.s rfl) h.oth (by simp [h.pr])
 ·intro i j b m t a;rcases p5 (show(F.s.qb++[p])[i]?=some b from m) with c | ⟨c,e⟩
  ·rcases p5 (show(F.s.qb++[p])[j]?=some b from t) with f | ⟨f,g⟩
   ·exact h.pqi i j b c f a
   ·rw [g] at c a;exact absurd (q_ c) (k a).1
  ·rcases p5 (show(F.s.qb++[p])[j]?=some b from t) with f | ⟨f,g⟩
   ·rw [e] at f a;exact absurd (q_ f) (k a).1
   ·omega
 ·intro i b n m v a;have d:(W.procs++[q])[i]?=some n:=v;rcases p5 (show(F.s.qb++[p])[i]?=some b from m) with c | ⟨c,e⟩
  ·have o:=(s_ c).1;rw [List.getElem?_append_left (by rw [<- h.pql];exact o)] at d;exact(h.pqa i b n c d a).go (Stp.refl _ _) l
  ·rw [c,h.pql] at d;have r:n=q:=by simpa using d.symm
   rw [r];rw [e] at a ⊢;exact((k a).2).go (Stp.refl _ _) l
theorem FW.qlt(h:FW L M O w F N W):∀b∈F.s.qb,b≠0->b<w.heap.size:=fun b d e=>by obtain⟨i,c⟩:=List.getElem?_of_mem d;have a:=(s_ c).1;obtain⟨_,_,_,_,f,_⟩:=h.pqa i b _ c (g_ (by rw [<- h.pql];exact a)) e;exact aB f.2
theorem FW.newProc(h:FW L M O w F N W)(e:Q3 w w')(hp:w.heap.size<=p){u ev:Value}{q:PF×Env}{x:PF}{sc:List (List AE)}(b:w'.heap[p]?=some (.cells #[Q1 (q.1.ns.length:Int),u,ev] TFPr (0,0)))(g:q.1.ks=[x])(c:q.1.ns.Nodup)(i:RC M w F u x (q.1.ns::sc))(j:EnvF M w F.s ev q.2 sc) :FW L M O w' {F with s:=F.s.JE p,pr:=F.pr++[q]} N {W with procs:=W.procs++[q]}/\RV (F.s.JE p) (.iface 371 (Q0 p)) (.proc W.procs.length):=by
 have f:Stp M w M w':=Stp.AA e;have a:=h.gs.size;have k:0<w.heap.size:=l_ w8 a;refine⟨(h.below e).JE (fun _=>⟨fun d=>?_,u,ev,x,sc,⟨fun d=>?_,b⟩,g,c,i.go f (Fg.Le.refl _),j.go f (Sg.Le.refl _)⟩),?_⟩
 ·have:=h.qlt p d x8;omega
 ·have:=h.CY.mlt p d;omega
 ·rw [<- h.tq];exact .proc _ p (by show(F.s.qb++[p])[W.procs.length]?=some p;rw [<- h.pql];simp) x8
theorem FW.IJ(h:FW L M O w F N W)(f:Q3 w w')(hp:w.heap.size<=p)(c:w'.heap[p]?=some (.cells #[kv] TFCo (0,0)))(fs:List CW)(g:PlF M w F kv fs) :FW L M O w' {F with s:=F.s.IJ p,pr:=F.pr++[]} N {W with AG:=W.AG++[fs]}/\RV (F.s.IJ p) (.iface 384 (Q0 p)) (.cont W.AG.length):=by
 have j:Stp M w M w':=Stp.AA f;have l:Fg.Le F {F with s:=F.s.IJ p,pr:=F.pr++[]}:=Fg.le_s (F.s.LD p);have a:=h.below f;refine⟨a.re l rfl rfl rfl rfl (a.CY.leS l.s rfl rfl) rfl (fun _ _ x=>x) h.pql h.pqi (fun i b q k m o=>(a.pqa i b q k m o).go (Stp.refl _ _) l) (OW.push (a.AG.mono (fun b x d=>d.go (Stp.refl _ _) l)) ⟨kv,⟨fun e=>?_,c⟩,PlF.go j l _ _ g⟩ ?_) (a.places.le l.s rfl) a.oth (by simp [h.pr]),?_⟩
 ·have:=h.CY.mlt p e;omega
 ·intro e;have:=h.AG.lt (n:=w.heap.size) (fun b x d=>by obtain⟨_,r,_⟩:=d;exact aB r.2) p e;omega
 ·rw [<- h.tc];exact .cont _ p (by show(F.s.cb++[p])[W.AG.length]?=some p;rw [<- h.AG.len];simp)
theorem Fs.entLambda:Enters 213:=enters_of func213 t8 rfl
theorem Stt.fwd(h:Stt c M O w F kv n m W)(a:Q3 w w')(b:FW c.L M O w' G (c.B+m) W')(d:W'.out=W.out):Stt c M O w' G kv n m W':=by obtain⟨e,f,g,i,j,k,l⟩:=(h.below a).mc;exact⟨b,⟨e,f,g,i,j,k,by rw [d];exact l⟩,h.bd⟩
theorem aJL(c:Cx){u:Value}{x:PF}(nm:AE)(d:Pl.A9)(v:PV)(ns:List AE)(sc:List (List AE))(r:Bx M0 w0 b (.int .i64 (ns.length:Int)) TInt)(s:Bx M0 w0 b' u TCod)(t:ns.Nodup)(y:RC M0 w0 F0 u x (ns::sc)):CodeUp c M0 w0 F0 (fnV 213 #[pt b,pt b']) (.mk .lambda nm d v [x] ns) sc:=by
 refine⟨_,_,rfl,Fs.entLambda,?_⟩;intro M O w F G H K n W S f l h z B C I T;show Q2 213 #[Q0 c.rb,H,Q0 b,Q0 b'] w _;obtain⟨U,_,V⟩:=h.cells;have X:n<=1010000:=by have:=h.bd.2.1;omega
 have Y:=(r.go f).cell;have J:=(s.go f).cell;have Z:=h.ne (r.go f).1;have n2:=h.ne (s.go f).1;obtain⟨i,j,D⟩:=h.tick (n+1);obtain⟨m,rfl⟩:=z.ptr;obtain⟨o,a,rfl⟩:=y.func
 have L:Hid (∀A,A=w.setCell ⟨c.rb,4,none⟩ (.int .i64 ((n+1:Nat):Int))->Post c M O w F G K (n+1) (2*IU (.mk .lambda nm d v [x] ns)-1) (aGG (.iface 371 (Q0 w.heap.size)) .nilIface) (A.alloc (.cells #[Q1 ns.length,fnV o a,.pointer m] TFPr))):=by
  rintro A rfl;have g:(w.setCell ⟨c.rb,4,none⟩ (.int .i64 ((n+1:Nat):Int))).heap.size=w.heap.size:=by simp [World.setCell]
  have e:=heap_alloc_new (w.setCell ⟨c.rb,4,none⟩ (.int .i64 ((n+1:Nat):Int))) (.cells #[Q1 ns.length,fnV o a,.pointer m] TFPr);rw [g] at e;have p:=(Below.refl (w.setCell ⟨c.rb,4,none⟩ (.int .i64 ((n+1:Nat):Int))).heap.size (w.setCell ⟨c.rb,4,none⟩ (.int .i64 ((n+1:Nat):Int)))).alloc n_ (.cells #[Q1 ns.length,fnV o a,.pointer m] TFPr);obtain⟨N,P⟩:=i.fw.newProc p (Nat.le_of_eq g) (u:=fnV o a) (ev:=.pointer m) (q:=(.mk .lambda nm d v [x] ns,S.env)) (x:=x) (sc:=sc) e rfl t ((y.go f l).go j (Fg.Le.refl _)) (z.go j (Sg.Le.refl _));refine Post.A1 (j.trans (Stp.AA p)) (fun k E=>(p.block k ?_).trans (D k E)) (Fg.le_s (F.s.LA _)) B (aGE C) (aI0 C rfl) rfl rfl I P (i.fwd p N rfl) (by have:=aGO (.mk .lambda nm d v [x] ns);omega);obtain⟨_,⟨Q,R⟩,_⟩:=i.fw.oth k E;exact aB R
 clear h f i j D z B r s y;go_enter func213,ntmps213;go_wp2_with fail;go_ret2;exact L.out _ rfl
end
end Go.Proofs.YtbgghmjmcapmlaaGreatDoor
