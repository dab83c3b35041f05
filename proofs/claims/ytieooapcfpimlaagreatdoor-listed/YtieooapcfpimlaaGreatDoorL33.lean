import Derived.Test.YtieooapcfpimlaaGreatDoorL32
import Derived.Maps.RangeWalk
namespace Go.Proofs.YtieooapcfpimlaaGreatDoor
set_option maxHeartbeats 4000000
set_option maxRecDepth 100000
open Go.Proofs.Tryz
open Pl (PV PW PS PF CW AE AU)
section
open Go.RowKit Go.Maps
variable {w w':World} {M O M':Nat->Prop} {n base sz m:Nat} {kv v lv av gv ov u:Value} {e:TypeId} {xs:List Value}
structure Cx where
 L:Lo
 rb:Nat
 z:Nat
 T:Nat
 B:Nat
 W0:PW
 S0:PS
abbrev Cx.At(c:Cx)(k:Nat)(W:PW)(S:PS):Prop:=Go.Proofs.YtieooapcfpimlaaGreatDoor.At c.W0 c.S0 c.z c.T k W S
structure Mch(c:Cx)(M:Nat->Prop)(w:World)(kv lv av gv:Value)(n:Nat)(ov:Value):Prop where
 blk:w.heap[c.rb]?=some (.cells #[kv,lv,av,gv,.int .i64 (n:Int),.int .i64 (c.z:Int),ov] TFMc (0,0))
 m:M c.rb
def LfR(M:Nat->Prop)(w:World)(v:Value)(fs:List Value):Prop:=w.ownsRow 0 TFrm 1 v fs.length fs/\∀g,v.ownBlock=some g->M g
def ArgsAt(M O:Nat->Prop)(w:World)(s:Sg)(v:Value)(us:List Value):Prop:=∃ao cap,v=.slice ao us.length cap/\us.length<=cap/\(us.length=0\/∃g off cur,ao=some ⟨g,off,none⟩/\M g/\¬O g/\w.heap[g]?=some (.cells cur B9 (0,0))/\(∀(i:Nat)(u:Value),us[i]?=some u->cur[off+i]?=some u)/\∀i o:Nat,s.lp[i]? ≠ some (some (g,o)))
structure Stt(c:Cx)(M O:Nat->Prop)(w:World)(F:Fg)(kv:Value)(n m:Nat)(W:PW):Prop where
 fw:FW c.L M O w F (c.B+m) W
 mc:∃lv av gv ov,Mch c M w kv lv av gv n ov/\LfR M w lv []/\DS M w ov W.out
 bd:c.B+c.T<=9000000000000000000/\c.T<=1010000/\c.z<=1000000
abbrev St(c:Cx)(M O:Nat->Prop)(w:World)(F:Fg)(kv:Value)(n:Nat)(W:PW):Prop:=Stt c M O w F kv n n W
def PnW(W:PW)(fx:PV)(args:List PV):Prop:=(∀v∈fx::args,BL W v)/\(∀t,fx=.AZ t->t=AU)/\args.length<=2000
structure Pend(c:Cx)(M O:Nat->Prop)(w:World)(F:Fg)(kv:Value)(n:Nat)(W:PW)(Fs:List CW)(fx:PV)(args:List PV):Prop where
 fw:FW c.L M O w F (c.B+n) W
 mc:∃lv av gv ov fs us,Mch c M w kv lv av gv n ov/\LfR M w lv fs/\BY (FrF M w F) fs Fs/\DS M w ov W.out/\RV F.s av fx/\ArgsAt M O w F.s gv us/\BY (RV F.s) us args
 bd:c.B+c.T<=9000000000000000000/\c.T<=1010000/\c.z<=1000000
 wf:PnW W fx args
abbrev aGG(v e:Value):Ending:=.returned (.tuple #[v,e])
inductive PoR (c:Cx) (M O:Nat->Prop) (w:World) (F:Fg) (kv:Value) (K:List CW) (k z:Nat) (W:PW) (S:PS):Ending->Prop
 | val (v:Value) (W':PW) (S':PS) (hs:Pl.step W S=⟨0,W',S'⟩) (ho:c.z<=k->W'.out=W.out) (hf:S'.form=none) (hK:S'.AB=K) (hv:RV F.s v S'.val) (h:St c M O w F kv (k+1) W'):PoR c M O w F kv K k z W S (aGG v .nilIface)
 | err (es:ByteArray) (x:Nat) (hx:x≠0) (hs:(Pl.step W S).e=x) (hw:(Pl.step W S).W=W) (h:St c M O w F kv (k+1) W):PoR c M O w F kv K k z W S (aGG .nilIface (aY es (x:Int)))
 | spent (es:ByteArray) (hz:c.z<=k) (h:St c M O w F kv (k+1) W):PoR c M O w F kv K k z W S (aGG .nilIface (aY es 7))
 | pend (Fs:List CW) (S0:PS) (fx:PV) (args:List PV) (hs:Pl.step W S=Pl.apply W S0 fx args) (hK:S0.AB=Fs++K) (hl:Fs.length<=z) (h:Pend c M O w F kv (k+1) W Fs fx args):PoR c M O w F kv K k z W S (aGG .nilIface .nilIface)
def Post(c:Cx)(M O:Nat->Prop)(w:World)(F:Fg)(kv:Value)(K:List CW)(n z:Nat)(e:Ending)(w':World):Prop :=∃M' G k W S,Stp M w M' w'/\(∀b,O b->w'.heap[b]?=w.heap[b]?)/\Fg.Le F G/\c.At k W S/\S.ended=false/\n<=k+1/\k+2<=n+z/\PoR c M' O w' G kv K k z W S e
def CodeOk(c:Cx)(M0:Nat->Prop)(w0:World)(F0:Fg)(u:Value)(f:PF)(sc:List (List AE)):Prop:=∃kf cap,u=fnV kf cap/\Enters kf/\∀(M O:Nat->Prop)(w:World)(F:Fg)(kv hv:Value)(K:List CW)(n:Nat)(W:PW)(S:PS),Stp M0 w0 M w->Fg.Le F0 F->St c M O w F kv n W->EnvF M w F.s hv S.env sc->c.At n W S->S.form=some f->S.AB=K->n+2*IU f<=c.T ->
 Calls prog kf (#[pt c.rb,hv]++cap) w (Post c M O w F kv K n (2*IU f))
theorem CodeOk.go{c:Cx}{F G:Fg}{f:PF}{sc:List (List AE)}(h:CodeOk c M w F u f sc)(b:Stp M w M' w')(l:Fg.Le F G):CodeOk c M' w' G u f sc:=by obtain⟨d,a,e,g,i⟩:=h;exact⟨d,a,e,g,fun j O k m o p K n W S q r=>i j O k m o p K n W S (b.trans q) (l.trans r)⟩
def CodeUp(c:Cx)(M0:Nat->Prop)(w0:World)(F0:Fg)(u:Value)(f:PF)(sc:List (List AE)):Prop:=∃kf cap,u=fnV kf cap/\Enters kf/\∀(M O:Nat->Prop)(w:World)(F:Fg)(kv hv:Value)(K:List CW)(n:Nat)(W:PW)(S:PS),Stp M0 w0 M w->Fg.Le F0 F->St c M O w F kv n W->EnvF M w F.s hv S.env sc->c.At n W S->S.form=some f->S.AB=K->n+2*IU f<=c.T ->
 Calls prog kf (#[pt c.rb,hv]++cap) w (Post c M O w F kv K (n+1) (2*IU f-1))
theorem CodeUp.go{c:Cx}{F G:Fg}{f:PF}{sc:List (List AE)}(h:CodeUp c M w F u f sc)(b:Stp M w M' w')(l:Fg.Le F G):CodeUp c M' w' G u f sc:=by obtain⟨d,a,e,g,i⟩:=h;exact⟨d,a,e,g,fun j O k m o p K n W S q r=>i j O k m o p K n W S (b.trans q) (l.trans r)⟩
def TakeOk(c:Cx)(M0:Nat->Prop)(w0:World)(F0:Fg)(u:Value)(fr:CW)(sc:List (List AE))(z:Nat):Prop:=∃kf cap,u=fnV kf cap/\Enters kf/\∀(M O:Nat->Prop)(w:World)(F:Fg)(kv hv v:Value)(K:List CW)(k:Nat)(W:PW)(S:PS),Stp M0 w0 M w->Fg.Le F0 F->Stt c M O w F kv (k+1) k W->EnvF M w F.s hv fr.env sc->c.At k W S->S.form=none->S.AB=fr::K->RV F.s v S.val->k+1+z<=c.T ->
 Calls prog kf (#[pt c.rb,hv,v]++cap) w (Post c M O w F kv K (k+1) z)
theorem TakeOk.go{c:Cx}{F G:Fg}{f:CW}{sc:List (List AE)}{z:Nat}(h:TakeOk c M w F u f sc z)(b:Stp M w M' w')(l:Fg.Le F G):TakeOk c M' w' G u f sc z:=by obtain⟨d,a,e,g,i⟩:=h;exact⟨d,a,e,g,fun j O k m o p v K n W S q r=>i j O k m o p v K n W S (b.trans q) (l.trans r)⟩
theorem aJZ{b:Nat}{cs:Array Value}{T:TypeId}(d:w.heap[b]?=some (.cells cs T (0,0)))(f:T≠e)(h:w.ownsRow base e sz v n xs):∀g,v.ownBlock=some g->g≠b:=fun g c q=>by
 rcases h.2 with⟨rfl,_⟩ | ⟨k,i,j,rfl,_,a,_⟩
 ·cases c
 ·simp only [Value.ownBlock,o_] at c;subst c q;rw [d] at a;simp only [o_,Obj.cells.injEq] at a;exact f a.2.1
theorem aGD(h:w.ownsRow base e sz v n xs)(c:∀g,v.ownBlock=some g->w'.heap[g]?=w.heap[g]?):w'.ownsRow base e sz v n xs:=by refine⟨h.1,h.2.imp id ?_⟩;rintro⟨g,a,b,rfl,d,f,r⟩;exact⟨g,a,b,rfl,d,(c g rfl).trans f,r⟩
theorem tMc:TFMc≠B9/\TFMc≠TGlb/\TFMc≠TCod/\TFMc≠TInt/\TFMc≠TFrm/\TFMc≠JM:=by decide
theorem aGK(a:Below w.heap.size w w')(h:w.ownsRow base e sz v n xs):w'.ownsRow base e sz v n xs:=aGD h (fun g b=>a.block g (h.lt g b).2)
theorem LfR.below{fs:List Value}(h:LfR M w v fs)(a:Below w.heap.size w w'):LfR M w' v fs:=⟨aGK a h.1,h.2⟩
theorem DS.belowF{fs:AE}(h:DS M w v fs)(a:Below w.heap.size w w'):DS M w' v fs:=⟨aGK a h.1,h.2⟩
theorem Mch.below{c:Cx}(h:Mch c M w kv lv av gv n ov)(a:Below w.heap.size w w'):Mch c M w' kv lv av gv n ov:=⟨(a.block _ (aB h.blk)).trans h.blk,h.m⟩
theorem Stt.below{c:Cx}{F:Fg}{W:PW}(h:Stt c M O w F kv n m W)(a:Below w.heap.size w w'):Stt c M O w' F kv n m W:=by obtain⟨b,d,e,f,g,i,j⟩:=h.mc;exact⟨h.fw.below a,⟨b,d,e,f,g.below a,i.below a,j.belowF a⟩,h.bd⟩
theorem Mch.mf{c:Cx}(h:Mch c M w kv lv av gv n ov)(o:Nat)(v:Value):Mf M w M (w.setCell ⟨c.rb,o,none⟩ v):=Mf.set h.blk h.m tMc.1 tMc.2.1 tMc.2.2.1 tMc.2.2.2.1 o v
theorem LfR.set{c:Cx}(h:Mch c M w kv lv av gv n ov){l:Value}{fs:List Value}(a:LfR M w l fs)(o:Nat)(v:Value):LfR M (w.setCell ⟨c.rb,o,none⟩ v) l fs :=⟨aGD a.1 (fun g b=>Below.heap_setCell _ _ _ _ (fun x=>aJZ h.blk tMc.2.2.2.2.1 a.1 g b (by simpa using x))),a.2⟩
theorem DS.setF{c:Cx}(h:Mch c M w kv lv av gv n ov){l:Value}{fs:AE}(a:DS M w l fs)(o:Nat)(v:Value):DS M (w.setCell ⟨c.rb,o,none⟩ v) l fs :=⟨aGD a.1 (fun g b=>Below.heap_setCell _ _ _ _ (fun x=>aJZ h.blk tMc.2.2.2.2.2 a.1 g b (by simpa using x))),a.2⟩
theorem Stt.up{c:Cx}{F:Fg}{W:PW}(h:Stt c M O w F kv n m W){m':Nat}(a:m<=m'):Stt c M O w F kv n m' W:=⟨h.fw.up (by omega),h.mc,h.bd⟩
theorem Stt.tick{c:Cx}{F:Fg}{j:Nat}{W:PW}(h:Stt c M O w F kv n j W)(m:Nat):Stt c M O (w.setCell ⟨c.rb,4,none⟩ (.int .i64 (m:Int))) F kv m j W/\Stp M w M (w.setCell ⟨c.rb,4,none⟩ (.int .i64 (m:Int)))/\∀b,O b->(w.setCell ⟨c.rb,4,none⟩ (.int .i64 (m:Int))).heap[b]?=w.heap[b]? := by
 obtain⟨f,g,i,k,a,l,o⟩:=h.mc;have e:=a.mf 4 (.int .i64 (m:Int));refine⟨⟨h.fw.mf e,⟨f,g,i,k,⟨by have:=aD a.blk 4 (.int .i64 (m:Int));exact this,a.m⟩,l.set a _ _,o.setF a _ _⟩,h.bd⟩,e.AQ,fun b p=>?_⟩;obtain⟨_,⟨q,d⟩,_⟩:=h.fw.oth b p;refine Below.heap_setCell _ _ _ _ (fun x=>?_);have:b=c.rb:=by simpa using x
 subst this;rw [a.blk] at d;simp only [o_,Obj.cells.injEq] at d;exact tMc.1 d.2.1
theorem Stt.cells{c:Cx}{F:Fg}{W:PW}(h:Stt c M O w F kv n m W):w.cell? ⟨c.rb,4,none⟩=some (.int .i64 (n:Int))/\w.cell? ⟨c.rb,5,none⟩=some (.int .i64 (c.z:Int))/\w.frozen? ⟨c.rb,4,none⟩=false:=by obtain⟨b,d,e,f,a,_⟩:=h.mc;exact⟨aA a.blk 4,aA a.blk 5,aF a.blk 4⟩
theorem RV.notNil{s:Sg}{p:PV}(h:RV s v p):v≠.nilIface:=by cases h<;>simp
theorem aGO(f:PF):1<=IU f:=by cases f;rw [OL];omega
theorem aGE{S:PS}{f:PF}(h:S.form=some f):S.ended=false:=by simp [Pl.PS.ended,h]
theorem aF8{S:PS}{fr:CW}{K:List CW}(h:S.AB=fr::K):S.ended=false:=by simp [Pl.PS.ended,h]
end
open Pl (Env)
section
open Go.RowKit Go.Lib Go.Maps
variable {M:Nat->Prop} {w w':World} {v mv:Value} {b k:Nat} {T:TypeId}
@[reducible] def TOuF (T:TypeId):Prop:=T=34\/T=67\/T=999999
structure Sty(w w':World):Prop where
 size:w.heap.size<=w'.heap.size
 cells:∀{k:Nat} {c:Array Value} {T:TypeId},w.heap[k]?=some (.cells c T (0,0))->¬TOuF T->w'.heap[k]?=some (.cells c T (0,0))
 map:∀{k:Nat} {es:Array MapEntry} {c:Nat},w.heap[k]?=some (.map es c)->w'.heap[k]?=some (.map es c)
 low:∀k,k<8->w'.heap[k]?=w.heap[k]?
theorem Bx.sty(h:Bx M w b v T)(a:Sty w w')(c:¬TOuF T:=by decide):Bx M w' b v T:=⟨h.1,a.cells h.2 c⟩
theorem Bk.sty{v:Array Value}(h:Bk M w b v T)(a:Sty w w')(c:¬TOuF T:=by decide):Bk M w' b v T:=⟨h.1,a.cells h.2 c⟩
theorem Sl.sty{sz:Nat}{n:Nat}{xs:List Value}(h:Sl M w T sz v n xs)(d:Sty w w')(e:¬TOuF T:=by decide):Sl M w' T sz v n xs:=by obtain⟨f,i,a,rfl,j,k⟩:=h;refine⟨f,i,a,rfl,j,k.imp id ?_⟩;rintro⟨g,b,c,rfl,l,m,o⟩;exact⟨g,b,c,rfl,l,d.cells m e,o⟩
theorem FD.sty{s:Sg}(a:Sty w w'){fs:List PV}(h:FD M w s v fs):FD M w' s v fs:=by obtain⟨b,c,d⟩:=h;exact⟨b,c.sty a,d⟩
theorem EnvF.sty{s:Sg}(l:Sty w w'){e:Env}{sc:List (List AE)}(h:EnvF M w s v e sc):EnvF M w' s v e sc:=by
 induction h with
 | nil=>exact .nil
 | cons b m n d a o f sc p c j q _ r =>
  exact .cons b m n d a o f sc (p.sty l) c j (fun i t=>by
   obtain⟨g,k,u,x⟩:=q i t
   exact⟨g,k,u,x⟩) r
theorem RC.sty{F:Fg}(e:Sty w w'){f:PF}{sc:List (List AE)}(h:RC M w F v f sc):RC M w' F v f sc:=by
 induction h with
 | const b x i d v q j sc s hv=>exact .const b x i d v q j sc (s.sty e) hv
 | loc b c Q R i d v q j sc s S C T=>exact .loc b c Q R i d v q j sc (s.sty e) (S.sty e) C T
 | DI b c g k i d v q j sc s S E G C=>exact .DI b c g k i d v q j sc (s.sty e) (S.sty e) E G C
 | iff n o t D O u v1 v2 x y z i d v j sc l m H A r _ _ _ i1 i2 i3=>exact .iff n o t D O u v1 v2 x y z i d v j sc (l.sty e) (m.sty e) (H.sty e) (A.sty e) (r.sty e) i1 i2 i3
 | begin b P I i d v q j sc s l m _ A r p=>exact .begin b P I i d v q j sc (s.sty e) (l.sty e) m p A r
 | setL n o t D O Q R u x i d v j sc l m H A r C T _ p=>exact .setL n o t D O Q R u x i d v j sc (l.sty e) (m.sty e) (H.sty e) (A.sty e) (r.sty e) C T p
 | setG n o t D O g k a u x i d v j sc l m H A r E G C _ p=>exact .setG n o t D O g k a u x i d v j sc (l.sty e) (m.sty e) (H.sty e) (A.sty e) (r.sty e) E G C p
 | define n o t D g k u x i d v j sc l m H A E G _ p=>exact .define n o t D g k u x i d v j sc (l.sty e) (m.sty e) (H.sty e) (A.sty e) E G p
 | lambda n o u x i d v j sc l m J _ p=>exact .lambda n o u x i d v j sc (l.sty e) (m.sty e) J p
 | callA n o P I i d v q j sc s B l m _ A r p=>exact .callA n o P I i d v q j sc (s.sty e) (B.sty e) (l.sty e) m p A r
 | callL n o t D P u0 I i d v q j K U V x L sc s B N W J _ l m _ r i0 p=>exact .callL n o t D P u0 I i d v q j K U V x L sc (s.sty e) (B.sty e) (N.sty e) (W.sty e) J i0 (l.sty e) m p r
 | callG n o t k st I i d v q j K U V X L sc Y Z B N E G C l m _ r _ p io=>exact .callG n o t k st I i d v q j K U V X L sc Y (Z.sty e) (B.sty e) (N.sty e) E G C (l.sty e) m p r io
theorem RT.sty{F:Fg}(d:Sty w w'){f:CW}{sc:List (List AE)}(h:RT M w F v f sc):RT M w' F v f sc:=by
 cases h with
 | iff i n C D x y z _ _ e o j p E G=>exact .iff i n C D x y z _ _ e o (j.sty d) (p.sty d) (E.sty d) (G.sty d)
 | setL i n H I _ _ e j p o J=>exact .setL i n H I _ _ e (j.sty d) (p.sty d) o J
 | setG i n g k a _ _ e j p q l o=>exact .setG i n g k a _ _ e (j.sty d) (p.sty d) q l o
 | define i g k _ _ e j q l=>exact .define i g k _ _ e (j.sty d) q l
 | one b k t _ _ e r l s A m B=>exact .one b k t _ _ e r l s A m (B.sty d)
 | two b c k t u x y z _ _ e r l s A m B K L=>exact .two b c k t u x y z _ _ e r l s A m (B.sty d) (K.sty d) (L.sty d)
theorem RA.sty{F:Fg}(b:Sty w w'){f:PF}{env:Env}{sc:List (List AE)}{a:List PV}(h:RA M w F v f env sc a):RA M w' F v f env sc a:=by
 cases h with
 | any=>exact .any _ _ _
 | lam j k n l _ x c m o d _ _ p e g i q r=>exact .lam j k n l _ x c m o d _ _ p (e.sty b) (g.sty b) i (q.sty b) r
theorem FrF.sty{F:Fg}(g:Sty w w'){f:CW}(h:FrF M w F v f):FrF M w' F v f:=by
 cases h with
 | hand b c y l _ o m n q z=>exact .hand b c y l _ o (m.sty g) (n.sty g) (q.sty g) (z.sty g)
 | row b c d i j A l B _ o r m n C q D E s G H=>exact .row b c d i j A l B _ o r (m.sty g) (n.sty g) (C.sty g) (q.sty g) (D.sty g) (E.mono (fun _ _ x=>x.sty g)) s G H
 | gath b c d e A l L y B N a _ o r m n C q l D E I J O u s G H=>exact .gath b c d e A _ L y B N a _ o r (m.sty g) (n.sty g) (C.sty g) (q.sty g) (l.sty g) (D.sty g) (E.mono (fun _ _ x=>x.sty g)) (I.sty g) J (O.sty g) u s G H
 | two b c k t v p _ r P I s z K m n l=>exact .two b c k t v p _ r P I s z K (m.sty g) (n.sty g) l
theorem PlF.sty{F:Fg}(a:Sty w w'):∀(d:List CW)(v:Value),PlF M w F v d->PlF M w' F v d
 | [],_,h=>h
 | f::r,v,h=>by obtain⟨b,c,e,g,i,j,k⟩:=h;exact⟨b,c,e,g,i.sty a,j.sty a,PlF.sty a r e k⟩
theorem PrF.sty{F:Fg}(a:Sty w w'){q:PF×Env}(h:PrF M w F b q):PrF M w' F b q:=by obtain⟨u,c,x,d,e,f,g,i,j⟩:=h;exact⟨u,c,x,d,e.sty a,f,g,i.sty a,j.sty a⟩
theorem CoF.sty{F:Fg}(a:Sty w w'){q:List CW}(h:CoF M w F b q):CoF M w' F b q:=by obtain⟨c,d,e⟩:=h;exact⟨c,d.sty a,PlF.sty a _ _ e⟩
theorem One.sty{a:Value}(h:One M w mv k a)(b:Sty w w'):One M w' mv k a:=by obtain⟨c,d,e,f,g,i,j,l,m⟩:=h;exact⟨c,d,e,f,g,i.sty b,j.sty b,l.sty b,m.sty b⟩
theorem Two.sty{a b:Value}(h:Two M w mv k a b)(c:Sty w w'):Two M w' mv k a b:=by obtain⟨d,e,f,g,i,j,l,m,n,o,p⟩:=h;exact⟨d,e,f,g,i,j,l.sty c,m.sty c,n.sty c,o.sty c,p.sty c⟩
theorem MadeK.sty{us:List Value}{ot:Value}(h:MadeK M w us ot mv k)(a:Sty w w'):MadeK M w' us ot mv k:=by
 unfold MadeK at h ⊢;split at h
 ·exact One.sty h a
 ·exact Two.sty h a
 ·exact h
theorem MadeV.sty{us:List Value}{ot gv:Value}(h:MadeV M w us ot gv mv)(a:Sty w w'):MadeV M w' us ot gv mv:=by
 rcases h with⟨k,b,c⟩ | h
 ·exact .inl ⟨k,b,c.sty a⟩
 ·exact .inr h
theorem SitAt.sty{b:Site}(h:SitAt M w b)(a:Sty w w'):SitAt M w' b:=by obtain⟨d,f,g,c,e,i,j,k,l,m,n,o,p⟩:=h.ex;exact⟨h.mb,h.sb,d,f,g,c,e,a.cells i (by decide),a.cells j (by decide),a.cells k (by decide),l,m.sty a,n,o,fun q=>(p q).sty a⟩
theorem FW.sty{L:Lo}{O:Nat->Prop}{F:Fg}{N:Nat}{W:PW}(h:FW L M O w F N W)(a:Sty w w'):FW L M O w' F N W:=by
 have d:∀k o,k<8->w'.cell? ⟨k,o,none⟩=w.cell? ⟨k,o,none⟩:=fun k o e=>World.cell?_of_block (w:=w) (a.low k e);obtain⟨S,T,j⟩:=h.CY.B3.F6;obtain⟨U,c,l⟩:=h.map.F6;refine⟨⟨h.CY.B3.keep ((a.cells h.CY.B3.blk (by decide)).trans h.CY.B3.blk.symm) ((a.map j).trans j.symm),⟨h.CY.pairs.len,h.CY.pairs.nodup,fun i b p E r=>?_⟩,h.CY.FV,h.CY.JJ,fun k e=>l_ (h.CY.mlt k e) a.size⟩,h.NN.sty a,h.TH,h.UE,h.map.keep ((a.map l).trans l.symm),h.gn,fun k g e=>?_,h.ginj,h.gall,h.gpl,fun G q=>(h.sit G q).sty a,h.sn1,h.sn2,h.sgl,h.pql,h.pqi,fun i b q H I J=>(h.pqa i b q H I J).sty a,h.AG.mono (fun b x K=>K.sty a),⟨h.places.len,h.places.inj,fun i g o p P r=>?_⟩,fun k e=>?_,h.pr,⟨t_ h.gs.size a.size,h.gs.low,iH a.low h.gs.B3⟩,fun k s e t=>?_,(d _ _ kT).trans h.gt,?_,h.tq,h.tc,h.nl⟩
 ·obtain⟨m,x,y,n,z,A⟩:=h.CY.pairs.at_ i b p E r;exact⟨m,x,y,a.cells n (by decide),z,A⟩
 ·obtain⟨B,v,Q,s,C,D,R⟩:=h.gat k g e;exact⟨B,v,Q,s,C,a.cells D (by decide),R⟩
 ·obtain⟨m,f,v,n,z,A⟩:=h.places.at_ i g o p P r;exact⟨m,f,v,a.cells n (by decide),z,A⟩
 ·obtain⟨B,⟨f,C⟩,D⟩:=h.oth k e;exact⟨B,⟨f,a.cells C (by decide)⟩,D⟩
 ·rw [d _ _ jN,d _ _ jN];exact h.JQ k s e t
 ·obtain⟨u,m,n⟩:=h.ge;exact⟨u,(d _ _ kU).trans m,n⟩
end
open Pl (AW)
section
open Go.RowKit Go.Maps Go.Lib
def sgF(N:List AE):Sg:=⟨345,357,[],[],[],List.replicate 13 none,N⟩
def fgF(N:List AE)(gl:Nat->Option Nat):Fg:=⟨sgF N,gl,13,[],[]⟩
def MF(L:Lo)(gl:Nat->Option Nat)(k:Nat):Prop:=k=L.mb\/k=L.gb\/∃j,gl j=some k
theorem new_fw{w0 w:World}{L:Lo}{N:List AE}{gl:Nat->Option Nat}{D:DataW Value}{W:PW}(C:N.length=L.nn)(t:W.pairs=[]/\W.procs=[]/\W.AG=[]/\W.places.length=13)(B:Stp (fun _=>False) w0 (MF L gl) w)(d:Gs w0 (fun _=>False))(hp:EH w0)(E:w0.cell? ⟨2,0,none⟩=some (.iface 159 (.agg #[.pointer (some ⟨8,65,none⟩)])))(F:GE w0)(f:IW w L.tb L.mb N)(G:¬MF L gl L.tb)(H:L.gb≠L.mb)
  (x:w.heap[L.sb]?=some (.cells #[.map (some L.gb)] TFSe (0,0))) (I:¬MF L gl L.sb) (h:w.ownsMap prog 3 heldE L.gb 13 D) (M:GmD D (fgF N gl))
  (y:∀k g,gl k=some g->∃v l i p,N[k]?=some l/\w.heap[g]?=some (.cells #[v,.int .i64 0] TGlb (0,0))/\Pl.find W.globals l=some i/\W.places[i]?=some p/\RV (sgF N) v p) (z:∀a b g:Nat,gl a=some g->gl b=some g->a=b)
  (A:∀l i,Pl.find W.globals l=some i->(∃k g,N[k]?=some l/\gl k=some g)/\(List.replicate 13 (none:Option (Nat×Nat)))[i]?=some none) (J:∀a b i,Pl.find W.globals a=some i->Pl.find W.globals b=some i->a=b) :
  FW L (MF L gl) (fun _=>False) w (fgF N gl) 13 W:=by
 have K:∀k,MF L gl k->k<w.heap.size:=fun k s=>by
  rcases s with rfl | rfl | ⟨j,O⟩
  ·exact f.lt.2
  ·obtain⟨Y,c,m,_⟩:=h;exact aB m
  ·obtain⟨_,_,_,_,_,m,_⟩:=y j k O;exact aB m
 refine⟨⟨f,by rw [t.1];exact⟨rfl,List.nodup_nil,fun i b p m=>by cases m⟩,.inl rfl,G,K⟩,⟨I,x⟩,.inr (.inl rfl),H,⟨D,h,M⟩,n_,fun k g s=>?_,z,A,J,fun P n=>(by cases n),List.nodup_nil,List.nodup_nil,fun P n=>(by cases n),by rw [t.2.1];rfl,fun i j b r=>(by cases r),fun i b q r=>(by cases r),by rw [t.2.2.1];exact⟨rfl,List.nodup_nil,fun i b p m=>by cases m⟩,⟨t.2.2.2.symm,fun i j c r=>?_,fun i g o p r=>?_⟩,fun k s=>s.elim,t.2.1.symm,d.AQ B,hp.AQ d B,(bY d B kT).trans E,?_,rfl,rfl,C⟩
 ·obtain⟨v,l,i,p,Q,R,S,T,U⟩:=y k g s;exact⟨.inr (.inr ⟨k,s⟩),v,0,l,Q,R,Nat.zero_le _,.inr ⟨i,p,S,T,U⟩⟩
 ·have:=q_ r;have e:=List.eq_of_mem_replicate this
  cases e
 ·have:=q_ r;have e:=List.eq_of_mem_replicate this
  cases e
 ·obtain⟨u,V,X⟩:=F;exact⟨u,(bY d B kU).trans V,X⟩
structure NwI(w2:World)(gb r:Nat)(D0:DataW Value)(wr:World)(left:Lit->Bool)(n:Nat)(Dout:DataW Value)(gl:Nat->Option Nat):Prop where
 own:wr.ownsMap prog 3 heldE gb n Dout
 yes:∀(k g:Nat),gl k=some g->Maps.has Dout (.int .i64 (k:Int))=true/\∀z,Dout.atKey (.int .i64 (k:Int)) z=.held (pt g)
 no:∀(k:Nat),gl k=none->Maps.has Dout (.int .i64 (k:Int))=false
 at_:∀(k g:Nat),gl k=some g->r<g/\∃v,wr.heap[g]?=some (.cells #[v,.int .i64 0] TGlb (0,0))/\∀z,D0.atKey (.int .i64 (k:Int)) z=.held v
 inj:∀(a b g:Nat),gl a=some g->gl b=some g->a=b
 lf:∀k:Nat,Maps.has D0 (.int .i64 (k:Int))=true->(∃g,gl k=some g)\/left (.int .i64 (k:Int))=true
 old:∀k,k<r->k≠gb->wr.heap[k]?=w2.heap[k]?
 same:wr.os=w2.os/\wr.tape=w2.tape/\wr.output=w2.output
 sz:r<wr.heap.size
theorem NwI.step{w2:World}{gb r:Nat}{F:DataW Value}{wr:World}{left:Lit->Bool}{n:Nat}{i:DataW Value}{gl:Nat->Option Nat}(h:NwI w2 gb r F wr left n i gl)(N:gb<r)(S:n<14){x:Int}{c:Value}(O:(Lit.int .i64 x).wf=true)(G:∀z,F.atKey (.int .i64 x) z=.held c){w1:World}(l:wr.grownBy w1 (some r))(P:w1.heap.size=wr.heap.size) :∃y,(Instr.mapUpdate 89 (.map (some gb)) (.int .i64 x) (.pointer (some ⟨w1.heap.size,0,none⟩))).run prog (w1.alloc (.cells #[c,.int .i64 0] 94))=.ok () y/\(w1.alloc (.cells #[c,.int .i64 0] 94)).grownBy y (some gb)/\∃o H,NwI w2 gb r F y (fun z=>left z&&!z.sameKey (.int .i64 x)) (n+1) o H:=by
 have p:(w1.alloc (.cells #[c,.int .i64 0] 94)).ownsMap prog 3 heldE gb n i:=(h.own.kept l (fun e=>by have:=i_ e;omega)).alloc _;have A:WideAt.IsKeyLit (.int .i64 x):=trivial;obtain⟨y,B,q,s⟩:=p.store aKS underlying89 (by unfold maxLen;omega) (keyOf_int_mk underlying3 O) (d:=.held (pt w1.heap.size)) (ps:=[]) (val:=pt w1.heap.size) rfl;have t:=s.grown;have K:IsMap i:=h.own.isMap;have I:Below w1.heap.size w1 (w1.alloc (.cells #[c,.int .i64 0] 94)):=b_;have Q:=h.sz;have L:∀k,k<w1.heap.size->k≠gb->k≠r->y.heap[k]?=wr.heap[k]? := fun k f C m=>by rw [t.block k (by have:=I.size;omega) (fun e=>C (i_ e)),I.block k f];exact l.block k (by omega) (fun e=>m (i_ e))
 have E:∀{k:Nat},(k:Int)≠x->(Lit.int .i64 (k:Int))≠.int .i64 x:=fun f e=>f (by injection e);refine⟨y,B,t,_,fun j=>if(j:Int)=x then some w1.heap.size else gl j,⟨q,fun k g f=>?_,fun k f=>?_,fun k g f=>?_,fun a b g u w=>?_,fun k f=>?_,fun k f D=>?_,?_,?_⟩⟩
 ·try dsimp only at f
  by_cases e:(k:Int)=x
  ·rw [if_pos e] at f;obtain rfl:=i_ f;rw [e];exact⟨has_put_same K A _,fun z=>atKey_put_same K A _ z⟩
  ·rw [if_neg e] at f;obtain⟨C,m⟩:=h.yes k g f;exact⟨by rw [has_put_other (E e)];exact C,fun z=>by rw [atKey_put_other (E e)];exact m z⟩
 ·try dsimp only at f
  by_cases e:(k:Int)=x
  ·rw [if_pos e] at f;cases f
  ·rw [if_neg e] at f;rw [has_put_other (E e)];exact h.no k f
 ·try dsimp only at f
  by_cases e:(k:Int)=x
  ·rw [if_pos e] at f;obtain rfl:=i_ f;refine⟨by omega,c,?_,by rw [e];exact G⟩;rw [t.block _ (by simp) (fun e=>by have:=i_ e;omega)];exact heap_alloc_new _ _
  ·rw [if_neg e] at f;obtain⟨C,v,m,R⟩:=h.at_ k g f;have:=aB m;exact⟨C,v,(L g (by omega) (by omega) (by omega)).trans m,R⟩
 ·try dsimp only at u w
  have M:∀{k:Nat},gl k=some w1.heap.size->False:=fun f=>by obtain⟨_,_,m,_⟩:=h.at_ _ _ f;have:=aB m;omega
  by_cases e:(a:Int)=x<;>by_cases J:(b:Int)=x
  ·omega
  ·rw [if_pos e] at u;rw [if_neg J] at w;obtain rfl:=i_ u;exact(M w).elim
  ·rw [if_neg e] at u;rw [if_pos J] at w;obtain rfl:=i_ w;exact(M u).elim
  ·rw [if_neg e] at u;rw [if_neg J] at w;exact h.inj a b g u w
 ·try dsimp only
  by_cases e:(k:Int)=x
  ·exact .inl ⟨_,if_pos e⟩
  ·rw [if_neg e,sameKey_ne (E e)];simpa using h.lf k f
 ·rw [L k (by omega) D (by omega)];exact h.old k f D
 ·exact⟨t.os.trans (l.os.trans h.same.1),t.tape.trans (l.tape.trans h.same.2.1),t.output.trans (l.output.trans h.same.2.2)⟩
 ·have:=t.size;have:=I.size;omega
theorem NwI.up{w2:World}{gb r:Nat}{b:DataW Value}{wr:World}{left:Lit->Bool}{n n':Nat}{a:DataW Value}{gl:Nat->Option Nat}(h:NwI w2 gb r b wr left n a gl)(c:n<=n'):NwI w2 gb r b wr left n' a gl:={h with own:=h.own.mono c}
def wFS(w:World):World:=(w.alloc (.map #[] 0)).alloc (.cells #[.map (some w.heap.size)] 91)
theorem wFS_at(w:World):(wFS w).heap[w.heap.size]?=some (.map #[] 0)/\(wFS w).heap[w.heap.size+1]?=some (.cells #[.map (some w.heap.size)] 91 (0,0))/\(wFS w).heap.size=w.heap.size+2/\Below w.heap.size w (wFS w):=by refine⟨(k_ (by simp)).trans (heap_alloc_new w _),?_,by simp [wFS],b_.alloc (by simp) _⟩;have:=heap_alloc_new (w.alloc (.map #[] 0)) (.cells #[.map (some w.heap.size)] 91);rw [show(w.alloc (.map #[] 0)).heap.size=w.heap.size+1 from by simp] at this;exact this
def NwQ(w:World)(tb mb:Nat)(n0:List AE)(w':World):Prop:=∃w2 D0 Dout gl left,GQ (wFS w) tb mb (w.heap.size+2) n0 13 w2/\GI w2 (w.heap.size+2) n0 13 D0/\NwI w2 w.heap.size w2.heap.size D0 w' left 13 Dout gl/\∀k,left k=false
theorem intInv(a:Value)(b:Lit)(h:keyOf prog 3 a=some b):∃x,a=Value.int .i64 x:=by obtain⟨x,rfl,_⟩:=Maps.keyOf_int_inv underlying3 h;exact⟨x,rfl⟩
theorem p_newFS(w:World)(tb mb:Nat)(i:List AE)(B:i.length<=1000)(C:i.Nodup)(V:IW w tb mb i)(hg:8<=w.heap.size)(E:∀S,Below w.heap.size w S->EH S) :Calls prog 20 #[.pointer (some ⟨tb,0,none⟩)] w fun e S=>e=.returned (.pointer (some ⟨w.heap.size+1,0,none⟩))/\NwQ w tb mb i S:=by
 have W:=@run_makeMap prog;obtain⟨a1,a2,a3,U⟩:=wFS_at w;have l:=V.lt;have HG:Hid (Calls prog 19 #[.pointer (some ⟨tb,0,none⟩)] ((w.alloc (.map #[] 0)).alloc (.cells #[.map (some w.heap.size)] 91)) fun e d=>e=.returned (.map (some (w.heap.size+2)))/\∃f,d.ownsMap prog 3 heldE (w.heap.size+2) 13 f/\Hid (GQ (wFS w) tb mb (w.heap.size+2) i 13 d/\GI d (w.heap.size+2) i 13 f)):=by have h0:=sJ (wFS w) tb mb i B C (V.keep (U.block _ l.1) (U.block _ l.2)) (E _ U) (by omega);rw [a3] at h0;refine h0.mono (fun e d X=>⟨X.1,?_⟩);obtain⟨D,hD⟩:=X.2.2.1;exact⟨D,hD.own,X.2,hD⟩
 have HX:Hid (∀(d wr:World)(f:DataW Value),GQ (wFS w) tb mb (w.heap.size+2) i 13 d/\GI d (w.heap.size+2) i 13 f->d.grownBy wr none->wr.heap.size=d.heap.size+1->NwI d w.heap.size d.heap.size f wr (Maps.has f) 0 (.map []) (fun _=>none)):=fun d wr f ⟨Y,h2⟩ F h4=>by
  obtain⟨q1,q2,Z,q4,q5,q6,q7,q8,q9⟩:=Y;have b0:d.heap[w.heap.size]?=some (.map #[] 0):=(Z _ (by omega) (by have:=l.2;omega)).trans a1;have o0:d.ownsMap (H:=Value) prog 3 heldE w.heap.size 0 (.map []):=by obtain⟨es,c,hb,r⟩:=World.ownsMap_made (H:=Value) w prog 3 heldE;rw [heap_alloc_new] at hb;simp only [o_,Obj.map.injEq] at hb;obtain⟨rfl,rfl⟩:=hb;exact⟨#[],0,b0,r⟩
  exact⟨o0.kept F (by simp),fun k g u=>(by cases u),fun k _=>rfl,fun k g u=>(by cases u),fun a b g ha=>(by cases ha),fun k u=>.inr u,fun k u _=>F.block k u (by simp),⟨F.os,F.tape,F.output⟩,by omega⟩
 have HS:Hid (∀(d:World)(f:DataW Value),GQ (wFS w) tb mb (w.heap.size+2) i 13 d/\GI d (w.heap.size+2) i 13 f->d.heap[w.heap.size+1]?=some (.cells #[.map (some w.heap.size)] 91 (0,0))/\w.heap.size+2<d.heap.size):=fun d f ⟨Y,h2⟩=>by obtain⟨q1,q2,Z,q4,q5,q6,q7,q8,q9⟩:=Y;exact⟨(Z _ (by omega) (by have:=l.2;omega)).trans a2,q8⟩
 clear V hg E B C l a1 a2 a3 U;go_enter func20,ntmps20
 go_wp2_with (first
  | (go_at_call 19;refine(Calls.mono HG ?_);rintro e d ⟨rfl,f,m,o⟩)
  | (at_range;refine wpList_range_own _ rfl _ 58 rfl 3 88 aKS underlying58 _ (w.heap.size+2) 13 _ rfl m ?_;intro w0 G aa ab)
  | go_in)
 go_frame
 have am:=m.size_le;obtain⟨ac,al⟩:=HS.out d f o;have I:=h_ (HX d w0 f o aa ab);clear m HX HS HG W
 go_loopw [12] (fun _ wr=>∃(left:Lit->Bool)(p:Nat)(n:DataW Value)(gl:Nat->Option Nat),wr.ranges prog 3 heldE (w.heap.size+2) d.heap.size 13 f left p/\p<=Maps.size f/\Hid (NwI d w.heap.size d.heap.size f wr left (Maps.size f-p) n gl))
  (fun _ wr=>wr.rangeLeft (w.heap.size+2) d.heap.size)
 case atStart =>exact⟨_,_,.map [],fun _=>none,G,n_,by rw [Nat.sub_self];exact I⟩
 case round =>
  obtain⟨left,p,n,gl,J,an,K⟩:=hrel;have ad:wr.cell? ⟨w.heap.size+1,0,none⟩=some (.map (some w.heap.size)):=aA ((K.old _ (by omega) (by omega)).trans ac) 0
  go_wp2_with (first
   | (at_next;refine wpList_next_ranges _ rfl _ rfl 3 aKS heldE (Value.int .i64) (fun v:Value=>v) intInv (fun v _ _=>⟨v,rfl⟩) (w.heap.size+2) d.heap.size 13 _ _ _ rfl J ?_ ?_)
   | go_in)
  ·intro ae af;subst ae;have HE:=(show Hid (NwQ w tb mb i wr) from⟨d,f,n,gl,left,o.1,o.2,K.up (by omega),af⟩)
   clear K I;go_wp2_with fail;go_ret;exact⟨rfl,HE⟩
  ·intro x c kl y1 y2 w1 L M ao hy q N ag O s ap;obtain⟨x',ex,ah,P⟩:=Maps.keyOf_int_inv underlying3 M;obtain rfl:x=x':=by injection ex
   subst ah;have y:y1=.held c:=by have h:some ((.held c:DataW Value),([]:List MemPlace))=some (y1,y2):=hy;simp only [o_,Prod.mk.injEq] at h;exact h.1.symm
   obtain⟨Tc,xc,rfl⟩:∃T x,c=.iface T x:=by
    have hh:Maps.has f (.int .i64 x)=true:=has_true_of_atKey q;obtain⟨kk,rfl⟩:=o.2.nat x hh;obtain⟨j,nm,j1,j2,j3⟩:=o.2.no kk hh;obtain⟨k',k1,k2,k3⟩:=o.2.yes j nm j1 j2;have e1:=cV o.2.nodup j3;have e2:=cV o.2.nodup k1;obtain rfl:kk=k':=by omega
    have:=(k3 (.held .nilIface)).symm.trans ((q (.held .nilIface)).trans y);have e:aL2 j=c:=by injection this
    rw [<- e]
    cases j with
    | zero=>exact⟨_,_,rfl⟩
    | succ j=>exact⟨_,_,rfl⟩
   obtain⟨w3,Q,ai,A,aj,R⟩:=K.step (by omega) (by omega) P (fun z=>(q z).trans y) O s;rw [s] at Q;have aq:w1.cell? ⟨w.heap.size+1,0,none⟩=some (.map (some w.heap.size)):=(World.cell?_of_block (w:=wr) (O.block (w.heap.size+1) (by have:=K.sz;omega) (fun e=>by have:=i_ e;omega))).trans ad;have t:=(N.alloc (.cells #[.iface Tc xc,.int .i64 0] 94)).kept ai (fun e=>by have:=i_ e;omega) (fun e=>by have:=i_ e;omega);have ak:=h_ R;clear R q hy y M P;go_wp2_with fail
   go_roundw
   case rel=>exact⟨_,L,A,aj,t,by omega,ak.up (by omega)⟩
   case measure=>rw [t.left_eq,J.left_eq];exact ag
theorem new_fs{w0 w1 w':World}{tb mb:Nat}{s:List AE}(t:Below w0.heap.size w0 w1)(C:Gs w0 (fun _=>False))(hp:EH w0)(E:w0.cell? ⟨2,0,none⟩=some (.iface 159 (.agg #[.pointer (some ⟨8,65,none⟩)])))(F:GE w0)(V:w0.heap.size<=mb)(X:tb≠mb)(Y:tb<w1.heap.size)(Z:mb<w1.heap.size)(hQ:NwQ w1 tb mb s w') :∃o,FW ⟨tb,mb,w1.heap.size+1,w1.heap.size,(H8 s 13).length⟩ (MF ⟨tb,mb,w1.heap.size+1,w1.heap.size,(H8 s 13).length⟩ o) (fun _=>False) w' (fgF (H8 s 13) o) 13 AW/\Stp (fun _=>False) w0 (MF ⟨tb,mb,w1.heap.size+1,w1.heap.size,(H8 s 13).length⟩ o) w':=by
 obtain⟨w2,D0,u,o,left,hG,y,c,p⟩:=hQ;obtain⟨a1,a2,a3,z⟩:=wFS_at w1;obtain⟨P,_,Q,q4,q5,q6,q7,q8,q9⟩:=hG;have m:=y.nodup;have n:=y.yes;have w:=y.no;clear y;generalize H8 s 13=N at m n w P ⊢;have aa:=t.size;have G:∀k,k<w1.heap.size->k≠mb->w'.heap[k]?=w1.heap[k]? := fun k q H=>by rw [c.old k (by omega) (by omega),Q k (by omega) H];exact z.block k q
 have r:∀{k g:Nat},o k=some g->w2.heap.size<g:=fun q=>(c.at_ _ _ q).1;have I:∀{k j:Nat} {d:AE},N[k]?=some d->N[j]?=some d->k=j:=fun h1 h2=>by have e1:=cV m h1;have e2:=cV m h2;omega
 have J:∀{d:AE},d∈oF->∃j,j<13/\oF[j]?=some d:=fun hm=>by obtain⟨j,l⟩:=List.getElem?_of_mem hm;have:=(s_ l).1;rw [aAQ] at this;exact⟨j,this,l⟩
 have R:Stp (fun _=>False) w0 (MF ⟨tb,mb,w1.heap.size+1,w1.heap.size,N.length⟩ o) w':=by
  refine⟨c.same.1.trans (q5.trans (z.os.trans t.os)),c.same.2.1.trans (q6.trans (z.tape.trans t.tape)),c.same.2.2.trans (q7.trans (z.output.trans t.output)),by have:=c.sz;omega,fun k q _=>⟨(G k (by omega) (by omega)).trans (t.block k q),?_⟩⟩;rintro(e | e | ⟨j,l⟩)
  ·simp only at e;omega
  ·simp only at e;omega
  ·have:=r l;omega
 refine⟨o,new_fw (N:=N) (gl:=o) (D:=u) (L:=⟨tb,mb,w1.heap.size+1,w1.heap.size,N.length⟩) (W:=AW) (Eq.refl _) ⟨rfl,rfl,rfl,rfl⟩ R C hp E F (P.keep (c.old _ (by omega) (by omega)) (c.old _ (by omega) (by omega))) ?_ (by simp only;omega) ?_ ?_ c.own ⟨c.own.tidy aKS,c.yes,c.no⟩ (fun k g q=>?_) c.inj (fun d i A=>?_) (fun a b i ha K=>?_),R⟩
 ·rintro(e | e | ⟨j,l⟩)
  ·simp only at e;omega
  ·simp only at e;omega
  ·have:=r l;simp only at this;omega
 ·exact(c.old _ (by simp only;omega) (by simp only;omega)).trans ((Q _ (by simp only;omega) (by simp only;omega)).trans a2)
 ·rintro(e | e | ⟨j,l⟩)
  ·simp only at e;omega
  ·simp only at e;omega
  ·have:=r l;simp only at this;omega
 ·obtain⟨_,v,K,S⟩:=c.at_ k g q;obtain⟨j,d,l,f,x⟩:=w k (has_true_of_atKey S);obtain⟨k',M,_,k3⟩:=n j d l f;obtain rfl:=I x M;have ev:v=aL2 j:=by have:=(S (.held .nilIface)).symm.trans (k3 (.held .nilIface));injection this
  subst ev;have hi:=zO d (q_ f);obtain⟨i,A⟩:=Option.isSome_iff_exists.1 hi;obtain⟨O,B,T,U⟩:=l8 _ (eO _ _ _ A);refine⟨_,d,i,.AZ d,x,K,A,U,?_⟩
  cases j with
  | zero =>obtain rfl:AU=d:=i_ f;exact .EC
  | succ j =>
   refine .AZ j d ?_ (by omega);have:(AU::Pl.AO.take 12)[j+1]?=some d:=f
   rwa [List.getElem?_cons_succ,List.getElem?_take_of_lt (by omega)] at this
 ·obtain⟨O,B,T,U⟩:=l8 _ (eO _ _ _ A);obtain⟨j,l,f⟩:=J B;obtain⟨k,M,k2,_⟩:=n j d l f;refine⟨?_,T⟩;rcases c.lf k k2 with⟨g,hg⟩ | h
  ·exact⟨k,g,M,hg⟩
  ·rw [p] at h;cases h
 ·obtain⟨O,_⟩:=l8 _ (eO _ _ _ ha);obtain⟨B,_⟩:=l8 _ (eO _ _ _ K);exact i_ (O.symm.trans B)
end
end Go.Proofs.YtieooapcfpimlaaGreatDoor
