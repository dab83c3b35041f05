import Derived.Test.YtieooapcfpimlaaGreatDoorL15
namespace Go.Proofs.YtieooapcfpimlaaGreatDoor
set_option maxHeartbeats 4000000
set_option maxRecDepth 100000
open Go.Proofs.Tryz
open Pl (AE arity AO)
section
open Go.RowKit Go.Lib
def EH(w:World):Prop:=∀(k:Nat)(nm:AE),AO[k]?=some nm->k<12->w.cell? ⟨0,k*2,none⟩=some (.string ⟨nm.toArray⟩)/\w.cell? ⟨0,k*2+1,none⟩=some (.int .i64 (arity nm:Nat))
theorem gR(nm:ByteArray)(n:Nat)(f:Option Addr)(a b:Nat)(w:World)(j:n<=1000000000)(k:nm.size<=1000) :Calls prog 195 #[.string nm,.int .i64 (n:Int),.slice f a b] w fun e c=>w=c/\((a=n/\e=.returned .nilIface)\/(a≠n/\∃g,e=.returned (aY g 10))):=by
 by_cases h:a=n
 ·subst h;go_enter func195,ntmps195;go_wp2_with fail;go_ret;exact⟨rfl,.inl ⟨trivial,rfl⟩⟩
 ·have i:((a:Int)!=(n:Int))=true:=by simp;omega
  have d:((a:Int)==(n:Int))=false:=by simp;omega
  go_enter func195,ntmps195
  go_wp2_with (go_at_call 33;refine(bJ _ _ _).mono ?_;rintro e c ⟨rfl,rfl⟩)
  go_ret;exact⟨rfl,.inr ⟨h,_,rfl⟩⟩
theorem lQ{nm:AE}(h:nm∈AO):nm.length<=10:=by
 have:∀x∈AO,x.length<=10:=by decide
 exact this nm h
theorem dD(k:Nat)(nm:AE)(a:Int)(w:World)(hp:EH w)(b:AO[k]?=some nm)(c:k<12) :Calls prog 223 #[.int .i64 (k:Int),.int .i64 a] w fun e d=>w=d/\∃f,e=.returned (aY f a):=by
 obtain⟨g,_⟩:=hp k nm b c;have h:=lQ (q_ b);have i:(0:Int)<=(k:Int):=by omega
 have j:(k:Int)<12:=by omega
 clear hp b;go_enter func223,ntmps223;go_wp2_with (go_at_call 33;refine(bJ _ _ _).mono ?_;rintro e d ⟨rfl,rfl⟩);go_ret;exact⟨rfl,_,rfl⟩
theorem uS(n:Int)(w:World)(b:n.natAbs<=4611686018427387904):Calls prog 226 #[.int .i64 n] w fun e a=>w=a/\e=.returned (.int .i64 (n.natAbs:Int)):=by
 have c:wrap64 (-n)=-n:=by unfold wrap64;omega
 go_enter func226,ntmps226
 go_wp2_with fail
 go_ret;exact⟨rfl,congrArg (fun x=>Ending.returned (.int .i64 x)) (show max n (-n)=_ from by omega)⟩
theorem K1(n:Int):decide ((n.natAbs:Int)<=1099511627776)=decide (n.natAbs<=Pl.CG):=by rw [decide_eq_decide];unfold Pl.CG;omega
theorem uV(x y:Int)(w:World)(b:x.natAbs<=Pl.CG)(c:y.natAbs<=Pl.CG):Calls prog 225 #[.int .i64 0,.int .i64 x,.int .i64 y] w fun e a=>w=a/\e=.returned (.tuple #[.int .i64 (x+y),.bool (decide ((x+y).natAbs<=Pl.CG))]):=by
 have d:=K1 (x+y);unfold Pl.CG at b c;have f:wrap64 (x+y)=x+y:=by unfold wrap64;omega
 go_enter func225,ntmps225
 go_wp2_with (go_at_call 226;refine(uS _ _ (by omega)).mono ?_;rintro e a ⟨rfl,rfl⟩)
 go_ret2;exact⟨rfl,rfl⟩
theorem uT(x y:Int)(w:World)(b:x.natAbs<=Pl.CG)(c:y.natAbs<=Pl.CG):Calls prog 225 #[.int .i64 1,.int .i64 x,.int .i64 y] w fun e a=>w=a/\e=.returned (.tuple #[.int .i64 (x-y),.bool (decide ((x-y).natAbs<=Pl.CG))]):=by
 have d:=K1 (x-y);unfold Pl.CG at b c;have f:wrap64 (x-y)=x-y:=by unfold wrap64;omega
 go_enter func225,ntmps225
 go_wp2_with (go_at_call 226;refine(uS _ _ (by omega)).mono ?_;rintro e a ⟨rfl,rfl⟩)
 go_ret2;exact⟨rfl,rfl⟩
theorem zQ(x y:Int)(b:x≠0):decide ((y.natAbs:Int)<=1099511627776 / (x.natAbs:Int))=decide ((x*y).natAbs<=Pl.CG):=by
 rw [decide_eq_decide];have a:(0:Int)<(x.natAbs:Int):=by omega
 rw [Int.le_ediv_iff_mul_le a,Int.natAbs_mul];unfold Pl.CG;constructor
 ·intro h;have:((y.natAbs*x.natAbs:Nat):Int)<=1099511627776:=by simpa using h
  rw [Nat.mul_comm];omega
 ·intro h;have:((x.natAbs*y.natAbs:Nat):Int)<=1099511627776:=by omega
  rw [Nat.mul_comm] at this;simpa using this
theorem uU(x y:Int)(w:World)(g:x.natAbs<=Pl.CG)(i:y.natAbs<=Pl.CG):Calls prog 225 #[.int .i64 2,.int .i64 x,.int .i64 y] w fun e c=>Below w.heap.size w c/\∃r,((x*y).natAbs<=Pl.CG->r=x*y)/\e=.returned (.tuple #[.int .i64 r,.bool (decide ((x*y).natAbs<=Pl.CG))]):=by
 have j:(x*y).natAbs<=Pl.CG->IntKind.i64.wrap (x*y)=x*y:=fun h=>by rw [IntKind.wrap_i64];unfold Pl.CG at h;omega
 unfold Pl.CG at g i;by_cases b:x=0
 ·subst b;have d:(0:Int)*y=0:=by omega
  have k:decide (((0:Int)*y).natAbs<=Pl.CG)=true:=by rw [d];rfl
  go_enter func225,ntmps225
  go_wp2_with fail
  go_region
  all_goals
   go_wp2_with fail
   go_ret2;exact⟨r_.drew,0,fun _=>d.symm,by rw [k];rfl⟩
 ·have m:(x==0)=false:=by simpa using b
  have f:=zQ x y b;have n:(x.natAbs:Int)≠0:=by omega
  have a:IntKind.i64.wrap (Int.tdiv 1099511627776 (x.natAbs:Int))=1099511627776 / (x.natAbs:Int):=by rw [IntKind.wrap_i64,Int.tdiv_eq_ediv_of_nonneg (by decide)];have o:1099511627776 / (x.natAbs:Int)<=1099511627776:=Int.ediv_le_self _ (by decide);have p:0<=1099511627776 / (x.natAbs:Int):=Int.ediv_nonneg (by decide) (by omega);omega
  have l:decide ((y.natAbs:Int)<=IntKind.i64.wrap (Int.tdiv 1099511627776 (x.natAbs:Int)))=decide ((x*y).natAbs<=Pl.CG):=by rw [a];exact f
  clear a f;go_enter func225,ntmps225;go_wp2_with fail;go_region_with (go_at_call 226;refine(uS _ _ (by omega)).mono ?_;rintro e c ⟨rfl,rfl⟩)
  all_goals
   go_wp2_with fail
   go_ret2;refine⟨r_.drew,_,j,?_⟩
   go_simp
end
open Pl (PV PW PS PF CW Env)
section
open Go.RowKit Go.Maps
variable {w w':World} {M M':Nat->Prop} {v:Value} {b tb mb gb:Nat} {bs:List Nat}
def M8:TypeId:=302
def DQ:TypeId:=275
def BT:TypeId:=263
def U9:TypeId:=61
def EQ:TypeId:=283
def J0:TypeId:=406
inductive CX (M:Nat->Prop) (w:World) (s:Sg):Value->Env->Prop
 | nil:CX M w s (.pointer none) []
 | cons (b:Nat) (nv up:Value) (ao:Option Addr) (cap base:Nat) (ns:List AE) (env:Env)
   (hb:w.heap[b]?=some (.cells #[nv,.slice ao ns.length cap,up] M8 (0,0))) (hm:¬M b) (hn:EI M w s nv ns) (hcap:ns.length<=cap)
   (hp:∀i,i<ns.length->∃g off,ao=some ⟨g,off,none⟩/\s.lp[base+i]?=some (some (g,off+i)))
   (h:CX M w s up env):CX M w s (.pointer (some ⟨b,0,none⟩)) (env++Pl.C1 ns base)
theorem CX.go{s t:Sg}(k:Stp M w M' w')(l:Sg.Le s t){e:Env}(h:CX M w s v e):CX M' w' t v e:=by
 induction h with
 | nil=>exact .nil
 | cons b n o p d a q f m r u c x _ y =>
  obtain⟨z,A⟩:=k.block b (aB m) r
  exact .cons b n o p d a q f (z.trans m) A (u.go k l) c (fun i B=>by
   obtain⟨g,j,C,D⟩:=x i B
   exact⟨g,j,C,bS l.lp D⟩) y
theorem CX.ptr{s:Sg}{e:Env}(h:CX M w s v e):∃o,v=.pointer o:=by cases h<;>exact⟨_,rfl⟩
def E3(M:Nat->Prop)(w:World)(s:Sg)(v:Value)(fs:List PF):Prop:=∃us,Sl M w D8 1 v us.length us/\BY (CP M w s) us fs
def FD(M:Nat->Prop)(w:World)(s:Sg)(v:Value)(l:List PV):Prop:=∃us,Sl M w B9 1 v us.length us/\BY (RV s) us l
theorem E3.go{s t:Sg}(a:Stp M w M' w')(l:Sg.Le s t){fs:List PF}(h:E3 M w s v fs):E3 M' w' t v fs:=by obtain⟨b,c,d⟩:=h;exact⟨b,c.AQ a,d.mono (fun _ _ x=>x.go a l)⟩
theorem FD.go{s t:Sg}(a:Stp M w M' w')(l:Sg.Le s t){fs:List PV}(h:FD M w s v fs):FD M' w' t v fs:=by obtain⟨b,c,d⟩:=h;exact⟨b,c.AQ a,d.mono (fun _ _ x=>x.le l)⟩
inductive FF (M:Nat->Prop) (w:World) (s:Sg):Value->CW->Prop
 | iff (a b c ev:Value) (fr:CW) (x y z:PF) (hk:fr.form.k=.iff) (hf:fr.form.ks=[x,y,z]) (ha:∃T x,a=.iface T x) (h2:CP M w s b y) (h3:CP M w s c z) (he:CX M w s ev fr.env):FF M w s (.iface 286 (.agg #[a,b,c,ev])) fr
 | set (k:Nat) (ev:Value) (fr:CW) (hk:fr.form.k=.set) (hn:s.ns[k]?=some fr.form.nm) (he:CX M w s ev fr.env):FF M w s (.iface 289 (.agg #[.string ⟨fr.form.nm.toArray⟩,.int .i64 (k:Int),ev])) fr
 | define (k:Nat) (fr:CW) (hk:fr.form.k=.define) (hn:s.ns[k]?=some fr.form.nm):FF M w s (.iface 291 (.agg #[.string ⟨fr.form.nm.toArray⟩,.int .i64 (k:Int)])) fr
 | begin (rv ev:Value) (fr:CW) (hk:fr.form.k=.begin) (hr:E3 M w s rv (fr.form.ks.drop fr.pos)) (he:CX M w s ev fr.env):FF M w s (.iface 300 (.agg #[rv,ev])) fr
 | call (vv rv ev:Value) (fr:CW) (hk:fr.form.k=.call) (hv:FD M w s vv fr.B8) (hr:E3 M w s rv (fr.form.ks.drop fr.pos)) (he:CX M w s ev fr.env):FF M w s (.iface 295 (.agg #[vv,rv,ev])) fr
theorem FF.go{s t:Sg}(d:Stp M w M' w')(l:Sg.Le s t){fr:CW}(h:FF M w s v fr):FF M' w' t v fr:=by
 cases h with
 | iff a b c f _ x y z e n o p q g=>exact .iff a b c f _ x y z e n o (p.go d l) (q.go d l) (g.go d l)
 | set k f _ e i g=>exact .set k f _ e (bS l.ns i) (g.go d l)
 | define k _ e i=>exact .define k _ e (bS l.ns i)
 | begin j f _ e m g=>exact .begin j f _ e (m.go d l) (g.go d l)
 | call r j f _ e u m g=>exact .call r j f _ e (u.go d l) (m.go d l) (g.go d l)
theorem FF.iface{s:Sg}{fr:CW}(h:FF M w s v fr):∃T x,v=.iface T x:=by cases h<;>exact⟨_,_,rfl⟩
def GW(M:Nat->Prop)(w:World)(s:Sg):Value->List CW->Prop
 | v,[]=>v=.pointer none
 | v,f::r=>∃b top up,v=.pointer (some ⟨b,0,none⟩)/\¬M b/\w.heap[b]?=some (.cells #[top,up,.int .i64 ((r.length+1:Nat):Int)] DQ (0,0))/\FF M w s top f/\GW M w s up r
theorem GW.go{s t:Sg}(a:Stp M w M' w')(l:Sg.Le s t):∀(d:List CW)(v:Value),GW M w s v d->GW M' w' t v d
 | [],_,h=>h
 | f::r,v,h=>by obtain⟨b,c,e,i,j,g,k,m⟩:=h;obtain⟨n,o⟩:=a.block b (aB g) j;exact⟨b,c,e,i,o,n.trans g,k.go a l,GW.go a l r e m⟩
theorem GW.ptr{s:Sg}:∀{a:List CW} {v:Value},GW M w s v a->∃o,v=.pointer o
 | [],_,h=>⟨_,h⟩
 | _::_,_,h=>by obtain⟨b,_,_,c,_⟩:=h;exact⟨_,c⟩
def GR(M:Nat->Prop)(w:World)(s:Sg)(b:Nat)(q:PF×Env):Prop:=¬M b/\∃nv body ev x,w.heap[b]?=some (.cells #[nv,body,ev] EQ (0,0))/\q.1.ks=[x]/\EI M w s nv q.1.ns/\CP M w s body x/\CX M w s ev q.2
def GX(M:Nat->Prop)(w:World)(s:Sg)(b:Nat)(c:List CW):Prop:=¬M b/\∃kv,w.heap[b]?=some (.cells #[kv] J0 (0,0))/\GW M w s kv c
theorem GR.go{s t:Sg}(c:Stp M w M' w')(l:Sg.Le s t){q:PF×Env}(h:GR M w s b q):GR M' w' t b q:=by obtain⟨e,f,a,g,x,d,i,j,k,m⟩:=h;obtain⟨n,o⟩:=c.block b (aB d) e;exact⟨o,f,a,g,x,n.trans d,i,j.go c l,k.go c l,m.go c l⟩
theorem GX.go{s t:Sg}(a:Stp M w M' w')(l:Sg.Le s t){q:List CW}(h:GX M w s b q):GX M' w' t b q:=by obtain⟨d,e,c,f⟩:=h;obtain⟨g,i⟩:=a.block b (aB c) d;exact⟨i,e,g.trans c,f.go a l⟩
structure OW{α:Type}(R:Nat->α->Prop)(bs:List Nat)(l:List α):Prop where
 len:bs.length=l.length
 nodup:bs.Nodup
 at_:∀(i b:Nat)(x:α),bs[i]?=some b->l[i]?=some x->R b x
theorem OW.mono{α:Type}{R Q:Nat->α->Prop}{l:List α}(h:OW R bs l)(a:∀b x,R b x->Q b x):OW Q bs l:=⟨h.len,h.nodup,fun i b x c d=>a b x (h.at_ i b x c d)⟩
theorem OW.push{α:Type}{R:Nat->α->Prop}{l:List α}(h:OW R bs l){x:α}(g:R b x)(j:b∉bs):OW R (bs++[b]) (l++[x]):=by
 refine⟨by simp [h.len],?_,?_⟩
 ·rw [List.nodup_append];refine⟨h.nodup,by simp,?_⟩;rintro a k c d;rintro rfl;simp at d;subst d;exact j k
 ·intro i c y d e;rcases Nat.lt_or_ge i bs.length with f | f
  ·rw [List.getElem?_append_left f] at d;rw [List.getElem?_append_left (by rw [<- h.len];exact f)] at e;exact h.at_ i c y d e
  ·rw [List.getElem?_append_right f] at d;rw [List.getElem?_append_right (by rw [<- h.len];exact f),<-h.len] at e;have m:=(s_ d).1;have n:i-bs.length=0:=by simp at m;omega
   rw [n] at d e;simp at d e;subst d e;exact g
theorem OW.get{α:Type}{R:Nat->α->Prop}{l:List α}(h:OW R bs l){i:Nat}(a:bs[i]?=some b):∃x,l[i]?=some x/\R b x:=by have d:=(s_ a).1;have c:=g_ (l:=l) (i:=i) (by rw [<- h.len];exact d);exact⟨_,c,h.at_ i b _ a c⟩
structure CM(M:Nat->Prop)(w:World)(s:Sg)(pl:List PV):Prop where
 len:s.lp.length=pl.length
 inj:∀(i j:Nat)(c:Nat×Nat),s.lp[i]?=some (some c)->s.lp[j]?=some (some c)->i=j
 at_:∀(i g o:Nat)(p:PV),s.lp[i]?=some (some (g,o))->pl[i]?=some p->M g/\∃cur v,w.heap[g]?=some (.cells cur B9 (0,0))/\cur[o]?=some v/\RV s v p
def heldE(v:Value):Option (DataW Value×List MemPlace):=some (.held v,[])
structure AC(D:DataW Value)(s:Sg)(W:PW):Prop where
 tidy:Tidy D
 yes:∀(k:Nat)(nm:AE)(i:Nat),s.ns[k]?=some nm->Pl.find W.globals nm=some i->Maps.has D (.int .i64 (k:Int))=true/\∃v p,(∀z,D.atKey (.int .i64 (k:Int)) z=.held v)/\W.places[i]?=some p/\RV s v p
 no:∀(k:Nat)(nm:AE),s.ns[k]?=some nm->Pl.find W.globals nm=none->Maps.has D (.int .i64 (k:Int))=false
 keys:∀k:Nat,Maps.has D (.int .i64 (k:Int))=true->k<s.ns.length
 names:∀nm i,Pl.find W.globals nm=some i->nm∈s.ns/\s.lp[i]?=some none
 inj:∀a b i,Pl.find W.globals a=some i->Pl.find W.globals b=some i->a=b
def GV(w:World)(gb:Nat)(s:Sg)(W:PW):Prop:=∃D:DataW Value,w.ownsMap prog 3 heldE gb W.globals.length D/\AC D s W
theorem XS{P:Program}{k:TypeId}{R:Value->Option (DataW Value×List MemPlace)}{n:Nat}{D:DataW Value}(h:w.ownsMap P k R b n D):w.ownsMap P k R b (Maps.size D) D:=by obtain⟨a,c,d,e,f,rfl⟩:=h;exact⟨a,c,d,e,Nat.le_of_eq (length_read (P:=P) (k:=k) (R0:=R) a).symm,rfl⟩
structure Wd(M:Nat->Prop)(w:World)(s:Sg)(tb mb sb gb:Nat)(W:PW):Prop where
 CY:BM M w s tb mb W.pairs
 NN:w.heap[sb]?=some (.cells #[.map (some gb)] U9 (0,0))
 msb:¬M sb
 DI:GV w gb s W
 TH:M gb
 UE:gb≠mb
 procs:OW (GR M w s) s.qb W.procs
 AG:OW (GX M w s) s.cb W.AG
 places:CM M w s W.places
 gs:Gs w M
 JQ:EH w
 gt:w.cell? ⟨2,0,none⟩=some (.iface 159 (.agg #[.pointer (some ⟨8,65,none⟩)]))
 ge:GE w
 tq:s.tq=280
 tc:s.tc=402
structure Mv(M:Nat->Prop)(w:World)(M':Nat->Prop)(w':World):Prop where
 AQ:Stp M w M' w'
 keep:∀k,k<w.heap.size->M k->M' k/\(w'.heap[k]?=w.heap[k]? \/ ∃cur e fz,w.heap[k]?=some (.cells cur e fz)/\e≠B9)
 lt:(∀k,M k->k<w.heap.size)->∀k,M' k->k<w'.heap.size
theorem Mv.below(h:Below w.heap.size w w'):Mv M w M w':=⟨Stp.AA h,fun k a b=>⟨b,.inl (h.block k a)⟩,fun c k a=>l_ (c k a) h.size⟩
def Mn(M:Nat->Prop)(X:Nat->Prop)(k:Nat):Prop:=M k\/X k
theorem Mv.wide(X:Nat->Prop)(h:∀k,X k->w.heap.size<=k)(a:Below w.heap.size w w')(d:∀k,X k->k<w'.heap.size):Mv M w (Mn M X) w' :=⟨⟨a.os,a.tape,a.output,a.size,fun k b c=>⟨a.block k b,fun x=>x.elim c (fun y=>by have:=h k y;omega)⟩⟩,fun k b c=>⟨.inl c,.inl (a.block k b)⟩,fun e k b=>b.elim (fun y=>l_ (e k y) a.size) (d k)⟩
theorem CM.mv{s:Sg}{d:List PV}(h:CM M w s d)(j:Mv M w M' w'):CM M' w' s d :=
 ⟨h.len,h.inj,fun i g o p k l=>by
  obtain⟨m,b,v,c,n,q⟩:=h.at_ i g o p k l;obtain⟨r,a⟩:=j.keep g (aB c) m;rcases a with a | ⟨f,e,u,a,t⟩
  ·exact⟨r,b,v,a.trans c,n,q⟩
  ·rw [c] at a;simp only [o_,Obj.cells.injEq] at a
   exact absurd a.2.1.symm t⟩
theorem CM.le{s t:Sg}{b:List PV}(h:CM M w s b)(l:Sg.Le s t)(hp:t.lp=s.lp):CM M w t b :=
 ⟨by rw [hp];exact h.len,by rw [hp];exact h.inj,fun i g o p c d=>by
  rw [hp] at c;obtain⟨e,a,v,f,j,k⟩:=h.at_ i g o p c d
  exact⟨e,a,v,f,j,k.le l⟩⟩
theorem bY(h:Gs w M)(b:Stp M w M' w'){k o:Nat}(a:k<8):w'.cell? ⟨k,o,none⟩=w.cell? ⟨k,o,none⟩:=World.cell?_of_block (w:=w) (b.block k (l_ a h.size) (h.low k a)).1
theorem jN:0<8:=by decide
theorem kT:2<8:=by decide
theorem kU:6<8:=by decide
theorem EH.AQ(h:EH w)(b:Gs w M)(c:Stp M w M' w'):EH w':=fun k d e a=>by rw [bY b c jN,bY b c jN];exact h k d e a
theorem DE(d:Mv M w M' w'){f:Array MapEntry}{c:Nat}(a:w.heap[b]?=some (.map f c))(g:M b):w'.heap[b]?=w.heap[b]? := by
 rcases(d.keep b (aB a) g).2 with h | ⟨i,e,j,h,_⟩
 ·exact h
 ·rw [a] at h;simp at h
theorem IW.F6{ns:List (List UInt8)}(h:IW w tb mb ns):∃a c,w.heap[mb]?=some (.map a c):=by obtain⟨D,⟨a,c,b,_⟩,_⟩:=h.map;exact⟨a,c,b⟩
theorem GV.F6{s:Sg}{W:PW}(h:GV w gb s W):∃a c,w.heap[gb]?=some (.map a c):=by obtain⟨D,⟨a,c,b,_⟩,_⟩:=h;exact⟨a,c,b⟩
theorem GV.keep{s:Sg}{W:PW}(h:GV w gb s W)(a:w'.heap[gb]?=w.heap[gb]?):GV w' gb s W:=by obtain⟨D,⟨b,c,d,r⟩,e⟩:=h;exact⟨D,⟨b,c,a.trans d,r⟩,e⟩
theorem BM.mv{s:Sg}{ps:List (PV×PV)}(h:BM M w s tb mb ps)(a:Mv M w M' w'):BM M' w' s tb mb ps:=by obtain⟨f,c,b⟩:=h.B3.F6;obtain⟨d,e⟩:=a.AQ.block tb h.B3.lt.1 h.JJ;exact⟨h.B3.keep d (DE a b h.FV),h.pairs.AQ a.AQ,(a.keep mb h.B3.lt.2 h.FV).1,e,a.lt h.mlt⟩
theorem Wd.mv{s:Sg}{sb:Nat}{W:PW}(h:Wd M w s tb mb sb gb W)(a:Mv M w M' w'):Wd M' w' s tb mb sb gb W:=by
 obtain⟨k,c,e⟩:=h.DI.F6;obtain⟨f,g⟩:=a.AQ.block sb (aB h.NN) h.msb
 exact⟨h.CY.mv a,f.trans h.NN,g,h.DI.keep (DE a e h.TH),(a.keep gb (aB e) h.TH).1,h.UE,h.procs.mono (fun b x d=>d.go a.AQ (Sg.Le.refl _)),h.AG.mono (fun b x d=>d.go a.AQ (Sg.Le.refl _)),h.places.mv a,h.gs.AQ a.AQ,h.JQ.AQ h.gs a.AQ,
  (bY h.gs a.AQ kT).trans h.gt,by
   obtain⟨v,i,j⟩:=h.ge
   exact⟨v,(bY h.gs a.AQ kU).trans i,j⟩,h.tq,h.tc⟩
def DS(M:Nat->Prop)(w:World)(v:Value)(l:AE):Prop:=w.ownsRow 0 JM 1 v l.length (byCells l)/\∀g,v.ownBlock=some g->M g
structure C0(M:Nat->Prop)(w:World)(sb rb:Nat)(fv ev gv kv ov:Value):Prop where
 blk:w.heap[rb]?=some (.cells #[.pointer (some ⟨sb,0,none⟩),fv,ev,gv,kv,ov] BT (0,0))
 JK:M rb
def FE(M:Nat->Prop)(w:World)(s:Sg)(v:Value)(ev gv:Value)(S:PS):Prop:=match S.form with
 | none=>v=.nilIface/\RV s gv S.val
 | some f=>CP M w s v f/\CX M w s ev S.env
structure LO(M:Nat->Prop)(w:World)(s:Sg)(sb rb:Nat)(S:PS)(out:AE):Prop where
 ex:∃fv ev gv kv ov,C0 M w sb rb fv ev gv kv ov/\FE M w s fv ev gv S/\GW M w s kv S.AB/\DS M w ov out
end
section
open Go.RowKit Go.Lib
variable {w w':World} {rb:Nat} {cs:Array Value} {M:Nat->Prop}
structure AI(w:World)(rb:Nat)(cs:Array Value)(w':World):Prop where
 os:w'.os=w.os
 tape:w'.tape=w.tape
 output:w'.output=w.output
 size:w.heap.size<=w'.heap.size
 blk:w'.heap[rb]?=some (.cells cs BT (0,0))
 other:∀k,k<w.heap.size->k≠rb->w'.heap[k]?=w.heap[k]?
theorem AI.mv{cs0:Array Value}(h:AI w rb cs w')(c:w.heap[rb]?=some (.cells cs0 BT (0,0)))(d:M rb):Mv M w M w' :=
 ⟨⟨h.os,h.tape,h.output,h.size,fun k a b=>⟨h.other k a (fun e=>b (by rw [e];exact d)),b⟩⟩,fun k a f=>⟨f,by
  by_cases e:k=rb
  ·subst e;exact .inr ⟨cs0,BT,(0,0),c,by decide⟩
  ·exact .inl (h.other k a e)⟩,fun g k a=>l_ (g k a) h.size⟩
theorem AI.after{w1:World}(h:AI w1 rb cs w')(a:Below w.heap.size w w1):AI w rb cs w' :=⟨h.os.trans a.os,h.tape.trans a.tape,h.output.trans a.output,t_ a.size h.size,h.blk,fun k b e=>(h.other k (l_ b a.size) e).trans (a.block k b)⟩
theorem AI.trans{w1:World}{cs':Array Value}(h:AI w rb cs w1)(k:AI w1 rb cs' w'):AI w rb cs' w' :=⟨k.os.trans h.os,k.tape.trans h.tape,k.output.trans h.output,t_ h.size k.size,k.blk,fun i a e=>(k.other i (l_ a h.size) e).trans (h.other i a e)⟩
theorem AI.set{cs0:Array Value}(a:w.heap[rb]?=some (.cells cs0 BT (0,0)))(o:Nat)(v:Value)(b:cs0.setIfInBounds o v=cs):AI w rb cs (w.setCell ⟨rb,o,none⟩ v) :=⟨rfl,rfl,rfl,by simp [World.setCell],by subst b;exact aD a o v,fun k _ e=>Below.heap_setCell _ _ _ _ (fun x=>e (by simpa using x))⟩
theorem AI.alloc(h:AI w rb cs w')(o:Obj):AI w rb cs (w'.alloc o) :=⟨h.os,h.tape,h.output,by simp;have:=h.size;omega,(k_ (aB h.blk)).trans h.blk,fun k a e=>(k_ (l_ a h.size)).trans (h.other k a e)⟩
theorem AI.drew(h:AI w rb cs w'):AI w rb cs w'.drew:=⟨h.os,h.tape,h.output,h.size,h.blk,h.other⟩
theorem jF(w:World)(a:Nat)(c g h i d f v:Value)(b:w.heap[a]?=some (.cells #[c,g,h,i,d,f] BT (0,0)))(l:∃T x,v=.iface T x) :Calls prog 149 #[.pointer (some ⟨a,1,none⟩),v] w fun e m=>e=.returned (.tuple #[])/\AI w a #[c,.nilIface,.pointer none,v,d,f] m:=by
 obtain⟨T,x,rfl⟩:=l;have p:w.cell? ⟨a,1,none⟩=some g:=aA b 1;have q:w.cell? ⟨a,2,none⟩=some h:=aA b 2;have r:w.cell? ⟨a,3,none⟩=some i:=aA b 3;have s:w.frozen? ⟨a,1,none⟩=false:=aF b 1;have t:w.frozen? ⟨a,2,none⟩=false:=aF b 2;have u:w.frozen? ⟨a,3,none⟩=false:=aF b 3;have n:Hid (AI w a #[c,.nilIface,.pointer none,.iface T x,d,f] (((w.setCell ⟨a,1,none⟩ .nilIface).setCell ⟨a,2,none⟩ (.pointer none)).setCell ⟨a,3,none⟩ (.iface T x))):=by have j:=AI.set b 1 .nilIface rfl;have k:=AI.set j.blk 2 (.pointer none) rfl;have o:=AI.set k.blk 3 (.iface T x) rfl;exact(j.trans k).trans o
 clear b;go_enter func149,ntmps149;go_wp2_with fail
 go_end0
 exact⟨rfl,n⟩
theorem cU(w:World)(a:Nat)(c h i j d f g ev:Value)(b:w.heap[a]?=some (.cells #[c,h,i,j,d,f] BT (0,0)))(m:∃T x,g=.iface T x)(n:∃o,ev=.pointer o) :Calls prog 152 #[.pointer (some ⟨a,1,none⟩),g,ev] w fun e p=>e=.returned (.tuple #[])/\AI w a #[c,g,ev,.nilIface,d,f] p:=by
 obtain⟨T,x,rfl⟩:=m;obtain⟨o,rfl⟩:=n;have s:w.cell? ⟨a,1,none⟩=some h:=aA b 1;have t:w.cell? ⟨a,2,none⟩=some i:=aA b 2;have u:w.cell? ⟨a,3,none⟩=some j:=aA b 3;have v:w.frozen? ⟨a,1,none⟩=false:=aF b 1;have y:w.frozen? ⟨a,2,none⟩=false:=aF b 2;have z:w.frozen? ⟨a,3,none⟩=false:=aF b 3;have q:Hid (AI w a #[c,.iface T x,.pointer o,.nilIface,d,f] (((w.setCell ⟨a,1,none⟩ (.iface T x)).setCell ⟨a,2,none⟩ (.pointer o)).setCell ⟨a,3,none⟩ .nilIface)):=by have k:=AI.set b 1 (.iface T x) rfl;have l:=AI.set k.blk 2 (.pointer o) rfl;have r:=AI.set l.blk 3 .nilIface rfl;exact(k.trans l).trans r
 clear b;go_enter func152,ntmps152;go_wp2_with fail
 go_end0
 exact⟨rfl,q⟩
def LI(w:World)(kv:Value)(n:Nat):Prop:=(kv=.pointer none/\n=0)\/∃b top up,kv=.pointer (some ⟨b,0,none⟩)/\w.heap[b]?=some (.cells #[top,up,.int .i64 (n:Int)] DQ (0,0))
theorem GW.J7{s:Sg}{kv:Value}{fs:List CW}(h:GW M w s kv fs):LI w kv fs.length:=by
 cases fs with
 | nil=>exact .inl ⟨h,rfl⟩
 | cons f r =>obtain⟨b,a,c,d,_,e,_⟩:=h;exact .inr ⟨b,a,c,d,e⟩
theorem LI.below{kv:Value}{n:Nat}(h:LI w kv n)(d:Below w.heap.size w w'):LI w' kv n:=by
 rcases h with h | ⟨b,a,e,f,c⟩
 ·exact .inl h
 ·exact .inr ⟨b,a,e,f,(d.block b (aB c)).trans c⟩
theorem yK(w:World)(a:Value)(n:Nat)(h:LI w a n):Calls prog 155 #[a] w fun e d=>e=.returned (.int .i64 (n:Int))/\w=d:=by
 rcases h with⟨rfl,rfl⟩ | ⟨b,f,g,rfl,c⟩
 ·go_enter func155,ntmps155
  go_wp2_with fail
  go_ret;exact⟨rfl,rfl⟩
 ·have i:w.cell? ⟨b,2,none⟩=some (.int .i64 (n:Int)):=aA c 2;clear c;go_enter func155,ntmps155;go_wp2_with fail;go_ret;exact⟨rfl,rfl⟩
theorem kS(w:World)(b:Nat)(h i j k d l f:Value)(n:Nat)(c:w.heap[b]?=some (.cells #[h,i,j,k,d,l] BT (0,0)))(q:∃T x,f=.iface T x)(r:∃o,d=.pointer o)(hp:LI w d n)(z:n<=6500000000000000000) :Calls prog 151 #[.pointer (some ⟨b,1,none⟩),f] w fun e a=>e=.returned (.tuple #[])/\∃p,w.heap.size<=p/\a.heap[p]?=some (.cells #[f,d,.int .i64 ((n+1:Nat):Int)] DQ (0,0))/\AI w b #[h,i,j,k,.pointer (some ⟨p,0,none⟩),l] a:=by
 obtain⟨T,x,rfl⟩:=q;obtain⟨o,rfl⟩:=r;have s:Hid (∀a,Below w.heap.size w a->Calls prog 155 #[.pointer o] a fun e t=>e=.returned (.int .i64 (n:Int))/\a=t):=fun a u=>yK a _ n (hp.below u);have A:w.cell? ⟨b,4,none⟩=some (.pointer o):=aA c 4;have B:w.frozen? ⟨b,4,none⟩=false:=aF c 4;have v:IntKind.i64.wrap ((n:Int)+1)=((n+1:Nat):Int):=by rw [IntKind.wrap_i64];omega
 have y:=aB c;have m:=h_ c;clear c hp;go_enter func151,ntmps151;go_wp2_with fail;go_region_with (go_at_call 155;refine(s _ (r_.drew)).mono ?_;rintro e a ⟨rfl,rfl⟩)
 all_goals
  go_wp2_with fail
  go_end0
  refine⟨rfl,w.heap.size,n_,?_,?_⟩
  ·have g:=heap_alloc_new (w.setCell ⟨b,4,none⟩ (.pointer (some ⟨w.heap.size,0,none⟩))) (.cells #[.iface T x,.pointer o,.int .i64 ((n+1:Nat):Int)] DQ);rw [show(w.setCell ⟨b,4,none⟩ (.pointer (some ⟨w.heap.size,0,none⟩))).heap.size=w.heap.size from by simp [World.setCell]] at g;first | exact g | (rw [v];exact g)
  ·first | exact((AI.set m 4 _ rfl).alloc _).drew | exact((AI.set m 4 _ rfl).drew.alloc _)
theorem cV{l:List AE}(a:l.Nodup){i:Nat}{t:AE}(h:l[i]?=some t):l.idxOf t=i:=by obtain⟨b,rfl⟩:=s_ h;exact a.idxOf_getElem i b
theorem eN:∀(c:List AE)(a:Nat)(b:AE),b∉c->Pl.find (Pl.C1 c a) b=none
 | [],_,_,_=>rfl
 | x::r,a,b,h=>by simp only [List.mem_cons,not_or] at h;simp only [Pl.C1,Pl.find,eN r (a+1) b h.2];rw [if_neg (fun e=>h.1 e.symm)]
theorem n9:∀(d:List AE)(a i:Nat)(b:AE),d.Nodup->d[i]?=some b->Pl.find (Pl.C1 d a) b=some (a+i)
 | [],_,_,_,_,h=>by simp at h
 | x::r,a,0,b,c,h=>by simp only [List.getElem?_cons_zero,o_] at h;subst h;simp only [List.nodup_cons] at c;simp only [Pl.C1,Pl.find,eN r (a+1) x c.1];simp
 | x::r,a,i+1,b,c,h=>by
  simp only [List.getElem?_cons_succ] at h;simp only [List.nodup_cons] at c;simp only [Pl.C1,Pl.find,n9 r (a+1) i b c.2 h]
  congr 1
  omega
def L7(w:World):Nat->Value->Prop
 | 0,v=>v=.pointer none
 | n+1,v=>∃b nv sv up,v=.pointer (some ⟨b,0,none⟩)/\w.heap[b]?=some (.cells #[nv,sv,up] M8 (0,0))/\L7 w n up
theorem L7.uniq:∀{n m:Nat} {v:Value},L7 w n v->L7 w m v->n=m
 | 0,0,_,_,_=>rfl
 | 0,m+1,v,h,k=>by
  obtain⟨b,_,_,_,e,_⟩:=k;rw [show v=.pointer none from h] at e
  cases e
 | n+1,0,v,h,k=>by
  obtain⟨b,_,_,_,e,_⟩:=h;rw [show v=.pointer none from k] at e
  cases e
 | n+1,m+1,v,h,k=>by obtain⟨b,l,o,p,rfl,d,c⟩:=h;obtain⟨q,f,g,i,e,a,j⟩:=k;simp only [Value.pointer.injEq,o_,Addr.mk.injEq,and_true] at e;subst e;rw [d] at a;simp only [o_,Obj.cells.injEq,Array.mk.injEq,List.cons.injEq,and_true] at a;rw [a.2.2] at c;rw [L7.uniq c j]
theorem CX.dep{s:Sg}{v:Value}{env:Env}(h:CX M w s v env):∃n,L7 w n v:=by
 induction h with
 | nil=>exact⟨0,rfl⟩
 | cons b c d j e a k env f _ _ _ _ _ g =>obtain⟨n,i⟩:=g;exact⟨n+1,b,c,_,d,rfl,f,i⟩
theorem Y9(w:World):∃a:Value->Nat,∀v n,L7 w n v->a v=n :=⟨fun v=>Classical.epsilon (fun n=>L7 w n v),fun _ _ h=>L7.uniq (Classical.epsilon_spec (p:=fun n=>L7 w n _) ⟨_,h⟩) h⟩
def VG(s:Sg)(env:Env)(nm:AE)(e:Ending):Prop :=(Pl.find env nm=none/\e=.returned (.pointer none))\/(∃i g o,Pl.find env nm=some i/\s.lp[i]?=some (some (g,o))/\e=.returned (.pointer (some ⟨g,o,none⟩)))
theorem aLK{f:Option Addr}{n cap:Nat}{ns:List AE}{ks:List Nat}(h:Sl M w B6 2 (.slice f n cap) ns.length (nmRow ns ks)){i k:Nat}{t:AE}(l:ns[i]?=some t)(o:ks[i]?=some k) :∃g a,f=some ⟨g,a,none⟩/\g<w.heap.size/\n=ns.length/\ns.length<=cap/\w.cell? ⟨g,a+i*2,none⟩=some (.string ⟨t.toArray⟩)/\w.cell? ⟨g,a+i*2+1,none⟩=some (.int .i64 (k:Int)):=by
 obtain⟨_,q,m,e,r,s⟩:=h;simp only [Value.slice.injEq] at e;obtain⟨rfl,rfl,rfl⟩:=e;have y:=(s_ l).1;rcases s with z | ⟨g,a,u,rfl,_,d,b⟩
 ·omega
 ·have v:(List.zip ns ks)[i]?=some (t,k):=by rw [List.getElem?_zip_eq_some];exact⟨l,o⟩
  have c:∀j,j<2->(nmRow ns ks)[i*2+j]?=(gU t k)[j]? := fun j x=>by unfold nmRow;exact aX (fun p=>gU p.1 p.2) 2 (fun _=>rfl) _ i j (t,k) v x
  refine⟨g,a,rfl,aB d,rfl,r,?_,?_⟩
  ·rw [aA d];exact b (i*2) _ (c 0 (by decide))
  ·rw [Nat.add_assoc,aA d];exact b (i*2+1) _ (c 1 (by decide))
theorem uW(M:Nat->Prop)(w:World)(s:Sg)(ev:Value)(env:Env)(nm:AE)(k:Nat)(P:s.ns.Nodup)(he:CX M w s ev env)(hk:s.ns[k]?=some nm) :Calls prog 154 #[ev,.agg #[.string ⟨nm.toArray⟩,.int .i64 (k:Int)]] w fun e w'=>Below w.heap.size w w'/\VG s env nm e:=by
 have HN:=h_ P;have HE:=h_ he;have HK:=h_ hk;obtain⟨ad,D⟩:=Y9 w;have HD:=h_ D;have Q:Below w.heap.size w (w.alloc (.cells #[.string ⟨nm.toArray⟩,.int .i64 (k:Int)] B6)):=b_;have ae:=h_ Q;clear P he hk D Q;go_enter func154,ntmps154;go_wp2_with fail
 go_loopw [0] (fun v wr=>∃r,Hid (CX M w s v r/\Pl.find env nm=Pl.find r nm/\Below w.heap.size w wr/\wr.heap[w.heap.size]?=some (.cells #[.string ⟨nm.toArray⟩,.int .i64 (k:Int)] B6 (0,0)))) (fun v _=>ad v)
 case atStart=>exact⟨env,HE,rfl,ae,heap_alloc_new w _⟩
 case round =>
  obtain⟨r,HI⟩:=hrel;obtain⟨af,A,u,x⟩:=HI.out
  cases af with
  | nil =>have HF:=h_ A;have HB:=h_ u;clear A u x HI;go_wp2_with fail;go_ret;exact⟨HB,.inl ⟨HF,rfl⟩⟩
  | cons b nv up ao R m c y hb hm ag am hp S =>
   obtain⟨⟨ks,T,H⟩,U,E⟩:=ag;have V:=H;obtain⟨_,I,z,rfl,ah,_⟩:=V;have q:Hid (CX M w s up y/\Pl.find env nm=Pl.find (y++Pl.C1 c m) nm/\w.heap[b]?=some (.cells #[.slice I c.length z,.slice ao c.length R,up] M8 (0,0))/\BY (fun k t=>s.ns[k]?=some t) ks c/\Sl M w B6 2 (.slice I c.length z) c.length (nmRow c ks)/\c.Nodup/\c.length<=1000):=⟨S,A,hb,T,H,U,E⟩
   have HP:=h_ hp;have HB:=h_ u;have J:=aB hb;have W:=(u.block b J).trans hb;have c0:wr.cell? ⟨b,0,none⟩=some (.slice I c.length z):=aA W 0;have ai:=h_ x;clear hb hm T H U E hp S A u W x HI;go_wp2_with fail
   go_loopw [18] (fun iv wq=>∃i:Nat,iv=.int .i64 (i:Int)/\i<=c.length/\Hid (Below w.heap.size w wq/\wq.heap[w.heap.size]?=some (.cells #[.string ⟨nm.toArray⟩,.int .i64 (k:Int)] B6 (0,0))/\∀j,j<i->c[j]? ≠ some nm)) (fun iv _=>c.length-(RowKit.intOf iv).toNat)
   case atStart=>exact⟨0,rfl,Nat.zero_le _,HB,ai,fun j X=>absurd X (Nat.not_lt_zero _)⟩
   case round =>
    obtain⟨i,rfl,hi,HQ⟩:=hrel;have ap:=q.2.2.2.2.2.2;obtain⟨d,a,f⟩:=HQ.out;by_cases K:i<c.length
    ·obtain⟨t,O⟩:∃t,c[i]?=some t:=⟨_,g_ K⟩
     obtain⟨k2,L,B⟩:=q.2.2.2.1.at_ O;obtain⟨g2,F,rfl,Y,_,_,d0,d1⟩:=aLK q.2.2.2.2.1 O L;have aq:=(d.cell (p:=⟨g2,F+i*2,none⟩) Y).trans d0;have ar:=(d.cell (p:=⟨g2,F+i*2+1,none⟩) Y).trans d1;have b0:wr.cell? ⟨w.heap.size,1,none⟩=some (.int .i64 (k:Int)):=aA a 1;have aj:w.heap.size<wr.heap.size:=aB a;have G:(i:Int)<(c.length:Int):=by omega
     have h0:(0:Int)<=(i:Int):=by omega
     have h:=(d.block b J).trans q.2.2.1;have c1:wr.cell? ⟨b,1,none⟩=some (.slice ao c.length R):=aA h 1;have an:b<wr.heap.size:=aB h;have o:=h_ d;have l:=h_ a;have ak:=h_ f;by_cases N:k2=k
     ·subst N;have C:t=nm:=by have:=B.symm.trans HK;exact i_ this
      subst C;obtain⟨g,Z,rfl,aa⟩:=HP.out i K;have HF:Hid (VG s env t (.returned (.pointer (some ⟨g,Z+i,none⟩)))):=.inr ⟨m+i,g,Z+i,by rw [q.2.1,Pl.FJ,n9 c m i t q.2.2.2.2.2.1 O],aa,rfl⟩;clear d a f d0 d1 h aa O L B HQ;go_wp2_with fail;go_ret;exact⟨(o.alloc o.size _),HF⟩
     ·have au:((k2:Int)==(k:Int))=false:=beq_eq_false_iff_ne.2 (by omega);have C:t≠nm:=fun e=>by subst e;refine N ?_;have h1:=cV HN B;have h2:=cV HN HK;omega
      have HT:Hid (t≠nm/\c[i]?=some t):=⟨C,O⟩
      clear d a f d0 d1 h O L B HQ C N;go_wp2_with fail
      go_roundw
      case rel =>
       refine⟨i+1,by go_num,K,o.alloc o.size _,(k_ aj).trans l,fun j X e=>?_⟩;rcases Nat.lt_or_ge j i with ab | ab
       ·exact ak.out j ab e
       ·obtain rfl:j=i:=by omega
        rw [HT.2] at e;exact HT.1 (i_ e)
      case measure=>simp only [RowKit.intOf];omega
    ·have G:i=c.length:=by omega
     subst G;have al:Hid (nm∉c):=fun ac=>by obtain⟨j,X⟩:=List.getElem?_of_mem ac;exact f j (s_ X).1 X
     have h:=(d.block b J).trans q.2.2.1;obtain⟨ou,rfl⟩:=q.1.ptr;have c2:wr.cell? ⟨b,2,none⟩=some (.pointer ou):=aA h 2;have o:=h_ d;have l:=h_ a;clear d a f h HQ;go_wp2_with fail
     go_roundw
     case rel =>refine⟨y,q.1,?_,o,l⟩;rw [q.2.1,Pl.FJ,eN c m nm al.out]
     case measure =>obtain⟨n,P⟩:=q.1.dep;rw [HD.out _ n P,HD.out _ (n+1) ⟨b,_,_,_,rfl,q.2.2.1,P⟩];omega
end
end Go.Proofs.YtieooapcfpimlaaGreatDoor
