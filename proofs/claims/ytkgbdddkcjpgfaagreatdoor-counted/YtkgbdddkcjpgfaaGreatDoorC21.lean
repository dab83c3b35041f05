import Derived.Test.YtkgbdddkcjpgfaaGreatDoorC09
import Derived.Test.YtkgbdddkcjpgfaaGreatDoorC20
import Derived.Deep.RegionWith
namespace Go.Proofs.YtkgbdddkcjpgfaaGreatDoor
set_option maxHeartbeats 2000000
set_option maxRecDepth 100000
open Go.Proofs.Tryz
open Pl (PV PW PS PF PFr Byt Env)
section
open Go.RowKit Go.Maps
variable {w w':World} {M M':Nat->Prop} {b tb mb gb:Nat} {v:Value} {bs:List Nat}
def TSur:TypeId:=387
def TPile:TypeId:=258
def TRun:TypeId:=169
def TSes:TypeId:=148
def TPrS:TypeId:=333
def TCoS:TypeId:=526
inductive EnvR (M:Nat->Prop) (w:World) (s:Sg):Value->Env->Prop
 | nil:EnvR M w s (.pointer none) []
 | cons (b:Nat) (nv up:Value) (ao:Option Addr) (cap base:Nat) (ns:List Byt) (env:Env)
   (hb:w.heap[b]?=some (.cells #[nv,.slice ao ns.length cap,up] TSur (0,0))) (hm:¬M b) (hn:NmRow M w s nv ns) (hcap:ns.length<=cap)
   (hp:∀i,i<ns.length->∃g off,ao=some ⟨g,off,none⟩/\s.lp[base+i]?=some (some (g,off+i)))
   (h:EnvR M w s up env):EnvR M w s (.pointer (some ⟨b,0,none⟩)) (env++Pl.numb ns base)
theorem EnvR.go{s t:Sg}(hs:Stp M w M' w')(l:Sg.Le s t){e:Env}(h:EnvR M w s v e):EnvR M' w' t v e:=by
 induction h with
 | nil=>exact .nil
 | cons b nv up ao cap base ns env hb hm hn hcap hp _ ih =>
  obtain⟨e1,e2⟩:=hs.block b (aB hb) hm
  exact .cons b nv up ao cap base ns env (e1.trans hb) e2 (hn.go hs l) hcap (fun i hi=>by
   obtain⟨g,off,h1,h2⟩:=hp i hi
   exact⟨g,off,h1,bS l.lp h2⟩) ih
theorem EnvR.ptr{s:Sg}{e:Env}(h:EnvR M w s v e):∃o,v=.pointer o:=by cases h<;>exact⟨_,rfl⟩
def FmsAt(M:Nat->Prop)(w:World)(s:Sg)(v:Value)(fs:List PF):Prop:=∃us,Sl M w TForm 1 v us.length us/\All2 (RFm M w s) us fs
def ValsAt(M:Nat->Prop)(w:World)(s:Sg)(v:Value)(l:List PV):Prop:=∃us,Sl M w TVal 1 v us.length us/\All2 (RV s) us l
theorem FmsAt.go{s t:Sg}(hs:Stp M w M' w')(l:Sg.Le s t){fs:List PF}(h:FmsAt M w s v fs):FmsAt M' w' t v fs:=by obtain⟨us,h1,h2⟩:=h;exact⟨us,h1.stp hs,h2.mono (fun _ _ x=>x.go hs l)⟩
theorem ValsAt.go{s t:Sg}(hs:Stp M w M' w')(l:Sg.Le s t){fs:List PV}(h:ValsAt M w s v fs):ValsAt M' w' t v fs:=by obtain⟨us,h1,h2⟩:=h;exact⟨us,h1.stp hs,h2.mono (fun _ _ x=>x.le l)⟩
inductive TopR (M:Nat->Prop) (w:World) (s:Sg):Value->PFr->Prop
 | iff (a b c ev:Value) (fr:PFr) (x y z:PF) (hk:fr.form.k=.iff) (hf:fr.form.ks=[x,y,z]) (ha:∃T x,a=.iface T x) (h2:RFm M w s b y) (h3:RFm M w s c z) (he:EnvR M w s ev fr.env):TopR M w s (.iface 338 (.agg #[a,b,c,ev])) fr
 | set (k:Nat) (ev:Value) (fr:PFr) (hk:fr.form.k=.set) (hn:s.ns[k]?=some fr.form.nm) (he:EnvR M w s ev fr.env):TopR M w s (.iface 342 (.agg #[.string ⟨fr.form.nm.toArray⟩,.int .i64 (k:Int),ev])) fr
 | define (k:Nat) (fr:PFr) (hk:fr.form.k=.define) (hn:s.ns[k]?=some fr.form.nm):TopR M w s (.iface 344 (.agg #[.string ⟨fr.form.nm.toArray⟩,.int .i64 (k:Int)])) fr
 | begin (rv ev:Value) (fr:PFr) (hk:fr.form.k=.begin) (hr:FmsAt M w s rv (fr.form.ks.drop fr.pos)) (he:EnvR M w s ev fr.env):TopR M w s (.iface 375 (.agg #[rv,ev])) fr
 | call (vv rv ev:Value) (fr:PFr) (hk:fr.form.k=.call) (hv:ValsAt M w s vv fr.got) (hr:FmsAt M w s rv (fr.form.ks.drop fr.pos)) (he:EnvR M w s ev fr.env):TopR M w s (.iface 352 (.agg #[vv,rv,ev])) fr
theorem TopR.go{s t:Sg}(hs:Stp M w M' w')(l:Sg.Le s t){fr:PFr}(h:TopR M w s v fr):TopR M' w' t v fr:=by
 cases h with
 | iff a b c ev _ x y z hk hf ha h2 h3 he=>exact .iff a b c ev _ x y z hk hf ha (h2.go hs l) (h3.go hs l) (he.go hs l)
 | set k ev _ hk hn he=>exact .set k ev _ hk (bS l.ns hn) (he.go hs l)
 | define k _ hk hn=>exact .define k _ hk (bS l.ns hn)
 | begin rv ev _ hk hr he=>exact .begin rv ev _ hk (hr.go hs l) (he.go hs l)
 | call vv rv ev _ hk hv hr he=>exact .call vv rv ev _ hk (hv.go hs l) (hr.go hs l) (he.go hs l)
theorem TopR.iface{s:Sg}{fr:PFr}(h:TopR M w s v fr):∃T x,v=.iface T x:=by cases h<;>exact⟨_,_,rfl⟩
def FrR(M:Nat->Prop)(w:World)(s:Sg):Value->List PFr->Prop
 | v,[]=>v=.pointer none
 | v,f::r=>∃b top up,v=.pointer (some ⟨b,0,none⟩)/\¬M b/\w.heap[b]?=some (.cells #[top,up,.int .i64 ((r.length+1:Nat):Int)] TPile (0,0))/\TopR M w s top f/\FrR M w s up r
theorem FrR.go{s t:Sg}(hs:Stp M w M' w')(l:Sg.Le s t):∀(fs:List PFr)(v:Value),FrR M w s v fs->FrR M' w' t v fs
 | [],_,h=>h
 | f::r,v,h=>by obtain⟨b,top,up,h1,h2,h3,h4,h5⟩:=h;obtain⟨e1,e2⟩:=hs.block b (aB h3) h2;exact⟨b,top,up,h1,e2,e1.trans h3,h4.go hs l,FrR.go hs l r up h5⟩
theorem FrR.ptr{s:Sg}:∀{fs:List PFr} {v:Value},FrR M w s v fs->∃o,v=.pointer o
 | [],_,h=>⟨_,h⟩
 | _::_,_,h=>by obtain⟨b,_,_,h1,_⟩:=h;exact⟨_,h1⟩
def ProcAt(M:Nat->Prop)(w:World)(s:Sg)(b:Nat)(q:PF×Env):Prop:=¬M b/\∃nv body ev x,w.heap[b]?=some (.cells #[nv,body,ev] TPrS (0,0))/\q.1.ks=[x]/\NmRow M w s nv q.1.ns/\RFm M w s body x/\EnvR M w s ev q.2
def ContAt(M:Nat->Prop)(w:World)(s:Sg)(b:Nat)(c:List PFr):Prop:=¬M b/\∃kv,w.heap[b]?=some (.cells #[kv] TCoS (0,0))/\FrR M w s kv c
theorem ProcAt.go{s t:Sg}(hs:Stp M w M' w')(l:Sg.Le s t){q:PF×Env}(h:ProcAt M w s b q):ProcAt M' w' t b q:=by obtain⟨h1,nv,body,ev,x,h2,h3,h4,h5,h6⟩:=h;obtain⟨e1,e2⟩:=hs.block b (aB h2) h1;exact⟨e2,nv,body,ev,x,e1.trans h2,h3,h4.go hs l,h5.go hs l,h6.go hs l⟩
theorem ContAt.go{s t:Sg}(hs:Stp M w M' w')(l:Sg.Le s t){q:List PFr}(h:ContAt M w s b q):ContAt M' w' t b q:=by obtain⟨h1,kv,h2,h3⟩:=h;obtain⟨e1,e2⟩:=hs.block b (aB h2) h1;exact⟨e2,kv,e1.trans h2,h3.go hs l⟩
structure Bls{α:Type}(R:Nat->α->Prop)(bs:List Nat)(l:List α):Prop where
 len:bs.length=l.length
 nodup:bs.Nodup
 at_:∀(i b:Nat)(x:α),bs[i]?=some b->l[i]?=some x->R b x
theorem Bls.mono{α:Type}{R Q:Nat->α->Prop}{l:List α}(h:Bls R bs l)(hm:∀b x,R b x->Q b x):Bls Q bs l:=⟨h.len,h.nodup,fun i b x hb hx=>hm b x (h.at_ i b x hb hx)⟩
theorem Bls.push{α:Type}{R:Nat->α->Prop}{l:List α}(h:Bls R bs l){x:α}(hr:R b x)(hn:b∉bs):Bls R (bs++[b]) (l++[x]):=by
 refine⟨by simp [h.len],?_,?_⟩
 ·rw [List.nodup_append];refine⟨h.nodup,by simp,?_⟩;rintro a ha c hc;rintro rfl;simp at hc;subst hc;exact hn ha
 ·intro i c y hc hy;rcases Nat.lt_or_ge i bs.length with hi | hi
  ·rw [List.getElem?_append_left hi] at hc;rw [List.getElem?_append_left (by rw [<- h.len];exact hi)] at hy;exact h.at_ i c y hc hy
  ·rw [List.getElem?_append_right hi] at hc;rw [List.getElem?_append_right (by rw [<- h.len];exact hi),<-h.len] at hy;have h0:=(List.getElem?_eq_some_iff.1 hc).1;have h1:i-bs.length=0:=by simp at h0;omega
   rw [h1] at hc hy;simp at hc hy;subst hc hy;exact hr
theorem Bls.get{α:Type}{R:Nat->α->Prop}{l:List α}(h:Bls R bs l){i:Nat}(hb:bs[i]?=some b):∃x,l[i]?=some x/\R b x:=by have hi:=(List.getElem?_eq_some_iff.1 hb).1;have hx:=List.getElem?_eq_getElem (l:=l) (i:=i) (by rw [<- h.len];exact hi);exact⟨_,hx,h.at_ i b _ hb hx⟩
structure PlacesAt(M:Nat->Prop)(w:World)(s:Sg)(pl:List PV):Prop where
 len:s.lp.length=pl.length
 inj:∀(i j:Nat)(c:Nat×Nat),s.lp[i]?=some (some c)->s.lp[j]?=some (some c)->i=j
 at_:∀(i g o:Nat)(p:PV),s.lp[i]?=some (some (g,o))->pl[i]?=some p->M g/\∃cur v,w.heap[g]?=some (.cells cur TVal (0,0))/\cur[o]?=some v/\RV s v p
def s9(v:Value):Option (DataW Value×List MemPlace):=some (.held v,[])
structure GlobD(D:DataW Value)(s:Sg)(W:PW):Prop where
 tidy:Tidy D
 yes:∀(k:Nat)(nm:Byt)(i:Nat),s.ns[k]?=some nm->Pl.find W.globals nm=some i->Maps.has D (.int .i64 (k:Int))=true/\∃v p,(∀z,D.atKey (.int .i64 (k:Int)) z=.held v)/\W.places[i]?=some p/\RV s v p
 no:∀(k:Nat)(nm:Byt),s.ns[k]?=some nm->Pl.find W.globals nm=none->Maps.has D (.int .i64 (k:Int))=false
 keys:∀k:Nat,Maps.has D (.int .i64 (k:Int))=true->k<s.ns.length
 names:∀nm i,Pl.find W.globals nm=some i->nm∈s.ns/\s.lp[i]?=some none
 inj:∀a b i,Pl.find W.globals a=some i->Pl.find W.globals b=some i->a=b
def GlobAt(w:World)(gb:Nat)(s:Sg)(W:PW):Prop:=∃D:DataW Value,w.ownsMap prog 3 s9 gb W.globals.length D/\GlobD D s W
theorem own_low{P:Program}{k:TypeId}{R:Value->Option (DataW Value×List MemPlace)}{n:Nat}{D:DataW Value}(h:w.ownsMap P k R b n D):w.ownsMap P k R b (Maps.size D) D:=by obtain⟨es,c,h1,h2,h3,rfl⟩:=h;exact⟨es,c,h1,h2,Nat.le_of_eq (length_read (P:=P) (k:=k) (R0:=R) es).symm,rfl⟩
structure Wd(M:Nat->Prop)(w:World)(s:Sg)(tb mb sb gb:Nat)(W:PW):Prop where
 rdr:Rdr M w s tb mb W.pairs
 ses:w.heap[sb]?=some (.cells #[.map (some gb)] TSes (0,0))
 msb:¬M sb
 glob:GlobAt w gb s W
 mgb:M gb
 gne:gb≠mb
 procs:Bls (ProcAt M w s) s.qb W.procs
 conts:Bls (ContAt M w s) s.cb W.conts
 places:PlacesAt M w s W.places
 gs:Gs w M
 prm:Prm w
 gt:w.cell? ⟨0,0,none⟩=some (.iface 301 (.agg #[.pointer (some ⟨8,63,none⟩)]))
 ge:GE w
 tq:s.tq=330
 tc:s.tc=522
structure Mv(M:Nat->Prop)(w:World)(M':Nat->Prop)(w':World):Prop where
 stp:Stp M w M' w'
 keep:∀k,k<w.heap.size->M k->M' k/\(w'.heap[k]?=w.heap[k]? \/ ∃cur e fz,w.heap[k]?=some (.cells cur e fz)/\e≠TVal)
 lt:(∀k,M k->k<w.heap.size)->∀k,M' k->k<w'.heap.size
theorem Mv.refl(M:Nat->Prop)(w:World):Mv M w M w:=⟨Stp.refl _ _,fun _ _ h=>⟨h,.inl rfl⟩,fun h=>h⟩
theorem Mv.trans{M1 M2 M3:Nat->Prop}{a b c:World}(h:Mv M1 a M2 b)(k:Mv M2 b M3 c):Mv M1 a M3 c :=
 ⟨h.stp.trans k.stp,fun i hi hm=>by
  obtain⟨h1,h2⟩:=h.keep i hi hm;obtain⟨h3,h4⟩:=k.keep i (Nat.lt_of_lt_of_le hi h.stp.size) h1;refine⟨h3,?_⟩;rcases h2 with h2 | h2
  ·rw [h2] at h4;exact h4
  ·exact .inr h2,fun hl=>k.lt (h.lt hl)⟩
theorem Mv.below(h:Below w.heap.size w w'):Mv M w M w':=⟨Stp.of_below h,fun k hk hm=>⟨hm,.inl (h.block k hk)⟩,fun hl k hk=>Nat.lt_of_lt_of_le (hl k hk) h.size⟩
theorem Mv.set{cur:Array Value}{T:TypeId}{fz:Nat×Nat}(hb:w.heap[b]?=some (.cells cur T fz))(hM:M b)(hT:T≠TVal)(o:Nat)(v:Value):Mv M w M (w.setCell ⟨b,o,none⟩ v) :=
 ⟨Stp.set hM o v,fun k hk hm=>⟨hm,by
  by_cases e:k=b
  ·subst e;exact .inr ⟨cur,T,fz,hb,hT⟩
  ·exact .inl (Below.heap_setCell _ _ _ _ (fun x=>e (by simpa using x)))⟩,fun hl k hk=>by simpa [World.setCell] using hl k hk⟩
def Mn(M:Nat->Prop)(X:Nat->Prop)(k:Nat):Prop:=M k\/X k
theorem Mv.wide(X:Nat->Prop)(h:∀k,X k->w.heap.size<=k)(hb:Below w.heap.size w w')(hx:∀k,X k->k<w'.heap.size):Mv M w (Mn M X) w' :=⟨⟨hb.os,hb.tape,hb.output,hb.size,fun k hk hm=>⟨hb.block k hk,fun x=>x.elim hm (fun y=>by have:=h k y;omega)⟩⟩,fun k hk hm=>⟨.inl hm,.inl (hb.block k hk)⟩,fun hl k hk=>hk.elim (fun y=>Nat.lt_of_lt_of_le (hl k y) hb.size) (hx k)⟩
theorem PlacesAt.mv{s:Sg}{pl:List PV}(h:PlacesAt M w s pl)(hs:Mv M w M' w'):PlacesAt M' w' s pl :=
 ⟨h.len,h.inj,fun i g o p hl hp=>by
  obtain⟨h1,cur,v,h2,h3,h4⟩:=h.at_ i g o p hl hp;obtain⟨h5,h6⟩:=hs.keep g (aB h2) h1;rcases h6 with h6 | ⟨cur',e,fz,h6,h7⟩
  ·exact⟨h5,cur,v,h6.trans h2,h3,h4⟩
  ·rw [h2] at h6;simp only [Option.some.injEq,Obj.cells.injEq] at h6
   exact absurd h6.2.1.symm h7⟩
theorem PlacesAt.le{s t:Sg}{pl:List PV}(h:PlacesAt M w s pl)(l:Sg.Le s t)(hp:t.lp=s.lp):PlacesAt M w t pl :=
 ⟨by rw [hp];exact h.len,by rw [hp];exact h.inj,fun i g o p hl hq=>by
  rw [hp] at hl;obtain⟨h1,cur,v,h2,h3,h4⟩:=h.at_ i g o p hl hq
  exact⟨h1,cur,v,h2,h3,h4.le l⟩⟩
theorem bY(h:Gs w M)(hs:Stp M w M' w'){k o:Nat}(hk:k<8):w'.cell? ⟨k,o,none⟩=w.cell? ⟨k,o,none⟩:=World.cell?_of_block (w:=w) (hs.block k (Nat.lt_of_lt_of_le hk h.size) (h.low k hk)).1
theorem jN:1<8:=by decide
theorem kT:0<8:=by decide
theorem kU:6<8:=by decide
theorem Prm.stp(h:Prm w)(hg:Gs w M)(hs:Stp M w M' w'):Prm w':=fun k nm hk h12=>by rw [bY hg hs jN,bY hg hs jN];exact h k nm hk h12
theorem map_keep(hs:Mv M w M' w'){es:Array MapEntry}{c:Nat}(hb:w.heap[b]?=some (.map es c))(hm:M b):w'.heap[b]?=w.heap[b]? := by
 rcases(hs.keep b (aB hb) hm).2 with h | ⟨cur,e,fz,h,_⟩
 ·exact h
 ·rw [hb] at h;simp at h
theorem Tab.mapAt{ns:List (List UInt8)}(h:Tab w tb mb ns):∃es c,w.heap[mb]?=some (.map es c):=by obtain⟨D,⟨es,c,hb,_⟩,_⟩:=h.map;exact⟨es,c,hb⟩
theorem GlobAt.mapAt{s:Sg}{W:PW}(h:GlobAt w gb s W):∃es c,w.heap[gb]?=some (.map es c):=by obtain⟨D,⟨es,c,hb,_⟩,_⟩:=h;exact⟨es,c,hb⟩
theorem GlobAt.keep{s:Sg}{W:PW}(h:GlobAt w gb s W)(hk:w'.heap[gb]?=w.heap[gb]?):GlobAt w' gb s W:=by obtain⟨D,⟨es,c,hb,r⟩,hD⟩:=h;exact⟨D,⟨es,c,hk.trans hb,r⟩,hD⟩
theorem Rdr.mv{s:Sg}{ps:List (PV×PV)}(h:Rdr M w s tb mb ps)(hs:Mv M w M' w'):Rdr M' w' s tb mb ps:=by obtain⟨es,c,hb⟩:=h.tab.mapAt;obtain⟨e1,e2⟩:=hs.stp.block tb h.tab.lt.1 h.mtb;exact⟨h.tab.keep e1 (map_keep hs hb h.mmb),h.pairs.stp hs.stp,(hs.keep mb h.tab.lt.2 h.mmb).1,e2,hs.lt h.mlt⟩
theorem Wd.mv{s:Sg}{sb:Nat}{W:PW}(h:Wd M w s tb mb sb gb W)(hs:Mv M w M' w'):Wd M' w' s tb mb sb gb W:=by
 obtain⟨es,c,hb⟩:=h.glob.mapAt;obtain⟨e1,e2⟩:=hs.stp.block sb (aB h.ses) h.msb
 exact⟨h.rdr.mv hs,e1.trans h.ses,e2,h.glob.keep (map_keep hs hb h.mgb),(hs.keep gb (aB hb) h.mgb).1,h.gne,h.procs.mono (fun b x hx=>hx.go hs.stp (Sg.Le.refl _)),h.conts.mono (fun b x hx=>hx.go hs.stp (Sg.Le.refl _)),h.places.mv hs,h.gs.stp hs.stp,h.prm.stp h.gs hs.stp,
  (bY h.gs hs.stp kT).trans h.gt,by
   obtain⟨v,h1,h2⟩:=h.ge
   exact⟨v,(bY h.gs hs.stp kU).trans h1,h2⟩,h.tq,h.tc⟩
def OutR(M:Nat->Prop)(w:World)(v:Value)(l:Byt):Prop:=w.ownsRow 0 TBy 1 v l.length (cC l)/\∀g,v.ownBlock=some g->M g
structure RunAt(M:Nat->Prop)(w:World)(sb rb:Nat)(fv ev gv kv ov:Value):Prop where
 blk:w.heap[rb]?=some (.cells #[.pointer (some ⟨sb,0,none⟩),fv,ev,gv,kv,ov] TRun (0,0))
 mrb:M rb
def FormO(M:Nat->Prop)(w:World)(s:Sg)(v:Value)(ev gv:Value)(S:PS):Prop:=match S.form with
 | none=>v=.nilIface/\RV s gv S.val
 | some f=>RFm M w s v f/\EnvR M w s ev S.env
structure Sta(M:Nat->Prop)(w:World)(s:Sg)(sb rb:Nat)(S:PS)(out:Byt):Prop where
 ex:∃fv ev gv kv ov,RunAt M w sb rb fv ev gv kv ov/\FormO M w s fv ev gv S/\FrR M w s kv S.frames/\OutR M w ov out
end
section
open Go.RowKit Go.Lib
variable {w w':World} {rb:Nat} {cs:Array Value}
structure RunCh(w:World)(rb:Nat)(cs:Array Value)(w':World):Prop where
 os:w'.os=w.os
 tape:w'.tape=w.tape
 output:w'.output=w.output
 size:w.heap.size<=w'.heap.size
 blk:w'.heap[rb]?=some (.cells cs TRun (0,0))
 other:∀k,k<w.heap.size->k≠rb->w'.heap[k]?=w.heap[k]?
theorem RunCh.mv{M:Nat->Prop}{cs0:Array Value}(h:RunCh w rb cs w')(hb:w.heap[rb]?=some (.cells cs0 TRun (0,0)))(hM:M rb):Mv M w M w' :=
 ⟨⟨h.os,h.tape,h.output,h.size,fun k hk hn=>⟨h.other k hk (fun e=>hn (by rw [e];exact hM)),hn⟩⟩,fun k hk hm=>⟨hm,by
  by_cases e:k=rb
  ·subst e;exact .inr ⟨cs0,TRun,(0,0),hb,by decide⟩
  ·exact .inl (h.other k hk e)⟩,fun hl k hk=>Nat.lt_of_lt_of_le (hl k hk) h.size⟩
theorem RunCh.after{w1:World}(h:RunCh w1 rb cs w')(hb:Below w.heap.size w w1):RunCh w rb cs w' :=⟨h.os.trans hb.os,h.tape.trans hb.tape,h.output.trans hb.output,Nat.le_trans hb.size h.size,h.blk,fun k hk e=>(h.other k (Nat.lt_of_lt_of_le hk hb.size) e).trans (hb.block k hk)⟩
theorem RunCh.trans{w1:World}{cs':Array Value}(h:RunCh w rb cs w1)(k:RunCh w1 rb cs' w'):RunCh w rb cs' w' :=⟨k.os.trans h.os,k.tape.trans h.tape,k.output.trans h.output,Nat.le_trans h.size k.size,k.blk,fun i hi e=>(k.other i (Nat.lt_of_lt_of_le hi h.size) e).trans (h.other i hi e)⟩
theorem RunCh.set{cs0:Array Value}(hb:w.heap[rb]?=some (.cells cs0 TRun (0,0)))(o:Nat)(v:Value)(hc:cs0.setIfInBounds o v=cs):RunCh w rb cs (w.setCell ⟨rb,o,none⟩ v) :=⟨rfl,rfl,rfl,by simp [World.setCell],by subst hc;exact aD hb o v,fun k _ e=>Below.heap_setCell _ _ _ _ (fun x=>e (by simpa using x))⟩
theorem RunCh.alloc(h:RunCh w rb cs w')(o:Obj):RunCh w rb cs (w'.alloc o) :=⟨h.os,h.tape,h.output,by simp;have:=h.size;omega,(Below.heap_alloc _ _ _ (aB h.blk)).trans h.blk,fun k hk e=>(Below.heap_alloc _ _ _ (Nat.lt_of_lt_of_le hk h.size)).trans (h.other k hk e)⟩
theorem RunCh.drew(h:RunCh w rb cs w'):RunCh w rb cs w'.drew:=⟨h.os,h.tape,h.output,h.size,h.blk,h.other⟩
theorem jF(w:World)(rb:Nat)(c0 c1 c2 c3 c4 c5 v:Value)(hb:w.heap[rb]?=some (.cells #[c0,c1,c2,c3,c4,c5] TRun (0,0)))(hv:∃T x,v=.iface T x) :Calls prog 169 #[.pointer (some ⟨rb,1,none⟩),v] w fun e w'=>e=.returned (.tuple #[])/\RunCh w rb #[c0,.nilIface,.pointer none,v,c4,c5] w':=by
 obtain⟨T,x,rfl⟩:=hv;have e1:w.cell? ⟨rb,1,none⟩=some c1:=aA hb 1;have e2:w.cell? ⟨rb,2,none⟩=some c2:=aA hb 2;have e3:w.cell? ⟨rb,3,none⟩=some c3:=aA hb 3;have f1:w.frozen? ⟨rb,1,none⟩=false:=aF hb 1;have f2:w.frozen? ⟨rb,2,none⟩=false:=aF hb 2;have f3:w.frozen? ⟨rb,3,none⟩=false:=aF hb 3;have HX:Hid (RunCh w rb #[c0,.nilIface,.pointer none,.iface T x,c4,c5] (((w.setCell ⟨rb,1,none⟩ .nilIface).setCell ⟨rb,2,none⟩ (.pointer none)).setCell ⟨rb,3,none⟩ (.iface T x))):=by have a1:=RunCh.set hb 1 .nilIface rfl;have a2:=RunCh.set a1.blk 2 (.pointer none) rfl;have a3:=RunCh.set a2.blk 3 (.iface T x) rfl;exact(a1.trans a2).trans a3
 clear hb;go_enter func169,ntmps169;go_wp2_with fail
 go_end0
 exact⟨rfl,HX.out⟩
theorem cU(w:World)(rb:Nat)(c0 c1 c2 c3 c4 c5 fv ev:Value)(hb:w.heap[rb]?=some (.cells #[c0,c1,c2,c3,c4,c5] TRun (0,0)))(hf:∃T x,fv=.iface T x)(he:∃o,ev=.pointer o) :Calls prog 172 #[.pointer (some ⟨rb,1,none⟩),fv,ev] w fun e w'=>e=.returned (.tuple #[])/\RunCh w rb #[c0,fv,ev,.nilIface,c4,c5] w':=by
 obtain⟨T,x,rfl⟩:=hf;obtain⟨o,rfl⟩:=he;have e1:w.cell? ⟨rb,1,none⟩=some c1:=aA hb 1;have e2:w.cell? ⟨rb,2,none⟩=some c2:=aA hb 2;have e3:w.cell? ⟨rb,3,none⟩=some c3:=aA hb 3;have f1:w.frozen? ⟨rb,1,none⟩=false:=aF hb 1;have f2:w.frozen? ⟨rb,2,none⟩=false:=aF hb 2;have f3:w.frozen? ⟨rb,3,none⟩=false:=aF hb 3;have HX:Hid (RunCh w rb #[c0,.iface T x,.pointer o,.nilIface,c4,c5] (((w.setCell ⟨rb,1,none⟩ (.iface T x)).setCell ⟨rb,2,none⟩ (.pointer o)).setCell ⟨rb,3,none⟩ .nilIface)):=by have a1:=RunCh.set hb 1 (.iface T x) rfl;have a2:=RunCh.set a1.blk 2 (.pointer o) rfl;have a3:=RunCh.set a2.blk 3 .nilIface rfl;exact(a1.trans a2).trans a3
 clear hb;go_enter func172,ntmps172;go_wp2_with fail
 go_end0
 exact⟨rfl,HX.out⟩
def PileN(w:World)(kv:Value)(n:Nat):Prop:=(kv=.pointer none/\n=0)\/∃b top up,kv=.pointer (some ⟨b,0,none⟩)/\w.heap[b]?=some (.cells #[top,up,.int .i64 (n:Int)] TPile (0,0))
theorem FrR.pileN{M:Nat->Prop}{s:Sg}{kv:Value}{fs:List PFr}(h:FrR M w s kv fs):PileN w kv fs.length:=by
 cases fs with
 | nil=>exact .inl ⟨h,rfl⟩
 | cons f r =>obtain⟨b,top,up,h1,_,h3,_⟩:=h;exact .inr ⟨b,top,up,h1,h3⟩
theorem PileN.below{kv:Value}{n:Nat}(h:PileN w kv n)(hb:Below w.heap.size w w'):PileN w' kv n:=by
 rcases h with h | ⟨b,top,up,h1,h2⟩
 ·exact .inl h
 ·exact .inr ⟨b,top,up,h1,(hb.block b (aB h2)).trans h2⟩
theorem yK(w:World)(kv:Value)(n:Nat)(h:PileN w kv n):Calls prog 127 #[kv] w fun e w'=>e=.returned (.int .i64 (n:Int))/\w=w':=by
 rcases h with⟨rfl,rfl⟩ | ⟨b,top,up,rfl,hb⟩
 ·go_enter func127,ntmps127
  go_wp2_with fail
  go_ret;exact⟨rfl,rfl⟩
 ·have c2:w.cell? ⟨b,2,none⟩=some (.int .i64 (n:Int)):=aA hb 2;clear hb;go_enter func127,ntmps127;go_wp2_with fail;go_ret;exact⟨rfl,rfl⟩
theorem kS(w:World)(rb:Nat)(c0 c1 c2 c3 kv c5 f:Value)(n:Nat)(hb:w.heap[rb]?=some (.cells #[c0,c1,c2,c3,kv,c5] TRun (0,0)))(hf:∃T x,f=.iface T x)(hk:∃o,kv=.pointer o)(hp:PileN w kv n)(hn:n<=6500000000000000000) :Calls prog 171 #[.pointer (some ⟨rb,1,none⟩),f] w fun e w'=>e=.returned (.tuple #[])/\∃p,w.heap.size<=p/\w'.heap[p]?=some (.cells #[f,kv,.int .i64 ((n+1:Nat):Int)] TPile (0,0))/\RunCh w rb #[c0,c1,c2,c3,.pointer (some ⟨p,0,none⟩),c5] w':=by
 obtain⟨T,x,rfl⟩:=hf;obtain⟨o,rfl⟩:=hk;have HC:Hid (∀w',Below w.heap.size w w'->Calls prog 127 #[.pointer o] w' fun e w2=>e=.returned (.int .i64 (n:Int))/\w'=w2):=fun w' hB=>yK w' _ n (hp.below hB);have e4:w.cell? ⟨rb,4,none⟩=some (.pointer o):=aA hb 4;have f4:w.frozen? ⟨rb,4,none⟩=false:=aF hb 4;have hw:IntKind.i64.wrap ((n:Int)+1)=((n+1:Nat):Int):=by rw [IntKind.wrap_i64];omega
 have hlt:=aB hb;have HB:Hid (w.heap[rb]?=some (.cells #[c0,c1,c2,c3,.pointer o,c5] TRun (0,0))):=hb;clear hb hp;go_enter func171,ntmps171;go_wp2_with fail;go_region_with (go_at_call 127;refine(HC.out _ ((Below.refl _ _).drew)).mono ?_;rintro e w' ⟨rfl,rfl⟩)
 all_goals
  go_wp2_with fail
  go_end0
  refine⟨rfl,w.heap.size,Nat.le_refl _,?_,?_⟩
  ·have h1:=heap_alloc_new (w.setCell ⟨rb,4,none⟩ (.pointer (some ⟨w.heap.size,0,none⟩))) (.cells #[.iface T x,.pointer o,.int .i64 ((n+1:Nat):Int)] TPile);rw [show(w.setCell ⟨rb,4,none⟩ (.pointer (some ⟨w.heap.size,0,none⟩))).heap.size=w.heap.size from by simp [World.setCell]] at h1;first | exact h1 | (rw [hw];exact h1)
  ·first | exact((RunCh.set HB.out 4 _ rfl).alloc _).drew | exact((RunCh.set HB.out 4 _ rfl).drew.alloc _)
end
end Go.Proofs.YtkgbdddkcjpgfaaGreatDoor
