import Derived.Test.YtkgbdddkcjpgfaaGreatDoorS06
import Derived.Test.YtkgbdddkcjpgfaaGreatDoorS05
namespace Go.Proofs.YtkgbdddkcjpgfaaGreatDoor
set_option maxHeartbeats 2000000
set_option maxRecDepth 100000
open Go.Proofs.Tryz
open Pl (PV PF Byt FK formOf mkF isName)
section
open Go.RowKit
variable {w w' wr:World} {lo hi b n a m mid base k:Nat} {us:List Value} {u v dv sv:Value} {q:Bool}
def KidsU(R:Nat->Nat->Value->PF->Prop)(lo hi:Nat)(us:List Value)(ks:List PF):Prop :=
 us.length=ks.length/\∃cs:List (Nat×Nat),cs.length=ks.length/\(∀(i:Nat)(p:Nat×Nat)(u:Value)(x:PF),cs[i]?=some p->us[i]?=some u->ks[i]?=some x->lo<=p.1/\p.2<=hi/\R p.1 p.2 u x) /\
  ∀(i j:Nat)(p q:Nat×Nat),i<j->cs[i]?=some p->cs[j]?=some q->p.2<=q.1
theorem KidsU.nil(R:Nat->Nat->Value->PF->Prop)(lo hi:Nat):KidsU R lo hi [] []:=⟨rfl,[],rfl,fun i p u x h=>by simp at h,fun i j p q _ h=>by simp at h⟩
theorem KidsU.mono{R Q:Nat->Nat->Value->PF->Prop}{lo' hi':Nat}{ks:List PF}(h:KidsU R lo hi us ks)(h1:lo'<=lo)(h2:hi<=hi')(hm:∀a b u x,lo<=a->b<=hi->R a b u x->Q a b u x):KidsU Q lo' hi' us ks:=by obtain⟨h0,cs,h3,h4,h5⟩:=h;refine⟨h0,cs,h3,fun i p u x hp hu hx=>?_,h5⟩;obtain⟨k1,k2,k3⟩:=h4 i p u x hp hu hx;exact⟨by omega,by omega,hm _ _ _ _ k1 k2 k3⟩
theorem KidsU.snoc{R:Nat->Nat->Value->PF->Prop}{ks:List PF}(h:KidsU R lo mid us ks){x:PF}(hl:lo<=mid)(hm:mid<=hi)(hr:R mid hi u x):KidsU R lo hi (us++[u]) (ks++[x]):=by
 obtain⟨h0,cs,h3,h4,h5⟩:=h;refine⟨by simp [h0],cs++[(mid,hi)],by simp [h3],fun i p v y hp hv hy=>?_,fun i j p q hij hp hq=>?_⟩
 ·by_cases hi':i<ks.length
  ·rw [List.getElem?_append_left (by omega)] at hp hv hy;obtain⟨k1,k2,k3⟩:=h4 i p v y hp hv hy;exact⟨k1,by omega,k3⟩
  ·have hlt:=(List.getElem?_eq_some_iff.1 hy).1;have e:i=ks.length:=by simp at hlt;omega
   subst e;rw [<- h3] at hp;rw [<- h0] at hv;simp at hp hv hy;subst hp hv hy;exact⟨hl,Nat.le_refl _,hr⟩
 ·have hjl:=(List.getElem?_eq_some_iff.1 hq).1;simp only [List.length_append,List.length_cons,List.length_nil] at hjl;rw [List.getElem?_append_left (by omega)] at hp;by_cases hj:j<cs.length
  ·rw [List.getElem?_append_left hj] at hq;exact h5 i j p q hij hp hq
  ·have e:j=cs.length:=by omega
   subst e;simp at hq;subst hq;have hil:=(List.getElem?_eq_some_iff.1 hp).1;exact(h4 i p _ _ hp (List.getElem?_eq_getElem (by omega)) (List.getElem?_eq_getElem (by omega))).2.1
theorem KidsU.cons{R:Nat->Nat->Value->PF->Prop}{ks:List PF}(h:KidsU R mid hi us ks){x:PF}(hl:lo<=mid)(hm:mid<=hi)(hr:R lo mid u x):KidsU R lo hi (u::us) (x::ks):=by
 obtain⟨h0,cs,h3,h4,h5⟩:=h;refine⟨by simp [h0],(lo,mid)::cs,by simp [h3],fun i p v y hp hv hy=>?_,fun i j p q hij hp hq=>?_⟩
 ·cases i with
  | zero=>simp at hp hv hy;subst hp hv hy;exact⟨Nat.le_refl _,hm,hr⟩
  | succ i =>simp at hp hv hy;obtain⟨k1,k2,k3⟩:=h4 i p v y hp hv hy;exact⟨by omega,k2,k3⟩
 ·cases j with
  | zero=>omega
  | succ j =>
   simp at hq
   cases i with
   | zero =>simp at hp;subst hp;have hjl:=(List.getElem?_eq_some_iff.1 hq).1;exact(h4 j q _ _ hq (List.getElem?_eq_getElem (by omega)) (List.getElem?_eq_getElem (by omega))).1
   | succ i =>simp at hp;exact h5 i j p q (by omega) hp hq
def fI(lo hi:Nat)(v:Value):Prop:=∀g,v.ownBlock=some g->lo<=g/\g<hi
theorem fI.wide{lo' hi':Nat}(h:fI lo hi v)(h1:lo'<=lo)(h2:hi<=hi'):fI lo' hi' v:=fun g hg=>by have:=h g hg;omega
theorem fI.none(lo hi:Nat):fI lo hi (.slice none 0 0):=fun g hg=>by simp [Value.ownBlock] at hg
def dF:Nat->Tr->Prop
 | 0,_=>True
 | n+1,t=>match t with
  | .lit (.int _ m)=>gW m
  | .lit (.string s)=>s.length<=300
  | .agg ts=>ts.length<=900/\∀x∈ts,dF n x
  | _=>True
theorem dF.big:∀(n:Nat)(t:Tr),dF n t->cL n t
 | 0,_,_=>trivial
 | n+1,t,h=>by
  cases t with
  | agg ts=>exact fun x hx=>dF.big n x (h.2 x hx)
  | lit x=>cases x<;>first | trivial | exact h
  | _=>trivial
theorem pE{ok:Nat->Prop}:∀(n m:Nat)(v:Value)(t:Tr),RepR ok n w v t->dF n t->dF m t
 | 0,_,_,_,h,_=>h.elim
 | _+1,0,_,_,_,_=>trivial
 | n+1,m+1,v,t,h,hl=>by
  cases t with
  | agg ts =>refine⟨hl.1,fun x hx=>?_⟩;obtain⟨b,_,_,kids,vs,_,_,h5,h6,_⟩:=h;obtain⟨i,hi⟩:=List.mem_iff_getElem?.1 hx;have hvl:vs.length=ts.length:=h5.1.trans (Nat.mul_one _);have hlt:=(List.getElem?_eq_some_iff.1 hi).1;exact pE n m _ x (h6 i vs[i] x (List.getElem?_eq_getElem (by omega)) hi) (hl.2 x hx)
  | lit x=>cases x<;>first | trivial | exact hl
  | _=>trivial
def uG:Tr->Prop
 | .agg ts=>ts.length=2
 | _=>True
def valOk(q:Bool)(k:FK)(pv:PV)(c0 c1 c2:Value):Prop:=if q then(k=.const->[c0,c1,c2]=cZ pv) else(c0=byV []/\c1=.int .i64 0/\c2=byV [])
def RepU(q:Bool):Nat->World->Nat->Nat->Value->PF->Prop
 | 0,_,_,_,_,_=>False
 | n+1,w,lo,hi,v,.mk k nm d pv ks ns=>∃b dv kv nv c0 c1 c2 us,v=.pointer (some ⟨b,0,none⟩)/\lo<=b/\b<hi /\
   w.heap[b]?=some (.cells #[byV (fkS k),byV nm,dv,kv,nv,c0,c1,c2] TFo (0,0))/\valOk q k pv c0 c1 c2 /\
   w.ownsRow 0 TFP 1 kv ks.length us/\KidsU (RepU q n w) lo b us ks /\
   w.ownsRow 0 TS 1 nv ns.length (ns.map byV)/\(k=.const->∃m,m<=1000/\RepR (fun _=>True) m w dv d/\cL m d/\uG d)/\shape k ks.length/\ks.length<=1000/\ns.length<=1000/\fI lo hi kv/\fI lo hi nv
def exT(e:TypeId):Prop:=e=TFo\/e=TFP\/e=TS
def KeepX(lo hi:Nat)(w w':World):Prop:=∀(k:Nat)(cur:Array Value)(e:TypeId),imT e->(exT e->k<lo\/hi<=k)->w.heap[k]?=some (.cells cur e (0,0))->w'.heap[k]?=some (.cells cur e (0,0))
theorem KeepX.of_below(h:Below w.heap.size w w'):KeepX lo hi w w':=fun k _ _ _ _ hb=>(h.block k (aB hb)).trans hb
theorem KeepX.keepD(h:KeepX lo hi w w'):KeepD (fun _=>True) w w':=fun k cur e _ ht hb=>h k cur e (ht.elim .inl (fun x=>.inr (.inl x))) (fun x=>by rcases ht with rfl | rfl<;>rcases x with x | x | x<;>exact absurd x (by decide)) hb
theorem f8{xs:List Value}{T:TypeId}(hk:KeepX lo hi w w')(ht:imT T)(hn:fI a b v)(hd:b<=lo\/hi<=a)(h:w.ownsRow 0 T 1 v n xs):w'.ownsRow 0 T 1 v n xs:=by
 refine⟨h.1,?_⟩;rcases h.2 with hn | ⟨g,cap,cur,rfl,hb,hg,rest⟩
 ·exact .inl hn
 ·exact .inr ⟨g,cap,cur,rfl,hb,hk g cur T ht (fun _=>by have:=hn g rfl;omega) hg,rest⟩
theorem RepU.keep(hk:KeepX lo hi w w'):∀(n:Nat)(a b:Nat)(v:Value)(f:PF),(b<=lo\/hi<=a)->RepU q n w a b v f->RepU q n w' a b v f
 | 0,_,_,_,_,_,h=>h
 | n+1,a,b,v,.mk k nm d pv ks ns,hd,h=>by
  obtain⟨x,dv,kv,nv,c0,c1,c2,us,hv,h1,h2,hb,h3,h4,h5,h6,h7,h8,h9,h10,h11,h12⟩:=h
  exact⟨x,dv,kv,nv,c0,c1,c2,us,hv,h1,h2,hk x _ _ (.inr (.inr (.inl rfl))) (fun _=>by rcases hd with h | h<;>omega) hb,h3,f8 hk (.inr (.inr (.inr (.inl rfl)))) h11 hd h4,
   h5.mono (Nat.le_refl _) (Nat.le_refl _) (fun c d u y k1 k2 k3=>RepU.keep hk n c d u y (by rcases hd with h | h<;>omega) k3),f8 hk (.inr (.inr (.inr (.inr (.inl rfl))))) h12 hd h6,fun e=>(h7 e).elim fun m hm=>⟨m,hm.1,RepR.keep hk.keepD _ _ _ hm.2.1,hm.2.2⟩,h8,h9,h10,h11,h12⟩
theorem RepU.later{f:PF}(h:RepU q n w a b v f)(hb:Below w.heap.size w w'):RepU q n w' a b v f:=RepU.keep (KeepX.of_below (lo:=a) (hi:=a) hb) n a b v f (.inr (Nat.le_refl _)) h
theorem RepU.up:∀(n m:Nat)(a b:Nat)(v:Value)(f:PF),n<=m->RepU q n w a b v f->RepU q m w a b v f
 | 0,_,_,_,_,_,_,h=>h.elim
 | _+1,0,_,_,_,_,hm,_=>by omega
 | n+1,m+1,a,b,v,.mk k nm d pv ks ns,hm,h=>by obtain⟨x,dv,kv,nv,c0,c1,c2,us,hv,h1,h2,hb,h3,h4,h5,h6⟩:=h;exact⟨x,dv,kv,nv,c0,c1,c2,us,hv,h1,h2,hb,h3,h4,h5.mono (Nat.le_refl _) (Nat.le_refl _) (fun c d u y _ _ k3=>RepU.up n m c d u y (by omega) k3),h6⟩
theorem RepU.wide{a' b':Nat}{f:PF}(h1:a'<=a)(h2:b<=b')(h:RepU q n w a b v f):RepU q n w a' b' v f:=by
 match n,f,h with
 | n+1,.mk k nm d pv ks ns,h =>obtain⟨x,dv,kv,nv,c0,c1,c2,us,hv,k1,k2,hb,h3,h4,h5,h6,h7,h8,h9,h10,h11,h12⟩:=h;exact⟨x,dv,kv,nv,c0,c1,c2,us,hv,by omega,by omega,hb,h3,h4,h5.mono h1 (Nat.le_refl _) (fun _ _ _ _ _ _ k=>k),h6,h7,h8,h9,h10,h11.wide h1 h2,h12.wide h1 h2⟩
theorem RepU.settled:∀(n:Nat)(a b:Nat)(v:Value)(f:PF),RepU true n w a b v f->RepS n w v f
 | 0,_,_,_,_,h=>h.elim
 | n+1,a,b,v,.mk k nm d pv ks ns,h=>by obtain⟨x,dv,kv,nv,c0,c1,c2,us,hv,k1,k2,hb,h3,h4,⟨h5,cs,h6,h7,_⟩,h8,h9,h10,h11,h12,_⟩:=h;refine⟨x,dv,kv,nv,c0,c1,c2,us,hv,hb,h4,fun i u y hu hy=>?_,h8,fun e=>⟨h3 e,(h9 e).elim fun m hm=>⟨m,hm.2.1⟩⟩,h10,h11,h12⟩;have hl:=(List.getElem?_eq_some_iff.1 hy).1;exact RepU.settled n _ _ u y (h7 i _ u y (List.getElem?_eq_getElem (by omega)) hu hy).2.2
theorem RepU.ptr{f:PF}(h:RepU q n w a b v f):∃x,v=.pointer (some ⟨x,0,none⟩):=by
 match n,f,h with
 | n+1,.mk k nm d pv ks ns,⟨x,_,_,_,_,_,_,_,hv,_⟩=>exact⟨x,hv⟩
def FoPost(w:World)(o:Option PF)(e:Ending)(w':World):Prop :=Below w.heap.size w w'/\((∃f b,o=some f/\e=.returned (.pointer (some ⟨b,0,none⟩))/\∃m,RepU false m w' w.heap.size w'.heap.size (.pointer (some ⟨b,0,none⟩)) f)\/(o=none/\e=.returned (.pointer none)))
def FoSaid(n:Nat):Prop:=∀(ok:Nat->Prop)(w:World)(v:Value)(t:Tr),RepR ok n w v t->dF n t->Calls prog 122 #[v] w fun e w'=>FoPost w (formOf n t) e w'
def FosPost(w:World)(o:Option (List PF))(len:Nat)(e:Ending)(w':World):Prop :=Below w.heap.size w w'/\((∃fs v us,o=some fs/\e=.returned (.tuple #[v,.bool true])/\w'.ownsRow w.heap.size TF 1 v len us/\(len=0->v=.slice none 0 0)/\(∀u∈us,u.oneCell'=true)/\∃m,KidsU (RepU false m w') w.heap.size w'.heap.size us fs)\/(o=none/\∃v,e=.returned (.tuple #[v,.bool false])))
def FosSaid(n:Nat):Prop:=∀(w:World)(v:Value)(vs:List Value)(ts:List Tr),SlOf w v vs->AllR n w vs ts->ts.length<=1000->(∀x∈ts,dF n x)->Calls prog 163 #[v] w fun e w'=>FosPost w (Pl.allF (formOf n) ts) ts.length e w'
theorem RepU.leaf{k:FK}{nm:Byt}{d:Tr}(hlo:lo<=b)(hhi:b<hi)(hb:w.heap[b]?=some (.cells #[byV (fkS k),byV nm,dv,.slice none 0 0,.slice none 0 0,byV [],.int .i64 0,byV []] TFo (0,0)))(hc:k=.const->∃m,m<=1000/\RepR (fun _=>True) m w dv d/\cL m d/\uG d)(hs:shape k 0):RepU false 1 w lo hi (.pointer (some ⟨b,0,none⟩)) (mkF k nm d [] []) :=⟨b,dv,_,_,_,_,_,[],rfl,hlo,hhi,hb,⟨rfl,rfl,rfl⟩,World.ownsRow_nil _ _ _ _,KidsU.nil _ _ _,World.ownsRow_nil _ _ _ _,hc,hs,by simp,by simp,fI.none _ _,fI.none _ _⟩
theorem RepU.node{k:FK}{nm:Byt}{kv nv:Value}{ks:List PF}{ns:List Byt}(hlo:lo<=b)(hhi:b<hi)(hb:w.heap[b]?=some (.cells #[byV (fkS k),byV nm,dv,kv,nv,byV [],.int .i64 0,byV []] TFo (0,0)))(hk:w.ownsRow 0 TFP 1 kv ks.length us)(hu:KidsU (RepU false n w) lo b us ks)(hn:w.ownsRow 0 TS 1 nv ns.length (ns.map byV))(hc:k≠.const)(hs:shape k ks.length)(hl:ks.length<=1000)(hl2:ns.length<=1000)(hr1:fI lo hi kv)(hr2:fI lo hi nv):RepU false (n+1) w lo hi (.pointer (some ⟨b,0,none⟩)) (mkF k nm .nil ks ns) :=⟨b,dv,kv,nv,_,_,_,us,rfl,hlo,hhi,hb,⟨rfl,rfl,rfl⟩,hk,hu,hn,fun e=>absurd e hc,hs,hl,hl2,hr1,hr2⟩
theorem RepU.many{k:FK}{kv:Value}{fs:List PF}{o2:Obj}(hk:wr.ownsRow base TFP 1 kv fs.length us)(hlo:lo<=base)(hb:lo<=wr.heap.size)(hu:KidsU (RepU false m wr) lo wr.heap.size us fs)(hc:k≠.const)(hs:shape k fs.length)(hl:fs.length<=1000)
  (ho:o2=.cells #[byV (fkS k),byV [],dv,kv,.slice none 0 0,byV [],.int .i64 0,byV []] TFo (0,0)) (hw:w=wr.alloc o2) :
  RepU false (m+1) w lo w.heap.size (.pointer (some ⟨wr.heap.size,0,none⟩)) (mkF k [] .nil fs []):=by
 subst hw;have hsz:(wr.alloc o2).heap.size=wr.heap.size+1:=by simp
 have hbl:Below wr.heap.size wr (wr.alloc o2):=(Below.refl _ _).alloc (Nat.le_refl _) _;refine RepU.node (by omega) (by omega) (by rw [<- ho];exact heap_alloc_new _ _) ⟨hk.1,(hk.alloc _).2.imp id (fun⟨g,cap,cur,a,_,c⟩=>⟨g,cap,cur,a,Nat.zero_le _,c⟩)⟩ (hu.mono (Nat.le_refl _) (Nat.le_refl _) (fun _ _ _ _ _ _ h=>h.later hbl)) (World.ownsRow_nil _ _ _ _) hc hs hl (by simp) (fun g hg=>?_) (fI.none _ _);have:=hk.lt g hg;omega
theorem oG{f:Tr->Option PF}:∀{l:List Tr} {r:List PF} {x:Tr} {a:PF},Pl.allF f l=some r->f x=some a->Pl.allF f (l++[x])=some (r++[a])
 | [],r,x,a,h,hx=>by obtain rfl:=Option.some.inj h;simp [Pl.allF,hx]
 | y::l,r,x,a,h,hx=>by
  unfold Pl.allF at h
  cases hy:f y with
  | none=>rw [hy] at h;simp at h
  | some b =>rw [hy] at h;simp only [Option.bind_some,Option.map_eq_some_iff] at h;obtain⟨q,hq,rfl⟩:=h;have ih:=oG (x:=x) hq hx;simp only [List.cons_append];unfold Pl.allF;rw [hy,ih];rfl
theorem wV{f:Tr->Option PF}{l:List Tr}{x:Tr}(hx:l[k]?=some x)(hf:f x=none):Pl.allF f l=none:=by have:=Pl.allF_some f l;rw [show(l.all fun x=>(f x).isSome)=false from by rw [List.all_eq_false];exact⟨x,List.mem_of_getElem? hx,by simp [hf]⟩] at this;simpa using this
theorem wU{f:Tr->Option PF}{l:List Tr}{x:Tr}{r:List PF}{a:PF}(h:Pl.allF f (l.take k)=some r)(hx:l[k]?=some x)(hf:f x=some a):Pl.allF f (l.take (k+1))=some (r++[a]):=by rw [List.take_add_one,hx];exact oG h hf
def KidsR(m:Nat)(wr:World)(lo:Nat)(sv:Value)(us:List Value)(fs:List PF):Prop:=KidsU (fun a b u x=>RepU false m wr a b u x/\∀g,sv.ownBlock=some g->g<a\/b<=g) lo wr.heap.size us fs
theorem KidsR.start(w:World)(lo:Nat):Hid (KidsR 0 w lo (.slice none 0 0) [] []):=(KidsU.nil _ _ _:KidsR 0 w lo (.slice none 0 0) [] [])
theorem RepU.rowed{w2 w3:World}{T:TypeId}{o:Obj}(hO:w2.ownsRow base T 1 sv n us)(hT:exT T)(hg:(w2.alloc o).grownBy w3 sv.ownBlock){x:PF}(hd:∀g,sv.ownBlock=some g->g<a\/b<=g)(h:RepU false m w2 a b u x):RepU false m w3 a b u x:=by
 have same:∀i,i<w2.heap.size->sv.ownBlock≠some i->w3.heap[i]?=w2.heap[i]? := fun i hi hn=>by rw [hg.block i (by simp;omega) (fun e=>hn e.symm),Below.heap_alloc w2 o i hi]
 cases hv:sv.ownBlock with
 | none=>exact RepU.keep (lo:=a) (hi:=a) (fun i cur e _ _ h3=>(same i (aB h3) (by rw [hv];simp)).trans h3) m a b u x (.inr (Nat.le_refl _)) h
 | some g =>
  refine RepU.keep (lo:=g) (hi:=g+1) (fun i cur e _ h2 h3=>?_) m a b u x (by have:=hd g hv;omega) h;by_cases he:i=g
  ·subst he;obtain⟨cur',hc⟩:=aN hO i hv;obtain⟨_,rfl⟩:=aK h3 hc;have:=h2 hT;omega
  ·exact(same i (aB h3) (by rw [hv];simp;omega)).trans h3
theorem KidsR.push{m2:Nat}{w2 w3:World}{fs:List PF}{f:PF}{o:Obj}{g' cap':Nat}(h:KidsR m wr w.heap.size sv us fs)(hw:w.heap.size<=wr.heap.size)(hb:Below wr.heap.size wr w2)(hf:RepU false m2 w2 wr.heap.size w2.heap.size u f)
  (hO:w2.ownsRow w.heap.size TF 1 sv k us) (hO1:∀g,sv.ownBlock=some g->g<wr.heap.size) (hg:(w2.alloc o).grownBy w3 sv.ownBlock) (hat:sv.ownBlock=some g'\/g'=w2.heap.size+1):KidsR (m+m2) w3 w.heap.size (.slice (some ⟨g',0,none⟩) (k+1) cap') (us++[u]) (fs++[f]):=by
 have hs2:=hb.size;have hs3:w2.heap.size+1<=w3.heap.size:=by have:=hg.size;simpa using this
 have hT:exT TF:=.inr (.inl rfl)
 have h1:KidsU (fun a b u x=>RepU false (m+m2) w3 a b u x/\∀g,(Value.slice (some ⟨g',0,none⟩) (k+1) cap').ownBlock=some g->g<a\/b<=g) w.heap.size wr.heap.size us fs :=
  h.mono (Nat.le_refl _) (Nat.le_refl _) (fun a b u x _ hbb ⟨k1,k2⟩=>⟨(RepU.up _ _ _ _ _ _ (by omega) (k1.later hb)).rowed hO hT hg k2,fun g hgg=>by
   simp only [Value.ownBlock,Option.some.injEq] at hgg;subst hgg;rcases hat with e | e
   ·exact k2 _ e
   ·right;omega⟩)
 refine(h1.snoc (hi:=w2.heap.size) hw hs2 ⟨(RepU.up _ _ _ _ _ _ (by omega) hf).rowed hO hT hg (fun g hgg=>.inl (hO1 g hgg)),fun g hgg=>?_⟩).mono (Nat.le_refl _) (by omega) (fun _ _ _ _ _ _ k=>k);simp only [Value.ownBlock,Option.some.injEq] at hgg;subst hgg;rcases hat with e | e
 ·exact .inl (hO1 _ e)
 ·right;omega
theorem KidsR.plain{fs:List PF}(h:KidsR m wr lo sv us fs):KidsU (RepU false m wr) lo wr.heap.size us fs:=h.mono (Nat.le_refl _) (Nat.le_refl _) (fun _ _ _ _ _ _ k=>k.1)
theorem cI(n:Nat)(hF:FoSaid n):FosSaid n:=by
 intro w v vs ts hS hA hlen hLT;have HLT:Hid (∀x∈ts,dF n x):=hLT;clear hLT;obtain⟨i0,hi0,hz0,hz1,hz2⟩:=info_parts Tryz.infoPF;obtain⟨ao,cap,rfl,hcap,hcell⟩:=hS;obtain⟨hvl,ok,hrep⟩:=hA;rw [hvl] at hcap ⊢;have HV:Hid (vs.length=ts.length):=hvl;clear hvl;have HC:Hid _:=hcell;have HRp:Hid _:=hrep;have HFm:Hid _:=hF;clear hcell hrep hF;go_enter func163,ntmps163;go_wp2_with fail
 go_loopw [4,5] (fun sv i wr=>∃(k:Nat)(us:List Value)(fs:List PF)(m:Nat),k<=ts.length/\i=.int .i64 k/\Hid (wr.ownsRow w.heap.size TF 1 sv k us)/\Hid (Below w.heap.size w wr)/\Hid (Pl.allF (formOf n) (ts.take k)=some fs)/\Hid (k=0->sv=.slice none 0 0)/\Hid (∀u∈us,u.oneCell'=true)/\Hid (KidsR m wr w.heap.size sv us fs)) (fun _ i _=>ts.length-(intOf i).toNat)
 case atStart=>exact⟨0,[],[],0,Nat.zero_le _,rfl,World.ownsRow_nil _ _ _ _,Below.refl _ _,rfl,fun _=>rfl,(fun u hu=>by simp at hu),KidsR.start _ _⟩
 case round =>
  obtain⟨k,us,fs,m,hk,rfl,HO,HB,HT,HZ,HU,HK⟩:=hrel;by_cases hlt:k<ts.length
  ·obtain⟨u,hu⟩:∃u,vs[k]?=some u:=⟨vs[k]'(by have:=HV.out;omega),List.getElem?_eq_getElem (by have:=HV.out;omega)⟩
   obtain⟨x,hx⟩:∃x,ts[k]?=some x:=⟨ts[k],List.getElem?_eq_getElem hlt⟩
   obtain⟨g,off,rfl,hg,hc⟩:=HC.out k u hu;have hc':wr.cell? ⟨g,off+k,none⟩=some u:=(HB.out.cell (p:=⟨g,off+k,none⟩) hg).trans hc;have hr:RepR ok n wr u x:=RepR.keep (KeepD.of_below HB.out) _ _ _ (HRp.out k u x hu hx);have hlt2:(k:Int)<(ts.length:Int):=by omega
   clear hc hu;have HX:Hid _:=hx;clear hx;obtain⟨bu,rfl⟩:=hr.ptr;have HR:Hid _:=hr;clear hr;go_wp2_with fail;refine(HFm.out ok _ _ x HR.out (HLT.out x (List.mem_of_getElem? HX.out))).mono ?_;rintro e w2 ⟨hB2,⟨f,bf,hr,rfl,m2,hrep⟩ | ⟨hr,rfl⟩⟩
   ·have HB2:Hid (Below w.heap.size w w2):=HB.out.trans (hB2.mono HB.out.size);have HO2:Hid (w2.ownsRow w.heap.size TF 1 u4 k us):=HO.out.kept (aQ none hB2) (by cases hv:Value.ownBlock u4<;>simp);have HT2:Hid (Pl.allF (formOf n) (ts.take (k+1))=some (fs++[f])):=wU HT.out HX.out hr;have HK2:Hid (∀(w3:World)(o:Obj)(g' cap':Nat),(w2.alloc o).grownBy w3 u4.ownBlock->(u4.ownBlock=some g'\/g'=w2.heap.size+1)->KidsR (m+m2) w3 w.heap.size (.slice (some ⟨g',0,none⟩) (k+1) cap') (us++[.pointer (some ⟨bf,0,none⟩)]) (fs++[f])):=fun w3 o g' cap' h1 h2 =>HK.out.push HB.out.size hB2 hrep HO2.out (fun g hg=>(HO.out.lt g hg).2) h1 h2;have hs2:w.heap.size<=w2.heap.size:=HB2.out.size;clear hB2 hr HO HT hc' hrep HK;go_wp2_with (first | (at_builtin;refine wpList_append_lies _ rfl _ _ 180 rfl w.heap.size 69 i0 (.pointer none) 1 8 underlying180 hi0 hz0 hz1 hz2 rfl (by decide) u4 k us rfl (HO2.out.alloc _) ⟨w2.heap.size,0,none⟩ 1 1 [.pointer (some ⟨bf,0,none⟩)] rfl rfl (cell_one_new _ _ _) (fun x hx=>by simp at hx;subst hx;rfl) (by decide) (by unfold maxLen;omega) (by omega) (by simp;omega) (w2.heap.size+1) (by simp) ?_;intro g' cap' w3 hown' hgrow3 hat3 _))
    go_roundw
    case rel =>
     refine⟨k+1,_,_,_,by omega,by go_num,hown',?_,HT2,fun h=>by omega,?_,HK2.out w3 _ _ _ hgrow3 hat3⟩
     ·exact(HB2.out.alloc hs2 _).grown hgrow3 (by simp;omega) (fun j hj=>(HO2.out.lt j hj).1)
     ·intro u hu;rcases List.mem_append.1 hu with h1 | h1
      ·exact HU.out u h1
      ·simp at h1;subst h1;rfl
    case measure=>simp [intOf];omega
   ·have HE:Hid (Pl.allF (formOf n) ts=none):=wV HX.out hr;have HB2:Hid (Below w.heap.size w w2):=HB.out.trans (hB2.mono HB.out.size);clear hB2 hr HO HT hc';go_wp2_with fail;go_ret2;exact⟨HB2.out,.inr ⟨HE.out,_,rfl⟩⟩
  ·have hk2:k=ts.length:=by omega
   have HE:Hid (Pl.allF (formOf n) ts=some fs):=by have:=HT.out;rw [hk2,List.take_length] at this;exact this
   have HO2:Hid (wr.ownsRow w.heap.size TF 1 u4 ts.length us):=by have:=HO.out;rw [hk2] at this;exact this
   have HZ2:Hid (ts.length=0->u4=.slice none 0 0):=by have:=HZ.out;rw [hk2] at this;exact this
   clear hk2;go_wp2_with fail;go_ret2;exact⟨HB.out,.inl ⟨fs,_,us,HE.out,rfl,HO2.out,HZ2.out,HU.out,m,HK.out.plain⟩⟩
theorem KidsU.one{R:Nat->Nat->Value->PF->Prop}{x:PF}(h:R a b u x)(h1:lo<=a)(h2:b<=hi):KidsU R lo hi [u] [x] :=
 ⟨rfl,[(a,b)],rfl,fun i p v y hp hv hy=>by
  cases i with
  | zero=>simp at hp hv hy;subst hp hv hy;exact⟨h1,h2,h⟩
  | succ i=>simp at hp,fun i j p q hij hp hq=>by
  cases j with
  | zero=>omega
  | succ j=>simp at hq⟩
theorem kM(w:World)(o1 o2:Obj):((w.alloc o1).alloc o2).heap[w.heap.size+1]?=some o2:=by have:=heap_alloc_new (w.alloc o1) o2;rw [show(w.alloc o1).heap.size=w.heap.size+1 from by simp] at this;exact this
theorem qD{e:TypeId}{vs:List Value}(h:w.ownsRow base e 1 v n vs):w.ownsRow 0 e 1 v n vs:=⟨h.1,h.2.imp id (fun⟨g,cap,cur,a,_,c⟩=>⟨g,cap,cur,a,Nat.zero_le _,c⟩)⟩
theorem RepU.single{k:FK}{nm:Byt}{nv:Value}{f:PF}{ns:List Byt}{o2:Obj}(hlo:lo<=mid)(hmid:mid<=wr.heap.size)(hf:RepU false m wr lo mid u f)(hk:k=.set\/k=.define\/k=.lambda)
  (ho:o2=.cells #[byV (fkS k),byV nm,dv,.slice (some ⟨wr.heap.size,0,none⟩) 1 1,nv,byV [],.int .i64 0,byV []] TFo (0,0)) (hn:wr.ownsRow mid TS 1 nv ns.length (ns.map byV)) (hl:ns.length<=1000) (hw:w=(wr.alloc (.cells #[u] TFP)).alloc o2) :
  RepU false (m+1) w lo w.heap.size (.pointer (some ⟨wr.heap.size+1,0,none⟩)) (mkF k nm .nil [f] ns):=by
 subst hw ho;have hsz:((wr.alloc (.cells #[u] TFP)).alloc (.cells #[byV (fkS k),byV nm,dv,.slice (some ⟨wr.heap.size,0,none⟩) 1 1,nv,byV [],.int .i64 0,byV []] TFo (0,0))).heap.size=wr.heap.size+2:=by simp
 have hb:Below wr.heap.size wr ((wr.alloc (.cells #[u] TFP)).alloc (.cells #[byV (fkS k),byV nm,dv,.slice (some ⟨wr.heap.size,0,none⟩) 1 1,nv,byV [],.int .i64 0,byV []] TFo (0,0))):=((Below.refl _ _).alloc (Nat.le_refl _) _).alloc (by simp) _;refine RepU.node (by omega) (by omega) (kM _ _ _) (qD ((lZ wr TFP u).alloc _)) (KidsU.one (hf.later hb) (Nat.le_refl _) (by omega)) (qD ((hn.alloc _).alloc _)) (by rcases hk with rfl | rfl | rfl<;>simp) (by rcases hk with rfl | rfl | rfl<;>rfl) (by simp) hl (fun g hg=>?_) (fun g hg=>?_)
 ·simp [Value.ownBlock] at hg;omega
 ·have:=hn.lt g hg;omega
theorem iY(n:Nat)(hF:FoSaid n)(kk:FK)(hkk:kk=.set\/kk=.define)(ok:Nat->Prop)(w:World)(v:Value)(r:List Tr)(h:RepR ok (n+1) w v (.agg (.lit (.string (fkS kk))::r)))(hLT:∀x∈r,dF n x) :Calls prog 121 #[v] w fun e w'=>FoPost w (Pl.asgF kk (formOf n) r) e w':=by
 have HF:Hid _:=hF;have HLT:Hid (∀x∈r,dF n x):=hLT;clear hLT;have HKk:Hid (kk=.set\/kk=.define):=hkk;clear hkk;clear hF;obtain⟨b,kids,vs,rfl,hb,c0,c3,hS,hl,hA⟩:=h.list;clear h;by_cases h3:r.length=2
 ·obtain⟨t1,t2,rfl⟩:∃t1 t2,r=[t1,t2]:=by
   match r,h3 with
   | [a,b],_=>exact⟨a,b,rfl⟩
  obtain⟨u0,u1,u2,rfl⟩:∃u0 u1 u2,vs=[u0,u1,u2]:=by
   match vs,hl with
   | [a,b,c],_=>exact⟨a,b,c,rfl⟩
  obtain⟨g,off,cap,rfl,hcap,hg,k0,ks⟩:=hS.cell0;have k1:=ks 0 u1 rfl;have k2:=ks 1 u2 rfl;simp only [Nat.zero_add] at k1 k2;have r0:=hA 0 u0 (.lit (.string (fkS kk))) rfl rfl;have r1:=hA 1 u1 t1 rfl rfl;have r2:=hA 2 u2 t2 rfl rfl;obtain⟨b0,rfl,hb0,_,s0⟩:=r0.cellS;obtain⟨b1,rfl,hb1,_,s1⟩:=r1.cellS;obtain⟨b2,rfl⟩:=r2.ptr;have R1:Hid _:=r1;have R2:Hid _:=r2;clear hA ks hS hl r0 r1 r2 h3;simp only [List.length_cons,List.length_nil,Nat.zero_add] at c3 hcap;have hn3:((3:Int)!=3)=false:=by decide
  go_enter func121,ntmps121
  go_wp2_with fail
  refine(aV ok n _ _ t1 R1.out).mono ?_;rintro e w1 ⟨rfl,hB1⟩;obtain⟨q1,_⟩:=bP hB1;have HB1:Hid (Below w.heap.size w w1):=hB1;clear hB1;go_wp2_with fail;refine(HF.out ok _ _ t2 (R2.out.later HB1.out) (HLT.out t2 (by simp))).mono ?_;rintro e w2 ⟨hB2,hcase⟩;have HB2:Hid (Below w.heap.size w w2):=HB1.out.trans (hB2.mono HB1.out.size);obtain⟨q2,_⟩:=bP HB2.out;have hB2s:=hB2.size;clear q1 hB2;rcases hcase with⟨f,bf,hf,rfl,m2,hrep⟩ | ⟨hf,rfl⟩
  ·by_cases hn:isName t1=true
   ·have HE:Hid (Pl.asgF kk (formOf n) [t1,t2]=some (mkF kk (Pl.strOf t1) .nil [f] [])):=by simp [Hid,Pl.asgF,hn,hf]
    have HRp:Hid (RepU false m2 w2 w1.heap.size w2.heap.size (.pointer (some ⟨bf,0,none⟩)) f):=hrep;have hs12:=HB1.out.size;have HW12:Hid (w1.heap.size<=w2.heap.size):=hB2s;have q3:=bcellA HB2.out;have hsz:=HB2.out.size;clear hf hrep;go_wp2_with fail
    go_region
    go_wp2_with fail
    go_ret;exact⟨((HB2.out.alloc hsz _).alloc (by simp;omega) _).drew,.inl ⟨_,_,HE.out,rfl,m2+1,(RepU.wide (by omega) (Nat.le_refl _) (RepU.single (nv:=.slice none 0 0) (dv:=.pointer none) HW12.out (Nat.le_refl _) HRp.out (HKk.out.imp id .inl) rfl (World.ownsRow_nil _ _ _ _) (by simp) rfl)).later (Below.refl _ _).drew⟩⟩
   ·have hn0:isName t1=false:=by simpa using hn
    have HE:Hid (Pl.asgF kk (formOf n) [t1,t2]=none):=by simp [Hid,Pl.asgF,hn0]
    clear hf hn hrep;go_wp2_with fail;go_ret;exact⟨HB2.out,.inr ⟨HE.out,rfl⟩⟩
  ·have HE:Hid (Pl.asgF kk (formOf n) [t1,t2]=none):=by simp [Hid,Pl.asgF,hf]
   clear hf;go_wp2_with fail
   all_goals
    go_ret;exact⟨HB2.out,.inr ⟨HE.out,rfl⟩⟩
 ·have HE:Hid (Pl.asgF kk (formOf n) r=none):=by
   show Pl.asgF _ _ _=none;unfold Pl.asgF;split
   ·simp at h3
   ·rfl
  obtain⟨ao,cap,rfl,_⟩:=hS;rw [hl] at c3;have hne:(((.lit (.string (fkS kk))::r:List Tr).length:Int)!=3)=true:=by simp;omega
  simp only [List.length_cons] at c3 hne;clear hl hA;go_enter func121,ntmps121;go_wp2_with fail;go_ret;exact⟨Below.refl _ _,.inr ⟨HE.out,rfl⟩⟩
theorem mT(n:Nat)(hF:FoSaid n)(ok ok':Nat->Prop)(w:World)(nv bv:Value)(ns bd:Tr)(h:RepR ok n w nv ns)(hbd:RepR ok' n w bv bd)(hLT:dF n bd) :Calls prog 164 #[nv,bv] w fun e w'=>FoPost w (Pl.lamF (formOf n) ns bd) e w':=by
 obtain⟨i0,hi0,hz0,hz1,hz2⟩:=info_parts Tryz.infoStr;have HF:Hid _:=hF;have HN:Hid _:=h;obtain⟨b,rfl,hb,ck,_⟩:=h.cellS;obtain⟨bb,rfl⟩:=hbd.ptr;have HBd:Hid _:=hbd;clear hF h hbd;go_enter func164,ntmps164;go_wp2_with fail;refine(HF.out ok' _ _ bd HBd.out hLT).mono ?_;rintro e w1 ⟨hB1,hcase⟩;obtain⟨q1,_⟩:=bP hB1;have HB1:Hid (Below w.heap.size w w1):=hB1;clear hB1;by_cases hls:∃ts,ns=.agg ts
 ·obtain⟨ts,rfl⟩:=hls;have hlen:=HN.out.short
  obtain⟨m,rfl⟩:∃m,n=m+1:=by
   cases n with
   | zero=>exact HN.out.elim
   | succ m=>exact⟨m,rfl⟩
  have ck2:w.cell? ⟨b,0,none⟩=some (.string ⟨#[108,105,115,116]⟩):=ck;clear ck;rcases hcase with⟨f,bf,hf,rfl,m2,hrep⟩ | ⟨hf,rfl⟩
  ·obtain⟨b',kids,vs,e,_,_,c3,hS,hvl,hA⟩:=HN.out.list;simp only [Value.pointer.injEq,Option.some.injEq,Addr.mk.injEq,and_true] at e;subst e;obtain⟨ao,cap,rfl,hcap,hcell⟩:=hS;rw [hvl] at c3 hcap;have HV:Hid (vs.length=ts.length):=hvl;have HC:Hid _:=hcell;have HA:Hid _:=hA;have HE:Hid (formOf (m+1) bd=some f):=hf;have HRp:Hid (RepU false m2 w1 w.heap.size w1.heap.size (.pointer (some ⟨bf,0,none⟩)) f):=hrep;have hw1:=HB1.out.size;clear hvl hcell hA hf hrep;go_wp2_with fail
   go_loopw [6,7] (fun lv i wr=>∃(k:Nat) (nm:List (List UInt8)),k<=ts.length/\i=.int .i64 k/\Hid (wr.ownsRow w1.heap.size 9 1 lv k (nm.map eB))/\Hid (Below w1.heap.size w1 wr)/\Hid (Seen ts k nm)) (fun _ i _=>ts.length-(intOf i).toNat)
   case atStart=>exact⟨0,[],Nat.zero_le _,rfl,World.ownsRow_nil _ _ _ _,Below.refl _ _,Seen.start _⟩
   case round =>
    obtain⟨k,nm,hk,rfl,HO,HBq,HS⟩:=hrel;have HB:Hid (Below w.heap.size w wr):=HB1.out.trans (HBq.out.mono HB1.out.size);clear q1;obtain⟨q1,_⟩:=bP HB.out;by_cases hlt:k<ts.length
    ·obtain⟨u,hu⟩:∃u,vs[k]?=some u:=⟨vs[k]'(by have:=HV.out;omega),List.getElem?_eq_getElem (by have:=HV.out;omega)⟩
     obtain⟨x,hx⟩:∃x,ts[k]?=some x:=⟨ts[k],List.getElem?_eq_getElem hlt⟩
     obtain⟨g,off,rfl,hg,hc⟩:=HC.out k u hu;have hr:=HA.out k u x hu hx;have HX:Hid _:=hx;clear hu hx;obtain⟨bu,rfl,hbu,_,cs⟩:=hr.cellS;have HR:Hid (RepR ok m wr (.pointer (some ⟨bu,0,none⟩)) x):=hr.later HB.out;clear hr;have hlt2:(k:Int)<(ts.length:Int):=by omega
     go_wp2_with fail
     refine(aV ok m _ _ x HR.out).mono ?_;rintro e w2 ⟨rfl,hB2⟩;have HB2:Hid (Below w.heap.size w w2):=HB.out.trans (hB2.mono HB.out.size);obtain⟨q2,_⟩:=bP HB2.out;have HBq2:Hid (Below w1.heap.size w1 w2):=HBq.out.trans (hB2.mono HBq.out.size);have HO2:Hid (w2.ownsRow w1.heap.size 9 1 u6 k (nm.map eB)):=HO.out.kept (aQ none hB2) (by cases hv:Value.ownBlock u6<;>simp);have hs2:w1.heap.size<=w2.heap.size:=HBq2.out.size;clear hB2 HO q1;by_cases hnm:isName x=true
     ·obtain⟨ao2,cap2,rfl,hcap2,hcell2⟩:=mR HO2.out;have HC2:Hid _:=hcell2;have HNM:Hid (nm.length=k):=show nm.length=k from by have:=HO2.out.1;simpa using this
      clear hcell2;go_wp2_with fail
      go_loopw [9] (fun jj wq=>∃(j mm:Nat),j<=k/\jj=.int .i64 j/\wq=w2.drewN mm/\Hid (∀(i:Nat)(y:List UInt8),i<j->nm[i]?=some y->¬y=Pl.strOf x)) (fun jj _=>k-(intOf jj).toNat)
      case atStart=>exact⟨0,0,Nat.zero_le _,rfl,rfl,fun i y hi=>by omega⟩
      case round =>
       obtain⟨j,mm,hj,rfl,rfl,HJ⟩:=hrel;by_cases hjl:j<k
       ·obtain⟨y,hy⟩:∃y,nm[j]?=some y:=⟨nm[j]'(by have:=HNM.out;omega),List.getElem?_eq_getElem (by have:=HNM.out;omega)⟩
        obtain⟨g2,rfl,hc2⟩:=HC2.out j y hy;have hjl2:(j:Int)<(k:Int):=by omega
        by_cases hyx:y=Pl.strOf x
        ·have HT:Hid (Pl.lamF (formOf (m+1)) (.agg ts) bd=none):=by
          have:=HS.out.twice HX.out hy hyx;simp [Hid,Pl.lamF,this]
         have e1:(y==Pl.strOf x)=true:=by simpa using hyx
         clear hy hyx;go_wp2_with fail
         go_quiet (fail)
         go_wp2_with fail
         go_ret;refine⟨⟨HB2.out.os,HB2.out.tape,HB2.out.output,HB2.out.size,HB2.out.block⟩,.inr ⟨HT.out,rfl⟩⟩
        ·have HJ2:Hid (∀(i:Nat)(z:List UInt8),i<j+1->nm[i]?=some z->¬z=Pl.strOf x):=by
          intro i z hi hz;by_cases e:i=j
          ·subst e;rw [hy] at hz;obtain rfl:=Option.some.inj hz;exact hyx
          ·exact HJ.out i z (by omega) hz
         have e1:(y==Pl.strOf x)=false:=by simpa using hyx
         clear hy hyx;go_wp2_with fail
         go_quiet (fail)
         go_wp2_with fail
         go_roundw
         case rel=>exact⟨j+1,_,by omega,by go_num,rfl,HJ2⟩
         case measure=>simp [intOf];omega
       ·have HS2:Hid (Seen ts (k+1) (nm++[Pl.strOf x])):=HS.out.more HX.out hnm (vO fun i z hz=>HJ.out i z (by have:=(List.getElem?_eq_some_iff.1 hz).1;have:=HNM.out;omega) hz);clear HJ;go_wp2_with (first | (at_builtin;refine wpList_append_lies _ rfl _ _ 131 rfl w1.heap.size 9 i0 (.string ByteArray.empty) 1 16 underlying131 hi0 hz0 hz1 hz2 rfl (by decide) _ k (nm.map eB) rfl (World.ownsRow.alloc (w:=w2.drewN mm) HO2.out _) ⟨w2.heap.size,0,none⟩ 1 1 [.string ⟨(Pl.strOf x).toArray⟩] rfl rfl (cell_one_new _ _ _) (fun x hx=>by simp at hx;subst hx;rfl) (by decide) (by unfold maxLen;omega) (by omega) (by simp;omega) (w2.heap.size+1) (by simp) ?_;intro g' cap' w3 hown' hgrow3 hat3 _))
        go_roundw
        case rel =>
         refine⟨k+1,_,by omega,by go_num,?_,?_,HS2⟩
         ·have:=hown';rw [List.map_append];exact this
         ·exact(Below.alloc (w:=w2.drewN mm) ⟨HBq2.out.os,HBq2.out.tape,HBq2.out.output,HBq2.out.size,HBq2.out.block⟩ hs2 _).grown hgrow3 (by simp;omega) (fun j hj=>(HO2.out.lt j hj).1)
        case measure=>simp [intOf];omega
     ·have hn0:isName x=false:=by simpa using hnm
      have HT:Hid (Pl.lamF (formOf (m+1)) (.agg ts) bd=none):=by have:=Seen.bad HX.out hn0;simp [Hid,Pl.lamF,this]
      clear hnm;go_wp2_with fail;go_ret;exact⟨HB2.out,.inr ⟨HT.out,rfl⟩⟩
    ·have HT:Hid (Pl.lamF (formOf (m+1)) (.agg ts) bd=some (mkF .lambda [] .nil [f] (ts.map Pl.strOf))):=by
      have:=HS.out.done (by omega);simp [Hid,Pl.lamF,this,HE.out]
     obtain rfl:k=ts.length:=by omega
     have hnm:nm=ts.map Pl.strOf:=by have:=HS.out.1;rw [List.take_length] at this;exact this
     have HNs:Hid (wr.ownsRow w1.heap.size TS 1 u6 (ts.map Pl.strOf).length ((ts.map Pl.strOf).map byV)):=by have:=HO.out;rw [hnm] at this;rw [List.length_map];exact this
     have HR2:Hid (RepU false m2 wr w.heap.size w1.heap.size (.pointer (some ⟨bf,0,none⟩)) f):=HRp.out.later HBq.out;have HSz:Hid (w.heap.size<=w1.heap.size/\w1.heap.size<=wr.heap.size/\ts.length<=1000):=⟨HB1.out.size,HBq.out.size,hlen⟩
     clear hnm;have hs1:=HB.out.size;obtain⟨ao2,cap2,rfl,hcap2,_⟩:=mR HO.out;clear HO;go_wp2_with fail;go_ret;exact⟨(HB.out.alloc hs1 _).alloc (by simp;omega) _,.inl ⟨_,_,HT.out,rfl,m2+1,RepU.single (dv:=.pointer none) HSz.out.1 HSz.out.2.1 HR2.out (.inr (.inr rfl)) rfl HNs.out (by rw [List.length_map];exact HSz.out.2.2) rfl⟩⟩
  ·have HE:Hid (Pl.lamF (formOf (m+1)) (.agg ts) bd=none):=by
    simp [Hid,Pl.lamF,hf]
   clear hf;go_wp2_with fail;go_ret;exact⟨HB1.out,.inr ⟨HE.out,rfl⟩⟩
 ·have HE:Hid (Pl.lamF (formOf n) ns bd=none):=by
   show Pl.lamF _ _ _=_;unfold Pl.lamF;split
   ·exact absurd ⟨_,rfl⟩ hls
   ·rfl
  have hkk:∃kk:List UInt8,w.cell? ⟨b,0,none⟩=some (.string ⟨kk.toArray⟩)/\(kk==[108,105,115,116])=false:=by
   cases n with
   | zero=>exact HN.out.elim
   | succ m =>
    obtain⟨_,_,_,hh⟩:=HN.out
    match ns,hh with
    | .lit (.int _ _),_=>exact⟨[110,117,109,98,101,114],ck,by decide⟩
    | .lit (.bool _),_=>exact⟨[116,114,117,116,104],ck,by decide⟩
    | .lit (.string _),_=>exact⟨[110,97,109,101],ck,by decide⟩
    | .agg ts,_=>exact absurd ⟨ts,rfl⟩ hls
  obtain⟨kk,ck2,hkn⟩:=hkk;have hkm:(kk !=[108,105,115,116])=true:=by rw [bne,hkn];rfl
  clear ck hls;rcases hcase with⟨f,bf,hf,rfl,m2,hrep⟩ | ⟨hf,rfl⟩
  ·clear hf hrep;go_wp2_with fail;go_ret;exact⟨HB1.out,.inr ⟨HE.out,rfl⟩⟩
  ·clear hf;go_wp2_with fail;go_ret;exact⟨HB1.out,.inr ⟨HE.out,rfl⟩⟩
end
end Go.Proofs.YtkgbdddkcjpgfaaGreatDoor
