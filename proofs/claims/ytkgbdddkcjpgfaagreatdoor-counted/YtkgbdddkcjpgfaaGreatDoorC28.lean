import Derived.Test.YtkgbdddkcjpgfaaGreatDoorC05
import Derived.Deep.RegionWith
import Derived.Deep.RegionHeld3
import Derived.Test.YtkgbdddkcjpgfaaGreatDoorC03
import Derived.Test.YtkgbdddkcjpgfaaGreatDoorC13
import Derived.Deep.RegionLaw
import Derived.Laws.AppendOwnNone
namespace Go.Proofs.YtkgbdddkcjpgfaaGreatDoor
open Pl (PV PF FK)
section
open Go.RowKit
variable {w w':World} {lo hi n a b lo' hi' m:Nat} {v u sv:Value} {us:List Value} {q:Bool}
theorem SlOf.tail{g off cap L:Nat}(h:SlOf w (.slice (some ⟨g,off,none⟩) L cap) (u::us))(m:Nat)(hm:us.length=m)(ao:Option Addr)(c:Nat)(hc:m<=c)(ha:m≠0->ao=some ⟨g,off+1,none⟩):SlOf w (.slice ao m c) us:=by
 obtain⟨g',off',cap',e,_,hg,_,hs⟩:=h.cell0;simp only [Value.slice.injEq,Option.some.injEq,Addr.mk.injEq,and_true] at e;obtain⟨⟨rfl,rfl⟩,_,rfl⟩:=e;subst hm;refine⟨ao,c,rfl,hc,fun i x hx=>⟨g,off+1,ha (by rintro h0;have:=List.eq_nil_of_length_eq_zero h0;subst this;simp at hx),hg,?_⟩⟩;have:=hs i x hx
 rwa [show off+1+i=off+(i+1) from by omega]
theorem RepR.kinds{ok:Nat->Prop}{t:Tr}(h:RepR ok n w v t):(∃k m,t=.lit (.int k m))\/(∃x,t=.lit (.bool x))\/(∃s,t=.lit (.string s))\/∃ts,t=.agg ts:=by
 cases n with
 | zero=>exact h.elim
 | succ n =>
  obtain⟨_,_,_,hh⟩:=h
  match t,hh with
  | .lit (.int k m),_=>exact .inl ⟨k,m,rfl⟩
  | .lit (.bool x),_=>exact .inr (.inl ⟨x,rfl⟩)
  | .lit (.string s),_=>exact .inr (.inr (.inl ⟨s,rfl⟩))
  | .agg ts,_=>exact .inr (.inr (.inr ⟨ts,rfl⟩))
theorem RepR.cons{ok:Nat->Prop}{k:Tr}{r:List Tr}(h:RepR ok (n+1) w v (.agg (k::r))) :∃b g off cap u0 us,v=.pointer (some ⟨b,0,none⟩)/\b<w.heap.size/\w.cell? ⟨b,0,none⟩=some (.string ⟨#[108,105,115,116]⟩)/\w.cell? ⟨b,3,none⟩=some (.slice (some ⟨g,off,none⟩) (r.length+1) cap)/\r.length+1<=cap/\g<w.heap.size/\w.cell? ⟨g,off,none⟩=some u0 /\
   SlOf w (.slice (some ⟨g,off,none⟩) (r.length+1) cap) (u0::us)/\us.length=r.length/\RepR ok n w u0 k/\AllR n w (u0::us) (k::r)/\AllR n w us r:=by
 obtain⟨b,kids,vs,rfl,hb,ck,c3,hS,hl,hA⟩:=h.list
 match vs,hl with
 | u0::us,hl =>
  obtain⟨g,off,cap,rfl,hcap,hg,k0,_⟩:=hS.cell0;have hlr:us.length=r.length:=by simpa using hl
  rw [hlr] at hS c3 hcap;exact⟨b,g,off,cap,u0,us,rfl,hb,ck,c3,hcap,hg,k0,hS,hlr,hA 0 u0 k rfl rfl,⟨hl,ok,hA⟩,⟨hlr,ok,fun i u x hu hx=>hA (i+1) u x (by simpa using hu) (by simpa using hx)⟩⟩
theorem SlOf.later{vs:List Value}(h:SlOf w v vs)(hb:Below w.heap.size w w'):SlOf w' v vs:=by obtain⟨ao,cap,e,hc,hx⟩:=h;refine⟨ao,cap,e,hc,fun i u hu=>?_⟩;obtain⟨g,off,ea,hg,hcell⟩:=hx i u hu;exact⟨g,off,ea,Nat.lt_of_lt_of_le hg hb.size,(hb.cell (p:=⟨g,off+i,none⟩) hg).trans hcell⟩
theorem AllR.later{vs:List Value}{ts:List Tr}(h:AllR n w vs ts)(hb:Below w.heap.size w w'):AllR n w' vs ts:=by obtain⟨hl,ok,hx⟩:=h;exact⟨hl,ok,fun i u x hu hx'=>(hx i u x hu hx').later hb⟩
theorem FormPost.one{r:Bool}{e:Ending}(h:FormPost w r e w'):∃po,e=.returned (.pointer po)/\Below w.heap.size w w'/\((r=true/\∃b,po=some ⟨b,0,none⟩)\/(r=false/\po=none)):=by
 obtain⟨hB,⟨hr,b,rfl⟩ | ⟨hr,rfl⟩⟩:=h
 ·exact⟨_,rfl,hB,.inl ⟨hr,b,rfl⟩⟩
 ·exact⟨_,rfl,hB,.inr ⟨hr,rfl⟩⟩
def KidsU(R:Nat->Nat->Value->PF->Prop)(lo hi:Nat)(us:List Value)(ks:List PF):Prop :=
 us.length=ks.length/\∃cs:List (Nat×Nat),cs.length=ks.length/\(∀(i:Nat)(p:Nat×Nat)(u:Value)(x:PF),cs[i]?=some p->us[i]?=some u->ks[i]?=some x->lo<=p.1/\p.2<=hi/\R p.1 p.2 u x) /\
  ∀(i j:Nat)(p q:Nat×Nat),i<j->cs[i]?=some p->cs[j]?=some q->p.2<=q.1
theorem KidsU.nil(R:Nat->Nat->Value->PF->Prop)(lo hi:Nat):KidsU R lo hi [] []:=⟨rfl,[],rfl,fun i p u x h=>by simp at h,fun i j p q _ h=>by simp at h⟩
theorem KidsU.mono{R Q:Nat->Nat->Value->PF->Prop}{ks:List PF}(h:KidsU R lo hi us ks)(h1:lo'<=lo)(h2:hi<=hi')(hm:∀a b u x,lo<=a->b<=hi->R a b u x->Q a b u x):KidsU Q lo' hi' us ks:=by obtain⟨h0,cs,h3,h4,h5⟩:=h;refine⟨h0,cs,h3,fun i p u x hp hu hx=>?_,h5⟩;obtain⟨k1,k2,k3⟩:=h4 i p u x hp hu hx;exact⟨by omega,by omega,hm _ _ _ _ k1 k2 k3⟩
theorem KidsU.snoc{R:Nat->Nat->Value->PF->Prop}{mid:Nat}{ks:List PF}(h:KidsU R lo mid us ks){x:PF}(hl:lo<=mid)(hm:mid<=hi)(hr:R mid hi u x):KidsU R lo hi (us++[u]) (ks++[x]):=by
 obtain⟨h0,cs,h3,h4,h5⟩:=h;refine⟨by simp [h0],cs++[(mid,hi)],by simp [h3],fun i p v y hp hv hy=>?_,fun i j p q hij hp hq=>?_⟩
 ·by_cases hi':i<ks.length
  ·rw [List.getElem?_append_left (by omega)] at hp hv hy;obtain⟨k1,k2,k3⟩:=h4 i p v y hp hv hy;exact⟨k1,by omega,k3⟩
  ·have hlt:=(List.getElem?_eq_some_iff.1 hy).1;have e:i=ks.length:=by simp at hlt;omega
   subst e;rw [<- h3] at hp;rw [<- h0] at hv;simp at hp hv hy;subst hp hv hy;exact⟨hl,Nat.le_refl _,hr⟩
 ·have hjl:=(List.getElem?_eq_some_iff.1 hq).1;simp only [List.length_append,List.length_cons,List.length_nil] at hjl;rw [List.getElem?_append_left (by omega)] at hp;by_cases hj:j<cs.length
  ·rw [List.getElem?_append_left hj] at hq;exact h5 i j p q hij hp hq
  ·have e:j=cs.length:=by omega
   subst e;simp at hq;subst hq;have hil:=(List.getElem?_eq_some_iff.1 hp).1;exact(h4 i p _ _ hp (List.getElem?_eq_getElem (by omega)) (List.getElem?_eq_getElem (by omega))).2.1
theorem KidsU.cons{R:Nat->Nat->Value->PF->Prop}{mid:Nat}{ks:List PF}(h:KidsU R mid hi us ks){x:PF}(hl:lo<=mid)(hm:mid<=hi)(hr:R lo mid u x):KidsU R lo hi (u::us) (x::ks):=by
 obtain⟨h0,cs,h3,h4,h5⟩:=h;refine⟨by simp [h0],(lo,mid)::cs,by simp [h3],fun i p v y hp hv hy=>?_,fun i j p q hij hp hq=>?_⟩
 ·cases i with
  | zero=>simp at hp hv hy;subst hp hv hy;exact⟨Nat.le_refl _,hm,hr⟩
  | succ i =>simp at hp hv hy;obtain⟨k1,k2,k3⟩:=h4 i p v y hp hv hy;exact⟨by omega,k2,k3⟩
 ·cases j with
  | zero=>omega
  | succ j =>
   simp at hq
   cases i with
   | zero =>simp at hp;subst hp;have hjl:=(List.getElem?_eq_some_iff.1 hq).1;exact(h4 j q _ _ hq (List.getElem?_eq_getElem (by omega)) (List.getElem?_eq_getElem (by omega))).1
   | succ i =>simp at hp;exact h5 i j p q (by omega) hp hq
def fI(lo hi:Nat)(v:Value):Prop:=∀g,v.ownBlock=some g->lo<=g/\g<hi
theorem fI.wide(h:fI lo hi v)(h1:lo'<=lo)(h2:hi<=hi'):fI lo' hi' v:=fun g hg=>by have:=h g hg;omega
def lenT:Nat->Tr->Prop
 | 0,_=>True
 | n+1,t=>match t with
  | .lit (.int _ m)=>gW m
  | .lit (.string s)=>s.length<=300
  | .agg ts=>ts.length<=900/\∀x∈ts,lenT n x
  | _=>True
theorem lenT.big:∀(n:Nat)(t:Tr),lenT n t->cL n t
 | 0,_,_=>trivial
 | n+1,t,h=>by
  cases t with
  | agg ts=>exact fun x hx=>lenT.big n x (h.2 x hx)
  | lit x=>cases x<;>first | trivial | exact h
  | _=>trivial
def quoOk:Tr->Prop
 | .agg ts=>ts.length=2
 | _=>True
def valOk(q:Bool)(k:FK)(pv:PV)(c0 c1 c2:Value):Prop:=if q then(k=.const->[c0,c1,c2]=cZ pv) else(c0=byV []/\c1=.int .i64 0/\c2=byV [])
def RepU(q:Bool):Nat->World->Nat->Nat->Value->PF->Prop
 | 0,_,_,_,_,_=>False
 | n+1,w,lo,hi,v,.mk k nm d pv ks ns=>∃b dv kv nv c0 c1 c2 us,v=.pointer (some ⟨b,0,none⟩)/\lo<=b/\b<hi /\
   w.heap[b]?=some (.cells #[byV (fkS k),byV nm,dv,kv,nv,c0,c1,c2] TFo (0,0))/\valOk q k pv c0 c1 c2 /\
   w.ownsRow 0 TFP 1 kv ks.length us/\KidsU (RepU q n w) lo b us ks /\
   w.ownsRow 0 TS 1 nv ns.length (ns.map byV)/\(k=.const->∃m,m<=1000/\RepR (fun _=>True) m w dv d/\cL m d/\quoOk d)/\shape k ks.length/\ks.length<=1000/\ns.length<=1000/\fI lo hi kv/\fI lo hi nv
def exT(e:TypeId):Prop:=e=TFo\/e=TFP\/e=TS
def KeepX(lo hi:Nat)(w w':World):Prop:=∀(k:Nat)(cur:Array Value)(e:TypeId),imT e->(exT e->k<lo\/hi<=k)->w.heap[k]?=some (.cells cur e (0,0))->w'.heap[k]?=some (.cells cur e (0,0))
theorem KeepX.of_below(h:Below w.heap.size w w'):KeepX lo hi w w':=fun k _ _ _ _ hb=>(h.block k (aB hb)).trans hb
theorem KeepX.trans{a b c:World}(h:KeepX lo hi a b)(k:KeepX lo hi b c):KeepX lo hi a c:=fun i cur e h1 h2 h3=>k i cur e h1 h2 (h i cur e h1 h2 h3)
theorem KeepX.mono{a b:World}(h:KeepX lo hi a b)(h1:lo'<=lo)(h2:hi<=hi'):KeepX lo' hi' a b:=fun i cur e k1 k2 k3=>h i cur e k1 (fun x=>(k2 x).imp (fun y=>by omega) (fun y=>by omega)) k3
theorem KeepX.keepD(h:KeepX lo hi w w'):KeepD (fun _=>True) w w':=fun k cur e _ ht hb=>h k cur e (ht.elim .inl (fun x=>.inr (.inl x))) (fun x=>by rcases ht with rfl | rfl<;>rcases x with x | x | x<;>exact absurd x (by decide)) hb
theorem f8{xs:List Value}{T:TypeId}(hk:KeepX lo hi w w')(ht:imT T)(hn:fI a b v)(hd:b<=lo\/hi<=a)(h:w.ownsRow 0 T 1 v n xs):w'.ownsRow 0 T 1 v n xs:=by
 refine⟨h.1,?_⟩;rcases h.2 with hn | ⟨g,cap,cur,rfl,hb,hg,rest⟩
 ·exact .inl hn
 ·exact .inr ⟨g,cap,cur,rfl,hb,hk g cur T ht (fun _=>by have:=hn g rfl;omega) hg,rest⟩
theorem RepU.keep(hk:KeepX lo hi w w'):∀(n:Nat)(a b:Nat)(v:Value)(f:PF),(b<=lo\/hi<=a)->RepU q n w a b v f->RepU q n w' a b v f
 | 0,_,_,_,_,_,h=>h
 | n+1,a,b,v,.mk k nm d pv ks ns,hd,h=>by
  obtain⟨x,dv,kv,nv,c0,c1,c2,us,hv,h1,h2,hb,h3,h4,h5,h6,h7,h8,h9,h10,h11,h12⟩:=h
  exact⟨x,dv,kv,nv,c0,c1,c2,us,hv,h1,h2,hk x _ _ (.inr (.inr (.inl rfl))) (fun _=>by rcases hd with h | h<;>omega) hb,h3,f8 hk (.inr (.inr (.inr (.inl rfl)))) h11 hd h4,
   h5.mono (Nat.le_refl _) (Nat.le_refl _) (fun c d u y k1 k2 k3=>RepU.keep hk n c d u y (by rcases hd with h | h<;>omega) k3),f8 hk (.inr (.inr (.inr (.inr (.inl rfl))))) h12 hd h6,fun e=>(h7 e).elim fun m hm=>⟨m,hm.1,RepR.keep hk.keepD _ _ _ hm.2.1,hm.2.2⟩,h8,h9,h10,h11,h12⟩
theorem RepU.later{f:PF}(h:RepU q n w a b v f)(hb:Below w.heap.size w w'):RepU q n w' a b v f:=RepU.keep (KeepX.of_below (lo:=a) (hi:=a) hb) n a b v f (.inr (Nat.le_refl _)) h
theorem RepU.up:∀(n m:Nat)(a b:Nat)(v:Value)(f:PF),n<=m->RepU q n w a b v f->RepU q m w a b v f
 | 0,_,_,_,_,_,_,h=>h.elim
 | _+1,0,_,_,_,_,hm,_=>by omega
 | n+1,m+1,a,b,v,.mk k nm d pv ks ns,hm,h=>by obtain⟨x,dv,kv,nv,c0,c1,c2,us,hv,h1,h2,hb,h3,h4,h5,h6⟩:=h;exact⟨x,dv,kv,nv,c0,c1,c2,us,hv,h1,h2,hb,h3,h4,h5.mono (Nat.le_refl _) (Nat.le_refl _) (fun c d u y _ _ k3=>RepU.up n m c d u y (by omega) k3),h6⟩
theorem RepU.wide{a' b':Nat}{f:PF}(h1:a'<=a)(h2:b<=b')(h:RepU q n w a b v f):RepU q n w a' b' v f:=by
 match n,f,h with
 | n+1,.mk k nm d pv ks ns,h =>obtain⟨x,dv,kv,nv,c0,c1,c2,us,hv,k1,k2,hb,h3,h4,h5,h6,h7,h8,h9,h10,h11,h12⟩:=h;exact⟨x,dv,kv,nv,c0,c1,c2,us,hv,by omega,by omega,hb,h3,h4,h5.mono h1 (Nat.le_refl _) (fun _ _ _ _ _ _ k=>k),h6,h7,h8,h9,h10,h11.wide h1 h2,h12.wide h1 h2⟩
theorem RepU.ptr{f:PF}(h:RepU q n w a b v f):∃x,v=.pointer (some ⟨x,0,none⟩):=by
 match n,f,h with
 | n+1,.mk k nm d pv ks ns,⟨x,_,_,_,_,_,_,_,hv,_⟩=>exact⟨x,hv⟩
def FoPost(w:World)(o:Option PF)(e:Ending)(w':World):Prop :=Below w.heap.size w w'/\((∃f b,o=some f/\e=.returned (.pointer (some ⟨b,0,none⟩))/\∃m,RepU false m w' w.heap.size w'.heap.size (.pointer (some ⟨b,0,none⟩)) f)\/(o=none/\e=.returned (.pointer none)))
def KidsR(m:Nat)(wr:World)(lo:Nat)(sv:Value)(us:List Value)(fs:List PF):Prop:=KidsU (fun a b u x=>RepU false m wr a b u x/\∀g,sv.ownBlock=some g->g<a\/b<=g) lo wr.heap.size us fs
theorem KidsR.start(w:World)(lo:Nat):Hid (KidsR 0 w lo (.slice none 0 0) [] []):=(KidsU.nil _ _ _:KidsR 0 w lo (.slice none 0 0) [] [])
theorem RepU.rowed{w2 w3:World}{T:TypeId}{base:Nat}{o:Obj}(hO:w2.ownsRow base T 1 sv n us)(hT:exT T)(hg:(w2.alloc o).grownBy w3 sv.ownBlock){x:PF}(hd:∀g,sv.ownBlock=some g->g<a\/b<=g)(h:RepU false m w2 a b u x):RepU false m w3 a b u x:=by
 have same:∀i,i<w2.heap.size->sv.ownBlock≠some i->w3.heap[i]?=w2.heap[i]? := fun i hi hn=>by rw [hg.block i (by simp;omega) (fun e=>hn e.symm),Below.heap_alloc w2 o i hi]
 cases hv:sv.ownBlock with
 | none=>exact RepU.keep (lo:=a) (hi:=a) (fun i cur e _ _ h3=>(same i (aB h3) (by rw [hv];simp)).trans h3) m a b u x (.inr (Nat.le_refl _)) h
 | some g =>
  refine RepU.keep (lo:=g) (hi:=g+1) (fun i cur e _ h2 h3=>?_) m a b u x (by have:=hd g hv;omega) h;by_cases he:i=g
  ·subst he;obtain⟨cur',hc⟩:=aN hO i hv;obtain⟨_,rfl⟩:=aK h3 hc;have:=h2 hT;omega
  ·exact(same i (aB h3) (by rw [hv];simp;omega)).trans h3
theorem KidsR.push{m2 k:Nat}{wr w2 w3:World}{fs:List PF}{f:PF}{o:Obj}{g' cap':Nat}(h:KidsR m wr w.heap.size sv us fs)(hw:w.heap.size<=wr.heap.size)(hb:Below wr.heap.size wr w2)(hf:RepU false m2 w2 wr.heap.size w2.heap.size u f)
  (hO:w2.ownsRow w.heap.size TF 1 sv k us) (hO1:∀g,sv.ownBlock=some g->g<wr.heap.size) (hg:(w2.alloc o).grownBy w3 sv.ownBlock) (hat:sv.ownBlock=some g'\/g'=w2.heap.size+1):KidsR (m+m2) w3 w.heap.size (.slice (some ⟨g',0,none⟩) (k+1) cap') (us++[u]) (fs++[f]):=by
 have hs2:=hb.size;have hs3:w2.heap.size+1<=w3.heap.size:=by have:=hg.size;simpa using this
 have hT:exT TF:=.inr (.inl rfl)
 have h1:KidsU (fun a b u x=>RepU false (m+m2) w3 a b u x/\∀g,(Value.slice (some ⟨g',0,none⟩) (k+1) cap').ownBlock=some g->g<a\/b<=g) w.heap.size wr.heap.size us fs :=
  h.mono (Nat.le_refl _) (Nat.le_refl _) (fun a b u x _ hbb ⟨k1,k2⟩=>⟨(RepU.up _ _ _ _ _ _ (by omega) (k1.later hb)).rowed hO hT hg k2,fun g hgg=>by
   simp only [Value.ownBlock,Option.some.injEq] at hgg;subst hgg;rcases hat with e | e
   ·exact k2 _ e
   ·right;omega⟩)
 refine(h1.snoc (hi:=w2.heap.size) hw hs2 ⟨(RepU.up _ _ _ _ _ _ (by omega) hf).rowed hO hT hg (fun g hgg=>.inl (hO1 g hgg)),fun g hgg=>?_⟩).mono (Nat.le_refl _) (by omega) (fun _ _ _ _ _ _ k=>k);simp only [Value.ownBlock,Option.some.injEq] at hgg;subst hgg;rcases hat with e | e
 ·exact .inl (hO1 _ e)
 ·right;omega
theorem KidsR.plain{wr:World}{fs:List PF}(h:KidsR m wr lo sv us fs):KidsU (RepU false m wr) lo wr.heap.size us fs:=h.mono (Nat.le_refl _) (Nat.le_refl _) (fun _ _ _ _ _ _ k=>k.1)
theorem KidsU.one{R:Nat->Nat->Value->PF->Prop}{x:PF}(h:R a b u x)(h1:lo<=a)(h2:b<=hi):KidsU R lo hi [u] [x] :=
 ⟨rfl,[(a,b)],rfl,fun i p v y hp hv hy=>by
  cases i with
  | zero=>simp at hp hv hy;subst hp hv hy;exact⟨h1,h2,h⟩
  | succ i=>simp at hp,fun i j p q hij hp hq=>by
  cases j with
  | zero=>omega
  | succ j=>simp at hq⟩
theorem FoPost.one{o:Option PF}{e:Ending}(h:FoPost w o e w'):∃po,e=.returned (.pointer po)/\Below w.heap.size w w'/\((∃f b,o=some f/\po=some ⟨b,0,none⟩/\∃m,RepU false m w' w.heap.size w'.heap.size (.pointer (some ⟨b,0,none⟩)) f)\/(o=none/\po=none)):=by
 obtain⟨hB,⟨f,b,hr,rfl,hm⟩ | ⟨hr,rfl⟩⟩:=h
 ·exact⟨_,rfl,hB,.inl ⟨f,b,hr,rfl,hm⟩⟩
 ·exact⟨_,rfl,hB,.inr ⟨hr,rfl⟩⟩
end
end Go.Proofs.YtkgbdddkcjpgfaaGreatDoor
