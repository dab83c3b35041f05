import Derived.Test.YtkgbdddkcjpgfaaGreatDoorK03
import Derived.Test.YtkgbdddkcjpgfaaGreatDoorK01
import Derived.Test.YtkgbdddkcjpgfaaGreatDoorK02
namespace Go.Proofs.YtkgbdddkcjpgfaaGreatDoor
section
namespace Pl
def goodTok(t:Tok):Bool:=!(inW (t.headD 0))||(isNum t||noDig t)
def check(bs:List UInt8):Nat :=
 if 300<bs.length then 1
 else match toks bs with
  | none=>2
  | some l =>
   if l.all goodTok=false then 2
   else match pd l.length l with
    | none=>2
    | some p =>
     if p.q≠[] then 2
     else if 20<p.dp then 3
     else if p.gr=true then 4
     else if isTop (l.length-1) p.t=true then 0 else 5
theorem fP:∀(n:Nat)(bs:List UInt8)(l:List Tok),tkF n bs=some l->l.length<=bs.length/\∀t∈l,0<t.length/\t.length<=bs.length
 | 0,_,_,h=>by obtain rfl:=Option.some.inj h;simp
 | _+1,[],_,h=>by obtain rfl:=Option.some.inj h;simp
 | n+1,c::r,l,h=>by
  unfold tkF at h;split at h
  ·have ih:=fP n r l h;refine⟨by simp;omega,fun t ht=>⟨(ih.2 t ht).1,by have:=(ih.2 t ht).2;simp;omega⟩⟩
  split at h
  ·cases r with
   | nil=>simp at h
   | cons d q =>
    dsimp only at h;split at h
    ·simp only [Option.map_eq_some_iff] at h;obtain⟨l1,h1,rfl⟩:=h;have ih:=fP n q l1 h1;refine⟨by simp;omega,fun t ht=>?_⟩;rcases List.mem_cons.1 ht with rfl | ht
     ·simp
     ·exact⟨(ih.2 t ht).1,by have:=(ih.2 t ht).2;simp;omega⟩
    ·simp at h
  split at h
  ·simp only [Option.map_eq_some_iff] at h;obtain⟨l1,h1,rfl⟩:=h;have ih:=fP n _ l1 h1;have hd:=eQ inW r;have hta:(r.takeWhile inW).length<=r.length:=(List.takeWhile_sublist inW).length_le;refine⟨by simp;omega,fun t ht=>?_⟩;rcases List.mem_cons.1 ht with rfl | ht
   ·simp;omega
   ·exact⟨(ih.2 t ht).1,by have:=(ih.2 t ht).2;simp;omega⟩
  split at h
  ·simp only [Option.map_eq_some_iff] at h;obtain⟨l1,h1,rfl⟩:=h;have ih:=fP n r l1 h1;refine⟨by simp;omega,fun t ht=>?_⟩;rcases List.mem_cons.1 ht with rfl | ht
   ·simp
   ·exact⟨(ih.2 t ht).1,by have:=(ih.2 t ht).2;simp;omega⟩
  ·simp at h
theorem toks_size{bs:List UInt8}{l:List Tok}(h:toks bs=some l):l.length<=bs.length/\∀t∈l,0<t.length/\t.length<=bs.length:=fP _ _ _ h
end Pl
namespace Pl
def madeL(f:Nat->Tre->PV×List (PV×PV))(b:Nat):List Tre->PV×List (PV×PV)
 | []=>(.empty,[])
 | x::r=>((.pair (b+(madeL f b r).2.length+(f (b+(madeL f b r).2.length) x).2.length)),(madeL f b r).2++(f (b+(madeL f b r).2.length) x).2++[((f (b+(madeL f b r).2.length) x).1,(madeL f b r).1)])
def made:Nat->Nat->Tre->PV×List (PV×PV)
 | 0,_,_=>(.nothing,[])
 | n+1,b,t=>match t with
  | .lit (.int _ m)=>(.num m,[])
  | .lit (.bool x)=>(.truth x,[])
  | .lit (.string s)=>(.name s,[])
  | .agg ts=>madeL (made n) b ts
  | _=>(.nothing,[])
end Pl
def cL:Nat->Pl.Tre->Prop
 | 0,_=>True
 | n+1,t=>match t with
  | .lit (.int _ m)=>gW m
  | .lit (.string s)=>s.length<=300
  | .agg ts=>∀x∈ts,cL n x
  | _=>True
namespace Pl
def quoted:Tre->Tre
 | .agg (_::d::_)=>d
 | t=>t
mutual
def settle:PF->Nat->PF×List (PV×PV)
 | .mk k nm d v ks ns,b =>
  if k=.const then(.mk k nm d (made 1000 b (quoted d)).1 ks ns,(made 1000 b (quoted d)).2)
  else(.mk k nm d v (settleL ks b).1 ns,(settleL ks b).2)
def settleL:List PF->Nat->List PF×List (PV×PV)
 | [],_=>([],[])
 | x::r,b=>((settle x b).1::(settleL r (b+(settle x b).2.length)).1,(settle x b).2++(settleL r (b+(settle x b).2.length)).2)
end
theorem settle_const(nm:Byt)(d:Tre)(v:PV)(ks:List PF)(ns:List Byt)(b:Nat):settle (.mk .const nm d v ks ns) b=(.mk .const nm d (made 1000 b (quoted d)).1 ks ns,(made 1000 b (quoted d)).2):=by simp [settle]
theorem settle_other(k:FK)(nm:Byt)(d:Tre)(v:PV)(ks:List PF)(ns:List Byt)(b:Nat)(h:k≠.const):settle (.mk k nm d v ks ns) b=(.mk k nm d v (settleL ks b).1 ns,(settleL ks b).2):=by simp [settle,h]
theorem settleL_nil(b:Nat):settleL [] b=([],[]):=by simp [settleL]
theorem settleL_cons(x:PF)(r:List PF)(b:Nat):settleL (x::r) b=((settle x b).1::(settleL r (b+(settle x b).2.length)).1,(settle x b).2++(settleL r (b+(settle x b).2.length)).2):=by simp [settleL]
theorem settleL_len:∀(l:List PF)(b:Nat),(settleL l b).1.length=l.length
 | [],_=>by simp [settleL]
 | x::r,b=>by simp [settleL,settleL_len r]
def readF(bs:Byt):Option PF:=match toks bs with
 | none=>none
 | some l=>match pd l.length l with
  | none=>none
  | some p=>topOf (l.length-1) p.t
structure PO where
 code:Nat
 out:Byt
 val:Byt
 deriving DecidableEq
def told(r:SR):PO:=⟨r.e,r.W.out,if r.e=0 then cut (text r.W.pairs r.S.val) else []⟩
def beganW(W:PW)(f:PF):PW:={W with out:=[],pairs:=W.pairs++(settle f W.pairs.length).2}
def beganS(W:PW)(f:PF):PS:=⟨some (settle f W.pairs.length).1,[],.nothing,[]⟩
def over(n:Int):Bool:=decide (n<0)||decide (1000000<n)
def answer(W:PW)(i:Byt×Int):PW×PO :=
 if over i.2 then(W,⟨6,[],[]⟩)
 else if check i.1≠0 then(W,⟨check i.1,[],[]⟩)
 else match readF i.1 with
  | none=>(W,⟨5,[],[]⟩)
  | some f=>((goOn i.2.toNat (beganW W f) (beganS W f)).W,told (goOn i.2.toNat (beganW W f) (beganS W f)))
def session:PW->List (Byt×Int)->PW×List PO
 | W,[]=>(W,[])
 | W,i::r=>((session (answer W i).1 r).1,(answer W i).2::(session (answer W i).1 r).2)
theorem session_snoc:∀(l:List (Byt×Int)) (W:PW) (i:Byt×Int),session W (l++[i])=((answer (session W l).1 i).1,(session W l).2++[(answer (session W l).1 i).2])
 | [],_,_=>rfl
 | x::l,W,i=>by simp only [List.cons_append,session,session_snoc l]
theorem session_len:∀(l:List (Byt×Int)) (W:PW),(session W l).2.length=l.length
 | [],_=>rfl
 | x::l,W=>by simp [session,session_len l]
end Pl
end
open Pl (PV PF Byt prims callccW)
section
open Go.RowKit
variable {M M':Nat->Prop} {w w':World} {v:Value} {i:Nat}
def TVal:TypeId:=161
def TPair:TypeId:=369
def TForm:TypeId:=61
def TNam:TypeId:=214
structure Sg where
 tq:TypeId
 tc:TypeId
 pb:List Nat
 qb:List Nat
 cb:List Nat
 lp:List (Option (Nat×Nat))
 ns:List Byt
structure Sg.Le(s t:Sg):Prop where
 tq:t.tq=s.tq
 tc:t.tc=s.tc
 pb:s.pb <+: t.pb
 qb:s.qb <+: t.qb
 cb:s.cb <+: t.cb
 lp:s.lp <+: t.lp
 ns:s.ns <+: t.ns
theorem Sg.Le.refl(s:Sg):Sg.Le s s:=⟨rfl,rfl,List.prefix_refl _,List.prefix_refl _,List.prefix_refl _,List.prefix_refl _,List.prefix_refl _⟩
theorem Sg.Le.trans{a b c:Sg}(h:Sg.Le a b)(k:Sg.Le b c):Sg.Le a c:=⟨k.tq.trans h.tq,k.tc.trans h.tc,h.pb.trans k.pb,h.qb.trans k.qb,h.cb.trans k.cb,h.lp.trans k.lp,h.ns.trans k.ns⟩
theorem bS{α:Type}{a b:List α}(h:a <+: b){x:α}(hi:a[i]?=some x):b[i]?=some x:=by obtain⟨t,rfl⟩:=h;rw [List.getElem?_append_left (List.getElem?_eq_some_iff.1 hi).1];exact hi
inductive RV (s:Sg):Value->PV->Prop
 | num (n:Int):RV s (.iface 294 (.int .i64 n)) (.num n)
 | truth (b:Bool):RV s (.iface 296 (.bool b)) (.truth b)
 | name (t:Byt):RV s (.iface 297 (.string ⟨t.toArray⟩)) (.name t)
 | empty:RV s (.iface 366 (.agg #[])) .empty
 | nothing:RV s (.iface 299 (.agg #[])) .nothing
 | pair (i b:Nat) (h:s.pb[i]?=some b):RV s (.iface 367 (.pointer (some ⟨b,0,none⟩))) (.pair i)
 | proc (i b:Nat) (h:s.qb[i]?=some b):RV s (.iface s.tq (.pointer (some ⟨b,0,none⟩))) (.proc i)
 | cont (i b:Nat) (h:s.cb[i]?=some b):RV s (.iface s.tc (.pointer (some ⟨b,0,none⟩))) (.cont i)
 | prim (k:Nat) (t:Byt) (h:prims[k]?=some t) (hk:k<12):RV s (.iface 246 (.int .i64 (k:Int))) (.prim t)
 | callcc:RV s (.iface 243 (.agg #[])) (.prim callccW)
theorem RV.le{s t:Sg}(l:Sg.Le s t){p:PV}(h:RV s v p):RV t v p:=by
 cases h with
 | num n=>exact .num n
 | truth b=>exact .truth b
 | name t=>exact .name t
 | empty=>exact .empty
 | nothing=>exact .nothing
 | pair i b h=>exact .pair i b (bS l.pb h)
 | proc i b h=>rw [<- l.tq];exact .proc i b (bS l.qb h)
 | cont i b h=>rw [<- l.tc];exact .cont i b (bS l.cb h)
 | prim k t h hk=>exact .prim k t h hk
 | callcc=>exact .callcc
theorem RV.iface{s:Sg}{p:PV}(h:RV s v p):∃T x,v=.iface T x:=by cases h<;>exact⟨_,_,rfl⟩
theorem RV.oneCell{s:Sg}{p:PV}(h:RV s v p):v.oneCell'=true:=by cases h<;>rfl
theorem p5{α:Type}{l:List α}{x y:α}(h:(l++[x])[i]?=some y):l[i]?=some y\/(i=l.length/\y=x):=by
 by_cases hi:i<l.length
 ·left;rwa [List.getElem?_append_left hi] at h
 ·right;rw [List.getElem?_append_right (by omega)] at h;by_cases h0:i-l.length=0
  ·rw [h0] at h;simp at h;exact⟨by omega,h.symm⟩
  ·rw [List.getElem?_eq_none (by simp;omega)] at h;simp at h
def All2{α β:Type}(R:α->β->Prop)(us:List α)(l:List β):Prop:=us.length=l.length/\∀(i:Nat)(u:α)(x:β),us[i]?=some u->l[i]?=some x->R u x
theorem All2.mono{α β:Type}{R Q:α->β->Prop}{us:List α}{l:List β}(h:All2 R us l)(hm:∀u x,R u x->Q u x):All2 Q us l:=⟨h.1,fun i u x hu hx=>hm u x (h.2 i u x hu hx)⟩
theorem All2.nil{α β:Type}(R:α->β->Prop):All2 R [] []:=⟨rfl,fun i u x h=>by simp at h⟩
theorem All2.snoc{α β:Type}{R:α->β->Prop}{us:List α}{l:List β}(h:All2 R us l){u:α}{x:β}(hu:R u x):All2 R (us++[u]) (l++[x]):=by
 refine⟨by simp [h.1],fun i a b ha hb=>?_⟩;by_cases hi:i<us.length
 ·rw [List.getElem?_append_left hi] at ha;rw [List.getElem?_append_left (by rw [<- h.1];exact hi)] at hb;exact h.2 i a b ha hb
 ·rw [List.getElem?_append_right (by omega)] at ha;rw [List.getElem?_append_right (by rw [<- h.1];omega)] at hb;have h0:=(List.getElem?_eq_some_iff.1 ha).1;have h1:i-us.length=0:=by simp at h0;omega
  rw [h1] at ha;rw [<- h.1,h1] at hb;simp at ha hb;subst ha hb;exact hu
theorem All2.cons{α β:Type}{R:α->β->Prop}{us:List α}{l:List β}(h:All2 R us l){u:α}{x:β}(hu:R u x):All2 R (u::us) (x::l):=by
 refine⟨by simp [h.1],fun i a b ha hb=>?_⟩
 cases i with
 | zero=>simp at ha hb;subst ha hb;exact hu
 | succ i=>simp at ha hb;exact h.2 i a b ha hb
theorem All2.drop{α β:Type}{R:α->β->Prop}{us:List α}{l:List β}(h:All2 R us l)(k:Nat):All2 R (us.drop k) (l.drop k):=⟨by simp [h.1],fun i a b ha hb=>h.2 (k+i) a b (by simpa using ha) (by simpa using hb)⟩
theorem All2.append{α β:Type}{R:α->β->Prop}{us vs:List α}{l m:List β}(h:All2 R us l)(k:All2 R vs m):All2 R (us++vs) (l++m):=by
 refine⟨by simp [h.1,k.1],fun i a b ha hb=>?_⟩;by_cases hi:i<us.length
 ·rw [List.getElem?_append_left hi] at ha;rw [List.getElem?_append_left (by rw [<- h.1];exact hi)] at hb;exact h.2 i a b ha hb
 ·rw [List.getElem?_append_right (by omega)] at ha;rw [List.getElem?_append_right (by rw [<- h.1];omega),<-h.1] at hb;exact k.2 _ a b ha hb
theorem All2.at_{α β:Type}{R:α->β->Prop}{us:List α}{l:List β}(h:All2 R us l){x:β}(hx:l[i]?=some x):∃u,us[i]?=some u/\R u x:=by have hl:=(List.getElem?_eq_some_iff.1 hx).1;have:=List.getElem?_eq_getElem (l:=us) (i:=i) (by rw [h.1];exact hl);exact⟨_,this,h.2 i _ x this hx⟩
structure PairsAt(M:Nat->Prop)(w:World)(s:Sg)(ps:List (PV×PV)):Prop where
 len:s.pb.length=ps.length
 nodup:s.pb.Nodup
 at_:∀(i b:Nat)(p:PV×PV),s.pb[i]?=some b->ps[i]?=some p->¬M b/\∃x y,w.heap[b]?=some (.cells #[x,y] TPair (0,0))/\RV s x p.1/\RV s y p.2
theorem PairsAt.stp{s:Sg}{ps:List (PV×PV)}(h:PairsAt M w s ps)(hs:Stp M w M' w'):PairsAt M' w' s ps :=
 ⟨h.len,h.nodup,fun i b p hb hp=>by
  obtain⟨h1,x,y,h2,h3⟩:=h.at_ i b p hb hp;obtain⟨e1,e2⟩:=hs.block b (aB h2) h1
  exact⟨e2,x,y,e1.trans h2,h3⟩⟩
theorem PairsAt.le{s t:Sg}{ps:List (PV×PV)}(h:PairsAt M w s ps)(l:Sg.Le s t)(hp:t.pb=s.pb):PairsAt M w t ps :=
 ⟨by rw [hp];exact h.len,by rw [hp];exact h.nodup,fun i b p hb hq=>by
  obtain⟨h1,x,y,h2,h3,h4⟩:=h.at_ i b p (by rw [<- hp];exact hb) hq
  exact⟨h1,x,y,h2,h3.le l,h4.le l⟩⟩
def Sg.addPair(s:Sg)(b:Nat):Sg:={s with pb:=s.pb++[b]}
theorem Sg.addPair_le(s:Sg)(b:Nat):Sg.Le s (s.addPair b):=⟨rfl,rfl,List.prefix_append _ _,List.prefix_refl _,List.prefix_refl _,List.prefix_refl _,List.prefix_refl _⟩
theorem PairsAt.push{s:Sg}{ps:List (PV×PV)}(h:PairsAt M w s ps)(hM:∀k,M k->k<w.heap.size){x y:Value}{p:PV×PV}(hx:RV s x p.1)(hy:RV s y p.2) :PairsAt M (w.alloc (.cells #[x,y] TPair)) (s.addPair w.heap.size) (ps++[p])/\RV (s.addPair w.heap.size) (.iface 367 (.pointer (some ⟨w.heap.size,0,none⟩))) (.pair ps.length):=by
 have hlt:∀(i b:Nat),s.pb[i]?=some b->b<w.heap.size:=by intro i b hb;have hi:=(List.getElem?_eq_some_iff.1 hb).1;obtain⟨_,x,y,h2,_⟩:=h.at_ i b _ hb (List.getElem?_eq_getElem (by rw [<- h.len];exact hi));exact aB h2
 refine⟨⟨by simp [Sg.addPair,h.len],?_,?_⟩,.pair _ _ ?_⟩
 ·simp only [Sg.addPair,List.nodup_append];refine⟨h.nodup,by simp,?_⟩;rintro a ha b hb;rintro rfl;simp at hb;subst hb;obtain⟨i,hi⟩:=List.getElem?_of_mem ha;have:=hlt i _ hi;omega
 ·intro i b q hb hq;rcases Nat.lt_or_ge i ps.length with hi | hi
  ·rw [List.getElem?_append_left hi] at hq
   have hb0:s.pb[i]?=some b:=by
    have:=hb;simp only [Sg.addPair] at this
    rwa [List.getElem?_append_left (by rw [h.len];exact hi)] at this
   obtain⟨h1,x',y',h2,h3,h4⟩:=h.at_ i b q hb0 hq;exact⟨h1,x',y',(Below.heap_alloc w _ b (aB h2)).trans h2,h3.le (s.addPair_le _),h4.le (s.addPair_le _)⟩
  ·have h0:=(List.getElem?_eq_some_iff.1 hq).1;have hi0:i=ps.length:=by simp at h0;omega
   subst hi0;simp at hq;subst hq;have hb0:b=w.heap.size:=by have:=hb;simp only [Sg.addPair] at this;rw [<- h.len] at this;simpa using this.symm
   subst hb0;exact⟨fun hm=>by have:=hM _ hm;omega,x,y,heap_alloc_new w _,hx.le (s.addPair_le _),hy.le (s.addPair_le _)⟩
 ·simp only [Sg.addPair];rw [<- h.len];simp
def isQ:Pl.Tre->Bool
 | .agg _=>true
 | _=>false
def gU(s:Byt)(k:Nat):List Value:=[.string ⟨s.toArray⟩,.int .i64 (k:Int)]
def d7(ns:List Byt)(ks:List Nat):List Value:=(List.zip ns ks).flatMap fun p=>gU p.1 p.2
structure NmRow(M:Nat->Prop)(w:World)(s:Sg)(sl:Value)(ns:List Byt):Prop where
 ex:∃ks:List Nat,All2 (fun k t=>s.ns[k]?=some t) ks ns/\Sl M w TNam 2 sl ns.length (d7 ns ks)
 nodup:ns.Nodup
 len:ns.length<=1000
inductive RFm (M:Nat->Prop) (w:World) (s:Sg):Value->PF->Prop
 | const (x:Value) (q:Bool) (nm:Byt) (d:Pl.Tre) (v:PV) (ks:List PF) (ns:List Byt) (h:RV s x v) (hq:q=isQ d):RFm M w s (.iface 223 (.agg #[x,.bool q])) (.mk .const nm d v ks ns)
 | name (k:Nat) (nm:Byt) (d:Pl.Tre) (v:PV) (ks:List PF) (ns:List Byt) (h:s.ns[k]?=some nm):RFm M w s (.iface 214 (.agg #[.string ⟨nm.toArray⟩,.int .i64 (k:Int)])) (.mk .name nm d v ks ns)
 | iff (a b c:Value) (x y z:PF) (nm:Byt) (d:Pl.Tre) (v:PV) (ns:List Byt) (h1:RFm M w s a x) (h2:RFm M w s b y) (h3:RFm M w s c z):RFm M w s (.iface 335 (.agg #[a,b,c])) (.mk .iff nm d v [x,y,z] ns)
 | begin (sl:Value) (us:List Value) (nm:Byt) (d:Pl.Tre) (v:PV) (ks:List PF) (ns:List Byt) (h1:Sl M w TForm 1 sl ks.length us) (h2:us.length=ks.length) (h3:∀(i:Nat)(u:Value)(x:PF),us[i]?=some u->ks[i]?=some x->RFm M w s u x) (h4:1<=ks.length) (h5:ks.length<=2000):RFm M w s (.iface 347 (.agg #[sl])) (.mk .begin nm d v ks ns)
 | call (sl:Value) (us:List Value) (nm:Byt) (d:Pl.Tre) (v:PV) (ks:List PF) (ns:List Byt) (h1:Sl M w TForm 1 sl ks.length us) (h2:us.length=ks.length) (h3:∀(i:Nat)(u:Value)(x:PF),us[i]?=some u->ks[i]?=some x->RFm M w s u x) (h4:1<=ks.length) (h5:ks.length<=2000):RFm M w s (.iface 349 (.agg #[sl])) (.mk .call nm d v ks ns)
 | set (k:Nat) (a:Value) (x:PF) (nm:Byt) (d:Pl.Tre) (v:PV) (ns:List Byt) (h:s.ns[k]?=some nm) (h1:RFm M w s a x):RFm M w s (.iface 340 (.agg #[.string ⟨nm.toArray⟩,.int .i64 (k:Int),a])) (.mk .set nm d v [x] ns)
 | define (k:Nat) (a:Value) (x:PF) (nm:Byt) (d:Pl.Tre) (v:PV) (ns:List Byt) (h:s.ns[k]?=some nm) (h1:RFm M w s a x):RFm M w s (.iface 218 (.agg #[.string ⟨nm.toArray⟩,.int .i64 (k:Int),a])) (.mk .define nm d v [x] ns)
 | lambda (sl a:Value) (x:PF) (nm:Byt) (d:Pl.Tre) (v:PV) (ns:List Byt) (h1:NmRow M w s sl ns) (h2:RFm M w s a x):RFm M w s (.iface 329 (.agg #[sl,a])) (.mk .lambda nm d v [x] ns)
theorem NmRow.go{s t:Sg}{sl:Value}{ns:List Byt}(h:NmRow M w s sl ns)(hs:Stp M w M' w')(l:Sg.Le s t):NmRow M' w' t sl ns:=by obtain⟨⟨ks,h1,h2⟩,h3,h4⟩:=h;exact⟨⟨ks,h1.mono (fun k t ht=>bS l.ns ht),h2.stp hs⟩,h3,h4⟩
theorem RFm.go{s t:Sg}(hs:Stp M w M' w')(l:Sg.Le s t){f:PF}(h:RFm M w s v f):RFm M' w' t v f:=by
 induction h with
 | const x q nm d v ks ns h hq=>exact .const x q nm d v ks ns (h.le l) hq
 | name k nm d v ks ns h=>exact .name k nm d v ks ns (bS l.ns h)
 | iff a b c x y z nm d v ns _ _ _ i1 i2 i3=>exact .iff a b c x y z nm d v ns i1 i2 i3
 | begin sl us nm d v ks ns h1 h2 _ h4 h5 ih=>exact .begin sl us nm d v ks ns (h1.stp hs) h2 ih h4 h5
 | call sl us nm d v ks ns h1 h2 _ h4 h5 ih=>exact .call sl us nm d v ks ns (h1.stp hs) h2 ih h4 h5
 | set k a x nm d v ns h _ ih=>exact .set k a x nm d v ns (bS l.ns h) ih
 | define k a x nm d v ns h _ ih=>exact .define k a x nm d v ns (bS l.ns h) ih
 | lambda sl a x nm d v ns h1 _ ih=>exact .lambda sl a x nm d v ns (h1.go hs l) ih
theorem Sl.weaken{T:TypeId}{sz:Nat}{n:Nat}{xs:List Value}(hm:∀k,M' k->M k)(h:Sl M w T sz v n xs):Sl M' w T sz v n xs:=by obtain⟨h0,ao,cap,e,h2,h3⟩:=h;refine⟨h0,ao,cap,e,h2,h3.imp id ?_⟩;rintro⟨g,off,cur,rfl,hn,r⟩;exact⟨g,off,cur,rfl,fun x=>hn (hm g x),r⟩
theorem NmRow.weaken{s:Sg}{sl:Value}{ns:List Byt}(hm:∀k,M' k->M k)(h:NmRow M w s sl ns):NmRow M' w s sl ns:=by obtain⟨⟨ks,h1,h2⟩,h3,h4⟩:=h;exact⟨⟨ks,h1,h2.weaken hm⟩,h3,h4⟩
theorem RFm.weaken{s:Sg}(hm:∀k,M' k->M k){f:PF}(h:RFm M w s v f):RFm M' w s v f:=by
 induction h with
 | const x q nm d v ks ns h hq=>exact .const x q nm d v ks ns h hq
 | name k nm d v ks ns h=>exact .name k nm d v ks ns h
 | iff a b c x y z nm d v ns _ _ _ i1 i2 i3=>exact .iff a b c x y z nm d v ns i1 i2 i3
 | begin sl us nm d v ks ns h1 h2 _ h4 h5 ih=>exact .begin sl us nm d v ks ns (h1.weaken hm) h2 ih h4 h5
 | call sl us nm d v ks ns h1 h2 _ h4 h5 ih=>exact .call sl us nm d v ks ns (h1.weaken hm) h2 ih h4 h5
 | set k a x nm d v ns h _ ih=>exact .set k a x nm d v ns h ih
 | define k a x nm d v ns h _ ih=>exact .define k a x nm d v ns h ih
 | lambda sl a x nm d v ns h1 _ ih=>exact .lambda sl a x nm d v ns (h1.weaken hm) ih
theorem PairsAt.weaken{s:Sg}{ps:List (PV×PV)}(hm:∀k,M' k->M k)(h:PairsAt M w s ps):PairsAt M' w s ps :=⟨h.len,h.nodup,fun i b p hb hp=>⟨fun x=>(h.at_ i b p hb hp).1 (hm b x),(h.at_ i b p hb hp).2⟩⟩
theorem RFm.iface{s:Sg}{f:PF}(h:RFm M w s v f):∃T x,v=.iface T x:=by cases h<;>exact⟨_,_,rfl⟩
end
end Go.Proofs.YtkgbdddkcjpgfaaGreatDoor
