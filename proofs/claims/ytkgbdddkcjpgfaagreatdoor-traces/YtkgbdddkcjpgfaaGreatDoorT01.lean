import Derived.Below
import GoSem.ClaimWide
import Derived.Lib.ItoaNum
namespace Go.Proofs.YtkgbdddkcjpgfaaGreatDoor
section
open Go.RowKit
variable {n i k:Nat} {w:World}
theorem h_{p:Prop}(h:p):Hid p:=h
theorem n_:n<=n:=Nat.le_refl n
theorem r_{B:Nat}:Below B w w:=Below.refl B w
theorem b_{o:Obj}:Below w.heap.size w (w.alloc o):=(Below.refl _ _).alloc (Nat.le_refl _) o
theorem i_{α:Type}{a b:α}(h:some a=some b):a=b:=Option.some.inj h
theorem s_{α:Type}{l:List α}{a:α}(h:l[i]?=some a):∃h:i<l.length,l[i]=a:=List.getElem?_eq_some_iff.1 h
theorem g_{α:Type}{l:List α}(h:i<l.length):l[i]?=some l[i]:=List.getElem?_eq_getElem h
theorem l_{m:Nat}(a:n<m)(b:m<=k):n<k:=Nat.lt_of_lt_of_le a b
theorem t_{m:Nat}(a:n<=m)(b:m<=k):n<=k:=Nat.le_trans a b
theorem c_{α:Type}{a:α}{as:List α}:(a::as).length=as.length+1:=List.length_cons
theorem a_{α:Type}{as bs:List α}:(as++bs).length=as.length+bs.length:=List.length_append
theorem z_{α:Type}:([]:List α).length=0:=List.length_nil
theorem o_{α:Type}(a b:α):(some a=some b)=(a=b):=Option.some.injEq a b
theorem e_{α:Type}{l:List α}(h:l.length=0):l=[]:=List.eq_nil_of_length_eq_zero h
theorem m_{α β:Type}{f:α->β}{x:Option α}{b:β}(h:x.map f=some b):∃a,x=some a/\f a=b:=Option.map_eq_some_iff.1 h
theorem q_{α:Type}{l:List α}{a:α}(h:l[i]?=some a):a∈l:=List.mem_of_getElem? h
theorem k_{o:Obj}(h:k<w.heap.size):(w.alloc o).heap[k]?=w.heap[k]? := Below.heap_alloc w o k h
end
section
variable {l:List UInt8} {pre:List (List UInt8)} {dp:Nat} {gr:Bool}
namespace Pl
def A3(c:UInt8):Bool:=decide (48<=c.toNat)&&decide (c.toNat<=57)
def EZ:List UInt8:=[43,45,42,47,60,61,62,63,33]
def low(c:UInt8):Bool:=decide (97<=c.toNat)&&decide (c.toNat<=122)
def CV(c:UInt8):Bool:=decide (c∈EZ)||(low c||A3 c)
theorem QM(c:UInt8)(a:(97:Int)<=c.toNat)(b:(c.toNat:Int)<=122):low c=true:=by simp [low];omega
theorem PM(c:UInt8)(h:¬((97:Int)<=c.toNat/\(c.toNat:Int)<=122)):low c=false:=by simp only [low,Bool.and_eq_false_iff,decide_eq_false_iff_not];omega
theorem T7(c:UInt8)(h:c∈EZ):CV c=true:=by simp [CV,h]
theorem T8(c:UInt8)(h:c∉EZ):CV c=(low c||A3 c):=by simp [CV,h]
theorem CR(a b:UInt8):((a.toNat:Int)==(b.toNat:Int))=(a==b):=by
 by_cases h:a=b
 ·subst h;simp
 ·have:¬(a.toNat:Int)=b.toNat:=fun e=>h (UInt8.toNat_inj.1 (by omega));rw [beq_eq_false_iff_ne.2 this,beq_eq_false_iff_ne.2 h]
theorem MB{α:Type}(l:List α)(c:α)(k:Nat)(h:k<l.length)(a:c∉l.take k)(b:¬l[k]=c):c∉l.take (k+1):=by rw [List.take_succ_eq_append_getElem h];simp only [List.mem_append,List.mem_singleton,not_or];exact⟨a,fun e=>b e.symm⟩
end Pl
namespace Pl
def blank(c:UInt8):Bool:=c==32||c==10
def H5(c:UInt8):Bool:=c==40||c==41||c==39
def KO:Nat->List UInt8->Option (List (List UInt8))
 | 0,_=>some []
 | _+1,[]=>some []
 | n+1,c::r =>
  if blank c then KO n r
  else if c==35 then
   match r with
   | []=>none
   | d::q=>if d==116||d==102 then(KO n q).map ([c,d]::·) else none
  else if CV c then(KO n (r.dropWhile CV)).map ((c::r.takeWhile CV)::·)
  else if H5 c then(KO n r).map ([c]::·)
  else none
theorem eQ(p:UInt8->Bool)(l:List UInt8):(l.dropWhile p).length<=l.length:=(List.dropWhile_sublist p).length_le
theorem eT:∀(n m:Nat)(l:List UInt8),l.length<=n->l.length<=m->KO n l=KO m l
 | 0,0,_,_,_=>rfl
 | 0,m+1,[],_,_=>rfl
 | 0,m+1,_::_,h,_=>by simp at h
 | n+1,0,[],_,_=>rfl
 | n+1,0,_::_,_,h=>by simp at h
 | n+1,m+1,[],_,_=>rfl
 | n+1,m+1,c::r,a,b=>by
  simp only [c_] at a b;have e:=eT n m r (by omega) (by omega);have g:=eQ CV r;have f:=eT n m (r.dropWhile CV) (by omega) (by omega);unfold KO;rw [e,f]
  cases r with
  | nil=>rfl
  | cons d q =>simp only [c_] at a b;dsimp only;rw [eT n m q (by omega) (by omega)]
def BX(l:List UInt8):Option (List (List UInt8)):=KO l.length l
theorem lB(n:Nat)(l:List UInt8)(h:l.length<=n):KO n l=BX l:=eT _ _ _ h n_
theorem wX:BX []=some []:=rfl
theorem rN(c:UInt8)(r:List UInt8)(h:blank c=true):BX (c::r)=BX r:=by simp [BX,KO,h]
theorem KY:BX [35]=none:=by decide
theorem MA(d:UInt8)(q:List UInt8)(h:(d==116||d==102)=true):BX (35::d::q)=(BX q).map ([35,d]::·):=by
 have a:blank 35=false:=by decide
 show KO (q.length+1+1) (35::d::q)=_;unfold KO;dsimp only;rw [lB _ q (by omega)];simp only [a,h];rfl
theorem J3(d:UInt8)(q:List UInt8)(h:(d==116||d==102)=false):BX (35::d::q)=none:=by
 have a:blank 35=false:=by decide
 show KO (q.length+1+1) (35::d::q)=_;unfold KO;simp only [a,h];rfl
theorem pN(c:UInt8)(h:CV c=true):blank c=false/\(c==35)=false:=by
 by_cases a:blank c=true
 ·simp only [blank,Bool.or_eq_true,beq_iff_eq] at a;rcases a with rfl | rfl<;>exact absurd h (by decide)
 ·refine⟨by simpa using a,?_⟩;by_cases b:c=35
  ·subst b;exact absurd h (by decide)
  ·simpa using b
theorem L9(c:UInt8)(r:List UInt8)(h:CV c=true):BX (c::r)=(BX (r.dropWhile CV)).map ((c::r.takeWhile CV)::·):=by obtain⟨a,b⟩:=pN c h;show KO (r.length+1) (c::r)=_;unfold KO;rw [lB _ (r.dropWhile CV) (eQ _ _)];simp [a,b,h]
theorem KX(c:UInt8)(r:List UInt8)(b:CV c=false)(h:H5 c=true):BX (c::r)=(BX r).map ([c]::·):=by
 have a:blank c=false/\(c==35)=false:=by simp only [H5,Bool.or_eq_true,beq_iff_eq] at h;rcases h with(rfl | rfl) | rfl<;>decide
 show KO (r.length+1) (c::r)=_;unfold KO;rw [lB _ r n_];simp [a.1,a.2,h,b]
theorem NL(c:UInt8)(r:List UInt8)(a:blank c=false)(b:(c==35)=false)(d:CV c=false)(e:H5 c=false):BX (c::r)=none:=by show KO (r.length+1) (c::r)=_;unfold KO;simp [a,b,d,e]
def DO(l:List UInt8)(pre:List (List UInt8))(k:Nat):Prop:=BX l=(BX (l.drop k)).map (pre++·)
theorem DO.start(l:List UInt8):DO l [] 0:=by unfold DO;simp
theorem DO.end_{k:Nat}(h:DO l pre k)(a:l.length<=k):BX l=some pre:=by rw [h,List.drop_of_length_le a,wX];simp
theorem EN{α:Type}(l:List α)(k:Nat)(h:k<l.length):l.drop k=l[k]::l.drop (k+1):=List.drop_eq_getElem_cons h
theorem DO.blank{k:Nat}(h:DO l pre k)(a:k<l.length)(b:Pl.blank l[k]=true):DO l pre (k+1):=by unfold DO at *;rw [h,EN l k a,rN _ _ b]
theorem DO.none_{k:Nat}(h:DO l pre k)(a:BX (l.drop k)=none):BX l=none:=by rw [h,a];rfl
theorem DO.more{k m:Nat}{t:List UInt8}(h:DO l pre k)(a:BX (l.drop k)=(BX (l.drop m)).map (t::·)):DO l (pre++[t]) m:=by
 unfold DO at *;rw [h,a]
 cases BX (l.drop m)<;>simp
theorem G8(p:UInt8->Bool):∀(l:List UInt8)(m:Nat),m<=l.length->(∀j (h:j<l.length),j<m->p l[j]=true)->(∀h:m<l.length,p (l[m])=false)->l.takeWhile p=l.take m/\l.dropWhile p=l.drop m
 | [],m,_,_,_=>by simp
 | c::r,0,_,_,a=>by have:=a (by simp);simp at this;simp [List.takeWhile,List.dropWhile,this]
 | c::r,m+1,e,b,a=>by have f:p c=true:=b 0 (by simp) (by omega);have d:=G8 p r m (by simpa using e) (fun j h g=>by have:=b (j+1) (by simpa using h) (by omega);simpa using this) (fun h=>by have:=a (by simpa using h);simpa using this);simp [List.takeWhile,List.dropWhile,f,d.1,d.2]
theorem DO.word{k m:Nat}(h:DO l pre k)(c:k<l.length)(d:CV l[k]=true)(f:k+1<=m)(r:m<=l.length)
  (g:∀j (h:j<l.length),k<j->j<m->CV l[j]=true) (i:∀h:m<l.length,CV l[m]=false):DO l (pre++[(l.drop k).take (m-k)]) m:=by
 refine h.more ?_;have n:=EN l k c
 have b:=G8 CV (l.drop (k+1)) (m-(k+1)) (by simp;omega)
  (fun j a o=>by
   rw [List.getElem_drop]
   exact g _ (by simp at a;omega) (by omega) (by omega))
  (fun a=>by
   rw [List.getElem_drop];have e:k+1+(m-(k+1))=m:=by omega
   simp only [e]
   exact i (by simp at a;omega))
 rw [n,L9 _ _ d,b.1,b.2];have p:m-k=(m-(k+1))+1:=by omega
 have q:List.drop (m-(k+1)) (List.drop (k+1) l)=l.drop m:=by rw [List.drop_drop];congr 1;omega
 rw [p,q,List.take_succ_cons]
end Pl
namespace Pl
def CG:Nat:=1099511627776
def minus(w:List UInt8):Bool:=decide (1<w.length)&&(w.headD 0==45)
def EY(w:List UInt8):List UInt8:=if minus w then w.drop 1 else w
def isNum(w:List UInt8):Bool:=(EY w).all A3
def DZ(w:List UInt8):Bool:=w.all (fun c=>!A3 c)
def F5(ds:List UInt8):Nat:=ds.foldl (fun a c=>10*a+(c.toNat-48)) 0
def F3(w:List UInt8):Int:=if minus w then -(F5 (EY w):Int) else(F5 (EY w):Int)
def ER(w:List UInt8):Bool:=decide (CG<F5 (EY w))
def KZ(a:Nat×Bool)(c:UInt8):Nat×Bool:=if CG<10*a.1+(c.toNat-48) then(0,true) else(10*a.1+(c.toNat-48),a.2)
def ES(ds:List UInt8):Nat×Bool:=ds.foldl KZ (0,false)
theorem vR(a:List UInt8)(c:UInt8):F5 (a++[c])=10*F5 a+(c.toNat-48):=by simp [F5]
theorem K4(a:List UInt8)(c:UInt8):ES (a++[c])=KZ (ES a) c:=by simp [ES]
theorem UI(d:List UInt8):(ES d).1<=CG:=by
 have b:∀(r:List UInt8)(a:Nat×Bool),a.1<=CG->(r.foldl KZ a).1<=CG:=by
  intro r
  induction r with
  | nil=>intro a h;exact h
  | cons c r e =>
   intro a h;refine e _ ?_;unfold KZ;split
   ·simp
   ·simp only;omega
 exact b d (0,false) (by simp)
theorem jS:∀(n:Nat)(a:List UInt8),a.length=n->(F5 a<=CG->ES a=(F5 a,false))/\(CG<F5 a->(ES a).2=true)
 | 0,a,h=>by obtain rfl:=e_ h;exact⟨fun _=>rfl,fun h=>by simp [F5] at h⟩
 | n+1,a,h=>by
  have b:a≠[]:=fun e=>by simp [e] at h
  obtain⟨r,c,rfl⟩:∃r c,a=r++[c]:=⟨a.dropLast,a.getLast b,(List.dropLast_concat_getLast b).symm⟩
  have d:=jS n r (by simpa using h);rw [vR,K4];by_cases g:F5 r<=CG
  ·rw [d.1 g];unfold KZ;constructor
   ·intro f;simp only;rw [if_neg (by omega)]
   ·intro f;simp only;rw [if_pos (by omega)]
  ·have i:=d.2 (by omega);constructor
   ·intro f;omega
   ·intro _;unfold KZ;split
    ·rfl
    ·exact i
theorem OA(a:List UInt8):(ES a).2=decide (CG<F5 a):=by
 have h:=jS _ a rfl;by_cases b:F5 a<=CG
 ·rw [h.1 b];simp;omega
 ·rw [h.2 (by omega)];simp;omega
theorem MF(a:List UInt8)(h:F5 a<=CG):(ES a).1=F5 a:=by rw [(jS _ a rfl).1 h]
theorem RA(l:List UInt8)(k:Nat)(h:k<l.length):l.take (k+1)=l.take k++[l[k]]:=List.take_succ_eq_append_getElem h
theorem I2{p:UInt8->Bool}(l:List UInt8)(h:∀j (h:j<l.length),p l[j]=true):l.all p=true:=by rw [List.all_eq_true];intro x a;obtain⟨j,b,rfl⟩:=List.getElem_of_mem a;exact h j b
theorem GJ{p:UInt8->Bool}(l:List UInt8)(j:Nat)(a:j<l.length)(h:p l[j]=false):l.all p=false:=by rw [List.all_eq_false];exact⟨l[j],List.getElem_mem _,by simp [h]⟩
theorem K2(c:UInt8)(h:A3 c=true):48<=c.toNat/\c.toNat<=57:=by simpa [A3] using h
theorem ZG{p:UInt8->Bool}(l:List UInt8)(h:l.all p=true)(j:Nat)(a:j<l.length):p l[j]=true:=List.all_eq_true.1 h _ (List.getElem_mem _)
theorem K3(l:List UInt8)(h:0<l.length):l.headD 0=l[0]:=by cases l<;>simp at h ⊢
end Pl
namespace Pl
abbrev Tok:=List UInt8
abbrev A9:=DataW Unit
def SL:Tok:=[40]
def g8:Tok:=[41]
def tN:Tok:=[39]
def SK:Tok:=[35,116]
def tO:Tok:=[35,102]
def CB:List UInt8:=[113,117,111,116,101]
structure PR where
 t:A9
 q:List Tok
 dp:Nat
 gr:Bool
structure PL where
 ts:List A9
 q:List Tok
 dp:Nat
 gr:Bool
def pw(t:Tok):Option (A9×Bool) :=if isNum t then some (.lit (.int .i64 (F3 t)),ER t) else if DZ t then some (.lit (.string t),false) else none
def IG(f:List Tok->Option PR):Nat->List Tok->Option PL
 | 0,_=>none
 | _+1,[]=>none
 | k+1,t::r =>
  if t=g8 then some ⟨[],r,0,false⟩
  else match f (t::r) with
   | none=>none
   | some p=>(IG f k p.q).map fun l=>⟨p.t::l.ts,l.q,max p.dp l.dp,p.gr||l.gr⟩
theorem I9(f:List Tok->Option PR)(k:Nat)(t:Tok)(r:List Tok):IG f (k+1) (t::r)=if t=g8 then some ⟨[],r,0,false⟩ else match f (t::r) with
  | none=>none
  | some p=>(IG f k p.q).map fun l=>⟨p.t::l.ts,l.q,max p.dp l.dp,p.gr||l.gr⟩:=rfl
def pd:Nat->List Tok->Option PR
 | 0,_=>none
 | _+1,[]=>none
 | n+1,t::r =>
  if t=g8 then none
  else if t=SK then some ⟨.lit (.bool true),r,0,false⟩
  else if t=tO then some ⟨.lit (.bool false),r,0,false⟩
  else if t=tN then(pd n r).map fun p=>⟨.agg [.lit (.string CB),p.t],p.q,p.dp+1,p.gr⟩
  else if t=SL then(IG (pd n) r.length r).map fun p=>⟨.agg p.ts,p.q,p.dp+1,p.gr⟩
  else(pw t).map fun p=>⟨p.1,r,0,p.2⟩
theorem NR(n:Nat)(t:Tok)(r:List Tok)(h:t=[41]):pd (n+1) (t::r)=none:=by subst h;rfl
theorem QK(n:Nat)(t:Tok)(r:List Tok)(h:t=[35,116]):pd (n+1) (t::r)=some ⟨.lit (.bool true),r,0,false⟩:=by subst h;rfl
theorem NQ(n:Nat)(t:Tok)(r:List Tok)(h:t=[35,102]):pd (n+1) (t::r)=some ⟨.lit (.bool false),r,0,false⟩:=by subst h;rfl
theorem H6(n:Nat)(t:Tok)(r:List Tok)(h:t=[39]):pd (n+1) (t::r)=(pd n r).map fun p=>⟨.agg [.lit (.string CB),p.t],p.q,p.dp+1,p.gr⟩:=by subst h;rfl
theorem GH(n:Nat)(t:Tok)(r:List Tok)(h:t=[40]):pd (n+1) (t::r)=(IG (pd n) r.length r).map fun p=>⟨.agg p.ts,p.q,p.dp+1,p.gr⟩:=by subst h;rfl
theorem QJ(n:Nat)(t:Tok)(r:List Tok)(a:¬t=[41])(b:¬t=[35,116])(c:¬t=[35,102])(d:¬t=[39])(e:¬t=[40]):pd (n+1) (t::r)=(pw t).map fun p=>⟨p.1,r,0,p.2⟩:=by show(if t=g8 then none else if t=SK then _ else if t=tO then _ else if t=tN then _ else if t=SL then _ else _)=_;rw [if_neg (show ¬t=g8 from a),if_neg (show ¬t=SK from b),if_neg (show ¬t=tO from c),if_neg (show ¬t=tN from d),if_neg (show ¬t=SL from e)]
def I3(q l:List Tok):Prop:=q <:+ l/\q.length<l.length
theorem I3.cons(t:Tok)(r:List Tok):I3 r (t::r):=⟨List.suffix_cons t r,by simp⟩
theorem I3.trans{a b c:List Tok}(h:I3 a b)(k:I3 b c):I3 a c:=⟨h.1.trans k.1,by have:=h.2;have:=k.2;omega⟩
theorem qL(f:List Tok->Option PR)(b:∀l p,f l=some p->I3 p.q l):∀(k:Nat)(l:List Tok)(p:PL),IG f k l=some p->I3 p.q l
 | 0,_,_,h=>by simp [IG] at h
 | _+1,[],_,h=>by simp [IG] at h
 | k+1,t::r,p,h=>by
  unfold IG at h;split at h
  ·obtain rfl:=i_ h;exact I3.cons t r
  ·cases a:f (t::r) with
   | none=>rw [a] at h;simp at h
   | some c =>rw [a] at h;simp only [Option.map_eq_some_iff] at h;obtain⟨l,d,rfl⟩:=h;exact(qL f b k c.q l d).trans (b _ _ a)
theorem FI:∀(n:Nat)(l:List Tok)(p:PR),pd n l=some p->I3 p.q l
 | 0,_,_,h=>by simp [pd] at h
 | _+1,[],_,h=>by simp [pd] at h
 | n+1,t::r,p,h=>by
  unfold pd at h;split at h
  ·simp at h
  split at h
  ·obtain rfl:=i_ h;exact I3.cons t r
  split at h
  ·obtain rfl:=i_ h;exact I3.cons t r
  split at h
  ·simp only [Option.map_eq_some_iff] at h;obtain⟨a,b,rfl⟩:=h;exact(FI n r a b).trans (I3.cons t r)
  split at h
  ·simp only [Option.map_eq_some_iff] at h;obtain⟨a,b,rfl⟩:=h;exact(qL (pd n) (FI n) _ r a b).trans (I3.cons t r)
  ·simp only [Option.map_eq_some_iff] at h;obtain⟨a,b,rfl⟩:=h;exact I3.cons t r
def LF(f:List Tok->Option PR)(r0:List Tok)(ts:List A9)(dp:Nat)(gr:Bool)(q:List Tok):Prop :=∃k,q.length<=k/\IG f r0.length r0=(IG f k q).map fun l=>⟨ts++l.ts,l.q,max dp l.dp,gr||l.gr⟩
theorem LF.start(f:List Tok->Option PR)(a:List Tok):LF f a [] 0 false a:=⟨a.length,n_,by cases IG f a.length a<;>simp⟩
theorem LF.close{f:List Tok->Option PR}{a:List Tok}{b:List A9}{r:List Tok}(h:LF f a b dp gr (g8::r)):IG f a.length a=some ⟨b,r,dp,gr⟩:=by
 obtain⟨k,c,h⟩:=h
 cases k with
 | zero=>simp at c
 | succ k=>rw [h];unfold IG;simp
theorem LF.none_{f:List Tok->Option PR}{a:List Tok}{b:List A9}(h:LF f a b dp gr []):IG f a.length a=none:=by
 obtain⟨k,c,h⟩:=h;rw [h]
 cases k<;>simp [IG]
theorem LF.fail{f:List Tok->Option PR}{a:List Tok}{b:List A9}{t:Tok}{r:List Tok}(h:LF f a b dp gr (t::r))(c:¬t=g8)(d:f (t::r)=none):IG f a.length a=none:=by
 obtain⟨k,e,h⟩:=h
 cases k with
 | zero=>simp at e
 | succ k=>rw [h];unfold IG;simp [c,d]
theorem LF.more{f:List Tok->Option PR}{a:List Tok}{b:List A9}{t:Tok}{r:List Tok}{p:PR}(h:LF f a b dp gr (t::r))(d:¬t=g8)(e:f (t::r)=some p)(g:p.q.length<(t::r).length):LF f a (b++[p.t]) (max dp p.dp) (gr||p.gr) p.q:=by
 obtain⟨k,c,h⟩:=h
 cases k with
 | zero=>simp at c
 | succ k =>
  simp only [c_] at c g;refine⟨k,by omega,?_⟩;rw [h,I9,if_neg d,e];dsimp only
  cases IG f k p.q<;>simp [Nat.max_assoc,Bool.or_assoc]
theorem E9{a l:List Tok}{t:Tok}{r:List Tok}(h:l <:+ a)(b:l=t::r):∃d:a.length-l.length<a.length,a[a.length-l.length]=t:=by subst b;obtain⟨c,rfl⟩:=h;refine⟨by simp,?_⟩;simp
end Pl
namespace Pl
def VN:List UInt8:=[105,102]
def C3:List UInt8:=[108,97,109,98,100,97]
def LR:List UInt8:=[115,101,116,33]
def CK:List UInt8:=[100,101,102,105,110,101]
def FX:List UInt8:=[98,101,103,105,110]
def N4:List UInt8:=[108,101,116]
def RZ:List (List UInt8):=[CB,VN,C3,LR,CK,FX,N4]
def EE(s:List UInt8):Bool:=decide (s∈RZ)
def isName:A9->Bool
 | .lit (.string s)=>!EE s
 | _=>false
def strOf:A9->List UInt8
 | .lit (.string s)=>s
 | _=>[]
def CJ(l:List A9):Bool:=l.all isName&&decide ((l.map strOf).Nodup)
def BI:A9->Bool
 | .agg [_,_]=>true
 | _=>false
def DC:A9->A9
 | .agg (a::_)=>a
 | _=>.nil
def BU:A9->A9
 | .agg (_::b::_)=>b
 | _=>.nil
def D_(f:A9->Bool)(ns body:A9):Bool :=
 match ns with
 | .agg l=>CJ l&&f body
 | _=>false
def C_(f:A9->Bool)(ps body:A9):Bool :=
 match ps with
 | .agg l=>l.all BI&&(CJ (l.map DC)&&f body)&&(l.map BU).all f
 | _=>false
def OI(f:A9->Bool)(r:List A9):Bool :=
 match r with
 | [n,e]=>isName n&&f e
 | _=>false
def lam2(f:A9->Bool)(r:List A9):Bool :=
 match r with
 | [n,e]=>D_ f n e
 | _=>false
def let2(f:A9->Bool)(r:List A9):Bool :=
 match r with
 | [n,e]=>C_ f n e
 | _=>false
def KS(f:A9->Bool)(h:List UInt8)(r:List A9):Bool :=
 if h=CB then r.length==1
 else if h=VN then r.length==3&&r.all f
 else if h=FX then !r.isEmpty&&r.all f
 else if h=LR then OI f r
 else if h=C3 then lam2 f r
 else if h=N4 then let2 f r
 else false
def BJ:List A9->Option (List UInt8)
 | .lit (.string h)::_=>if EE h then some h else none
 | _=>none
def F7(f:A9->Bool)(ks:List A9):Bool :=
 match ks with
 | []=>false
 | k::r=>match BJ (k::r) with
  | some h=>KS f h r
  | none=>f k&&r.all f
def C4:Nat->A9->Bool
 | 0,_=>false
 | n+1,t=>match t with
  | .lit (.int _ _)=>true
  | .lit (.bool _)=>true
  | .lit (.string s)=>!EE s
  | .agg ks=>F7 (C4 n) ks
  | _=>false
def GY(n:Nat)(t:A9):Bool :=
 match t with
 | .agg (.lit (.string h)::r)=>if h=CK then OI (C4 n) r else C4 (n+1) t
 | _=>C4 (n+1) t
theorem IH(s:List UInt8):EE s=true↔s∈RZ:=by simp [EE]
end Pl
namespace Pl
abbrev AE:=List UInt8
inductive PV where
 | num (n:Int)
 | AT (b:Bool)
 | name (s:AE)
 | empty
 | nothing
 | pair (n:Nat)
 | proc (n:Nat)
 | cont (n:Nat)
 | AZ (s:AE)
 deriving DecidableEq
inductive FK where
 | const
 | name
 | iff
 | set
 | define
 | lambda
 | begin
 | call
 deriving DecidableEq
inductive PF where
 | mk (k:FK) (nm:AE) (d:A9) (v:PV) (ks:List PF) (ns:List AE)
namespace PF
def k:PF->FK
 | .mk k _ _ _ _ _=>k
def nm:PF->AE
 | .mk _ nm _ _ _ _=>nm
def d:PF->A9
 | .mk _ _ d _ _ _=>d
def v:PF->PV
 | .mk _ _ _ v _ _=>v
def ks:PF->List PF
 | .mk _ _ _ _ ks _=>ks
def ns:PF->List AE
 | .mk _ _ _ _ _ ns=>ns
end PF
abbrev Env:=List (AE×Nat)
structure CW where
 form:PF
 B8:List PV
 pos:Nat
 env:Env
structure PW where
 pairs:List (PV×PV)
 procs:List (PF×Env)
 AG:List (List CW)
 places:List PV
 globals:Env
 out:AE
structure PS where
 form:Option PF
 env:Env
 val:PV
 AB:List CW
structure SR where
 e:Nat
 W:PW
 S:PS
def find:Env->AE->Option Nat
 | [],_=>none
 | b::r,s=>match find r s with
  | some k=>some k
  | none=>if b.1=s then some b.2 else none
theorem FJ(a b:Env)(s:AE):find (a++b) s=match find b s with
  | some k=>some k
  | none=>find a s:=by
 induction a with
 | nil=>simp only [List.nil_append];cases find b s<;>rfl
 | cons x a c =>
  simp only [List.cons_append,find,c]
  cases find b s<;>rfl
def DL(W:PW)(env:Env)(s:AE):Option Nat:=match find env s with
 | some k=>some k
 | none=>find W.globals s
def bind(W:PW)(s:AE)(v:PV):PW:=match find W.globals s with
 | some k=>{W with places:=W.places.set k v}
 | none=>{W with places:=W.places++[v],globals:=W.globals++[(s,W.places.length)]}
def PS.A1(S:PS)(v:PV):PS:={S with form:=none,val:=v}
def PS.work(S:PS)(f:Option PF)(env:Env):PS:={S with form:=f,env:=env}
def PS.push(S:PS)(f:CW):PS:={S with AB:=f::S.AB}
def C1(l:List AE)(n:Nat):Env:=match l with
 | []=>[]
 | s::r=>(s,n)::C1 r (n+1)
theorem NS(a b:List AE)(n:Nat):C1 (a++b) n=C1 a n++C1 b (n+a.length):=by
 induction a generalizing n with
 | nil=>rfl
 | cons x a c =>simp only [List.cons_append,C1,c,c_];rw [show n+1+a.length=n+(a.length+1) from by omega]
def itoa(n:Int):AE:=Lib.itoa n
def J6:AE:=[35,112,114,111,99,101,100,117,114,101]
def OF:PV->AE
 | .num n=>itoa n
 | .AT b=>if b then [35,116] else [35,102]
 | .name s=>s
 | .empty=>[40,41]
 | .nothing=>[]
 | .pair _=>[]
 | _=>J6
mutual
def KW(ps:List (PV×PV)):Nat->PV->AE
 | 0,_=>[]
 | n+1,.pair i=>match ps[i]? with
  | some p=>40::(KW ps n p.1++j8 ps n p.2)
  | none=>[]
 | _+1,v=>OF v
def j8(ps:List (PV×PV)):Nat->PV->AE
 | 0,_=>[]
 | n+1,.pair i=>match ps[i]? with
  | some p=>32::(KW ps n p.1++j8 ps n p.2)
  | none=>[]
 | _+1,.empty=>[41]
 | _+1,v=>[32,46,32]++OF v++[41]
end
def B7:PV->Nat
 | .pair i=>i+1
 | _=>0
def text(ps:List (PV×PV))(v:PV):AE:=KW ps (B7 v+1) v
def cut(s:AE):AE:=if 200<s.length then s.take 200++[46,46] else s
def BH:AE:=[43]
def A4:AE:=[45]
def BA:AE:=[42]
def BW:AE:=[60]
def IA:AE:=[61]
def CS:AE:=[99,111,110,115]
def DN:AE:=[99,97,114]
def C8:AE:=[99,100,114]
def DY:AE:=[110,117,108,108,63]
def DW:AE:=[112,97,105,114,63]
def BR:AE:=[101,113,63]
def A7:AE:=[100,105,115,112,108,97,121]
def AU:AE:=[99,97,108,108,47,99,99]
def AO:List AE:=[BH,A4,BA,BW,IA,CS,DN,C8,DY,DW,BR,A7,AU]
def arity(s:AE):Nat:=if s=DN\/s=C8\/s=DY\/s=DW\/s=A7\/s=AU then 1 else 2
def reckon(W:PW)(S:PS)(s:AE)(a b:PV):SR:=match a,b with
 | .num x,.num y =>
  if s=BW then⟨0,W,S.A1 (.AT (decide (x<y)))⟩
  else if s=IA then⟨0,W,S.A1 (.AT (decide (x=y)))⟩
  else
   let n:=if s=BH then x+y else if s=A4 then x-y else x*y
   if n.natAbs<=Pl.CG then⟨0,W,S.A1 (.num n)⟩ else⟨11,W,S⟩
 | _,_=>⟨9,W,S⟩
def YH:PV->Bool
 | .pair _=>true
 | _=>false
def B0(W:PW)(S:PS)(s:AE)(a:PV):SR :=
 if s=A7 then
  let t:=cut (text W.pairs a)
  if W.out.length+t.length<=1000 then⟨0,{W with out:=W.out++t},S.A1 .nothing⟩ else⟨11,W,S⟩
 else if s=DN\/s=C8 then match a with
  | .pair i=>match W.pairs[i]? with
   | some p=>⟨0,W,S.A1 (if s=C8 then p.2 else p.1)⟩
   | none=>⟨9,W,S⟩
  | _=>⟨9,W,S⟩
 else if s=DY then⟨0,W,S.A1 (.AT (decide (a=.empty)))⟩
 else⟨0,W,S.A1 (.AT (YH a))⟩
def A2(W:PW)(S:PS)(s:AE)(a b:PV):SR :=
 if s=CS then⟨0,{W with pairs:=W.pairs++[(a,b)]},S.A1 (.pair W.pairs.length)⟩
 else if s=BR then⟨0,W,S.A1 (.AT (decide (a=b)))⟩
 else reckon W S s a b
def AH(W:PW)(S:PS)(f:PV)(args:List PV):SR:=match f with
 | .proc i=>match W.procs[i]? with
  | some p=>if args.length≠p.1.ns.length then⟨10,W,S⟩
   else⟨0,{W with places:=W.places++args},S.work p.1.ks[0]? (p.2++C1 p.1.ns W.places.length)⟩
  | none=>⟨9,W,S⟩
 | .cont i=>match args with
  | [a]=>⟨0,W,{S with AB:=W.AG[i]?.getD []}.A1 a⟩
  | _=>⟨10,W,S⟩
 | .AZ s=>if args.length≠arity s then⟨10,W,S⟩ else match args with
  | [a]=>B0 W S s a
  | [a,b]=>A2 W S s a b
  | _=>⟨10,W,S⟩
 | _=>⟨9,W,S⟩
def PW.keep(W:PW)(S:PS):PW:={W with AG:=W.AG++[S.AB]}
def apply(W:PW)(S:PS)(f:PV)(args:List PV):SR :=
 if f=.AZ AU then match args with
  | [a] =>
   let c:=PV.cont W.AG.length
   if a=.AZ AU then AH ((W.keep S).keep S) S c [.cont (W.AG.length+1)]
   else AH (W.keep S) S a [c]
  | _=>⟨10,W,S⟩
 else AH W S f args
def taken(W:PW)(S:PS):SR:=match S.AB with
 | []=>⟨9,W,S⟩
 | fr::rest =>
  let S1:={S with AB:=rest}
  match fr.form.k with
  | .iff=>⟨0,W,S1.work (if S.val=.AT false then fr.form.ks[2]? else fr.form.ks[1]?) fr.env⟩
  | .set=>match DL W fr.env fr.form.nm with
   | some k=>⟨0,{W with places:=W.places.set k S.val},S1.A1 .nothing⟩
   | none=>⟨8,W,S1⟩
  | .define=>⟨0,bind W fr.form.nm S.val,S1.A1 .nothing⟩
  | .begin=>⟨0,W,(if fr.pos+1<fr.form.ks.length then S1.push {fr with B8:=[],pos:=fr.pos+1} else S1).work fr.form.ks[fr.pos]? fr.env⟩
  | _ =>
   let B8:=fr.B8++[S.val]
   if fr.pos=fr.form.ks.length then match B8 with
    | []=>⟨9,W,S1⟩
    | g::args=>apply W S1 g args
   else⟨0,W,(S1.push {fr with B8:=B8,pos:=fr.pos+1}).work fr.form.ks[fr.pos]? fr.env⟩
def step(W:PW)(S:PS):SR:=match S.form with
 | none=>taken W S
 | some f=>match f.k with
  | .const=>⟨0,W,S.A1 f.v⟩
  | .name=>match DL W S.env f.nm with
   | some k=>⟨0,W,S.A1 (W.places[k]?.getD .nothing)⟩
   | none=>⟨8,W,S⟩
  | .lambda=>⟨0,{W with procs:=W.procs++[(f,S.env)]},S.A1 (.proc W.procs.length)⟩
  | .begin=>⟨0,W,(if 1<f.ks.length then S.push ⟨f,[],1,S.env⟩ else S).work f.ks[0]? S.env⟩
  | _=>⟨0,W,(S.push ⟨f,[],1,S.env⟩).work f.ks[0]? S.env⟩
def PS.ended(S:PS):Bool:=S.form.isNone&&S.AB.isEmpty
def A8:Nat->PW->PS->SR
 | 0,W,S=>if S.ended then⟨0,W,S⟩ else⟨7,W,S⟩
 | n+1,W,S=>if S.ended then⟨0,W,S⟩ else
  let r:=step W S
  if r.e=0 then A8 n r.W r.S else r
end Pl
namespace Pl
def BN(k:FK)(nm:AE)(d:A9)(ks:List PF)(ns:List AE):PF:=.mk k nm d .nothing ks ns
def B1(f:A9->Option PF):List A9->Option (List PF)
 | []=>some []
 | x::r=>(f x).bind fun a=>(B1 f r).map fun l=>a::l
def EA(f:A9->Option PF)(ns body:A9):Option PF:=match ns with
 | .agg l=>if CJ l then(f body).map fun b=>BN .lambda [] .nil [b] (l.map strOf) else none
 | _=>none
def D5(f:A9->Option PF)(ps body:A9):Option PF:=match ps with
 | .agg l=>if l.all BI then(EA f (.agg (l.map DC)) body).bind fun h=>(B1 f (l.map BU)).map fun r=>BN .call [] .nil (h::r) [] else none
 | _=>none
def E6(k:FK)(f:A9->Option PF)(r:List A9):Option PF:=match r with
 | [n,e]=>if isName n then(f e).map fun b=>BN k (strOf n) .nil [b] [] else none
 | _=>none
def J9(f:A9->Option PF)(r:List A9):Option PF:=match r with
 | [n,e]=>EA f n e
 | _=>none
def J8(f:A9->Option PF)(r:List A9):Option PF:=match r with
 | [n,e]=>D5 f n e
 | _=>none
def IN(f:A9->Option PF)(t:A9)(h:List UInt8)(r:List A9):Option PF :=
 if h=CB then(if r.length==1 then some (BN .const [] t [] []) else none)
 else if h=VN then(if r.length==3 then(B1 f r).map fun l=>BN .iff [] .nil l [] else none)
 else if h=FX then(if !r.isEmpty then(B1 f r).map fun l=>BN .begin [] .nil l [] else none)
 else if h=LR then E6 .set f r
 else if h=C3 then J9 f r
 else if h=N4 then J8 f r
 else none
def K1(f:A9->Option PF)(ks:List A9):Option PF:=match ks with
 | []=>none
 | k::r=>match BJ (k::r) with
  | some h=>IN f (.agg (k::r)) h r
  | none=>(B1 f (k::r)).map fun l=>BN .call [] .nil l []
def AD:Nat->A9->Option PF
 | 0,_=>none
 | n+1,t=>match t with
  | .lit (.int k m)=>some (BN .const [] (.lit (.int k m)) [] [])
  | .lit (.bool x)=>some (BN .const [] (.lit (.bool x)) [] [])
  | .lit (.string s)=>if EE s then none else some (BN .name s .nil [] [])
  | .agg ks=>K1 (AD n) ks
  | _=>none
def BZ(n:Nat)(t:A9):Option PF:=match t with
 | .agg (.lit (.string h)::r)=>if h=CK then E6 .define (AD n) r else AD (n+1) t
 | _=>AD (n+1) t
theorem II(f:A9->Option PF)(l:List A9):(B1 f l).isSome=l.all fun x=>(f x).isSome:=by
 induction l with
 | nil=>rfl
 | cons x r c =>
  unfold B1
  cases b:f x with
  | none=>simp [b]
  | some a =>simp only [Option.bind_some,Option.isSome_map,List.all_cons,b,Option.isSome_some,Bool.true_and];exact c
theorem gL(b:Bool)(o:Option PF):(if b=true then o else none).isSome=(b&&o.isSome):=by cases b<;>simp
theorem nU(f:A9->Option PF)(ns a:A9):(EA f ns a).isSome=D_ (fun x=>(f x).isSome) ns a:=by
 cases ns with
 | agg l =>
  show(if CJ l=true then(f a).map (fun b=>BN .lambda [] .nil [b] (l.map strOf)) else none).isSome=(CJ l&&(f a).isSome)
  rw [gL,Option.isSome_map]
 | _=>rfl
theorem vX(f:A9->Option PF)(ps a:A9):(D5 f ps a).isSome=C_ (fun x=>(f x).isSome) ps a:=by
 cases ps with
 | agg l =>
  show(if l.all BI=true then(EA f (.agg (l.map DC)) a).bind (fun h=>(B1 f (l.map BU)).map fun r=>BN .call [] .nil (h::r) []) else none).isSome=(l.all BI&&(CJ (l.map DC)&&(f a).isSome)&&(l.map BU).all fun x=>(f x).isSome)
  have b:(EA f (.agg (l.map DC)) a).isSome=(CJ (l.map DC)&&(f a).isSome):=nU f _ _;rw [gL,<-b,<-II]
  cases EA f (.agg (l.map DC)) a<;>simp
 | _=>rfl
theorem JZ(k:FK)(f:A9->Option PF)(r:List A9):(E6 k f r).isSome=OI (fun x=>(f x).isSome) r:=by
 match r with
 | []=>rfl
 | [_]=>rfl
 | [n,e] =>
  show(if isName n=true then(f e).map (fun b=>BN k (strOf n) .nil [b] []) else none).isSome=(isName n&&(f e).isSome)
  rw [gL,Option.isSome_map]
 | _::_::_::_=>rfl
theorem sX(f:A9->Option PF)(r:List A9):(J9 f r).isSome=lam2 (fun x=>(f x).isSome) r:=by
 match r with
 | []=>rfl
 | [_]=>rfl
 | [n,e]=>exact nU f n e
 | _::_::_::_=>rfl
theorem sW(f:A9->Option PF)(r:List A9):(J8 f r).isSome=let2 (fun x=>(f x).isSome) r:=by
 match r with
 | []=>rfl
 | [_]=>rfl
 | [n,e]=>exact vX f n e
 | _::_::_::_=>rfl
theorem wD(f:A9->Option PF)(t:A9)(h:List UInt8)(r:List A9):(IN f t h r).isSome=KS (fun x=>(f x).isSome) h r:=by
 unfold IN KS;have i:=II f r;by_cases a:h=CB
 ·rw [if_pos a,if_pos a,gL];simp
 rw [if_neg a,if_neg a];by_cases b:h=VN
 ·rw [if_pos b,if_pos b,gL,Option.isSome_map,i]
 rw [if_neg b,if_neg b];by_cases c:h=FX
 ·rw [if_pos c,if_pos c,gL,Option.isSome_map,i]
 rw [if_neg c,if_neg c];by_cases d:h=LR
 ·rw [if_pos d,if_pos d];exact JZ _ f r
 rw [if_neg d,if_neg d];by_cases e:h=C3
 ·rw [if_pos e,if_pos e];exact sX f r
 rw [if_neg e,if_neg e];by_cases g:h=N4
 ·rw [if_pos g,if_pos g];exact sW f r
 rw [if_neg g,if_neg g];rfl
theorem sV(f:A9->Option PF)(a:List A9):(K1 f a).isSome=F7 (fun x=>(f x).isSome) a:=by
 cases a with
 | nil=>rfl
 | cons k r =>
  unfold K1 F7;dsimp only
  cases BJ (k::r) with
  | some h=>exact wD f _ h r
  | none =>dsimp only;rw [Option.isSome_map,II];simp
theorem DJ:∀(n:Nat)(t:A9),(AD n t).isSome=C4 n t
 | 0,_=>rfl
 | n+1,t=>by
  have b:(fun x=>(AD n x).isSome)=C4 n:=funext (DJ n)
  cases t with
  | lit x =>
   cases x with
   | string s =>
    show(if EE s=true then none else some (BN .name s .nil [] [])).isSome=!EE s
    cases EE s<;>rfl
   | _=>rfl
  | agg a =>show(K1 (AD n) a).isSome=F7 (C4 n) a;rw [sV,b]
  | _=>rfl
end Pl
namespace Pl
def BF(t:Tok):Bool:=!(CV (t.headD 0))||(isNum t||DZ t)
def check(bs:List UInt8):Nat :=
 if 300<bs.length then 1
 else match BX bs with
  | none=>2
  | some l =>
   if l.all BF=false then 2
   else match pd l.length l with
    | none=>2
    | some p =>
     if p.q≠[] then 2
     else if 20<p.dp then 3
     else if p.gr=true then 4
     else if GY (l.length-1) p.t=true then 0 else 5
theorem fP:∀(n:Nat)(g:List UInt8)(l:List Tok),KO n g=some l->l.length<=g.length/\∀t∈l,0<t.length/\t.length<=g.length
 | 0,_,_,h=>by obtain rfl:=i_ h;simp
 | _+1,[],_,h=>by obtain rfl:=i_ h;simp
 | n+1,c::r,l,h=>by
  unfold KO at h;split at h
  ·have b:=fP n r l h;refine⟨by simp;omega,fun t a=>⟨(b.2 t a).1,by have:=(b.2 t a).2;simp;omega⟩⟩
  split at h
  ·cases r with
   | nil=>simp at h
   | cons d q =>
    dsimp only at h;split at h
    ·simp only [Option.map_eq_some_iff] at h;obtain⟨e,f,rfl⟩:=h;have b:=fP n q e f;refine⟨by simp;omega,fun t a=>?_⟩;rcases List.mem_cons.1 a with rfl | a
     ·simp
     ·exact⟨(b.2 t a).1,by have:=(b.2 t a).2;simp;omega⟩
    ·simp at h
  split at h
  ·simp only [Option.map_eq_some_iff] at h;obtain⟨e,f,rfl⟩:=h;have b:=fP n _ e f;have j:=eQ CV r;have i:(r.takeWhile CV).length<=r.length:=(List.takeWhile_sublist CV).length_le;refine⟨by simp;omega,fun t a=>?_⟩;rcases List.mem_cons.1 a with rfl | a
   ·simp;omega
   ·exact⟨(b.2 t a).1,by have:=(b.2 t a).2;simp;omega⟩
  split at h
  ·simp only [Option.map_eq_some_iff] at h;obtain⟨e,f,rfl⟩:=h;have b:=fP n r e f;refine⟨by simp;omega,fun t a=>?_⟩;rcases List.mem_cons.1 a with rfl | a
   ·simp
   ·exact⟨(b.2 t a).1,by have:=(b.2 t a).2;simp;omega⟩
  ·simp at h
theorem F2{bs:List UInt8}{l:List Tok}(h:BX bs=some l):l.length<=bs.length/\∀t∈l,0<t.length/\t.length<=bs.length:=fP _ _ _ h
end Pl
namespace Pl
def NI(ps:List (PV×PV)):Prop:=∀(i:Nat)(p:PV×PV),ps[i]?=some p->B7 p.1<=i/\B7 p.2<=i
theorem eR{ps:List (PV×PV)}(a:NI ps):∀(n m:Nat)(v:PV),B7 v<n->B7 v<m->KW ps n v=KW ps m v/\j8 ps n v=j8 ps m v
 | 0,_,_,h,_=>by omega
 | n+1,0,_,_,h=>by omega
 | n+1,m+1,v,d,e=>by
  cases v with
  | pair i =>
   simp only [B7] at d e;have b:∀n,KW ps (n+1) (.pair i)=(match ps[i]? with | some p=>40::(KW ps n p.1++j8 ps n p.2) | none=>[]):=fun n=>by rw [KW];try (cases ps[i]? <;> rfl)
   have c:∀n,j8 ps (n+1) (.pair i)=(match ps[i]? with | some p=>32::(KW ps n p.1++j8 ps n p.2) | none=>[]):=fun n=>by rw [j8];try (cases ps[i]? <;> rfl)
   rw [b,b,c,c]
   cases f:ps[i]? with
   | none=>simp
   | some p =>obtain⟨k,l⟩:=a i p f;have g:=(eR a n m p.1 (by omega) (by omega)).1;have j:=(eR a n m p.2 (by omega) (by omega)).2;simp [g,j]
  | _=>exact⟨rfl,rfl⟩
def tl(ps:List (PV×PV))(v:PV):AE:=j8 ps (B7 v+1) v
theorem JO{ps:List (PV×PV)}(a:NI ps){i:Nat}{p:PV×PV}(h:ps[i]?=some p):text ps (.pair i)=40::(text ps p.1++tl ps p.2):=by obtain⟨b,c⟩:=a i p h;unfold text;rw [show B7 (.pair i)+1=(i+1)+1 from rfl];rw [KW,h];dsimp only;rw [(eR a (i+1) (B7 p.1+1) p.1 (by omega) (by omega)).1,(eR a (i+1) (B7 p.2+1) p.2 (by omega) (by omega)).2];rfl
theorem MK{ps:List (PV×PV)}(a:NI ps){i:Nat}{p:PV×PV}(h:ps[i]?=some p):tl ps (.pair i)=32::(text ps p.1++tl ps p.2):=by obtain⟨b,c⟩:=a i p h;unfold tl;rw [show B7 (.pair i)+1=(i+1)+1 from rfl];rw [j8,h];dsimp only;rw [(eR a (i+1) (B7 p.1+1) p.1 (by omega) (by omega)).1,(eR a (i+1) (B7 p.2+1) p.2 (by omega) (by omega)).2];rfl
theorem QF(ps:List (PV×PV))(v:PV)(h:∀i,v≠.pair i)(a:v≠.empty):tl ps v=[32,46,32]++text ps v++[41]:=by
 cases v with
 | pair i=>exact absurd rfl (h i)
 | empty=>exact absurd rfl a
 | _=>rfl
theorem Q8(ps:List (PV×PV))(v:PV)(h:∀i,v≠.pair i):text ps v=OF v:=by
 cases v with
 | pair i=>exact absurd rfl (h i)
 | _=>rfl
def Q(a b:AE):Prop:=a.take 201=b.take 201
theorem Q.refl(a:AE):Q a a:=rfl
theorem Q.symm{a b:AE}(h:Q a b):Q b a:=Eq.symm h
theorem Q.trans{a b c:AE}(h:Q a b)(k:Q b c):Q a c:=Eq.trans h k
theorem Q.len{a b:AE}(h:Q a b):(200<a.length↔200<b.length):=by have:=congrArg List.length h;simp only [List.length_take] at this;omega
theorem Q.short{a b:AE}(h:Q a b)(d:a.length<=200):a=b:=by
 have c:¬200<b.length:=fun c=>by have:=h.len.2 c;omega
 unfold Q at h
 rwa [List.take_of_length_le (by omega),List.take_of_length_le (by omega)] at h
theorem Q.app{a b:AE}(h:Q a b)(c:AE):Q (a++c) (b++c):=by
 by_cases d:a.length<=200
 ·rw [h.short d];rfl
 ·have e:=h.len.1 (by omega);unfold Q;rw [List.take_append_of_le_length (by omega),List.take_append_of_le_length (by omega)];exact h
theorem Q.long{a:AE}(c d:AE)(h:200<a.length):Q (a++c) (a++d):=by unfold Q;rw [List.take_append_of_le_length (by omega),List.take_append_of_le_length (by omega)]
theorem Q.cut{a b:AE}(h:Q a b):cut a=cut b:=by
 unfold Pl.cut;by_cases c:200<a.length
 ·rw [if_pos c,if_pos (h.len.1 c)];have:(a.take 201).take 200=(b.take 201).take 200:=by rw [h]
  rw [List.take_take,List.take_take] at this;rw [show min 200 201=200 from rfl] at this;rw [this]
 ·rw [h.short (by omega)]
theorem FL(a:AE):(cut a).length<=202:=by
 unfold cut;split
 ·simp;omega
 ·omega
def CZ:List AE->AE
 | []=>[]
 | [x]=>x
 | x::y::r=>x++32::CZ (y::r)
def AP(ts:List AE):AE:=40::(CZ ts++[41])
theorem GM:∀(a:List AE)(t:AE),a≠[]->CZ (a++[t])=CZ a++32::t
 | [],_,h=>absurd rfl h
 | [x],t,_=>rfl
 | x::y::r,t,_=>by have b:=GM (y::r) t (by simp);show x++32::CZ ((y::r)++[t])=(x++32::CZ (y::r))++32::t;rw [b];simp
def CC:Nat->A9->AE
 | 0,_=>[]
 | n+1,t=>match t with
  | .lit (.int _ m)=>itoa m
  | .lit (.bool x)=>if x then [35,116] else [35,102]
  | .lit (.string s)=>s
  | .agg ts=>AP (ts.map (CC n))
  | _=>[]
def QD:A9->Prop
 | .agg ts=>∃x,ts=[.lit (.string CB),x]
 | .lit (.int _ _)=>True
 | .lit (.bool _)=>True
 | _=>False
def Nm(k:FK)(nm:AE)(d:A9):Prop:=(k=.name->nm≠[])/\(k=.const->QD d)
theorem Nm.not{k:FK}{nm:AE}{d:A9}(a:k≠.name)(b:k≠.const):Nm k nm d:=⟨fun e=>absurd e a,fun e=>absurd e b⟩
theorem I0(x:AE):∀(a:List AE),CZ (x::a)=x++a.flatMap (fun t=>32::t)
 | []=>by simp [CZ]
 | y::r=>by show x++32::CZ (y::r)=_;rw [I0 y r];simp
end Pl
end
end Go.Proofs.YtkgbdddkcjpgfaaGreatDoor
