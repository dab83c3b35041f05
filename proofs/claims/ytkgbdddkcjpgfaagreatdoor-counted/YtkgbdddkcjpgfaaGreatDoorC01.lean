import Derived.Test.YtkgbdddkcjpgfaaGreatDoorProg
import Derived.WalkKit
import Derived.WalkSpells
import Derived.WalkLawsBesides
import GoSem.ClaimWide
import Derived.Deep.QuietTactic
import Derived.BigQuiet
namespace Go.Proofs.YtkgbdddkcjpgfaaGreatDoor
section
namespace Pl
def isDig(c:UInt8):Bool:=decide (48<=c.toNat)&&decide (c.toNat<=57)
def signs:List UInt8:=[43,45,42,47,60,61,62,63,33]
def low(c:UInt8):Bool:=decide (97<=c.toNat)&&decide (c.toNat<=122)
def inW(c:UInt8):Bool:=decide (c∈signs)||(low c||isDig c)
theorem low_yes(c:UInt8)(h1:(97:Int)<=c.toNat)(h2:(c.toNat:Int)<=122):low c=true:=by simp [low];omega
theorem low_no(c:UInt8)(h:¬((97:Int)<=c.toNat/\(c.toNat:Int)<=122)):low c=false:=by simp only [low,Bool.and_eq_false_iff,decide_eq_false_iff_not];omega
def bytesOf(l:List UInt8):ByteArray:=⟨l.toArray⟩
theorem toNat_beq(a b:UInt8):((a.toNat:Int)==(b.toNat:Int))=(a==b):=by
 by_cases h:a=b
 ·subst h;simp
 ·have:¬(a.toNat:Int)=b.toNat:=fun e=>h (UInt8.toNat_inj.1 (by omega));rw [beq_eq_false_iff_ne.2 this,beq_eq_false_iff_ne.2 h]
end Pl
end
section
open Go.RowKit
theorem aP{a b:Bool}(h:a=b):Ending.returned (.bool a)=.returned (.bool b):=by rw [h]
end
section
variable {l:List UInt8} {pre:List (List UInt8)} {k:Nat}
namespace Pl
def blank(c:UInt8):Bool:=c==32||c==10
def punct(c:UInt8):Bool:=c==40||c==41||c==39
def tkF:Nat->List UInt8->Option (List (List UInt8))
 | 0,_=>some []
 | _+1,[]=>some []
 | n+1,c::r =>
  if blank c then tkF n r
  else if c==35 then
   match r with
   | []=>none
   | d::q=>if d==116||d==102 then(tkF n q).map ([c,d]::·) else none
  else if inW c then(tkF n (r.dropWhile inW)).map ((c::r.takeWhile inW)::·)
  else if punct c then(tkF n r).map ([c]::·)
  else none
theorem eQ(p:UInt8->Bool)(l:List UInt8):(l.dropWhile p).length<=l.length:=(List.dropWhile_sublist p).length_le
theorem eT:∀(n m:Nat)(l:List UInt8),l.length<=n->l.length<=m->tkF n l=tkF m l
 | 0,0,_,_,_=>rfl
 | 0,m+1,[],_,_=>rfl
 | 0,m+1,_::_,h,_=>by simp at h
 | n+1,0,[],_,_=>rfl
 | n+1,0,_::_,_,h=>by simp at h
 | n+1,m+1,[],_,_=>rfl
 | n+1,m+1,c::r,hn,hm=>by
  simp only [List.length_cons] at hn hm;have h1:=eT n m r (by omega) (by omega);have h2:=eQ inW r;have h3:=eT n m (r.dropWhile inW) (by omega) (by omega);unfold tkF;rw [h1,h3]
  cases r with
  | nil=>rfl
  | cons d q =>simp only [List.length_cons] at hn hm;dsimp only;rw [eT n m q (by omega) (by omega)]
def toks(l:List UInt8):Option (List (List UInt8)):=tkF l.length l
theorem lB(n:Nat)(l:List UInt8)(h:l.length<=n):tkF n l=toks l:=eT _ _ _ h (Nat.le_refl _)
theorem wX:toks []=some []:=rfl
theorem rN(c:UInt8)(r:List UInt8)(h:blank c=true):toks (c::r)=toks r:=by simp [toks,tkF,h]
theorem toks_hash0:toks [35]=none:=by decide
theorem toks_hash(d:UInt8)(q:List UInt8)(h:(d==116||d==102)=true):toks (35::d::q)=(toks q).map ([35,d]::·):=by
 have hb:blank 35=false:=by decide
 show tkF (q.length+1+1) (35::d::q)=_;unfold tkF;dsimp only;rw [lB _ q (by omega)];simp only [hb,h];rfl
theorem toks_hashno(d:UInt8)(q:List UInt8)(h:(d==116||d==102)=false):toks (35::d::q)=none:=by
 have hb:blank 35=false:=by decide
 show tkF (q.length+1+1) (35::d::q)=_;unfold tkF;simp only [hb,h];rfl
theorem pN(c:UInt8)(h:inW c=true):blank c=false/\(c==35)=false:=by
 by_cases h0:blank c=true
 ·simp only [blank,Bool.or_eq_true,beq_iff_eq] at h0;rcases h0 with rfl | rfl<;>exact absurd h (by decide)
 ·refine⟨by simpa using h0,?_⟩;by_cases h1:c=35
  ·subst h1;exact absurd h (by decide)
  ·simpa using h1
theorem toks_word(c:UInt8)(r:List UInt8)(h:inW c=true):toks (c::r)=(toks (r.dropWhile inW)).map ((c::r.takeWhile inW)::·):=by obtain⟨h1,h2⟩:=pN c h;show tkF (r.length+1) (c::r)=_;unfold tkF;rw [lB _ (r.dropWhile inW) (eQ _ _)];simp [h1,h2,h]
theorem toks_punct(c:UInt8)(r:List UInt8)(h0:inW c=false)(h:punct c=true):toks (c::r)=(toks r).map ([c]::·):=by
 have h1:blank c=false/\(c==35)=false:=by simp only [punct,Bool.or_eq_true,beq_iff_eq] at h;rcases h with(rfl | rfl) | rfl<;>decide
 show tkF (r.length+1) (c::r)=_;unfold tkF;rw [lB _ r (Nat.le_refl _)];simp [h1.1,h1.2,h,h0]
theorem toks_bad(c:UInt8)(r:List UInt8)(h0:blank c=false)(h1:(c==35)=false)(h2:inW c=false)(h3:punct c=false):toks (c::r)=none:=by show tkF (r.length+1) (c::r)=_;unfold tkF;simp [h0,h1,h2,h3]
def From(l:List UInt8)(pre:List (List UInt8))(k:Nat):Prop:=toks l=(toks (l.drop k)).map (pre++·)
theorem From.start(l:List UInt8):From l [] 0:=by unfold From;simp
theorem From.end_(h:From l pre k)(hk:l.length<=k):toks l=some pre:=by rw [h,List.drop_of_length_le hk,wX];simp
theorem drop_at{α:Type}(l:List α)(k:Nat)(h:k<l.length):l.drop k=l[k]::l.drop (k+1):=List.drop_eq_getElem_cons h
theorem From.blank(h:From l pre k)(hk:k<l.length)(hb:Pl.blank l[k]=true):From l pre (k+1):=by unfold From at *;rw [h,drop_at l k hk,rN _ _ hb]
theorem From.none_(h:From l pre k)(hn:toks (l.drop k)=none):toks l=none:=by rw [h,hn];rfl
theorem From.more{m:Nat}{t:List UInt8}(h:From l pre k)(hn:toks (l.drop k)=(toks (l.drop m)).map (t::·)):From l (pre++[t]) m:=by
 unfold From at *;rw [h,hn]
 cases toks (l.drop m)<;>simp
theorem take_of_all(p:UInt8->Bool):∀(l:List UInt8)(m:Nat),m<=l.length->(∀j (h:j<l.length),j<m->p l[j]=true)->(∀h:m<l.length,p (l[m])=false)->l.takeWhile p=l.take m/\l.dropWhile p=l.drop m
 | [],m,_,_,_=>by simp
 | c::r,0,_,_,h2=>by have:=h2 (by simp);simp at this;simp [List.takeWhile,List.dropWhile,this]
 | c::r,m+1,hm,h1,h2=>by have h0:p c=true:=h1 0 (by simp) (by omega);have ih:=take_of_all p r m (by simpa using hm) (fun j h hj=>by have:=h1 (j+1) (by simpa using h) (by omega);simpa using this) (fun h=>by have:=h2 (by simpa using h);simpa using this);simp [List.takeWhile,List.dropWhile,h0,ih.1,ih.2]
end Pl
end
section
open Go.RowKit
def strV(l:List UInt8):Value:=.string ⟨l.toArray⟩
theorem bE(s:ByteArray)(k:Nat)(h:k<s.size):s.data.toList[k]'(by simpa using h)=s[k]:=by rw [Array.getElem_toList];rfl
theorem b32(c:UInt8):((c.toNat:Int)==32)=(c==32):=Pl.toNat_beq c 32
theorem b10(c:UInt8):((c.toNat:Int)==10)=(c==10):=Pl.toNat_beq c 10
theorem b35(c:UInt8):((c.toNat:Int)==35)=(c==35):=Pl.toNat_beq c 35
theorem b40(c:UInt8):((c.toNat:Int)==40)=(c==40):=Pl.toNat_beq c 40
theorem b41(c:UInt8):((c.toNat:Int)==41)=(c==41):=Pl.toNat_beq c 41
theorem b39(c:UInt8):((c.toNat:Int)==39)=(c==39):=Pl.toNat_beq c 39
end
section
namespace Pl
def big:Nat:=1099511627776
def minus(w:List UInt8):Bool:=decide (1<w.length)&&(w.headD 0==45)
def digs(w:List UInt8):List UInt8:=if minus w then w.drop 1 else w
def isNum(w:List UInt8):Bool:=(digs w).all isDig
def noDig(w:List UInt8):Bool:=w.all (fun c=>!isDig c)
def natV(ds:List UInt8):Nat:=ds.foldl (fun a c=>10*a+(c.toNat-48)) 0
def sval(w:List UInt8):Int:=if minus w then -(natV (digs w):Int) else(natV (digs w):Int)
def great(w:List UInt8):Bool:=decide (big<natV (digs w))
theorem all_of{p:UInt8->Bool}(l:List UInt8)(h:∀j (h:j<l.length),p l[j]=true):l.all p=true:=by rw [List.all_eq_true];intro x hx;obtain⟨j,hj,rfl⟩:=List.getElem_of_mem hx;exact h j hj
theorem not_all{p:UInt8->Bool}(l:List UInt8)(j:Nat)(hj:j<l.length)(h:p l[j]=false):l.all p=false:=by rw [List.all_eq_false];exact⟨l[j],List.getElem_mem _,by simp [h]⟩
theorem isDig_le(c:UInt8)(h:isDig c=true):48<=c.toNat/\c.toNat<=57:=by simpa [isDig] using h
end Pl
end
section
open Go.RowKit
variable {w w' a:World} {b:Nat} {ok:Nat->Prop} {L:Value} {at_ dp:Int} {g:Bool} {c:Array Value} {T:TypeId}
theorem eP(s:ByteArray)(i k:Nat):(s.extract i k).data.toList=(s.data.toList.drop i).take (k-i):=by rw [ByteArray.data_extract];simp [Array.toList_extract,List.extract_eq_take_drop]
abbrev Tr:=DataW Unit
def TD:TypeId:=239
def TP:TypeId:=135
def TR:TypeId:=138
def kNum:Value:=.string ⟨#[110,117,109,98,101,114]⟩
def kNam:Value:=.string ⟨#[110,97,109,101]⟩
def kTru:Value:=.string ⟨#[116,114,117,116,104]⟩
def s6:Value:=.string ⟨#[108,105,115,116]⟩
def tI:Value:=.string ⟨#[]⟩
def gW(m:Int):Prop:=-(Pl.big:Int)<=m/\m<=(Pl.big:Int)
def RepR(ok:Nat->Prop):Nat->World->Value->Tr->Prop
 | 0,_,_,_=>False
 | n+1,w,v,t=>∃b,v=.pointer (some ⟨b,0,none⟩)/\ok b /\
  match t with
  | .lit (.int _ m)=>∃k:Int,w.heap[b]?=some (.cells #[kNum,.int .i64 k,tI,.slice none 0 0] TD (0,0))/\(gW m->k=m)
  | .lit (.bool x)=>w.heap[b]?=some (.cells #[kTru,.int .i64 (if x then 1 else 0),tI,.slice none 0 0] TD (0,0))
  | .lit (.string s)=>w.heap[b]?=some (.cells #[kNam,.int .i64 0,strV s,.slice none 0 0] TD (0,0))
  | .agg ts=>∃kids vs,w.heap[b]?=some (.cells #[s6,.int .i64 0,tI,kids] TD (0,0))/\(∀r,kids.ownBlock=some r->ok r)/\w.ownsRow 0 TP 1 kids ts.length vs /\
    (∀(i:Nat)(u:Value)(x:Tr),vs[i]?=some u->ts[i]?=some x->RepR ok n w u x)/\ts.length<=1000
  | _=>False
def KeepD(ok:Nat->Prop)(w w':World):Prop:=∀(k:Nat)(cur:Array Value)(e:TypeId),ok k->e=TD\/e=TP->w.heap[k]?=some (.cells cur e (0,0))->w'.heap[k]?=some (.cells cur e (0,0))
theorem KeepD.refl(ok:Nat->Prop)(w:World):KeepD ok w w:=fun _ _ _ _ _ h=>h
theorem KeepD.trans{b c:World}(h:KeepD ok a b)(k:KeepD ok b c):KeepD ok a c:=fun i cur e o t x=>k i cur e o t (h i cur e o t x)
theorem aB{k:Nat}{o:Obj}(h:w.heap[k]?=some o):k<w.heap.size:=(Array.getElem?_eq_some_iff.1 h).1
theorem KeepD.of_below(h:Below w.heap.size w w'):KeepD ok w w':=fun k _ _ _ _ hk=>(h.block k (aB hk)).trans hk
theorem KeepD.of_grown{f:Nat×Nat}(hg:w.grownBy w' (some b))(hb:w.heap[b]?=some (.cells c T f))(h1:T≠TD)(h2:T≠TP):KeepD ok w w':=by
 intro k cur e _ ht hk
 have hne:some k≠some b:=by
  intro e1;obtain rfl:=Option.some.inj e1;rw [hb] at hk;simp only [Option.some.injEq,Obj.cells.injEq] at hk;rcases ht with rfl | rfl
  ·exact h1 hk.2.1
  ·exact h2 hk.2.1
 exact(hg.block k (aB hk) hne).trans hk
theorem KeepD.mono{ok':Nat->Prop}(h:KeepD ok w w')(hi:∀k,ok' k->ok k):KeepD ok' w w':=fun k cur e o=>h k cur e (hi k o)
theorem nO{v:Value}{n:Nat}{xs:List Value}(hk:KeepD ok w w')(ho:∀r,v.ownBlock=some r->ok r)(h:w.ownsRow 0 TP 1 v n xs):w'.ownsRow 0 TP 1 v n xs:=by
 refine⟨h.1,?_⟩;rcases h.2 with hn | ⟨g,cap,cur,rfl,hb,hg,rest⟩
 ·exact .inl hn
 ·exact .inr ⟨g,cap,cur,rfl,hb,hk g cur TP (ho g rfl) (.inr rfl) hg,rest⟩
theorem RepR.keep(hk:KeepD ok w w'):∀(n:Nat)(v:Value)(t:Tr),RepR ok n w v t->RepR ok n w' v t
 | 0,_,_,h=>h
 | n+1,v,t,h=>by
  obtain⟨b,hv,hb,h⟩:=h;refine⟨b,hv,hb,?_⟩
  match t,h with
  | .lit (.int _ m),⟨k,h1,h2⟩=>exact⟨k,hk b _ _ hb (.inl rfl) h1,h2⟩
  | .lit (.bool x),h=>exact hk b _ _ hb (.inl rfl) h
  | .lit (.string s),h=>exact hk b _ _ hb (.inl rfl) h
  | .agg ts,⟨kids,vs,h1,h2,h3,h4,h5⟩=>exact⟨kids,vs,hk b _ _ hb (.inl rfl) h1,h2,nO hk h2 h3,fun i u x hu hx=>RepR.keep hk n u x (h4 i u x hu hx),h5⟩
theorem RepR.mono{ok':Nat->Prop}(hi:∀k,k<w.heap.size->ok k->ok' k):∀(n:Nat)(v:Value)(t:Tr),RepR ok n w v t->RepR ok' n w v t
 | 0,_,_,h=>h
 | n+1,v,t,h=>by
  obtain⟨b,hv,hb,h⟩:=h
  match t,h with
  | .lit (.int _ m),⟨k,h1,h2⟩=>exact⟨b,hv,hi b (aB h1) hb,k,h1,h2⟩
  | .lit (.bool x),h=>exact⟨b,hv,hi b (aB h) hb,h⟩
  | .lit (.string s),h=>exact⟨b,hv,hi b (aB h) hb,h⟩
  | .agg ts,⟨kids,vs,h1,h2,h3,h4,h5⟩=>exact⟨b,hv,hi b (aB h1) hb,kids,vs,h1,fun r hr=>hi r (h3.lt r hr).2 (h2 r hr),h3,fun i u x hu hx=>RepR.mono hi n u x (h4 i u x hu hx),h5⟩
theorem RepR.up:∀(n m:Nat)(v:Value)(t:Tr),n<=m->RepR ok n w v t->RepR ok m w v t
 | 0,_,_,_,_,h=>h.elim
 | n+1,0,_,_,hm,_=>by omega
 | n+1,m+1,v,t,hm,h=>by
  obtain⟨b,hv,hb,h⟩:=h;refine⟨b,hv,hb,?_⟩
  match t,h with
  | .lit (.int _ m),h=>exact h
  | .lit (.bool x),h=>exact h
  | .lit (.string s),h=>exact h
  | .agg ts,⟨kids,vs,h1,h2,h3,h4,h5⟩=>exact⟨kids,vs,h1,h2,h3,fun i u x hu hx=>RepR.up n m u x (by omega) (h4 i u x hu hx),h5⟩
def Rd(w:World)(b:Nat)(L:Value)(at_ dp:Int)(g:Bool):Prop:=w.heap[b]?=some (.cells #[L,.int .i64 at_,.int .i64 dp,.bool g] TR (0,0))
theorem aA(h:w.heap[b]?=some (.cells c T (0,0)))(o:Nat):w.cell? ⟨b,o,none⟩=c[o]? := by simp [World.cell?,h]
theorem aF(h:w.heap[b]?=some (.cells c T (0,0)))(o:Nat):w.frozen? ⟨b,o,none⟩=false:=by simp [World.frozen?,h]
theorem Rd.cells(h:Rd w b L at_ dp g) :w.cell? ⟨b,0,none⟩=some L/\w.cell? ⟨b,1,none⟩=some (.int .i64 at_)/\w.cell? ⟨b,2,none⟩=some (.int .i64 dp)/\w.cell? ⟨b,3,none⟩=some (.bool g) :=⟨aA h 0,aA h 1,aA h 2,aA h 3⟩
theorem aD(h:w.heap[b]?=some (.cells c T (0,0)))(o:Nat)(v:Value):(w.setCell ⟨b,o,none⟩ v).heap[b]?=some (.cells (c.setIfInBounds o v) T (0,0)):=by simp [World.setCell,Array.getElem?_modify,h]
theorem aE(w:World)(b o:Nat)(v:Value):w.grownBy (w.setCell ⟨b,o,none⟩ v) (some b) :=⟨rfl,rfl,rfl,by simp [World.setCell],fun k _ hne=>Below.heap_setCell _ _ _ _ (fun e=>hne (by simp [e]))⟩
theorem aC{b c:World}{row:Option Nat}(h:a.grownBy b row)(k:b.grownBy c row):a.grownBy c row :=⟨k.os.trans h.os,k.tape.trans h.tape,k.output.trans h.output,Nat.le_trans h.size k.size,fun i hi hne=>(k.block i (Nat.lt_of_lt_of_le hi h.size) hne).trans (h.block i hi hne)⟩
theorem aQ{b:World}(row:Option Nat)(h:Below a.heap.size a b):a.grownBy b row:=⟨h.os,h.tape,h.output,h.size,fun k hk _=>h.block k hk⟩
theorem cS{b:World}(h:a.grownBy b none):Below a.heap.size a b:=⟨h.os,h.tape,h.output,h.size,fun k hk=>h.block k hk (by simp)⟩
theorem Rd.set1(h:Rd w b L at_ dp g)(x:Int):Rd (w.setCell ⟨b,1,none⟩ (.int .i64 x)) b L x dp g:=aD h 1 _
theorem Rd.set2(h:Rd w b L at_ dp g)(x:Int):Rd (w.setCell ⟨b,2,none⟩ (.int .i64 x)) b L at_ x g:=aD h 2 _
theorem Rd.set3(h:Rd w b L at_ dp g)(x:Bool):Rd (w.setCell ⟨b,3,none⟩ (.bool x)) b L at_ dp x:=aD h 3 _
theorem Rd.alloc(h:Rd w b L at_ dp g)(o:Obj):Rd (w.alloc o) b L at_ dp g:=(Below.heap_alloc w o b (aB h)).trans h
theorem Rd.below(h:Rd w b L at_ dp g)(hb:Below w.heap.size w w'):Rd w' b L at_ dp g:=(hb.block b (aB h)).trans h
end
section
variable {dp:Nat} {gr:Bool}
namespace Pl
abbrev Tok:=List UInt8
abbrev Tre:=DataW Unit
def tOpen:Tok:=[40]
def g8:Tok:=[41]
def tN:Tok:=[39]
def tTrue:Tok:=[35,116]
def tO:Tok:=[35,102]
def quoteW:List UInt8:=[113,117,111,116,101]
structure PR where
 t:Tre
 q:List Tok
 dp:Nat
 gr:Bool
structure PL where
 ts:List Tre
 q:List Tok
 dp:Nat
 gr:Bool
def pw(t:Tok):Option (Tre×Bool) :=if isNum t then some (.lit (.int .i64 (sval t)),great t) else if noDig t then some (.lit (.string t),false) else none
def pls(f:List Tok->Option PR):Nat->List Tok->Option PL
 | 0,_=>none
 | _+1,[]=>none
 | k+1,t::r =>
  if t=g8 then some ⟨[],r,0,false⟩
  else match f (t::r) with
   | none=>none
   | some p=>(pls f k p.q).map fun l=>⟨p.t::l.ts,l.q,max p.dp l.dp,p.gr||l.gr⟩
theorem pls_cons(f:List Tok->Option PR)(k:Nat)(t:Tok)(r:List Tok):pls f (k+1) (t::r)=if t=g8 then some ⟨[],r,0,false⟩ else match f (t::r) with
  | none=>none
  | some p=>(pls f k p.q).map fun l=>⟨p.t::l.ts,l.q,max p.dp l.dp,p.gr||l.gr⟩:=rfl
def pd:Nat->List Tok->Option PR
 | 0,_=>none
 | _+1,[]=>none
 | n+1,t::r =>
  if t=g8 then none
  else if t=tTrue then some ⟨.lit (.bool true),r,0,false⟩
  else if t=tO then some ⟨.lit (.bool false),r,0,false⟩
  else if t=tN then(pd n r).map fun p=>⟨.agg [.lit (.string quoteW),p.t],p.q,p.dp+1,p.gr⟩
  else if t=tOpen then(pls (pd n) r.length r).map fun p=>⟨.agg p.ts,p.q,p.dp+1,p.gr⟩
  else(pw t).map fun p=>⟨p.1,r,0,p.2⟩
theorem pd_close(n:Nat)(t:Tok)(r:List Tok)(h:t=[41]):pd (n+1) (t::r)=none:=by subst h;rfl
theorem pd_true(n:Nat)(t:Tok)(r:List Tok)(h:t=[35,116]):pd (n+1) (t::r)=some ⟨.lit (.bool true),r,0,false⟩:=by subst h;rfl
theorem pd_false(n:Nat)(t:Tok)(r:List Tok)(h:t=[35,102]):pd (n+1) (t::r)=some ⟨.lit (.bool false),r,0,false⟩:=by subst h;rfl
theorem pd_quote(n:Nat)(t:Tok)(r:List Tok)(h:t=[39]):pd (n+1) (t::r)=(pd n r).map fun p=>⟨.agg [.lit (.string quoteW),p.t],p.q,p.dp+1,p.gr⟩:=by subst h;rfl
theorem pd_open(n:Nat)(t:Tok)(r:List Tok)(h:t=[40]):pd (n+1) (t::r)=(pls (pd n) r.length r).map fun p=>⟨.agg p.ts,p.q,p.dp+1,p.gr⟩:=by subst h;rfl
theorem pd_word(n:Nat)(t:Tok)(r:List Tok)(h1:¬t=[41])(h2:¬t=[35,116])(h3:¬t=[35,102])(h4:¬t=[39])(h5:¬t=[40]):pd (n+1) (t::r)=(pw t).map fun p=>⟨p.1,r,0,p.2⟩:=by show(if t=g8 then none else if t=tTrue then _ else if t=tO then _ else if t=tN then _ else if t=tOpen then _ else _)=_;rw [if_neg (show ¬t=g8 from h1),if_neg (show ¬t=tTrue from h2),if_neg (show ¬t=tO from h3),if_neg (show ¬t=tN from h4),if_neg (show ¬t=tOpen from h5)]
def Tail(q l:List Tok):Prop:=q <:+ l/\q.length<l.length
theorem Tail.cons(t:Tok)(r:List Tok):Tail r (t::r):=⟨List.suffix_cons t r,by simp⟩
theorem Tail.trans{a b c:List Tok}(h:Tail a b)(k:Tail b c):Tail a c:=⟨h.1.trans k.1,by have:=h.2;have:=k.2;omega⟩
theorem qL(f:List Tok->Option PR)(hf:∀l p,f l=some p->Tail p.q l):∀(k:Nat)(l:List Tok)(p:PL),pls f k l=some p->Tail p.q l
 | 0,_,_,h=>by simp [pls] at h
 | _+1,[],_,h=>by simp [pls] at h
 | k+1,t::r,p,h=>by
  unfold pls at h;split at h
  ·obtain rfl:=Option.some.inj h;exact Tail.cons t r
  ·cases hp:f (t::r) with
   | none=>rw [hp] at h;simp at h
   | some p1 =>rw [hp] at h;simp only [Option.map_eq_some_iff] at h;obtain⟨l,hl,rfl⟩:=h;exact(qL f hf k p1.q l hl).trans (hf _ _ hp)
theorem pd_tail:∀(n:Nat)(l:List Tok)(p:PR),pd n l=some p->Tail p.q l
 | 0,_,_,h=>by simp [pd] at h
 | _+1,[],_,h=>by simp [pd] at h
 | n+1,t::r,p,h=>by
  unfold pd at h;split at h
  ·simp at h
  split at h
  ·obtain rfl:=Option.some.inj h;exact Tail.cons t r
  split at h
  ·obtain rfl:=Option.some.inj h;exact Tail.cons t r
  split at h
  ·simp only [Option.map_eq_some_iff] at h;obtain⟨p1,hp,rfl⟩:=h;exact(pd_tail n r p1 hp).trans (Tail.cons t r)
  split at h
  ·simp only [Option.map_eq_some_iff] at h;obtain⟨p1,hp,rfl⟩:=h;exact(qL (pd n) (pd_tail n) _ r p1 hp).trans (Tail.cons t r)
  ·simp only [Option.map_eq_some_iff] at h;obtain⟨p1,hp,rfl⟩:=h;exact Tail.cons t r
def LF(f:List Tok->Option PR)(r0:List Tok)(ts:List Tre)(dp:Nat)(gr:Bool)(q:List Tok):Prop :=∃k,q.length<=k/\pls f r0.length r0=(pls f k q).map fun l=>⟨ts++l.ts,l.q,max dp l.dp,gr||l.gr⟩
theorem LF.start(f:List Tok->Option PR)(r0:List Tok):LF f r0 [] 0 false r0:=⟨r0.length,Nat.le_refl _,by cases pls f r0.length r0<;>simp⟩
theorem LF.close{f:List Tok->Option PR}{r0:List Tok}{ts:List Tre}{r:List Tok}(h:LF f r0 ts dp gr (g8::r)):pls f r0.length r0=some ⟨ts,r,dp,gr⟩:=by
 obtain⟨k,hk,h⟩:=h
 cases k with
 | zero=>simp at hk
 | succ k=>rw [h];unfold pls;simp
theorem LF.none_{f:List Tok->Option PR}{r0:List Tok}{ts:List Tre}(h:LF f r0 ts dp gr []):pls f r0.length r0=none:=by
 obtain⟨k,hk,h⟩:=h;rw [h]
 cases k<;>simp [pls]
theorem LF.fail{f:List Tok->Option PR}{r0:List Tok}{ts:List Tre}{t:Tok}{r:List Tok}(h:LF f r0 ts dp gr (t::r))(ht:¬t=g8)(hf:f (t::r)=none):pls f r0.length r0=none:=by
 obtain⟨k,hk,h⟩:=h
 cases k with
 | zero=>simp at hk
 | succ k=>rw [h];unfold pls;simp [ht,hf]
theorem LF.more{f:List Tok->Option PR}{r0:List Tok}{ts:List Tre}{t:Tok}{r:List Tok}{p:PR}(h:LF f r0 ts dp gr (t::r))(ht:¬t=g8)(hf:f (t::r)=some p)(hl:p.q.length<(t::r).length):LF f r0 (ts++[p.t]) (max dp p.dp) (gr||p.gr) p.q:=by
 obtain⟨k,hk,h⟩:=h
 cases k with
 | zero=>simp at hk
 | succ k =>
  simp only [List.length_cons] at hk hl;refine⟨k,by omega,?_⟩;rw [h,pls_cons,if_neg ht,hf];dsimp only
  cases pls f k p.q<;>simp [Nat.max_assoc,Bool.or_assoc]
end Pl
end
section
open Go.RowKit
variable {w:World} {L:Value} {b:Nat}
def ToksAt(w:World)(L:Value)(all:List (List UInt8)):Prop:=w.ownsRow 0 9 1 L all.length (all.map strV)
theorem ToksAt.keep{w':World}{all:List (List UInt8)}{c:Array Value}{f:Nat×Nat}(h:ToksAt w L all)(hg:w.grownBy w' (some b))(hb:w.heap[b]?=some (.cells c TR f)):ToksAt w' L all:=by
 refine World.ownsRow.kept h hg ?_;by_cases hL:L.ownBlock=some b
 ·exfalso;rcases h.2 with⟨hv,_⟩ | ⟨g,cap,cur,hv,_,hgg,_⟩
  ·subst hv;simp [Value.ownBlock] at hL
  ·subst hv;simp only [Value.ownBlock,Option.some.injEq] at hL;subst hL;rw [hb] at hgg;simp only [Option.some.injEq,Obj.cells.injEq] at hgg;have:=hgg.2.1;simp [TR] at this
 ·exact .inr hL
theorem bK{a b:World}{row:Option Nat}(h:a.grownBy b row)(n:Nat):a.grownBy (b.drewN n) row:=⟨h.os,h.tape,h.output,h.size,h.block⟩
theorem RepR.drewN{ok:Nat->Prop}{n m:Nat}{v:Value}{t:Tr}(h:RepR ok n w v t):RepR ok n (w.drewN m) v t:=RepR.keep (w:=w) (w':=w.drewN m) (fun _ _ _ _ _ h=>h) n v t h
theorem Rd.drewN{at_ dp:Int}{g:Bool}(h:Rd w b L at_ dp g)(m:Nat):Rd (w.drewN m) b L at_ dp g:=h
theorem Rd.cast{at_ at2 dp dp2:Int}{g g2:Bool}(h:Rd w b L at_ dp g)(h1:at_=at2)(h2:dp=dp2)(h3:g=g2):Rd w b L at2 dp2 g2:=by subst h1 h2 h3;exact h
theorem cB{o:Obj}{k:Nat}(h:k=w.heap.size):(w.alloc o).heap[k]?=some o:=by subst h;exact heap_alloc_new _ _
theorem fR(w:World)(a:Addr)(v:Value):(w.setCell a v).heap.size=w.heap.size:=by simp [World.setCell]
end
end Go.Proofs.YtkgbdddkcjpgfaaGreatDoor
