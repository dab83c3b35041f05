import Derived.Below
import Derived.Test.YtieooapcfpimlaaGreatDoorProg
import Derived.Conc.MuLone
import Derived.KernelRfl
import Derived.WalkKit
import Derived.WalkSpells
import Derived.WalkLawsBesides
import GoSem.ClaimWide
import Derived.Maps.OwnSet
import Derived.Lib.Bytealg
namespace Go.Proofs.YtieooapcfpimlaaGreatDoor
set_option maxHeartbeats 2000000
set_option maxRecDepth 100000
section
open Go.RowKit
variable {n i k:Nat} {w:World}
theorem h_{p:Prop}(h:p):Hid p:=h
theorem n_:n<=n:=Nat.le_refl n
theorem r_{B:Nat}:Below B w w:=Below.refl B w
theorem b_{o:Obj}:Below w.heap.size w (w.alloc o):=(Below.refl _ _).alloc (Nat.le_refl _) o
theorem i_{α:Type}{a b:α}(h:some a=some b):a=b:=Option.some.inj h
theorem s_{α:Type}{l:List α}{a:α}(h:l[i]?=some a):∃h:i<l.length,l[i]=a:=List.getElem?_eq_some_iff.1 h
theorem g_{α:Type}{l:List α}(h:i<l.length):l[i]?=some l[i]:=List.getElem?_eq_getElem h
theorem l_{m:Nat}(a:n<m)(b:m<=k):n<k:=Nat.lt_of_lt_of_le a b
theorem t_{m:Nat}(a:n<=m)(b:m<=k):n<=k:=Nat.le_trans a b
theorem c_{α:Type}{a:α}{l1:List α}:(a::l1).length=l1.length+1:=List.length_cons
theorem a_{α:Type}{l1 l2:List α}:(l1++l2).length=l1.length+l2.length:=List.length_append
theorem z_{α:Type}:([]:List α).length=0:=List.length_nil
theorem o_{α:Type}(a b:α):(some a=some b)=(a=b):=Option.some.injEq a b
theorem e_{α:Type}{l:List α}(h:l.length=0):l=[]:=List.eq_nil_of_length_eq_zero h
theorem m_{α β:Type}{f:α->β}{x:Option α}{b:β}(h:x.map f=some b):∃a,x=some a/\f a=b:=Option.map_eq_some_iff.1 h
theorem q_{α:Type}{l:List α}{a:α}(h:l[i]?=some a):a∈l:=List.mem_of_getElem? h
theorem k_{o:Obj}(h:k<w.heap.size):(w.alloc o).heap[k]?=w.heap[k]? := Below.heap_alloc w o k h
end
open Go.Proofs.Tryz
section
abbrev muLink:Go.Conc.Locks.MuLink:={lock:=36,unlock:=37,ilock:=48,iunlock:=49,lockSlow:=64,unlockSlow:=67,disable:=60,enable:=62,acquire:=63,relMerge:=65,cas32:=61,add32:=66,tMutex:=52,tIMutex:=50,tPMutex:=136,tPIMutex:=172,tPI32:=174,tUP:=124,tNoCopy:=47,tU32:=48}
theorem zR:Go.Conc.Locks.MuLib prog muLink :=
 ⟨func36,func37,func48,func49,func60,func62,func63,func65,func61,func66,
  underlying50,Tryz.runUnderlying50,Tryz.sizeOf50,Tryz.isAgg50,Tryz.zeroValue50,underlying52,Tryz.runUnderlying52,Tryz.sizeOf52,Tryz.isAgg52,Tryz.zeroValue52,underlying136,Tryz.runUnderlying136,Tryz.sizeOf136,Tryz.isAgg136,Tryz.zeroValue136,underlying172,Tryz.runUnderlying172,Tryz.sizeOf172,Tryz.isAgg172,Tryz.zeroValue172,underlying174,Tryz.runUnderlying174,Tryz.sizeOf174,Tryz.isAgg174,Tryz.zeroValue174,underlying124,Tryz.runUnderlying124,Tryz.sizeOf124,Tryz.isAgg124,Tryz.zeroValue124,underlying47,Tryz.runUnderlying47,Tryz.sizeOf47,Tryz.isAgg47,Tryz.zeroValue47,underlying21,Tryz.runUnderlying21,Tryz.sizeOf21,Tryz.isAgg21,Tryz.zeroValue21,(by kernel_rfl)⟩
end
section
namespace Pl
def A3(c:UInt8):Bool:=decide (48<=c.toNat)&&decide (c.toNat<=57)
def EZ:List UInt8:=[43,45,42,47,60,61,62,63,33]
def low(c:UInt8):Bool:=decide (97<=c.toNat)&&decide (c.toNat<=122)
def CV(c:UInt8):Bool:=decide (c∈EZ)||(low c||A3 c)
theorem QM(c:UInt8)(a:(97:Int)<=c.toNat)(b:(c.toNat:Int)<=122):low c=true:=by simp [low];omega
theorem PM(c:UInt8)(h:¬((97:Int)<=c.toNat/\(c.toNat:Int)<=122)):low c=false:=by simp only [low,Bool.and_eq_false_iff,decide_eq_false_iff_not];omega
theorem CR(a b:UInt8):((a.toNat:Int)==(b.toNat:Int))=(a==b):=by
 by_cases h:a=b
 ·subst h;simp
 ·have:¬(a.toNat:Int)=b.toNat:=fun e=>h (UInt8.toNat_inj.1 (by omega));rw [beq_eq_false_iff_ne.2 this,beq_eq_false_iff_ne.2 h]
end Pl
end
section
open Go.RowKit
theorem aP{a b:Bool}(h:a=b):Ending.returned (.bool a)=.returned (.bool b):=by rw [h]
end
section
variable {l:List UInt8} {pre:List (List UInt8)} {k:Nat}
namespace Pl
def blank(c:UInt8):Bool:=c==32||c==10
def H2(c:UInt8):Bool:=c==40||c==41||c==39
def KO:Nat->List UInt8->Option (List (List UInt8))
 | 0,_=>some []
 | _+1,[]=>some []
 | n+1,c::r =>
  if blank c then KO n r
  else if c==35 then
   match r with
   | []=>none
   | d::q=>if d==116||d==102 then(KO n q).map ([c,d]::·) else none
  else if CV c then(KO n (r.dropWhile CV)).map ((c::r.takeWhile CV)::·)
  else if H2 c then(KO n r).map ([c]::·)
  else none
theorem eQ(p:UInt8->Bool)(l:List UInt8):(l.dropWhile p).length<=l.length:=(List.dropWhile_sublist p).length_le
theorem eT:∀(n m:Nat)(l:List UInt8),l.length<=n->l.length<=m->KO n l=KO m l
 | 0,0,_,_,_=>rfl
 | 0,m+1,[],_,_=>rfl
 | 0,m+1,_::_,h,_=>by simp at h
 | n+1,0,[],_,_=>rfl
 | n+1,0,_::_,_,h=>by simp at h
 | n+1,m+1,[],_,_=>rfl
 | n+1,m+1,c::r,a,b=>by
  simp only [c_] at a b;have e:=eT n m r (by omega) (by omega);have g:=eQ CV r;have f:=eT n m (r.dropWhile CV) (by omega) (by omega);unfold KO;rw [e,f]
  cases r with
  | nil=>rfl
  | cons d q =>simp only [c_] at a b;dsimp only;rw [eT n m q (by omega) (by omega)]
def BX(l:List UInt8):Option (List (List UInt8)):=KO l.length l
theorem lB(n:Nat)(l:List UInt8)(h:l.length<=n):KO n l=BX l:=eT _ _ _ h n_
theorem wX:BX []=some []:=rfl
theorem rN(c:UInt8)(r:List UInt8)(h:blank c=true):BX (c::r)=BX r:=by simp [BX,KO,h]
theorem KY:BX [35]=none:=by decide
theorem MA(d:UInt8)(q:List UInt8)(h:(d==116||d==102)=true):BX (35::d::q)=(BX q).map ([35,d]::·):=by
 have a:blank 35=false:=by decide
 show KO (q.length+1+1) (35::d::q)=_;unfold KO;dsimp only;rw [lB _ q (by omega)];simp only [a,h];rfl
theorem J3(d:UInt8)(q:List UInt8)(h:(d==116||d==102)=false):BX (35::d::q)=none:=by
 have a:blank 35=false:=by decide
 show KO (q.length+1+1) (35::d::q)=_;unfold KO;simp only [a,h];rfl
theorem pN(c:UInt8)(h:CV c=true):blank c=false/\(c==35)=false:=by
 by_cases a:blank c=true
 ·simp only [blank,Bool.or_eq_true,beq_iff_eq] at a;rcases a with rfl | rfl<;>exact absurd h (by decide)
 ·refine⟨by simpa using a,?_⟩;by_cases b:c=35
  ·subst b;exact absurd h (by decide)
  ·simpa using b
theorem L9(c:UInt8)(r:List UInt8)(h:CV c=true):BX (c::r)=(BX (r.dropWhile CV)).map ((c::r.takeWhile CV)::·):=by obtain⟨a,b⟩:=pN c h;show KO (r.length+1) (c::r)=_;unfold KO;rw [lB _ (r.dropWhile CV) (eQ _ _)];simp [a,b,h]
theorem KX(c:UInt8)(r:List UInt8)(b:CV c=false)(h:H2 c=true):BX (c::r)=(BX r).map ([c]::·):=by
 have a:blank c=false/\(c==35)=false:=by simp only [H2,Bool.or_eq_true,beq_iff_eq] at h;rcases h with(rfl | rfl) | rfl<;>decide
 show KO (r.length+1) (c::r)=_;unfold KO;rw [lB _ r n_];simp [a.1,a.2,h,b]
theorem NL(c:UInt8)(r:List UInt8)(a:blank c=false)(b:(c==35)=false)(d:CV c=false)(e:H2 c=false):BX (c::r)=none:=by show KO (r.length+1) (c::r)=_;unfold KO;simp [a,b,d,e]
def DO(l:List UInt8)(pre:List (List UInt8))(k:Nat):Prop:=BX l=(BX (l.drop k)).map (pre++·)
theorem DO.start(l:List UInt8):DO l [] 0:=by unfold DO;simp
theorem DO.end_(h:DO l pre k)(a:l.length<=k):BX l=some pre:=by rw [h,List.drop_of_length_le a,wX];simp
theorem EN{α:Type}(l:List α)(k:Nat)(h:k<l.length):l.drop k=l[k]::l.drop (k+1):=List.drop_eq_getElem_cons h
theorem DO.blank(h:DO l pre k)(a:k<l.length)(b:Pl.blank l[k]=true):DO l pre (k+1):=by unfold DO at *;rw [h,EN l k a,rN _ _ b]
theorem DO.none_(h:DO l pre k)(a:BX (l.drop k)=none):BX l=none:=by rw [h,a];rfl
theorem DO.more{m:Nat}{t:List UInt8}(h:DO l pre k)(a:BX (l.drop k)=(BX (l.drop m)).map (t::·)):DO l (pre++[t]) m:=by
 unfold DO at *;rw [h,a]
 cases BX (l.drop m)<;>simp
theorem G8(p:UInt8->Bool):∀(l:List UInt8)(m:Nat),m<=l.length->(∀j (h:j<l.length),j<m->p l[j]=true)->(∀h:m<l.length,p (l[m])=false)->l.takeWhile p=l.take m/\l.dropWhile p=l.drop m
 | [],m,_,_,_=>by simp
 | c::r,0,_,_,a=>by have:=a (by simp);simp at this;simp [List.takeWhile,List.dropWhile,this]
 | c::r,m+1,e,b,a=>by have f:p c=true:=b 0 (by simp) (by omega);have d:=G8 p r m (by simpa using e) (fun j h g=>by have:=b (j+1) (by simpa using h) (by omega);simpa using this) (fun h=>by have:=a (by simpa using h);simpa using this);simp [List.takeWhile,List.dropWhile,f,d.1,d.2]
end Pl
end
section
open Go.RowKit
def strV(l:List UInt8):Value:=.string ⟨l.toArray⟩
theorem bE(s:ByteArray)(k:Nat)(h:k<s.size):s.data.toList[k]'(by simpa using h)=s[k]:=by rw [Array.getElem_toList];rfl
theorem b32(c:UInt8):((c.toNat:Int)==32)=(c==32):=Pl.CR c 32
theorem b10(c:UInt8):((c.toNat:Int)==10)=(c==10):=Pl.CR c 10
theorem b35(c:UInt8):((c.toNat:Int)==35)=(c==35):=Pl.CR c 35
theorem b40(c:UInt8):((c.toNat:Int)==40)=(c==40):=Pl.CR c 40
theorem b41(c:UInt8):((c.toNat:Int)==41)=(c==41):=Pl.CR c 41
theorem b39(c:UInt8):((c.toNat:Int)==39)=(c==39):=Pl.CR c 39
end
section
namespace Pl
def CG:Nat:=1099511627776
def minus(w:List UInt8):Bool:=decide (1<w.length)&&(w.headD 0==45)
def EY(w:List UInt8):List UInt8:=if minus w then w.drop 1 else w
def isNum(w:List UInt8):Bool:=(EY w).all A3
def DZ(w:List UInt8):Bool:=w.all (fun c=>!A3 c)
def F5(ds:List UInt8):Nat:=ds.foldl (fun a c=>10*a+(c.toNat-48)) 0
def F3(w:List UInt8):Int:=if minus w then -(F5 (EY w):Int) else(F5 (EY w):Int)
def ER(w:List UInt8):Bool:=decide (CG<F5 (EY w))
theorem vR(a:List UInt8)(c:UInt8):F5 (a++[c])=10*F5 a+(c.toNat-48):=by simp [F5]
theorem I2{p:UInt8->Bool}(l:List UInt8)(h:∀j (h:j<l.length),p l[j]=true):l.all p=true:=by rw [List.all_eq_true];intro x a;obtain⟨j,b,rfl⟩:=List.getElem_of_mem a;exact h j b
theorem GJ{p:UInt8->Bool}(l:List UInt8)(j:Nat)(a:j<l.length)(h:p l[j]=false):l.all p=false:=by rw [List.all_eq_false];exact⟨l[j],List.getElem_mem _,by simp [h]⟩
theorem Q2(c:UInt8)(h:A3 c=true):48<=c.toNat/\c.toNat<=57:=by simpa [A3] using h
end Pl
end
section
open Go.RowKit
variable {w a:World} {b:Nat} {c:Array Value} {T:TypeId}
theorem eP(s:ByteArray)(i k:Nat):(s.extract i k).data.toList=(s.data.toList.drop i).take (k-i):=by rw [ByteArray.data_extract];simp [Array.toList_extract,List.extract_eq_take_drop]
abbrev Tr:=DataW Unit
def gW(m:Int):Prop:=-(Pl.CG:Int)<=m/\m<=(Pl.CG:Int)
theorem aB{k:Nat}{o:Obj}(h:w.heap[k]?=some o):k<w.heap.size:=(Array.getElem?_eq_some_iff.1 h).1
theorem aA(h:w.heap[b]?=some (.cells c T (0,0)))(o:Nat):w.cell? ⟨b,o,none⟩=c[o]? := by simp [World.cell?,h]
theorem aF(h:w.heap[b]?=some (.cells c T (0,0)))(o:Nat):w.frozen? ⟨b,o,none⟩=false:=by simp [World.frozen?,h]
theorem aD(h:w.heap[b]?=some (.cells c T (0,0)))(o:Nat)(v:Value):(w.setCell ⟨b,o,none⟩ v).heap[b]?=some (.cells (c.setIfInBounds o v) T (0,0)):=by simp [World.setCell,Array.getElem?_modify,h]
theorem aE(w:World)(b o:Nat)(v:Value):w.grownBy (w.setCell ⟨b,o,none⟩ v) (some b) :=⟨rfl,rfl,rfl,by simp [World.setCell],fun k _ a=>Below.heap_setCell _ _ _ _ (fun e=>a (by simp [e]))⟩
theorem aC{b c:World}{row:Option Nat}(h:a.grownBy b row)(k:b.grownBy c row):a.grownBy c row :=⟨k.os.trans h.os,k.tape.trans h.tape,k.output.trans h.output,t_ h.size k.size,fun i e d=>(k.block i (l_ e h.size) d).trans (h.block i e d)⟩
theorem aQ{b:World}(row:Option Nat)(h:Below a.heap.size a b):a.grownBy b row:=⟨h.os,h.tape,h.output,h.size,fun k c _=>h.block k c⟩
theorem cS{b:World}(h:a.grownBy b none):Below a.heap.size a b:=⟨h.os,h.tape,h.output,h.size,fun k c=>h.block k c (by simp)⟩
end
section
open Go.RowKit Go.Maps Go.MuLone
variable {ns:List (List UInt8)} {w:World} {tb mb:Nat}
def H7:TypeId:=54
theorem lawS:Keyed prog 9:=string_keyed underlying9
theorem aKS:Keyed prog 3:=int_keyed underlying3
theorem ZV(w:World):(zeroValue 3).run prog w=.ok (.int .i64 0) w:=by kernel_rfl
structure P4(D:DataW Unit)(ns:List (List UInt8)):Prop where
 tidy:Tidy D
 size:Maps.size D=ns.length
 yes:∀(k:Nat)(s:List UInt8),ns[k]?=some s->Maps.has D (.string s)=true/\∀z,D.atKey (.string s) z=.lit (.int .i64 k)
 no:∀s,s∉ns->Maps.has D (.string s)=false
 nodup:ns.Nodup
theorem P4.nil:P4 (.map []) []:=⟨tidy_empty,rfl,fun k s h=>by simp at h,fun s _=>rfl,List.nodup_nil⟩
theorem P4.push{D:DataW Unit}(h:P4 D ns){s:List UInt8}(g:s∉ns):P4 (D.put (.string s) (.lit (.int .i64 (ns.length:Int)))) (ns++[s]):=by
 have i:WideAt.IsKeyLit (.string s):=trivial;refine⟨h.tidy.put i _,by rw [size_put h.tidy,h.no s g,h.size];simp,?_,?_,?_⟩
 ·intro k t c;by_cases e:t=s
  ·subst e
   have:k=ns.length:=by
    rcases Nat.lt_or_ge k ns.length with d | d
    ·rw [List.getElem?_append_left d] at c;exact absurd (q_ c) g
    ·have:=(s_ c).1;simp at this;omega
   subst this;exact⟨has_put_same h.tidy.isMap i _,fun z=>atKey_put_same h.tidy.isMap i _ z⟩
  ·have f:(Lit.string t)≠.string s:=fun x=>e (by simpa using x)
   have d:k<ns.length:=by
    rcases Nat.lt_or_ge k ns.length with d | d
    ·exact d
    ·rw [List.getElem?_append_right d] at c;have j:=q_ c;simp at j;exact absurd j e
   rw [List.getElem?_append_left d] at c;obtain⟨m,n⟩:=h.yes k t c;exact⟨by rw [has_put_other f];exact m,fun z=>by rw [atKey_put_other f];exact n z⟩
 ·intro t c;simp only [List.mem_append,List.mem_singleton,not_or] at c;rw [has_put_other (fun x=>c.2 (by simpa using x))];exact h.no t c.1
 ·rw [List.nodup_append];refine⟨h.nodup,by simp,?_⟩;rintro a o b l;rintro rfl;simp at l;subst l;exact g o
structure IW(w:World)(tb mb:Nat)(ns:List (List UInt8)):Prop where
 blk:w.heap[tb]?=some (.cells #[.int .i32 0,.int .u32 0,.map (some mb)] H7 (0,0))
 map:∃D:DataW Unit,w.ownsMap prog 9 (plainElem prog 3) mb ns.length D/\P4 D ns
theorem IW.ne(h:IW w tb mb ns):mb≠tb:=by rintro rfl;obtain⟨D,⟨b,c,a,_⟩,_⟩:=h.map;rw [h.blk] at a;simp at a
theorem IW.lt(h:IW w tb mb ns):tb<w.heap.size/\mb<w.heap.size:=⟨aB h.blk,by obtain⟨D,a,_⟩:=h.map;exact a.lt⟩
theorem IW.keep{w':World}(h:IW w tb mb ns)(a:w'.heap[tb]?=w.heap[tb]?)(b:w'.heap[mb]?=w.heap[mb]?):IW w' tb mb ns:=by obtain⟨D,⟨c,d,e,r⟩,f⟩:=h.map;exact⟨a.trans h.blk,D,⟨c,d,b.trans e,r⟩,f⟩
def b9(ns:List (List UInt8))(s:List UInt8):List (List UInt8):=if s∈ns then ns else ns++[s]
theorem internL_get(ns:List (List UInt8))(s:List UInt8):(b9 ns s)[ns.idxOf s]?=some s:=by
 unfold b9;by_cases h:s∈ns
 ·rw [if_pos h];have a:=List.idxOf_lt_length_of_mem h;rw [g_ a,List.getElem_idxOf a]
 ·rw [if_neg h,List.idxOf_eq_length h];simp
theorem pL(ns:List (List UInt8))(s:List UInt8):ns <+: b9 ns s:=by
 unfold b9;split
 ·exact List.prefix_refl _
 ·exact List.prefix_append _ _
theorem dE(ns:List (List UInt8))(s:List UInt8):(b9 ns s).length<=ns.length+1:=by unfold b9;split<;>simp
theorem sE(w:World):Calls prog 13 #[] w fun e a=>e=.returned (.pointer (some ⟨w.heap.size+1,0,none⟩))/\Below w.heap.size w a/\IW a (w.heap.size+1) w.heap.size []:=by
 have b:=@run_makeMap prog;go_enter func13,ntmps13;go_wp2;go_ret;refine⟨rfl,b_.alloc (by simp) _,⟨?_,.map [],?_,P4.nil⟩⟩
 ·have:=heap_alloc_new (w.alloc (.map #[] 0)) (.cells #[.int .i32 0,.int .u32 0,.map (some w.heap.size)] H7);simpa [H7] using this
 ·exact(World.ownsMap_made w _ _ _).alloc _
theorem nT{c:Array Value}{T:TypeId}(h:w.heap[tb]?=some (.cells c T (0,0)))(j:c[0]?=some (.int .i32 0))(x:Value){w1:World}(a:(w.setCell ⟨tb,0,none⟩ x).grownBy w1 (some mb))(b:mb≠tb) :(w1.setCell ⟨tb,0,none⟩ (.int .i32 0)).heap[tb]?=w.heap[tb]? /\ w.grownBy (w1.setCell ⟨tb,0,none⟩ (.int .i32 0)) (some mb):=by
 have d:=aB h;have k:w1.heap[tb]?=some (.cells (c.setIfInBounds 0 x) T (0,0)):=by rw [a.block tb (by simpa [World.setCell] using d) (fun e=>b (i_ e).symm)];exact aD h 0 x
 have g:(w1.setCell ⟨tb,0,none⟩ (.int .i32 0)).heap[tb]?=w.heap[tb]? := by
  rw [aD k 0,h,Array.setIfInBounds_setIfInBounds]
  congr 2
  apply Array.ext_getElem?;intro i;rw [Array.getElem?_setIfInBounds];split
  ·rename_i f;subst f;split
   ·exact j.symm
   ·rw [Array.getElem?_eq_none (by omega)]
  ·rfl
 refine⟨g,⟨a.os,a.tape,a.output,by have:=a.size;simpa [World.setCell] using this,fun i f l=>?_⟩⟩;by_cases e:i=tb
 ·subst e;exact g
 ·rw [Below.heap_setCell _ _ _ _ (fun x=>e (by simpa using x)),a.block i (by simpa [World.setCell] using f) l,Below.heap_setCell _ _ _ _ (fun x=>e (by simpa using x))]
theorem jE(w:World)(tb mb:Nat)(ns:List (List UInt8))(s:List UInt8)(h:IW w tb mb ns)(U:s.length<=1000000)(V:ns.length<=1000000000000000000) :Calls prog 27 #[.pointer (some ⟨tb,0,none⟩),.string ⟨s.toArray⟩] w fun e t=>e=.returned (.int .i64 (ns.idxOf s:Nat))/\IW t tb mb (b9 ns s)/\w.grownBy t (some mb):=by
 have H:=h_ h;have d:=h.ne;obtain⟨o,D,q,p⟩:=h;have u:w.cell? ⟨tb,0,none⟩=some (.int .i32 0):=aA o 0;have v:w.frozen? ⟨tb,0,none⟩=false:=aF o 0;have W:w.cell? ⟨tb,0+2,none⟩=some (.map (some mb)):=aA o 2;have i:keyOf prog 9 (.string ⟨s.toArray⟩)=some (.string s):=WideMaps.keyOf_string_mk underlying9 (by unfold maxLen;show s.toArray.size<=_;simp;omega);have b:=q.setCell (a:=⟨tb,0,none⟩) d (.int .i32 1);have l:=h_ o;have I:=h_ p;by_cases j:s∈ns
 ·obtain⟨J,k⟩:=p.yes _ _ (show ns[ns.idxOf s]?=some s by rw [g_ (List.idxOf_lt_length_of_mem j),List.getElem_idxOf]);have x:Hid (b9 ns s=ns):=show b9 ns s=ns from by unfold b9;rw [if_pos j]
  have K:=h_ k;clear o p j k
  go_enter_defers func27,ntmps27
  go_wp2_with (first
   | (go_at_call 36;refine(lock_free zR ⟨tb,0,none⟩ _ u v).mono ?_;rintro e t ⟨rfl,rfl⟩)
   | (at_lookup;refine wpList_lookup_own_ok_int _ rfl _ _ 45 rfl 9 3 .i64 lawS underlying45 underlying3 (ZV _) mb ns.length D rfl b _ _ rfl i ?_;intro c m y))
  refine leaves_cons (f:=37) (args:=#[.pointer (some ⟨tb,0,none⟩)]) (by simp) (by simp [go_sem]) ?_;refine(unlock_deferred zR ⟨tb,0,none⟩ .returning _ (World.cell?_setCell_same w ⟨tb,0,none⟩ (.int .i32 1) u) (by simp [v])).mono ?_;rintro e L z ⟨rfl,rfl,rfl⟩;have M:c=(ns.idxOf s:Nat):=by rw [K.out] at m;simpa using m.symm
  obtain⟨A,B⟩:=nT l rfl (.int .i32 1) (w1:=w.setCell ⟨tb,0,none⟩ (.int .i32 1)) (mb:=mb) ⟨rfl,rfl,rfl,n_,fun _ _ _=>rfl⟩ d;refine⟨_,results_tmp rfl _ _ _,by rw [M];rfl,?_,B⟩;rw [x.out];exact H.keep A (by rw [Below.heap_setCell _ _ _ _ d,Below.heap_setCell _ _ _ _ d])
 ·have J:=p.no s j;have x:Hid (b9 ns s=ns++[s]):=show b9 ns s=_ from by unfold b9;rw [if_neg j]
  have N:=h_ (List.idxOf_eq_length j);have O:=h_ j;have C:=p.size;have E:(Lit.int .i64 ((ns.length:Nat):Int)).wf=true:=WalkArith.wf_i64 (by omega);clear o p j
  go_enter_defers func27,ntmps27
  go_wp2_with (first
   | (go_at_call 36;refine(lock_free zR ⟨tb,0,none⟩ _ u v).mono ?_;rintro e t ⟨rfl,rfl⟩)
   | (at_lookup;refine wpList_lookup_own_ok_int _ rfl _ _ 45 rfl 9 3 .i64 lawS underlying45 underlying3 (ZV _) mb ns.length D rfl b _ _ rfl i ?_;intro c m y)
   | (at_len;refine wpList_len_own _ rfl _ 45 rfl 9 3 underlying45 _ mb ns.length D rfl b ?_;rw [C])
   | (at_mapUpdate;refine wpList_mapUpdate_own _ rfl _ _ _ 45 rfl 9 3 lawS underlying45 _ mb ns.length D rfl b (by unfold maxLen;omega) _ _ _ rfl rfl i _ [] (plainElem_int underlying3 E) ?_;intro G n g))
  have P:G.cell? ⟨tb,0,none⟩=some (.int .i32 1):=by have r:=g.block tb (by simpa [World.setCell] using aB l) (fun e=>d (i_ e).symm);rw [aD l.out 0] at r;exact aA r 0
  have Q:G.frozen? ⟨tb,0,none⟩=false:=by have r:=g.block tb (by simpa [World.setCell] using aB l) (fun e=>d (i_ e).symm);rw [aD l.out 0] at r;exact aF r 0
  refine leaves_cons (f:=37) (args:=#[.pointer (some ⟨tb,0,none⟩)]) (by simp) (by simp [go_sem]) ?_;refine(unlock_deferred zR ⟨tb,0,none⟩ .returning _ P Q).mono ?_;rintro e L z ⟨rfl,rfl,rfl⟩;obtain⟨A,B⟩:=nT l rfl (.int .i32 1) g d;refine⟨_,results_tmp rfl _ _ _,by rw [N.out];rfl,?_,B⟩;rw [x.out];obtain⟨R,S,F,T⟩:=n;refine⟨A.trans l,_,⟨R,S,?_,by simpa using T⟩,I.push O⟩;rw [Below.heap_setCell _ _ _ _ d];exact F
end
section
variable {dp:Nat} {gr:Bool}
namespace Pl
abbrev Tok:=List UInt8
abbrev A9:=DataW Unit
def aP1:Tok:=[40]
def g8:Tok:=[41]
def tN:Tok:=[39]
def aP0:Tok:=[35,116]
def tO:Tok:=[35,102]
def CB:List UInt8:=[113,117,111,116,101]
structure PR where
 t:A9
 q:List Tok
 dp:Nat
 gr:Bool
structure PL where
 ts:List A9
 q:List Tok
 dp:Nat
 gr:Bool
def pw(t:Tok):Option (A9×Bool) :=if isNum t then some (.lit (.int .i64 (F3 t)),ER t) else if DZ t then some (.lit (.string t),false) else none
def IG(f:List Tok->Option PR):Nat->List Tok->Option PL
 | 0,_=>none
 | _+1,[]=>none
 | k+1,t::r =>
  if t=g8 then some ⟨[],r,0,false⟩
  else match f (t::r) with
   | none=>none
   | some p=>(IG f k p.q).map fun l=>⟨p.t::l.ts,l.q,max p.dp l.dp,p.gr||l.gr⟩
theorem I9(f:List Tok->Option PR)(k:Nat)(t:Tok)(r:List Tok):IG f (k+1) (t::r)=if t=g8 then some ⟨[],r,0,false⟩ else match f (t::r) with
  | none=>none
  | some p=>(IG f k p.q).map fun l=>⟨p.t::l.ts,l.q,max p.dp l.dp,p.gr||l.gr⟩:=rfl
def pd:Nat->List Tok->Option PR
 | 0,_=>none
 | _+1,[]=>none
 | n+1,t::r =>
  if t=g8 then none
  else if t=aP0 then some ⟨.lit (.bool true),r,0,false⟩
  else if t=tO then some ⟨.lit (.bool false),r,0,false⟩
  else if t=tN then(pd n r).map fun p=>⟨.agg [.lit (.string CB),p.t],p.q,p.dp+1,p.gr⟩
  else if t=aP1 then(IG (pd n) r.length r).map fun p=>⟨.agg p.ts,p.q,p.dp+1,p.gr⟩
  else(pw t).map fun p=>⟨p.1,r,0,p.2⟩
theorem NR(n:Nat)(t:Tok)(r:List Tok)(h:t=[41]):pd (n+1) (t::r)=none:=by subst h;rfl
theorem QK(n:Nat)(t:Tok)(r:List Tok)(h:t=[35,116]):pd (n+1) (t::r)=some ⟨.lit (.bool true),r,0,false⟩:=by subst h;rfl
theorem NQ(n:Nat)(t:Tok)(r:List Tok)(h:t=[35,102]):pd (n+1) (t::r)=some ⟨.lit (.bool false),r,0,false⟩:=by subst h;rfl
theorem H6(n:Nat)(t:Tok)(r:List Tok)(h:t=[39]):pd (n+1) (t::r)=(pd n r).map fun p=>⟨.agg [.lit (.string CB),p.t],p.q,p.dp+1,p.gr⟩:=by subst h;rfl
theorem GH(n:Nat)(t:Tok)(r:List Tok)(h:t=[40]):pd (n+1) (t::r)=(IG (pd n) r.length r).map fun p=>⟨.agg p.ts,p.q,p.dp+1,p.gr⟩:=by subst h;rfl
theorem QJ(n:Nat)(t:Tok)(r:List Tok)(a:¬t=[41])(b:¬t=[35,116])(c:¬t=[35,102])(d:¬t=[39])(e:¬t=[40]):pd (n+1) (t::r)=(pw t).map fun p=>⟨p.1,r,0,p.2⟩:=by show(if t=g8 then none else if t=aP0 then _ else if t=tO then _ else if t=tN then _ else if t=aP1 then _ else _)=_;rw [if_neg (show ¬t=g8 from a),if_neg (show ¬t=aP0 from b),if_neg (show ¬t=tO from c),if_neg (show ¬t=tN from d),if_neg (show ¬t=aP1 from e)]
def I3(q l:List Tok):Prop:=q <:+ l/\q.length<l.length
theorem I3.cons(t:Tok)(r:List Tok):I3 r (t::r):=⟨List.suffix_cons t r,by simp⟩
theorem I3.trans{a b c:List Tok}(h:I3 a b)(k:I3 b c):I3 a c:=⟨h.1.trans k.1,by have:=h.2;have:=k.2;omega⟩
theorem qL(f:List Tok->Option PR)(b:∀l p,f l=some p->I3 p.q l):∀(k:Nat)(l:List Tok)(p:PL),IG f k l=some p->I3 p.q l
 | 0,_,_,h=>by simp [IG] at h
 | _+1,[],_,h=>by simp [IG] at h
 | k+1,t::r,p,h=>by
  unfold IG at h;split at h
  ·obtain rfl:=i_ h;exact I3.cons t r
  ·cases a:f (t::r) with
   | none=>rw [a] at h;simp at h
   | some c =>rw [a] at h;simp only [Option.map_eq_some_iff] at h;obtain⟨l,d,rfl⟩:=h;exact(qL f b k c.q l d).trans (b _ _ a)
theorem DA:∀(n:Nat)(l:List Tok)(p:PR),pd n l=some p->I3 p.q l
 | 0,_,_,h=>by simp [pd] at h
 | _+1,[],_,h=>by simp [pd] at h
 | n+1,t::r,p,h=>by
  unfold pd at h;split at h
  ·simp at h
  split at h
  ·obtain rfl:=i_ h;exact I3.cons t r
  split at h
  ·obtain rfl:=i_ h;exact I3.cons t r
  split at h
  ·simp only [Option.map_eq_some_iff] at h;obtain⟨a,b,rfl⟩:=h;exact(DA n r a b).trans (I3.cons t r)
  split at h
  ·simp only [Option.map_eq_some_iff] at h;obtain⟨a,b,rfl⟩:=h;exact(qL (pd n) (DA n) _ r a b).trans (I3.cons t r)
  ·simp only [Option.map_eq_some_iff] at h;obtain⟨a,b,rfl⟩:=h;exact I3.cons t r
def LF(f:List Tok->Option PR)(r0:List Tok)(ts:List A9)(dp:Nat)(gr:Bool)(q:List Tok):Prop :=∃k,q.length<=k/\IG f r0.length r0=(IG f k q).map fun l=>⟨ts++l.ts,l.q,max dp l.dp,gr||l.gr⟩
theorem LF.start(f:List Tok->Option PR)(a:List Tok):LF f a [] 0 false a:=⟨a.length,n_,by cases IG f a.length a<;>simp⟩
theorem LF.close{f:List Tok->Option PR}{a:List Tok}{b:List A9}{r:List Tok}(h:LF f a b dp gr (g8::r)):IG f a.length a=some ⟨b,r,dp,gr⟩:=by
 obtain⟨k,c,h⟩:=h
 cases k with
 | zero=>simp at c
 | succ k=>rw [h];unfold IG;simp
theorem LF.none_{f:List Tok->Option PR}{a:List Tok}{b:List A9}(h:LF f a b dp gr []):IG f a.length a=none:=by
 obtain⟨k,c,h⟩:=h;rw [h]
 cases k<;>simp [IG]
theorem LF.fail{f:List Tok->Option PR}{a:List Tok}{b:List A9}{t:Tok}{r:List Tok}(h:LF f a b dp gr (t::r))(c:¬t=g8)(d:f (t::r)=none):IG f a.length a=none:=by
 obtain⟨k,e,h⟩:=h
 cases k with
 | zero=>simp at e
 | succ k=>rw [h];unfold IG;simp [c,d]
theorem LF.more{f:List Tok->Option PR}{a:List Tok}{b:List A9}{t:Tok}{r:List Tok}{p:PR}(h:LF f a b dp gr (t::r))(d:¬t=g8)(e:f (t::r)=some p)(g:p.q.length<(t::r).length):LF f a (b++[p.t]) (max dp p.dp) (gr||p.gr) p.q:=by
 obtain⟨k,c,h⟩:=h
 cases k with
 | zero=>simp at c
 | succ k =>
  simp only [c_] at c g;refine⟨k,by omega,?_⟩;rw [h,I9,if_neg d,e];dsimp only
  cases IG f k p.q<;>simp [Nat.max_assoc,Bool.or_assoc]
end Pl
namespace Pl
def VN:List UInt8:=[105,102]
def C3:List UInt8:=[108,97,109,98,100,97]
def LR:List UInt8:=[115,101,116,33]
def CK:List UInt8:=[100,101,102,105,110,101]
def FX:List UInt8:=[98,101,103,105,110]
def K2:List UInt8:=[108,101,116]
def RZ:List (List UInt8):=[CB,VN,C3,LR,CK,FX,K2]
def EE(s:List UInt8):Bool:=decide (s∈RZ)
def isName:A9->Bool
 | .lit (.string s)=>!EE s
 | _=>false
def strOf:A9->List UInt8
 | .lit (.string s)=>s
 | _=>[]
def CJ(l:List A9):Bool:=l.all isName&&decide ((l.map strOf).Nodup)
def BI:A9->Bool
 | .agg [_,_]=>true
 | _=>false
def DC:A9->A9
 | .agg (a::_)=>a
 | _=>.nil
def BU:A9->A9
 | .agg (_::b::_)=>b
 | _=>.nil
def D_(f:A9->Bool)(ns body:A9):Bool :=
 match ns with
 | .agg l=>CJ l&&f body
 | _=>false
def C_(f:A9->Bool)(ps body:A9):Bool :=
 match ps with
 | .agg l=>l.all BI&&(CJ (l.map DC)&&f body)&&(l.map BU).all f
 | _=>false
def OI(f:A9->Bool)(r:List A9):Bool :=
 match r with
 | [n,e]=>isName n&&f e
 | _=>false
def lam2(f:A9->Bool)(r:List A9):Bool :=
 match r with
 | [n,e]=>D_ f n e
 | _=>false
def let2(f:A9->Bool)(r:List A9):Bool :=
 match r with
 | [n,e]=>C_ f n e
 | _=>false
def KS(f:A9->Bool)(h:List UInt8)(r:List A9):Bool :=
 if h=CB then r.length==1
 else if h=VN then r.length==3&&r.all f
 else if h=FX then !r.isEmpty&&r.all f
 else if h=LR then OI f r
 else if h=C3 then lam2 f r
 else if h=K2 then let2 f r
 else false
def BJ:List A9->Option (List UInt8)
 | .lit (.string h)::_=>if EE h then some h else none
 | _=>none
def F7(f:A9->Bool)(ks:List A9):Bool :=
 match ks with
 | []=>false
 | k::r=>match BJ (k::r) with
  | some h=>KS f h r
  | none=>f k&&r.all f
def C4:Nat->A9->Bool
 | 0,_=>false
 | n+1,t=>match t with
  | .lit (.int _ _)=>true
  | .lit (.bool _)=>true
  | .lit (.string s)=>!EE s
  | .agg ks=>F7 (C4 n) ks
  | _=>false
def GY(n:Nat)(t:A9):Bool :=
 match t with
 | .agg (.lit (.string h)::r)=>if h=CK then OI (C4 n) r else C4 (n+1) t
 | _=>C4 (n+1) t
theorem IH(s:List UInt8):EE s=true↔s∈RZ:=by simp [EE]
end Pl
namespace Pl
def BF(t:Tok):Bool:=!(CV (t.headD 0))||(isNum t||DZ t)
def check(bs:List UInt8):Nat :=
 if 300<bs.length then 1
 else match BX bs with
  | none=>2
  | some l =>
   if l.all BF=false then 2
   else match pd l.length l with
    | none=>2
    | some p =>
     if p.q≠[] then 2
     else if 20<p.dp then 3
     else if p.gr=true then 4
     else if GY (l.length-1) p.t=true then 0 else 5
theorem fP:∀(n:Nat)(g:List UInt8)(l:List Tok),KO n g=some l->l.length<=g.length/\∀t∈l,0<t.length/\t.length<=g.length
 | 0,_,_,h=>by obtain rfl:=i_ h;simp
 | _+1,[],_,h=>by obtain rfl:=i_ h;simp
 | n+1,c::r,l,h=>by
  unfold KO at h;split at h
  ·have b:=fP n r l h;refine⟨by simp;omega,fun t a=>⟨(b.2 t a).1,by have:=(b.2 t a).2;simp;omega⟩⟩
  split at h
  ·cases r with
   | nil=>simp at h
   | cons d q =>
    dsimp only at h;split at h
    ·simp only [Option.map_eq_some_iff] at h;obtain⟨e,f,rfl⟩:=h;have b:=fP n q e f;refine⟨by simp;omega,fun t a=>?_⟩;rcases List.mem_cons.1 a with rfl | a
     ·simp
     ·exact⟨(b.2 t a).1,by have:=(b.2 t a).2;simp;omega⟩
    ·simp at h
  split at h
  ·simp only [Option.map_eq_some_iff] at h;obtain⟨e,f,rfl⟩:=h;have b:=fP n _ e f;have j:=eQ CV r;have i:(r.takeWhile CV).length<=r.length:=(List.takeWhile_sublist CV).length_le;refine⟨by simp;omega,fun t a=>?_⟩;rcases List.mem_cons.1 a with rfl | a
   ·simp;omega
   ·exact⟨(b.2 t a).1,by have:=(b.2 t a).2;simp;omega⟩
  split at h
  ·simp only [Option.map_eq_some_iff] at h;obtain⟨e,f,rfl⟩:=h;have b:=fP n r e f;refine⟨by simp;omega,fun t a=>?_⟩;rcases List.mem_cons.1 a with rfl | a
   ·simp
   ·exact⟨(b.2 t a).1,by have:=(b.2 t a).2;simp;omega⟩
  ·simp at h
theorem F2{bs:List UInt8}{l:List Tok}(h:BX bs=some l):l.length<=bs.length/\∀t∈l,0<t.length/\t.length<=bs.length:=fP _ _ _ h
end Pl
end
open Pl (CV A3)
section
open Go.RowKit
theorem bX(c:UInt8)(w:World) :Calls prog 104 #[.int .u8 (c.toNat:Int)] w fun e a=>e=.returned (.bool (A3 c))/\w=a:=by
 by_cases b:(48:Int)<=c.toNat
 ·by_cases d:(c.toNat:Int)<=57
  ·go_enter func104,ntmps104
   go_wp2
   go_ret;exact⟨by simp [A3];omega,rfl⟩
  ·go_enter func104,ntmps104
   go_wp2
   go_ret;exact⟨by simp [A3];omega,rfl⟩
 ·go_enter func104,ntmps104
  go_wp2
  go_ret;exact⟨by simp [A3];omega,rfl⟩
theorem nG(c:UInt8)(w:World) :Calls prog 68 #[.int .u8 (c.toNat:Int)] w fun e f=>e=.returned (.bool (Pl.blank c))/\w=f:=by
 by_cases b:(c==32)=true
 ·have g:((c.toNat:Int)==32)=true:=by rw [b32];exact b
  have d:Hid (Pl.blank c=true):=by simp [Hid,Pl.blank,b]
  clear b;go_enter func68,ntmps68;go_wp2;go_ret;exact⟨aP d.symm,rfl⟩
 ·have a:(c==32)=false:=by simpa using b
  have g:((c.toNat:Int)==32)=false:=by rw [b32];exact a
  have d:Hid (Pl.blank c=((c.toNat:Int)==10)):=by simp [Hid,Pl.blank,a,b10]
  clear b a;go_enter func68,ntmps68;go_wp2;go_ret;exact⟨aP d.symm,rfl⟩
theorem UD(c:UInt8):∀l:List UInt8,(0<=Lib.indexByte l c)↔c∈l
 | []=>by simp [Lib.indexByte]
 | b::l=>by
  have d:=UD c l;have f:=Lib.indexByte_ge l c;unfold Lib.indexByte;by_cases a:b=c
  ·simp [a]
  ·rw [if_neg (by simpa using a)];by_cases e:Lib.indexByte l c=-1
   ·rw [if_pos (by simpa using e)];have:¬c∈l:=fun h=>by have:=d.2 h;omega
    simp only [List.mem_cons,this,or_false];constructor
    ·intro h;omega
    ·intro h;exact absurd h.symm a
   ·rw [if_neg (by simpa using e)];have:c∈l:=d.1 (by omega);simp only [List.mem_cons,this,or_true,iff_true];omega
theorem jJ(s:ByteArray)(c:Int)(w:World) :Calls prog 105 #[.string s,.int .u8 c] w fun e a=>e=.returned (.int .i64 (Lib.indexByte s.data.toList c.toNat.toUInt8))/\w=a:=by
 go_enter func105,ntmps105
 go_wp2
 rw [run_callFunc_extern func117 (by kernel_rfl) (by kernel_rfl) (by kernel_rfl) (e:=Extern.BytealgIndexByte.indexByte) (by kernel_rfl),Lib.run_indexByteString];simp only [Result.andThen];rw [Oper.upon_value];go_wp2;go_ret;exact⟨rfl,rfl⟩
theorem wH(c:UInt8):Lib.indexByte (ByteArray.mk #[43,45,42,47,60,61,62,63,33]).data.toList ((c.toNat:Int).toNat.toUInt8)=Lib.indexByte Pl.EZ c:=by
 have:((c.toNat:Int).toNat.toUInt8)=c:=by simp
 rw [this];rfl
theorem cO(c:UInt8)(w:World) :Calls prog 95 #[.int .u8 (c.toNat:Int)] w fun e b=>e=.returned (.bool (CV c))/\w=b:=by
 by_cases a:(97:Int)<=c.toNat/\(c.toNat:Int)<=122
 ·obtain⟨a,m⟩:=a;have d:Hid (CV c=true):=by simp [Hid,CV,Pl.QM c a m]
  go_enter func95,ntmps95
  go_wp2
  go_ret;exact⟨aP d.symm,rfl⟩
 ·have i:Hid (CV c=(decide (c∈Pl.EZ)||A3 c)):=by simp [Hid,CV,Pl.PM c a]
  have l:Hid (decide (0<=Lib.indexByte Pl.EZ c)=decide (c∈Pl.EZ)):=by simp only [Hid];exact decide_eq_decide.2 (UD c Pl.EZ)
  by_cases j:A3 c=true
  ·have d:Hid (CV c=true):=show CV c=true from by rw [i.out,j,Bool.or_true]
   by_cases f:(97:Int)<=c.toNat
   ·have g:¬(c.toNat:Int)<=122:=fun h=>a ⟨f,h⟩;clear a;go_enter func95,ntmps95;go_wp2_with (go_at_call 104;refine(bX c _).mono ?_;rintro e b ⟨rfl,rfl⟩);go_ret;exact⟨aP d.symm,rfl⟩
   ·clear a;go_enter func95,ntmps95;go_wp2_with (go_at_call 104;refine(bX c _).mono ?_;rintro e b ⟨rfl,rfl⟩);go_ret;exact⟨aP d.symm,rfl⟩
  ·have k:A3 c=false:=by simpa using j
   have d:Hid (CV c=decide (0<=Lib.indexByte Pl.EZ c)):=show CV c=_ from by rw [i.out,k,Bool.or_false,l.out]
   clear j i l;by_cases f:(97:Int)<=c.toNat
   ·have g:¬(c.toNat:Int)<=122:=fun h=>a ⟨f,h⟩;clear a;go_enter func95,ntmps95;go_wp2_with (first | (go_at_call 104;refine(bX c _).mono ?_;rintro e b ⟨rfl,rfl⟩) | (go_at_call 105;refine(jJ _ _ _).mono ?_;rw [wH];rintro e b ⟨rfl,rfl⟩));go_ret;exact⟨aP d.symm,rfl⟩
   ·clear a;go_enter func95,ntmps95;go_wp2_with (first | (go_at_call 104;refine(bX c _).mono ?_;rintro e b ⟨rfl,rfl⟩) | (go_at_call 105;refine(jJ _ _ _).mono ?_;rw [wH];rintro e b ⟨rfl,rfl⟩));go_ret;exact⟨aP d.symm,rfl⟩
end
end Go.Proofs.YtieooapcfpimlaaGreatDoor
