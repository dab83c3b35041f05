import Derived.Deep.QuietTactic
import Derived.BigQuiet
import Derived.Test.YtieooapcfpimlaaGreatDoorL03
import Derived.BigRegion
import Derived.Deep.RegionHeld3
import Derived.Deep.RegionLaw
import Derived.Laws.AppendOwnNone
namespace Go.Proofs.YtieooapcfpimlaaGreatDoor
set_option maxHeartbeats 1000000
set_option maxRecDepth 100000
open Go.Proofs.Tryz
open Pl (isName)
section
open Go.RowKit
variable {w w':World} {v L:Value} {b k n base:Nat} {ok:Nat->Prop} {at_ dp:Int} {g:Bool} {l nm:List (List UInt8)}
def DB(w:World)(v:Value)(vs:List Value):Prop :=∃ao cap,v=.slice ao vs.length cap/\vs.length<=cap/\∀(i:Nat)(u:Value),vs[i]?=some u->∃g off,ao=some ⟨g,off,none⟩/\g<w.heap.size/\w.cell? ⟨g,off+i,none⟩=some u
theorem bC{e:TypeId}{vs:List Value}(h:w.ownsRow base e 1 v n vs):DB w v vs:=by
 have k:=h.1;rcases h.2 with⟨a,d⟩ | ⟨g,b,f,a,_,j,l,_,_,m⟩
 ·subst d;have:vs=[]:=e_ (by omega);subst this;exact⟨none,0,a,n_,fun i u c=>by simp at c⟩
 ·have e:vs.length=n:=by omega
  refine⟨some ⟨g,0,none⟩,b,by rw [e];exact a,by omega,fun i u c=>⟨g,0,rfl,aB j,?_⟩⟩;have:=h.cells (g:=g) (by rw [a];rfl) i u c
  rwa [Addr.add_lit] at this
theorem eA{f:Tr->Bool}{a:List Tr}{x:Tr}(h:(a.take k).all f=true)(b:a[k]?=some x)(c:f x=true):(a.take (k+1)).all f=true:=by rw [List.take_add_one,b,List.all_append,h];simp [c]
theorem gJ{f:Tr->Bool}{a:List Tr}{x:Tr}(b:a[k]?=some x)(c:f x=false):a.all f=false:=by rw [List.all_eq_false];exact⟨x,q_ b,by simp [c]⟩
def PT:TypeId:=112
def PR:TypeId:=143
def PK:TypeId:=181
def AN(ok:Nat->Prop):Nat->World->Value->Tr->Prop
 | 0,_,_,_=>False
 | n+1,w,v,t =>
  match t with
  | .lit (.int _ m)=>∃k:Int,v=.iface 186 (.int .i64 k)/\(gW m->k=m)
  | .lit (.bool x)=>v=.iface 188 (.bool x)
  | .lit (.string s)=>v=.iface 120 (.string ⟨s.toArray⟩)
  | .agg ts=>∃sl vs,v=.iface 118 sl/\(∀r,sl.ownBlock=some r->ok r)/\w.ownsRow 0 PT 1 sl ts.length vs /\
    (∀(i:Nat)(u:Value)(x:Tr),vs[i]?=some u->ts[i]?=some x->AN ok n w u x)/\ts.length<=1000
  | _=>False
def GA(ok:Nat->Prop)(w w':World):Prop:=∀(k:Nat)(cur:Array Value),ok k->w.heap[k]?=some (.cells cur PT (0,0))->w'.heap[k]?=some (.cells cur PT (0,0))
theorem GA.AA(h:Below w.heap.size w w'):GA ok w w':=fun k _ _ a=>(h.block k (aB a)).trans a
theorem GA.DX{c:Array Value}{T:TypeId}{f:Nat×Nat}(e:w.grownBy w' (some b))(g:w.heap[b]?=some (.cells c T f))(h:T≠PT):GA ok w w':=by
 intro k i _ a;have d:some k≠some b:=by intro j;obtain rfl:=i_ j;rw [g] at a;simp only [o_,Obj.cells.injEq] at a;exact h a.2.1
 exact(e.block k (aB a) d).trans a
theorem sQ{xs:List Value}(d:GA ok w w')(e:∀r,v.ownBlock=some r->ok r)(h:w.ownsRow base PT 1 v n xs):w'.ownsRow base PT 1 v n xs:=by
 refine⟨h.1,?_⟩;rcases h.2 with f | ⟨g,c,a,rfl,i,j,b⟩
 ·exact .inl f
 ·exact .inr ⟨g,c,a,rfl,i,d g a (e g rfl) j,b⟩
theorem AN.keep(a:GA ok w w'):∀(n:Nat)(v:Value)(t:Tr),AN ok n w v t->AN ok n w' v t
 | 0,_,_,h=>h
 | n+1,v,t,h=>by
  match t,h with
  | .lit (.int _ m),h=>exact h
  | .lit (.bool x),h=>exact h
  | .lit (.string s),h=>exact h
  | .agg o,⟨c,d,e,b,f,g,j⟩=>exact⟨c,d,e,b,sQ a b f,fun i u x k l=>AN.keep a n u x (g i u x k l),j⟩
theorem AN.mono{ok':Nat->Prop}(hi:∀k,k<w.heap.size->ok k->ok' k):∀(n:Nat)(v:Value)(t:Tr),AN ok n w v t->AN ok' n w v t
 | 0,_,_,h=>h
 | n+1,v,t,h=>by
  match t,h with
  | .lit (.int _ m),h=>exact h
  | .lit (.bool x),h=>exact h
  | .lit (.string s),h=>exact h
  | .agg p,⟨c,d,e,f,a,g,j⟩=>exact⟨c,d,e,fun r b=>hi r (a.lt r b).2 (f r b),a,fun i u x l o=>AN.mono hi n u x (g i u x l o),j⟩
theorem AN.up:∀(n m:Nat)(v:Value)(t:Tr),n<=m->AN ok n w v t->AN ok m w v t
 | 0,_,_,_,_,h=>h.elim
 | n+1,0,_,_,a,_=>by omega
 | n+1,m+1,v,t,a,h=>by
  match t,h with
  | .lit (.int _ m),h=>exact h
  | .lit (.bool x),h=>exact h
  | .lit (.string s),h=>exact h
  | .agg o,⟨b,c,d,e,f,g,j⟩=>exact⟨b,c,d,e,f,fun i u x k l=>AN.up n m u x (by omega) (g i u x k l),j⟩
theorem AN.later{t:Tr}(h:AN ok n w v t)(a:Below w.heap.size w w'):AN ok n w' v t:=AN.keep (GA.AA a) _ _ _ h
theorem AN.iface{t:Tr}(h:AN ok n w v t):∃T x,v=.iface T x/\v.oneCell'=true:=by
 cases n with
 | zero=>exact h.elim
 | succ n =>
  match t,h with
  | .lit (.int _ m),⟨k,h,_⟩=>subst h;exact⟨_,_,rfl,rfl⟩
  | .lit (.bool x),h=>have h:v=_:=h;subst h;exact⟨_,_,rfl,rfl⟩
  | .lit (.string s),h=>have h:v=_:=h;subst h;exact⟨_,_,rfl,rfl⟩
  | .agg a,⟨b,c,h,_⟩=>subst h;exact⟨_,_,rfl,rfl⟩
def EW(w:World)(b:Nat)(rest:Value)(dep dpst:Int)(g:Bool):Prop:=w.heap[b]?=some (.cells #[rest,.int .i64 dep,.int .i64 dpst,.bool g] PR (0,0))
theorem EW.cells(h:EW w b L at_ dp g) :w.cell? ⟨b,0,none⟩=some L/\w.cell? ⟨b,1,none⟩=some (.int .i64 at_)/\w.cell? ⟨b,2,none⟩=some (.int .i64 dp)/\w.cell? ⟨b,3,none⟩=some (.bool g) :=⟨aA h 0,aA h 1,aA h 2,aA h 3⟩
theorem EW.IM(h:EW w b L at_ dp g)(x:Value):EW (w.setCell ⟨b,0,none⟩ x) b x at_ dp g:=aD h 0 _
theorem EW.KE(h:EW w b L at_ dp g)(x:Int):EW (w.setCell ⟨b,1,none⟩ (.int .i64 x)) b L x dp g:=aD h 1 _
theorem EW.set2(h:EW w b L at_ dp g)(x:Int):EW (w.setCell ⟨b,2,none⟩ (.int .i64 x)) b L at_ x g:=aD h 2 _
theorem EW.FA(h:EW w b L at_ dp g)(x:Bool):EW (w.setCell ⟨b,3,none⟩ (.bool x)) b L at_ dp x:=aD h 3 _
theorem EW.alloc(h:EW w b L at_ dp g)(o:Obj):EW (w.alloc o) b L at_ dp g:=(Below.heap_alloc w o b (aB h)).trans h
theorem EW.below(h:EW w b L at_ dp g)(a:Below w.heap.size w w'):EW w' b L at_ dp g:=(a.block b (aB h)).trans h
theorem EW.cast{at2 dp2:Int}{g2:Bool}(h:EW w b L at_ dp g)(a:at_=at2)(c:dp=dp2)(d:g=g2):EW w b L at2 dp2 g2:=by subst a c d;exact h
def DG(w:World)(v:Value)(l:List (List UInt8)):Prop :=∃ao cap,v=.slice ao l.length cap/\l.length<=cap/\∀(i:Nat)(t:List UInt8),l[i]?=some t->∃g off cur,ao=some ⟨g,off,none⟩/\w.heap[g]?=some (.cells cur PK (0,0))/\cur[off+2*i]?=some (.int .i64 (cE t))/\cur[off+2*i+1]?=some (.string ⟨t.toArray⟩)
theorem DG.keep(h:DG w v l)(d:∀(k:Nat)(a:Array Value),w.heap[k]?=some (.cells a PK (0,0))->w'.heap[k]?=some (.cells a PK (0,0))):DG w' v l:=by obtain⟨f,b,e,j,m⟩:=h;refine⟨f,b,e,j,fun i t n=>?_⟩;obtain⟨g,c,a,o,p,r⟩:=m i t n;exact⟨g,c,a,o,d g a p,r⟩
theorem DG.grown{c:Array Value}{f:Nat×Nat}(h:DG w v l)(e:w.grownBy w' (some b))(g:w.heap[b]?=some (.cells c PR f)):DG w' v l:=by
 refine h.keep fun k i a=>?_;have d:some k≠some b:=by intro j;obtain rfl:=i_ j;rw [g] at a;simp only [o_,Obj.cells.injEq] at a;have:=a.2.1;simp [PR,PK] at this
 exact(e.block k (aB a) d).trans a
theorem DG.below(h:DG w v l)(b:Below w.heap.size w w'):DG w' v l:=h.keep fun k _ a=>(b.block k (aB a)).trans a
theorem DG.cons{t:List UInt8}{q:List (List UInt8)}(h:DG w v (t::q)):∃g a b,v=.slice (some ⟨g,a,none⟩) (q.length+1) b/\q.length+1<=b/\g<w.heap.size/\w.cell? ⟨g,a,none⟩=some (.int .i64 (cE t))/\w.cell? ⟨g,a+1,none⟩=some (.string ⟨t.toArray⟩) /\
  ∀(f:Option Addr)(c:Nat),q.length<=c->(q.length≠0->f=some ⟨g,a+2,none⟩)->DG w (.slice f q.length c) q:=by
 obtain⟨f,b,e,y,p⟩:=h;obtain⟨g,a,z,A,j,B,C⟩:=p 0 t rfl;subst A;refine⟨g,a,b,e,y,aB j,(aA j _).trans (by simpa using B),(aA j _).trans (by simpa using C),fun k D l E=>⟨k,D,rfl,l,fun i x r=>?_⟩⟩;obtain⟨G,s,d,u,m,n,o⟩:=p (i+1) x (by simpa using r);simp only [o_,Addr.mk.injEq,and_true] at u;obtain⟨rfl,rfl⟩:=u;refine⟨g,a+2,d,E (by rintro F;have:=e_ F;subst this;simp at r),m,?_,?_⟩
 ·rw [show a+2+2*i=a+2*(i+1) from by omega];exact n
 ·rw [show a+2+2*i+1=a+2*(i+1)+1 from by omega];exact o
theorem tY(l:List (List UInt8)):∀(i:Nat)(t:List UInt8),l[i]?=some t->(gO l)[2*i]?=some (.int .i64 (cE t))/\(gO l)[2*i+1]?=some (strV t):=by
 induction l with
 | nil=>intro i t h;simp at h
 | cons x r a =>
  intro i t h;have e:gO (x::r)=.int .i64 (cE x)::strV x::gO r:=rfl
  cases i with
  | zero=>simp at h;subst h;rw [e];simp
  | succ i =>simp at h;have:=a i t h;rw [e,show 2*(i+1)=2*i+1+1 from by omega];simpa using this
theorem DG.of_own(h:w.ownsRow base PK 2 v l.length (gO l)):DG w v l:=by
 rcases h.2 with⟨d,m⟩ | ⟨g,e,a,d,_,n,o,_,_,p⟩
 ·have:l=[]:=e_ m;subst this;exact⟨none,0,d,n_,fun i t f=>by simp at f⟩
 ·refine⟨some ⟨g,0,none⟩,e,d,o,fun i t f=>⟨g,0,a,rfl,n,?_⟩⟩;have k:=tY l i t f
  have b:∀(j:Nat)(u:Value),(gO l)[j]?=some u->a[j]?=some u:=by
   intro j u c;rw [<- p,List.getElem?_take] at c;split at c
   ·simpa using c
   ·cases c
  rw [Nat.zero_add];exact⟨b _ _ k.1,b _ _ k.2⟩
theorem pP{a b:World}{row:Option Nat}(h:a.grownBy b row):a.grownBy b.drew row:=⟨h.os,h.tape,h.output,h.size,h.block⟩
theorem u7(w:World)(b:Nat)(rest:Value)(a c:Nat)(g:Bool)(h:EW w b rest a c g)(i:a<=2000) :Calls prog 98 #[.pointer (some ⟨b,0,none⟩)] w fun e d=>e=.returned (.tuple #[])/\w.grownBy d (some b)/\EW d b rest ((a+1:Nat):Int) ((max c (a+1):Nat):Int) g:=by
 obtain⟨j,k,l,m⟩:=h.cells;have n:=aF h 1;have o:=aF h 2;have f:=h_ h;clear h;go_enter func98,ntmps98;go_wp2_with fail
 go_region
 go_end0
 refine⟨rfl,pP (aC (aE _ _ _ _) (aE _ _ _ _)),?_⟩;exact EW.cast (((f.KE _).set2 _)) (by omega) (by first | (split<;>omega) | omega | (push_cast;omega)) rfl
theorem oW(w:World)(b:Nat)(rest:Value)(a c:Int)(g:Bool)(h:EW w b rest a c g)(f:0<=a/\a<=3000) :Calls prog 100 #[.pointer (some ⟨b,0,none⟩)] w fun e d=>e=.returned (.tuple #[])/\w.grownBy d (some b)/\EW d b rest (a-1) c g:=by
 obtain⟨l,m,n,o⟩:=h.cells;obtain⟨i,j⟩:=f;have p:=aF h 1;have k:=h_ h;clear h;go_enter func100,ntmps100;go_wp2_with fail
 go_end0
 exact⟨rfl,aE _ _ _ _,k.KE _⟩
theorem yY(w:World)(b:Nat)(rest:Value)(c a:Int)(g:Bool)(l:List (List UInt8))(h:EW w b rest c a g)(f:DG w rest l) :Calls prog 99 #[.pointer (some ⟨b,0,none⟩)] w fun e j=>e=.returned (.bool (l.head?.any fun t=>cE t==1))/\w=j:=by
 obtain⟨k,n,o,p⟩:=h.cells;clear h
 cases l with
 | nil =>obtain⟨r,d,rfl,_⟩:=f;simp only [z_] at k;go_enter func99,ntmps99;go_wp2_with fail;go_ret;exact⟨rfl,rfl⟩
 | cons t q =>
  obtain⟨s,m,d,rfl,i,u,v,x,_⟩:=f.cons;have y:(0:Int)<(q.length:Int)+1:=by omega
  go_enter func99,ntmps99
  go_wp2_with fail
  go_ret;exact⟨rfl,rfl⟩
theorem DB.cell0{u:Value}{us:List Value}(h:DB w v (u::us)):∃g a b,v=.slice (some ⟨g,a,none⟩) (us.length+1) b/\us.length+1<=b/\g<w.heap.size/\w.cell? ⟨g,a,none⟩=some u/\∀(i:Nat)(x:Value),us[i]?=some x->w.cell? ⟨g,a+(i+1),none⟩=some x:=by obtain⟨n,b,rfl,c,d⟩:=h;obtain⟨g,a,rfl,j,k⟩:=d 0 u rfl;refine⟨g,a,b,rfl,by simpa using c,j,by simpa using k,fun i x l=>?_⟩;obtain⟨o,f,e,_,m⟩:=d (i+1) x (by simpa using l);simp only [o_,Addr.mk.injEq,and_true] at e;obtain⟨rfl,rfl⟩:=e;exact m
def Seen(ts:List Tr)(k:Nat)(nm:List (List UInt8)):Prop:=nm=(ts.take k).map Pl.strOf/\(ts.take k).all isName=true/\nm.Nodup
theorem Seen.start(a:List Tr):Seen a 0 []:=⟨by simp,by simp,List.nodup_nil⟩
theorem Seen.more{c:List Tr}{x:Tr}(h:Seen c k nm)(d:c[k]?=some x)(g:isName x=true)(i:Pl.strOf x∉nm):Seen c (k+1) (nm++[Pl.strOf x]):=by
 refine⟨?_,eA h.2.1 d g,?_⟩
 ·rw [List.take_add_one,d,h.1];simp
 ·rw [List.nodup_append];refine⟨h.2.2,by simp,?_⟩;intro a j b f e;simp only [List.mem_singleton] at f;subst f e;exact i j
theorem Seen.done{a:List Tr}(h:Seen a k nm)(d:a.length<=k):Pl.CJ a=true:=by obtain⟨b,c,e⟩:=h;rw [List.take_of_length_le d] at b c;unfold Pl.CJ;rw [c,<-b];simpa using e
theorem Seen.bad{a:List Tr}{x:Tr}(b:a[k]?=some x)(c:isName x=false):Pl.CJ a=false:=by unfold Pl.CJ;rw [gJ b c];rfl
theorem Seen.ZY{a:List Tr}{x:Tr}(h:Seen a k nm)(g:a[k]?=some x){j:Nat}{t:List UInt8}(b:nm[j]?=some t)(i:t=Pl.strOf x):Pl.CJ a=false:=by
 have c:j<k:=by have:=(s_ b).1;rw [h.1,List.length_map,List.length_take] at this;omega
 have d:¬(a.map Pl.strOf).Nodup:=by
  intro d;have f:(a.map Pl.strOf)[j]?=some t:=by rw [h.1,List.getElem?_map,List.getElem?_take] at b;rw [List.getElem?_map];simpa [c] using b
  have l:(a.map Pl.strOf)[k]?=some t:=by rw [List.getElem?_map,g,i];rfl
  have e:=(s_ f).1;have:=(List.getElem?_inj e d).1 (f.trans l.symm);omega
 unfold Pl.CJ;rw [Bool.and_eq_false_iff];right;simpa using d
theorem c8{α:Type}(f:Tr->α){a:List Tr}{x:Tr}(b:a[k]?=some x):(a.take (k+1)).map f=(a.take k).map f++[f x]:=by rw [List.take_add_one,b];simp
end
end Go.Proofs.YtieooapcfpimlaaGreatDoor
