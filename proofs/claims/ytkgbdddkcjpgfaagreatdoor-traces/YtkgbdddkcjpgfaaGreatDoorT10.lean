import Derived.Test.YtkgbdddkcjpgfaaGreatDoorT08
import Derived.Deep.RegionWith
namespace Go.Proofs.YtkgbdddkcjpgfaaGreatDoor
open Pl (C4 EE)
section
open Go.RowKit
variable {w w':World} {n:Nat} {v:Value}
theorem F0.tail{g off cap L:Nat}{u:Value}{us:List Value}(h:F0 w (.slice (some ⟨g,off,none⟩) L cap) (u::us))(m:Nat)(j:us.length=m)(a:Option Addr)(c:Nat)(k:m<=c)(l:m≠0->a=some ⟨g,off+1,none⟩):F0 w (.slice a m c) us:=by
 obtain⟨q,b,d,e,_,n,_,o⟩:=h.cell0;simp only [Value.slice.injEq,o_,Addr.mk.injEq,and_true] at e;obtain⟨⟨rfl,rfl⟩,_,rfl⟩:=e;subst j;refine⟨a,c,rfl,k,fun i x f=>⟨g,off+1,l (by rintro p;have:=e_ p;subst this;simp at f),n,?_⟩⟩;have:=o i x f
 rwa [show off+1+i=off+(i+1) from by omega]
theorem AJ.kinds{ok:Nat->Prop}{t:Tr}(h:AJ ok n w v t):(∃k m,t=.lit (.int k m))\/(∃x,t=.lit (.bool x))\/(∃s,t=.lit (.string s))\/∃a,t=.agg a:=by
 cases n with
 | zero=>exact h.elim
 | succ n =>
  obtain⟨_,_,_,b⟩:=h
  match t,b with
  | .lit (.int k m),_=>exact .inl ⟨k,m,rfl⟩
  | .lit (.bool x),_=>exact .inr (.inl ⟨x,rfl⟩)
  | .lit (.string s),_=>exact .inr (.inr (.inl ⟨s,rfl⟩))
  | .agg a,_=>exact .inr (.inr (.inr ⟨a,rfl⟩))
theorem AJ.cons{ok:Nat->Prop}{k:Tr}{r:List Tr}(h:AJ ok (n+1) w v (.agg (k::r))) :∃b g a c e f,v=.pointer (some ⟨b,0,none⟩)/\b<w.heap.size/\w.cell? ⟨b,0,none⟩=some (.string ⟨#[108,105,115,116]⟩)/\w.cell? ⟨b,3,none⟩=some (.slice (some ⟨g,a,none⟩) (r.length+1) c)/\r.length+1<=c/\g<w.heap.size/\w.cell? ⟨g,a,none⟩=some e /\
   F0 w (.slice (some ⟨g,a,none⟩) (r.length+1) c) (e::f)/\f.length=r.length/\AJ ok n w e k/\QE n w (e::f) (k::r)/\QE n w f r:=by
 obtain⟨b,p,s,rfl,t,y,q,m,l,o⟩:=h.list
 match s,l with
 | e::f,l =>
  obtain⟨g,a,c,rfl,d,z,A,_⟩:=m.cell0;have j:f.length=r.length:=by simpa using l
  rw [j] at m q d;exact⟨b,g,a,c,e,f,rfl,t,y,q,d,z,A,m,j,o 0 e k rfl rfl,⟨l,ok,o⟩,⟨j,ok,fun i u x B C=>o (i+1) u x (by simpa using B) (by simpa using C)⟩⟩
theorem F0.later{vs:List Value}(h:F0 w v vs)(d:Below w.heap.size w w'):F0 w' v vs:=by obtain⟨j,c,e,k,l⟩:=h;refine⟨j,c,e,k,fun i u m=>?_⟩;obtain⟨g,b,n,f,a⟩:=l i u m;exact⟨g,b,n,l_ f d.size,(d.cell (p:=⟨g,b+i,none⟩) f).trans a⟩
theorem QE.later{vs:List Value}{b:List Tr}(h:QE n w vs b)(c:Below w.heap.size w w'):QE n w' vs b:=by obtain⟨d,e,f⟩:=h;exact⟨d,e,fun i u x g a=>(f i u x g a).later c⟩
theorem kf(n:Nat)(h:List UInt8)(r:List Tr)(a:EE h=true):C4 (n+1) (.agg (.lit (.string h)::r))=Pl.KS (C4 n) h r:=by
 show Pl.F7 (C4 n) (.lit (.string h)::r)=_;unfold Pl.F7;dsimp only;have:Pl.BJ (.lit (.string h)::r)=some h:=by unfold Pl.BJ;simp [a]
 rw [this]
theorem OQ.one{r:Bool}{e:Ending}(h:OQ w r e w'):∃a,e=.returned (.pointer a)/\Below w.heap.size w w'/\((r=true/\∃b,a=some ⟨b,0,none⟩)\/(r=false/\a=none)):=by
 obtain⟨d,⟨c,b,rfl⟩ | ⟨c,rfl⟩⟩:=h
 ·exact⟨_,rfl,d,.inl ⟨c,b,rfl⟩⟩
 ·exact⟨_,rfl,d,.inr ⟨c,rfl⟩⟩
theorem pO{k:Tr}{r:List Tr}{h:List UInt8}(a:Pl.BJ (k::r)=some h):k=.lit (.string h)/\EE h=true:=by
 unfold Pl.BJ at a;split at a
 ·split at a
  ·rename_i c e b;simp only [List.cons.injEq] at e;simp only [o_] at a;subst a;exact⟨e.1,b⟩
  ·simp at a
 ·simp at a
theorem iB{a b:World}{B:Nat}{o:Obj}(c:B=a.heap.size)(h:(a.alloc o).grownBy b (some B)):Below a.heap.size a b:=by subst c;refine⟨h.os,h.tape,h.output,by have:=h.size;simp at this;omega,fun k d=>?_⟩;rw [h.block k (by simp;omega) (by simp;omega)];exact k_ d
theorem dK{f:List UInt8->Bool}{ts:List (List UInt8)}{k:Nat}{x:List UInt8}(h:(ts.take k).all f=true)(a:ts[k]?=some x)(b:f x=true):(ts.take (k+1)).all f=true:=by rw [List.take_add_one,a,List.all_append,h];simp [b]
end
end Go.Proofs.YtkgbdddkcjpgfaaGreatDoor
