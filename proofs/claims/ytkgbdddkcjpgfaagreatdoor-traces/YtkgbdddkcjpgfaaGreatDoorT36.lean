import Derived.Test.YtkgbdddkcjpgfaaGreatDoorT31
namespace Go.Proofs.YtkgbdddkcjpgfaaGreatDoor
set_option maxHeartbeats 2000000
set_option maxRecDepth 100000
open Go.Proofs.Tryz
open Pl (AE)
section
open Go.RowKit Go.Lib
variable {w:World} {b:Nat}
theorem BE.pre{w1 w':World}{l t:AE}{m:Nat}{e:Ending}(k:GP b w w1)(h:BE w1 b l t m e w'):BE w b l t m e w':=⟨h.1,k.trans h.2.1,h.2.2⟩
theorem A6.IE{w1:World}{l:AE}(h:A6 w b l)(a:Below w.heap.size w w1):GP b w w1/\A6 w1 b l:=⟨GP.AA a (Nat.le_of_lt h.lt),h.later a⟩
theorem aC9(w:World)(b:Nat)(T:TypeId)(a:List Value)(d:b<w.heap.size)(c:T≠JM):D9 b (w.alloc (.cells a.toArray T)) (.slice (some ⟨w.heap.size,0,none⟩) a.length a.length) 1 a.length a :=⟨by simp,some ⟨w.heap.size,0,none⟩,a.length,rfl,n_,.inr ⟨w.heap.size,0,a.toArray,T,rfl,by omega,c,heap_alloc_new w _,fun i u h=>by simpa using h⟩⟩
theorem aBC{w2:World}{l:AE}{T:TypeId}(a:List Value)(d:List AE)(f:Nat->Nat)(n:A6 w b l)(q:T≠JM)(g:Below w.heap.size w w2)(c:d.length=a.length)(j:∀(i:Nat)(u:Value)(t:AE),a[i]?=some u->d[i]?=some t->L4 b w u t (f i))(r:l.length+2+BP f a.length<=1000000000) :Calls prog 338 #[.pointer (some ⟨b,0,none⟩),.slice (some ⟨w2.heap.size,0,none⟩) a.length a.length] (w2.alloc (.cells a.toArray T)) fun e o=>BE w b l (Pl.AP d) (2+BP f a.length) e o:=by have k:Below w.heap.size w (w2.alloc (.cells a.toArray T)):=g.alloc g.size _;obtain⟨p,s⟩:=n.IE k;have m:b<w2.heap.size:=l_ n.lt g.size;exact(aB1 _ b l _ a d f s (aC9 w2 b T a m q) c (fun i u t v x=>(j i u t v x).later p) r).mono (fun e o h=>h.pre p)
theorem aBU{w2:World}{l:AE}{T:TypeId}(a:List Value)(d:List AE)(f:Nat->Nat)(n:A6 w b l)(q:T≠JM)(g:Below w.heap.size w w2)(c:d.length=a.length)(j:∀(i:Nat)(u:Value)(t:AE),a[i]?=some u->d[i]?=some t->L4 b w u t (f i))(r:l.length+2+BP f a.length<=1000000000) :Calls prog 342 #[.pointer (some ⟨b,0,none⟩),.slice (some ⟨w2.heap.size,0,none⟩) a.length a.length] (w2.alloc (.cells a.toArray T)) fun e o=>BE w b l (Pl.AP d) (2+BP f a.length) e o:=by have k:Below w.heap.size w (w2.alloc (.cells a.toArray T)):=g.alloc g.size _;obtain⟨p,s⟩:=n.IE k;have m:b<w2.heap.size:=l_ n.lt g.size;exact(XL _ b l _ a d f s (aC9 w2 b T a m q) c (fun i u t v x=>(j i u t v x).later p) r).mono (fun e o h=>h.pre p)
def VM(s:AE):Value:=.iface 214 (.agg #[.string ⟨s.toArray⟩,.int .i64 0])
def m4(a b c d:Nat):Nat->Nat
 | 0=>a
 | 1=>b
 | 2=>c
 | _=>d
theorem p_spIf(w:World)(b:Nat)(l:AE)(x y z:Value)(q r A:AE)(j k m:Nat)(E:A6 w b l)(F:L4 b w x q j)(G:L4 b w y r k)(H:L4 b w z A m)(hi:(∃T v,x=.iface T v)/\(∃T v,y=.iface T v)/\∃T v,z=.iface T v)(J:l.length+(j+k+m+500)<=1000000000) :Calls prog 378 #[.agg #[x,y,z],.pointer (some ⟨b,0,none⟩)] w fun e c=>BE w b l (Pl.AP [Pl.UB,q,r,A]) (j+k+m+500) e c:=by
 have K:Hid (∀(d:World)(s:ByteArray),Below w.heap.size w d->Calls prog 339 #[.string s] d fun e c=>e=.returned (.agg #[.string s,.int .i64 0])/\Hid (Below w.heap.size w c)/\Hid (Below d.heap.size d c)):=fun d s B=>(aA3 d s).mono (fun e c ⟨L,I⟩=>⟨L,B.trans (I.mono B.size),I⟩)
 have M:Hid (∀n,Below w.heap.size w n->Calls prog 338 #[.pointer (some ⟨b,0,none⟩),.slice (some ⟨n.heap.size,0,none⟩) 4 4] (n.alloc (.cells #[.iface 214 (.agg #[.string ⟨#[105,102]⟩,.int .i64 0]),x,y,z] 61)) fun e c=>BE w b l (Pl.AP [Pl.UB,q,r,A]) (j+k+m+500) e c):=fun n B=>(aBC (T:=61) [VM Pl.UB,x,y,z] [Pl.UB,q,r,A] (m4 300 j k m) E (by decide) B rfl (fun i u t f g=>by
   rcases i with _ | _ | _ | _ | i
   ·obtain rfl:=i_ f;obtain rfl:=i_ g;exact J_ b w Pl.UB 0 (by decide)
   ·obtain rfl:=i_ f;obtain rfl:=i_ g;exact F
   ·obtain rfl:=i_ f;obtain rfl:=i_ g;exact G
   ·obtain rfl:=i_ f;obtain rfl:=i_ g;exact H
   ·simp at f) (by simp only [c_,z_,BP,m4];omega)).mono (fun e c h=>⟨h.1,h.2.1,by obtain⟨N,O,P,Q⟩:=h.2.2;exact⟨N,O,P,by simp only [c_,z_,BP,m4] at Q;omega⟩⟩)
 obtain⟨⟨R,S,rfl⟩,⟨U,V,rfl⟩,W,X,rfl⟩:=hi;have p:∀o:Obj,Below w.heap.size w (w.alloc o):=fun o=>r_.alloc n_ o;clear E F G H J;go_enter func378,ntmps378;go_wp2_with fail
 go_region_with (first
  | (go_at_call 339;refine(K _ _ (by first | exact(p _).drew | exact p _)).mono ?_;rintro e d ⟨rfl,C,D⟩;have a:=(D.block w.heap.size (by simp)).trans (by first | exact heap_alloc_new w _ | rfl);have Y:=aA a 0;have Z:=aA a 1;have d2:=aA a 2)
  | (go_at_call 338;refine(M _ C).mono ?_;rintro e n ⟨rfl,f,g⟩))
 all_goals
  go_wp2_with fail
  go_end0
  exact⟨rfl,f,g⟩
end
end Go.Proofs.YtkgbdddkcjpgfaaGreatDoor
