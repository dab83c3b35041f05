import Derived.Below
import Derived.Test.YtbgghmjmcapmlaaGreatDoorProg
import Derived.Conc.MuLone
import Derived.KernelRfl
import Derived.WalkKit
import Derived.WalkSpells
import Derived.WalkLawsBesides
import GoSem.ClaimWide
import Derived.Maps.OwnSet
import Derived.Deep.QuietTactic
import Derived.BigQuiet
import Derived.LaidLaws
import Derived.HandedShaped
namespace Go.Proofs.YtbgghmjmcapmlaaGreatDoor
theorem x8{P:Prop}(h:P:=by omega):P:=h
theorem w8{P:Prop}(h:P:=by decide):P:=h
theorem w9{P:Prop}(h:P:=by simp):P:=h
theorem t8{P:Prop}(h:P:=by kernel_rfl):P:=h
theorem r7{P:Prop}(h:P:=by simp;omega):P:=h
theorem r8{P:Prop}(h:P:=by first | omega | (simp;done) | (simp;omega)):P:=h
theorem r9{P:Prop}(h:P:=by repeat' first | exact j.out | exact m.out | exact aF7 (by simp) | apply aF6 | apply aGC | (refine aGA (by omega) ?_) | apply aF5):P:=h
theorem o5{P:Prop}(h:P:=by repeat' first | exact B.out | exact o.out | exact aF7 (by simp) | apply aF6 | apply aGC | (refine aGA (by omega) ?_) | apply aF5):P:=h
theorem o6{P:Prop}(h:P:=by unfold maxLen;omega):P:=h
theorem o7{P:Prop}(h:P:=by first | (left;simp;done) | (left;simp;omega) | (right;omega) | (right;simp;done)):P:=h
theorem o8{P:Prop}(h:P:=by first | (left;simp;done) | (right;omega) | (right;simp;done)):P:=h
theorem o9{P:Prop}(h:P:=by repeat' first | exact Stp.refl _ _ | apply sx_dr | (refine aHJ ?_ (by first | exact .inl rfl | exact .inr rfl)) | apply aHL):P:=h
theorem n8{P:Prop}(h:P:=by repeat' first | exact r_ | apply Below.drew | (refine aGB ?_ n_)):P:=h
theorem m6{P:Prop}(h:P:=by rfl):P:=h
theorem m7{P:Prop}(h:P:=by repeat' first | exact n | apply Cw.drew | (refine Cw.set ?_ ?_ _ _) | apply Cw.alloc | (simp;done)):P:=h
theorem l5{P:Prop}(h:P:=by first | decide | exact(c.ne.2 _ (by decide)).1 | exact(c.ne.2 _ (by decide)).2 | exact(c.ne.2 _ (by decide)).1.symm | exact(c.ne.2 _ (by decide)).2.symm | exact c.ne.1 | exact c.ne.1.symm):P:=h
theorem k7{P:Prop}(h:P:=by go_num):P:=h
theorem k8{P:Prop}(h:P:=by intro x l;simp only [List.mem_cons,List.not_mem_nil,or_false] at l ⊢;rcases l with rfl | rfl | rfl | rfl | rfl<;>simp):P:=h
theorem d7{P:Prop}(h:P:=by first | exact .inl rfl | exact .inr rfl):P:=h
theorem d9{P:Prop}(h:P:=by assumption):P:=h
theorem a6{P:Prop}(h:P:=by simpa using e):P:=h
theorem a7{P:Prop}(h:P:=by have:=heap_alloc_new (w.alloc (.cells #[sl] TCds)) (.cells #[hv] TPlP);rwa [show(w.alloc (.cells #[sl] TCds)).heap.size=w.heap.size+1 from by simp] at this):P:=h
theorem a8{P:Prop}(h:P:=by cases e):P:=h
theorem zL5{P:Prop}(h:P:=by simp [intOf]):P:=h
theorem zL6{P:Prop}(h:P:=by simp [intOf];omega):P:=h
theorem zL7{P:Prop}(h:P:=by have:=HV.out;omega):P:=h
theorem zL8{P:Prop}(h:P:=by intro x r;simp only [List.mem_cons,List.not_mem_nil,or_false] at r ⊢;rcases r with rfl | rfl | rfl | rfl | rfl<;>simp):P:=h
theorem zL9{P:Prop}(h:P:=by intro x d;simp only [List.mem_cons,List.not_mem_nil,or_false] at d ⊢;rcases d with rfl | rfl | rfl | rfl | rfl<;>simp):P:=h
theorem zM0{P:Prop}(h:P:=by simp only [a_];have:=d.out;simp only [c_,z_];omega):P:=h
theorem zM1{P:Prop}(h:P:=by simpa using a):P:=h
theorem zM2{P:Prop}(h:P:=by simpa using x):P:=h
theorem zM3{P:Prop}(h:P:=by show _<(((w.alloc _).alloc _).alloc _).heap.size;simp<;>omega):P:=h
theorem zM4{P:Prop}(h:P:=by simp only;omega):P:=h
theorem zM5{P:Prop}(h:P:=by intro hh;first | rfl | (exfalso;omega)):P:=h
theorem zM6{P:Prop}(h:P:=by rintro rfl;rcases hi with h | h | h | h | h | h<;>exact absurd h (by decide)):P:=h
theorem zM7{P:Prop}(h:P:=by have:=g.out;first | exact this | (show l.length+Array.size _<=_;simp;omega)):P:=h
theorem zM8{P:Prop}(h:P:=by first | exact .inl rfl | exact .inr ⟨rfl,_,_,rfl⟩):P:=h
theorem zM9{P:Prop}(h:P:=by simpa [World.setCell] using h.size):P:=h
theorem zN0{P:Prop}(h:P:=by rw [show(w.alloc (A0 tb)).heap.size=w.heap.size+1 from by simp];exact Q):P:=h
theorem zN1{P:Prop}(h:P:=by simp [World.setCell]):P:=h
theorem zN2{P:Prop}(h:P:=by first | exact a | exact(CE w b _ (Nat.le_of_lt c.lt)).trans a):P:=h
theorem zN3{P:Prop}(h:P:=by simp [results,Tryz.results116,go_sem]):P:=h
theorem zN4{P:Prop}(h:P:=by simp [results,Tryz.results115,go_sem]):P:=h
theorem zN5{P:Prop}(h:P:=by rw [b];rfl):P:=h
theorem zN6{P:Prop}(h:P:=by simp [results,Tryz.results90,go_sem]):P:=h
theorem zN7{P:Prop}(h:P:=by simp at h;omega):P:=h
theorem zN8{P:Prop}(h:P:=by show _<((w.alloc _).alloc _).heap.size;simp<;>omega):P:=h
theorem zN9{P:Prop}(h:P:=by unfold JN;rw [hf];exact⟨rfl,rfl⟩):P:=h
theorem zO0{P:Prop}(h:P:=by show 1<=_;have:=c.1;have:=a.1;simp at this;omega):P:=h
theorem zO1{P:Prop}(h:P:=by rw [q.out];rfl):P:=h
theorem zO2{P:Prop}(h:P:=by rw [World.cell?_alloc_at _ _ _ _ (by simp)];rfl):P:=h
theorem zO3{P:Prop}(h:P:=by simpa using h):P:=h
theorem zO4{P:Prop}(h:P:=by simpa using C):P:=h
theorem zO5{P:Prop}(h:P:=by simpa using F):P:=h
theorem zO6{P:Prop}(h:P:=by show _<=((wr.alloc _).alloc _).heap.size;simp):P:=h
theorem zO7{P:Prop}(h:P:=by simp [Value.oneCell']):P:=h
theorem zO8{P:Prop}(h:P:=by simp [Pl.PF.ks];omega):P:=h
theorem zO9{P:Prop}(h:P:=by dsimp only;omega):P:=h
theorem zP0{P:Prop}(h:P:=by rcases a with⟨e,_⟩ | ⟨e,_⟩<;>rw [e]<;>decide):P:=h
theorem zP1{P:Prop}(h:P:=by rcases a with⟨_,e⟩ | ⟨_,e⟩<;>rw [e]<;>decide):P:=h
theorem zP2{P:Prop}(h:P:=by have:=(b.2 t a).2;simp;omega):P:=h
theorem zP3{P:Prop}(h:P:=by rw [HZ.out];exact World.ownsRow_nil _ _ _ _):P:=h
theorem zP4{P:Prop}(h:P:=by rw [List.length_drop];omega):P:=h
theorem zP5{P:Prop}(h:P:=by simp [RowKit.intOf];omega):P:=h
theorem zP6{P:Prop}(h:P:=by show w.heap.size<_;omega):P:=h
theorem zP7{P:Prop}(h:P:=by rw [show m-1=0 by omega]):P:=h
theorem zP8{P:Prop}(h:P:=by simpa using c):P:=h
theorem zP9{P:Prop}(h:P:=by rw [aD b];rfl):P:=h
theorem zQ0{P:Prop}(h:P:=by have:=q.size;simp;omega):P:=h
theorem zQ1{P:Prop}(h:P:=by simp<;>omega):P:=h
theorem zQ2{P:Prop}(h:P:=by simp [BB];omega):P:=h
theorem zQ3{P:Prop}(h:P:=by simp [CF];omega):P:=h
theorem zQ4{P:Prop}(h:P:=by rw [H.fw.nl];exact hz):P:=h
theorem zQ5{P:Prop}(h:P:=by rw [h];rfl):P:=h
theorem zQ6{P:Prop}(h:P:=by simp [Hid]):P:=h
theorem zQ7{P:Prop}(h:P:=by rw [e];rfl):P:=h
theorem zQ8{P:Prop}(h:P:=by rw [d];rfl):P:=h
theorem zQ9{P:Prop}(h:P:=by simpa using l):P:=h
theorem zR0{P:Prop}(h:P:=by simpa using d):P:=h
section
open Go.RowKit
abbrev Q0(b:Nat):Value:=.pointer (some ⟨b,0,none⟩)
abbrev Q1(n:Int):Value:=.int .i64 n
abbrev Q2:=Calls Tryz.prog
abbrev Q3(w d:World):Prop:=Below w.heap.size w d
abbrev Q5:=Nat->Prop
abbrev Q6:=List (List UInt8)
abbrev Q7:=List UInt8
abbrev Q8:=ByteArray
end
set_option maxHeartbeats 2000000
set_option maxRecDepth 100000
theorem zA0{P:Prop}(h:P:=by
 go_wp2
 go_loopw [7] (fun i r=>∃k:Nat,k<=d.size/\i=.int .i64 k/\w=r/\Hid (∀j (h:j<d.data.toList.length),j<k->A3 d.data.toList[j]=true)) (fun i _=>d.size-(intOf i).toNat)
 case atStart=>exact⟨0,Nat.zero_le _,rfl,rfl,fun j _ t=>by omega⟩
 case round =>
  obtain⟨k,y,rfl,rfl,f⟩:=hrel;by_cases a:k<d.size
  ·have g:=bE d k a;by_cases b:A3 (d[k]'a)=true
   ·have m:Hid (∀j (h:j<d.data.toList.length),j<k+1->A3 d.data.toList[j]=true):=by
     intro j h t;by_cases e:j=k
     ·subst e;rw [g];exact b
     ·exact f.out j h x8
    clear g f;go_wp2_with (go_at_call 36;refine(bI (d[k]'a) _).mono ?_;rintro e q ⟨rfl,rfl⟩);exact⟨⟨k+1,x8,k7,trivial,m⟩,zL6⟩
   ·have c:A3 (d[k]'a)=false:=by simpa using b
    have n:Hid (Pl.isNum d.data.toList=false):=by show Pl.isNum _=_;unfold Pl.isNum;rw [<- l.out];exact Pl.GJ _ k zM1 (by rw [g];exact c)
    clear g f b;go_wp2_with (go_at_call 36;refine(bI (d[k]'a) _).mono ?_;rintro e q ⟨rfl,rfl⟩)
    go_ret3
    exact⟨.inr ⟨n,_,_,rfl⟩,rfl⟩
  ·have n:Hid (Pl.isNum d.data.toList=true):=by
    show Pl.isNum _=_;unfold Pl.isNum;rw [<- l.out];exact Pl.I2 _ fun j h=>f.out j h zN7
   go_wp2
   go_ret3
   exact⟨.inl ⟨n,d,l,x8,by rw [o.out];rfl⟩,rfl⟩):P:=h
theorem zA1{P:Prop}(h:P:=by clear B;go_wp2_with (first | (go_at_call 22;refine(aZ (s[k]'a) _).mono ?_;rintro e F ⟨rfl,rfl⟩) | (at_builtin;refine wpList_append_own _ rfl _ _ 75 rfl w.heap.size 9 S (.string ByteArray.empty) 1 16 underlying75 T C D E rfl w8 u4 d.length (d.map eB) rfl (u.alloc _) ⟨wr.heap.size,0,none⟩ 1 1 [.string _] rfl rfl (cell_one_new _ _ _) (fun x r=>by simp at r;subst r;rfl) o6 x8 zQ0 ?_;intro Y Z f c _));obtain⟨J,K⟩:=fF u q f c;exact⟨⟨k+1,_,x8,r7,k7,n,J,K⟩,zL6⟩):P:=h
theorem zA2{P:Prop}(h:P:=by clear y I;go_wp2_with (first | (go_at_call 22;refine(aZ (s[k]'a) _).mono ?_;rintro e F ⟨rfl,rfl⟩) | (at_builtin;refine wpList_append_own _ rfl _ _ 75 rfl w.heap.size 9 S (.string ByteArray.empty) 1 16 underlying75 T C D E rfl w8 u4 d.length (d.map eB) rfl (u.alloc _) ⟨wr.heap.size,0,none⟩ 1 1 [.string _] rfl rfl (cell_one_new _ _ _) (fun x r=>by simp at r;subst r;rfl) o6 x8 zQ0 ?_;intro Y Z f c _));obtain⟨J,K⟩:=fF u q f c;exact⟨⟨k+2,_,x8,r7,k7,n,J,K⟩,zL6⟩):P:=h
theorem zA3{P:Prop}(h:P:=by clear V HN t HD HK l;go_wp2_with (first | (at_builtin;refine wpList_append_own _ rfl _ _ 75 rfl w.heap.size 9 S (.string ByteArray.empty) 1 16 underlying75 T C D E rfl w8 u4 d.length (d.map eB) rfl (u.alloc _) ⟨wr.heap.size,0,none⟩ 1 1 [.string _] rfl rfl (cell_one_new _ _ _) (fun x r=>by simp at r;subst r;rfl) o6 x8 zQ0 ?_;intro Y Z f c _));obtain⟨J,K⟩:=fF u q f c;exact⟨⟨m,_,x8,r7,k7,n,J,K⟩,zL6⟩):P:=h
theorem zA4{P:Prop}(h:P:=by
 go_enter func24,ntmps24;go_wp2_with fail
 go_quiet (fail)
 go_wp2_with fail
 go_quiet (fail)
 go_wp2_with fail
 go_ret;refine dI a (aC (cK _ _ _) (aC (aE _ _ _ _) (World.grownBy_alloc _ _ _))) (AJ.up 1 _ _ _ (Nat.le_add_left _ _) ⟨w.heap.size,rfl,n_,heap_new_of (by rw [fR];rfl)⟩) (((N.drewN _).KE _).alloc _) ?_ ?_ ?_
 ·have:=F.out;dsimp only;omega
 ·simp;omega
 ·simp):P:=h
theorem zA5{P:Prop}(h:P:=by
 have u:=h_ h;obtain⟨vb,rfl,_⟩:=f;clear h;go_wp2_with fail;go_ret;refine dI l (aC C (aC (World.grownBy_alloc _ _ _) (aC (World.grownBy_alloc _ _ _) (World.grownBy_alloc _ _ _)))) (mW s (fun k D=>t_ C.size D) _ _ _ rfl rfl rfl) (((u.alloc _).alloc _).alloc _) ?_ ?_ ?_
 ·rfl
 ·dsimp only;omega
 ·rfl):P:=h
theorem zA6{P:Prop}(h:P:=by go_wp2_with (go_at_call 22;refine(aZ (s[k]'a) _).mono ?_;rintro e F ⟨rfl,rfl⟩);go_ret2;exact⟨_,false,rfl,q,.inl ⟨U,rfl⟩⟩):P:=h
theorem zA7{P:Prop}(h:P:=by
 rw [j] at a;dsimp only at a;subst a;have l:Hid (Pl.pd (n+1) ([39]::r)=none):=by show Pl.pd _ _=_;rw [Pl.H6 n _ r rfl,j];rfl
 clear j i;go_wp2_with fail;go_ret;refine⟨C,?_⟩;rw [l.out];rfl):P:=h
theorem zA8{P:Prop}(h:P:=by have m:Hid (Pl.low c=false):=Pl.PM c x8;go_wp2_with (go_at_call 36;refine(bI c _).mono ?_;rintro e j ⟨rfl,rfl⟩);go_ret;exact⟨aP (by rw [b.out,m.out];rfl),rfl⟩):P:=h
theorem zA9{P:Prop}(h:P:=by clear N O;go_wp2_with (go_at_call 22;refine(aZ (s[k]'a) _).mono ?_;rintro e F ⟨rfl,rfl⟩);exact⟨⟨k+1,d,x8,x8,k7,n,u,q⟩,zL6⟩):P:=h
theorem zB0{P:Prop}(h:P:=by
 refine⟨r7,fun t a=>?_⟩;rcases List.mem_cons.1 a with rfl | a
 ·simp
 ·exact⟨(b.2 t a).1,zP2⟩):P:=h
theorem zB1{P:Prop}(h:P:=by
 go_enter func36,ntmps36
 go_wp2
 go_ret;exact⟨by simp [A3];omega,rfl⟩):P:=h
section
open Go.RowKit
variable {n i k:Nat} {w:World}
theorem h_{p:Prop}(h:p):Hid p:=h
theorem n_:n<=n:=Nat.le_refl n
theorem r_{B:Nat}:Below B w w:=Below.refl B w
theorem b_{o:Obj}:Q3 w (w.alloc o):=(Below.refl _ _).alloc (Nat.le_refl _) o
theorem i_{α:Type}{a b:α}(h:some a=some b):a=b:=Option.some.inj h
theorem s_{α:Type}{l:List α}{a:α}(h:l[i]?=some a):∃h:i<l.length,l[i]=a:=List.getElem?_eq_some_iff.1 h
theorem g_{α:Type}{l:List α}(h:i<l.length):l[i]?=some l[i]:=List.getElem?_eq_getElem h
theorem l_{m:Nat}(a:n<m)(b:m<=k):n<k:=Nat.lt_of_lt_of_le a b
theorem t_{m:Nat}(a:n<=m)(b:m<=k):n<=k:=Nat.le_trans a b
theorem c_{α:Type}{a:α}{l1:List α}:(a::l1).length=l1.length+1:=List.length_cons
theorem a_{α:Type}{l1 l2:List α}:(l1++l2).length=l1.length+l2.length:=List.length_append
theorem z_{α:Type}:([]:List α).length=0:=List.length_nil
theorem o_{α:Type}(a b:α):(some a=some b)=(a=b):=Option.some.injEq a b
theorem e_{α:Type}{l:List α}(h:l.length=0):l=[]:=List.eq_nil_of_length_eq_zero h
theorem m_{α β:Type}{f:α->β}{x:Option α}{b:β}(h:x.map f=some b):∃a,x=some a/\f a=b:=Option.map_eq_some_iff.1 h
theorem q_{α:Type}{l:List α}{a:α}(h:l[i]?=some a):a∈l:=List.mem_of_getElem? h
theorem k_{o:Obj}(h:k<w.heap.size):(w.alloc o).heap[k]?=w.heap[k]? := Below.heap_alloc w o k h
end
open Go.Proofs.Tryz
section
abbrev muLink:Go.Conc.Locks.MuLink:={lock:=67,unlock:=68,ilock:=81,iunlock:=82,lockSlow:=105,unlockSlow:=108,disable:=101,enable:=103,acquire:=104,relMerge:=106,cas32:=102,add32:=107,tMutex:=63,tIMutex:=61,tPMutex:=220,tPIMutex:=243,tPI32:=245,tUP:=172,tNoCopy:=58,tU32:=59}
theorem zR:Go.Conc.Locks.MuLib prog muLink :=
 ⟨func67,func68,func81,func82,func101,func103,func104,func106,func102,func107,
  underlying61,Tryz.runUnderlying61,Tryz.sizeOf61,Tryz.isAgg61,Tryz.zeroValue61,underlying63,Tryz.runUnderlying63,Tryz.sizeOf63,Tryz.isAgg63,Tryz.zeroValue63,underlying220,Tryz.runUnderlying220,Tryz.sizeOf220,Tryz.isAgg220,Tryz.zeroValue220,underlying243,Tryz.runUnderlying243,Tryz.sizeOf243,Tryz.isAgg243,Tryz.zeroValue243,underlying245,Tryz.runUnderlying245,Tryz.sizeOf245,Tryz.isAgg245,Tryz.zeroValue245,underlying172,Tryz.runUnderlying172,Tryz.sizeOf172,Tryz.isAgg172,Tryz.zeroValue172,underlying58,Tryz.runUnderlying58,Tryz.sizeOf58,Tryz.isAgg58,Tryz.zeroValue58,underlying21,Tryz.runUnderlying21,Tryz.sizeOf21,Tryz.isAgg21,Tryz.zeroValue21,t8⟩
end
section
namespace Pl
def A3(c:UInt8):Bool:=decide (48<=c.toNat)&&decide (c.toNat<=57)
def EZ:Q7:=[43,45,42,47,60,61,62,63,33]
def low(c:UInt8):Bool:=decide (97<=c.toNat)&&decide (c.toNat<=122)
def CV(c:UInt8):Bool:=decide (c∈EZ)||(low c||A3 c)
theorem QM(c:UInt8)(a:(97:Int)<=c.toNat)(b:(c.toNat:Int)<=122):low c=true:=by simp [low];omega
theorem PM(c:UInt8)(h:¬((97:Int)<=c.toNat/\(c.toNat:Int)<=122)):low c=false:=by simp only [low,Bool.and_eq_false_iff,decide_eq_false_iff_not];omega
theorem T7(c:UInt8)(h:c∈EZ):CV c=true:=by simp [CV,h]
theorem T8(c:UInt8)(h:c∉EZ):CV c=(low c||A3 c):=by simp [CV,h]
theorem CR(a b:UInt8):((a.toNat:Int)==(b.toNat:Int))=(a==b):=by
 by_cases h:a=b
 ·subst h;simp
 ·have:¬(a.toNat:Int)=b.toNat:=fun e=>h (UInt8.toNat_inj.1 x8);rw [beq_eq_false_iff_ne.2 this,beq_eq_false_iff_ne.2 h]
theorem WP{α:Type}(l:List α)(c:α)(k:Nat)(h:k<l.length)(a:c∉l.take k)(b:¬l[k]=c):c∉l.take (k+1):=by rw [List.take_succ_eq_append_getElem h];simp only [List.mem_append,List.mem_singleton,not_or];exact⟨a,fun e=>b e.symm⟩
end Pl
end
open Pl (CV A3)
section
open Go.RowKit
theorem aP{a b:Bool}(h:a=b):Ending.returned (.bool a)=.returned (.bool b):=by rw [h]
theorem bI(c:UInt8)(w:World) :Q2 36 #[.int .u8 (c.toNat:Int)] w fun e a=>e=.returned (.bool (A3 c))/\w=a:=by
 by_cases b:(48:Int)<=c.toNat
 ·by_cases d:(c.toNat:Int)<=57
  ·exact zB1
  ·exact zB1
 ·exact zB1
theorem aZ(c:UInt8)(w:World) :Q2 22 #[.int .u8 (c.toNat:Int)] w fun e j=>e=.returned (.bool (CV c))/\w=j:=by
 go_enter func22,ntmps22
 go_wp2
 go_loop [4] (fun i=>∃k:Nat,k<=9/\i=.int .i64 k/\c∉Pl.EZ.take k) (fun i=>9-(intOf i).toNat)
 case atStart=>exact⟨0,Nat.zero_le _,rfl,w9⟩
 case round =>
  obtain⟨k,p,rfl,g⟩:=hrel;by_cases a:k<9
  ·by_cases f:Pl.EZ[k]'a=c
   ·have h:((Pl.EZ[k]'a).toNat:Int)==(c.toNat:Int):=by rw [Pl.CR];simp [f]
    have l:((ByteArray.mk #[43,45,42,47,60,61,62,63,33])[k].toNat:Int)==(c.toNat:Int):=h;have b:CV c=true:=Pl.T7 c (f▸List.getElem_mem _);clear h g f;go_wp2;go_ret;exact⟨rfl,rfl⟩
   ·have h:(((Pl.EZ[k]'a).toNat:Int)==(c.toNat:Int))=false:=by rw [Pl.CR];simp [f]
    have l:(((ByteArray.mk #[43,45,42,47,60,61,62,63,33])[k].toNat:Int)==(c.toNat:Int))=false:=h;have d:=Pl.WP Pl.EZ c k a g f;clear h g f;go_wp2;exact⟨⟨k+1,x8,k7,d⟩,zL6⟩
  ·have d:c∉Pl.EZ:=by rwa [List.take_of_length_le (by simp [Pl.EZ];omega)] at g
   have b:=h_ (Pl.T8 c d);clear g d;by_cases n:(97:Int)<=c.toNat
   ·by_cases o:(c.toNat:Int)<=122
    ·go_wp2
     go_ret;exact⟨aP (by rw [b.out,Pl.QM c n o];rfl),rfl⟩
    ·exact zA8
   ·exact zA8
end
section
variable {l:Q7} {pre:Q6} {k:Nat}
namespace Pl
def blank(c:UInt8):Bool:=c==32||c==10
def H4(c:UInt8):Bool:=c==40||c==41||c==39
def KO:Nat->List UInt8->Option (Q6)
 | 0,_=>some []
 | _+1,[]=>some []
 | n+1,c::r =>
  if blank c then KO n r
  else if c==35 then
   match r with
   | []=>none
   | d::q=>if d==116||d==102 then(KO n q).map ([c,d]::·) else none
  else if CV c then(KO n (r.dropWhile CV)).map ((c::r.takeWhile CV)::·)
  else if H4 c then(KO n r).map ([c]::·)
  else none
theorem eQ(p:UInt8->Bool)(l:Q7):(l.dropWhile p).length<=l.length:=(List.dropWhile_sublist p).length_le
theorem eT:∀(n m:Nat)(l:Q7),l.length<=n->l.length<=m->KO n l=KO m l
 | 0,0,_,_,_=>rfl
 | 0,m+1,[],_,_=>rfl
 | 0,m+1,_::_,h,_=>by simp at h
 | n+1,0,[],_,_=>rfl
 | n+1,0,_::_,_,h=>by simp at h
 | n+1,m+1,[],_,_=>rfl
 | n+1,m+1,c::r,a,b=>by
  simp only [c_] at a b;have e:=eT n m r x8 x8;have g:=eQ CV r;have f:=eT n m (r.dropWhile CV) x8 x8;unfold KO;rw [e,f]
  cases r with
  | nil=>rfl
  | cons d q =>simp only [c_] at a b;dsimp only;rw [eT n m q x8 x8]
def BX(l:Q7):Option (Q6):=KO l.length l
theorem lB(n:Nat)(l:Q7)(h:l.length<=n):KO n l=BX l:=eT _ _ _ h n_
theorem wX:BX []=some []:=rfl
theorem rN(c:UInt8)(r:Q7)(h:blank c=true):BX (c::r)=BX r:=by simp [BX,KO,h]
theorem KY:BX [35]=none:=by decide
theorem MA(d:UInt8)(q:Q7)(h:(d==116||d==102)=true):BX (35::d::q)=(BX q).map ([35,d]::·):=by
 have a:blank 35=false:=by decide
 show KO (q.length+1+1) (35::d::q)=_;unfold KO;dsimp only;rw [lB _ q x8];simp only [a,h];rfl
theorem J3(d:UInt8)(q:Q7)(h:(d==116||d==102)=false):BX (35::d::q)=none:=by
 have a:blank 35=false:=by decide
 show KO (q.length+1+1) (35::d::q)=_;unfold KO;simp only [a,h];rfl
theorem pN(c:UInt8)(h:CV c=true):blank c=false/\(c==35)=false:=by
 by_cases a:blank c=true
 ·simp only [blank,Bool.or_eq_true,beq_iff_eq] at a;rcases a with rfl | rfl<;>exact absurd h w8
 ·refine⟨zM1,?_⟩;by_cases b:c=35
  ·subst b;exact absurd h w8
  ·simpa using b
theorem L9(c:UInt8)(r:Q7)(h:CV c=true):BX (c::r)=(BX (r.dropWhile CV)).map ((c::r.takeWhile CV)::·):=by obtain⟨a,b⟩:=pN c h;show KO (r.length+1) (c::r)=_;unfold KO;rw [lB _ (r.dropWhile CV) (eQ _ _)];simp [a,b,h]
theorem KX(c:UInt8)(r:Q7)(b:CV c=false)(h:H4 c=true):BX (c::r)=(BX r).map ([c]::·):=by
 have a:blank c=false/\(c==35)=false:=by simp only [H4,Bool.or_eq_true,beq_iff_eq] at h;rcases h with(rfl | rfl) | rfl<;>decide
 show KO (r.length+1) (c::r)=_;unfold KO;rw [lB _ r n_];simp [a.1,a.2,h,b]
theorem NL(c:UInt8)(r:Q7)(a:blank c=false)(b:(c==35)=false)(d:CV c=false)(e:H4 c=false):BX (c::r)=none:=by show KO (r.length+1) (c::r)=_;unfold KO;simp [a,b,d,e]
def DO(l:Q7)(pre:Q6)(k:Nat):Prop:=BX l=(BX (l.drop k)).map (pre++·)
theorem DO.start(l:Q7):DO l [] 0:=by unfold DO;simp
theorem DO.end_(h:DO l pre k)(a:l.length<=k):BX l=some pre:=by rw [h,List.drop_of_length_le a,wX];simp
theorem EN{α:Type}(l:List α)(k:Nat)(h:k<l.length):l.drop k=l[k]::l.drop (k+1):=List.drop_eq_getElem_cons h
theorem DO.blank(h:DO l pre k)(a:k<l.length)(b:Pl.blank l[k]=true):DO l pre (k+1):=by unfold DO at *;rw [h,EN l k a,rN _ _ b]
theorem DO.none_(h:DO l pre k)(a:BX (l.drop k)=none):BX l=none:=by rw [h,a];rfl
theorem DO.more{m:Nat}{t:Q7}(h:DO l pre k)(a:BX (l.drop k)=(BX (l.drop m)).map (t::·)):DO l (pre++[t]) m:=by
 unfold DO at *;rw [h,a]
 cases BX (l.drop m)<;>simp
theorem G8(p:UInt8->Bool):∀(l:Q7)(m:Nat),m<=l.length->(∀j (h:j<l.length),j<m->p l[j]=true)->(∀h:m<l.length,p (l[m])=false)->l.takeWhile p=l.take m/\l.dropWhile p=l.drop m
 | [],m,_,_,_=>by simp
 | c::r,0,_,_,a=>by have:=a w9;simp at this;simp [List.takeWhile,List.dropWhile,this]
 | c::r,m+1,e,b,a=>by have f:p c=true:=b 0 w9 x8;have d:=G8 p r m a6 (fun j h g=>by have:=b (j+1) zO3 x8;simpa using this) (fun h=>by have:=a zO3;simpa using this);simp [List.takeWhile,List.dropWhile,f,d.1,d.2]
theorem DO.word{m:Nat}(h:DO l pre k)(c:k<l.length)(d:CV l[k]=true)(f:k+1<=m)(r:m<=l.length)
  (g:∀j (h:j<l.length),k<j->j<m->CV l[j]=true) (i:∀h:m<l.length,CV l[m]=false):DO l (pre++[(l.drop k).take (m-k)]) m:=by
 refine h.more ?_;have n:=EN l k c
 have b:=G8 CV (l.drop (k+1)) (m-(k+1)) r7
  (fun j a o=>by
   rw [List.getElem_drop]
   exact g _ (by simp at a;omega) x8 x8)
  (fun a=>by
   rw [List.getElem_drop];have e:k+1+(m-(k+1))=m:=by omega
   simp only [e]
   exact i (by simp at a;omega))
 rw [n,L9 _ _ d,b.1,b.2];have p:m-k=(m-(k+1))+1:=by omega
 have q:List.drop (m-(k+1)) (List.drop (k+1) l)=l.drop m:=by rw [List.drop_drop];congr 1;omega
 rw [p,q,List.take_succ_cons]
end Pl
end
section
open Go.RowKit
def eB(l:Q7):Value:=.string ⟨l.toArray⟩
theorem Tryz.QN:(prog.info? 9).map (fun i=>(i.zero,i.size,i.bytes))=some (some (.string ByteArray.empty),1,16):=by kernel_rfl
theorem oB(s:Q8)(i k:Nat):Value.string (s.extract i k)=eB ((s.data.toList.drop i).take (k-i)):=by
 unfold eB
 congr 1
 apply ByteArray.ext;rw [ByteArray.data_extract];apply Array.toList_inj.1;simp [Array.toList_extract,List.extract_eq_take_drop]
theorem bE(s:Q8)(k:Nat)(h:k<s.size):s.data.toList[k]' zO3=s[k]:=by rw [Array.getElem_toList];rfl
def U0:Value->Nat | .bool true=>1 | _=>0
theorem b32(c:UInt8):((c.toNat:Int)==32)=(c==32):=Pl.CR c 32
theorem b10(c:UInt8):((c.toNat:Int)==10)=(c==10):=Pl.CR c 10
theorem b35(c:UInt8):((c.toNat:Int)==35)=(c==35):=Pl.CR c 35
theorem b116(c:UInt8):((c.toNat:Int)==116)=(c==116):=Pl.CR c 116
theorem b102(c:UInt8):((c.toNat:Int)==102)=(c==102):=Pl.CR c 102
theorem b40(c:UInt8):((c.toNat:Int)==40)=(c==40):=Pl.CR c 40
theorem b41(c:UInt8):((c.toNat:Int)==41)=(c==41):=Pl.CR c 41
theorem b39(c:UInt8):((c.toNat:Int)==39)=(c==39):=Pl.CR c 39
theorem b45(c:UInt8):((c.toNat:Int)==45)=(c==45):=Pl.CR c 45
def ZN(bs:Q7)(w:World)(e:Ending)(w':World):Prop :=
 ∃v b,e=.returned (.tuple #[v,.bool b])/\Q3 w w' /\
  ((Pl.BX bs=none/\b=false)\/∃l,Pl.BX bs=some l/\b=true/\w'.ownsRow w.heap.size 9 1 v l.length (l.map eB))
theorem fF{w wr w3:World}{s:Q8}{k m:Nat}{pre:Q6}{v v':Value}{o:Obj}(c:wr.ownsRow w.heap.size 9 1 v pre.length (pre.map eB))(b:Q3 w wr)
  (a:w3.ownsRow w.heap.size 9 1 v' (pre.length+1) (pre.map eB++[Value.string (s.extract k m)])) (d:(wr.alloc o).grownBy w3 v.ownBlock) :
  Hid (w3.ownsRow w.heap.size 9 1 v' (pre++[(s.data.toList.drop k).take (m-k)]).length ((pre++[(s.data.toList.drop k).take (m-k)]).map eB))/\Hid (Q3 w w3):=by
 constructor
 ·show w3.ownsRow _ _ _ _ _ _;rw [oB] at a;simpa using a
 ·exact(b.alloc b.size o).grown d (by have:=b.size;simp;omega) (fun j e=>(c.lt j e).1)
theorem rT(s:Q8)(w:World)(hs:s.size<=1000) :Q2 21 #[.string s] w fun e F=>ZN s.data.toList w e F:=by
 obtain⟨S,T,C,D,E⟩:=info_parts Tryz.QN;go_enter func21,ntmps21;go_wp2
 go_loopw [4,5] (fun v i wr=>∃(k:Nat) (d:Q6),k<=s.size/\d.length<=k/\i=.int .i64 k/\Hid (Pl.DO s.data.toList d k)/\Hid (wr.ownsRow w.heap.size 9 1 v d.length (d.map eB))/\Hid (Q3 w wr))
  (fun _ i _=>s.size-(intOf i).toNat)
 case atStart=>exact⟨0,[],Nat.zero_le _,Nat.zero_le _,rfl,Pl.DO.start _,World.ownsRow_nil _ _ _ _,r_⟩
 case round =>
  obtain⟨k,d,hk,ah,rfl,t,u,q⟩:=hrel;by_cases a:k<s.size
  ·have l:k<s.data.toList.length:=by simpa using a
   have G:=bE s k a;by_cases O:Pl.blank (s[k]'a)=true
   ·have n:Hid (Pl.DO s.data.toList d (k+1)):=t.blank l (by rw [G];exact O);clear t l G;by_cases N:(s[k]'a==32)=true
    ·have q1:(((s[k]'a).toNat:Int)==32)=true:=by rw [b32];exact N
     exact zA9
    ·have q1:(((s[k]'a).toNat:Int)==32)=false:=by rw [b32];simpa using N
     have q2:(((s[k]'a).toNat:Int)==10)=true:=by rw [b10];simpa [Pl.blank,N] using O
     exact zA9
   ·have p:Pl.blank (s[k]'a)=false:=by simpa using O
    have P:=p;simp only [Pl.blank,Bool.or_eq_false_iff] at P;have q1:(((s[k]'a).toNat:Int)==32)=false:=by rw [b32];exact P.1
    have q2:(((s[k]'a).toNat:Int)==10)=false:=by rw [b10];exact P.2
    clear P O;by_cases o:(s[k]'a==35)=true
    ·have q3:(((s[k]'a).toNat:Int)==35)=true:=by rw [b35];exact o
     by_cases h2:s.size<k+2
     ·have U:Hid (Pl.BX s.data.toList=none):=t.none_ (by
       rw [Pl.EN _ _ l,G,List.drop_of_length_le r7,(by simpa using o:s[k]'a=35)];exact Pl.KY)
      clear t l G o p;exact zA6
     ·have g:k+1<s.size:=by omega
      have Q:=bE s (k+1) g;have H:k+1<s.data.toList.length:=by simpa using g
      have q5:decide ((s.size:Int)<(k:Int)+2)=false:=by simp;omega
      by_cases I:(s[k+1]'g==116||s[k+1]'g==102)=true
      ·have n:Hid (Pl.DO s.data.toList (d++[(s.data.toList.drop k).take (k+2-k)]) (k+2)):=t.more (by
        rw [Pl.EN _ _ l,Pl.EN _ _ H,G,Q,(by simpa using o:s[k]'a=35),Pl.MA _ _ I]
        simp)
       clear t l G o p H Q;by_cases y:(s[k+1]'g==116)=true
       ·have X:(((s[k+1]'g).toNat:Int)!=116)=false:=by rw [bne,show(((s[k+1]'g).toNat:Int)==116)=true from by rw [b116];exact y];rfl
        exact zA2
       ·have X:(((s[k+1]'g).toNat:Int)!=116)=true:=by rw [bne,show(((s[k+1]'g).toNat:Int)==116)=false from by rw [b116];simpa using y];rfl
        have q6:(((s[k+1]'g).toNat:Int)!=102)=false:=by rw [bne,show(((s[k+1]'g).toNat:Int)==102)=true from by rw [b102];simpa [y] using I];rfl
        exact zA2
      ·have z:(s[k+1]'g==116||s[k+1]'g==102)=false:=by simpa using I
       have U:Hid (Pl.BX s.data.toList=none):=t.none_ (by
        rw [Pl.EN _ _ l,Pl.EN _ _ H,G,Q,(by simpa using o:s[k]'a=35),Pl.J3 _ _ z])
       simp only [Bool.or_eq_false_iff] at z;have X:(((s[k+1]'g).toNat:Int)!=116)=true:=by rw [bne,show(((s[k+1]'g).toNat:Int)==116)=false from by rw [b116];exact z.1];rfl
       have q6:(((s[k+1]'g).toNat:Int)!=102)=true:=by rw [bne,show(((s[k+1]'g).toNat:Int)==102)=false from by rw [b102];exact z.2];rfl
       clear t l G o p H Q I z;exact zA6
    ·have A:(s[k]'a==35)=false:=by simpa using o
     have q3:(((s[k]'a).toNat:Int)==35)=false:=by rw [b35];exact A
     by_cases hw:CV (s[k]'a)=true
     ·have HK:=h_ l;have HD:Hid (CV (s.data.toList[k]'l)=true):=by rw [G];exact hw
      clear G o A p;go_wp2_with (go_at_call 22;refine(aZ (s[k]'a) _).mono ?_;rintro e F ⟨rfl,rfl⟩)
      go_loopw [6,9] (fun kk mo wq=>∃(m:Nat)(b:Bool),k+1<=m/\m<=s.size/\kk=.int .i64 m/\mo=.bool b/\wr=wq/\Hid (∀j (h:j<s.data.toList.length),k<j->j<m->CV s.data.toList[j]=true)/\Hid (b=false->∀h:m<s.data.toList.length,CV s.data.toList[m]=false))
       (fun kk mo _=>s.size-(intOf kk).toNat+U0 mo)
      case atStart=>exact⟨k+1,true,n_,x8,k7,rfl,rfl,fun j h h1 h2=>by omega,fun h=>by cases h⟩
      case round =>
       obtain⟨m,b,aa,ab,rfl,rfl,rfl,V,HN⟩:=hrel;by_cases O:b=true
       ·subst O;by_cases L:m<s.size
        ·have R:=bE s m L;have ac:m<s.data.toList.length:=by simpa using L
         by_cases W:CV (s[m]'L)=true
         ·have af:Hid (∀j (h:j<s.data.toList.length),k<j->j<m+1->CV s.data.toList[j]=true):=by
           intro j h h1 h2;by_cases hj:j=m
           ·subst hj;rw [R];exact W
           ·exact V.out j h h1 x8
          clear R ac V HN t HD HK l;go_wp2_with (go_at_call 22;refine(aZ (s[m]'L) _).mono ?_;rintro e F ⟨rfl,rfl⟩);exact⟨⟨m+1,true,x8,x8,k7,w9,trivial,af,fun h=>by cases h⟩,by simp [intOf,U0];omega⟩
         ·have ad:CV (s[m]'L)=false:=by simpa using W
          have ag:Hid (∀h:m<s.data.toList.length,CV s.data.toList[m]=false):=fun h=>by rw [R];exact ad
          clear R ac HN t HD HK l W;go_wp2_with (go_at_call 22;refine(aZ (s[m]'L) _).mono ?_;rintro e F ⟨rfl,rfl⟩);exact⟨⟨m,false,x8,x8,rfl,w9,trivial,V,fun _=>ag.out⟩,by simp [intOf,U0]⟩
        ·have n:Hid (Pl.DO s.data.toList (d++[(s.data.toList.drop k).take (m-k)]) m):=t.word HK HD aa (by simpa using ab) V (fun h=>by simp at h;omega);exact zA3
       ·have p:b=false:=by simpa using O
        subst p;have n:Hid (Pl.DO s.data.toList (d++[(s.data.toList.drop k).take (m-k)]) m):=t.word HK HD aa (by simpa using ab) V (HN rfl);exact zA3
     ·have ae:CV (s[k]'a)=false:=by simpa using hw
      by_cases B:Pl.H4 (s[k]'a)=true
      ·have n:Hid (Pl.DO s.data.toList (d++[(s.data.toList.drop k).take (k+1-k)]) (k+1)):=t.more (by
        rw [Pl.EN _ _ l,G,Pl.KX _ _ ae B]
        simp)
       simp only [Pl.H4,Bool.or_eq_true,beq_iff_eq] at B;clear t l G o A p hw;rcases B with(B | B) | B
       ·have X:(((s[k]'a).toNat:Int)!=40)=false:=by rw [bne,show(((s[k]'a).toNat:Int)==40)=true from by rw [b40];simpa using B];rfl
        exact zA1
       ·have X:(((s[k]'a).toNat:Int)!=40)=true:=by rw [bne,show(((s[k]'a).toNat:Int)==40)=false from by rw [b40];simp [B]];rfl
        have q5:(((s[k]'a).toNat:Int)!=41)=false:=by rw [bne,show(((s[k]'a).toNat:Int)==41)=true from by rw [b41];simpa using B];rfl
        exact zA1
       ·have X:(((s[k]'a).toNat:Int)!=40)=true:=by rw [bne,show(((s[k]'a).toNat:Int)==40)=false from by rw [b40];simp [B]];rfl
        have q5:(((s[k]'a).toNat:Int)!=41)=true:=by rw [bne,show(((s[k]'a).toNat:Int)==41)=false from by rw [b41];simp [B]];rfl
        have q6:(((s[k]'a).toNat:Int)!=39)=false:=by rw [bne,show(((s[k]'a).toNat:Int)==39)=true from by rw [b39];simpa using B];rfl
        exact zA1
      ·have M:Pl.H4 (s[k]'a)=false:=by simpa using B
       have U:Hid (Pl.BX s.data.toList=none):=t.none_ (by
        rw [Pl.EN _ _ l,G,Pl.NL _ _ p A ae M])
       simp only [Pl.H4,Bool.or_eq_false_iff] at M;have X:(((s[k]'a).toNat:Int)!=40)=true:=by rw [bne,show(((s[k]'a).toNat:Int)==40)=false from by rw [b40];exact M.1.1];rfl
       have q5:(((s[k]'a).toNat:Int)!=41)=true:=by rw [bne,show(((s[k]'a).toNat:Int)==41)=false from by rw [b41];exact M.1.2];rfl
       have q6:(((s[k]'a).toNat:Int)!=39)=true:=by rw [bne,show(((s[k]'a).toNat:Int)==39)=false from by rw [b39];exact M.2];rfl
       clear t l G o A p hw B M;exact zA6
  ·have U:Hid (Pl.BX s.data.toList=some d):=t.end_ r7;go_wp2;go_ret2;exact⟨_,true,rfl,q,.inr ⟨d,U,rfl,u⟩⟩
end
section
namespace Pl
def CG:Nat:=1099511627776
def minus(w:Q7):Bool:=decide (1<w.length)&&(w.headD 0==45)
def EY(w:Q7):Q7:=if minus w then w.drop 1 else w
def isNum(w:Q7):Bool:=(EY w).all A3
def DZ(w:Q7):Bool:=w.all (fun c=>!A3 c)
def F5(ds:Q7):Nat:=ds.foldl (fun a c=>10*a+(c.toNat-48)) 0
def F3(w:Q7):Int:=if minus w then -(F5 (EY w):Int) else(F5 (EY w):Int)
def ER(w:Q7):Bool:=decide (CG<F5 (EY w))
def KZ(a:Nat×Bool)(c:UInt8):Nat×Bool:=if CG<10*a.1+(c.toNat-48) then(0,true) else(10*a.1+(c.toNat-48),a.2)
def ES(ds:Q7):Nat×Bool:=ds.foldl KZ (0,false)
theorem vR(a:Q7)(c:UInt8):F5 (a++[c])=10*F5 a+(c.toNat-48):=by simp [F5]
theorem K4(a:Q7)(c:UInt8):ES (a++[c])=KZ (ES a) c:=by simp [ES]
theorem UI(d:Q7):(ES d).1<=CG:=by
 have b:∀(r:Q7)(a:Nat×Bool),a.1<=CG->(r.foldl KZ a).1<=CG:=by
  intro r
  induction r with
  | nil=>intro a h;exact h
  | cons c r e =>
   intro a h;refine e _ ?_;unfold KZ;split
   ·simp
   ·simp only;omega
 exact b d (0,false) w9
theorem jS:∀(n:Nat)(a:Q7),a.length=n->(F5 a<=CG->ES a=(F5 a,false))/\(CG<F5 a->(ES a).2=true)
 | 0,a,h=>by obtain rfl:=e_ h;exact⟨fun _=>rfl,fun h=>by simp [F5] at h⟩
 | n+1,a,h=>by
  have b:a≠[]:=fun e=>by simp [e] at h
  obtain⟨r,c,rfl⟩:∃r c,a=r++[c]:=⟨a.dropLast,a.getLast b,(List.dropLast_concat_getLast b).symm⟩
  have d:=jS n r zO3;rw [vR,K4];by_cases g:F5 r<=CG
  ·rw [d.1 g];unfold KZ;constructor
   ·intro f;simp only;rw [if_neg x8]
   ·intro f;simp only;rw [if_pos x8]
  ·have i:=d.2 x8;constructor
   ·intro f;omega
   ·intro _;unfold KZ;split
    ·rfl
    ·exact i
theorem OA(a:Q7):(ES a).2=decide (CG<F5 a):=by
 have h:=jS _ a rfl;by_cases b:F5 a<=CG
 ·rw [h.1 b];simp;omega
 ·rw [h.2 x8];simp;omega
theorem P0(a:Q7)(h:F5 a<=CG):(ES a).1=F5 a:=by rw [(jS _ a rfl).1 h]
theorem S5(l:Q7)(k:Nat)(h:k<l.length):l.take (k+1)=l.take k++[l[k]]:=List.take_succ_eq_append_getElem h
theorem I2{p:UInt8->Bool}(l:Q7)(h:∀j (h:j<l.length),p l[j]=true):l.all p=true:=by rw [List.all_eq_true];intro x a;obtain⟨j,b,rfl⟩:=List.getElem_of_mem a;exact h j b
theorem GJ{p:UInt8->Bool}(l:Q7)(j:Nat)(a:j<l.length)(h:p l[j]=false):l.all p=false:=by rw [List.all_eq_false];exact⟨l[j],List.getElem_mem _,by simp [h]⟩
theorem OB(c:UInt8)(h:A3 c=true):48<=c.toNat/\c.toNat<=57:=by simpa [A3] using h
theorem ZG{p:UInt8->Bool}(l:Q7)(h:l.all p=true)(j:Nat)(a:j<l.length):p l[j]=true:=List.all_eq_true.1 h _ (List.getElem_mem _)
theorem K3(l:Q7)(h:0<l.length):l.headD 0=l[0]:=by cases l<;>simp at h ⊢
end Pl
end
section
open Go.RowKit
variable {w w' a:World} {b:Nat} {ok:Q5} {L:Value} {at_ dp:Int} {g:Bool} {c:Array Value} {T:TypeId}
def ZQ(s:Q8)(e:Ending):Prop :=
 (Pl.isNum s.data.toList=true/\∃d:Q8,d.data.toList=Pl.EY s.data.toList/\d.size<=s.size/\e=.returned (.tuple #[.string d,.bool (Pl.minus s.data.toList),.bool true])) \/
 (Pl.isNum s.data.toList=false/\∃d:Q8,∃b,e=.returned (.tuple #[.string d,.bool b,.bool false]))
theorem vT(s:Q8)(a:1<s.size)(h:(((s[0]' x8).toNat:Int)==45)=true):Pl.minus s.data.toList=true:=by
 have b:0<s.data.toList.length:=by simp;omega
 rw [b45] at h;simp only [Pl.minus,Pl.K3 _ b,Bool.and_eq_true,decide_eq_true_eq];refine⟨zM1,?_⟩;rw [bE s 0 x8];exact h
theorem zS(s:Q8)(b:1<s.size)(h:(((s[0]' x8).toNat:Int)==45)=false):Pl.minus s.data.toList=false:=by
 have a:0<s.data.toList.length:=by simp;omega
 rw [b45] at h;simp only [Pl.minus,Pl.K3 _ a,Bool.and_eq_false_iff,decide_eq_false_iff_not];right;rw [bE s 0 x8];exact h
theorem pC(s:Q8)(a:¬1<s.size):Pl.minus s.data.toList=false:=by simp only [Pl.minus,Bool.and_eq_false_iff,decide_eq_false_iff_not];left;simpa using a
theorem eP(s:Q8)(i k:Nat):(s.extract i k).data.toList=(s.data.toList.drop i).take (k-i):=by rw [ByteArray.data_extract];simp [Array.toList_extract,List.extract_eq_take_drop]
theorem rX(s:Q8)(w:World)(A:s.size<=1000) :Q2 37 #[.string s] w fun e q=>ZQ s e/\w=q:=by
 by_cases u:1<s.size
 ·by_cases v:(((s[0]' x8).toNat:Int)==45)=true
  ·have o:=h_ (vT s u v);go_enter func37,ntmps37;go_wp2;obtain⟨d,p⟩:∃d,d=s.extract 1 s.size:=⟨_,rfl⟩
   have l:Hid (d.data.toList=Pl.EY s.data.toList):=by show d.data.toList=_;rw [p,eP,Pl.EY,o.out,List.take_of_length_le w9];simp
   have z:d.size+1=s.size:=by rw [p];simp;omega
   rw [<- p];clear p
   go_loopw [7] (fun i r=>∃k:Nat,k<=d.size/\i=.int .i64 k/\w=r/\Hid (∀j (h:j<d.data.toList.length),j<k->A3 d.data.toList[j]=true)) (fun i _=>d.size-(intOf i).toNat)
   case atStart=>exact⟨0,Nat.zero_le _,rfl,rfl,fun j _ t=>by omega⟩
   case round =>
    obtain⟨k,y,rfl,rfl,f⟩:=hrel;by_cases a:k<d.size
    ·have g:=bE d k a;by_cases b:A3 (d[k]'a)=true
     ·have m:Hid (∀j (h:j<d.data.toList.length),j<k+1->A3 d.data.toList[j]=true):=by
       intro j h t;by_cases e:j=k
       ·subst e;rw [g];exact b
       ·exact f.out j h x8
      clear g f;go_wp2_with (go_at_call 36;refine(bI (d[k]'a) _).mono ?_;rintro e q ⟨rfl,rfl⟩);exact⟨⟨k+1,x8,k7,trivial,m⟩,zL6⟩
     ·have c:A3 (d[k]'a)=false:=by simpa using b
      have n:Hid (Pl.isNum s.data.toList=false):=by show Pl.isNum _=_;unfold Pl.isNum;rw [<- l.out];exact Pl.GJ _ k zM1 (by rw [g];exact c)
      clear g f b;go_wp2_with (go_at_call 36;refine(bI (d[k]'a) _).mono ?_;rintro e q ⟨rfl,rfl⟩)
      go_ret3
      exact⟨.inr ⟨n,_,_,rfl⟩,rfl⟩
    ·have n:Hid (Pl.isNum s.data.toList=true):=by
      show Pl.isNum _=_;unfold Pl.isNum;rw [<- l.out];exact Pl.I2 _ fun j h=>f.out j h zN7
     go_wp2
     go_ret3
     exact⟨.inl ⟨n,d,l,x8,by rw [o.out];rfl⟩,rfl⟩
  ·have x:(((s[0]' x8).toNat:Int)==45)=false:=by simpa using v
   have o:=h_ (zS s u x);obtain⟨d,p⟩:∃d,d=s:=⟨_,rfl⟩
   subst p;have l:Hid (d.data.toList=Pl.EY d.data.toList):=by show d.data.toList=_;rw [Pl.EY,o.out];rfl
   clear v;go_enter func37,ntmps37;exact zA0
 ·have o:=h_ (pC s u);obtain⟨d,p⟩:∃d,d=s:=⟨_,rfl⟩
  subst p;have l:Hid (d.data.toList=Pl.EY d.data.toList):=by show d.data.toList=_;rw [Pl.EY,o.out];rfl
  go_enter func37,ntmps37
  exact zA0
abbrev Tr:=DataW Unit
def TD:TypeId:=125
def TP:TypeId:=85
def TR:TypeId:=88
def PU:Value:=.string ⟨#[110,117,109,98,101,114]⟩
def kNam:Value:=.string ⟨#[110,97,109,101]⟩
def PQ:Value:=.string ⟨#[116,114,117,116,104]⟩
def kLst:Value:=.string ⟨#[108,105,115,116]⟩
def tI:Value:=.string ⟨#[]⟩
def gW(m:Int):Prop:=-(Pl.CG:Int)<=m/\m<=(Pl.CG:Int)
def AJ(ok:Q5):Nat->World->Value->Tr->Prop
 | 0,_,_,_=>False
 | n+1,w,v,t=>∃b,v=(Q0 b)/\ok b /\
  match t with
  | .lit (.int _ m)=>∃k:Int,w.heap[b]?=some (.cells #[PU,Q1 k,tI,.slice none 0 0] TD (0,0))/\(gW m->k=m)
  | .lit (.bool x)=>w.heap[b]?=some (.cells #[PQ,Q1 (if x then 1 else 0),tI,.slice none 0 0] TD (0,0))
  | .lit (.string s)=>w.heap[b]?=some (.cells #[kNam,Q1 0,eB s,.slice none 0 0] TD (0,0))
  | .agg ts=>∃kids vs,w.heap[b]?=some (.cells #[kLst,Q1 0,tI,kids] TD (0,0))/\(∀r,kids.ownBlock=some r->ok r)/\w.ownsRow 0 TP 1 kids ts.length vs /\
    (∀(i:Nat)(u:Value)(x:Tr),vs[i]?=some u->ts[i]?=some x->AJ ok n w u x)/\ts.length<=1000
  | _=>False
def CU(ok:Q5)(w w':World):Prop:=∀(k:Nat)(cur:Array Value)(e:TypeId),ok k->e=TD\/e=TP->w.heap[k]?=some (.cells cur e (0,0))->w'.heap[k]?=some (.cells cur e (0,0))
theorem aB{k:Nat}{o:Obj}(h:w.heap[k]?=some o):k<w.heap.size:=(Array.getElem?_eq_some_iff.1 h).1
theorem CU.AA(h:Q3 w w'):CU ok w w':=fun k _ _ _ _ a=>(h.block k (aB a)).trans a
theorem CU.DX{f:Nat×Nat}(g:w.grownBy w' (some b))(h:w.heap[b]?=some (.cells c T f))(i:T≠TD)(j:T≠TP):CU ok w w':=by
 intro k l e _ m a
 have d:some k≠some b:=by
  intro n;obtain rfl:=i_ n;rw [h] at a;simp only [o_,Obj.cells.injEq] at a;rcases m with rfl | rfl
  ·exact i a.2.1
  ·exact j a.2.1
 exact(g.block k (aB a) d).trans a
theorem CU.mono{ok':Q5}(h:CU ok w w')(hi:∀k,ok' k->ok k):CU ok' w w':=fun k a e o=>h k a e (hi k o)
theorem nO{v:Value}{n:Nat}{xs:List Value}(d:CU ok w w')(e:∀r,v.ownBlock=some r->ok r)(h:w.ownsRow 0 TP 1 v n xs):w'.ownsRow 0 TP 1 v n xs:=by
 refine⟨h.1,?_⟩;rcases h.2 with f | ⟨g,c,a,rfl,i,j,b⟩
 ·exact .inl f
 ·exact .inr ⟨g,c,a,rfl,i,d g a TP (e g rfl) (.inr rfl) j,b⟩
theorem AJ.keep(a:CU ok w w'):∀(n:Nat)(v:Value)(t:Tr),AJ ok n w v t->AJ ok n w' v t
 | 0,_,_,h=>h
 | n+1,v,t,h=>by
  obtain⟨b,g,c,h⟩:=h;refine⟨b,g,c,?_⟩
  match t,h with
  | .lit (.int _ m),⟨k,f,e⟩=>exact⟨k,a b _ _ c (.inl rfl) f,e⟩
  | .lit (.bool x),h=>exact a b _ _ c (.inl rfl) h
  | .lit (.string s),h=>exact a b _ _ c (.inl rfl) h
  | .agg y,⟨d,j,f,e,l,o,p⟩=>exact⟨d,j,a b _ _ c (.inl rfl) f,e,nO a e l,fun i u x q r=>AJ.keep a n u x (o i u x q r),p⟩
theorem AJ.mono{ok':Q5}(hi:∀k,k<w.heap.size->ok k->ok' k):∀(n:Nat)(v:Value)(t:Tr),AJ ok n w v t->AJ ok' n w v t
 | 0,_,_,h=>h
 | n+1,v,t,h=>by
  obtain⟨b,d,e,h⟩:=h
  match t,h with
  | .lit (.int _ m),⟨k,a,f⟩=>exact⟨b,d,hi b (aB a) e,k,a,f⟩
  | .lit (.bool x),h=>exact⟨b,d,hi b (aB h) e,h⟩
  | .lit (.string s),h=>exact⟨b,d,hi b (aB h) e,h⟩
  | .agg z,⟨c,l,a,f,g,o,p⟩=>exact⟨b,d,hi b (aB a) e,c,l,a,fun r j=>hi r (g.lt r j).2 (f r j),g,fun i u x q y=>AJ.mono hi n u x (o i u x q y),p⟩
theorem AJ.up:∀(n m:Nat)(v:Value)(t:Tr),n<=m->AJ ok n w v t->AJ ok m w v t
 | 0,_,_,_,_,h=>h.elim
 | n+1,0,_,_,c,_=>by omega
 | n+1,m+1,v,t,c,h=>by
  obtain⟨b,d,e,h⟩:=h;refine⟨b,d,e,?_⟩
  match t,h with
  | .lit (.int _ m),h=>exact h
  | .lit (.bool x),h=>exact h
  | .lit (.string s),h=>exact h
  | .agg r,⟨a,f,g,j,k,l,o⟩=>exact⟨a,f,g,j,k,fun i u x p q=>AJ.up n m u x x8 (l i u x p q),o⟩
def Rd(w:World)(b:Nat)(L:Value)(at_ dp:Int)(g:Bool):Prop:=w.heap[b]?=some (.cells #[L,Q1 at_,Q1 dp,.bool g] TR (0,0))
theorem aA(h:w.heap[b]?=some (.cells c T (0,0)))(o:Nat):w.cell? ⟨b,o,none⟩=c[o]? := by simp [World.cell?,h]
theorem aF(h:w.heap[b]?=some (.cells c T (0,0)))(o:Nat):w.frozen? ⟨b,o,none⟩=false:=by simp [World.frozen?,h]
theorem Rd.cells(h:Rd w b L at_ dp g) :w.cell? ⟨b,0,none⟩=some L/\w.cell? ⟨b,1,none⟩=some (Q1 at_)/\w.cell? ⟨b,2,none⟩=some (Q1 dp)/\w.cell? ⟨b,3,none⟩=some (.bool g) :=⟨aA h 0,aA h 1,aA h 2,aA h 3⟩
theorem aD(h:w.heap[b]?=some (.cells c T (0,0)))(o:Nat)(v:Value):(w.setCell ⟨b,o,none⟩ v).heap[b]?=some (.cells (c.setIfInBounds o v) T (0,0)):=by simp [World.setCell,Array.getElem?_modify,h]
theorem aE(w:World)(b o:Nat)(v:Value):w.grownBy (w.setCell ⟨b,o,none⟩ v) (some b) :=⟨rfl,rfl,rfl,zN1,fun k _ a=>Below.heap_setCell _ _ _ _ (fun e=>a (by simp [e]))⟩
theorem aC{b c:World}{row:Option Nat}(h:a.grownBy b row)(k:b.grownBy c row):a.grownBy c row :=⟨k.os.trans h.os,k.tape.trans h.tape,k.output.trans h.output,t_ h.size k.size,fun i e d=>(k.block i (l_ e h.size) d).trans (h.block i e d)⟩
theorem aQ{b:World}(row:Option Nat)(h:Q3 a b):a.grownBy b row:=⟨h.os,h.tape,h.output,h.size,fun k c _=>h.block k c⟩
theorem cS{b:World}(h:a.grownBy b none):Q3 a b:=⟨h.os,h.tape,h.output,h.size,fun k c=>h.block k c w9⟩
theorem Rd.KE(h:Rd w b L at_ dp g)(x:Int):Rd (w.setCell ⟨b,1,none⟩ (.int .i64 x)) b L x dp g:=aD h 1 _
theorem Rd.WU(h:Rd w b L at_ dp g)(x:Int):Rd (w.setCell ⟨b,2,none⟩ (.int .i64 x)) b L at_ x g:=aD h 2 _
theorem Rd.FA(h:Rd w b L at_ dp g)(x:Bool):Rd (w.setCell ⟨b,3,none⟩ (.bool x)) b L at_ dp x:=aD h 3 _
theorem Rd.alloc(h:Rd w b L at_ dp g)(o:Obj):Rd (w.alloc o) b L at_ dp g:=(Below.heap_alloc w o b (aB h)).trans h
end
section
open Go.RowKit Go.Maps Go.MuLone
variable {ns:Q6} {w:World} {tb mb:Nat}
def WF:TypeId:=65
theorem lawS:Keyed prog 9:=string_keyed underlying9
theorem TN:Keyed prog 3:=int_keyed underlying3
theorem ZV(w:World):(zeroValue 3).run prog w=.ok (.int .i64 0) w:=by kernel_rfl
structure P4(D:DataW Unit)(ns:Q6):Prop where
 tidy:Tidy D
 size:Maps.size D=ns.length
 yes:∀(k:Nat)(s:Q7),ns[k]?=some s->Maps.has D (.string s)=true/\∀z,D.atKey (.string s) z=.lit (.int .i64 k)
 no:∀s,s∉ns->Maps.has D (.string s)=false
 nodup:ns.Nodup
theorem P4.nil:P4 (.map []) []:=⟨tidy_empty,rfl,fun k s h=>by simp at h,fun s _=>rfl,List.nodup_nil⟩
theorem P4.push{D:DataW Unit}(h:P4 D ns){s:Q7}(g:s∉ns):P4 (D.put (.string s) (.lit (.int .i64 (ns.length:Int)))) (ns++[s]):=by
 have i:WideAt.IsKeyLit (.string s):=trivial;refine⟨h.tidy.put i _,by rw [size_put h.tidy,h.no s g,h.size];simp,?_,?_,?_⟩
 ·intro k t c;by_cases e:t=s
  ·subst e
   have:k=ns.length:=by
    rcases Nat.lt_or_ge k ns.length with d | d
    ·rw [List.getElem?_append_left d] at c;exact absurd (q_ c) g
    ·have:=(s_ c).1;simp at this;omega
   subst this;exact⟨has_put_same h.tidy.isMap i _,fun z=>atKey_put_same h.tidy.isMap i _ z⟩
  ·have f:(Lit.string t)≠.string s:=fun x=>e zM2
   have d:k<ns.length:=by
    rcases Nat.lt_or_ge k ns.length with d | d
    ·exact d
    ·rw [List.getElem?_append_right d] at c;have j:=q_ c;simp at j;exact absurd j e
   rw [List.getElem?_append_left d] at c;obtain⟨m,n⟩:=h.yes k t c;exact⟨by rw [has_put_other f];exact m,fun z=>by rw [atKey_put_other f];exact n z⟩
 ·intro t c;simp only [List.mem_append,List.mem_singleton,not_or] at c;rw [has_put_other (fun x=>c.2 zM2)];exact h.no t c.1
 ·rw [List.nodup_append];refine⟨h.nodup,w9,?_⟩;rintro a o b l;rintro rfl;simp at l;subst l;exact g o
structure IW(w:World)(tb mb:Nat)(ns:Q6):Prop where
 blk:w.heap[tb]?=some (.cells #[.int .i32 0,.int .u32 0,.map (some mb)] WF (0,0))
 map:∃D:DataW Unit,w.ownsMap prog 9 (plainElem prog 3) mb ns.length D/\P4 D ns
theorem IW.ne(h:IW w tb mb ns):mb≠tb:=by rintro rfl;obtain⟨D,⟨b,c,a,_⟩,_⟩:=h.map;rw [h.blk] at a;simp at a
theorem IW.lt(h:IW w tb mb ns):tb<w.heap.size/\mb<w.heap.size:=⟨aB h.blk,by obtain⟨D,a,_⟩:=h.map;exact a.lt⟩
theorem IW.keep{w':World}(h:IW w tb mb ns)(a:w'.heap[tb]?=w.heap[tb]?)(b:w'.heap[mb]?=w.heap[mb]?):IW w' tb mb ns:=by obtain⟨D,⟨c,d,e,r⟩,f⟩:=h.map;exact⟨a.trans h.blk,D,⟨c,d,b.trans e,r⟩,f⟩
def b9(ns:Q6)(s:Q7):Q6:=if s∈ns then ns else ns++[s]
theorem internL_get(ns:Q6)(s:Q7):(b9 ns s)[ns.idxOf s]?=some s:=by
 unfold b9;by_cases h:s∈ns
 ·rw [if_pos h];have a:=List.idxOf_lt_length_of_mem h;rw [g_ a,List.getElem_idxOf a]
 ·rw [if_neg h,List.idxOf_eq_length h];simp
theorem pL(ns:Q6)(s:Q7):ns <+: b9 ns s:=by
 unfold b9;split
 ·exact List.prefix_refl _
 ·exact List.prefix_append _ _
theorem dE(ns:Q6)(s:Q7):(b9 ns s).length<=ns.length+1:=by unfold b9;split<;>simp
theorem sE(w:World):Q2 7 #[] w fun e a=>e=.returned (Q0 (w.heap.size+1))/\Q3 w a/\IW a (w.heap.size+1) w.heap.size []:=by
 have b:=@run_makeMap prog;go_enter func7,ntmps7;go_wp2;go_ret;refine⟨rfl,b_.alloc w9 _,⟨?_,.map [],?_,P4.nil⟩⟩
 ·have:=heap_alloc_new (w.alloc (.map #[] 0)) (.cells #[.int .i32 0,.int .u32 0,.map (some w.heap.size)] WF);simpa [WF] using this
 ·exact(World.ownsMap_made w _ _ _).alloc _
theorem nT{c:Array Value}{T:TypeId}(h:w.heap[tb]?=some (.cells c T (0,0)))(j:c[0]?=some (.int .i32 0))(x:Value){w1:World}(a:(w.setCell ⟨tb,0,none⟩ x).grownBy w1 (some mb))(b:mb≠tb) :(w1.setCell ⟨tb,0,none⟩ (.int .i32 0)).heap[tb]?=w.heap[tb]? /\ w.grownBy (w1.setCell ⟨tb,0,none⟩ (.int .i32 0)) (some mb):=by
 have d:=aB h;have k:w1.heap[tb]?=some (.cells (c.setIfInBounds 0 x) T (0,0)):=by rw [a.block tb (by simpa [World.setCell] using d) (fun e=>b (i_ e).symm)];exact aD h 0 x
 have g:(w1.setCell ⟨tb,0,none⟩ (.int .i32 0)).heap[tb]?=w.heap[tb]? := by
  rw [aD k 0,h,Array.setIfInBounds_setIfInBounds]
  congr 2
  apply Array.ext_getElem?;intro i;rw [Array.getElem?_setIfInBounds];split
  ·rename_i f;subst f;split
   ·exact j.symm
   ·rw [Array.getElem?_eq_none x8]
  ·rfl
 refine⟨g,⟨a.os,a.tape,a.output,by have:=a.size;simpa [World.setCell] using this,fun i f l=>?_⟩⟩;by_cases e:i=tb
 ·subst e;exact g
 ·rw [Below.heap_setCell _ _ _ _ (fun x=>e zM2),a.block i (by simpa [World.setCell] using f) l,Below.heap_setCell _ _ _ _ (fun x=>e zM2)]
theorem jE(w:World)(tb mb:Nat)(ns:Q6)(s:Q7)(h:IW w tb mb ns)(U:s.length<=1000000)(V:ns.length<=1000000000000000000) :Q2 50 #[Q0 tb,.string ⟨s.toArray⟩] w fun e t=>e=.returned (Q1 (ns.idxOf s:Nat))/\IW t tb mb (b9 ns s)/\w.grownBy t (some mb):=by
 have H:=h_ h;have d:=h.ne;obtain⟨o,D,q,p⟩:=h;have u:w.cell? ⟨tb,0,none⟩=some (.int .i32 0):=aA o 0;have v:w.frozen? ⟨tb,0,none⟩=false:=aF o 0;have W:w.cell? ⟨tb,0+2,none⟩=some (.map (some mb)):=aA o 2;have i:keyOf prog 9 (.string ⟨s.toArray⟩)=some (.string s):=WideMaps.keyOf_string_mk underlying9 (by unfold maxLen;show s.toArray.size<=_;simp;omega);have b:=q.setCell (a:=⟨tb,0,none⟩) d (.int .i32 1);have l:=h_ o;have I:=h_ p;by_cases j:s∈ns
 ·obtain⟨J,k⟩:=p.yes _ _ (show ns[ns.idxOf s]?=some s by rw [g_ (List.idxOf_lt_length_of_mem j),List.getElem_idxOf]);have x:Hid (b9 ns s=ns):=show b9 ns s=ns from by unfold b9;rw [if_pos j]
  have K:=h_ k;clear o p j k
  go_enter_defers func50,ntmps50
  go_wp2_with (first
   | (go_at_call 67;refine(lock_free zR ⟨tb,0,none⟩ _ u v).mono ?_;rintro e t ⟨rfl,rfl⟩)
   | (at_lookup;refine wpList_lookup_own_ok_int _ rfl _ _ 56 rfl 9 3 .i64 lawS underlying56 underlying3 (ZV _) mb ns.length D rfl b _ _ rfl i ?_;intro c m y))
  refine leaves_cons (f:=68) (args:=#[Q0 tb]) w9 (by simp [go_sem]) ?_;refine(unlock_deferred zR ⟨tb,0,none⟩ .returning _ (World.cell?_setCell_same w ⟨tb,0,none⟩ (.int .i32 1) u) (by simp [v])).mono ?_;rintro e L z ⟨rfl,rfl,rfl⟩;have M:c=(ns.idxOf s:Nat):=by rw [K.out] at m;simpa using m.symm
  obtain⟨A,B⟩:=nT l rfl (.int .i32 1) (w1:=w.setCell ⟨tb,0,none⟩ (.int .i32 1)) (mb:=mb) ⟨rfl,rfl,rfl,n_,fun _ _ _=>rfl⟩ d;refine⟨_,results_tmp rfl _ _ _,by rw [M];rfl,?_,B⟩;rw [x.out];exact H.keep A (by rw [Below.heap_setCell _ _ _ _ d,Below.heap_setCell _ _ _ _ d])
 ·have J:=p.no s j;have x:Hid (b9 ns s=ns++[s]):=show b9 ns s=_ from by unfold b9;rw [if_neg j]
  have N:=h_ (List.idxOf_eq_length j);have O:=h_ j;have C:=p.size;have E:(Lit.int .i64 ((ns.length:Nat):Int)).wf=true:=WalkArith.wf_i64 x8;clear o p j
  go_enter_defers func50,ntmps50
  go_wp2_with (first
   | (go_at_call 67;refine(lock_free zR ⟨tb,0,none⟩ _ u v).mono ?_;rintro e t ⟨rfl,rfl⟩)
   | (at_lookup;refine wpList_lookup_own_ok_int _ rfl _ _ 56 rfl 9 3 .i64 lawS underlying56 underlying3 (ZV _) mb ns.length D rfl b _ _ rfl i ?_;intro c m y)
   | (at_len;refine wpList_len_own _ rfl _ 56 rfl 9 3 underlying56 _ mb ns.length D rfl b ?_;rw [C])
   | (at_mapUpdate;refine wpList_mapUpdate_own _ rfl _ _ _ 56 rfl 9 3 lawS underlying56 _ mb ns.length D rfl b o6 _ _ _ rfl rfl i _ [] (plainElem_int underlying3 E) ?_;intro G n g))
  have P:G.cell? ⟨tb,0,none⟩=some (.int .i32 1):=by have r:=g.block tb (by simpa [World.setCell] using aB l) (fun e=>d (i_ e).symm);rw [aD l.out 0] at r;exact aA r 0
  have Q:G.frozen? ⟨tb,0,none⟩=false:=by have r:=g.block tb (by simpa [World.setCell] using aB l) (fun e=>d (i_ e).symm);rw [aD l.out 0] at r;exact aF r 0
  refine leaves_cons (f:=68) (args:=#[Q0 tb]) w9 (by simp [go_sem]) ?_;refine(unlock_deferred zR ⟨tb,0,none⟩ .returning _ P Q).mono ?_;rintro e L z ⟨rfl,rfl,rfl⟩;obtain⟨A,B⟩:=nT l rfl (.int .i32 1) g d;refine⟨_,results_tmp rfl _ _ _,by rw [N.out];rfl,?_,B⟩;rw [x.out];obtain⟨R,S,F,T⟩:=n;refine⟨A.trans l,_,⟨R,S,?_,by simpa using T⟩,I.push O⟩;rw [Below.heap_setCell _ _ _ _ d];exact F
end
section
open Go.RowKit
def OM(w:World)(b:Nat)(L:Value)(at_ dp:Int)(g:Bool)(s:Q7)(e:Ending)(w':World):Prop :=
 ∃v g',e=.returned v/\w.grownBy w' (some b)/\Rd w' b L at_ dp g' /\
  ((Pl.isNum s=true/\g'=(g||Pl.ER s)/\AJ (fun k=>w.heap.size<=k) 1 w' v (.lit (.int .i64 (Pl.F3 s)))) \/
   (Pl.isNum s=false/\Pl.DZ s=true/\g'=g/\AJ (fun k=>w.heap.size<=k) 1 w' v (.lit (.string s))) \/
   (Pl.isNum s=false/\Pl.DZ s=false/\v=.pointer none))
theorem pW{w wr:World}{b:Nat}{L:Value}{at_ dp:Int}{g:Bool}{s:Q7}{x:Int}(d:w.grownBy wr (some b))(e:Rd wr b L at_ dp (g||(Pl.ES (Pl.EY s)).2))(f:Pl.isNum s=true)
  (h:x=if Pl.minus s then -((Pl.ES (Pl.EY s)).1:Int) else((Pl.ES (Pl.EY s)).1:Int)) :
  OM w b L at_ dp g s (.returned (Q0 wr.heap.size)) (wr.alloc (.cells #[PU,Q1 x,tI,.slice none 0 0] TD)):=by
 refine⟨_,_,rfl,aC d (World.grownBy_alloc _ _ _),e.alloc _,.inl ⟨f,by rw [Pl.OA];rfl,⟨wr.heap.size,rfl,d.size,x,heap_alloc_new _ _,?_⟩⟩⟩;intro c;rw [h];unfold gW Pl.F3 at c;unfold Pl.F3;by_cases a:Pl.minus s=true
 ·rw [if_pos a] at c;rw [if_pos a,if_pos a,Pl.P0 _ x8]
 ·rw [if_neg a] at c;rw [if_neg a,if_neg a,Pl.P0 _ x8]
theorem qG(b:Nat)(s:Q8)(w:World)(L:Value)(l t:Int)(g:Bool)(G:Rd w b L l t g)(M:s.size<=1000) :Q2 23 #[Q0 b,.string s] w fun e y=>OM w b L l t g s.data.toList e y:=by
 have C:=h_ G;clear G;go_enter func23,ntmps23;go_wp2_with fail;refine(rX s _ M).mono ?_;rintro e y ⟨N,rfl⟩;rcases N with⟨r,d,D,O,rfl⟩ | ⟨r,d,T,rfl⟩
 ·have u:=h_ r;have H:=h_ D;have I:Hid (∀j (h:j<d.data.toList.length),A3 d.data.toList[j]=true):=fun j h=>Pl.ZG _ (by have:=r;unfold Pl.isNum at this;rw [<- D] at this;exact this) j h;clear r D;go_wp2_with fail
  go_loopw [10,11] (fun P i wr=>∃k:Nat,k<=d.size/\i=.int .i64 k/\P=.int .i64 ((Pl.ES (d.data.toList.take k)).1:Int)/\Hid (w.grownBy wr (some b))/\Hid (Rd wr b L l t (g||(Pl.ES (d.data.toList.take k)).2)))
   (fun _ i _=>d.size-(intOf i).toNat)
  case atStart=>exact⟨0,Nat.zero_le _,rfl,rfl,World.grownBy.refl _ _,show Rd w b L l t _ from by have:=C.out;simpa [Pl.ES] using this⟩
  case round =>
   obtain⟨k,Q,rfl,rfl,z,f⟩:=hrel;have p:=Pl.UI (d.data.toList.take k);by_cases a:k<d.size
   ·have q:k<d.data.toList.length:=by simpa using a
    have c:=bE d k a;have m:=Pl.OB _ (I k q);have n:=Pl.K4 (d.data.toList.take k) (d.data.toList[k]);rw [<- Pl.S5 _ _ q,c] at n;rw [c] at m;unfold Pl.KZ Pl.CG at n;unfold Pl.CG at p;have A:=h_ n;generalize (Pl.ES (d.data.toList.take k)).1=U at *;have V:=f.cells.2.2.2;have W:=aF f 3;clear n c q;go_wp2_with fail
    ·refine⟨⟨k+1,x8,k7,?_,aC z (aE _ _ _ _),?_⟩,zL6⟩
     ·rw [A.out,if_pos x8];rfl
     ·show Rd _ _ _ _ _ _;rw [A.out,if_pos x8,Bool.or_true];exact f.FA true
    ·refine⟨⟨k+1,x8,k7,?_,z,?_⟩,zL6⟩
     ·rw [A.out,if_neg x8];show Value.int _ _=Value.int _ _
      congr 1
      dsimp only;omega
     ·show Rd _ _ _ _ _ _;rw [A.out,if_neg x8];exact f
   ·have B:d.data.toList.take k=Pl.EY s.data.toList:=by rw [List.take_of_length_le r7];exact H
    rw [B] at p;rw [B];have o:Hid (Rd wr b L l t (g||(Pl.ES (Pl.EY s.data.toList)).2)):=by rw [<- B];exact f
    clear B f H I;unfold Pl.CG at p;generalize J:(Pl.ES (Pl.EY s.data.toList)).1=X at *;have K:=h_ J;clear J;go_wp2_with fail
    ·go_ret;exact pW z o u (by rw [if_pos ‹_›,K.out])
    ·go_ret;exact pW z o u (by rw [if_neg (by simp [*]),K.out])
 ·have u:=h_ r;clear r;go_wp2_with fail
  go_loopw [8] (fun i R=>∃k:Nat,k<=s.size/\i=.int .i64 k/\w=R/\Hid (∀j (h:j<s.data.toList.length),j<k->(!A3 s.data.toList[j])=true)) (fun i _=>s.size-(intOf i).toNat)
  case atStart=>exact⟨0,Nat.zero_le _,rfl,rfl,fun j _ S=>by omega⟩
  case round =>
   obtain⟨k,Q,rfl,rfl,v⟩:=hrel;by_cases a:k<s.size
   ·have c:=bE s k a;by_cases m:A3 (s[k]'a)=true
    ·have E:Hid (Pl.DZ s.data.toList=false):=Pl.GJ _ k zM1 (by rw [c,m];rfl);clear c v;go_wp2_with (go_at_call 36;refine(bI (s[k]'a) _).mono ?_;rintro e y ⟨rfl,rfl⟩);go_ret;exact⟨_,g,rfl,World.grownBy.refl _ _,C,.inr (.inr ⟨u,E,rfl⟩)⟩
    ·have x:A3 (s[k]'a)=false:=by simpa using m
     have F:Hid (∀j (h:j<s.data.toList.length),j<k+1->(!A3 s.data.toList[j])=true):=by
      intro j h S;by_cases e:j=k
      ·subst e;rw [c,x];rfl
      ·exact v.out j h x8
     clear c v m;go_wp2_with (go_at_call 36;refine(bI (s[k]'a) _).mono ?_;rintro e y ⟨rfl,rfl⟩);exact⟨⟨k+1,x8,k7,trivial,F⟩,zL6⟩
   ·have E:Hid (Pl.DZ s.data.toList=true):=Pl.I2 _ fun j h=>v.out j h zN7;clear v;go_wp2_with fail;go_ret;refine⟨_,g,rfl,World.grownBy_alloc _ _ _,C.alloc _,.inr (.inl ⟨u,E,rfl,?_⟩)⟩;refine⟨w.heap.size,rfl,n_,(heap_alloc_new _ _).trans ?_⟩;unfold eB;simp [kNam,TD]
end
section
variable {dp:Nat} {gr:Bool}
namespace Pl
abbrev Tok:=Q7
abbrev A9:=DataW Unit
def SL:Tok:=[40]
def g8:Tok:=[41]
def tN:Tok:=[39]
def SK:Tok:=[35,116]
def tO:Tok:=[35,102]
def CB:Q7:=[113,117,111,116,101]
structure PR where
 t:A9
 q:List Tok
 dp:Nat
 gr:Bool
structure PL where
 ts:List A9
 q:List Tok
 dp:Nat
 gr:Bool
def pw(t:Tok):Option (A9×Bool) :=if isNum t then some (.lit (.int .i64 (F3 t)),ER t) else if DZ t then some (.lit (.string t),false) else none
def IG(f:List Tok->Option PR):Nat->List Tok->Option PL
 | 0,_=>none
 | _+1,[]=>none
 | k+1,t::r =>
  if t=g8 then some ⟨[],r,0,false⟩
  else match f (t::r) with
   | none=>none
   | some p=>(IG f k p.q).map fun l=>⟨p.t::l.ts,l.q,max p.dp l.dp,p.gr||l.gr⟩
theorem I9(f:List Tok->Option PR)(k:Nat)(t:Tok)(r:List Tok):IG f (k+1) (t::r)=if t=g8 then some ⟨[],r,0,false⟩ else match f (t::r) with
  | none=>none
  | some p=>(IG f k p.q).map fun l=>⟨p.t::l.ts,l.q,max p.dp l.dp,p.gr||l.gr⟩:=rfl
def pd:Nat->List Tok->Option PR
 | 0,_=>none
 | _+1,[]=>none
 | n+1,t::r =>
  if t=g8 then none
  else if t=SK then some ⟨.lit (.bool true),r,0,false⟩
  else if t=tO then some ⟨.lit (.bool false),r,0,false⟩
  else if t=tN then(pd n r).map fun p=>⟨.agg [.lit (.string CB),p.t],p.q,p.dp+1,p.gr⟩
  else if t=SL then(IG (pd n) r.length r).map fun p=>⟨.agg p.ts,p.q,p.dp+1,p.gr⟩
  else(pw t).map fun p=>⟨p.1,r,0,p.2⟩
theorem NR(n:Nat)(t:Tok)(r:List Tok)(h:t=[41]):pd (n+1) (t::r)=none:=by subst h;rfl
theorem QK(n:Nat)(t:Tok)(r:List Tok)(h:t=[35,116]):pd (n+1) (t::r)=some ⟨.lit (.bool true),r,0,false⟩:=by subst h;rfl
theorem NQ(n:Nat)(t:Tok)(r:List Tok)(h:t=[35,102]):pd (n+1) (t::r)=some ⟨.lit (.bool false),r,0,false⟩:=by subst h;rfl
theorem H6(n:Nat)(t:Tok)(r:List Tok)(h:t=[39]):pd (n+1) (t::r)=(pd n r).map fun p=>⟨.agg [.lit (.string CB),p.t],p.q,p.dp+1,p.gr⟩:=by subst h;rfl
theorem GH(n:Nat)(t:Tok)(r:List Tok)(h:t=[40]):pd (n+1) (t::r)=(IG (pd n) r.length r).map fun p=>⟨.agg p.ts,p.q,p.dp+1,p.gr⟩:=by subst h;rfl
theorem QJ(n:Nat)(t:Tok)(r:List Tok)(a:¬t=[41])(b:¬t=[35,116])(c:¬t=[35,102])(d:¬t=[39])(e:¬t=[40]):pd (n+1) (t::r)=(pw t).map fun p=>⟨p.1,r,0,p.2⟩:=by show(if t=g8 then none else if t=SK then _ else if t=tO then _ else if t=tN then _ else if t=SL then _ else _)=_;rw [if_neg (show ¬t=g8 from a),if_neg (show ¬t=SK from b),if_neg (show ¬t=tO from c),if_neg (show ¬t=tN from d),if_neg (show ¬t=SL from e)]
def I3(q l:List Tok):Prop:=q <:+ l/\q.length<l.length
theorem I3.cons(t:Tok)(r:List Tok):I3 r (t::r):=⟨List.suffix_cons t r,w9⟩
theorem I3.trans{a b c:List Tok}(h:I3 a b)(k:I3 b c):I3 a c:=⟨h.1.trans k.1,by have:=h.2;have:=k.2;omega⟩
theorem qL(f:List Tok->Option PR)(b:∀l p,f l=some p->I3 p.q l):∀(k:Nat)(l:List Tok)(p:PL),IG f k l=some p->I3 p.q l
 | 0,_,_,h=>by simp [IG] at h
 | _+1,[],_,h=>by simp [IG] at h
 | k+1,t::r,p,h=>by
  unfold IG at h;split at h
  ·obtain rfl:=i_ h;exact I3.cons t r
  ·cases a:f (t::r) with
   | none=>rw [a] at h;simp at h
   | some c =>rw [a] at h;simp only [Option.map_eq_some_iff] at h;obtain⟨l,d,rfl⟩:=h;exact(qL f b k c.q l d).trans (b _ _ a)
theorem DA:∀(n:Nat)(l:List Tok)(p:PR),pd n l=some p->I3 p.q l
 | 0,_,_,h=>by simp [pd] at h
 | _+1,[],_,h=>by simp [pd] at h
 | n+1,t::r,p,h=>by
  unfold pd at h;split at h
  ·simp at h
  split at h
  ·obtain rfl:=i_ h;exact I3.cons t r
  split at h
  ·obtain rfl:=i_ h;exact I3.cons t r
  split at h
  ·simp only [Option.map_eq_some_iff] at h;obtain⟨a,b,rfl⟩:=h;exact(DA n r a b).trans (I3.cons t r)
  split at h
  ·simp only [Option.map_eq_some_iff] at h;obtain⟨a,b,rfl⟩:=h;exact(qL (pd n) (DA n) _ r a b).trans (I3.cons t r)
  ·simp only [Option.map_eq_some_iff] at h;obtain⟨a,b,rfl⟩:=h;exact I3.cons t r
def LF(f:List Tok->Option PR)(r0:List Tok)(ts:List A9)(dp:Nat)(gr:Bool)(q:List Tok):Prop :=∃k,q.length<=k/\IG f r0.length r0=(IG f k q).map fun l=>⟨ts++l.ts,l.q,max dp l.dp,gr||l.gr⟩
theorem LF.start(f:List Tok->Option PR)(a:List Tok):LF f a [] 0 false a:=⟨a.length,n_,by cases IG f a.length a<;>simp⟩
theorem LF.close{f:List Tok->Option PR}{a:List Tok}{b:List A9}{r:List Tok}(h:LF f a b dp gr (g8::r)):IG f a.length a=some ⟨b,r,dp,gr⟩:=by
 obtain⟨k,c,h⟩:=h
 cases k with
 | zero=>simp at c
 | succ k=>rw [h];unfold IG;simp
theorem LF.none_{f:List Tok->Option PR}{a:List Tok}{b:List A9}(h:LF f a b dp gr []):IG f a.length a=none:=by
 obtain⟨k,c,h⟩:=h;rw [h]
 cases k<;>simp [IG]
theorem LF.fail{f:List Tok->Option PR}{a:List Tok}{b:List A9}{t:Tok}{r:List Tok}(h:LF f a b dp gr (t::r))(c:¬t=g8)(d:f (t::r)=none):IG f a.length a=none:=by
 obtain⟨k,e,h⟩:=h
 cases k with
 | zero=>simp at e
 | succ k=>rw [h];unfold IG;simp [c,d]
theorem LF.more{f:List Tok->Option PR}{a:List Tok}{b:List A9}{t:Tok}{r:List Tok}{p:PR}(h:LF f a b dp gr (t::r))(d:¬t=g8)(e:f (t::r)=some p)(g:p.q.length<(t::r).length):LF f a (b++[p.t]) (max dp p.dp) (gr||p.gr) p.q:=by
 obtain⟨k,c,h⟩:=h
 cases k with
 | zero=>simp at c
 | succ k =>
  simp only [c_] at c g;refine⟨k,x8,?_⟩;rw [h,I9,if_neg d,e];dsimp only
  cases IG f k p.q<;>simp [Nat.max_assoc,Bool.or_assoc]
theorem E9{a l:List Tok}{t:Tok}{r:List Tok}(h:l <:+ a)(b:l=t::r):∃d:a.length-l.length<a.length,a[a.length-l.length]=t:=by subst b;obtain⟨c,rfl⟩:=h;refine⟨w9,?_⟩;simp
end Pl
end
section
open Go.RowKit
variable {w:World} {L v:Value} {all:Q6} {b n:Nat} {g:Bool}
def DR(w:World)(L:Value)(all:Q6):Prop:=w.ownsRow 0 9 1 L all.length (all.map eB)
theorem DR.keep{w':World}{c:Array Value}{f:Nat×Nat}(h:DR w L all)(i:w.grownBy w' (some b))(j:w.heap[b]?=some (.cells c TR f)):DR w' L all:=by
 refine World.ownsRow.kept h i ?_;by_cases d:L.ownBlock=some b
 ·exfalso;rcases h.2 with⟨e,_⟩ | ⟨g,k,l,e,_,a,_⟩
  ·subst e;simp [Value.ownBlock] at d
  ·subst e;simp only [Value.ownBlock,o_] at d;subst d;rw [j] at a;simp only [o_,Obj.cells.injEq] at a;have:=a.2.1;simp [TR] at this
 ·exact .inr d
def IK(n:Nat)(w:World)(b:Nat)(L:Value)(all:Q6)(dp de:Nat)(g:Bool)(l:Q6)(e:Ending)(w':World):Prop :=
 w.grownBy w' (some b) /\
 match Pl.pd n l with
 | none=>e=.returned (.pointer none)
 | some p=>∃v,e=.returned v/\AJ (fun k=>w.heap.size<=k) n w' v p.t/\Rd w' b L ((all.length-p.q.length:Nat):Int) ((max dp (de+p.dp):Nat):Int) (g||p.gr)
def NF(n:Nat):Prop:=∀(w:World)(b:Nat)(L:Value) (all l:Q6) (dp de:Nat) (g:Bool),Rd w b L ((all.length-l.length:Nat):Int) (dp:Int) g->DR w L all->l <:+ all->l.length<=n->all.length<=1000 ->
 de+l.length<=2000->de<=dp->(∀t∈all,t.length<=1000)->∀x:Int,x=(de:Int)->Q2 24 #[Q0 b,Q1 x] w fun e w'=>IK n w b L all dp de g l e w'
theorem dM(h:DR w L all):∃d a,L=.slice d all.length a/\all.length<=a/\∀(i:Nat)(t:Q7),all[i]?=some t->∃g,d=some ⟨g,0,none⟩/\w.cell? ⟨g,i,none⟩=some (.string ⟨t.toArray⟩):=by
 rcases h.2 with⟨b,e⟩ | ⟨g,a,f,b,_,l,j,_,_,m⟩
 ·have:all=[]:=e_ e;subst this;exact⟨none,0,b,n_,fun i t c=>by simp at c⟩
 ·refine⟨some ⟨g,0,none⟩,a,b,j,fun i t c=>⟨g,rfl,?_⟩⟩;have k:(all.map eB)[i]?=some (eB t):=by rw [List.getElem?_map,c];rfl
  have:=h.cells (g:=g) zN5 i (eB t) k
  rwa [show(⟨g,0,none⟩:Addr).add i=⟨g,i,none⟩ from by rw [Addr.add_lit,Nat.zero_add]] at this
theorem fV(n:Nat)(w:World)(b:Nat)(L:Value)(a:Q6)(f h:Nat)(g:Bool)(i:Rd w b L ((a.length-0:Nat):Int) (f:Int) g)(j:DR w L a) :Q2 24 #[Q0 b,Q1 h] w fun e l=>IK n w b L a f h g [] e l:=by
 obtain⟨o,m,rfl,k,c⟩:=dM j;obtain⟨p,q,r,s⟩:=i.cells;have d:Hid (Pl.pd n []=none):=by cases n<;>rfl
 clear i j c;go_enter func24,ntmps24;go_wp2_with fail
 go_quiet (fail)
 go_wp2_with fail
 go_ret;refine⟨⟨rfl,rfl,rfl,n_,fun _ _ _=>rfl⟩,?_⟩;rw [d.out];rfl
theorem bK{a b:World}{row:Option Nat}(h:a.grownBy b row)(n:Nat):a.grownBy (b.drewN n) row:=⟨h.os,h.tape,h.output,h.size,h.block⟩
theorem cK(a:World)(n:Nat)(row:Option Nat):a.grownBy (a.drewN n) row:=bK (World.grownBy.refl _ _) n
theorem AJ.drewN{ok:Q5}{m:Nat}{t:Tr}(h:AJ ok n w v t):AJ ok n (w.drewN m) v t:=AJ.keep (w:=w) (w':=w.drewN m) (fun _ _ _ _ _ h=>h) n v t h
theorem Rd.drewN{at_ dp:Int}(h:Rd w b L at_ dp g)(m:Nat):Rd (w.drewN m) b L at_ dp g:=h
theorem Rd.cast{at_ at2 dp dp2:Int}{g2:Bool}(h:Rd w b L at_ dp g)(a:at_=at2)(c:dp=dp2)(d:g=g2):Rd w b L at2 dp2 g2:=by subst a c d;exact h
theorem iS{r:Q6}{t:Q7}(h:t::r <:+ all):all.length-(t::r).length+1=all.length-r.length:=by have:=h.length_le;simp only [c_] at this ⊢;omega
theorem dI{w':World}{l:Q6}{dp de:Nat}{p:Pl.PR}{a d:Int}{g':Bool}(e:Pl.pd n l=some p)(i:w.grownBy w' (some b))(c:AJ (fun k=>w.heap.size<=k) n w' v p.t)
  (f:Rd w' b L a d g') (j:a=((all.length-p.q.length:Nat):Int)) (m:d=((max dp (de+p.dp):Nat):Int)) (h:g'=(g||p.gr)):IK n w b L all dp de g l (.returned v) w':=by
 refine⟨i,?_⟩;rw [e];exact⟨v,rfl,c,f.cast j m h⟩
theorem heap_new_of{o:Obj}{k:Nat}(h:k=w.heap.size):(w.alloc o).heap[k]?=some o:=by subst h;exact heap_alloc_new _ _
theorem fR(w:World)(a:Addr)(v:Value):(w.setCell a v).heap.size=w.heap.size:=by simp [World.setCell]
theorem kI(n:Nat)(w:World)(b:Nat)(L:Value)(c:Q6)(t:Q7)(r:Q6)(H I:Nat)(g:Bool)(o:Rd w b L ((c.length-(t::r).length:Nat):Int) (H:Int) g)(J:DR w L c)(d:t::r <:+ c)(P:c.length<=1000)(p:∀t∈c,t.length<=1000)(S:I<=H)(q:¬t=[40])(s:¬t=[39]) :Q2 24 #[Q0 b,Q1 I] w fun e K=>IK (n+1) w b L c H I g (t::r) e K:=by
 obtain⟨ao,T,rfl,Q,f⟩:=dM J;obtain⟨U,R⟩:=Pl.E9 d rfl;obtain⟨G,rfl,hc⟩:=f _ t (by rw [g_ U,R]);obtain⟨c0,c1,c2,c3⟩:=o.cells;have f1:=aF o 1;have f2:=aF o 2;generalize i:c.length-(t::r).length=M at *;have F:Hid (M+1=c.length-r.length):=by have:=iS d;rw [<- i];exact this
 have N:=h_ o;have u:t.length<=1000:=p t (d.subset w9);have HT:=h_ J;clear i R J f o p;have V:(t==[40])=false:=by simpa using q
 have W:(t==[39])=false:=by simpa using s
 by_cases j:t=[41]
 ·have a:=h_ (Pl.NR n t r j);go_enter func24,ntmps24;go_wp2_with fail
  go_quiet (fail)
  go_wp2_with fail
  go_quiet (fail)
  go_wp2_with fail
  go_ret;refine⟨aC (cK _ _ _) (aE _ _ _ _),?_⟩;rw [a.out];rfl
 have X:(t==[41])=false:=by simpa using j
 by_cases l:t=[35,116]
 ·have a:=h_ (Pl.QK n t r l);exact zA4
 have Y:(t==[35,116])=false:=by simpa using l
 by_cases m:t=[35,102]
 ·have a:=h_ (Pl.NQ n t r m);exact zA4
 ·have a:=h_ (Pl.QJ n t r j l m s q);have Z:(t==[35,102])=false:=by simpa using m
  go_enter func24,ntmps24
  go_wp2_with fail
  go_quiet (fail)
  go_wp2_with fail
  go_quiet (fail)
  go_wp2_with fail
  refine(qG b _ _ _ _ _ g ((N.drewN _).KE _) (show t.toArray.size<=1000 from by simpa using u)).mono ?_;rintro e K ⟨v,g',rfl,x,y,h⟩;have O:Hid (w.grownBy K (some b)):=aC (cK _ _ _) (aC (aE _ _ _ _) x);have z:=h_ y;have HC:=h_ h;clear x y h;go_wp2_with fail;go_ret;rcases HC.out with⟨A,B,C⟩ | ⟨A,B,C,h4⟩ | ⟨A,B,C⟩
  ·have D:Pl.pd (n+1) (t::r)=some ⟨.lit (.int .i64 (Pl.F3 t)),r,0,Pl.ER t⟩:=by rw [a.out];unfold Pl.pw;rw [if_pos A];rfl
   refine dI D O (AJ.up 1 _ _ _ (Nat.le_add_left _ _) (AJ.mono (fun k _ E=>?_) _ _ _ C)) z ?_ ?_ ?_
   ·rw [fR] at E;exact E
   ·have:=F.out;dsimp only;omega
   ·simp;omega
   ·exact B
  ·have D:Pl.pd (n+1) (t::r)=some ⟨.lit (.string t),r,0,false⟩:=by rw [a.out];unfold Pl.pw;rw [if_neg (by simp [A]),if_pos B];rfl
   refine dI D O (AJ.up 1 _ _ _ (Nat.le_add_left _ _) (AJ.mono (fun k _ E=>?_) _ _ _ h4)) z ?_ ?_ ?_
   ·rw [fR] at E;exact E
   ·have:=F.out;dsimp only;omega
   ·simp;omega
   ·simp [C]
  ·have D:Pl.pd (n+1) (t::r)=none:=by rw [a.out];unfold Pl.pw;rw [if_neg (by simp [A]),if_neg (by simp [B])];rfl
   refine⟨O,?_⟩;rw [D,C];rfl
theorem uK{l:Q6}{p:Pl.PR}(h:Pl.pd n l=some p):∃m,n=m+1:=by
 cases n with
 | zero=>simp [Pl.pd] at h
 | succ m=>exact⟨m,rfl⟩
theorem mW{ok:Q5}{t:Tr}(h:AJ ok (n+1) w v t)(f:∀k,w.heap.size<=k->ok k)(b c d:Obj)
  (g:b=.cells #[kNam,Q1 0,.string ⟨#[113,117,111,116,101]⟩,.slice none 0 0] TD (0,0))
  (j:c=.cells #[Q0 w.heap.size,v] TP (0,0))
  (l:d=.cells #[kLst,Q1 0,tI,.slice (some ⟨w.heap.size+1,0,none⟩) 2 2] TD (0,0)) :
  AJ ok (n+2) (((w.alloc b).alloc c).alloc d) (Q0 (w.heap.size+1+1)) (.agg [.lit (.string Pl.CB),t]):=by
 have m:Q3 w (((w.alloc b).alloc c).alloc d):=(((Below.refl _ w).alloc n_ b).alloc w9 c).alloc r7 d;have o:(((w.alloc b).alloc c).alloc d).heap[w.heap.size]?=some b:=by rw [k_ r7,k_ w9];exact heap_new_of rfl
 have p:(((w.alloc b).alloc c).alloc d).heap[w.heap.size+1]?=some c:=by rw [k_ w9];exact heap_new_of w9
 have q:(((w.alloc b).alloc c).alloc d).heap[w.heap.size+1+1]?=some d:=heap_new_of w9;refine⟨w.heap.size+1+1,rfl,f _ x8,.slice (some ⟨w.heap.size+1,0,none⟩) 2 2,[Q0 w.heap.size,v],by rw [q,l],?_,?_,?_,w9⟩
 ·intro r s;simp only [Value.ownBlock,o_] at s;exact f r x8
 ·refine⟨rfl,.inr ⟨w.heap.size+1,2,_,rfl,Nat.zero_le _,by rw [p,j],w9,by simp [maxLen],rfl,rfl⟩⟩
 ·intro i u x a e
  match i,a,e with
  | 0,a,e =>simp only [List.getElem?_cons_zero,o_] at a e;subst a e;exact AJ.up 1 _ _ _ x8 ⟨w.heap.size,rfl,f _ n_,by rw [o,g];rfl⟩
  | 1,a,e =>simp only [List.getElem?_cons_succ,List.getElem?_cons_zero,o_] at a e;subst a e;exact AJ.keep (CU.AA m) _ _ _ h
  | (i+2),a,e=>simp at a
theorem i8(n:Nat)(P:NF n)(w:World)(b:Nat)(L:Value)(c:Q6)(r:Q6)(E x:Nat)(g:Bool)(F:Rd w b L ((c.length-([39]::r).length:Nat):Int) (E:Int) g)(N:DR w L c)(d:[39]::r <:+ c)(H:([39]::r).length<=n+1)(y:c.length<=1000)(z:x+([39]::r).length<=2000)(W:x<=E)(o:∀t∈c,t.length<=1000) :Q2 24 #[Q0 b,Q1 x] w fun e X=>IK (n+1) w b L c E x g ([39]::r) e X:=by
 have A:=o;have Q:=h_ P;clear P;obtain⟨t,R⟩:∃t:Q7,t=[39]:=⟨_,rfl⟩
 rw [<- R] at F d;obtain⟨ao,I,rfl,S,q⟩:=dM N;obtain⟨Y,T⟩:=Pl.E9 d rfl;obtain⟨G,rfl,hc⟩:=q _ t (by rw [g_ Y,T]);obtain⟨c0,c1,c2,c3⟩:=F.cells;have f1:=aF F 1;have f2:=aF F 2;generalize B:c.length-(t::r).length=O at *;have U:Hid (O+1=c.length-r.length):=by have:=iS d;rw [<- B];exact this
 have M:=h_ F;have J:t.length<=1000:=o t (d.subset w9);have V:=h_ N;clear B T N q F o;subst R;have o:=A;clear A J;have Z:r.length<=1000:=by have:=d.length_le;simp at this;omega
 by_cases hd:E<x+1
 ·go_enter func24,ntmps24
  go_wp2_with fail
  go_quiet (fail)
  go_wp2_with fail
  go_quiet (fail)
  go_wp2_with fail
  refine(Q _ b (.slice (some ⟨G,0,none⟩) c.length I) c r (max E (x+1)) (x+1) g ((((M.drewN _).KE _).WU _).cast (by have:=U.out;omega) x8 rfl) (V.keep (aC (cK w _ (some b)) (aC (aE _ _ _ _) (aE _ _ _ _))) M) ((List.suffix_cons _ _).trans d) (by simp at H;omega) y (by simp at z;omega) x8 o _ x8).mono ?_;rintro e K ⟨i,a⟩;have C:Hid (w.grownBy K (some b)):=aC (aC (cK w _ (some b)) (aC (aE _ _ _ _) (aE _ _ _ _))) i
  cases j:Pl.pd n r with
  | none =>
   exact zA7
  | some p =>
   rw [j] at a;obtain⟨v,rfl,f,h⟩:=a;have l:Hid (Pl.pd (n+1) ([39]::r)=some ⟨.agg [.lit (.string Pl.CB),p.t],p.q,p.dp+1,p.gr⟩):=by show Pl.pd _ _=_;rw [Pl.H6 n _ r rfl,j];rfl
   obtain⟨m,rfl⟩:=uK j;clear j i;have s:Hid (AJ (fun k=>w.heap.size<=k) (m+1) K v p.t):=by refine AJ.mono ?_ _ _ _ f;intro k _ D;exact t_ (aC (cK w _ (some b)) (aC (aE _ _ _ _) (aE _ _ _ _))).size D
   exact zA5
 ·go_enter func24,ntmps24
  go_wp2_with fail
  go_quiet (fail)
  go_wp2_with fail
  go_quiet (fail)
  go_wp2_with fail
  refine(Q _ b (.slice (some ⟨G,0,none⟩) c.length I) c r (max E (x+1)) (x+1) g (((M.drewN _).KE _).cast (by have:=U.out;omega) x8 rfl) (V.keep (aC (cK w _ (some b)) (aE _ _ _ _)) M) ((List.suffix_cons _ _).trans d) (by simp at H;omega) y (by simp at z;omega) x8 o _ x8).mono ?_;rintro e K ⟨i,a⟩;have C:Hid (w.grownBy K (some b)):=aC (aC (cK w _ (some b)) (aE _ _ _ _)) i
  cases j:Pl.pd n r with
  | none =>
   exact zA7
  | some p =>
   rw [j] at a;obtain⟨v,rfl,f,h⟩:=a;have l:Hid (Pl.pd (n+1) ([39]::r)=some ⟨.agg [.lit (.string Pl.CB),p.t],p.q,p.dp+1,p.gr⟩):=by show Pl.pd _ _=_;rw [Pl.H6 n _ r rfl,j];rfl
   obtain⟨m,rfl⟩:=uK j;clear j i;have s:Hid (AJ (fun k=>w.heap.size<=k) (m+1) K v p.t):=by refine AJ.mono ?_ _ _ _ f;intro k _ D;exact t_ (aC (cK w _ (some b)) (aE _ _ _ _)).size D
   exact zA5
end
section
namespace Pl
def VN:Q7:=[105,102]
def C3:Q7:=[108,97,109,98,100,97]
def LR:Q7:=[115,101,116,33]
def CK:Q7:=[100,101,102,105,110,101]
def FX:Q7:=[98,101,103,105,110]
def K2:Q7:=[108,101,116]
def RZ:Q6:=[CB,VN,C3,LR,CK,FX,K2]
def EE(s:Q7):Bool:=decide (s∈RZ)
def isName:A9->Bool
 | .lit (.string s)=>!EE s
 | _=>false
def strOf:A9->List UInt8
 | .lit (.string s)=>s
 | _=>[]
def CJ(l:List A9):Bool:=l.all isName&&decide ((l.map strOf).Nodup)
def BI:A9->Bool
 | .agg [_,_]=>true
 | _=>false
def DC:A9->A9
 | .agg (a::_)=>a
 | _=>.nil
def BU:A9->A9
 | .agg (_::b::_)=>b
 | _=>.nil
def D_(f:A9->Bool)(ns body:A9):Bool :=
 match ns with
 | .agg l=>CJ l&&f body
 | _=>false
def C_(f:A9->Bool)(ps body:A9):Bool :=
 match ps with
 | .agg l=>l.all BI&&(CJ (l.map DC)&&f body)&&(l.map BU).all f
 | _=>false
def OI(f:A9->Bool)(r:List A9):Bool :=
 match r with
 | [n,e]=>isName n&&f e
 | _=>false
def lam2(f:A9->Bool)(r:List A9):Bool :=
 match r with
 | [n,e]=>D_ f n e
 | _=>false
def let2(f:A9->Bool)(r:List A9):Bool :=
 match r with
 | [n,e]=>C_ f n e
 | _=>false
def KS(f:A9->Bool)(h:Q7)(r:List A9):Bool :=
 if h=CB then r.length==1
 else if h=VN then r.length==3&&r.all f
 else if h=FX then !r.isEmpty&&r.all f
 else if h=LR then OI f r
 else if h=C3 then lam2 f r
 else if h=K2 then let2 f r
 else false
def BJ:List A9->Option (Q7)
 | .lit (.string h)::_=>if EE h then some h else none
 | _=>none
def F7(f:A9->Bool)(ks:List A9):Bool :=
 match ks with
 | []=>false
 | k::r=>match BJ (k::r) with
  | some h=>KS f h r
  | none=>f k&&r.all f
def C4:Nat->A9->Bool
 | 0,_=>false
 | n+1,t=>match t with
  | .lit (.int _ _)=>true
  | .lit (.bool _)=>true
  | .lit (.string s)=>!EE s
  | .agg ks=>F7 (C4 n) ks
  | _=>false
def GY(n:Nat)(t:A9):Bool :=
 match t with
 | .agg (.lit (.string h)::r)=>if h=CK then OI (C4 n) r else C4 (n+1) t
 | _=>C4 (n+1) t
theorem IH(s:Q7):EE s=true↔s∈RZ:=by simp [EE]
end Pl
namespace Pl
def BF(t:Tok):Bool:=!(CV (t.headD 0))||(isNum t||DZ t)
def check(bs:Q7):Nat :=
 if 300<bs.length then 1
 else match BX bs with
  | none=>2
  | some l =>
   if l.all BF=false then 2
   else match pd l.length l with
    | none=>2
    | some p =>
     if p.q≠[] then 2
     else if 20<p.dp then 3
     else if p.gr=true then 4
     else if GY (l.length-1) p.t=true then 0 else 5
theorem fP:∀(n:Nat)(g:Q7)(l:List Tok),KO n g=some l->l.length<=g.length/\∀t∈l,0<t.length/\t.length<=g.length
 | 0,_,_,h=>by obtain rfl:=i_ h;simp
 | _+1,[],_,h=>by obtain rfl:=i_ h;simp
 | n+1,c::r,l,h=>by
  unfold KO at h;split at h
  ·have b:=fP n r l h;refine⟨r7,fun t a=>⟨(b.2 t a).1,zP2⟩⟩
  split at h
  ·cases r with
   | nil=>simp at h
   | cons d q =>
    dsimp only at h;split at h
    ·simp only [Option.map_eq_some_iff] at h;obtain⟨e,f,rfl⟩:=h;have b:=fP n q e f;exact zB0
    ·simp at h
  split at h
  ·simp only [Option.map_eq_some_iff] at h;obtain⟨e,f,rfl⟩:=h;have b:=fP n _ e f;have j:=eQ CV r;have i:(r.takeWhile CV).length<=r.length:=(List.takeWhile_sublist CV).length_le;refine⟨r7,fun t a=>?_⟩;rcases List.mem_cons.1 a with rfl | a
   ·simp;omega
   ·exact⟨(b.2 t a).1,zP2⟩
  split at h
  ·simp only [Option.map_eq_some_iff] at h;obtain⟨e,f,rfl⟩:=h;have b:=fP n r e f;exact zB0
  ·simp at h
theorem HY{bs:Q7}{l:List Tok}(h:BX bs=some l):l.length<=bs.length/\∀t∈l,0<t.length/\t.length<=bs.length:=fP _ _ _ h
end Pl
end
section
open Go
section
variable {H:Type} {enc:TypeId×Value->H}
theorem aSM{a:Assume}{C:Checked}{os:Os}{f:FuncId}{k:Func}{s:ChangeSpec}{g:List PathCond}{apart fresh handsOn again:Bool}{X:World->Array Value->Prop}
  (J:∀(w F:World)(b:Array Value),w.heap=F.heap->X w b->X F b)
  (y:ownKnob C.prog.godebug=none) (l:os.Started) (n:C.prog.inits.idxOf? f=none) (z:C.prog.funcs[f]?=some k)
  (m:∃(w:World)(c:Tape)(i:Input),w.os=os/\(w.forCall c i).Shaped C.prog/\i.vars=[]/\Input.okWide C.prog (w.forCall c i) .any w.heap.size f i /\
   ((s.pre enc C.prog k g apart (w.forCall c i).memory i.args/\X (w.forCall c i).memory i.args)/\sizedMet enc C.prog k (OpenSpec.ofChange s) apart (w.forCall c i).memory i.args)/\a.holds C.prog (lone (Frame.enter C.prog f i.args .normal) [] (w.forCall c i)))
  (h:∀(W:World)(o:Nat)(b:Array Value) (p q:List (DataW H)) (d:List MemPlace),W.ShapedOpen C.prog ->
   (∀(j:Nat) t v,k.params[j]?=some t->b[j]?=some v->Value.okWide C.prog W .any o t v) ->
   DataW.Whole enc C.prog k.params.toList s.vars apart W b.toList p q d ->
   g.all (PathCond.test C.prog ⟨k.params.toList,p,s.plain.varTypes C.prog,q⟩)=true ->
   (DataW.weightsEach C.prog (k.params.toList++s.plain.varTypes C.prog) (p++q)).all (·<=reachBytes)=true->X W b ->
   Calls C.prog f b W fun e G=>∃v,e=.returned v/\s.post enc C.prog k apart fresh handsOn again W b v G) :
  ReturnsInHanded a C os f .any (fun w b=>(s.pre enc C.prog k g apart w b/\X w b)/\sizedMet enc C.prog k (OpenSpec.ofChange s) apart w b) (s.post enc C.prog k apart fresh handsOn again):=by
 refine returnsInHanded_of_calls y l n m ?_;intro w c i _ A _ B r _;obtain⟨_,_,_,D,u,_,_,_,_,x⟩:=B;have e:D=k:=i_ (u.symm.trans z);subst e;obtain⟨⟨⟨p,q,d,I,K⟩,L⟩,M⟩:=r;have E:=DataW.Whole.of_heap (w':=w.forCall c i) m6 I;refine(h (w.forCall c i) w.heap.size i.args p q d A x E K (M.weights I) (J _ _ _ m6 L)).mono fun e G ⟨v,N,O⟩=>?_;subst N;exact ChangeSpec.post_blind O
end
end
end Go.Proofs.YtbgghmjmcapmlaaGreatDoor
