import Derived.Lib.LaidTab
import Derived.Test.YtbgghmjmcapmlaaGreatDoorF09
import Derived.Lib.AppendStr
import Derived.Laws.BytesArg
import Derived.Lib.ItoaLen
import Derived.Lib.AppendIntMem
import Derived.Test.YtbgghmjmcapmlaaGreatDoorF10
import Derived.Test.YtbgghmjmcapmlaaGreatDoorF06
namespace Go.Proofs.YtbgghmjmcapmlaaGreatDoor
set_option maxHeartbeats 4000000
set_option maxRecDepth 100000
theorem zF6{P:Prop}(h:P:=by rw [bD w l5];simp):P:=h
theorem zF7{P:Prop}(h:P:=by
 by_cases f:z.natAbs<=Pl.CG
 ·have o:decide (z.natAbs<=Pl.CG)=true:=by simpa using f
  rw [o] at d;clear hp h i;go_enter func243,ntmps243;go_wp2_with (go_at_call 249;refine Calls.mono d ?_;rintro e a ⟨g,r,D,rfl⟩);go_ret2;exact⟨g,.inl ⟨_,.num z,rfl,.num z,fun S=>by have:=q.out S;rw [if_pos f] at this;exact this⟩⟩
 ·have o:decide (z.natAbs<=Pl.CG)=false:=by simpa using f
  rw [o] at d;clear hp h i;go_enter func243,ntmps243
  go_wp2_with (first
   | (go_at_call 249;refine Calls.mono d ?_;rintro e a ⟨g,r,D,rfl⟩)
   | (go_at_call 247;refine(j _ _ (C _ g)).mono ?_;rintro e p ⟨rfl,l,rfl⟩))
  go_ret2;exact⟨g,.inr ⟨l,11,w8,rfl,fun S=>by have:=q.out S;rw [if_neg f] at this;exact this⟩⟩):P:=h
theorem zF8{P:Prop}(h:P:=by
 obtain⟨T,x,rfl⟩:=j.iface;clear hp i l j;go_enter func235,ntmps235;go_wp2_with fail;go_region_with (go_at_call 219;refine Calls.mono (u _) ?_;rintro e a ⟨rfl,rfl⟩)
 all_goals
  go_wp2_with (go_at_call 241;refine(y _ (r_.drew)).mono ?_;rintro e a ⟨rfl,⟨D,A,rfl,h,f⟩ | ⟨B,c,k,rfl,f⟩⟩)
  ·obtain⟨E,F,rfl⟩:=h.iface;go_wp2_with fail;go_ret2;exact⟨r_.drew,.inl ⟨_,A,rfl,h,f⟩⟩
  ·unfold aY;go_wp2_with fail;go_ret2;exact⟨r_.drew,.inr ⟨B,c,k,rfl,f⟩⟩):P:=h
theorem zF9{P:Prop}(h:P:=by clear hp c;go_enter func30,ntmps30;go_wp2_with fail;go_ret;exact⟨a _,s++[35,112,114,111,99,101,100,117,114,101],dZ (c7 s [35,112,114,111,99,101,100,117,114,101]),Pl.Q.refl _,zM0⟩):P:=h
theorem zG0{P:Prop}(h:P:=by clear hp j;go_enter func243,ntmps243;go_wp2_with (go_at_call 247;refine(h _ _ i).mono ?_;rintro e f ⟨rfl,g,rfl⟩);go_ret2;exact⟨r_,.inr ⟨g,9,w8,rfl,q⟩⟩):P:=h
theorem zG1{P:Prop}(h:P:=by
 go_enter func290,ntmps290
 go_wp2_with (go_at_call 255;refine(jI _ b l _ (by first | exact d.out | exact d.alloc _) (by have:=f.out;first | exact this | (show l.length+Array.size _<=_;simp;omega))).mono ?_;rintro e i ⟨rfl,c,a⟩)
 go_end0
 exact⟨rfl,c,by first | exact a | exact(CE w b _ (Nat.le_of_lt d.lt)).trans a⟩):P:=h
theorem zG2{P:Prop}(h:P:=by
 go_wp2_with (go_at_call 255;refine(jI _ b l _ (by first | exact c.out | exact c.alloc _) zM7).mono ?_;rintro e j ⟨rfl,d,a⟩)
 go_end0
 exact⟨rfl,d,zN2⟩):P:=h
theorem zG3{P:Prop}(h:P:=by
 by_cases h:a=b
 ·subst h;rw [run_eql_iface_ptr_same w ⟨a,0,none⟩ underlying113 underlying384 c d f];simp
 ·rw [run_eql_iface_ptr_other w (a:=⟨a,0,none⟩) (b:=⟨b,0,none⟩) underlying113 underlying384 c d f zQ9 (fun e=>h (congrArg Addr.block e)) g k];simp [h]):P:=h
theorem zG4{P:Prop}(h:P:=by
 by_cases h:a=b
 ·subst h;rw [run_eql_iface_ptr_same w ⟨a,0,none⟩ underlying113 underlying371 c d f];simp
 ·rw [run_eql_iface_ptr_other w (a:=⟨a,0,none⟩) (b:=⟨b,0,none⟩) underlying113 underlying371 c d f zQ9 (fun e=>h (congrArg Addr.block e)) g k];simp [h]):P:=h
theorem zG5{P:Prop}(h:P:=by clear hp d f g u;go_enter func241,ntmps241;go_wp2_with (go_at_call 247;refine(h _ _ k).mono ?_;rintro e c ⟨rfl,j,rfl⟩);go_ret2;exact⟨rfl,.inr ⟨j,9,w8,rfl,t⟩⟩):P:=h
theorem zG6{P:Prop}(h:P:=by rw [hcut];clear d f hcut;go_enter func195,ntmps195;go_wp2_with (go_at_call 217;refine k.mono ?_;rintro e n ⟨rfl,rfl⟩);go_ret;exact⟨rfl,rfl⟩):P:=h
theorem zG7{P:Prop}(h:P:=by
 go_enter func249,ntmps249
 go_wp2_with (go_at_call 250;refine(uS _ _ x8).mono ?_;rintro e a ⟨rfl,rfl⟩)
 go_ret2;exact⟨rfl,rfl⟩):P:=h
section
variable {a b:Pl.AE}
namespace Pl
def NI(ps:List (PV×PV)):Prop:=∀(i:Nat)(p:PV×PV),ps[i]?=some p->B7 p.1<=i/\B7 p.2<=i
theorem eR{ps:List (PV×PV)}(a:NI ps):∀(n m:Nat)(v:PV),B7 v<n->B7 v<m->KW ps n v=KW ps m v/\tails ps n v=tails ps m v
 | 0,_,_,h,_=>by omega
 | n+1,0,_,_,h=>by omega
 | n+1,m+1,v,d,e=>by
  cases v with
  | pair i =>
   simp only [B7] at d e;have b:∀n,KW ps (n+1) (.pair i)=(match ps[i]? with | some p=>40::(KW ps n p.1++tails ps n p.2) | none=>[]):=fun n=>by rw [KW];try (cases ps[i]? <;> rfl)
   have c:∀n,tails ps (n+1) (.pair i)=(match ps[i]? with | some p=>32::(KW ps n p.1++tails ps n p.2) | none=>[]):=fun n=>by rw [tails];try (cases ps[i]? <;> rfl)
   rw [b,b,c,c]
   cases f:ps[i]? with
   | none=>simp
   | some p =>obtain⟨k,l⟩:=a i p f;have g:=(eR a n m p.1 x8 x8).1;have j:=(eR a n m p.2 x8 x8).2;simp [g,j]
  | _=>exact⟨rfl,rfl⟩
def tl(ps:List (PV×PV))(v:PV):AE:=tails ps (B7 v+1) v
theorem JO{ps:List (PV×PV)}(a:NI ps){i:Nat}{p:PV×PV}(h:ps[i]?=some p):text ps (.pair i)=40::(text ps p.1++tl ps p.2):=by obtain⟨b,c⟩:=a i p h;unfold text;rw [show B7 (.pair i)+1=(i+1)+1 from rfl];rw [KW,h];dsimp only;rw [(eR a (i+1) (B7 p.1+1) p.1 x8 x8).1,(eR a (i+1) (B7 p.2+1) p.2 x8 x8).2];rfl
theorem MK{ps:List (PV×PV)}(a:NI ps){i:Nat}{p:PV×PV}(h:ps[i]?=some p):tl ps (.pair i)=32::(text ps p.1++tl ps p.2):=by obtain⟨b,c⟩:=a i p h;unfold tl;rw [show B7 (.pair i)+1=(i+1)+1 from rfl];rw [tails,h];dsimp only;rw [(eR a (i+1) (B7 p.1+1) p.1 x8 x8).1,(eR a (i+1) (B7 p.2+1) p.2 x8 x8).2];rfl
theorem QF(ps:List (PV×PV))(v:PV)(h:∀i,v≠.pair i)(a:v≠.empty):tl ps v=[32,46,32]++text ps v++[41]:=by
 cases v with
 | pair i=>exact absurd rfl (h i)
 | empty=>exact absurd rfl a
 | _=>rfl
theorem Q8(ps:List (PV×PV))(v:PV)(h:∀i,v≠.pair i):text ps v=OF v:=by
 cases v with
 | pair i=>exact absurd rfl (h i)
 | _=>rfl
def Q(a b:AE):Prop:=a.take 201=b.take 201
theorem Q.refl(a:AE):Q a a:=rfl
theorem Q.trans{c:AE}(h:Q a b)(k:Q b c):Q a c:=Eq.trans h k
theorem Q.len(h:Q a b):(200<a.length↔200<b.length):=by have:=congrArg List.length h;simp only [List.length_take] at this;omega
theorem Q.short(h:Q a b)(d:a.length<=200):a=b:=by
 have c:¬200<b.length:=fun c=>by have:=h.len.2 c;omega
 unfold Q at h
 rwa [List.take_of_length_le x8,List.take_of_length_le x8] at h
theorem Q.app(h:Q a b)(c:AE):Q (a++c) (b++c):=by
 by_cases d:a.length<=200
 ·rw [h.short d];rfl
 ·have e:=h.len.1 x8;unfold Q;rw [List.take_append_of_le_length x8,List.take_append_of_le_length x8];exact h
theorem Q.long(c d:AE)(h:200<a.length):Q (a++c) (a++d):=by unfold Q;rw [List.take_append_of_le_length x8,List.take_append_of_le_length x8]
theorem Q.cut(h:Q a b):cut a=cut b:=by
 unfold Pl.cut;by_cases c:200<a.length
 ·rw [if_pos c,if_pos (h.len.1 c)];have:(a.take 201).take 200=(b.take 201).take 200:=by rw [h]
  rw [List.take_take,List.take_take] at this;rw [show min 200 201=200 from rfl] at this;rw [this]
 ·rw [h.short x8]
theorem FL(a:AE):(cut a).length<=202:=by
 unfold cut;split
 ·simp;omega
 ·omega
def CZ:List AE->AE
 | []=>[]
 | [x]=>x
 | x::y::r=>x++32::CZ (y::r)
def AP(ts:List AE):AE:=40::(CZ ts++[41])
def CC:Nat->A9->AE
 | 0,_=>[]
 | n+1,t=>match t with
  | .lit (.int _ m)=>itoa m
  | .lit (.bool x)=>if x then [35,116] else [35,102]
  | .lit (.string s)=>s
  | .agg ts=>AP (ts.map (CC n))
  | _=>[]
def QD:A9->Prop
 | .agg ts=>∃x,ts=[.lit (.string CB),x]
 | .lit (.int _ _)=>True
 | .lit (.bool _)=>True
 | _=>False
def Nm(k:FK)(nm:AE)(d:A9):Prop:=(k=.name->nm≠[])/\(k=.const->QD d)
theorem Nm.not{k:FK}{nm:AE}{d:A9}(a:k≠.name)(b:k≠.const):Nm k nm d:=⟨fun e=>absurd e a,fun e=>absurd e b⟩
theorem I0(x:AE):∀(a:List AE),CZ (x::a)=x++a.flatMap (fun t=>32::t)
 | []=>by simp [CZ]
 | y::r=>by show x++32::CZ (y::r)=_;rw [I0 y r];simp
end Pl
end
open Go.Proofs.Tryz
open Pl (PV PW AE)
section
open Go.RowKit
variable {w w':World} {M:Q5}
def oS:String := "internal/strconv.uint64pow10"
structure Gs(w:World)(M:Q5):Prop where
 size:8<=w.heap.size
 low:∀k,k<8->¬M k
 B3:Lib.TabIs prog w oS .u64 Lib.pow10Tab
theorem Tryz.powB:(prog.globalNamed oS).map (fun g=>decide (g<8))=some true:=by kernel_rfl
theorem Tryz.powG:∃g,prog.globalNamed oS=some g/\g<8:=by
 have h:=Tryz.powB
 cases a:prog.globalNamed oS with
 | none=>rw [a] at h;simp at h
 | some g=>rw [a] at h;exact⟨g,rfl,zO3⟩
theorem iH(h:∀k,k<8->w'.heap[k]?=w.heap[k]?)(a:Lib.TabIs prog w oS .u64 Lib.pow10Tab):Lib.TabIs prog w' oS .u64 Lib.pow10Tab:=by obtain⟨g,b,c⟩:=Tryz.powG;unfold Lib.TabIs World.var? at a ⊢;rw [b] at a ⊢;simp only [Option.bind_some,h g c] at a ⊢;exact a
theorem Gs.AQ{M':Q5}(h:Gs w M)(b:Stp M w M' w'):Gs w' M' :=⟨t_ h.size b.size,fun k a=>(b.block k (l_ a h.size) (h.low k a)).2,iH (fun k a=>(b.block k (l_ a h.size) (h.low k a)).1) h.B3⟩
theorem Gs.mono{M':Q5}(h:Gs w M)(b:∀k,M' k->M k):Gs w M':=⟨h.size,fun k c a=>h.low k c (b k a),h.B3⟩
theorem Gs.below(h:Gs w M)(a:Q3 w w'):Gs w' M:=h.AQ (Stp.AA a)
def AY:Prop:=∀(n:Int)(w:World),n.natAbs<=1099511627776->Lib.TabIs prog w oS .u64 Lib.pow10Tab->Q2 46 #[Q1 n] w fun e w'=>e=.returned (.string ⟨(Pl.itoa n).toArray⟩)/\Q3 w w'/\(Pl.itoa n).length<=30
theorem yB{wb:Nat}{W:PW}{pv qv cv lv gv:Value}{qs cs:List Value}(h:EV w wb W pv qv cv lv gv qs cs){k:Nat}{p:PV×PV}(hp:W.pairs[k]?=some p):∃g b,pv=.slice (some ⟨g,0,none⟩) W.pairs.length b/\W.pairs.length<=b/\g<w.heap.size /\
  w.cell? ⟨g,k*6,none⟩=some (.string ⟨(vK p.1).toArray⟩)/\w.cell? ⟨g,k*6+1,none⟩=some (Q1 (vN p.1))/\w.cell? ⟨g,k*6+2,none⟩=some (.string ⟨(vS p.1).toArray⟩) /\
  w.cell? ⟨g,k*6+3,none⟩=some (.string ⟨(vK p.2).toArray⟩)/\w.cell? ⟨g,k*6+3+1,none⟩=some (Q1 (vN p.2))/\w.cell? ⟨g,k*6+3+2,none⟩=some (.string ⟨(vS p.2).toArray⟩):=by
 have i:=(s_ hp).1;rcases h.pr.2 with⟨_,j⟩ | ⟨g,b,c,e,_,d,f,_⟩
 ·omega
 ·have a:=h.pr.cells (g:=g) zQ7;refine⟨g,b,e,f,aB d,?_,?_,?_,?_,?_,?_⟩
  ·have:=a (k*6) _ (aX mG 6 (fun _=>rfl) _ _ 0 _ hp w8);rwa [Addr.add_lit,Nat.zero_add] at this
  ·have:=a (k*6+1) _ (aX mG 6 (fun _=>rfl) _ _ 1 _ hp w8);rwa [Addr.add_lit,Nat.zero_add] at this
  ·have:=a (k*6+2) _ (aX mG 6 (fun _=>rfl) _ _ 2 _ hp w8);rwa [Addr.add_lit,Nat.zero_add] at this
  ·have:=a (k*6+3) _ (aX mG 6 (fun _=>rfl) _ _ 3 _ hp w8);rwa [Addr.add_lit,Nat.zero_add] at this
  ·have:=a (k*6+4) _ (aX mG 6 (fun _=>rfl) _ _ 4 _ hp w8);rwa [Addr.add_lit,Nat.zero_add] at this
  ·have:=a (k*6+5) _ (aX mG 6 (fun _=>rfl) _ _ 5 _ hp w8);rwa [Addr.add_lit,Nat.zero_add] at this
structure L2(W:PW):Prop where
 KV:Pl.NI W.pairs
 CH:∀(i:Nat)(p:PV×PV),W.pairs[i]?=some p->BL W p.1/\BL W p.2
 len:W.pairs.length<=1000000000
def IC(W:PW)(v:PV)(s:AE)(n:Nat)(w:World)(e:Ending)(w':World):Prop :=Q3 w w'/\∃r:AE,e=.returned (.string ⟨r.toArray⟩)/\Pl.Q r (s++Pl.text W.pairs v)/\r.length<=max s.length (700+n)
def OO(wb:Nat)(M:Q5)(W:PW)(n:Nat):Prop:=∀(w:World)(v:PV)(s:AE),RW w wb M W->Gs w M->BL W v->Pl.B7 v<=n->s.length<=100000000000 ->
 Q2 30 #[Q0 wb,bT v,.string ⟨s.toArray⟩] w fun e w'=>IC W v s n w e w'
theorem c7(a b:AE):(⟨a.toArray⟩:Q8)++⟨b.toArray⟩=⟨(a++b).toArray⟩:=by apply ByteArray.ext;simp [ByteArray.data_append]
theorem dZ{a:Q8}{b:AE}(h:a=⟨b.toArray⟩):Ending.returned (.string a)=.returned (.string ⟨b.toArray⟩):=by rw [h]
theorem fU(m:AY)(wb:Nat)(M:Q5)(W:PW)(n:Nat)(w:World)(v:PV)(s:AE)(p:Gs w M)(c:BL W v)(r:s.length<=200)(hp:∀i,v≠.pair i) :Q2 30 #[Q0 wb,bT v,.string ⟨s.toArray⟩] w fun e u=>IC W v s n w e u:=by
 have y:Hid AY:=m;have z:=h_ p;clear m p;have A:decide ((200:Int)<(s.length:Int))=false:=by simp;omega
 have f:∀o:Obj,Q3 w (w.alloc o):=fun o=>b_;have a:=h_ f;have d:=h_ r;clear f
 cases v with
 | pair i=>exact absurd rfl (hp i)
 | empty =>unfold bT AM vK vN vS kEmp;clear hp c;go_enter func30,ntmps30;go_wp2_with fail;go_ret;exact⟨a _,s++[40,41],dZ (c7 s [40,41]),Pl.Q.refl _,zM0⟩
 | nothing =>unfold bT AM vK vN vS kNot;clear hp c;go_enter func30,ntmps30;go_wp2_with fail;go_ret;exact⟨a _,s++[],by rw [List.append_nil];rfl,Pl.Q.refl _,by simp only [a_];have:=d.out;simp only [z_];omega⟩
 | proc i =>unfold bT AM vK vN vS kProc;exact zF9
 | cont i =>unfold bT AM vK vN vS pJ;exact zF9
 | AZ i =>unfold bT AM vK vN vS pH;exact zF9
 | AT b =>
  clear hp c
  cases b with
  | true =>unfold bT AM vK vN vS F_;simp only [↓reduceIte];go_enter func30,ntmps30;go_wp2_with fail;go_ret;exact⟨a _,s++[35,116],dZ (c7 s [35,116]),Pl.Q.refl _,zM0⟩
  | false =>unfold bT AM vK vN vS F_;simp only [↓reduceIte,Bool.false_eq_true];go_enter func30,ntmps30;go_wp2_with fail;go_ret;exact⟨a _,s++[35,102],dZ (c7 s [35,102]),Pl.Q.refl _,zM0⟩
 | name x =>have h:x.length<=300:=c;have j:=h_ h;unfold bT AM vK vN vS kNa;clear hp c;go_enter func30,ntmps30;go_wp2_with fail;go_ret;exact⟨a _,s++x,dZ (c7 s x),Pl.Q.refl _,by simp only [a_];have:=d.out;have:=j.out;omega⟩
 | num x =>
  have h:x.natAbs<=1099511627776:=c;have j:=h_ h;unfold bT AM vK vN vS kNu;clear hp c h;go_enter func30,ntmps30;go_wp2_with fail;refine(y x _ j (z.below (a _)).B3).mono ?_;rintro e B ⟨rfl,q,C⟩;have k:=(show Hid (Q3 w B) from(a _).trans (q.mono (a _).size))
  have l:=h_ C;clear q;generalize g:Pl.itoa x=t at *;have D:=h_ g;clear g;go_wp2_with fail;go_ret;exact⟨k,s++t,dZ (c7 s _),by rw [<- D.out];exact Pl.Q.refl _,by simp only [a_];have:=d.out;have:=l.out;omega⟩
theorem fT(wb:Nat)(W:PW)(n:Nat)(w:World)(v:PV)(s:AE)(b:200<s.length)(c:s.length<=100000000000) :Q2 30 #[Q0 wb,bT v,.string ⟨s.toArray⟩] w fun e d=>IC W v s n w e d:=by
 have f:=h_ b;have g:(200:Int)<(s.length:Int):=by omega
 unfold bT AM;go_enter func30,ntmps30;go_wp2_with fail;go_ret;exact⟨b_,s,rfl,by have:=Pl.Q.long (a:=s) [] (Pl.text W.pairs v) f;rwa [List.append_nil] at this,x8⟩
end
open Pl (arity AO)
section
open Go.RowKit Go.Lib
variable {w w':World} {b:Nat} {l:AE}
structure OU(W:PW):Prop where
 KV:Pl.NI W.pairs
 CH:∀(i:Nat)(p:PV×PV),W.pairs[i]?=some p->BL W p.1/\BL W p.2
def L3:TypeId:=350
def JM:TypeId:=5
def byCells(l:AE):List Value:=l.map fun b=>Value.int .u8 b.toNat
theorem Tryz.infoBy:(prog.info? 5).map (fun i=>(i.zero,i.size,i.bytes))=some (some (.int .u8 0),1,1):=by kernel_rfl
theorem wG:∃i,prog.info? JM=some i/\i.zero=some (.int .u8 0)/\i.size=1/\i.bytes=1:=by obtain⟨i,b,a⟩:=m_ Tryz.infoBy;simp only [Prod.mk.injEq] at a;exact⟨i,b,a.1,a.2.1,a.2.2⟩
theorem cJ{base:Nat}{e:TypeId}{sz:Nat}{v:Value}{n:Nat}{xs:List Value}(h:w.ownsRow base e sz v n xs):∃b a,v=.slice b n a/\n<=a/\(b=none->n=0):=by
 rcases h.2 with⟨rfl,rfl⟩ | ⟨g,a,c,rfl,_,_,d,_⟩
 ·exact⟨none,0,rfl,n_,fun _=>rfl⟩
 ·exact⟨_,a,rfl,d,fun h=>by cases h⟩
theorem strOf(l:AE):strOfNums (l.map fun b=>(b.toNat:Int))=⟨l.toArray⟩:=by
 unfold strOfNums;rw [List.map_map]
 congr 2
 exact(List.map_congr_left (fun b _=>by simp)).trans (List.map_id l)
theorem lY{base:Nat}{g n cap:Nat}(h:w.ownsRow base JM 1 (.slice (some ⟨g,0,none⟩) n cap) n (byCells l))(m:Nat)(e:m<=l.length)(c:Nat) :(convert 226 9 (.slice (some ⟨g,0,none⟩) m c)).run prog w=.ok (.string ⟨(l.take m).toArray⟩) w:=by
 rw [<- strOf];refine run_convert_bytes_arg w 226 5 underlying226 underlying5 g 0 m c _ r7 (fun i b=>?_) 9 underlying9;have a:i<l.length:=by omega
 have:=h.cells (g:=g) rfl i (.int .u8 (l[i].toNat:Int)) (by simp [byCells,g_ a]);rw [show(⟨g,0,none⟩:Addr).add i=⟨g,0+i,none⟩ from by simp [Addr.add_lit]] at this;rw [this];have d:(l.take m)[i]?=some l[i]:=by rw [List.getElem?_take_of_lt b,g_ a]
 rw [List.getD,List.getElem?_map,d];rfl
theorem qY(w:World)(n c:Nat):(convert 226 9 (.slice none n c)).run prog w=.ok (.string ⟨([]:Q7).toArray⟩) w :=run_convert_bytes_nil w 226 5 underlying226 underlying5 n c 9 underlying9
def A6(w:World)(b:Nat)(l:AE):Prop:=∃sv,w.heap[b]?=some (.cells #[sv] L3 (0,0))/\w.ownsRow (b+1) JM 1 sv l.length (byCells l)
theorem A6.lt(h:A6 w b l):b<w.heap.size:=by obtain⟨c,a,_⟩:=h;exact aB a
theorem A6.alloc(h:A6 w b l)(o:Obj):A6 (w.alloc o) b l:=by obtain⟨c,a,d⟩:=h;exact⟨c,(Below.heap_alloc w o b (aB a)).trans a,d.alloc o⟩
structure GP(b:Nat)(w w':World):Prop where
 below:Below b w w'
 kept:∀(k:Nat)(x:Obj),w.heap[k]?=some x->k≠b->(∀c fz,x≠.cells c JM fz)->w'.heap[k]?=some x
theorem GP.trans{w1 w2:World}(h:GP b w w1)(k:GP b w1 w2):GP b w w2:=⟨h.below.trans k.below,fun j x d a c=>k.kept j x (h.kept j x d a c) a c⟩
theorem GP.block(h:GP b w w')(k:Nat)(a:k<b):w'.heap[k]?=w.heap[k]? := h.below.block k a
theorem GP.cell(h:GP b w w'){p:Addr}(hp:p.block<b):w'.cell? p=w.cell? p:=h.below.cell hp
theorem GP.AA(h:Q3 w w')(c:b<=w.heap.size):GP b w w':=⟨h.mono c,fun k _ a _ _=>(h.block k (aB a)).trans a⟩
theorem fB(a b:AE):byCells (a++b)=byCells a++byCells b:=by simp [byCells]
theorem jI(w:World)(b:Nat)(l:AE)(s:Q8)(h:A6 w b l)(K:l.length+s.size<=140000000000000) :Q2 255 #[Q0 b,.string s] w fun e D=>e=.returned (.tuple #[])/\A6 D b (l++s.data.toList)/\GP b w D:=by
 obtain⟨j,q,d⟩:=h;obtain⟨F,r,t,u,v⟩:=wG;have L:w.cell? ⟨b,0,none⟩=some j:=aA q 0;have y:some b≠j.ownBlock:=fun e=>by have:=(d.lt b e.symm).1;omega
 have m:=aB q;go_enter func255,ntmps255;go_wp2_with (at_builtin;refine wpList_append_own_string _ rfl _ _ 226 9 rfl (b+1) JM F underlying226 underlying9 r t u v j l.length (byCells l) rfl d s rfl o6 x8 m ?_;intro M z f c _;obtain⟨A,n,rfl,_⟩:=cJ f;have i:=(c.block b m y).trans q;have N:z.cell? ⟨b,0,none⟩=some j:=aA i 0;have O:z.frozen? ⟨b,0,none⟩=false:=aF i 0)
 go_end0
 refine⟨rfl,⟨_,aD i 0 _,?_⟩,?_⟩
 ·have:=ownsRow_setCell_below f (a:=⟨b,0,none⟩) (Nat.lt_succ_self b) (.slice A (l.length+s.size) n);rw [fB,a_];exact this
 ·refine⟨((Below.refl b w).grown c x8 (fun k B=>by have:=(d.lt k B).1;omega)).setCell n_ _,fun k x p B G=>?_⟩
  have o:some k≠j.ownBlock:=fun e=>by
   rcases d.2 with⟨C,_⟩ | ⟨g,H,I,C,_,J,_⟩
   ·rw [C] at e;cases e
   ·rw [C] at e;obtain rfl:k=g:=i_ e;rw [J] at p;exact G _ _ (i_ p).symm
  have E:=(c.block k (aB p) o).trans p;exact((aE z b 0 _).block k (aB E) (fun e=>B (i_ e))).trans E
theorem uZ(w:World)(b:Nat)(l:AE)(h:A6 w b l)(k:l.length<=140000000000000) :Q2 217 #[Q0 b] w fun e f=>e=.returned (.bool (decide (200<l.length)))/\w=f:=by
 obtain⟨g,i,a⟩:=h;have m:w.cell? ⟨b,0,none⟩=some g:=aA i 0;obtain⟨n,j,rfl,c,_⟩:=cJ a;have d:decide ((200:Int)<(l.length:Int))=decide (200<l.length):=by rw [decide_eq_decide];omega
 go_enter func217,ntmps217
 go_wp2_with fail
 go_ret;exact⟨rfl,rfl⟩
theorem JT(w:World)(b:Nat)(l:AE)(h:A6 w b l)(u:l.length<=140000000000000) :Q2 195 #[Q0 b] w fun e n=>e=.returned (.string ⟨(Pl.cut l).toArray⟩)/\w=n:=by
 have k:=uZ w b l h u;obtain⟨v,x,d⟩:=h;have z:w.cell? ⟨b,0,none⟩=some v:=aA x 0;obtain⟨o,j,rfl,s,f⟩:=cJ d;by_cases m:200<l.length
 ·obtain⟨a,rfl⟩:∃a,o=some a:=by
   cases o with
   | none=>exact absurd (f rfl) x8
   | some a=>exact⟨a,rfl⟩
  obtain⟨g,rfl⟩:∃g,a=⟨g,0,none⟩:=by
   rcases d.2 with⟨i,_⟩ | ⟨g,c,p,i,_⟩
   ·cases i
   ·simp only [Value.slice.injEq,o_] at i;exact⟨g,i.1⟩
  have q:=lY d 200 x8 j;have t:(⟨(l.take 200).toArray⟩:Q8)++⟨#[46,46]⟩=⟨(l.take 200++[46,46]).toArray⟩:=c7 _ [46,46];have hcut:Pl.cut l=l.take 200++[46,46]:=by unfold Pl.cut;rw [if_pos m]
  have r:decide (200<l.length)=true:=by simpa using m
  rw [r] at k;have A:(200:Int)<=(j:Int):=by omega
  exact zG6
 ·have hcut:Pl.cut l=l:=by unfold Pl.cut;rw [if_neg m]
  have r:decide (200<l.length)=false:=by simpa using m
  rw [r] at k
  have q:(convert 226 9 (.slice o l.length j)).run prog w=.ok (.string ⟨l.toArray⟩) w:=by
   rcases d.2 with⟨i,y⟩ | ⟨g,c,p,i,_⟩
   ·simp only [Value.slice.injEq] at i;obtain⟨rfl,_,rfl⟩:=i;obtain rfl:=e_ y;exact qY w _ _
   ·simp only [Value.slice.injEq] at i;obtain⟨rfl,_,rfl⟩:=i;have:=lY d l.length n_ j;rw [List.take_length] at this;exact this
  exact zG6
theorem wE:AY:=fun n w d a =>
 (Tryz.strconv_Itoa n x8 x8 w a).mono (fun e f ⟨b,k,g,c⟩=>⟨b,by subst c;exact below_grow _ _ n_ _ _,by
  have:=Lib.itoa_length_le n x8 x8;show(Lib.itoa n).length<=30
  omega⟩)
def EP(w:World)(b:Nat)(l t:AE)(e:Ending)(w':World):Prop:=e=.returned (.tuple #[])/\A6 w' b (l++t)/\GP b w w'
theorem A6.later(h:A6 w b l)(f:Q3 w w'):A6 w' b l:=by
 obtain⟨k,i,m,a⟩:=h;refine⟨k,(f.block b (aB i)).trans i,m,?_⟩;rcases a with a | ⟨g,c,d,e,n,j,r⟩
 ·exact .inl a
 ·exact .inr ⟨g,c,d,e,n,(f.block g (aB j)).trans j,r⟩
theorem cX(w:World)(b:Nat)(o:Obj)(h:b<=w.heap.size):Below b w (w.alloc o):=(Below.refl b w).alloc h o
theorem CE(w:World)(b:Nat)(o:Obj)(h:b<=w.heap.size):GP b w (w.alloc o):=GP.AA (cX w _ o n_) h
theorem uQ(w:World)(b:Nat)(l:AE)(x:Bool)(h:A6 w b l)(j:l.length<=1000000000):Q2 290 #[.bool x,Q0 b] w fun e g=>EP w b l (Pl.OF (.AT x)) e g:=by
 have d:=h_ h;have f:Hid (l.length+2<=140000000000000):=show _ from by show l.length+2<=_;omega
 clear h
 cases x
 ·exact zG1
 ·exact zG1
theorem yI(w:World)(b:Nat)(l:AE)(x:AE)(h:A6 w b l)(i:l.length<=1000000000)(j:x.length<=300):Q2 292 #[.string ⟨x.toArray⟩,Q0 b] w fun e f=>EP w b l x e f:=by
 have c:=h_ h;have g:Hid (l.length+x.toArray.size<=140000000000000):=show _ from by show l.length+_<=_;simp;omega
 clear h;go_enter func292,ntmps292;go_wp2_with (go_at_call 255;refine(jI _ b l _ (by first | exact c.out | exact c.alloc _) zM7).mono ?_;rintro e k ⟨rfl,d,a⟩)
 go_end0
 exact⟨rfl,d,zN2⟩
theorem uR(w:World)(b:Nat)(l:AE)(h:A6 w b l)(i:l.length<=1000000000):Q2 306 #[.agg #[],Q0 b] w fun e f=>EP w b l (Pl.OF .empty) e f:=by
 have c:=h_ h;have g:Hid (l.length+2<=140000000000000):=show _ from by show l.length+2<=_;omega
 clear h;go_enter func306,ntmps306;exact zG2
theorem oU(w:World)(b:Nat)(l:AE)(h:A6 w b l):Q2 294 #[.agg #[],Q0 b] w fun e c=>EP w b l [] e c:=by
 have a:=h_ h;clear h;go_enter func294,ntmps294;go_wp2_with fail
 go_end0
 exact⟨rfl,by rw [List.append_nil];exact a.alloc _,CE w b _ (Nat.le_of_lt a.lt)⟩
theorem lS(w:World)(b:Nat)(l:AE)(h:A6 w b l)(i:l.length<=1000000000):Q2 254 #[.agg #[],Q0 b] w fun e f=>EP w b l Pl.J6 e f:=by
 have c:=h_ h;have g:Hid (l.length+10<=140000000000000):=show _ from by show l.length+10<=_;omega
 clear h;go_enter func254,ntmps254;exact zG2
theorem yG(w:World)(b:Nat)(l:AE)(n:Int)(h:A6 w b l)(d:l.length<=1000000000):Q2 256 #[Q1 n,Q0 b] w fun e f=>EP w b l Pl.J6 e f:=by
 have g:=h_ (lS w b l h d);clear h;go_enter func256,ntmps256;go_wp2_with (go_at_call 254;refine Calls.mono g ?_;rintro e i ⟨rfl,a,c⟩)
 go_end0
 exact⟨rfl,a,c⟩
theorem sD(w:World)(b:Nat)(l:AE)(h:A6 w b l)(g:l.length<=1000000000):Q2 252 #[.agg #[],Q0 b] w fun e a=>EP w b l Pl.J6 e a:=by
 have i:Hid (∀o,Q2 254 #[.agg #[],Q0 b] (w.alloc o) fun e a=>EP (w.alloc o) b l Pl.J6 e a):=fun o=>lS _ b l (h.alloc o) g;have c:=h.lt;clear h;go_enter func252,ntmps252;go_wp2_with (go_at_call 254;refine(i _).mono ?_;rintro e j ⟨rfl,d,f⟩)
 go_end0
 exact⟨rfl,d,(CE w b _ (Nat.le_of_lt c)).trans f⟩
theorem sC(w:World)(b:Nat)(l:AE)(n:Int)(h:A6 w b l)(m:l.length<=1000000000)(s:n.natAbs<=1099511627776)(g:Lib.TabIs prog w oS .u64 Lib.pow10Tab):Q2 286 #[Q1 n,Q0 b] w fun e c=>EP w b l (Pl.itoa n) e c:=by
 have o:Hid (Q2 288 #[Q1 n,Q1 10] w fun e c=>e=.returned (.string ⟨(Pl.itoa n).toArray⟩)/\Q3 w c/\(Pl.itoa n).length<=30):=show Calls _ _ _ _ _ from(Tryz.strconv_FormatInt_10 n x8 x8 w g).mono (fun e c ⟨p,k,u,q⟩=>⟨p,by subst q;exact below_grow _ _ n_ _ _,by
  have:=Lib.itoa_length_le n x8 x8;show(Lib.itoa n).length<=30
  omega⟩)
 have i:=h_ h;have r:=h_ m;clear h g;generalize Pl.itoa n=t at *;go_enter func286,ntmps286
 go_wp2_with (first
  | (go_at_call 288;refine Calls.mono o ?_;rintro e v ⟨rfl,a,j⟩)
  | (go_at_call 255;refine(jI _ b l _ (i.later a) (by have:=r.out;show l.length+t.toArray.size<=_;simp;omega)).mono ?_;rintro e x ⟨rfl,d,f⟩))
 go_end0
 exact⟨rfl,d,(GP.AA a (Nat.le_of_lt i.lt)).trans f⟩
def Enters(f:FuncId):Prop:=∀(args:Array Value)(w:World),(callFunc f args).run prog w=.ok (.enter f args) w
theorem Tryz.Y1:Enters 286:=enters_of func286 t8 rfl
theorem Tryz.RO:Enters 290:=enters_of func290 t8 rfl
theorem Tryz.UM:Enters 292:=enters_of func292 t8 rfl
theorem Tryz.RP:Enters 306:=enters_of func306 t8 rfl
theorem Tryz.OE:Enters 294:=enters_of func294 t8 rfl
theorem Tryz.UL:Enters 308:=enters_of func308 t8 rfl
theorem Tryz.UK:Enters 256:=enters_of func256 t8 rfl
theorem Tryz.ST:Enters 252:=enters_of func252 t8 rfl
theorem Tryz.QQ:Enters 254:=enters_of func254 t8 rfl
structure QB(w:World)(s:Sg)(ps:List (PV×PV))(b:Nat):Prop where
 pairs:∀(i k:Nat)(p:PV×PV),s.pb[i]?=some k->ps[i]?=some p->k<b/\∃x y,w.heap[k]?=some (.cells #[x,y] E0 (0,0))/\RV s x p.1/\RV s y p.2
 nodup:s.pb.Nodup
 len:s.pb.length=ps.length
 procs:∀(i k:Nat),s.qb[i]?=some k->k≠0->k<b/\∃cs,w.heap[k]?=some (.cells cs (ZX s.tq) (0,0))
 AG:∀(i k:Nat),s.cb[i]?=some k->k<b/\∃cs,w.heap[k]?=some (.cells cs (ZX s.tc) (0,0))
 B3:Lib.TabIs prog w oS .u64 Lib.pow10Tab
 DI:8<=b
 NH:IS s
 qn:∀(i j k:Nat),s.qb[i]?=some k->s.qb[j]?=some k->k≠0->i=j
 cn:s.cb.Nodup
theorem QB.below{s:Sg}{ps:List (PV×PV)}(h:QB w s ps b)(e:Below b w w'):QB w' s ps b :=
 ⟨fun i k p c g=>by
  obtain⟨a,x,y,d,j⟩:=h.pairs i k p c g
  exact⟨a,x,y,(e.block k a).trans d,j⟩,h.nodup,h.len,fun i k c l=>by
  obtain⟨a,f,d⟩:=h.procs i k c l
  exact⟨a,f,(e.block k a).trans d⟩,fun i k c=>by
  obtain⟨a,f,d⟩:=h.AG i k c
  exact⟨a,f,(e.block k a).trans d⟩,iH (fun k m=>e.block k (l_ m h.DI)) h.B3,h.DI,h.NH,h.qn,h.cn⟩
def J1(W:PW)(w:World)(b:Nat)(l:AE)(p:PV)(e:Ending)(w':World):Prop :=e=.returned (.tuple #[])/\GP b w w'/\∃l',A6 w' b l'/\Pl.Q l' (l++Pl.text W.pairs p)/\l'.length<=max l.length 200+300+min 10 (10*Pl.B7 p)+min (201-l.length) (Pl.B7 p)
def P6(v:Value)(b:Nat)(w:World)(Q:Ending->World->Prop):Prop:=∃T x f x',v=.iface T x/\(Go.method 534 T x "Spell").run prog w=.ok (f,x') w/\Enters f/\Q2 f #[x',Q0 b] w Q
def VA(W:PW)(s:Sg)(b n:Nat):Prop:=∀(w:World)(l:AE)(v:Value)(p:PV),A6 w b l->QB w s W.pairs b->RV s v p->BL W p->Pl.B7 p<=n->l.length<=1000000000->P6 v b w (J1 W w b l p)
theorem cH{W:PW}{t:AE}{p:PV}(a:Pl.text W.pairs p=t)(c:t.length<=300){e:Ending}(h:EP w b l t e w'):J1 W w b l p e w' :=⟨h.1,h.2.2,_,h.2.1,by rw [a];exact Pl.Q.refl _,by simp only [a_];omega⟩
theorem tR(W:PW)(s:Sg)(b:Nat)(w:World)(l:AE)(v:Value)(p:PV)(c:A6 w b l)(g:QB w s W.pairs b)(q:RV s v p)(j:BL W p)(d:l.length<=1000000000)(hp:∀i,p≠.pair i):P6 v b w (J1 W w b l p):=by
 have a:=Pl.Q8 W.pairs p hp
 cases q with
 | pair i b h=>exact absurd rfl (hp i)
 | num n =>refine⟨_,_,_,_,rfl,Tryz.w_ n w,Tryz.Y1,(sC w b l n c d j g.B3).mono (fun e f h=>cH a ?_ h)⟩;have:=Lib.itoa_length_le n (by have:n.natAbs<=1099511627776:=j;omega) (by have:n.natAbs<=1099511627776:=j;omega);show(Lib.itoa n).length<=300;omega
 | AT x=>exact⟨_,_,_,_,rfl,Tryz.SN x w,Tryz.RO,(uQ w b l x c d).mono (fun e f h=>cH a (by cases x<;>decide) h)⟩
 | name t=>exact⟨_,_,_,_,rfl,Tryz.WI _ w,Tryz.UM,(yI w b l t c d j).mono (fun e f h=>cH a j h)⟩
 | empty=>exact⟨_,_,_,_,rfl,Tryz.SO w,Tryz.RP,(uR w b l c d).mono (fun e f h=>cH a w8 h)⟩
 | nothing=>exact⟨_,_,_,_,rfl,Tryz.O1 w,Tryz.OE,(oU w b l c).mono (fun e f h=>cH a w8 h)⟩
 | proc i k h r =>obtain⟨_,o,m⟩:=g.procs i k h r;exact⟨_,_,_,_,rfl,g.NH.spq k w o m,Tryz.QQ,(lS w b l c d).mono (fun e f h=>cH a (show Pl.J6.length<=300 from by decide) h)⟩
 | cont i k h =>obtain⟨_,o,m⟩:=g.AG i k h;exact⟨_,_,_,_,rfl,g.NH.spc k w o m,Tryz.QQ,(lS w b l c d).mono (fun e f h=>cH a (show Pl.J6.length<=300 from by decide) h)⟩
 | AZ k t h m=>exact⟨_,_,_,_,rfl,Tryz.WG _ w,Tryz.UK,(yG w b l _ c d).mono (fun e f h=>cH a (show Pl.J6.length<=300 from by decide) h)⟩
 | EC=>exact⟨_,_,_,_,rfl,Tryz.RB w,Tryz.ST,(sD w b l c d).mono (fun e f h=>cH a w8 h)⟩
theorem UC{s:Sg}{j k:Nat}(a:s.pb.Nodup)(h:s.pb[j]?=some k):s.pb.idxOf k=j:=by obtain⟨b,rfl⟩:=s_ h;exact a.idxOf_getElem j b
def QU(W:PW)(w:World)(b:Nat)(l:AE)(i:Nat)(wr:World)(j:Nat)(lk:AE):Prop :=A6 wr b lk/\GP b w wr/\j<=i/\(l.length<lk.length/\lk.length<=max l.length 200+310+min (201-l.length) (i+1))/\∃q,W.pairs[j]?=some q/\Pl.Q (lk++(Pl.text W.pairs q.1++Pl.tl W.pairs q.2)) (l++Pl.text W.pairs (.pair i))
def blkOf:Value->Nat
 | .pointer (some a)=>a.block
 | _=>0
theorem yH(W:PW)(hP:OU W)(s:Sg)(b n:Nat)(hS:VA W s b n)(w:World)(l:AE)(i k:Nat)(ht:A6 w b l)(hL:QB w s W.pairs b)(hk:s.pb[i]?=some k)(hi:i<=n)(hl:l.length<=1000000000) :Q2 308 #[Q0 k,Q0 b] w fun e N=>J1 W w b l (.pair i) e N:=by
 have HS:=h_ hS;have HP:=h_ hP;have Z:=h_ hL;have HT:=h_ ht;have HN:Hid (l.length<=1000000000/\i<W.pairs.length/\i<=n/\True):=⟨hl,by have:=(s_ hk).1;rw [hL.len] at this;exact this,hi,trivial⟩
 have HK:=h_ hk;clear hS hP hL ht hk hi hl;go_enter func308,ntmps308
 go_upto_region 1 with(go_at_call 255;refine(jI _ b l _ HT (by have:=HN.1;show l.length+1<=_;omega)).mono ?_;rintro e w1 ⟨rfl,ah,ai⟩)
 have H1:Hid (QU W w b l i w1 i (l++[40])):=by
  obtain⟨q,M⟩:∃q,W.pairs[i]?=some q:=⟨_,g_ HN.2.1⟩
  refine show QU _ _ _ _ _ _ _ _ from⟨ah,ai,n_,⟨w9,r7⟩,q,M,?_⟩;rw [Pl.JO HP.KV M];simp [Pl.Q]
 clear ah ai
 go_loopw [0] (fun pv wr=>∃(j g:Nat)(D:AE),pv=(Q0 g)/\Hid (s.pb[j]?=some g)/\Hid (QU W w b l i wr j D)) (fun pv _=>s.pb.idxOf (blkOf pv))
 case atStart=>exact⟨i,k,_,rfl,HK,H1⟩
 case round =>
  obtain⟨j,g,D,rfl,HJ,HI⟩:=hrel;obtain⟨h,o,O,B,q,M,hQ⟩:=HI.out;obtain⟨P,x,y,Q,hx,hy⟩:=Z.pairs j g q HJ M;have d:=(o.block g P).trans Q;have x0:wr.cell? ⟨g,0,none⟩=some x:=aA d 0;have x1:wr.cell? ⟨g,1,none⟩=some y:=aA d 1;have aa:Hid (l.length<D.length/\D.length<=140000000000000):=⟨B.1,by have:=HN.1;have:=B.2;omega⟩
  have HQ:=h_ hQ;have HB:=h_ o;have bi:=h_ h;have HF:=h_ (uZ wr b D h aa.2);by_cases r:200<D.length
  ·have hd:decide (200<D.length)=true:=by simpa using r
   rw [hd] at HF;have HX:Hid (J1 W w b l (.pair i) (.returned (.tuple #[])) wr):=⟨rfl,o,D,h,(by have:=(Pl.Q.long (a:=D) [] (Pl.text W.pairs q.1++Pl.tl W.pairs q.2) r).trans hQ;simpa using this),by have:=B.2;simp only [Pl.B7];omega⟩
   clear hx hy Q d hQ M h o B;go_wp2_with (go_at_call 217;refine Calls.mono HF ?_;rintro e N ⟨rfl,rfl⟩)
   all_goals
    go_end0
    exact HX
  ·have hd:decide (200<D.length)=false:=by simpa using r
   rw [hd] at HF;have R:=HP.CH j q M;have S:=HP.KV j q M;obtain⟨T,x',f,xr,rfl,aj,V,t⟩:=HS.out wr D x q.1 h (Z.below o.below) hx R.1 (by have:=HN.2.2.1;omega) x8;unfold Enters at V;have HC:=h_ t;have u:Hid (BL W q.2/\Pl.B7 q.1<=j/\Pl.B7 q.2<=j/\RV s y q.2/\W.pairs[j]?=some q/\j<=i/\g<b/\D.length<=200):=⟨R.2,S.1,S.2,hy,M,O,P,x8⟩
   have bj:=h_ d;rcases hy.MZ Z.NH with⟨m,km,F,ak,rfl⟩ | ⟨al,T2,x2,rfl,av⟩
   ·clear t hx hy Q d hQ M h o B R S O P
    go_wp2_with (first
     | (go_at_call 217;refine Calls.mono HF ?_;rintro e N ⟨rfl,rfl⟩)
     | (refine Calls.mono HC ?_;rintro e E ⟨rfl,C,c,G,H,am⟩;have ab:E.cell? ⟨g,1,none⟩=some (.iface 272 (Q0 km)):=(C.cell (p:=⟨g,1,none⟩) u.2.2.2.2.2.2.1).trans x1;have bk:=@fC 272)
     | (go_at_call 255;refine(jI _ b c _ G (by have:=HN.out;have:=u.out;show c.length+1<=_;have:=HN.1;omega)).mono ?_;rintro e w3 ⟨rfl,v,z⟩))
    go_roundw
    case rel =>
     have hm:m<W.pairs.length:=by have:=u.1;rw [F] at this;exact this
     obtain⟨q',an⟩:∃q',W.pairs[m]?=some q':=⟨_,g_ hm⟩
     have hr:m+1<=j:=by have:=u.2.2.1;rw [F] at this;exact this
     have bl:=u.2.1;have O:=u.2.2.2.2.2.1;have aw:=u.2.2.2.2.2.2.2;refine⟨m,km,_,rfl,ak,show QU _ _ _ _ _ _ _ _ from⟨v,(HB.trans C).trans z,x8,?_,q',an,?_⟩⟩
     ·have e1:(c++([32]:Q7)).length=c.length+1:=by simp
      have e2:=congrArg List.length H;simp only [List.length_take,a_] at e2;have e3:=aa.1;show l.length<(c++([32]:Q7)).length/\(c++([32]:Q7)).length<=_;omega
     ·refine Pl.Q.trans ?_ HQ;have ht:=Pl.MK HP.KV an;have h1:=H.app (Pl.tl W.pairs q.2);rw [F,ht] at h1;rw [F,ht];show Pl.Q ((c++[32])++_) _;simpa using h1
    case measure =>
     have hr:m+1<=j:=by have:=u.2.2.1;rw [F] at this;exact this
     show s.pb.idxOf km<s.pb.idxOf g;rw [UC Z.nodup ak,UC Z.nodup HJ.out];omega
   ·have HE:=(hy.QP Z.NH)
    have ao:=h_ al;clear t hx hy Q d hQ M h o B R S O P al
    go_upto_region 7 with(first
     | (go_at_call 217;refine Calls.mono HF ?_;rintro e N ⟨rfl,rfl⟩)
     | (refine Calls.mono HC ?_;rintro e E ⟨rfl,C,c,G,H,am⟩;have ab:E.cell? ⟨g,1,none⟩=some (.iface T2 x2):=(C.cell (p:=⟨g,1,none⟩) u.2.2.2.2.2.2.1).trans x1))
    have X:c.length<=510+min (201-l.length) (i+1):=by have:=u.2.1;have:=u.2.2.2.2.2.1;have:=u.2.2.2.2.2.2.2;have:=aa.1;omega
    have I:Hid (Q2 217 #[Q0 b] E fun e N=>e=.returned (.bool (decide (200<c.length)))/\E=N):=uZ E b c G x8;have U:Hid (Pl.Q (c++Pl.tl W.pairs q.2) (l++Pl.text W.pairs (.pair i))):=show Pl.Q _ _ from Pl.Q.trans (by simpa using H.app (Pl.tl W.pairs q.2)) HQ;have ac:=h_ (HB.trans C);have ad:=h_ G;have ax:=h_ X;clear G C H am X HC x0 x1 aj V av;by_cases ae:200<c.length
    ·have af:decide (200<c.length)=true:=by simpa using ae
     rw [af] at I;have HX:Hid (J1 W w b l (.pair i) (.returned (.tuple #[])) E):=⟨rfl,ac,c,ad,(by have:=(Pl.Q.long (a:=c) [] (Pl.tl W.pairs q.2) ae).trans U;simpa using this),by have:=ax.out;simp only [Pl.B7];omega⟩
     go_wp2_with (go_at_call 217;refine Calls.mono I ?_;rintro e N ⟨rfl,rfl⟩)
     go_end0
     exact HX
    ·have af:decide (200<c.length)=false:=by simpa using ae
     rw [af] at I;have J:Hid (c.length<=200):=show c.length<=200 from by omega
     have K:=neq_of (HE E);by_cases L:q.2=.empty
     ·rw [L] at K U;have Y:(binOp .neq 113 (.iface T2 x2) (.iface 271 (.agg #[]))).run prog E=.ok (.bool false) E:=K;clear K L HE
      go_wp2_with (first
       | (go_at_call 217;refine Calls.mono I ?_;rintro e N ⟨rfl,rfl⟩)
       | (go_at_call 255;refine(jI _ b c _ ad (by have:=J.out;show c.length+1<=_;omega)).mono ?_;rintro e w3 ⟨rfl,v,z⟩))
      go_end0
      exact⟨rfl,ac.trans z,_,v,U,by have:=J.out;show(c++([41]:Q7)).length<=_;simp only [a_,c_,z_,Pl.B7];omega⟩
     ·have Y:(binOp .neq 113 (.iface T2 x2) (.iface 271 (.agg #[]))).run prog E=.ok (.bool true) E:=by rw [K];simp [L]
      have ap:=Pl.QF W.pairs q.2 ao L
      have aq:Pl.B7 q.2=0:=by
       cases ay:q.2 with
       | pair k=>exact absurd ay (ao k)
       | _=>rfl
      have HR:Hid (Pl.tl W.pairs q.2=[32,46,32]++Pl.text W.pairs q.2++[41]/\Pl.B7 q.2=0):=⟨ap,aq⟩
      clear K L HE ap aq
      go_upto_region 10 with(first
       | (go_at_call 217;refine Calls.mono I ?_;rintro e N ⟨rfl,rfl⟩)
       | (go_at_call 255;refine(jI _ b c _ ad (by have:=J.out;show c.length+3<=_;omega)).mono ?_;rintro e w3 ⟨rfl,v,z⟩))
      have bm:=h_ v;have ar:=h_ (ac.trans z);obtain⟨T3,x3,f3,bn,e3,az,ag,A⟩:=HS.out w3 (c++[32,46,32]) _ q.2 v (Z.below ar.below) u.2.2.2.1 u.1 (by rw [HR.2];exact Nat.zero_le _) (by have:=J.out;simp only [a_,c_,z_];omega);simp only [Value.iface.injEq] at e3;obtain⟨rfl,rfl⟩:=e3;unfold Enters at ag;have ba:=h_ A;have bo:w3.cell? ⟨g,1,none⟩=some (.iface T2 x2):=(z.cell (p:=⟨g,1,none⟩) u.2.2.2.2.2.2.1).trans ab;clear A v z ab Y
      go_wp2_with (first
       | (go_at_call 255;refine(jI _ b l4 _ bb (by have:=au.out;show l4.length+1<=_;omega)).mono ?_;rintro e w5 ⟨rfl,bc,bd⟩)
       | (refine Calls.mono ba ?_;rintro e w4 ⟨rfl,be,l4,bf,bg,bh⟩;have bb:=h_ bf;have au:Hid (l4.length<=503):=show l4.length<=503 from(by have:=J.out;have:=HR.2;simp only [a_,c_,z_] at bh;omega)))
      go_end0
      refine⟨rfl,(ar.trans be).trans bd,_,bc,?_,by have:=au.out;show(l4++([41]:Q7)).length<=_;simp only [a_,c_,z_,Pl.B7];omega⟩;refine Pl.Q.trans ?_ U;rw [HR.1];have:=bg.app [41];show Pl.Q (l4++[41]) _;simpa using this
theorem uP(W:PW)(j:OU W)(s:Sg)(b:Nat):∀n,VA W s b n
 | 0=>fun w l v p a c d g h f=>tR W s b w l v p a c d g f (fun i e=>by subst e;simp [Pl.B7] at h)
 | n+1=>fun w l v p a c d g h f=>by
  by_cases m:∃i,p=.pair i
  ·obtain⟨i,rfl⟩:=m
   cases d with
   | pair _ k o=>exact⟨_,_,_,_,rfl,Tryz.WH k w,Tryz.UL,yH W j s b n (uP W j s b n) w l i k a c o (by simp only [Pl.B7] at h;omega) f⟩
  ·exact tR W s b w l v p a c d g f (fun i e=>m ⟨i,e⟩)
theorem txt_new(w:World):A6 (w.alloc (.cells #[.slice none 0 0] L3)) w.heap.size []:=⟨_,heap_alloc_new w _,World.ownsRow_nil _ _ _ _⟩
theorem hH(W:PW)(n:OU W)(s:Sg)(w:World)(v:Value)(p:PV)(o:QB w s W.pairs w.heap.size)(q:RV s v p)(r:BL W p) :Q2 182 #[v] w fun e t=>e=.returned (.string ⟨(Pl.cut (Pl.text W.pairs p)).toArray⟩)/\Q3 w t:=by
 have d:Q3 w (w.alloc (.cells #[.slice none 0 0] L3)):=cX w _ _ n_;obtain⟨T,x,f,z,rfl,b,c,a⟩:=uP W n s w.heap.size (Pl.B7 p) _ [] v p (txt_new w) (o.below d) q r n_ w9;have u:=h_ d;have y:=h_ a;unfold Enters at c;unfold L3 at b;clear a o q r d n;go_enter func182,ntmps182
 go_wp2_with (first
  | (go_at_call 195;refine(JT _ _ g h i).mono ?_;rintro e A ⟨rfl,rfl⟩)
  | (refine Calls.mono y ?_;rintro e B ⟨rfl,j,g,k,l,m⟩;have h:=h_ k;have i:Hid (g.length<=140000000000000):=show g.length<=_ from(by simp only [z_] at m;omega)))
 go_ret;exact⟨by rw [l.cut];rfl,u.trans j.below⟩
def EH(w:World):Prop:=∀(k:Nat)(nm:AE),AO[k]?=some nm->k<12->w.cell? ⟨0,k*2,none⟩=some (.string ⟨nm.toArray⟩)/\w.cell? ⟨0,k*2+1,none⟩=some (Q1 (arity nm:Nat))
theorem gR(nm:Q8)(n:Nat)(f:Option Addr)(a b:Nat)(w:World)(j:n<=1000000000)(k:nm.size<=1000) :Q2 219 #[.string nm,Q1 n,.slice f a b] w fun e c=>w=c/\((a=n/\e=.returned .nilIface)\/(a≠n/\∃g,e=.returned (aY g 10))):=by
 by_cases h:a=n
 ·subst h;go_enter func219,ntmps219;go_wp2_with fail;go_ret;exact⟨rfl,.inl ⟨trivial,rfl⟩⟩
 ·have i:((a:Int)!=(n:Int))=true:=by simp;omega
  have d:((a:Int)==(n:Int))=false:=by simp;omega
  go_enter func219,ntmps219
  go_wp2_with (go_at_call 47;refine(bJ _ _ _).mono ?_;rintro e c ⟨rfl,rfl⟩)
  go_ret;exact⟨rfl,.inr ⟨h,_,rfl⟩⟩
theorem lQ{nm:AE}(h:nm∈AO):nm.length<=10:=by
 have:∀x∈AO,x.length<=10:=by decide
 exact this nm h
theorem dD(k:Nat)(nm:AE)(a:Int)(w:World)(hp:EH w)(b:AO[k]?=some nm)(c:k<12) :Q2 247 #[Q1 k,Q1 a] w fun e d=>w=d/\∃f,e=.returned (aY f a):=by
 obtain⟨g,_⟩:=hp k nm b c;have h:=lQ (q_ b);have i:(0:Int)<=(k:Int):=by omega
 have j:(k:Int)<12:=by omega
 clear hp b;go_enter func247,ntmps247;go_wp2_with (go_at_call 47;refine(bJ _ _ _).mono ?_;rintro e d ⟨rfl,rfl⟩);go_ret;exact⟨rfl,_,rfl⟩
theorem uS(n:Int)(w:World)(b:n.natAbs<=4611686018427387904):Q2 250 #[Q1 n] w fun e a=>w=a/\e=.returned (Q1 n.natAbs):=by
 have c:wrap64 (-n)=-n:=by unfold wrap64;omega
 go_enter func250,ntmps250
 go_wp2_with fail
 go_ret;exact⟨rfl,congrArg (fun x=>Ending.returned (Q1 x)) (show max n (-n)=_ from by omega)⟩
theorem K1(n:Int):decide ((n.natAbs:Int)<=1099511627776)=decide (n.natAbs<=Pl.CG):=by rw [decide_eq_decide];unfold Pl.CG;omega
theorem uV(x y:Int)(w:World)(b:x.natAbs<=Pl.CG)(c:y.natAbs<=Pl.CG):Q2 249 #[Q1 0,Q1 x,Q1 y] w fun e a=>w=a/\e=.returned (.tuple #[Q1 (x+y),.bool (decide ((x+y).natAbs<=Pl.CG))]):=by
 have d:=K1 (x+y);unfold Pl.CG at b c;have f:wrap64 (x+y)=x+y:=by unfold wrap64;omega
 exact zG7
theorem uT(x y:Int)(w:World)(b:x.natAbs<=Pl.CG)(c:y.natAbs<=Pl.CG):Q2 249 #[Q1 1,Q1 x,Q1 y] w fun e a=>w=a/\e=.returned (.tuple #[Q1 (x-y),.bool (decide ((x-y).natAbs<=Pl.CG))]):=by
 have d:=K1 (x-y);unfold Pl.CG at b c;have f:wrap64 (x-y)=x-y:=by unfold wrap64;omega
 exact zG7
theorem zQ(x y:Int)(b:x≠0):decide ((y.natAbs:Int)<=1099511627776 / (x.natAbs:Int))=decide ((x*y).natAbs<=Pl.CG):=by
 rw [decide_eq_decide];have a:(0:Int)<(x.natAbs:Int):=by omega
 rw [Int.le_ediv_iff_mul_le a,Int.natAbs_mul];unfold Pl.CG;constructor
 ·intro h;have:((y.natAbs*x.natAbs:Nat):Int)<=1099511627776:=by simpa using h
  rw [Nat.mul_comm];omega
 ·intro h;have:((x.natAbs*y.natAbs:Nat):Int)<=1099511627776:=by omega
  rw [Nat.mul_comm] at this;simpa using this
theorem uU(x y:Int)(w:World)(g:x.natAbs<=Pl.CG)(i:y.natAbs<=Pl.CG):Q2 249 #[Q1 2,Q1 x,Q1 y] w fun e c=>Q3 w c/\∃r,((x*y).natAbs<=Pl.CG->r=x*y)/\e=.returned (.tuple #[Q1 r,.bool (decide ((x*y).natAbs<=Pl.CG))]):=by
 have j:(x*y).natAbs<=Pl.CG->IntKind.i64.wrap (x*y)=x*y:=fun h=>by rw [IntKind.wrap_i64];unfold Pl.CG at h;omega
 unfold Pl.CG at g i;by_cases b:x=0
 ·subst b;have d:(0:Int)*y=0:=by omega
  have k:decide (((0:Int)*y).natAbs<=Pl.CG)=true:=by rw [d];rfl
  go_enter func249,ntmps249
  go_wp2_with fail
  go_region
  all_goals
   go_wp2_with fail
   go_ret2;exact⟨r_.drew,0,fun _=>d.symm,by rw [k];rfl⟩
 ·have m:(x==0)=false:=by simpa using b
  have f:=zQ x y b;have n:(x.natAbs:Int)≠0:=by omega
  have a:IntKind.i64.wrap (Int.tdiv 1099511627776 (x.natAbs:Int))=1099511627776 / (x.natAbs:Int):=by rw [IntKind.wrap_i64,Int.tdiv_eq_ediv_of_nonneg w8];have o:1099511627776 / (x.natAbs:Int)<=1099511627776:=Int.ediv_le_self _ w8;have p:0<=1099511627776 / (x.natAbs:Int):=Int.ediv_nonneg w8 x8;omega
  have l:decide ((y.natAbs:Int)<=IntKind.i64.wrap (Int.tdiv 1099511627776 (x.natAbs:Int)))=decide ((x*y).natAbs<=Pl.CG):=by rw [a];exact f
  clear a f;go_enter func249,ntmps249;go_wp2_with fail;go_region_with (go_at_call 250;refine(uS _ _ x8).mono ?_;rintro e c ⟨rfl,rfl⟩)
  all_goals
   go_wp2_with fail
   go_ret2;refine⟨r_.drew,_,j,?_⟩
   go_simp
end
section
open Go.RowKit Go.Maps
variable {w w':World} {M M':Q5} {s:Sg} {bs:List Nat} {b:Nat}
def FD(M:Q5)(w:World)(s:Sg)(v:Value)(l:List PV):Prop:=∃us,Sl M w B9 1 v us.length us/\BY (RV s) us l
theorem FD.go{t:Sg}(a:Stp M w M' w')(l:Sg.Le s t){v:Value}{fs:List PV}(h:FD M w s v fs):FD M' w' t v fs:=by obtain⟨b,c,d⟩:=h;exact⟨b,c.AQ a,d.mono (fun _ _ x=>x.le l)⟩
structure OW{α:Type}(R:Nat->α->Prop)(bs:List Nat)(l:List α):Prop where
 len:bs.length=l.length
 nodup:bs.Nodup
 at_:∀(i b:Nat)(x:α),bs[i]?=some b->l[i]?=some x->R b x
theorem OW.mono{α:Type}{R Q:Nat->α->Prop}{l:List α}(h:OW R bs l)(a:∀b x,R b x->Q b x):OW Q bs l:=⟨h.len,h.nodup,fun i b x c d=>a b x (h.at_ i b x c d)⟩
theorem OW.push{α:Type}{R:Nat->α->Prop}{l:List α}(h:OW R bs l){x:α}(g:R b x)(j:b∉bs):OW R (bs++[b]) (l++[x]):=by
 refine⟨by simp [h.len],?_,?_⟩
 ·rw [List.nodup_append];refine⟨h.nodup,w9,?_⟩;rintro a k c d;rintro rfl;simp at d;subst d;exact j k
 ·intro i c y d e;rcases Nat.lt_or_ge i bs.length with f | f
  ·rw [List.getElem?_append_left f] at d;rw [List.getElem?_append_left (by rw [<- h.len];exact f)] at e;exact h.at_ i c y d e
  ·rw [List.getElem?_append_right f] at d;rw [List.getElem?_append_right (by rw [<- h.len];exact f),<-h.len] at e;have m:=(s_ d).1;have n:i-bs.length=0:=by simp at m;omega
   rw [n] at d e;simp at d e;subst d e;exact g
theorem OW.get{α:Type}{R:Nat->α->Prop}{l:List α}(h:OW R bs l){i:Nat}(a:bs[i]?=some b):∃x,l[i]?=some x/\R b x:=by have d:=(s_ a).1;have c:=g_ (l:=l) (i:=i) (by rw [<- h.len];exact d);exact⟨_,c,h.at_ i b _ a c⟩
structure CM(M:Q5)(w:World)(s:Sg)(pl:List PV):Prop where
 len:s.lp.length=pl.length
 inj:∀(i j:Nat)(c:Nat×Nat),s.lp[i]?=some (some c)->s.lp[j]?=some (some c)->i=j
 at_:∀(i g o:Nat)(p:PV),s.lp[i]?=some (some (g,o))->pl[i]?=some p->M g/\∃cur v,w.heap[g]?=some (.cells cur B9 (0,0))/\cur[o]?=some v/\RV s v p
def heldE(v:Value):Option (DataW Value×List MemPlace):=some (.held v,[])
structure Mv(M:Q5)(w:World)(M':Q5)(w':World):Prop where
 AQ:Stp M w M' w'
 keep:∀k,k<w.heap.size->M k->M' k/\(w'.heap[k]?=w.heap[k]? \/ ∃cur e fz,w.heap[k]?=some (.cells cur e fz)/\e≠B9)
 lt:(∀k,M k->k<w.heap.size)->∀k,M' k->k<w'.heap.size
def Mn(M:Q5)(X:Q5)(k:Nat):Prop:=M k\/X k
theorem CM.mv{pl:List PV}(h:CM M w s pl)(f:Mv M w M' w'):CM M' w' s pl :=
 ⟨h.len,h.inj,fun i g o p j k=>by
  obtain⟨l,b,v,c,m,n⟩:=h.at_ i g o p j k;obtain⟨q,a⟩:=f.keep g (aB c) l;rcases a with a | ⟨d,e,t,a,r⟩
  ·exact⟨q,b,v,a.trans c,m,n⟩
  ·rw [c] at a;simp only [o_,Obj.cells.injEq] at a
   exact absurd a.2.1.symm r⟩
theorem CM.le{t:Sg}{pl:List PV}(h:CM M w s pl)(l:Sg.Le s t)(hp:t.lp=s.lp):CM M w t pl :=
 ⟨by rw [hp];exact h.len,by rw [hp];exact h.inj,fun i g o p b c=>by
  rw [hp] at b;obtain⟨d,a,v,e,f,j⟩:=h.at_ i g o p b c
  exact⟨d,a,v,e,f,j.le l⟩⟩
theorem bY(h:Gs w M)(b:Stp M w M' w'){k o:Nat}(a:k<8):w'.cell? ⟨k,o,none⟩=w.cell? ⟨k,o,none⟩:=World.cell?_of_block (w:=w) (b.block k (l_ a h.size) (h.low k a)).1
theorem jN:0<8:=by decide
theorem kT:1<8:=by decide
theorem kU:6<8:=by decide
theorem EH.AQ(h:EH w)(b:Gs w M)(c:Stp M w M' w'):EH w':=fun k d e a=>by rw [bY b c jN,bY b c jN];exact h k d e a
theorem DE(d:Mv M w M' w'){f:Array MapEntry}{c:Nat}(a:w.heap[b]?=some (.map f c))(g:M b):w'.heap[b]?=w.heap[b]? := by
 rcases(d.keep b (aB a) g).2 with h | ⟨i,e,j,h,_⟩
 ·exact h
 ·rw [a] at h;simp at h
theorem IW.F6{tb mb:Nat}{ns:Q6}(h:IW w tb mb ns):∃a c,w.heap[mb]?=some (.map a c):=by obtain⟨D,⟨a,c,b,_⟩,_⟩:=h.map;exact⟨a,c,b⟩
theorem BM.mv{tb mb:Nat}{ps:List (PV×PV)}(h:BM M w s tb mb ps)(a:Mv M w M' w'):BM M' w' s tb mb ps:=by obtain⟨f,c,b⟩:=h.B3.F6;obtain⟨d,e⟩:=a.AQ.block tb h.B3.lt.1 h.JJ;exact⟨h.B3.keep d (DE a b h.FV),h.pairs.AQ a.AQ,(a.keep mb h.B3.lt.2 h.FV).1,e,a.lt h.mlt⟩
def DS(M:Q5)(w:World)(v:Value)(l:AE):Prop:=w.ownsRow 0 JM 1 v l.length (byCells l)/\∀g,v.ownBlock=some g->M g
end
open Pl (PS SR A2 B0 BH A4 BA BR BW IA CS C8 DN DY DW A7 AU)
section
open Go.RowKit Go.Lib
variable {a b i k:Nat} {ca cb:Array Value} {ta tb:TypeId} {t:AE} {w:World}
theorem cV{l:List AE}(a:l.Nodup)(h:l[i]?=some t):l.idxOf t=i:=by obtain⟨b,rfl⟩:=s_ h;exact a.idxOf_getElem i b
theorem eN:∀(c:List AE)(a:Nat)(b:AE),b∉c->Pl.find (Pl.C1 c a) b=none
 | [],_,_,_=>rfl
 | x::r,a,b,h=>by simp only [List.mem_cons,not_or] at h;simp only [Pl.C1,Pl.find,eN r (a+1) b h.2];rw [if_neg (fun e=>h.1 e.symm)]
theorem n9:∀(d:List AE)(a i:Nat)(b:AE),d.Nodup->d[i]?=some b->Pl.find (Pl.C1 d a) b=some (a+i)
 | [],_,_,_,_,h=>by simp at h
 | x::r,a,0,b,c,h=>by simp only [List.getElem?_cons_zero,o_] at h;subst h;simp only [List.nodup_cons] at c;simp only [Pl.C1,Pl.find,eN r (a+1) x c.1];simp
 | x::r,a,i+1,b,c,h=>by
  simp only [List.getElem?_cons_succ] at h;simp only [List.nodup_cons] at c;simp only [Pl.C1,Pl.find,n9 r (a+1) i b c.2 h]
  congr 1
  omega
theorem X0{M:Q5}{f:Option Addr}{n cap:Nat}{ns:List AE}{ks:List Nat}(h:Sl M w B6 2 (.slice f n cap) ns.length (nmRow ns ks))(l:ns[i]?=some t)(o:ks[i]?=some k) :∃g a,f=some ⟨g,a,none⟩/\g<w.heap.size/\n=ns.length/\ns.length<=cap/\w.cell? ⟨g,a+i*2,none⟩=some (.string ⟨t.toArray⟩)/\w.cell? ⟨g,a+i*2+1,none⟩=some (Q1 k):=by
 obtain⟨_,q,m,e,r,s⟩:=h;simp only [Value.slice.injEq] at e;obtain⟨rfl,rfl,rfl⟩:=e;have y:=(s_ l).1;rcases s with z | ⟨g,a,u,rfl,_,d,b⟩
 ·omega
 ·have v:(List.zip ns ks)[i]?=some (t,k):=by rw [List.getElem?_zip_eq_some];exact⟨l,o⟩
  have c:∀j,j<2->(nmRow ns ks)[i*2+j]?=(gU t k)[j]? := fun j x=>by unfold nmRow;exact aX (fun p=>gU p.1 p.2) 2 (fun _=>rfl) _ i j (t,k) v x
  refine⟨g,a,rfl,aB d,rfl,r,?_,?_⟩
  ·rw [aA d];exact b (i*2) _ (c 0 w8)
  ·rw [Nat.add_assoc,aA d];exact b (i*2+1) _ (c 1 w8)
def GZ(W:PW)(s:Sg)(r:PS->SR)(e:Ending):Prop :=(∃v q,e=.returned (.tuple #[v,.nilIface])/\RV s v q/\∀S,r S=⟨0,W,S.A1 q⟩)\/(∃es,∃c:Nat,c≠0/\e=.returned (.tuple #[.nilIface,aY es c])/\∀S,r S=⟨c,W,S⟩)
theorem uY(M:Q5)(w:World)(s:Sg)(W:PW)(v:Value)(p:PV)(hp:EH w)(d:BD M w s W.pairs)(f:IS s)(g:RV s v p):Q2 241 #[Q1 6,v] w fun e c=>w=c/\GZ W s (fun S=>B0 W S DN p) e:=by
 have h:Hid (∀a c,EH c->Q2 247 #[Q1 6,Q1 a] c fun e z=>c=z/\∃j,e=.returned (aY j a)):=fun a c hp=>dD 6 DN a c hp rfl w8;have k:=h_ hp;have A:=@fC 272;rcases g.MZ f with⟨i,b,rfl,l,rfl⟩ | ⟨u,T,x,rfl,B⟩
 ·obtain⟨q,m⟩:∃q,W.pairs[i]?=some q:=⟨_,g_ (by rw [<- d.len];exact(s_ l).1)⟩
  obtain⟨_,x,y,n,o,r⟩:=d.at_ i b q l m;have D:w.cell? ⟨b,0,none⟩=some x:=aA n 0;have E:w.cell? ⟨b,1,none⟩=some y:=aA n 1;have t:Hid (∀S,B0 W S DN (.pair i)=⟨0,W,S.A1 q.1⟩):=fun S=>by unfold B0;rw [if_neg (show ¬DN=A7 from by decide),if_pos (Or.inl rfl)];dsimp only;rw [m];dsimp only;rw [if_neg (show ¬DN=C8 from by decide)]
  have C:Hid (RV s x q.1/\RV s y q.2):=⟨o,r⟩
  obtain⟨F,G,rfl⟩:=o.iface;obtain⟨H,I,rfl⟩:=r.iface;clear hp d f g n m l o r;go_enter func241,ntmps241;go_wp2_with fail;go_ret2;exact⟨rfl,.inl ⟨_,_,rfl,C.1,t⟩⟩
 ·have t:Hid (∀S,B0 W S DN p=⟨9,W,S⟩):=fun S=>by
   unfold B0;rw [if_neg (show ¬DN=A7 from by decide),if_pos (Or.inl rfl)]
   cases p with
   | pair i=>exact absurd rfl (u i)
   | _=>rfl
  exact zG5
theorem uX(M:Q5)(w:World)(s:Sg)(W:PW)(v:Value)(p:PV)(hp:EH w)(d:BD M w s W.pairs)(f:IS s)(g:RV s v p):Q2 241 #[Q1 7,v] w fun e c=>w=c/\GZ W s (fun S=>B0 W S C8 p) e:=by
 have h:Hid (∀a c,EH c->Q2 247 #[Q1 7,Q1 a] c fun e z=>c=z/\∃j,e=.returned (aY j a)):=fun a c hp=>dD 7 C8 a c hp rfl w8;have k:=h_ hp;have A:=@fC 272;rcases g.MZ f with⟨i,b,rfl,l,rfl⟩ | ⟨u,T,x,rfl,B⟩
 ·obtain⟨q,m⟩:∃q,W.pairs[i]?=some q:=⟨_,g_ (by rw [<- d.len];exact(s_ l).1)⟩
  obtain⟨_,x,y,n,o,r⟩:=d.at_ i b q l m;have D:w.cell? ⟨b,0,none⟩=some x:=aA n 0;have E:w.cell? ⟨b,1,none⟩=some y:=aA n 1;have t:Hid (∀S,B0 W S C8 (.pair i)=⟨0,W,S.A1 q.2⟩):=fun S=>by unfold B0;rw [if_neg (show ¬C8=A7 from by decide),if_pos (Or.inr rfl)];dsimp only;rw [m];dsimp only;rw [if_pos rfl]
  have C:Hid (RV s x q.1/\RV s y q.2):=⟨o,r⟩
  obtain⟨F,G,rfl⟩:=o.iface;obtain⟨H,I,rfl⟩:=r.iface;clear hp d f g n m l o r;go_enter func241,ntmps241;go_wp2_with fail;go_ret2;exact⟨rfl,.inl ⟨_,_,rfl,C.2,t⟩⟩
 ·have t:Hid (∀S,B0 W S C8 p=⟨9,W,S⟩):=fun S=>by
   unfold B0;rw [if_neg (show ¬C8=A7 from by decide),if_pos (Or.inr rfl)]
   cases p with
   | pair i=>exact absurd rfl (u i)
   | _=>rfl
  exact zG5
theorem fX(k:Int)(nm:AE)(w:World)(s:Sg)(W:PW)(u v:Value)(a b:PV)(hp:EH w)(j:IS s)(n:RV s u a)(l:RV s v b)(c:¬((∃x,a=.num x)/\∃y,b=.num y))(z:∀d f,EH f->Q2 247 #[Q1 k,Q1 d] f fun e C=>f=C/\∃g,e=.returned (aY g d))(p:¬nm=CS/\¬nm=BR):Q2 243 #[Q1 k,u,v] w fun e f=>Q3 w f/\GZ W s (fun S=>A2 W S nm a b) e:=by
 have h:=h_ z;have i:=h_ hp;have D:=@fC 237
 have q:Hid (∀S,A2 W S nm a b=⟨9,W,S⟩):=fun S=>by
  have o:A2 W S nm a b=Pl.reckon W S nm a b:=(if_neg p.1).trans (if_neg p.2);rw [o];unfold Pl.reckon;split
  ·rename_i x y;exact absurd ⟨⟨x,rfl⟩,⟨y,rfl⟩⟩ c
  ·rfl
 clear z p;rcases n.U5 j with⟨x,A,rfl⟩ | ⟨o,G,H,rfl,B⟩
 ·rcases l.U5 j with⟨y,r,rfl⟩ | ⟨t,E,F,rfl,m⟩
  ·exact absurd ⟨⟨x,A⟩,⟨y,r⟩⟩ c
  ·clear n l A t c;exact zG0
 ·rcases l.U5 j with⟨y,r,rfl⟩ | ⟨t,E,F,rfl,m⟩
  ·clear n l r o c;exact zG0
  ·clear n l o t c;exact zG0
theorem yQ(w:World)(s:Sg)(W:PW)(u v:Value)(a b:PV)(hp:EH w)(g:IS s)(h:RV s u a)(i:RV s v b)(d:¬((∃x,a=.num x)/\∃y,b=.num y)):Q2 243 #[Q1 0,u,v] w fun e f=>Q3 w f/\GZ W s (fun S=>A2 W S BH a b) e :=fX 0 BH w s W u v a b hp g h i d (fun c f hp=>dD 0 BH c f hp rfl w8) w8
theorem yP(w:World)(s:Sg)(W:PW)(u v:Value)(a b:PV)(hp:EH w)(g:IS s)(h:RV s u a)(i:RV s v b)(d:¬((∃x,a=.num x)/\∃y,b=.num y)):Q2 243 #[Q1 1,u,v] w fun e f=>Q3 w f/\GZ W s (fun S=>A2 W S A4 a b) e :=fX 1 A4 w s W u v a b hp g h i d (fun c f hp=>dD 1 A4 c f hp rfl w8) w8
theorem yO(w:World)(s:Sg)(W:PW)(u v:Value)(a b:PV)(hp:EH w)(g:IS s)(h:RV s u a)(i:RV s v b)(d:¬((∃x,a=.num x)/\∃y,b=.num y)):Q2 243 #[Q1 2,u,v] w fun e f=>Q3 w f/\GZ W s (fun S=>A2 W S BA a b) e :=fX 2 BA w s W u v a b hp g h i d (fun c f hp=>dD 2 BA c f hp rfl w8) w8
theorem yN(w:World)(s:Sg)(W:PW)(u v:Value)(a b:PV)(hp:EH w)(g:IS s)(h:RV s u a)(i:RV s v b)(d:¬((∃x,a=.num x)/\∃y,b=.num y)):Q2 243 #[Q1 3,u,v] w fun e f=>Q3 w f/\GZ W s (fun S=>A2 W S BW a b) e :=fX 3 BW w s W u v a b hp g h i d (fun c f hp=>dD 3 BW c f hp rfl w8) w8
theorem yM(w:World)(s:Sg)(W:PW)(u v:Value)(a b:PV)(hp:EH w)(g:IS s)(h:RV s u a)(i:RV s v b)(d:¬((∃x,a=.num x)/\∃y,b=.num y)):Q2 243 #[Q1 4,u,v] w fun e f=>Q3 w f/\GZ W s (fun S=>A2 W S IA a b) e :=fX 4 IA w s W u v a b hp g h i d (fun c f hp=>dD 4 IA c f hp rfl w8) w8
theorem m9(w:World)(s:Sg)(W:PW)(x y:Int):Q2 243 #[Q1 3,.iface 237 (.int .i64 x),.iface 237 (.int .i64 y)] w fun e a=>Q3 w a/\GZ W s (fun S=>A2 W S BW (.num x) (.num y)) e:=by
 have b:=@fC 237;go_enter func243,ntmps243;go_wp2_with fail;go_ret2
 exact⟨r_,.inl ⟨_,.AT (decide (x<y)),rfl,.AT _,fun S=>by
  show A2 W S BW (.num x) (.num y)=_;unfold A2 Pl.reckon;rw [if_neg (show ¬BW=CS from by decide),if_neg (show ¬BW=BR from by decide)];dsimp only
  rw [if_pos rfl]⟩⟩
theorem m8(w:World)(s:Sg)(W:PW)(x y:Int):Q2 243 #[Q1 4,.iface 237 (.int .i64 x),.iface 237 (.int .i64 y)] w fun e a=>Q3 w a/\GZ W s (fun S=>A2 W S IA (.num x) (.num y)) e:=by
 have b:=@fC 237;go_enter func243,ntmps243;go_wp2_with fail;go_ret2
 exact⟨r_,.inl ⟨_,.AT (decide (x=y)),rfl,.AT _,fun S=>by
  show A2 W S IA (.num x) (.num y)=_;unfold A2 Pl.reckon;rw [if_neg (show ¬IA=CS from by decide),if_neg (show ¬IA=BR from by decide)];dsimp only
  rw [if_neg (show ¬IA=BW from by decide),if_pos rfl]⟩⟩
theorem nC(w:World)(s:Sg)(W:PW)(x y:Int)(hp:EH w)(h:x.natAbs<=Pl.CG)(i:y.natAbs<=Pl.CG):Q2 243 #[Q1 0,.iface 237 (.int .i64 x),.iface 237 (.int .i64 y)] w fun e a=>Q3 w a/\GZ W s (fun S=>A2 W S BH (.num x) (.num y)) e:=by
 have j:Hid (∀b a,EH a->Q2 247 #[Q1 0,Q1 b] a fun e p=>a=p/\∃l,e=.returned (aY l b)):=fun b a hp=>dD 0 BH b a hp rfl w8;have u:=h_ hp;have v:=@fC 237;have d:Hid (Q2 249 #[Q1 0,Q1 x,Q1 y] w fun e a=>Q3 w a/\∃r,((x+y).natAbs<=Pl.CG->r=x+y)/\e=.returned (.tuple #[Q1 r,.bool (decide ((x+y).natAbs<=Pl.CG))])):=show Calls _ _ _ _ _ from(uV x y w h i).mono (fun e a ⟨A,B⟩=>⟨by subst A;exact r_,_,fun _=>rfl,B⟩);have q:Hid (∀S,A2 W S BH (.num x) (.num y)=if(x+y).natAbs<=Pl.CG then⟨0,W,S.A1 (.num (x+y))⟩ else⟨11,W,S⟩):=fun S=>by unfold A2 Pl.reckon;rw [if_neg (show ¬BH=CS from by decide),if_neg (show ¬BH=BR from by decide)];dsimp only;rw [if_neg (show ¬BH=BW from by decide),if_neg (show ¬BH=IA from by decide),if_pos rfl]
 have C:Hid (∀a,Q3 w a->EH a):=fun a t k m n c=>by rw [t.cell (World.block_lt_of_cell? _ _ (hp k m n c).1),t.cell (World.block_lt_of_cell? _ _ (hp k m n c).2)];exact hp k m n c
 generalize x+y=z at *;exact zF7
theorem nB(w:World)(s:Sg)(W:PW)(x y:Int)(hp:EH w)(h:x.natAbs<=Pl.CG)(i:y.natAbs<=Pl.CG):Q2 243 #[Q1 1,.iface 237 (.int .i64 x),.iface 237 (.int .i64 y)] w fun e a=>Q3 w a/\GZ W s (fun S=>A2 W S A4 (.num x) (.num y)) e:=by
 have j:Hid (∀b a,EH a->Q2 247 #[Q1 1,Q1 b] a fun e p=>a=p/\∃l,e=.returned (aY l b)):=fun b a hp=>dD 1 A4 b a hp rfl w8;have u:=h_ hp;have v:=@fC 237;have d:Hid (Q2 249 #[Q1 1,Q1 x,Q1 y] w fun e a=>Q3 w a/\∃r,((x-y).natAbs<=Pl.CG->r=x-y)/\e=.returned (.tuple #[Q1 r,.bool (decide ((x-y).natAbs<=Pl.CG))])):=show Calls _ _ _ _ _ from(uT x y w h i).mono (fun e a ⟨A,B⟩=>⟨by subst A;exact r_,_,fun _=>rfl,B⟩);have q:Hid (∀S,A2 W S A4 (.num x) (.num y)=if(x-y).natAbs<=Pl.CG then⟨0,W,S.A1 (.num (x-y))⟩ else⟨11,W,S⟩):=fun S=>by unfold A2 Pl.reckon;rw [if_neg (show ¬A4=CS from by decide),if_neg (show ¬A4=BR from by decide)];dsimp only;rw [if_neg (show ¬A4=BW from by decide),if_neg (show ¬A4=IA from by decide),if_neg (show ¬A4=BH from by decide),if_pos rfl]
 have C:Hid (∀a,Q3 w a->EH a):=fun a t k m n c=>by rw [t.cell (World.block_lt_of_cell? _ _ (hp k m n c).1),t.cell (World.block_lt_of_cell? _ _ (hp k m n c).2)];exact hp k m n c
 generalize x-y=z at *;exact zF7
theorem nA(w:World)(s:Sg)(W:PW)(x y:Int)(hp:EH w)(h:x.natAbs<=Pl.CG)(i:y.natAbs<=Pl.CG):Q2 243 #[Q1 2,.iface 237 (.int .i64 x),.iface 237 (.int .i64 y)] w fun e b=>Q3 w b/\GZ W s (fun S=>A2 W S BA (.num x) (.num y)) e:=by
 have j:Hid (∀a b,EH b->Q2 247 #[Q1 2,Q1 a] b fun e p=>b=p/\∃l,e=.returned (aY l a)):=fun a b hp=>dD 2 BA a b hp rfl w8;have u:=h_ hp;have v:=@fC 237;have d:=h_ (uU x y w h i);have q:Hid (∀S,A2 W S BA (.num x) (.num y)=if(x*y).natAbs<=Pl.CG then⟨0,W,S.A1 (.num (x*y))⟩ else⟨11,W,S⟩):=fun S=>by unfold A2 Pl.reckon;rw [if_neg (show ¬BA=CS from by decide),if_neg (show ¬BA=BR from by decide)];dsimp only;rw [if_neg (show ¬BA=BW from by decide),if_neg (show ¬BA=IA from by decide),if_neg (show ¬BA=BH from by decide),if_neg (show ¬BA=A4 from by decide)]
 have A:Hid (∀b,Q3 w b->EH b):=fun b t k m n c=>by rw [t.cell (World.block_lt_of_cell? _ _ (hp k m n c).1),t.cell (World.block_lt_of_cell? _ _ (hp k m n c).2)];exact hp k m n c
 generalize x*y=z at *;by_cases f:z.natAbs<=Pl.CG
 ·have o:decide (z.natAbs<=Pl.CG)=true:=by simpa using f
  rw [o] at d;clear hp h i;go_enter func243,ntmps243;go_wp2_with (go_at_call 249;refine Calls.mono d ?_;rintro e b ⟨g,r,B,rfl⟩);go_ret2;exact⟨g,.inl ⟨_,.num z,rfl,.num z,fun S=>by have:=q.out S;rw [if_pos f] at this;exact this⟩⟩
 ·have o:decide (z.natAbs<=Pl.CG)=false:=by simpa using f
  rw [o] at d;clear hp h i;go_enter func243,ntmps243
  go_wp2_with (first
   | (go_at_call 249;refine Calls.mono d ?_;rintro e b ⟨g,r,B,rfl⟩)
   | (go_at_call 247;refine(j _ _ (A _ g)).mono ?_;rintro e p ⟨rfl,l,rfl⟩))
  go_ret2;exact⟨g,.inr ⟨l,11,w8,rfl,fun S=>by have:=q.out S;rw [if_neg f] at this;exact this⟩⟩
theorem l7{l:List Nat}(c:l.Nodup){j:Nat}(hi:l[i]?=some a)(d:l[j]?=some b)(h:i≠j):a≠b:=by rintro rfl;obtain⟨e,f⟩:=s_ hi;obtain⟨g,k⟩:=s_ d;subst f;have:=c.idxOf_getElem i e;rw [<- k,c.idxOf_getElem j g] at this;exact h this.symm
theorem Tryz.W7:(prog.info? 272).map (fun i=>i.comparable)=some true:=by kernel_rfl
theorem Tryz.W6:(prog.info? 274).map (fun i=>i.size==0)=some false:=by kernel_rfl
theorem aAH(w:World)(g:w.heap[a]?=some (.cells ca ta (0,0)))(k:w.heap[b]?=some (.cells cb tb (0,0))):(binOp .eql 113 (.iface 272 (Q0 a)) (.iface 272 (Q0 b))).run prog w=.ok (.bool (decide (a=b))) w:=by
 obtain⟨i,c,d⟩:=m_ Tryz.W7;obtain⟨j,f,l⟩:=m_ Tryz.W6;by_cases h:a=b
 ·subst h;rw [run_eql_iface_ptr_same w ⟨a,0,none⟩ underlying113 underlying272 c d f];simp
 ·rw [run_eql_iface_ptr_other w (a:=⟨a,0,none⟩) (b:=⟨b,0,none⟩) underlying113 underlying272 c d f zQ9 (fun e=>h (congrArg Addr.block e)) g k];simp [h]
theorem Tryz.pi_sq:(prog.info? 371).map (fun i=>i.comparable)=some true:=by kernel_rfl
theorem Tryz.pj_sq:(prog.info? 374).map (fun i=>i.size==0)=some false:=by kernel_rfl
theorem eqp_sq(w:World)(g:w.heap[a]?=some (.cells ca ta (0,0)))(k:w.heap[b]?=some (.cells cb tb (0,0))):(binOp .eql 113 (.iface 371 (Q0 a)) (.iface 371 (Q0 b))).run prog w=.ok (.bool (decide (a=b))) w:=by
 obtain⟨i,c,d⟩:=m_ Tryz.pi_sq;obtain⟨j,f,l⟩:=m_ Tryz.pj_sq;exact zG4
theorem Tryz.pi_sc:(prog.info? 384).map (fun i=>i.comparable)=some true:=by kernel_rfl
theorem Tryz.pj_sc:(prog.info? 386).map (fun i=>i.size==0)=some false:=by kernel_rfl
theorem eqp_sc(w:World)(g:w.heap[a]?=some (.cells ca ta (0,0)))(k:w.heap[b]?=some (.cells cb tb (0,0))):(binOp .eql 113 (.iface 384 (Q0 a)) (.iface 384 (Q0 b))).run prog w=.ok (.bool (decide (a=b))) w:=by
 obtain⟨i,c,d⟩:=m_ Tryz.pi_sc;obtain⟨j,f,l⟩:=m_ Tryz.pj_sc;exact zG3
theorem Tryz.pi_fq:(prog.info? 371).map (fun i=>i.comparable)=some true:=by kernel_rfl
theorem Tryz.pj_fq:(prog.info? 374).map (fun i=>i.size==0)=some false:=by kernel_rfl
theorem eqp_fq(w:World)(g:w.heap[a]?=some (.cells ca ta (0,0)))(k:w.heap[b]?=some (.cells cb tb (0,0))):(binOp .eql 113 (.iface 371 (Q0 a)) (.iface 371 (Q0 b))).run prog w=.ok (.bool (decide (a=b))) w:=by
 obtain⟨i,c,d⟩:=m_ Tryz.pi_fq;obtain⟨j,f,l⟩:=m_ Tryz.pj_fq;exact zG4
theorem Tryz.pi_fc:(prog.info? 384).map (fun i=>i.comparable)=some true:=by kernel_rfl
theorem Tryz.pj_fc:(prog.info? 386).map (fun i=>i.size==0)=some false:=by kernel_rfl
theorem eqp_fc(w:World)(g:w.heap[a]?=some (.cells ca ta (0,0)))(k:w.heap[b]?=some (.cells cb tb (0,0))):(binOp .eql 113 (.iface 384 (Q0 a)) (.iface 384 (Q0 b))).run prog w=.ok (.bool (decide (a=b))) w:=by
 obtain⟨i,c,d⟩:=m_ Tryz.pi_fc;obtain⟨j,f,l⟩:=m_ Tryz.pj_fc;exact zG3
theorem qK{j:Nat}(h:AO[k]?=some t)(b:AO[j]?=some t):k=j:=by
 have a:Pl.AO.Nodup:=by decide
 obtain⟨c,d⟩:=s_ h;obtain⟨e,f⟩:=s_ b;subst d;have:=a.idxOf_getElem k c;rw [<- f,a.idxOf_getElem j e] at this;exact this.symm
theorem lR(h:AO[k]?=some AU):k=12:=qK h rfl
theorem IS.ne{s:Sg}(h:IS s):s.tq≠s.tc/\(∀T,T∈[237,239,240,271,242,272,149,146]->s.tq≠T/\s.tc≠T):=by rcases h with⟨a,b⟩ | ⟨a,b⟩<;>rw [a,b]<;>decide
theorem RV.eqv{s:Sg}{u v:Value}{a b:PV}(h:RV s u a)(k:RV s v b){ps:List (PV×PV)}{n:Nat}(l:QB w s ps n):(binOp .eql 113 u v).run prog w=.ok (.bool (decide (a=b))) w:=by
 have c:=l.NH;have r:∀i x,s.pb[i]?=some x->∃G,w.heap[x]?=some (Obj.cells G E0 (0,0)):=fun i x f=>by have H:=(s_ f).1;obtain⟨_,L,M,o,_⟩:=l.pairs i x _ f (g_ (by rw [<- l.len];exact H));exact⟨_,o⟩
 cases h with
 | num n =>
  cases k with
  | num m=>rw [Tryz.eq_num,show decide (Pl.PV.num n=Pl.PV.num m)=(n==m) from by simp only [Pl.PV.num.injEq];rfl]
  | _ =>exact zF6
 | AT x =>
  cases k with
  | AT y=>rw [Tryz.OD];cases x<;>cases y<;>rfl
  | _ =>exact zF6
 | name x =>
  cases k with
  | name y =>
   rw [Tryz.YY]
   have:((⟨x.toArray⟩:Q8)==⟨y.toArray⟩)=decide (Pl.PV.name x=Pl.PV.name y):=by
    by_cases e:x=y
    ·subst e;rw [(Go.MapKept.bytes_beq _ _).2 rfl];simp
    ·rw [show((⟨x.toArray⟩:Q8)==⟨y.toArray⟩)=false from by
      cases I:((⟨x.toArray⟩:Q8)==⟨y.toArray⟩) with
      | false=>rfl
      | true=>exact absurd (by simpa using (Go.MapKept.bytes_beq _ _).1 I) e]
     simp [e]
   rw [this]
  | _ =>exact zF6
 | empty =>
  cases k with
  | empty=>rw [Tryz.eq_empty];rfl
  | _ =>exact zF6
 | nothing =>
  cases k with
  | nothing=>rw [Tryz.PZ];rfl
  | _ =>exact zF6
 | pair i x f =>
  cases k with
  | pair j y d =>
   obtain⟨E,o⟩:=r i x f;obtain⟨F,p⟩:=r j y d;rw [aAH w o p];by_cases e:i=j
   ·subst e;rw [f] at d;simp at d;simp [d]
   ·simp [e,l7 l.nodup f d e]
  | _ =>exact zF6
 | proc i x f z =>
  cases k with
  | proc j y d B =>
   obtain⟨_,E,o⟩:=l.procs i x f z;obtain⟨_,F,p⟩:=l.procs j y d B
   have:decide (x=y)=decide (Pl.PV.proc i=Pl.PV.proc j):=by
    by_cases e:i=j
    ·subst e;rw [f] at d;simp at d;simp [d]
    ·simp [e,show x≠y from fun q=>e (l.qn i j x f (by rw [q];exact d) z)]
   rw [<- this];rcases c with⟨e,_⟩ | ⟨e,_⟩<;>rw [e]
   ·exact eqp_sq w o p
   ·exact eqp_fq w o p
  | _ =>exact zF6
 | cont i x f =>
  cases k with
  | cont j y d =>
   obtain⟨_,E,o⟩:=l.AG i x f;obtain⟨_,F,p⟩:=l.AG j y d
   have:decide (x=y)=decide (Pl.PV.cont i=Pl.PV.cont j):=by
    by_cases e:i=j
    ·subst e;rw [f] at d;simp at d;simp [d]
    ·simp [e,l7 l.cn f d e]
   rw [<- this];rcases c with⟨_,e⟩ | ⟨_,e⟩<;>rw [e]
   ·exact eqp_sc w o p
   ·exact eqp_fc w o p
  | _ =>exact zF6
 | AZ i t C J =>
  cases k with
  | AZ j D g A =>
   rw [Tryz.YX];by_cases e:t=D
   ·subst e;rw [qK C g];simp
   ·have:i≠j:=fun K=>by subst K;rw [C] at g;exact e (i_ g)
    have p:((i:Int)==(j:Int))=false:=beq_eq_false_iff_ne.2 x8;rw [p];simp [e]
  | EC =>
   rw [bD w l5];have:t≠AU:=fun e=>by subst e;have:=lR C;omega
   simp [this]
  | _ =>exact zF6
 | EC =>
  cases k with
  | EC=>rw [Tryz.RN];rfl
  | AZ j D g A =>
   rw [bD w l5];have:AU≠D:=fun e=>by subst e;have:=lR g;omega
   simp [this]
  | _ =>exact zF6
theorem EH.below{w':World}(hp:EH w)(d:Q3 w w'):EH w':=fun k b c a=>by rw [d.cell (World.block_lt_of_cell? _ _ (hp k b c a).1),d.cell (World.block_lt_of_cell? _ _ (hp k b c a).2)];exact hp k b c a
theorem aAP(nm:AE):arity nm<=2:=by unfold arity;split<;>decide
def GC(nm:AE)(n:Nat)(w:World)(ao:Option Addr)(cap:Nat):Prop:=Q2 219 #[.string ⟨nm.toArray⟩,Q1 n,.slice ao n cap] w fun e w'=>w=w'/\e=.returned .nilIface
theorem eE(nm:AE)(d:nm∈AO)(n:Nat)(g:n<=2)(w:World)(c:Option Addr)(a:Nat):GC nm n w c a :=
 (gR ⟨nm.toArray⟩ n c n a w x8 (by have:=lQ d;show nm.toArray.size<=_;simp;omega)).mono (fun e h ⟨f,b⟩=>⟨f,by
  rcases b with⟨_,b⟩ | ⟨b,_⟩
  ·exact b
  ·exact absurd rfl b⟩)
theorem vC(k:Nat)(nm:AE)(w:World)(h:Option Addr)(n b:Nat)(o:Value)(hp:EH w)(i:AO[k]?=some nm)(j:k<12)(d:n≠arity nm) :Q2 235 #[Q1 k,.slice h n b,o] w fun e c=>Q3 w c/\∃f,e=.returned (.tuple #[.nilIface,aY f 10]):=by
 obtain⟨q,r⟩:=hp k nm i j;have a:=q_ i;have s:(0:Int)<=(k:Int):=by omega
 have l:(k:Int)<12:=by omega
 have p:Hid (∀c,Q2 219 #[.string ⟨nm.toArray⟩,Q1 ((arity nm:Nat):Int),.slice h n b] c fun e m=>c=m/\∃f,e=.returned (aY f 10)):=fun c =>
  (gR ⟨nm.toArray⟩ (arity nm) h n b c (by have:=aAP nm;omega) (by have:=lQ a;show nm.toArray.size<=_;simp;omega)).mono (fun e m ⟨l,g⟩=>⟨l,by
   rcases g with⟨g,_⟩ | ⟨_,g⟩
   ·exact absurd g d
   ·exact g⟩)
 clear hp i a d;generalize arity nm=t at *;go_enter func235,ntmps235;go_wp2_with fail;go_region_with (go_at_call 219;refine(p _).mono ?_;rintro e c ⟨rfl,f,rfl⟩;unfold aY)
 all_goals
  go_wp2_with fail
  go_ret2;exact⟨r_.drew,f,rfl⟩
theorem y8(M:Q5)(w:World)(s:Sg)(W:PW)(g b d:Nat)(v q:Value)(p:PV)(hp:EH w)(i:BD M w s W.pairs)(l:IS s)(C:w.cell? ⟨g,b,none⟩=some v)(j:RV s v p) :Q2 235 #[Q1 6,.slice (some ⟨g,b,none⟩) 1 d,q] w fun e a=>Q3 w a/\GZ W s (fun S=>B0 W S DN p) e:=by
 obtain⟨m,n⟩:=hp 6 DN rfl w8;have r:w.cell? ⟨0,6*2,none⟩=some (.string ⟨Pl.DN.toArray⟩):=m;have t:w.cell? ⟨0,6*2+1,none⟩=some (Q1 1):=n;have _:=i;have u:Hid (∀a,GC DN 1 a (some ⟨g,b,none⟩) d):=fun a=>eE DN w8 1 w8 a _ d;clear m n;have y:Hid (∀a,Q3 w a->Q2 241 #[Q1 6,v] a fun e z=>a=z/\GZ W s (fun S=>B0 W S DN p) e):=fun a o=>uY M a s W v p (hp.below o) (i.AQ (Stp.AA o)) l j;exact zF8
theorem p_apply7(M:Q5)(w:World)(s:Sg)(W:PW)(g b d:Nat)(v q:Value)(p:PV)(hp:EH w)(i:BD M w s W.pairs)(l:IS s)(C:w.cell? ⟨g,b,none⟩=some v)(j:RV s v p) :Q2 235 #[Q1 7,.slice (some ⟨g,b,none⟩) 1 d,q] w fun e a=>Q3 w a/\GZ W s (fun S=>B0 W S C8 p) e:=by
 obtain⟨m,n⟩:=hp 7 C8 rfl w8;have r:w.cell? ⟨0,7*2,none⟩=some (.string ⟨Pl.C8.toArray⟩):=m;have t:w.cell? ⟨0,7*2+1,none⟩=some (Q1 1):=n;have _:=i;have u:Hid (∀a,GC C8 1 a (some ⟨g,b,none⟩) d):=fun a=>eE C8 w8 1 w8 a _ d;clear m n;have y:Hid (∀a,Q3 w a->Q2 241 #[Q1 7,v] a fun e z=>a=z/\GZ W s (fun S=>B0 W S C8 p) e):=fun a o=>uX M a s W v p (hp.below o) (i.AQ (Stp.AA o)) l j;exact zF8
theorem p_apply8(M:Q5)(w:World)(s:Sg)(W:PW)(g b c:Nat)(v k:Value)(p:PV)(hp:EH w)(f:BD M w s W.pairs)(h:IS s)(o:w.cell? ⟨g,b,none⟩=some v)(d:RV s v p) :Q2 235 #[Q1 8,.slice (some ⟨g,b,none⟩) 1 c,k] w fun e a=>Q3 w a/\GZ W s (fun S=>B0 W S DY p) e:=by
 obtain⟨i,j⟩:=hp 8 DY rfl w8;have l:w.cell? ⟨0,8*2,none⟩=some (.string ⟨Pl.DY.toArray⟩):=i;have m:w.cell? ⟨0,8*2+1,none⟩=some (Q1 1):=j;have _:=f;have n:Hid (∀a,GC DY 1 a (some ⟨g,b,none⟩) c):=fun a=>eE DY w8 1 w8 a _ c;clear i j;have q:=fun a=>d.QP h a;obtain⟨T,x,rfl⟩:=d.iface;clear hp f h d;go_enter func235,ntmps235;go_wp2_with fail;go_region_with (go_at_call 219;refine Calls.mono (n _) ?_;rintro e a ⟨rfl,rfl⟩)
 all_goals
  go_wp2_with fail
  go_ret2;exact⟨r_.drew,.inl ⟨_,.AT (decide (p=.empty)),rfl,.AT _,fun S=>rfl⟩⟩
theorem yZ(M:Q5)(w:World)(s:Sg)(W:PW)(g a c:Nat)(v o:Value)(p:PV)(hp:EH w)(f:BD M w s W.pairs)(h:IS s)(z:w.cell? ⟨g,a,none⟩=some v)(j:RV s v p) :Q2 235 #[Q1 9,.slice (some ⟨g,a,none⟩) 1 c,o] w fun e d=>Q3 w d/\GZ W s (fun S=>B0 W S DW p) e:=by
 obtain⟨k,l⟩:=hp 9 DW rfl w8;have q:w.cell? ⟨0,9*2,none⟩=some (.string ⟨Pl.DW.toArray⟩):=k;have r:w.cell? ⟨0,9*2+1,none⟩=some (Q1 1):=l;have _:=f;have m:Hid (∀d,GC DW 1 d (some ⟨g,a,none⟩) c):=fun d=>eE DW w8 1 w8 d _ c;clear k l;have t:=@fC 272;rcases j.MZ h with⟨i,b,rfl,A,rfl⟩ | ⟨n,T,x,rfl,u⟩
 ·clear hp f h j;go_enter func235,ntmps235;go_wp2_with fail;go_region_with (go_at_call 219;refine Calls.mono (m _) ?_;rintro e d ⟨rfl,rfl⟩)
  all_goals
   go_wp2_with fail
   go_ret2;exact⟨r_.drew,.inl ⟨_,.AT true,rfl,.AT _,fun S=>rfl⟩⟩
 ·have y:Hid (∀S,B0 W S DW p=⟨0,W,S.A1 (.AT false)⟩):=fun S=>by
   cases p with
   | pair i=>exact absurd rfl (n i)
   | _=>rfl
  clear hp f h j n;go_enter func235,ntmps235;go_wp2_with fail;go_region_with (go_at_call 219;refine Calls.mono (m _) ?_;rintro e d ⟨rfl,rfl⟩)
  all_goals
   go_wp2_with fail
   go_ret2;exact⟨r_.drew,.inl ⟨_,.AT false,rfl,.AT _,y⟩⟩
end
end Go.Proofs.YtbgghmjmcapmlaaGreatDoor
