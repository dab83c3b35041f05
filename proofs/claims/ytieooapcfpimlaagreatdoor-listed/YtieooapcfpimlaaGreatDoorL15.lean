import Derived.Lib.LaidTab
import Derived.Lib.AppendStr
import Derived.Laws.BytesArg
import Derived.Lib.ItoaLen
import Derived.Lib.AppendIntMem
import Derived.Test.YtieooapcfpimlaaGreatDoorL09
namespace Go.Proofs.YtieooapcfpimlaaGreatDoor
set_option maxHeartbeats 4000000
set_option maxRecDepth 100000
section
namespace Pl
def NI(ps:List (PV×PV)):Prop:=∀(i:Nat)(p:PV×PV),ps[i]?=some p->B7 p.1<=i/\B7 p.2<=i
theorem eR{ps:List (PV×PV)}(a:NI ps):∀(n m:Nat)(v:PV),B7 v<n->B7 v<m->KW ps n v=KW ps m v/\tails ps n v=tails ps m v
 | 0,_,_,h,_=>by omega
 | n+1,0,_,_,h=>by omega
 | n+1,m+1,v,d,e=>by
  cases v with
  | pair i =>
   simp only [B7] at d e;have b:∀n,KW ps (n+1) (.pair i)=(match ps[i]? with | some p=>40::(KW ps n p.1++tails ps n p.2) | none=>[]):=fun n=>by rw [KW];try (cases ps[i]? <;> rfl)
   have c:∀n,tails ps (n+1) (.pair i)=(match ps[i]? with | some p=>32::(KW ps n p.1++tails ps n p.2) | none=>[]):=fun n=>by rw [tails];try (cases ps[i]? <;> rfl)
   rw [b,b,c,c]
   cases f:ps[i]? with
   | none=>simp
   | some p =>obtain⟨k,l⟩:=a i p f;have g:=(eR a n m p.1 (by omega) (by omega)).1;have j:=(eR a n m p.2 (by omega) (by omega)).2;simp [g,j]
  | _=>exact⟨rfl,rfl⟩
def tl(ps:List (PV×PV))(v:PV):AE:=tails ps (B7 v+1) v
theorem JO{ps:List (PV×PV)}(a:NI ps){i:Nat}{p:PV×PV}(h:ps[i]?=some p):text ps (.pair i)=40::(text ps p.1++tl ps p.2):=by obtain⟨b,c⟩:=a i p h;unfold text;rw [show B7 (.pair i)+1=(i+1)+1 from rfl];rw [KW,h];dsimp only;rw [(eR a (i+1) (B7 p.1+1) p.1 (by omega) (by omega)).1,(eR a (i+1) (B7 p.2+1) p.2 (by omega) (by omega)).2];rfl
theorem MK{ps:List (PV×PV)}(a:NI ps){i:Nat}{p:PV×PV}(h:ps[i]?=some p):tl ps (.pair i)=32::(text ps p.1++tl ps p.2):=by obtain⟨b,c⟩:=a i p h;unfold tl;rw [show B7 (.pair i)+1=(i+1)+1 from rfl];rw [tails,h];dsimp only;rw [(eR a (i+1) (B7 p.1+1) p.1 (by omega) (by omega)).1,(eR a (i+1) (B7 p.2+1) p.2 (by omega) (by omega)).2];rfl
theorem QF(ps:List (PV×PV))(v:PV)(h:∀i,v≠.pair i)(a:v≠.empty):tl ps v=[32,46,32]++text ps v++[41]:=by
 cases v with
 | pair i=>exact absurd rfl (h i)
 | empty=>exact absurd rfl a
 | _=>rfl
theorem Q8(ps:List (PV×PV))(v:PV)(h:∀i,v≠.pair i):text ps v=OF v:=by
 cases v with
 | pair i=>exact absurd rfl (h i)
 | _=>rfl
def Q(a b:AE):Prop:=a.take 201=b.take 201
theorem Q.refl(a:AE):Q a a:=rfl
theorem Q.symm{a b:AE}(h:Q a b):Q b a:=Eq.symm h
theorem Q.trans{a b c:AE}(h:Q a b)(k:Q b c):Q a c:=Eq.trans h k
theorem Q.len{a b:AE}(h:Q a b):(200<a.length↔200<b.length):=by have:=congrArg List.length h;simp only [List.length_take] at this;omega
theorem Q.short{a b:AE}(h:Q a b)(d:a.length<=200):a=b:=by
 have c:¬200<b.length:=fun c=>by have:=h.len.2 c;omega
 unfold Q at h
 rwa [List.take_of_length_le (by omega),List.take_of_length_le (by omega)] at h
theorem Q.app{a b:AE}(h:Q a b)(c:AE):Q (a++c) (b++c):=by
 by_cases d:a.length<=200
 ·rw [h.short d];rfl
 ·have e:=h.len.1 (by omega);unfold Q;rw [List.take_append_of_le_length (by omega),List.take_append_of_le_length (by omega)];exact h
theorem Q.long{a:AE}(c d:AE)(h:200<a.length):Q (a++c) (a++d):=by unfold Q;rw [List.take_append_of_le_length (by omega),List.take_append_of_le_length (by omega)]
theorem Q.cut{a b:AE}(h:Q a b):cut a=cut b:=by
 unfold Pl.cut;by_cases c:200<a.length
 ·rw [if_pos c,if_pos (h.len.1 c)];have:(a.take 201).take 200=(b.take 201).take 200:=by rw [h]
  rw [List.take_take,List.take_take] at this;rw [show min 200 201=200 from rfl] at this;rw [this]
 ·rw [h.short (by omega)]
theorem FL(a:AE):(cut a).length<=202:=by
 unfold cut;split
 ·simp;omega
 ·omega
def CZ:List AE->AE
 | []=>[]
 | [x]=>x
 | x::y::r=>x++32::CZ (y::r)
def AP(ts:List AE):AE:=40::(CZ ts++[41])
def CC:Nat->A9->AE
 | 0,_=>[]
 | n+1,t=>match t with
  | .lit (.int _ m)=>itoa m
  | .lit (.bool x)=>if x then [35,116] else [35,102]
  | .lit (.string s)=>s
  | .agg ts=>AP (ts.map (CC n))
  | _=>[]
def QD:A9->Prop
 | .agg ts=>∃x,ts=[.lit (.string CB),x]
 | .lit (.int _ _)=>True
 | .lit (.bool _)=>True
 | _=>False
def Nm(k:FK)(nm:AE)(d:A9):Prop:=(k=.name->nm≠[])/\(k=.const->QD d)
theorem Nm.not{k:FK}{nm:AE}{d:A9}(a:k≠.name)(b:k≠.const):Nm k nm d:=⟨fun e=>absurd e a,fun e=>absurd e b⟩
theorem I0(x:AE):∀(a:List AE),CZ (x::a)=x++a.flatMap (fun t=>32::t)
 | []=>by simp [CZ]
 | y::r=>by show x++32::CZ (y::r)=_;rw [I0 y r];simp
end Pl
end
open Go.Proofs.Tryz
open Pl (AE)
section
open Go.RowKit
variable {w w':World}
def oS:String := "internal/strconv.uint64pow10"
structure Gs(w:World)(M:Nat->Prop):Prop where
 size:8<=w.heap.size
 low:∀k,k<8->¬M k
 B3:Lib.TabIs prog w oS .u64 Lib.pow10Tab
theorem Tryz.powB:(prog.globalNamed oS).map (fun g=>decide (g<8))=some true:=by kernel_rfl
theorem Tryz.powG:∃g,prog.globalNamed oS=some g/\g<8:=by
 have h:=Tryz.powB
 cases a:prog.globalNamed oS with
 | none=>rw [a] at h;simp at h
 | some g=>rw [a] at h;exact⟨g,rfl,by simpa using h⟩
theorem iH(h:∀k,k<8->w'.heap[k]?=w.heap[k]?)(a:Lib.TabIs prog w oS .u64 Lib.pow10Tab):Lib.TabIs prog w' oS .u64 Lib.pow10Tab:=by obtain⟨g,b,c⟩:=Tryz.powG;unfold Lib.TabIs World.var? at a ⊢;rw [b] at a ⊢;simp only [Option.bind_some,h g c] at a ⊢;exact a
theorem Gs.AQ{M M':Nat->Prop}(h:Gs w M)(b:Stp M w M' w'):Gs w' M' :=⟨t_ h.size b.size,fun k a=>(b.block k (l_ a h.size) (h.low k a)).2,iH (fun k a=>(b.block k (l_ a h.size) (h.low k a)).1) h.B3⟩
theorem Gs.below{M:Nat->Prop}(h:Gs w M)(a:Below w.heap.size w w'):Gs w' M:=h.AQ (Stp.AA a)
def AY:Prop:=∀(n:Int)(w:World),n.natAbs<=1099511627776->Lib.TabIs prog w oS .u64 Lib.pow10Tab->Calls prog 7 #[.int .i64 n] w fun e w'=>e=.returned (.string ⟨(Pl.itoa n).toArray⟩)/\Below w.heap.size w w'/\(Pl.itoa n).length<=30
theorem strcat(a b:AE):(⟨a.toArray⟩:ByteArray)++⟨b.toArray⟩=⟨(a++b).toArray⟩:=by apply ByteArray.ext;simp [ByteArray.data_append]
end
open Pl (PV PW)
section
open Go.RowKit Go.Lib
variable {w w':World} {b:Nat}
structure OU(W:PW):Prop where
 KV:Pl.NI W.pairs
 CH:∀(i:Nat)(p:PV×PV),W.pairs[i]?=some p->BL W p.1/\BL W p.2
def L3:TypeId:=269
def JM:TypeId:=5
def byCells(l:AE):List Value:=l.map fun b=>Value.int .u8 b.toNat
theorem Tryz.infoBy:(prog.info? 5).map (fun i=>(i.zero,i.size,i.bytes))=some (some (.int .u8 0),1,1):=by kernel_rfl
theorem wG:∃i,prog.info? JM=some i/\i.zero=some (.int .u8 0)/\i.size=1/\i.bytes=1:=by obtain⟨i,b,a⟩:=m_ Tryz.infoBy;simp only [Prod.mk.injEq] at a;exact⟨i,b,a.1,a.2.1,a.2.2⟩
theorem cJ{base:Nat}{e:TypeId}{sz:Nat}{v:Value}{n:Nat}{xs:List Value}(h:w.ownsRow base e sz v n xs):∃b a,v=.slice b n a/\n<=a/\(b=none->n=0):=by
 rcases h.2 with⟨rfl,rfl⟩ | ⟨g,a,c,rfl,_,_,d,_⟩
 ·exact⟨none,0,rfl,n_,fun _=>rfl⟩
 ·exact⟨_,a,rfl,d,fun h=>by cases h⟩
theorem strOf(l:AE):strOfNums (l.map fun b=>(b.toNat:Int))=⟨l.toArray⟩:=by
 unfold strOfNums;rw [List.map_map]
 congr 2
 exact(List.map_congr_left (fun b _=>by simp)).trans (List.map_id l)
theorem lY{base:Nat}{g n cap:Nat}{l:AE}(h:w.ownsRow base JM 1 (.slice (some ⟨g,0,none⟩) n cap) n (byCells l))(m:Nat)(e:m<=l.length)(c:Nat) :(convert 72 9 (.slice (some ⟨g,0,none⟩) m c)).run prog w=.ok (.string ⟨(l.take m).toArray⟩) w:=by
 rw [<- strOf];refine run_convert_bytes_arg w 72 5 underlying72 underlying5 g 0 m c _ (by simp;omega) (fun i b=>?_) 9 underlying9;have a:i<l.length:=by omega
 have:=h.cells (g:=g) rfl i (.int .u8 (l[i].toNat:Int)) (by simp [byCells,g_ a]);rw [show(⟨g,0,none⟩:Addr).add i=⟨g,0+i,none⟩ from by simp [Addr.add_lit]] at this;rw [this];have d:(l.take m)[i]?=some l[i]:=by rw [List.getElem?_take_of_lt b,g_ a]
 rw [List.getD,List.getElem?_map,d];rfl
theorem qY(w:World)(n c:Nat):(convert 72 9 (.slice none n c)).run prog w=.ok (.string ⟨([]:List UInt8).toArray⟩) w :=run_convert_bytes_nil w 72 5 underlying72 underlying5 n c 9 underlying9
def A6(w:World)(b:Nat)(l:AE):Prop:=∃sv,w.heap[b]?=some (.cells #[sv] L3 (0,0))/\w.ownsRow (b+1) JM 1 sv l.length (byCells l)
theorem A6.lt{l:AE}(h:A6 w b l):b<w.heap.size:=by obtain⟨c,a,_⟩:=h;exact aB a
theorem A6.alloc{l:AE}(h:A6 w b l)(o:Obj):A6 (w.alloc o) b l:=by obtain⟨c,a,d⟩:=h;exact⟨c,(Below.heap_alloc w o b (aB a)).trans a,d.alloc o⟩
theorem A6.drew{l:AE}(h:A6 w b l):A6 w.drew b l:=h
structure GP(b:Nat)(w w':World):Prop where
 below:Below b w w'
 kept:∀(k:Nat)(x:Obj),w.heap[k]?=some x->k≠b->(∀c fz,x≠.cells c JM fz)->w'.heap[k]?=some x
theorem GP.refl(b:Nat)(w:World):GP b w w:=⟨r_,fun _ _ h _ _=>h⟩
theorem GP.trans{w1 w2:World}(h:GP b w w1)(k:GP b w1 w2):GP b w w2:=⟨h.below.trans k.below,fun j x d a c=>k.kept j x (h.kept j x d a c) a c⟩
theorem GP.size(h:GP b w w'):w.heap.size<=w'.heap.size:=h.below.size
theorem GP.block(h:GP b w w')(k:Nat)(a:k<b):w'.heap[k]?=w.heap[k]? := h.below.block k a
theorem GP.cell(h:GP b w w'){p:Addr}(hp:p.block<b):w'.cell? p=w.cell? p:=h.below.cell hp
theorem GP.AA(h:Below w.heap.size w w')(c:b<=w.heap.size):GP b w w':=⟨h.mono c,fun k _ a _ _=>(h.block k (aB a)).trans a⟩
theorem fB(a b:AE):byCells (a++b)=byCells a++byCells b:=by simp [byCells]
theorem jI(w:World)(b:Nat)(l:AE)(s:ByteArray)(h:A6 w b l)(K:l.length+s.size<=140000000000000) :Calls prog 230 #[.pointer (some ⟨b,0,none⟩),.string s] w fun e D=>e=.returned (.tuple #[])/\A6 D b (l++s.data.toList)/\GP b w D:=by
 obtain⟨j,q,d⟩:=h;obtain⟨F,r,t,u,v⟩:=wG;have L:w.cell? ⟨b,0,none⟩=some j:=aA q 0;have y:some b≠j.ownBlock:=fun e=>by have:=(d.lt b e.symm).1;omega
 have m:=aB q;go_enter func230,ntmps230;go_wp2_with (at_builtin;refine wpList_append_own_string _ rfl _ _ 72 9 rfl (b+1) JM F underlying72 underlying9 r t u v j l.length (byCells l) rfl d s rfl (by unfold maxLen;omega) (by omega) m ?_;intro M z f c _;obtain⟨A,n,rfl,_⟩:=cJ f;have i:=(c.block b m y).trans q;have N:z.cell? ⟨b,0,none⟩=some j:=aA i 0;have O:z.frozen? ⟨b,0,none⟩=false:=aF i 0)
 go_end0
 refine⟨rfl,⟨_,aD i 0 _,?_⟩,?_⟩
 ·have:=ownsRow_setCell_below f (a:=⟨b,0,none⟩) (Nat.lt_succ_self b) (.slice A (l.length+s.size) n);rw [fB,a_];exact this
 ·refine⟨((Below.refl b w).grown c (by omega) (fun k B=>by have:=(d.lt k B).1;omega)).setCell n_ _,fun k x p B G=>?_⟩
  have o:some k≠j.ownBlock:=fun e=>by
   rcases d.2 with⟨C,_⟩ | ⟨g,H,I,C,_,J,_⟩
   ·rw [C] at e;cases e
   ·rw [C] at e;obtain rfl:k=g:=i_ e;rw [J] at p;exact G _ _ (i_ p).symm
  have E:=(c.block k (aB p) o).trans p;exact((aE z b 0 _).block k (aB E) (fun e=>B (i_ e))).trans E
theorem uZ(w:World)(b:Nat)(l:AE)(h:A6 w b l)(k:l.length<=140000000000000) :Calls prog 148 #[.pointer (some ⟨b,0,none⟩)] w fun e f=>e=.returned (.bool (decide (200<l.length)))/\w=f:=by
 obtain⟨g,i,a⟩:=h;have m:w.cell? ⟨b,0,none⟩=some g:=aA i 0;obtain⟨n,j,rfl,c,_⟩:=cJ a;have d:decide ((200:Int)<(l.length:Int))=decide (200<l.length):=by rw [decide_eq_decide];omega
 go_enter func148,ntmps148
 go_wp2_with fail
 go_ret;exact⟨rfl,rfl⟩
theorem JT(w:World)(b:Nat)(l:AE)(h:A6 w b l)(u:l.length<=140000000000000) :Calls prog 146 #[.pointer (some ⟨b,0,none⟩)] w fun e n=>e=.returned (.string ⟨(Pl.cut l).toArray⟩)/\w=n:=by
 have k:=uZ w b l h u;obtain⟨v,x,d⟩:=h;have z:w.cell? ⟨b,0,none⟩=some v:=aA x 0;obtain⟨o,j,rfl,s,f⟩:=cJ d;by_cases m:200<l.length
 ·obtain⟨a,rfl⟩:∃a,o=some a:=by
   cases o with
   | none=>exact absurd (f rfl) (by omega)
   | some a=>exact⟨a,rfl⟩
  obtain⟨g,rfl⟩:∃g,a=⟨g,0,none⟩:=by
   rcases d.2 with⟨i,_⟩ | ⟨g,c,p,i,_⟩
   ·cases i
   ·simp only [Value.slice.injEq,o_] at i;exact⟨g,i.1⟩
  have q:=lY d 200 (by omega) j;have t:(⟨(l.take 200).toArray⟩:ByteArray)++⟨#[46,46]⟩=⟨(l.take 200++[46,46]).toArray⟩:=strcat _ [46,46];have hcut:Pl.cut l=l.take 200++[46,46]:=by unfold Pl.cut;rw [if_pos m]
  have r:decide (200<l.length)=true:=by simpa using m
  rw [r] at k;have A:(200:Int)<=(j:Int):=by omega
  rw [hcut];clear d f hcut;go_enter func146,ntmps146;go_wp2_with (go_at_call 148;refine k.mono ?_;rintro e n ⟨rfl,rfl⟩);go_ret;exact⟨rfl,rfl⟩
 ·have hcut:Pl.cut l=l:=by unfold Pl.cut;rw [if_neg m]
  have r:decide (200<l.length)=false:=by simpa using m
  rw [r] at k
  have q:(convert 72 9 (.slice o l.length j)).run prog w=.ok (.string ⟨l.toArray⟩) w:=by
   rcases d.2 with⟨i,y⟩ | ⟨g,c,p,i,_⟩
   ·simp only [Value.slice.injEq] at i;obtain⟨rfl,_,rfl⟩:=i;obtain rfl:=e_ y;exact qY w _ _
   ·simp only [Value.slice.injEq] at i;obtain⟨rfl,_,rfl⟩:=i;have:=lY d l.length n_ j;rw [List.take_length] at this;exact this
  rw [hcut];clear d f hcut;go_enter func146,ntmps146;go_wp2_with (go_at_call 148;refine k.mono ?_;rintro e n ⟨rfl,rfl⟩);go_ret;exact⟨rfl,rfl⟩
theorem wE:AY:=fun n w d a =>
 (Tryz.strconv_Itoa n (by omega) (by omega) w a).mono (fun e f ⟨b,k,g,c⟩=>⟨b,by subst c;exact below_grow _ _ n_ _ _,by
  have:=Lib.itoa_length_le n (by omega) (by omega);show(Lib.itoa n).length<=30
  omega⟩)
def EP(w:World)(b:Nat)(l t:AE)(e:Ending)(w':World):Prop:=e=.returned (.tuple #[])/\A6 w' b (l++t)/\GP b w w'
theorem A6.later{l:AE}(h:A6 w b l)(f:Below w.heap.size w w'):A6 w' b l:=by
 obtain⟨k,i,m,a⟩:=h;refine⟨k,(f.block b (aB i)).trans i,m,?_⟩;rcases a with a | ⟨g,c,d,e,n,j,r⟩
 ·exact .inl a
 ·exact .inr ⟨g,c,d,e,n,(f.block g (aB j)).trans j,r⟩
theorem cX(w:World)(b:Nat)(o:Obj)(h:b<=w.heap.size):Below b w (w.alloc o):=(Below.refl b w).alloc h o
theorem f6(w:World)(b:Nat)(o:Obj)(h:b<=w.heap.size):GP b w (w.alloc o):=GP.AA (cX w _ o n_) h
theorem uQ(w:World)(b:Nat)(l:AE)(x:Bool)(h:A6 w b l)(j:l.length<=1000000000):Calls prog 266 #[.bool x,.pointer (some ⟨b,0,none⟩)] w fun e g=>EP w b l (Pl.OF (.AT x)) e g:=by
 have d:=h_ h;have f:Hid (l.length+2<=140000000000000):=show _ from by show l.length+2<=_;omega
 clear h
 cases x
 ·go_enter func266,ntmps266
  go_wp2_with (go_at_call 230;refine(jI _ b l _ (by first | exact d.out | exact d.alloc _) (by have:=f.out;first | exact this | (show l.length+Array.size _<=_;simp;omega))).mono ?_;rintro e i ⟨rfl,c,a⟩)
  go_end0
  exact⟨rfl,c,by first | exact a | exact(f6 w b _ (Nat.le_of_lt d.lt)).trans a⟩
 ·go_enter func266,ntmps266
  go_wp2_with (go_at_call 230;refine(jI _ b l _ (by first | exact d.out | exact d.alloc _) (by have:=f.out;first | exact this | (show l.length+Array.size _<=_;simp;omega))).mono ?_;rintro e i ⟨rfl,c,a⟩)
  go_end0
  exact⟨rfl,c,by first | exact a | exact(f6 w b _ (Nat.le_of_lt d.lt)).trans a⟩
theorem yI(w:World)(b:Nat)(l:AE)(x:AE)(h:A6 w b l)(i:l.length<=1000000000)(j:x.length<=300):Calls prog 268 #[.string ⟨x.toArray⟩,.pointer (some ⟨b,0,none⟩)] w fun e f=>EP w b l x e f:=by
 have c:=h_ h;have g:Hid (l.length+x.toArray.size<=140000000000000):=show _ from by show l.length+_<=_;simp;omega
 clear h;go_enter func268,ntmps268;go_wp2_with (go_at_call 230;refine(jI _ b l _ (by first | exact c.out | exact c.alloc _) (by have:=g.out;first | exact this | (show l.length+Array.size _<=_;simp;omega))).mono ?_;rintro e k ⟨rfl,d,a⟩)
 go_end0
 exact⟨rfl,d,by first | exact a | exact(f6 w b _ (Nat.le_of_lt c.lt)).trans a⟩
theorem uR(w:World)(b:Nat)(l:AE)(h:A6 w b l)(i:l.length<=1000000000):Calls prog 282 #[.agg #[],.pointer (some ⟨b,0,none⟩)] w fun e f=>EP w b l (Pl.OF .empty) e f:=by
 have c:=h_ h;have g:Hid (l.length+2<=140000000000000):=show _ from by show l.length+2<=_;omega
 clear h;go_enter func282,ntmps282;go_wp2_with (go_at_call 230;refine(jI _ b l _ (by first | exact c.out | exact c.alloc _) (by have:=g.out;first | exact this | (show l.length+Array.size _<=_;simp;omega))).mono ?_;rintro e j ⟨rfl,d,a⟩)
 go_end0
 exact⟨rfl,d,by first | exact a | exact(f6 w b _ (Nat.le_of_lt c.lt)).trans a⟩
theorem oU(w:World)(b:Nat)(l:AE)(h:A6 w b l):Calls prog 270 #[.agg #[],.pointer (some ⟨b,0,none⟩)] w fun e c=>EP w b l [] e c:=by
 have a:=h_ h;clear h;go_enter func270,ntmps270;go_wp2_with fail
 go_end0
 exact⟨rfl,by rw [List.append_nil];exact a.alloc _,f6 w b _ (Nat.le_of_lt a.lt)⟩
theorem lS(w:World)(b:Nat)(l:AE)(h:A6 w b l)(i:l.length<=1000000000):Calls prog 229 #[.agg #[],.pointer (some ⟨b,0,none⟩)] w fun e f=>EP w b l Pl.J6 e f:=by
 have c:=h_ h;have g:Hid (l.length+10<=140000000000000):=show _ from by show l.length+10<=_;omega
 clear h;go_enter func229,ntmps229;go_wp2_with (go_at_call 230;refine(jI _ b l _ (by first | exact c.out | exact c.alloc _) (by have:=g.out;first | exact this | (show l.length+Array.size _<=_;simp;omega))).mono ?_;rintro e j ⟨rfl,d,a⟩)
 go_end0
 exact⟨rfl,d,by first | exact a | exact(f6 w b _ (Nat.le_of_lt c.lt)).trans a⟩
theorem yG(w:World)(b:Nat)(l:AE)(n:Int)(h:A6 w b l)(d:l.length<=1000000000):Calls prog 231 #[.int .i64 n,.pointer (some ⟨b,0,none⟩)] w fun e f=>EP w b l Pl.J6 e f:=by
 have g:=h_ (lS w b l h d);clear h;go_enter func231,ntmps231;go_wp2_with (go_at_call 229;refine Calls.mono g ?_;rintro e i ⟨rfl,a,c⟩)
 go_end0
 exact⟨rfl,a,c⟩
theorem sD(w:World)(b:Nat)(l:AE)(h:A6 w b l)(g:l.length<=1000000000):Calls prog 227 #[.agg #[],.pointer (some ⟨b,0,none⟩)] w fun e a=>EP w b l Pl.J6 e a:=by
 have i:Hid (∀o,Calls prog 229 #[.agg #[],.pointer (some ⟨b,0,none⟩)] (w.alloc o) fun e a=>EP (w.alloc o) b l Pl.J6 e a):=fun o=>lS _ b l (h.alloc o) g;have c:=h.lt;clear h;go_enter func227,ntmps227;go_wp2_with (go_at_call 229;refine(i _).mono ?_;rintro e j ⟨rfl,d,f⟩)
 go_end0
 exact⟨rfl,d,(f6 w b _ (Nat.le_of_lt c)).trans f⟩
theorem sC(w:World)(b:Nat)(l:AE)(n:Int)(h:A6 w b l)(m:l.length<=1000000000)(s:n.natAbs<=1099511627776)(g:Lib.TabIs prog w oS .u64 Lib.pow10Tab):Calls prog 262 #[.int .i64 n,.pointer (some ⟨b,0,none⟩)] w fun e c=>EP w b l (Pl.itoa n) e c:=by
 have o:Hid (Calls prog 264 #[.int .i64 n,.int .i64 10] w fun e c=>e=.returned (.string ⟨(Pl.itoa n).toArray⟩)/\Below w.heap.size w c/\(Pl.itoa n).length<=30):=show Calls _ _ _ _ _ from(Tryz.strconv_FormatInt_10 n (by omega) (by omega) w g).mono (fun e c ⟨p,k,u,q⟩=>⟨p,by subst q;exact below_grow _ _ n_ _ _,by
  have:=Lib.itoa_length_le n (by omega) (by omega);show(Lib.itoa n).length<=30
  omega⟩)
 have i:=h_ h;have r:=h_ m;clear h g;generalize Pl.itoa n=t at *;go_enter func262,ntmps262
 go_wp2_with (first
  | (go_at_call 264;refine Calls.mono o ?_;rintro e v ⟨rfl,a,j⟩)
  | (go_at_call 230;refine(jI _ b l _ (i.later a) (by have:=r.out;show l.length+t.toArray.size<=_;simp;omega)).mono ?_;rintro e x ⟨rfl,d,f⟩))
 go_end0
 exact⟨rfl,d,(GP.AA a (Nat.le_of_lt i.lt)).trans f⟩
def Enters(f:FuncId):Prop:=∀(args:Array Value)(w:World),(callFunc f args).run prog w=.ok (.enter f args) w
theorem Tryz.Y1:Enters 262:=enters_of func262 (by kernel_rfl) rfl
theorem Tryz.RO:Enters 266:=enters_of func266 (by kernel_rfl) rfl
theorem Tryz.UM:Enters 268:=enters_of func268 (by kernel_rfl) rfl
theorem Tryz.RP:Enters 282:=enters_of func282 (by kernel_rfl) rfl
theorem Tryz.OE:Enters 270:=enters_of func270 (by kernel_rfl) rfl
theorem Tryz.UL:Enters 284:=enters_of func284 (by kernel_rfl) rfl
theorem Tryz.UK:Enters 231:=enters_of func231 (by kernel_rfl) rfl
theorem Tryz.RF:Enters 227:=enters_of func227 (by kernel_rfl) rfl
theorem Tryz.QQ:Enters 229:=enters_of func229 (by kernel_rfl) rfl
structure QB(w:World)(s:Sg)(ps:List (PV×PV))(b:Nat):Prop where
 pairs:∀(i k:Nat)(p:PV×PV),s.pb[i]?=some k->ps[i]?=some p->k<b/\∃x y,w.heap[k]?=some (.cells #[x,y] E0 (0,0))/\RV s x p.1/\RV s y p.2
 nodup:s.pb.Nodup
 len:s.pb.length=ps.length
 procs:∀(i k:Nat),s.qb[i]?=some k->k≠0->k<b/\∃cs,w.heap[k]?=some (.cells cs (ZX s.tq) (0,0))
 AG:∀(i k:Nat),s.cb[i]?=some k->k<b/\∃cs,w.heap[k]?=some (.cells cs (ZX s.tc) (0,0))
 B3:Lib.TabIs prog w oS .u64 Lib.pow10Tab
 DI:8<=b
 NH:IS s
 qn:∀(i j k:Nat),s.qb[i]?=some k->s.qb[j]?=some k->k≠0->i=j
 cn:s.cb.Nodup
theorem QB.below{s:Sg}{ps:List (PV×PV)}(h:QB w s ps b)(e:Below b w w'):QB w' s ps b :=
 ⟨fun i k p c g=>by
  obtain⟨a,x,y,d,j⟩:=h.pairs i k p c g
  exact⟨a,x,y,(e.block k a).trans d,j⟩,h.nodup,h.len,fun i k c l=>by
  obtain⟨a,f,d⟩:=h.procs i k c l
  exact⟨a,f,(e.block k a).trans d⟩,fun i k c=>by
  obtain⟨a,f,d⟩:=h.AG i k c
  exact⟨a,f,(e.block k a).trans d⟩,iH (fun k m=>e.block k (l_ m h.DI)) h.B3,h.DI,h.NH,h.qn,h.cn⟩
def J1(W:PW)(w:World)(b:Nat)(l:AE)(p:PV)(e:Ending)(w':World):Prop :=e=.returned (.tuple #[])/\GP b w w'/\∃l',A6 w' b l'/\Pl.Q l' (l++Pl.text W.pairs p)/\l'.length<=max l.length 200+300+min 10 (10*Pl.B7 p)+min (201-l.length) (Pl.B7 p)
def P6(v:Value)(b:Nat)(w:World)(Q:Ending->World->Prop):Prop:=∃T x f x',v=.iface T x/\(Go.method 518 T x "Spell").run prog w=.ok (f,x') w/\Enters f/\Calls prog f #[x',.pointer (some ⟨b,0,none⟩)] w Q
def VA(W:PW)(s:Sg)(b n:Nat):Prop:=∀(w:World)(l:AE)(v:Value)(p:PV),A6 w b l->QB w s W.pairs b->RV s v p->BL W p->Pl.B7 p<=n->l.length<=1000000000->P6 v b w (J1 W w b l p)
theorem cH{W:PW}{l t:AE}{p:PV}(a:Pl.text W.pairs p=t)(c:t.length<=300){e:Ending}(h:EP w b l t e w'):J1 W w b l p e w' :=⟨h.1,h.2.2,_,h.2.1,by rw [a];exact Pl.Q.refl _,by simp only [a_];omega⟩
theorem tR(W:PW)(s:Sg)(b:Nat)(w:World)(l:AE)(v:Value)(p:PV)(c:A6 w b l)(g:QB w s W.pairs b)(q:RV s v p)(j:BL W p)(d:l.length<=1000000000)(hp:∀i,p≠.pair i):P6 v b w (J1 W w b l p):=by
 have a:=Pl.Q8 W.pairs p hp
 cases q with
 | pair i b h=>exact absurd rfl (hp i)
 | num n =>refine⟨_,_,_,_,rfl,Tryz.w_ n w,Tryz.Y1,(sC w b l n c d j g.B3).mono (fun e f h=>cH a ?_ h)⟩;have:=Lib.itoa_length_le n (by have:n.natAbs<=1099511627776:=j;omega) (by have:n.natAbs<=1099511627776:=j;omega);show(Lib.itoa n).length<=300;omega
 | AT x=>exact⟨_,_,_,_,rfl,Tryz.SN x w,Tryz.RO,(uQ w b l x c d).mono (fun e f h=>cH a (by cases x<;>decide) h)⟩
 | name t=>exact⟨_,_,_,_,rfl,Tryz.WI _ w,Tryz.UM,(yI w b l t c d j).mono (fun e f h=>cH a j h)⟩
 | empty=>exact⟨_,_,_,_,rfl,Tryz.SO w,Tryz.RP,(uR w b l c d).mono (fun e f h=>cH a (by decide) h)⟩
 | nothing=>exact⟨_,_,_,_,rfl,Tryz.O1 w,Tryz.OE,(oU w b l c).mono (fun e f h=>cH a (by decide) h)⟩
 | proc i k h r =>obtain⟨_,o,m⟩:=g.procs i k h r;exact⟨_,_,_,_,rfl,g.NH.spq k w o m,Tryz.QQ,(lS w b l c d).mono (fun e f h=>cH a (show Pl.J6.length<=300 from by decide) h)⟩
 | cont i k h =>obtain⟨_,o,m⟩:=g.AG i k h;exact⟨_,_,_,_,rfl,g.NH.spc k w o m,Tryz.QQ,(lS w b l c d).mono (fun e f h=>cH a (show Pl.J6.length<=300 from by decide) h)⟩
 | AZ k t h m=>exact⟨_,_,_,_,rfl,Tryz.WG _ w,Tryz.UK,(yG w b l _ c d).mono (fun e f h=>cH a (show Pl.J6.length<=300 from by decide) h)⟩
 | EC=>exact⟨_,_,_,_,rfl,Tryz.RB w,Tryz.RF,(sD w b l c d).mono (fun e f h=>cH a (by decide) h)⟩
theorem UC{s:Sg}{j k:Nat}(a:s.pb.Nodup)(h:s.pb[j]?=some k):s.pb.idxOf k=j:=by obtain⟨b,rfl⟩:=s_ h;exact a.idxOf_getElem j b
def QU(W:PW)(w:World)(b:Nat)(l:AE)(i:Nat)(wr:World)(j:Nat)(lk:AE):Prop :=A6 wr b lk/\GP b w wr/\j<=i/\(l.length<lk.length/\lk.length<=max l.length 200+310+min (201-l.length) (i+1))/\∃q,W.pairs[j]?=some q/\Pl.Q (lk++(Pl.text W.pairs q.1++Pl.tl W.pairs q.2)) (l++Pl.text W.pairs (.pair i))
def blkOf:Value->Nat
 | .pointer (some a)=>a.block
 | _=>0
theorem yH(W:PW)(hP:OU W)(s:Sg)(b n:Nat)(hS:VA W s b n)(w:World)(l:AE)(i k:Nat)(ht:A6 w b l)(hL:QB w s W.pairs b)(hk:s.pb[i]?=some k)(hi:i<=n)(hl:l.length<=1000000000) :Calls prog 284 #[.pointer (some ⟨k,0,none⟩),.pointer (some ⟨b,0,none⟩)] w fun e N=>J1 W w b l (.pair i) e N:=by
 have HS:=h_ hS;have HP:=h_ hP;have Z:=h_ hL;have HT:=h_ ht;have HN:Hid (l.length<=1000000000/\i<W.pairs.length/\i<=n/\True):=⟨hl,by have:=(s_ hk).1;rw [hL.len] at this;exact this,hi,trivial⟩
 have HK:=h_ hk;clear hS hP hL ht hk hi hl;go_enter func284,ntmps284
 go_upto_region 1 with(go_at_call 230;refine(jI _ b l _ HT (by have:=HN.1;show l.length+1<=_;omega)).mono ?_;rintro e w1 ⟨rfl,ah,ai⟩)
 have H1:Hid (QU W w b l i w1 i (l++[40])):=by
  obtain⟨q,M⟩:∃q,W.pairs[i]?=some q:=⟨_,g_ HN.2.1⟩
  refine show QU _ _ _ _ _ _ _ _ from⟨ah,ai,n_,⟨by simp,by simp;omega⟩,q,M,?_⟩;rw [Pl.JO HP.KV M];simp [Pl.Q]
 clear ah ai
 go_loopw [0] (fun pv wr=>∃(j g:Nat)(D:AE),pv=.pointer (some ⟨g,0,none⟩)/\Hid (s.pb[j]?=some g)/\Hid (QU W w b l i wr j D)) (fun pv _=>s.pb.idxOf (blkOf pv))
 case atStart=>exact⟨i,k,_,rfl,HK,H1⟩
 case round =>
  obtain⟨j,g,D,rfl,HJ,HI⟩:=hrel;obtain⟨h,o,O,B,q,M,hQ⟩:=HI.out;obtain⟨P,x,y,Q,hx,hy⟩:=Z.pairs j g q HJ M;have d:=(o.block g P).trans Q;have x0:wr.cell? ⟨g,0,none⟩=some x:=aA d 0;have x1:wr.cell? ⟨g,1,none⟩=some y:=aA d 1;have aa:Hid (l.length<D.length/\D.length<=140000000000000):=⟨B.1,by have:=HN.1;have:=B.2;omega⟩
  have HQ:=h_ hQ;have HB:=h_ o;have bi:=h_ h;have HF:=h_ (uZ wr b D h aa.2);by_cases r:200<D.length
  ·have hd:decide (200<D.length)=true:=by simpa using r
   rw [hd] at HF;have HX:Hid (J1 W w b l (.pair i) (.returned (.tuple #[])) wr):=⟨rfl,o,D,h,(by have:=(Pl.Q.long (a:=D) [] (Pl.text W.pairs q.1++Pl.tl W.pairs q.2) r).trans hQ;simpa using this),by have:=B.2;simp only [Pl.B7];omega⟩
   clear hx hy Q d hQ M h o B;go_wp2_with (go_at_call 148;refine Calls.mono HF ?_;rintro e N ⟨rfl,rfl⟩)
   all_goals
    go_end0
    exact HX
  ·have hd:decide (200<D.length)=false:=by simpa using r
   rw [hd] at HF;have R:=HP.CH j q M;have S:=HP.KV j q M;obtain⟨T,x',f,xr,rfl,aj,V,t⟩:=HS.out wr D x q.1 h (Z.below o.below) hx R.1 (by have:=HN.2.2.1;omega) (by omega);unfold Enters at V;have HC:=h_ t;have u:Hid (BL W q.2/\Pl.B7 q.1<=j/\Pl.B7 q.2<=j/\RV s y q.2/\W.pairs[j]?=some q/\j<=i/\g<b/\D.length<=200):=⟨R.2,S.1,S.2,hy,M,O,P,by omega⟩
   have bj:=h_ d;rcases hy.MZ Z.NH with⟨m,km,F,ak,rfl⟩ | ⟨al,T2,x2,rfl,av⟩
   ·clear t hx hy Q d hQ M h o B R S O P
    go_wp2_with (first
     | (go_at_call 148;refine Calls.mono HF ?_;rintro e N ⟨rfl,rfl⟩)
     | (refine Calls.mono HC ?_;rintro e E ⟨rfl,C,c,G,H,am⟩;have ab:E.cell? ⟨g,1,none⟩=some (.iface 213 (.pointer (some ⟨km,0,none⟩))):=(C.cell (p:=⟨g,1,none⟩) u.2.2.2.2.2.2.1).trans x1;have bk:=@fC 213)
     | (go_at_call 230;refine(jI _ b c _ G (by have:=HN.out;have:=u.out;show c.length+1<=_;have:=HN.1;omega)).mono ?_;rintro e w3 ⟨rfl,v,z⟩))
    go_roundw
    case rel =>
     have hm:m<W.pairs.length:=by have:=u.1;rw [F] at this;exact this
     obtain⟨q',an⟩:∃q',W.pairs[m]?=some q':=⟨_,g_ hm⟩
     have hr:m+1<=j:=by have:=u.2.2.1;rw [F] at this;exact this
     have bl:=u.2.1;have O:=u.2.2.2.2.2.1;have aw:=u.2.2.2.2.2.2.2;refine⟨m,km,_,rfl,ak,show QU _ _ _ _ _ _ _ _ from⟨v,(HB.trans C).trans z,by omega,?_,q',an,?_⟩⟩
     ·have e1:(c++([32]:List UInt8)).length=c.length+1:=by simp
      have e2:=congrArg List.length H;simp only [List.length_take,a_] at e2;have e3:=aa.1;show l.length<(c++([32]:List UInt8)).length/\(c++([32]:List UInt8)).length<=_;omega
     ·refine Pl.Q.trans ?_ HQ;have ht:=Pl.MK HP.KV an;have h1:=H.app (Pl.tl W.pairs q.2);rw [F,ht] at h1;rw [F,ht];show Pl.Q ((c++[32])++_) _;simpa using h1
    case measure =>
     have hr:m+1<=j:=by have:=u.2.2.1;rw [F] at this;exact this
     show s.pb.idxOf km<s.pb.idxOf g;rw [UC Z.nodup ak,UC Z.nodup HJ.out];omega
   ·have HE:=(hy.QP Z.NH)
    have ao:=h_ al;clear t hx hy Q d hQ M h o B R S O P al
    go_upto_region 7 with(first
     | (go_at_call 148;refine Calls.mono HF ?_;rintro e N ⟨rfl,rfl⟩)
     | (refine Calls.mono HC ?_;rintro e E ⟨rfl,C,c,G,H,am⟩;have ab:E.cell? ⟨g,1,none⟩=some (.iface T2 x2):=(C.cell (p:=⟨g,1,none⟩) u.2.2.2.2.2.2.1).trans x1))
    have X:c.length<=510+min (201-l.length) (i+1):=by have:=u.2.1;have:=u.2.2.2.2.2.1;have:=u.2.2.2.2.2.2.2;have:=aa.1;omega
    have I:Hid (Calls prog 148 #[.pointer (some ⟨b,0,none⟩)] E fun e N=>e=.returned (.bool (decide (200<c.length)))/\E=N):=uZ E b c G (by omega);have U:Hid (Pl.Q (c++Pl.tl W.pairs q.2) (l++Pl.text W.pairs (.pair i))):=show Pl.Q _ _ from Pl.Q.trans (by simpa using H.app (Pl.tl W.pairs q.2)) HQ;have ac:=h_ (HB.trans C);have ad:=h_ G;have ax:=h_ X;clear G C H am X HC x0 x1 aj V av;by_cases ae:200<c.length
    ·have af:decide (200<c.length)=true:=by simpa using ae
     rw [af] at I;have HX:Hid (J1 W w b l (.pair i) (.returned (.tuple #[])) E):=⟨rfl,ac,c,ad,(by have:=(Pl.Q.long (a:=c) [] (Pl.tl W.pairs q.2) ae).trans U;simpa using this),by have:=ax.out;simp only [Pl.B7];omega⟩
     go_wp2_with (go_at_call 148;refine Calls.mono I ?_;rintro e N ⟨rfl,rfl⟩)
     go_end0
     exact HX
    ·have af:decide (200<c.length)=false:=by simpa using ae
     rw [af] at I;have J:Hid (c.length<=200):=show c.length<=200 from by omega
     have K:=neq_of (HE E);by_cases L:q.2=.empty
     ·rw [L] at K U;have Y:(binOp .neq 88 (.iface T2 x2) (.iface 212 (.agg #[]))).run prog E=.ok (.bool false) E:=K;clear K L HE
      go_wp2_with (first
       | (go_at_call 148;refine Calls.mono I ?_;rintro e N ⟨rfl,rfl⟩)
       | (go_at_call 230;refine(jI _ b c _ ad (by have:=J.out;show c.length+1<=_;omega)).mono ?_;rintro e w3 ⟨rfl,v,z⟩))
      go_end0
      exact⟨rfl,ac.trans z,_,v,U,by have:=J.out;show(c++([41]:List UInt8)).length<=_;simp only [a_,c_,z_,Pl.B7];omega⟩
     ·have Y:(binOp .neq 88 (.iface T2 x2) (.iface 212 (.agg #[]))).run prog E=.ok (.bool true) E:=by rw [K];simp [L]
      have ap:=Pl.QF W.pairs q.2 ao L
      have aq:Pl.B7 q.2=0:=by
       cases ay:q.2 with
       | pair k=>exact absurd ay (ao k)
       | _=>rfl
      have HR:Hid (Pl.tl W.pairs q.2=[32,46,32]++Pl.text W.pairs q.2++[41]/\Pl.B7 q.2=0):=⟨ap,aq⟩
      clear K L HE ap aq
      go_upto_region 10 with(first
       | (go_at_call 148;refine Calls.mono I ?_;rintro e N ⟨rfl,rfl⟩)
       | (go_at_call 230;refine(jI _ b c _ ad (by have:=J.out;show c.length+3<=_;omega)).mono ?_;rintro e w3 ⟨rfl,v,z⟩))
      have bm:=h_ v;have ar:=h_ (ac.trans z);obtain⟨T3,x3,f3,bn,e3,az,ag,A⟩:=HS.out w3 (c++[32,46,32]) _ q.2 v (Z.below ar.below) u.2.2.2.1 u.1 (by rw [HR.2];exact Nat.zero_le _) (by have:=J.out;simp only [a_,c_,z_];omega);simp only [Value.iface.injEq] at e3;obtain⟨rfl,rfl⟩:=e3;unfold Enters at ag;have ba:=h_ A;have bo:w3.cell? ⟨g,1,none⟩=some (.iface T2 x2):=(z.cell (p:=⟨g,1,none⟩) u.2.2.2.2.2.2.1).trans ab;clear A v z ab Y
      go_wp2_with (first
       | (go_at_call 230;refine(jI _ b l4 _ bb (by have:=au.out;show l4.length+1<=_;omega)).mono ?_;rintro e w5 ⟨rfl,bc,bd⟩)
       | (refine Calls.mono ba ?_;rintro e w4 ⟨rfl,be,l4,bf,bg,bh⟩;have bb:=h_ bf;have au:Hid (l4.length<=503):=show l4.length<=503 from(by have:=J.out;have:=HR.2;simp only [a_,c_,z_] at bh;omega)))
      go_end0
      refine⟨rfl,(ar.trans be).trans bd,_,bc,?_,by have:=au.out;show(l4++([41]:List UInt8)).length<=_;simp only [a_,c_,z_,Pl.B7];omega⟩;refine Pl.Q.trans ?_ U;rw [HR.1];have:=bg.app [41];show Pl.Q (l4++[41]) _;simpa using this
theorem uP(W:PW)(j:OU W)(s:Sg)(b:Nat):∀n,VA W s b n
 | 0=>fun w l v p a c d g h f=>tR W s b w l v p a c d g f (fun i e=>by subst e;simp [Pl.B7] at h)
 | n+1=>fun w l v p a c d g h f=>by
  by_cases m:∃i,p=.pair i
  ·obtain⟨i,rfl⟩:=m
   cases d with
   | pair _ k o=>exact⟨_,_,_,_,rfl,Tryz.WH k w,Tryz.UL,yH W j s b n (uP W j s b n) w l i k a c o (by simp only [Pl.B7] at h;omega) f⟩
  ·exact tR W s b w l v p a c d g f (fun i e=>m ⟨i,e⟩)
theorem txt_new(w:World):A6 (w.alloc (.cells #[.slice none 0 0] L3)) w.heap.size []:=⟨_,heap_alloc_new w _,World.ownsRow_nil _ _ _ _⟩
theorem hH(W:PW)(n:OU W)(s:Sg)(w:World)(v:Value)(p:PV)(o:QB w s W.pairs w.heap.size)(q:RV s v p)(r:BL W p) :Calls prog 143 #[v] w fun e t=>e=.returned (.string ⟨(Pl.cut (Pl.text W.pairs p)).toArray⟩)/\Below w.heap.size w t:=by
 have d:Below w.heap.size w (w.alloc (.cells #[.slice none 0 0] L3)):=cX w _ _ n_;obtain⟨T,x,f,z,rfl,b,c,a⟩:=uP W n s w.heap.size (Pl.B7 p) _ [] v p (txt_new w) (o.below d) q r n_ (by simp);have u:=h_ d;have y:=h_ a;unfold Enters at c;unfold L3 at b;clear a o q r d n;go_enter func143,ntmps143
 go_wp2_with (first
  | (go_at_call 146;refine(JT _ _ g h i).mono ?_;rintro e A ⟨rfl,rfl⟩)
  | (refine Calls.mono y ?_;rintro e B ⟨rfl,j,g,k,l,m⟩;have h:=h_ k;have i:Hid (g.length<=140000000000000):=show g.length<=_ from(by simp only [z_] at m;omega)))
 go_ret;exact⟨by rw [l.cut];rfl,u.trans j.below⟩
end
end Go.Proofs.YtieooapcfpimlaaGreatDoor
