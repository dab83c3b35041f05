import Derived.Test.YtkgbdddkcjpgfaaGreatDoorQ04
import Derived.Lib.LaidTab
import Derived.Lib.AppendStr
import Derived.Laws.BytesArg
namespace Go.Proofs.YtkgbdddkcjpgfaaGreatDoor
set_option maxHeartbeats 1000000
set_option maxRecDepth 100000
section
namespace Pl
def NI(ps:List (PV×PV)):Prop:=∀(i:Nat)(p:PV×PV),ps[i]?=some p->B7 p.1<=i/\B7 p.2<=i
theorem eR{ps:List (PV×PV)}(a:NI ps):∀(n m:Nat)(v:PV),B7 v<n->B7 v<m->KW ps n v=KW ps m v/\tails ps n v=tails ps m v
 | 0,_,_,h,_=>by omega
 | n+1,0,_,_,h=>by omega
 | n+1,m+1,v,d,e=>by
  cases v with
  | pair i =>
   simp only [B7] at d e;have b:∀n,KW ps (n+1) (.pair i)=(match ps[i]? with | some p=>40::(KW ps n p.1++tails ps n p.2) | none=>[]):=fun n=>by rw [KW];try (cases ps[i]? <;> rfl)
   have c:∀n,tails ps (n+1) (.pair i)=(match ps[i]? with | some p=>32::(KW ps n p.1++tails ps n p.2) | none=>[]):=fun n=>by rw [tails];try (cases ps[i]? <;> rfl)
   rw [b,b,c,c]
   cases f:ps[i]? with
   | none=>simp
   | some p =>obtain⟨k,l⟩:=a i p f;have g:=(eR a n m p.1 (by omega) (by omega)).1;have j:=(eR a n m p.2 (by omega) (by omega)).2;simp [g,j]
  | _=>exact⟨rfl,rfl⟩
def tl(ps:List (PV×PV))(v:PV):AE:=tails ps (B7 v+1) v
theorem JO{ps:List (PV×PV)}(a:NI ps){i:Nat}{p:PV×PV}(h:ps[i]?=some p):text ps (.pair i)=40::(text ps p.1++tl ps p.2):=by obtain⟨b,c⟩:=a i p h;unfold text;rw [show B7 (.pair i)+1=(i+1)+1 from rfl];rw [KW,h];dsimp only;rw [(eR a (i+1) (B7 p.1+1) p.1 (by omega) (by omega)).1,(eR a (i+1) (B7 p.2+1) p.2 (by omega) (by omega)).2];rfl
theorem MK{ps:List (PV×PV)}(a:NI ps){i:Nat}{p:PV×PV}(h:ps[i]?=some p):tl ps (.pair i)=32::(text ps p.1++tl ps p.2):=by obtain⟨b,c⟩:=a i p h;unfold tl;rw [show B7 (.pair i)+1=(i+1)+1 from rfl];rw [tails,h];dsimp only;rw [(eR a (i+1) (B7 p.1+1) p.1 (by omega) (by omega)).1,(eR a (i+1) (B7 p.2+1) p.2 (by omega) (by omega)).2];rfl
theorem QF(ps:List (PV×PV))(v:PV)(h:∀i,v≠.pair i)(a:v≠.empty):tl ps v=[32,46,32]++text ps v++[41]:=by
 cases v with
 | pair i=>exact absurd rfl (h i)
 | empty=>exact absurd rfl a
 | _=>rfl
theorem Q8(ps:List (PV×PV))(v:PV)(h:∀i,v≠.pair i):text ps v=OF v:=by
 cases v with
 | pair i=>exact absurd rfl (h i)
 | _=>rfl
def Q(a b:AE):Prop:=a.take 201=b.take 201
theorem Q.refl(a:AE):Q a a:=rfl
theorem Q.symm{a b:AE}(h:Q a b):Q b a:=Eq.symm h
theorem Q.trans{a b c:AE}(h:Q a b)(k:Q b c):Q a c:=Eq.trans h k
theorem Q.len{a b:AE}(h:Q a b):(200<a.length↔200<b.length):=by have:=congrArg List.length h;simp only [List.length_take] at this;omega
theorem Q.short{a b:AE}(h:Q a b)(d:a.length<=200):a=b:=by
 have c:¬200<b.length:=fun c=>by have:=h.len.2 c;omega
 unfold Q at h
 rwa [List.take_of_length_le (by omega),List.take_of_length_le (by omega)] at h
theorem Q.app{a b:AE}(h:Q a b)(c:AE):Q (a++c) (b++c):=by
 by_cases d:a.length<=200
 ·rw [h.short d];rfl
 ·have e:=h.len.1 (by omega);unfold Q;rw [List.take_append_of_le_length (by omega),List.take_append_of_le_length (by omega)];exact h
theorem Q.long{a:AE}(c d:AE)(h:200<a.length):Q (a++c) (a++d):=by unfold Q;rw [List.take_append_of_le_length (by omega),List.take_append_of_le_length (by omega)]
theorem Q.cut{a b:AE}(h:Q a b):cut a=cut b:=by
 unfold Pl.cut;by_cases c:200<a.length
 ·rw [if_pos c,if_pos (h.len.1 c)];have:(a.take 201).take 200=(b.take 201).take 200:=by rw [h]
  rw [List.take_take,List.take_take] at this;rw [show min 200 201=200 from rfl] at this;rw [this]
 ·rw [h.short (by omega)]
theorem FL(a:AE):(cut a).length<=202:=by
 unfold cut;split
 ·simp;omega
 ·omega
def CZ:List AE->AE
 | []=>[]
 | [x]=>x
 | x::y::r=>x++32::CZ (y::r)
def AP(ts:List AE):AE:=40::(CZ ts++[41])
def CC:Nat->A9->AE
 | 0,_=>[]
 | n+1,t=>match t with
  | .lit (.int _ m)=>itoa m
  | .lit (.bool x)=>if x then [35,116] else [35,102]
  | .lit (.string s)=>s
  | .agg ts=>AP (ts.map (CC n))
  | _=>[]
def QD:A9->Prop
 | .agg ts=>∃x,ts=[.lit (.string CB),x]
 | .lit (.int _ _)=>True
 | .lit (.bool _)=>True
 | _=>False
def Nm(k:FK)(nm:AE)(d:A9):Prop:=(k=.name->nm≠[])/\(k=.const->QD d)
theorem Nm.not{k:FK}{nm:AE}{d:A9}(a:k≠.name)(b:k≠.const):Nm k nm d:=⟨fun e=>absurd e a,fun e=>absurd e b⟩
theorem I0(x:AE):∀(a:List AE),CZ (x::a)=x++a.flatMap (fun t=>32::t)
 | []=>by simp [CZ]
 | y::r=>by show x++32::CZ (y::r)=_;rw [I0 y r];simp
end Pl
end
open Go.Proofs.Tryz
open Pl (AE)
section
open Go.RowKit
variable {w w':World}
def oS:String := "internal/strconv.uint64pow10"
structure Gs(w:World)(M:Nat->Prop):Prop where
 size:8<=w.heap.size
 low:∀k,k<8->¬M k
 B3:Lib.TabIs prog w oS .u64 Lib.pow10Tab
theorem Tryz.powB:(prog.globalNamed oS).map (fun g=>decide (g<8))=some true:=by kernel_rfl
theorem Tryz.powG:∃g,prog.globalNamed oS=some g/\g<8:=by
 have h:=Tryz.powB
 cases a:prog.globalNamed oS with
 | none=>rw [a] at h;simp at h
 | some g=>rw [a] at h;exact⟨g,rfl,by simpa using h⟩
theorem iH(h:∀k,k<8->w'.heap[k]?=w.heap[k]?)(a:Lib.TabIs prog w oS .u64 Lib.pow10Tab):Lib.TabIs prog w' oS .u64 Lib.pow10Tab:=by obtain⟨g,b,c⟩:=Tryz.powG;unfold Lib.TabIs World.var? at a ⊢;rw [b] at a ⊢;simp only [Option.bind_some,h g c] at a ⊢;exact a
theorem Gs.AQ{M M':Nat->Prop}(h:Gs w M)(b:Stp M w M' w'):Gs w' M' :=⟨t_ h.size b.size,fun k a=>(b.block k (l_ a h.size) (h.low k a)).2,iH (fun k a=>(b.block k (l_ a h.size) (h.low k a)).1) h.B3⟩
theorem Gs.below{M:Nat->Prop}(h:Gs w M)(a:Below w.heap.size w w'):Gs w' M:=h.AQ (Stp.AA a)
theorem strcat(a b:AE):(⟨a.toArray⟩:ByteArray)++⟨b.toArray⟩=⟨(a++b).toArray⟩:=by apply ByteArray.ext;simp [ByteArray.data_append]
end
open Pl (PV PW)
section
open Go.RowKit Go.Lib
variable {w w':World} {b:Nat}
structure OU(W:PW):Prop where
 KV:Pl.NI W.pairs
 CH:∀(i:Nat)(p:PV×PV),W.pairs[i]?=some p->BL W p.1/\BL W p.2
def L3:TypeId:=321
def JM:TypeId:=5
def byCells(l:AE):List Value:=l.map fun b=>Value.int .u8 b.toNat
theorem Tryz.infoBy:(prog.info? 5).map (fun i=>(i.zero,i.size,i.bytes))=some (some (.int .u8 0),1,1):=by kernel_rfl
theorem wG:∃i,prog.info? JM=some i/\i.zero=some (.int .u8 0)/\i.size=1/\i.bytes=1:=by obtain⟨i,b,a⟩:=m_ Tryz.infoBy;simp only [Prod.mk.injEq] at a;exact⟨i,b,a.1,a.2.1,a.2.2⟩
theorem cJ{base:Nat}{e:TypeId}{sz:Nat}{v:Value}{n:Nat}{xs:List Value}(h:w.ownsRow base e sz v n xs):∃b a,v=.slice b n a/\n<=a/\(b=none->n=0):=by
 rcases h.2 with⟨rfl,rfl⟩ | ⟨g,a,c,rfl,_,_,d,_⟩
 ·exact⟨none,0,rfl,n_,fun _=>rfl⟩
 ·exact⟨_,a,rfl,d,fun h=>by cases h⟩
theorem strOf(l:AE):strOfNums (l.map fun b=>(b.toNat:Int))=⟨l.toArray⟩:=by
 unfold strOfNums;rw [List.map_map]
 congr 2
 exact(List.map_congr_left (fun b _=>by simp)).trans (List.map_id l)
theorem lY{base:Nat}{g n cap:Nat}{l:AE}(h:w.ownsRow base JM 1 (.slice (some ⟨g,0,none⟩) n cap) n (byCells l))(m:Nat)(e:m<=l.length)(c:Nat) :(convert 165 9 (.slice (some ⟨g,0,none⟩) m c)).run prog w=.ok (.string ⟨(l.take m).toArray⟩) w:=by
 rw [<- strOf];refine run_convert_bytes_arg w 165 5 underlying165 underlying5 g 0 m c _ (by simp;omega) (fun i b=>?_) 9 underlying9;have a:i<l.length:=by omega
 have:=h.cells (g:=g) rfl i (.int .u8 (l[i].toNat:Int)) (by simp [byCells,g_ a]);rw [show(⟨g,0,none⟩:Addr).add i=⟨g,0+i,none⟩ from by simp [Addr.add_lit]] at this;rw [this];have d:(l.take m)[i]?=some l[i]:=by rw [List.getElem?_take_of_lt b,g_ a]
 rw [List.getD,List.getElem?_map,d];rfl
theorem qY(w:World)(n c:Nat):(convert 165 9 (.slice none n c)).run prog w=.ok (.string ⟨([]:List UInt8).toArray⟩) w :=run_convert_bytes_nil w 165 5 underlying165 underlying5 n c 9 underlying9
def A6(w:World)(b:Nat)(l:AE):Prop:=∃sv,w.heap[b]?=some (.cells #[sv] L3 (0,0))/\w.ownsRow (b+1) JM 1 sv l.length (byCells l)
theorem A6.lt{l:AE}(h:A6 w b l):b<w.heap.size:=by obtain⟨c,a,_⟩:=h;exact aB a
theorem A6.alloc{l:AE}(h:A6 w b l)(o:Obj):A6 (w.alloc o) b l:=by obtain⟨c,a,d⟩:=h;exact⟨c,(Below.heap_alloc w o b (aB a)).trans a,d.alloc o⟩
theorem A6.drew{l:AE}(h:A6 w b l):A6 w.drew b l:=h
structure GP(b:Nat)(w w':World):Prop where
 below:Below b w w'
 kept:∀(k:Nat)(x:Obj),w.heap[k]?=some x->k≠b->(∀c fz,x≠.cells c JM fz)->w'.heap[k]?=some x
theorem GP.refl(b:Nat)(w:World):GP b w w:=⟨r_,fun _ _ h _ _=>h⟩
theorem GP.trans{w1 w2:World}(h:GP b w w1)(k:GP b w1 w2):GP b w w2:=⟨h.below.trans k.below,fun j x d a c=>k.kept j x (h.kept j x d a c) a c⟩
theorem GP.size(h:GP b w w'):w.heap.size<=w'.heap.size:=h.below.size
theorem GP.block(h:GP b w w')(k:Nat)(a:k<b):w'.heap[k]?=w.heap[k]? := h.below.block k a
theorem GP.cell(h:GP b w w'){p:Addr}(hp:p.block<b):w'.cell? p=w.cell? p:=h.below.cell hp
theorem GP.AA(h:Below w.heap.size w w')(c:b<=w.heap.size):GP b w w':=⟨h.mono c,fun k _ a _ _=>(h.block k (aB a)).trans a⟩
theorem fB(a b:AE):byCells (a++b)=byCells a++byCells b:=by simp [byCells]
theorem jI(w:World)(b:Nat)(l:AE)(s:ByteArray)(h:A6 w b l)(K:l.length+s.size<=140000000000000) :Calls prog 335 #[.pointer (some ⟨b,0,none⟩),.string s] w fun e D=>e=.returned (.tuple #[])/\A6 D b (l++s.data.toList)/\GP b w D:=by
 obtain⟨j,q,d⟩:=h;obtain⟨F,r,t,u,v⟩:=wG;have L:w.cell? ⟨b,0,none⟩=some j:=aA q 0;have y:some b≠j.ownBlock:=fun e=>by have:=(d.lt b e.symm).1;omega
 have m:=aB q;go_enter func335,ntmps335;go_wp2_with (at_builtin;refine wpList_append_own_string _ rfl _ _ 165 9 rfl (b+1) JM F underlying165 underlying9 r t u v j l.length (byCells l) rfl d s rfl (by unfold maxLen;omega) (by omega) m ?_;intro M z f c _;obtain⟨A,n,rfl,_⟩:=cJ f;have i:=(c.block b m y).trans q;have N:z.cell? ⟨b,0,none⟩=some j:=aA i 0;have O:z.frozen? ⟨b,0,none⟩=false:=aF i 0)
 go_end0
 refine⟨rfl,⟨_,aD i 0 _,?_⟩,?_⟩
 ·have:=ownsRow_setCell_below f (a:=⟨b,0,none⟩) (Nat.lt_succ_self b) (.slice A (l.length+s.size) n);rw [fB,a_];exact this
 ·refine⟨((Below.refl b w).grown c (by omega) (fun k B=>by have:=(d.lt k B).1;omega)).setCell n_ _,fun k x p B G=>?_⟩
  have o:some k≠j.ownBlock:=fun e=>by
   rcases d.2 with⟨C,_⟩ | ⟨g,H,I,C,_,J,_⟩
   ·rw [C] at e;cases e
   ·rw [C] at e;obtain rfl:k=g:=i_ e;rw [J] at p;exact G _ _ (i_ p).symm
  have E:=(c.block k (aB p) o).trans p;exact((aE z b 0 _).block k (aB E) (fun e=>B (i_ e))).trans E
theorem uZ(w:World)(b:Nat)(l:AE)(h:A6 w b l)(k:l.length<=140000000000000) :Calls prog 193 #[.pointer (some ⟨b,0,none⟩)] w fun e f=>e=.returned (.bool (decide (200<l.length)))/\w=f:=by
 obtain⟨g,i,a⟩:=h;have m:w.cell? ⟨b,0,none⟩=some g:=aA i 0;obtain⟨n,j,rfl,c,_⟩:=cJ a;have d:decide ((200:Int)<(l.length:Int))=decide (200<l.length):=by rw [decide_eq_decide];omega
 go_enter func193,ntmps193
 go_wp2_with fail
 go_ret;exact⟨rfl,rfl⟩
theorem JT(w:World)(b:Nat)(l:AE)(h:A6 w b l)(u:l.length<=140000000000000) :Calls prog 168 #[.pointer (some ⟨b,0,none⟩)] w fun e n=>e=.returned (.string ⟨(Pl.cut l).toArray⟩)/\w=n:=by
 have k:=uZ w b l h u;obtain⟨v,x,d⟩:=h;have z:w.cell? ⟨b,0,none⟩=some v:=aA x 0;obtain⟨o,j,rfl,s,f⟩:=cJ d;by_cases m:200<l.length
 ·obtain⟨a,rfl⟩:∃a,o=some a:=by
   cases o with
   | none=>exact absurd (f rfl) (by omega)
   | some a=>exact⟨a,rfl⟩
  obtain⟨g,rfl⟩:∃g,a=⟨g,0,none⟩:=by
   rcases d.2 with⟨i,_⟩ | ⟨g,c,p,i,_⟩
   ·cases i
   ·simp only [Value.slice.injEq,o_] at i;exact⟨g,i.1⟩
  have q:=lY d 200 (by omega) j;have t:(⟨(l.take 200).toArray⟩:ByteArray)++⟨#[46,46]⟩=⟨(l.take 200++[46,46]).toArray⟩:=strcat _ [46,46];have hcut:Pl.cut l=l.take 200++[46,46]:=by unfold Pl.cut;rw [if_pos m]
  have r:decide (200<l.length)=true:=by simpa using m
  rw [r] at k;have A:(200:Int)<=(j:Int):=by omega
  rw [hcut];clear d f hcut;go_enter func168,ntmps168;go_wp2_with (go_at_call 193;refine k.mono ?_;rintro e n ⟨rfl,rfl⟩);go_ret;exact⟨rfl,rfl⟩
 ·have hcut:Pl.cut l=l:=by unfold Pl.cut;rw [if_neg m]
  have r:decide (200<l.length)=false:=by simpa using m
  rw [r] at k
  have q:(convert 165 9 (.slice o l.length j)).run prog w=.ok (.string ⟨l.toArray⟩) w:=by
   rcases d.2 with⟨i,y⟩ | ⟨g,c,p,i,_⟩
   ·simp only [Value.slice.injEq] at i;obtain⟨rfl,_,rfl⟩:=i;obtain rfl:=e_ y;exact qY w _ _
   ·simp only [Value.slice.injEq] at i;obtain⟨rfl,_,rfl⟩:=i;have:=lY d l.length n_ j;rw [List.take_length] at this;exact this
  rw [hcut];clear d f hcut;go_enter func168,ntmps168;go_wp2_with (go_at_call 193;refine k.mono ?_;rintro e n ⟨rfl,rfl⟩);go_ret;exact⟨rfl,rfl⟩
end
open Pl (PS PF CW SR Env FK A2 B0 AH BH A4)
section
open Go.RowKit
variable {t t':Nat}
structure Le(W W':PW):Prop where
 pre:∃l,W'.pairs=W.pairs++l
 procs:W.procs.length<=W'.procs.length
 AG:W.AG.length<=W'.AG.length
 places:W.places.length<=W'.places.length
theorem VP{α:Type}(l:List α):∃m,l=l++m:=⟨[],(List.append_nil l).symm⟩
theorem Le.pairs{W W':PW}(h:Le W W'):W.pairs.length<=W'.pairs.length:=by obtain⟨l,e⟩:=h.pre;rw [e];simp
theorem Le.refl(W:PW):Le W W:=⟨VP _,n_,n_,n_⟩
theorem Le.trans{a b c:PW}(h:Le a b)(k:Le b c):Le a c:=⟨by
 obtain⟨l,e⟩:=h.pre;obtain⟨m,d⟩:=k.pre
 exact⟨l++m,by rw [d,e,List.append_assoc]⟩,t_ h.procs k.procs,t_ h.AG k.AG,t_ h.places k.places⟩
theorem BL.le{W W':PW}{v:PV}(h:BL W v)(l:Le W W'):BL W' v:=by
 cases v with
 | pair i=>exact l_ h l.pairs
 | proc i=>exact l_ h l.procs
 | cont i=>exact l_ h l.AG
 | _=>exact h
theorem LG.le{W W':PW}{e:Env}(h:LG W e)(l:Le W W'):LG W' e:=fun b a=>l_ (h b a) l.places
mutual
def IU:PF->Nat
 | .mk _ _ _ _ ks _=>1+OT ks
def OT:List PF->Nat
 | []=>0
 | x::r=>IU x+OT r
end
theorem OL(k:FK)(nm:AE)(d:Pl.A9)(v:PV)(a:List PF)(ns:List AE):IU (.mk k nm d v a ns)=1+OT a:=by simp [IU]
theorem ZL(x:PF)(r:List PF):OT (x::r)=IU x+OT r:=by simp [OT]
theorem aA5:OT []=0:=by simp [OT]
theorem aDP{x:PF}:∀{a:List PF},x∈a->IU x<=OT a
 | y::r,h=>by
  rw [ZL];rcases List.mem_cons.1 h with rfl | h
  ·omega
  ·have:=aDP h;omega
def Pl.dep:Nat->Pl.A9->Prop
 | 0,_=>False
 | n+1,t=>match t with
  | .agg ts=>∀x∈ts,Pl.dep n x
  | _=>True
def TxD(W:PW)(v:PV)(d:Pl.A9):Prop:=(∀l,Pl.NI (W.pairs++l)->Pl.text (W.pairs++l) v=Pl.CC 1000 (Pl.quoted d))/\(Pl.CC 1000 (Pl.quoted d)).length<=400000/\Pl.dep 1000 (Pl.quoted d)/\cL 1000 (Pl.quoted d)
inductive EU (W:PW):PF->Prop
 | mk (k:FK) (nm:AE) (d:Pl.A9) (v:PV) (ks:List PF) (ns:List AE) (h1:k=.const->BL W v) (h2:shape k ks.length) (h3:∀x,x∈ks->EU W x) (h4:ks.length<=300) (h5:ns.length<=300/\nm.length<=300/\∀x∈ns,x.length<=300) (h6:1+OT ks<=1001) (h7:k=.const->TxD W v d) (h8:Pl.Nm k nm d):EU W (.mk k nm d v ks ns)
theorem EU.le{W W':PW}(l:Le W W'){f:PF}(h:EU W f):EU W' f:=by
 induction h with
 | mk k b d v c g i j _ n o p a r s =>refine .mk k b d v c g (fun e=>(i e).le l) j s n o p (fun e=>⟨fun m=>?_,(a e).2⟩) r;obtain⟨q,t⟩:=l.pre;rw [t,List.append_assoc];exact(a e).1 _
theorem EU.val{W:PW}{f:PF}(h:EU W f)(a:f.k=.const):BL W f.v:=by cases h with | mk k c d v e g b=>exact b a
theorem EU.shp{W:PW}{f:PF}(h:EU W f):shape f.k f.ks.length:=by cases h with | mk k b d v c e g a=>exact a
theorem EU.KG{W:PW}{f x:PF}(h:EU W f)(a:x∈f.ks):EU W x:=by cases h with | mk k c d v e g i j b=>exact b x a
theorem EU.kid_at{W:PW}{f x:PF}{i:Nat}(h:EU W f)(a:f.ks[i]?=some x):EU W x:=h.KG (q_ a)
theorem EU.lks{W:PW}{f:PF}(h:EU W f):f.ks.length<=300:=by cases h with | mk k b d v c e g i j a=>exact a
theorem EU.lns{W:PW}{f:PF}(h:EU W f):f.ns.length<=300:=by cases h with | mk k b d v c e g i j l a=>exact a.1
theorem EU.lnm{W:PW}{f:PF}(h:EU W f):f.nm.length<=300:=by cases h with | mk k b d v c e g i j l a=>exact a.2.1
theorem EU.nd{W:PW}{f:PF}(h:EU W f):IU f<=1001:=by cases h with | mk k b d v c e g i j l m a=>rw [OL];exact a
structure O_(W:PW)(t:Nat)(fr:CW):Prop where
 form:EU W fr.form
 env:LG W fr.env
 G1:fr.env.length<=t
 kind:fr.form.k=.iff\/fr.form.k=.set\/fr.form.k=.define\/fr.form.k=.begin\/fr.form.k=.call
 JY:fr.form.k=.begin->fr.pos<fr.form.ks.length
 call:fr.form.k=.call->fr.B8.length+1=fr.pos/\fr.pos<=fr.form.ks.length/\∀v∈fr.B8,BL W v
theorem O_.le{W W':PW}{fr:CW}(h:O_ W t fr)(l:Le W W')(b:t<=t'):O_ W' t' fr :=⟨h.form.le l,h.env.le l,by have:=h.G1;omega,h.kind,h.JY,fun e=>⟨(h.call e).1,(h.call e).2.1,fun v a=>((h.call e).2.2 v a).le l⟩⟩
def OP(W:PW)(t:Nat)(l:List CW):Prop:=(∀fr∈l,O_ W t fr)/\l.length<=t
theorem OP.le{W W':PW}{fs:List CW}(h:OP W t fs)(l:Le W W')(a:t<=t'):OP W' t' fs:=⟨fun b c=>(h.1 b c).le l a,by have:=h.2;omega⟩
structure WW(W:PW)(t:Nat):Prop where
 KV:Pl.NI W.pairs
 CH:∀(i:Nat)(p:PV×PV),W.pairs[i]?=some p->BL W p.1/\BL W p.2
 EX:W.pairs.length<=t
 procs:∀p∈W.procs,EU W p.1/\LG W p.2/\p.2.length<=t/\p.1.k=.lambda
 FU:W.procs.length<=t
 AG:∀l∈W.AG,OP W t l
 GN:W.AG.length<=t
 places:∀v∈W.places,BL W v
 EM:W.places.length<=t
 globals:LG W W.globals
 D1:W.globals.length<=t
structure SW(W:PW)(S:PS)(t:Nat):Prop where
 form:∀f,S.form=some f->EU W f
 env:LG W S.env
 G1:S.env.length<=t
 val:S.form=none->BL W S.val
 AB:OP W t S.AB
theorem WW.later{W:PW}(h:WW W t)(b:t<=t'):WW W t' :=⟨h.KV,h.CH,by have:=h.EX;omega,fun p a=>⟨(h.procs p a).1,(h.procs p a).2.1,by have:=(h.procs p a).2.2.1;omega,(h.procs p a).2.2.2⟩,by have:=h.FU;omega,fun l c=>(h.AG l c).le (Le.refl _) b,by have:=h.GN;omega,h.places,by have:=h.EM;omega,h.globals,by have:=h.D1;omega⟩
theorem SW.le{W W':PW}{S:PS}(h:SW W S t)(l:Le W W')(a:t<=t'):SW W' S t' :=⟨fun f b=>(h.form f b).le l,h.env.le l,by have:=h.G1;omega,fun e=>(h.val e).le l,h.AB.le l a⟩
theorem SW.A1{W:PW}{S:PS}{v:PV}(h:SW W S t)(a:BL W v):SW W (S.A1 v) t:=⟨fun f b=>(by cases b),h.env,h.G1,fun _=>a,h.AB⟩
theorem SW.work{W:PW}{S:PS}{f:PF}{env:Env}(h:SW W S t)(a:EU W f)(b:LG W env)(c:env.length<=t):SW W (S.work (some f) env) t:=⟨fun g d=>(by obtain rfl:=i_ d;exact a),b,c,fun e=>(by cases e),h.AB⟩
theorem SW.push{W:PW}{S:PS}{fr:CW}(h:SW W S t)(b:O_ W t fr):SW W (S.push fr) (t+1):=by
 refine⟨h.form,h.env,by have:=h.G1;show S.env.length<=_;omega,h.val,⟨fun x a=>?_,by have:=h.AB.2;simp only [Pl.PS.push,c_];omega⟩⟩;simp only [Pl.PS.push,List.mem_cons] at a;rcases a with rfl | a
 ·exact b.le (Le.refl _) (by omega)
 ·exact(h.AB.1 x a).le (Le.refl _) (by omega)
theorem SW.QO{W:PW}{S:PS}{fs:List CW}(h:SW W S t)(a:OP W t fs):SW W {S with AB:=fs} t:=⟨h.form,h.env,h.G1,h.val,a⟩
theorem WW.pair{W:PW}(h:WW W t){a b:PV}(g:BL W a)(j:BL W b):WW {W with pairs:=W.pairs++[(a,b)]} (t+1)/\Le W {W with pairs:=W.pairs++[(a,b)]}:=by
 have l:Le W {W with pairs:=W.pairs++[(a,b)]}:=⟨⟨_,rfl⟩,n_,n_,n_⟩
 have k:∀v,BL W v->Pl.B7 v<=W.pairs.length:=fun v e=>by
  cases v with
  | pair i=>exact e
  | _=>exact Nat.zero_le _
 have d:=h.later (Nat.le_succ t);refine⟨⟨?_,?_,by have:=h.EX;simp;omega,fun p c=>⟨(d.procs p c).1.le l,(d.procs p c).2.1.le l,(d.procs p c).2.2⟩,d.FU,fun m f=>(d.AG m f).le l n_,d.GN,fun v e=>(h.places v e).le l,d.EM,h.globals.le l,d.D1⟩,l⟩
 ·intro i p c;rcases dH c with c | ⟨rfl,rfl⟩
  ·exact h.KV i p c
  ·exact⟨k a g,k b j⟩
 ·intro i p c;rcases dH c with c | ⟨rfl,rfl⟩
  ·exact⟨(h.CH i p c).1.le l,(h.CH i p c).2.le l⟩
  ·exact⟨g.le l,j.le l⟩
theorem WW.QI{W:PW}(h:WW W t){vs:List PV}(e:∀v∈vs,BL W v):WW {W with places:=W.places++vs} (t+vs.length)/\Le W {W with places:=W.places++vs}:=by
 have l:Le W {W with places:=W.places++vs}:=⟨VP _,n_,n_,by simp⟩
 have a:=h.later (Nat.le_add_right t vs.length);refine⟨⟨h.KV,fun i p b=>⟨(h.CH i p b).1.le l,(h.CH i p b).2.le l⟩,a.EX,fun p b=>⟨(a.procs p b).1.le l,(a.procs p b).2.1.le l,(a.procs p b).2.2⟩,a.FU,fun f d=>(a.AG f d).le l n_,a.GN,fun v c=>?_,by have:=h.EM;simp;omega,h.globals.le l,a.D1⟩,l⟩;rcases List.mem_append.1 c with c | c
 ·exact(h.places v c).le l
 ·exact(e v c).le l
theorem WW.WT{W:PW}(h:WW W t){v:PV}(d:BL W v)(k:Nat):WW {W with places:=W.places.set k v} t/\Le W {W with places:=W.places.set k v}:=by
 have l:Le W {W with places:=W.places.set k v}:=⟨VP _,n_,n_,by simp⟩
 refine⟨⟨h.KV,fun i p a=>⟨(h.CH i p a).1.le l,(h.CH i p a).2.le l⟩,h.EX,fun p a=>⟨(h.procs p a).1.le l,(h.procs p a).2.1.le l,(h.procs p a).2.2⟩,h.FU,fun e b=>(h.AG e b).le l n_,h.GN,fun x c=>?_,by simpa using h.EM,h.globals.le l,h.D1⟩,l⟩;rcases List.mem_or_eq_of_mem_set c with c | rfl
 ·exact(h.places x c).le l
 ·exact d.le l
theorem WW.proc{W:PW}(h:WW W t){f:PF}{env:Env}(d:EU W f)(e:LG W env)(m:env.length<=t)(g:f.k=.lambda):WW {W with procs:=W.procs++[(f,env)]} (t+1)/\Le W {W with procs:=W.procs++[(f,env)]}:=by
 have l:Le W {W with procs:=W.procs++[(f,env)]}:=⟨VP _,by simp,n_,n_⟩
 have b:=h.later (Nat.le_succ t);refine⟨⟨h.KV,fun i p a=>⟨(h.CH i p a).1.le l,(h.CH i p a).2.le l⟩,b.EX,fun p a=>?_,by have:=h.FU;simp;omega,fun j c=>(b.AG j c).le l n_,b.GN,fun v k=>(h.places v k).le l,b.EM,h.globals.le l,b.D1⟩,l⟩;rcases List.mem_append.1 a with a | a
 ·exact⟨(b.procs p a).1.le l,(b.procs p a).2.1.le l,(b.procs p a).2.2⟩
 ·obtain rfl:p=(f,env):=by simpa using a
  exact⟨d.le l,e.le l,by show env.length<=_;omega,g⟩
theorem WW.E_{W:PW}{S:PS}(h:WW W t)(e:OP W t S.AB):WW (W.keep S) (t+1)/\Le W (W.keep S):=by
 have l:Le W (W.keep S):=⟨VP _,n_,by simp [Pl.PW.keep],n_⟩
 have b:=h.later (Nat.le_succ t);refine⟨⟨h.KV,fun i p c=>⟨(h.CH i p c).1.le l,(h.CH i p c).2.le l⟩,b.EX,fun p c=>⟨(b.procs p c).1.le l,(b.procs p c).2.1.le l,(b.procs p c).2.2⟩,b.FU,fun d a=>?_,by have:=h.GN;simp [Pl.PW.keep];omega,fun v f=>(h.places v f).le l,b.EM,h.globals.le l,b.D1⟩,l⟩;rcases List.mem_append.1 a with a | a
 ·exact(b.AG d a).le l n_
 ·obtain rfl:d=S.AB:=by simpa using a
  exact e.le l (Nat.le_succ t)
theorem WW.out{W:PW}(h:WW W t)(o:AE):WW {W with out:=o} t/\Le W {W with out:=o}:=by
 have l:Le W {W with out:=o}:=⟨VP _,n_,n_,n_⟩
 exact⟨⟨h.KV,fun i p a=>⟨(h.CH i p a).1.le l,(h.CH i p a).2.le l⟩,h.EX,fun p a=>⟨(h.procs p a).1.le l,(h.procs p a).2.1.le l,(h.procs p a).2.2⟩,h.FU,fun c b=>(h.AG c b).le l n_,h.GN,fun v d=>(h.places v d).le l,h.EM,h.globals.le l,h.D1⟩,l⟩
theorem BL.TT{W:PW}{S:PS}{v:PV}(h:BL W v):BL (W.keep S) v:=by
 cases v with
 | cont i=>simp only [BL,Pl.PW.keep,a_] at h ⊢;omega
 | _=>exact h
theorem BL.TO{W:PW}{S:PS}:BL (W.keep S) (.cont W.AG.length):=by simp [BL,Pl.PW.keep]
theorem aDI(l:List AE)(n:Nat):(Pl.C1 l n).length=l.length:=by
 induction l generalizing n with
 | nil=>rfl
 | cons x l a=>simp [Pl.C1,a]
theorem aDX{W:PW}{env:Env}{s:AE}{k:Nat}(d:LG W env)(e:LG W W.globals)(h:Pl.DL W env s=some k):k<W.places.length:=by
 unfold Pl.DL at h
 cases a:Pl.find env s with
 | some j =>rw [a] at h;obtain rfl:=i_ h;obtain⟨b,c,rfl⟩:=mC _ _ _ a;exact d b c
 | none =>rw [a] at h;obtain⟨b,c,rfl⟩:=mC _ _ _ h;exact e b c
def Good(r:SR)(t:Nat):Prop:=r.e≠7/\WW r.W t/\(r.e=0->SW r.W r.S t)
theorem Good.later{r:SR}(h:Good r t)(a:t<=t'):Good r t':=⟨h.1,h.2.1.later a,fun e=>(h.2.2 e).le (Le.refl _) a⟩
theorem z7:(0:Nat)≠7:=by decide
theorem bL{W:PW}{S:PS}{n:Nat}(a:WW W t)(b:n≠7)(c:n≠0):Good ⟨n,W,S⟩ t:=⟨b,a,fun e=>absurd e c⟩
theorem bH{W W':PW}{S:PS}{v:PV}(a:WW W' t')(l:Le W W')(b:t<=t')(c:SW W S t)(d:BL W' v):Good ⟨0,W',S.A1 v⟩ t':=⟨z7,a,fun _=>(c.le l b).A1 d⟩
theorem pR{W:PW}{S:PS}(c:WW W t)(d:SW W S t)(s:AE)(a b:PV):Good (Pl.reckon W S s a b) t:=by
 unfold Pl.reckon;split
 ·split
  ·exact bH c (Le.refl _) n_ d trivial
  ·split
   ·exact bH c (Le.refl _) n_ d trivial
   ·rename_i x y _ _;dsimp only;generalize (if s=BH then x+y else if s=A4 then x-y else x*y)=n;by_cases h:n.natAbs<=Pl.CG
    ·rw [if_pos h];exact bH (v:=.num n) c (Le.refl _) n_ d h
    ·rw [if_neg h];exact bL c (by decide) (by decide)
 ·exact bL c (by decide) (by decide)
theorem tC{W:PW}{S:PS}(b:WW W t)(c:SW W S t)(s:AE)(a:PV):Good (B0 W S s a) t:=by
 unfold B0;split
 ·dsimp only;split
  ·exact bH (b.out _).1 (b.out _).2 n_ c trivial
  ·exact bL b (by decide) (by decide)
 ·split
  ·split
   ·split
    ·rename_i p d;refine bH b (Le.refl _) n_ c ?_;split
     ·exact(b.CH _ p d).2
     ·exact(b.CH _ p d).1
    ·exact bL b (by decide) (by decide)
   ·exact bL b (by decide) (by decide)
  ·split
   ·exact bH b (Le.refl _) n_ c trivial
   ·exact bH b (Le.refl _) n_ c trivial
theorem tB{W:PW}{S:PS}(c:WW W t)(d:SW W S t)(s:AE)(a b:PV)(e:BL W a)(f:BL W b):Good (A2 W S s a b) (t+1):=by
 unfold A2;split
 ·exact bH (c.pair e f).1 (c.pair e f).2 (by omega) d (by show W.pairs.length<_;simp)
 ·split
  ·exact(bH (v:=.AT _) c (Le.refl _) n_ d trivial:Good _ t).later (by omega)
  ·exact(pR c d s a b).later (by omega)
theorem XX(W:PW)(vs:List PV)(ns:List AE)(h:ns.length<=vs.length):LG {W with places:=W.places++vs} (Pl.C1 ns W.places.length):=by
 have c:∀(ns:List AE)(n:Nat),∀b∈Pl.C1 ns n,b.2<n+ns.length:=by
  intro ns
  induction ns with
  | nil=>intro n b a;simp [Pl.C1] at a
  | cons x r d =>
   intro n b a;simp only [Pl.C1,List.mem_cons] at a;rcases a with rfl | a
   ·simp
   ·have:=d (n+1) b a;simp only [c_];omega
 intro b a;have:=c ns _ b a;show b.2<(W.places++vs).length;rw [a_];omega
theorem fL{W:PW}{S:PS}(c:WW W t)(h:SW W S t)(f:PV)(args:List PV)(q:BL W f)(j:∀v∈args,BL W v)(r:args.length<=300):Good (AH W S f args) (t+300):=by
 unfold AH;split
 ·split
  ·rename_i i p s;obtain⟨m,u,z,w⟩:=c.procs p (q_ s);split
   ·exact bL (c.later (by omega)) (by decide) (by decide)
   ·rename_i d;have d:args.length=p.1.ns.length:=by simpa using d
    obtain⟨x,k⟩:=c.QI j;refine⟨z7,x.later (by omega),fun _=>?_⟩;have n:shape p.1.k p.1.ks.length:=m.shp;rw [w] at n;have y:p.1.ks.length=1:=n;have o:p.1.ks[0]?=some (p.1.ks[0]'(by omega)):=g_ (by omega);rw [o];refine SW.work (h.le k (by omega)) ((m.kid_at o).le k) ?_ ?_
    ·intro b e;rcases List.mem_append.1 e with e | e
     ·exact u.le k b e
     ·exact XX W args p.1.ns (by omega) b e
    ·rw [a_,aDI];omega
  ·exact bL (c.later (by omega)) (by decide) (by decide)
 ·rename_i i;split
  ·rename_i a;obtain⟨l,g⟩:∃l,W.AG[i]?=some l:=⟨_,g_ q⟩
   rw [g];refine⟨z7,c.later (by omega),fun _=>?_⟩;exact((h.QO (c.AG l (q_ g))).A1 (j a (by simp))).le (Le.refl _) (by omega)
  ·exact bL (c.later (by omega)) (by decide) (by decide)
 ·split
  ·exact bL (c.later (by omega)) (by decide) (by decide)
  ·split
   ·exact(tC c h _ _).later (by omega)
   ·rename_i a b _;exact(tB c h _ a b (j a (by simp)) (j b (by simp))).later (by omega)
   ·exact bL (c.later (by omega)) (by decide) (by decide)
 ·exact bL (c.later (by omega)) (by decide) (by decide)
theorem tD{W:PW}{S:PS}(b:WW W t)(c:SW W S t)(f:PV)(args:List PV)(k:BL W f)(h:∀v∈args,BL W v)(d:args.length<=300):Good (Pl.apply W S f args) (t+302):=by
 unfold Pl.apply;split
 ·split
  ·rename_i a;obtain⟨i,j⟩:=b.E_ c.AB;have e:=c.le j (Nat.le_succ t);dsimp only;split
   ·obtain⟨l,m⟩:=i.E_ e.AB;have n:=e.le m (Nat.le_succ _);refine(fL l n _ _ ?_ ?_ (by simp)).later (by omega)
    ·exact BL.TT BL.TO
    ·intro v g;obtain rfl:v=.cont (W.AG.length+1):=by simpa using g
     have:=BL.TO (W:=W.keep S) (S:=S)
     rwa [show(W.keep S).AG.length=W.AG.length+1 from by simp [Pl.PW.keep]] at this
   ·refine(fL i e _ _ ((h a (by simp)).le j) ?_ (by simp)).later (by omega);intro v g;obtain rfl:v=.cont W.AG.length:=by simpa using g
    exact BL.TO
  ·exact bL (b.later (by omega)) (by decide) (by decide)
 ·exact(fL b c f args k h d).later (by omega)
theorem cW{W:PW}{S:PS}{f:PF}{env:Env}{o:Option PF}(a:WW W t)(b:SW W S t)(c:o=some f)(d:EU W f)(e:LG W env)(g:env.length<=t):Good ⟨0,W,S.work o env⟩ t:=by subst c;exact⟨z7,a,fun _=>b.work d e g⟩
theorem eW{W:PW}{f:PF}{i:Nat}(a:EU W f)(hi:i<f.ks.length):∃x,f.ks[i]?=some x/\EU W x:=⟨_,g_ hi,a.KG (List.getElem_mem hi)⟩
theorem jR{W:PW}(e:WW W t)(s:AE)(v:PV)(g:BL W v):WW (Pl.bind W s v) (t+1)/\Le W (Pl.bind W s v):=by
 unfold Pl.bind;split
 ·exact⟨(e.WT g _).1.later (by omega),(e.WT g _).2⟩
 ·obtain⟨a,k⟩:=e.QI (vs:=[v]) (fun x h=>(by simpa using h:x=v)▸g);have c:Le {W with places:=W.places++[v]} {W with places:=W.places++[v],globals:=W.globals++[(s,W.places.length)]}:=⟨VP _,n_,n_,n_⟩
  refine⟨⟨a.KV,fun i p d=>⟨(a.CH i p d).1.le c,(a.CH i p d).2.le c⟩,a.EX,fun p d=>⟨(a.procs p d).1.le c,(a.procs p d).2.1.le c,(a.procs p d).2.2⟩,a.FU,fun l j=>(a.AG l j).le c n_,a.GN,fun x h=>(a.places x h).le c,a.EM,?_,by have:=e.D1;simp;omega⟩,k.trans c⟩;intro b f;rcases List.mem_append.1 f with f | f
  ·exact e.globals.le (k.trans c) b f
  ·obtain rfl:b=(s,W.places.length):=by simpa using f
   show W.places.length<(W.places++[v]).length;simp
theorem tA{W:PW}{S:PS}(j:WW W t)(q:SW W S t)(F:S.form=none):Good (Pl.taken W S) (t+310):=by
 unfold Pl.taken;split
 ·exact bL (j.later (by omega)) (by decide) (by decide)
 ·rename_i d r z;have a:=q.AB.1 d (by rw [z];simp);have n:OP W t r:=⟨fun x l=>q.AB.1 x (by rw [z];exact List.mem_cons_of_mem _ l),by have:=q.AB.2;rw [z] at this;simp at this;omega⟩
  have b:=q.QO n;have s:=q.val F;have o:=a.G1;have u:=a.form.shp;dsimp only;split
  ·rename_i y;rw [y] at u;have B:d.form.ks.length=3:=u;split
   ·obtain⟨x,l,c⟩:=eW a.form (i:=2) (by omega);exact(cW j b l c a.env o).later (by omega)
   ·obtain⟨x,l,c⟩:=eW a.form (i:=1) (by omega);exact(cW j b l c a.env o).later (by omega)
  ·split
   ·exact(bH (v:=.nothing) (j.WT s _).1 (j.WT s _).2 n_ b trivial:Good _ t).later (by omega)
   ·exact bL (j.later (by omega)) (by decide) (by decide)
  ·exact(bH (v:=.nothing) (jR j _ _ s).1 (jR j _ _ s).2 (by omega) b trivial:Good _ (t+1)).later (by omega)
  ·rename_i y;have C:=a.JY y;obtain⟨x,l,c⟩:=eW a.form C;split
   ·rename_i A;have k:O_ W t {d with B8:=[],pos:=d.pos+1}:=⟨a.form,a.env,a.G1,a.kind,fun _=>A,fun e=>(by rw [show d.form.k=.begin from y] at e;cases e)⟩
    exact(cW (j.later (Nat.le_succ t)) (b.push k) l c a.env (by omega)).later (by omega)
   ·exact(cW j b l c a.env o).later (by omega)
  ·rename_i G H B I
   have w:d.form.k=.call:=by
    rcases a.kind with h | h | h | h | h
    ·exact absurd h G
    ·exact absurd h H
    ·exact absurd h B
    ·exact absurd h I
    ·exact h
   obtain⟨L,M,J⟩:=a.call w
   have f:∀v∈d.B8++[S.val],BL W v:=fun v p=>by
    rcases List.mem_append.1 p with p | p
    ·exact J v p
    ·obtain rfl:v=S.val:=by simpa using p
     exact s
   split
   ·split
    ·exact bL (j.later (by omega)) (by decide) (by decide)
    ·rename_i g m D;have E:m.length=d.B8.length:=by have:=congrArg List.length D;simp at this;omega
     have K:=a.form.lks;rw [D] at f;exact(tD j b g m (f g (by simp)) (fun v p=>f v (List.mem_cons_of_mem _ p)) (by omega)).later (by omega)
   ·rename_i C;obtain⟨x,l,c⟩:=eW a.form (i:=d.pos) (by omega);have k:O_ W t {d with B8:=d.B8++[S.val],pos:=d.pos+1}:=⟨a.form,a.env,a.G1,a.kind,fun e=>(by rw [show d.form.k=.call from w] at e;cases e),fun _=>⟨by simp;omega,by show d.pos+1<=d.form.ks.length;omega,f⟩⟩
    exact(cW (j.later (Nat.le_succ t)) (b.push k) l c a.env (by omega)).later (by omega)
theorem jQ{W:PW}{S:PS}(j:WW W t)(b:SW W S t):Good (Pl.step W S) (t+310):=by
 unfold Pl.step;split
 ·rename_i q;exact tA j b q
 ·rename_i f q;have g:=b.form f q;have a:=g.shp;have r:=b.G1;have h:∀(d:f.k=.iff\/f.k=.set\/f.k=.define\/f.k=.begin\/f.k=.call)(w:f.k=.begin->1<f.ks.length)(m:1<=f.ks.length),O_ W t ⟨f,[],1,S.env⟩:=fun d w m=>⟨g,b.env,b.G1,d,w,fun _=>⟨rfl,m,fun v z=>by simp at z⟩⟩
  split
  ·rename_i d;exact(bH j (Le.refl _) n_ b (g.val d):Good _ t).later (by omega)
  ·split
   ·rename_i k s;have n:=aDX b.env j.globals s;refine(bH j (Le.refl _) n_ b ?_:Good _ t).later (by omega);rw [g_ n];exact j.places _ (List.getElem_mem n)
   ·exact bL (j.later (by omega)) (by decide) (by decide)
  ·rename_i d;obtain⟨A,B⟩:=j.proc g b.env b.G1 d;exact(bH A B (by omega) b (by show W.procs.length<_;simp):Good _ (t+1)).later (by omega)
  ·rename_i d;rw [d] at a;have m:1<=f.ks.length:=a;obtain⟨x,o,l⟩:=eW g (i:=0) (by omega);split
   ·rename_i p;exact(cW (j.later (Nat.le_succ t)) (b.push (h (.inr (.inr (.inr (.inl d)))) (fun _=>p) m)) o l b.env (by omega)).later (by omega)
   ·exact(cW j b o l b.env r).later (by omega)
  ·rename_i m p y u
   have d:f.k=.iff\/f.k=.set\/f.k=.define\/f.k=.begin\/f.k=.call:=by
    cases d:f.k with
    | const=>exact absurd d m
    | name=>exact absurd d p
    | lambda=>exact absurd d y
    | begin=>exact absurd d u
    | iff=>simp
    | set=>simp
    | define=>simp
    | call=>simp
   have C:1<=f.ks.length:=by
    cases c:f.k with
    | const=>exact absurd c m
    | name=>exact absurd c p
    | lambda=>exact absurd c y
    | begin=>exact absurd c u
    | iff=>rw [c] at a;have:f.ks.length=3:=a;omega
    | set=>rw [c] at a;have:f.ks.length=1:=a;omega
    | define=>rw [c] at a;have:f.ks.length=1:=a;omega
    | call=>rw [c] at a;exact a
   obtain⟨x,o,l⟩:=eW g (i:=0) (by omega);exact(cW (j.later (Nat.le_succ t)) (b.push (h d (fun e=>absurd e u) C)) o l b.env (by omega)).later (by omega)
end
end Go.Proofs.YtkgbdddkcjpgfaaGreatDoor
