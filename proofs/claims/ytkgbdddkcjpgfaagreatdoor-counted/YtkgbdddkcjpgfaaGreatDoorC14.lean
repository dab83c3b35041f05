import Derived.Test.YtkgbdddkcjpgfaaGreatDoorC03
import Derived.Deep.RegionWith
import Derived.Lib.LaidTab
import Derived.Lib.ItoaNum
import Derived.Test.YtkgbdddkcjpgfaaGreatDoorC13
import Derived.Lib.AppendStr
import Derived.Laws.BytesArg
import Derived.Lib.ItoaLen
import Derived.Lib.AppendIntMem
import Derived.Deep.DeepCutAuto
import Derived.Test.YtkgbdddkcjpgfaaGreatDoorC10
import Derived.Test.YtkgbdddkcjpgfaaGreatDoorC06
namespace Go.Proofs.YtkgbdddkcjpgfaaGreatDoor
set_option maxHeartbeats 1000000
set_option maxRecDepth 100000
section
namespace Pl
def Acy(ps:List (PV×PV)):Prop:=∀(i:Nat)(p:PV×PV),ps[i]?=some p->rank p.1<=i/\rank p.2<=i
theorem eR{ps:List (PV×PV)}(ha:Acy ps):∀(n m:Nat)(v:PV),rank v<n->rank v<m->txt ps n v=txt ps m v/\j8 ps n v=j8 ps m v
 | 0,_,_,h,_=>by omega
 | n+1,0,_,_,h=>by omega
 | n+1,m+1,v,hn,hm=>by
  cases v with
  | pair i =>
   simp only [rank] at hn hm;have t1:∀n,txt ps (n+1) (.pair i)=(match ps[i]? with | some p=>40::(txt ps n p.1++j8 ps n p.2) | none=>[]):=fun n=>by rw [txt];cases ps[i]? <;> rfl
   have t2:∀n,j8 ps (n+1) (.pair i)=(match ps[i]? with | some p=>32::(txt ps n p.1++j8 ps n p.2) | none=>[]):=fun n=>by rw [j8];cases ps[i]? <;> rfl
   rw [t1,t1,t2,t2]
   cases hp:ps[i]? with
   | none=>simp
   | some p =>obtain⟨h1,h2⟩:=ha i p hp;have e1:=(eR ha n m p.1 (by omega) (by omega)).1;have e2:=(eR ha n m p.2 (by omega) (by omega)).2;simp [e1,e2]
  | _=>exact⟨rfl,rfl⟩
def tl(ps:List (PV×PV))(v:PV):Byt:=j8 ps (rank v+1) v
theorem text_pair{ps:List (PV×PV)}(ha:Acy ps){i:Nat}{p:PV×PV}(h:ps[i]?=some p):text ps (.pair i)=40::(text ps p.1++tl ps p.2):=by obtain⟨h1,h2⟩:=ha i p h;unfold text;rw [show rank (.pair i)+1=(i+1)+1 from rfl];rw [txt,h];dsimp only;rw [(eR ha (i+1) (rank p.1+1) p.1 (by omega) (by omega)).1,(eR ha (i+1) (rank p.2+1) p.2 (by omega) (by omega)).2];rfl
theorem tl_pair{ps:List (PV×PV)}(ha:Acy ps){i:Nat}{p:PV×PV}(h:ps[i]?=some p):tl ps (.pair i)=32::(text ps p.1++tl ps p.2):=by obtain⟨h1,h2⟩:=ha i p h;unfold tl;rw [show rank (.pair i)+1=(i+1)+1 from rfl];rw [j8,h];dsimp only;rw [(eR ha (i+1) (rank p.1+1) p.1 (by omega) (by omega)).1,(eR ha (i+1) (rank p.2+1) p.2 (by omega) (by omega)).2];rfl
theorem tl_atom(ps:List (PV×PV))(v:PV)(h:∀i,v≠.pair i)(he:v≠.empty):tl ps v=[32,46,32]++text ps v++[41]:=by
 cases v with
 | pair i=>exact absurd rfl (h i)
 | empty=>exact absurd rfl he
 | _=>rfl
theorem text_atom(ps:List (PV×PV))(v:PV)(h:∀i,v≠.pair i):text ps v=atomT v:=by
 cases v with
 | pair i=>exact absurd rfl (h i)
 | _=>rfl
def Q(a b:Byt):Prop:=a.take 201=b.take 201
theorem Q.refl(a:Byt):Q a a:=rfl
theorem Q.symm{a b:Byt}(h:Q a b):Q b a:=Eq.symm h
theorem Q.trans{a b c:Byt}(h:Q a b)(k:Q b c):Q a c:=Eq.trans h k
theorem Q.len{a b:Byt}(h:Q a b):(200<a.length↔200<b.length):=by have:=congrArg List.length h;simp only [List.length_take] at this;omega
theorem Q.short{a b:Byt}(h:Q a b)(hl:a.length<=200):a=b:=by
 have hb:¬200<b.length:=fun hb=>by have:=h.len.2 hb;omega
 unfold Q at h
 rwa [List.take_of_length_le (by omega),List.take_of_length_le (by omega)] at h
theorem Q.app{a b:Byt}(h:Q a b)(c:Byt):Q (a++c) (b++c):=by
 by_cases hl:a.length<=200
 ·rw [h.short hl];rfl
 ·have hb:=h.len.1 (by omega);unfold Q;rw [List.take_append_of_le_length (by omega),List.take_append_of_le_length (by omega)];exact h
theorem Q.long{a:Byt}(c d:Byt)(h:200<a.length):Q (a++c) (a++d):=by unfold Q;rw [List.take_append_of_le_length (by omega),List.take_append_of_le_length (by omega)]
theorem Q.cut{a b:Byt}(h:Q a b):cut a=cut b:=by
 unfold Pl.cut;by_cases hl:200<a.length
 ·rw [if_pos hl,if_pos (h.len.1 hl)];have:(a.take 201).take 200=(b.take 201).take 200:=by rw [h]
  rw [List.take_take,List.take_take] at this;rw [show min 200 201=200 from rfl] at this;rw [this]
 ·rw [h.short (by omega)]
theorem cut_len(a:Byt):(cut a).length<=202:=by
 unfold cut;split
 ·simp;omega
 ·omega
def joinB:List Byt->Byt
 | []=>[]
 | [x]=>x
 | x::y::r=>x++32::joinB (y::r)
def listT(ts:List Byt):Byt:=40::(joinB ts++[41])
theorem joinB_snoc:∀(ts:List Byt)(t:Byt),ts≠[]->joinB (ts++[t])=joinB ts++32::t
 | [],_,h=>absurd rfl h
 | [x],t,_=>rfl
 | x::y::r,t,_=>by have ih:=joinB_snoc (y::r) t (by simp);show x++32::joinB ((y::r)++[t])=(x++32::joinB (y::r))++32::t;rw [ih];simp
def datT:Nat->Tre->Byt
 | 0,_=>[]
 | n+1,t=>match t with
  | .lit (.int _ m)=>itoa m
  | .lit (.bool x)=>if x then [35,116] else [35,102]
  | .lit (.string s)=>s
  | .agg ts=>listT (ts.map (datT n))
  | _=>[]
def QD:Tre->Prop
 | .agg ts=>∃x,ts=[.lit (.string quoteW),x]
 | .lit (.int _ _)=>True
 | .lit (.bool _)=>True
 | _=>False
def Nm(k:FK)(nm:Byt)(d:Tre):Prop:=(k=.name->nm≠[])/\(k=.const->QD d)
theorem Nm.not{k:FK}{nm:Byt}{d:Tre}(h1:k≠.name)(h2:k≠.const):Nm k nm d:=⟨fun e=>absurd e h1,fun e=>absurd e h2⟩
theorem joinB_cons(x:Byt):∀(ts:List Byt),joinB (x::ts)=x++ts.flatMap (fun t=>32::t)
 | []=>by simp [joinB]
 | y::r=>by show x++32::joinB (y::r)=_;rw [joinB_cons y r];simp
end Pl
end
open Go.Proofs.Tryz
open Pl (PV PW Byt)
section
open Go.RowKit
variable {w w':World} {M:Nat->Prop}
def oS:String := "internal/strconv.uint64pow10"
structure Gs(w:World)(M:Nat->Prop):Prop where
 size:8<=w.heap.size
 low:∀k,k<8->¬M k
 tab:Lib.TabIs prog w oS .u64 Lib.pow10Tab
theorem Tryz.powB:(prog.globalNamed oS).map (fun g=>decide (g<8))=some true:=by kernel_rfl
theorem Tryz.powG:∃g,prog.globalNamed oS=some g/\g<8:=by
 have h:=Tryz.powB
 cases hg:prog.globalNamed oS with
 | none=>rw [hg] at h;simp at h
 | some g=>rw [hg] at h;exact⟨g,rfl,by simpa using h⟩
theorem iH(h:∀k,k<8->w'.heap[k]?=w.heap[k]?)(ht:Lib.TabIs prog w oS .u64 Lib.pow10Tab):Lib.TabIs prog w' oS .u64 Lib.pow10Tab:=by obtain⟨g,hg,hl⟩:=Tryz.powG;unfold Lib.TabIs World.var? at ht ⊢;rw [hg] at ht ⊢;simp only [Option.bind_some,h g hl] at ht ⊢;exact ht
theorem Gs.stp{M':Nat->Prop}(h:Gs w M)(hs:Stp M w M' w'):Gs w' M' :=⟨Nat.le_trans h.size hs.size,fun k hk=>(hs.block k (Nat.lt_of_lt_of_le hk h.size) (h.low k hk)).2,iH (fun k hk=>(hs.block k (Nat.lt_of_lt_of_le hk h.size) (h.low k hk)).1) h.tab⟩
theorem Gs.mono{M':Nat->Prop}(h:Gs w M)(hm:∀k,M' k->M k):Gs w M':=⟨h.size,fun k hk hm'=>h.low k hk (hm k hm'),h.tab⟩
theorem Gs.below(h:Gs w M)(hb:Below w.heap.size w w'):Gs w' M:=h.stp (Stp.of_below hb)
structure WfP(W:PW):Prop where
 acy:Pl.Acy W.pairs
 vals:∀(i:Nat)(p:PV×PV),W.pairs[i]?=some p->WfV W p.1/\WfV W p.2
 len:W.pairs.length<=1000000000
theorem strcat(a b:Byt):(⟨a.toArray⟩:ByteArray)++⟨b.toArray⟩=⟨(a++b).toArray⟩:=by apply ByteArray.ext;simp [ByteArray.data_append]
end
section
open Go.RowKit Go.Lib
variable {w w':World} {b:Nat}
structure WfQ(W:PW):Prop where
 acy:Pl.Acy W.pairs
 vals:∀(i:Nat)(p:PV×PV),W.pairs[i]?=some p->WfV W p.1/\WfV W p.2
def TTxt:TypeId:=321
def TBy:TypeId:=5
def cC(l:Byt):List Value:=l.map fun b=>Value.int .u8 b.toNat
theorem Tryz.infoBy:(prog.info? 5).map (fun i=>(i.zero,i.size,i.bytes))=some (some (.int .u8 0),1,1):=by kernel_rfl
theorem wG:∃i,prog.info? TBy=some i/\i.zero=some (.int .u8 0)/\i.size=1/\i.bytes=1:=by obtain⟨i,h1,h2⟩:=Option.map_eq_some_iff.1 Tryz.infoBy;simp only [Prod.mk.injEq] at h2;exact⟨i,h1,h2.1,h2.2.1,h2.2.2⟩
theorem cJ{base:Nat}{e:TypeId}{sz:Nat}{v:Value}{n:Nat}{xs:List Value}(h:w.ownsRow base e sz v n xs):∃ao cap,v=.slice ao n cap/\n<=cap/\(ao=none->n=0):=by
 rcases h.2 with⟨rfl,rfl⟩ | ⟨g,cap,cur,rfl,_,_,h1,_⟩
 ·exact⟨none,0,rfl,Nat.le_refl _,fun _=>rfl⟩
 ·exact⟨_,cap,rfl,h1,fun h=>by cases h⟩
theorem strOf(l:Byt):strOfNums (l.map fun b=>(b.toNat:Int))=⟨l.toArray⟩:=by
 unfold strOfNums;rw [List.map_map]
 congr 2
 exact(List.map_congr_left (fun b _=>by simp)).trans (List.map_id l)
theorem lY{base:Nat}{g n cap:Nat}{l:Byt}(h:w.ownsRow base TBy 1 (.slice (some ⟨g,0,none⟩) n cap) n (cC l))(m:Nat)(hm:m<=l.length)(c:Nat) :(convert 165 9 (.slice (some ⟨g,0,none⟩) m c)).run prog w=.ok (.string ⟨(l.take m).toArray⟩) w:=by
 rw [<- strOf];refine run_convert_bytes_arg w 165 5 underlying165 underlying5 g 0 m c _ (by simp;omega) (fun i hi=>?_) 9 underlying9;have hl:i<l.length:=by omega
 have:=h.cells (g:=g) rfl i (.int .u8 (l[i].toNat:Int)) (by simp [cC,List.getElem?_eq_getElem hl]);rw [show(⟨g,0,none⟩:Addr).add i=⟨g,0+i,none⟩ from by simp [Addr.add_lit]] at this;rw [this];have h2:(l.take m)[i]?=some l[i]:=by rw [List.getElem?_take_of_lt hi,List.getElem?_eq_getElem hl]
 rw [List.getD,List.getElem?_map,h2];rfl
theorem qY(w:World)(n c:Nat):(convert 165 9 (.slice none n c)).run prog w=.ok (.string ⟨([]:List UInt8).toArray⟩) w :=run_convert_bytes_nil w 165 5 underlying165 underlying5 n c 9 underlying9
def TxtAt(w:World)(b:Nat)(l:Byt):Prop:=∃sv,w.heap[b]?=some (.cells #[sv] TTxt (0,0))/\w.ownsRow (b+1) TBy 1 sv l.length (cC l)
theorem TxtAt.lt{l:Byt}(h:TxtAt w b l):b<w.heap.size:=by obtain⟨sv,h1,_⟩:=h;exact aB h1
theorem TxtAt.alloc{l:Byt}(h:TxtAt w b l)(o:Obj):TxtAt (w.alloc o) b l:=by obtain⟨sv,h1,h2⟩:=h;exact⟨sv,(Below.heap_alloc w o b (aB h1)).trans h1,h2.alloc o⟩
theorem TxtAt.drew{l:Byt}(h:TxtAt w b l):TxtAt w.drew b l:=h
structure Txs(b:Nat)(w w':World):Prop where
 below:Below b w w'
 kept:∀(k:Nat)(x:Obj),w.heap[k]?=some x->k≠b->(∀c fz,x≠.cells c TBy fz)->w'.heap[k]?=some x
theorem Txs.refl(b:Nat)(w:World):Txs b w w:=⟨Below.refl _ _,fun _ _ h _ _=>h⟩
theorem Txs.trans{w1 w2:World}(h:Txs b w w1)(k:Txs b w1 w2):Txs b w w2:=⟨h.below.trans k.below,fun j x hx hj ht=>k.kept j x (h.kept j x hx hj ht) hj ht⟩
theorem Txs.size(h:Txs b w w'):w.heap.size<=w'.heap.size:=h.below.size
theorem Txs.block(h:Txs b w w')(k:Nat)(hk:k<b):w'.heap[k]?=w.heap[k]? := h.below.block k hk
theorem Txs.cell(h:Txs b w w'){p:Addr}(hp:p.block<b):w'.cell? p=w.cell? p:=h.below.cell hp
theorem Txs.of_below(h:Below w.heap.size w w')(hb:b<=w.heap.size):Txs b w w':=⟨h.mono hb,fun k _ hx _ _=>(h.block k (aB hx)).trans hx⟩
theorem fB(a b:Byt):cC (a++b)=cC a++cC b:=by simp [cC]
theorem jI(w:World)(b:Nat)(l:Byt)(s:ByteArray)(h:TxtAt w b l)(hl:l.length+s.size<=140000000000000) :Calls prog 335 #[.pointer (some ⟨b,0,none⟩),.string s] w fun e w'=>e=.returned (.tuple #[])/\TxtAt w' b (l++s.data.toList)/\Txs b w w':=by
 obtain⟨sv,hb,hown⟩:=h;obtain⟨i0,hi0,hz0,hz1,hz2⟩:=wG;have c0:w.cell? ⟨b,0,none⟩=some sv:=aA hb 0;have hne:some b≠sv.ownBlock:=fun e=>by have:=(hown.lt b e.symm).1;omega
 have hlt:=aB hb;go_enter func335,ntmps335;go_wp2_with (at_builtin;refine wpList_append_own_string _ rfl _ _ 165 9 rfl (b+1) TBy i0 underlying165 underlying9 hi0 hz0 hz1 hz2 sv l.length (cC l) rfl hown s rfl (by unfold maxLen;omega) (by omega) hlt ?_;intro v1 w1 hown1 hgrow1 _;obtain⟨ao1,cap1,rfl,_⟩:=cJ hown1;have hb1:=(hgrow1.block b hlt hne).trans hb;have c1:w1.cell? ⟨b,0,none⟩=some sv:=aA hb1 0;have f1:w1.frozen? ⟨b,0,none⟩=false:=aF hb1 0)
 go_end0
 refine⟨rfl,⟨_,aD hb1 0 _,?_⟩,?_⟩
 ·have:=ownsRow_setCell_below hown1 (a:=⟨b,0,none⟩) (Nat.lt_succ_self b) (.slice ao1 (l.length+s.size) cap1);rw [fB,List.length_append];exact this
 ·refine⟨((Below.refl b w).grown hgrow1 (by omega) (fun k hk=>by have:=(hown.lt k hk).1;omega)).setCell (Nat.le_refl _) _,fun k x hx hk ht=>?_⟩
  have hne2:some k≠sv.ownBlock:=fun e=>by
   rcases hown.2 with⟨hv,_⟩ | ⟨g,cap,cur,hv,_,hg,_⟩
   ·rw [hv] at e;cases e
   ·rw [hv] at e;obtain rfl:k=g:=Option.some.inj e;rw [hg] at hx;exact ht _ _ (Option.some.inj hx).symm
  have h1:=(hgrow1.block k (aB hx) hne2).trans hx;exact((aE w1 b 0 _).block k (aB h1) (fun e=>hk (Option.some.inj e))).trans h1
theorem uZ(w:World)(b:Nat)(l:Byt)(h:TxtAt w b l)(hl:l.length<=140000000000000) :Calls prog 193 #[.pointer (some ⟨b,0,none⟩)] w fun e w'=>e=.returned (.bool (decide (200<l.length)))/\w=w':=by
 obtain⟨sv,hb,hown⟩:=h;have c0:w.cell? ⟨b,0,none⟩=some sv:=aA hb 0;obtain⟨ao,cap,rfl,hcap,_⟩:=cJ hown;have hdec:decide ((200:Int)<(l.length:Int))=decide (200<l.length):=by rw [decide_eq_decide];omega
 go_enter func193,ntmps193
 go_wp2_with fail
 go_ret;exact⟨rfl,rfl⟩
theorem p_told(w:World)(b:Nat)(l:Byt)(h:TxtAt w b l)(hl:l.length<=140000000000000) :Calls prog 168 #[.pointer (some ⟨b,0,none⟩)] w fun e w'=>e=.returned (.string ⟨(Pl.cut l).toArray⟩)/\w=w':=by
 have HF:=uZ w b l h hl;obtain⟨sv,hb,hown⟩:=h;have c0:w.cell? ⟨b,0,none⟩=some sv:=aA hb 0;obtain⟨ao,cap,rfl,hcap,hnil⟩:=cJ hown;by_cases hg:200<l.length
 ·obtain⟨a,rfl⟩:∃a,ao=some a:=by
   cases ao with
   | none=>exact absurd (hnil rfl) (by omega)
   | some a=>exact⟨a,rfl⟩
  obtain⟨g,rfl⟩:∃g,a=⟨g,0,none⟩:=by
   rcases hown.2 with⟨h1,_⟩ | ⟨g,c,cur,h1,_⟩
   ·cases h1
   ·simp only [Value.slice.injEq,Option.some.injEq] at h1;exact⟨g,h1.1⟩
  have hcv:=lY hown 200 (by omega) cap;have hcat:(⟨(l.take 200).toArray⟩:ByteArray)++⟨#[46,46]⟩=⟨(l.take 200++[46,46]).toArray⟩:=strcat _ [46,46];have hcut:Pl.cut l=l.take 200++[46,46]:=by unfold Pl.cut;rw [if_pos hg]
  have hd:decide (200<l.length)=true:=by simpa using hg
  rw [hd] at HF;have hc:(200:Int)<=(cap:Int):=by omega
  rw [hcut];clear hown hnil hcut;go_enter func168,ntmps168;go_wp2_with (go_at_call 193;refine HF.mono ?_;rintro e w' ⟨rfl,rfl⟩);go_ret;exact⟨rfl,rfl⟩
 ·have hcut:Pl.cut l=l:=by unfold Pl.cut;rw [if_neg hg]
  have hd:decide (200<l.length)=false:=by simpa using hg
  rw [hd] at HF
  have hcv:(convert 165 9 (.slice ao l.length cap)).run prog w=.ok (.string ⟨l.toArray⟩) w:=by
   rcases hown.2 with⟨h1,h0⟩ | ⟨g,c,cur,h1,_⟩
   ·simp only [Value.slice.injEq] at h1;obtain⟨rfl,_,rfl⟩:=h1;obtain rfl:=List.eq_nil_of_length_eq_zero h0;exact qY w _ _
   ·simp only [Value.slice.injEq] at h1;obtain⟨rfl,_,rfl⟩:=h1;have:=lY hown l.length (Nat.le_refl _) cap;rw [List.take_length] at this;exact this
  rw [hcut];clear hown hnil hcut;go_enter func168,ntmps168;go_wp2_with (go_at_call 193;refine HF.mono ?_;rintro e w' ⟨rfl,rfl⟩);go_ret;exact⟨rfl,rfl⟩
def AddPost(w:World)(b:Nat)(l t:Byt)(e:Ending)(w':World):Prop:=e=.returned (.tuple #[])/\TxtAt w' b (l++t)/\Txs b w w'
theorem TxtAt.later{l:Byt}(h:TxtAt w b l)(hb:Below w.heap.size w w'):TxtAt w' b l:=by
 obtain⟨sv,h1,h2,h3⟩:=h;refine⟨sv,(hb.block b (aB h1)).trans h1,h2,?_⟩;rcases h3 with h3 | ⟨g,cap,cur,e,hg,hc,r⟩
 ·exact .inl h3
 ·exact .inr ⟨g,cap,cur,e,hg,(hb.block g (aB hc)).trans hc,r⟩
theorem cX(w:World)(b:Nat)(o:Obj)(h:b<=w.heap.size):Below b w (w.alloc o):=(Below.refl b w).alloc h o
theorem f6(w:World)(b:Nat)(o:Obj)(h:b<=w.heap.size):Txs b w (w.alloc o):=Txs.of_below (cX w _ o (Nat.le_refl _)) h
theorem uQ(w:World)(b:Nat)(l:Byt)(x:Bool)(h:TxtAt w b l)(hl:l.length<=1000000000):Calls prog 358 #[.bool x,.pointer (some ⟨b,0,none⟩)] w fun e w'=>AddPost w b l (Pl.atomT (.truth x)) e w':=by
 have HT:Hid (TxtAt w b l):=h;have HL:Hid (l.length+2<=140000000000000):=show _ from by show l.length+2<=_;omega
 clear h
 cases x
 ·go_enter func358,ntmps358
  go_wp2_with (go_at_call 335;refine(jI _ b l _ (by first | exact HT.out | exact HT.out.alloc _) (by have:=HL.out;first | exact this | (show l.length+Array.size _<=_;simp;omega))).mono ?_;rintro e w1 ⟨rfl,ht1,hB1⟩)
  go_end0
  exact⟨rfl,ht1,by first | exact hB1 | exact(f6 w b _ (Nat.le_of_lt HT.out.lt)).trans hB1⟩
 ·go_enter func358,ntmps358
  go_wp2_with (go_at_call 335;refine(jI _ b l _ (by first | exact HT.out | exact HT.out.alloc _) (by have:=HL.out;first | exact this | (show l.length+Array.size _<=_;simp;omega))).mono ?_;rintro e w1 ⟨rfl,ht1,hB1⟩)
  go_end0
  exact⟨rfl,ht1,by first | exact hB1 | exact(f6 w b _ (Nat.le_of_lt HT.out.lt)).trans hB1⟩
theorem yI(w:World)(b:Nat)(l:Byt)(x:Byt)(h:TxtAt w b l)(hl:l.length<=1000000000)(hx:x.length<=300):Calls prog 360 #[.string ⟨x.toArray⟩,.pointer (some ⟨b,0,none⟩)] w fun e w'=>AddPost w b l x e w':=by
 have HT:Hid (TxtAt w b l):=h;have HL:Hid (l.length+x.toArray.size<=140000000000000):=show _ from by show l.length+_<=_;simp;omega
 clear h;go_enter func360,ntmps360;go_wp2_with (go_at_call 335;refine(jI _ b l _ (by first | exact HT.out | exact HT.out.alloc _) (by have:=HL.out;first | exact this | (show l.length+Array.size _<=_;simp;omega))).mono ?_;rintro e w1 ⟨rfl,ht1,hB1⟩)
 go_end0
 exact⟨rfl,ht1,by first | exact hB1 | exact(f6 w b _ (Nat.le_of_lt HT.out.lt)).trans hB1⟩
theorem uR(w:World)(b:Nat)(l:Byt)(h:TxtAt w b l)(hl:l.length<=1000000000):Calls prog 397 #[.agg #[],.pointer (some ⟨b,0,none⟩)] w fun e w'=>AddPost w b l (Pl.atomT .empty) e w':=by
 have HT:Hid (TxtAt w b l):=h;have HL:Hid (l.length+2<=140000000000000):=show _ from by show l.length+2<=_;omega
 clear h;go_enter func397,ntmps397;go_wp2_with (go_at_call 335;refine(jI _ b l _ (by first | exact HT.out | exact HT.out.alloc _) (by have:=HL.out;first | exact this | (show l.length+Array.size _<=_;simp;omega))).mono ?_;rintro e w1 ⟨rfl,ht1,hB1⟩)
 go_end0
 exact⟨rfl,ht1,by first | exact hB1 | exact(f6 w b _ (Nat.le_of_lt HT.out.lt)).trans hB1⟩
theorem oU(w:World)(b:Nat)(l:Byt)(h:TxtAt w b l):Calls prog 362 #[.agg #[],.pointer (some ⟨b,0,none⟩)] w fun e w'=>AddPost w b l [] e w':=by
 have HT:Hid (TxtAt w b l):=h;clear h;go_enter func362,ntmps362;go_wp2_with fail
 go_end0
 exact⟨rfl,by rw [List.append_nil];exact HT.out.alloc _,f6 w b _ (Nat.le_of_lt HT.out.lt)⟩
theorem lS(w:World)(b:Nat)(l:Byt)(h:TxtAt w b l)(hl:l.length<=1000000000):Calls prog 348 #[.agg #[],.pointer (some ⟨b,0,none⟩)] w fun e w'=>AddPost w b l Pl.procW e w':=by
 have HT:Hid (TxtAt w b l):=h;have HL:Hid (l.length+10<=140000000000000):=show _ from by show l.length+10<=_;omega
 clear h;go_enter func348,ntmps348;go_wp2_with (go_at_call 335;refine(jI _ b l _ (by first | exact HT.out | exact HT.out.alloc _) (by have:=HL.out;first | exact this | (show l.length+Array.size _<=_;simp;omega))).mono ?_;rintro e w1 ⟨rfl,ht1,hB1⟩)
 go_end0
 exact⟨rfl,ht1,by first | exact hB1 | exact(f6 w b _ (Nat.le_of_lt HT.out.lt)).trans hB1⟩
theorem yG(w:World)(b:Nat)(l:Byt)(n:Int)(h:TxtAt w b l)(hl:l.length<=1000000000):Calls prog 349 #[.int .i64 n,.pointer (some ⟨b,0,none⟩)] w fun e w'=>AddPost w b l Pl.procW e w':=by
 have HC:Hid (Calls prog 348 #[.agg #[],.pointer (some ⟨b,0,none⟩)] w fun e w'=>AddPost w b l Pl.procW e w'):=lS w b l h hl;clear h;go_enter func349,ntmps349;go_wp2_with (go_at_call 348;refine Calls.mono HC.out ?_;rintro e w1 ⟨rfl,ht1,hB1⟩)
 go_end0
 exact⟨rfl,ht1,hB1⟩
theorem sD(w:World)(b:Nat)(l:Byt)(h:TxtAt w b l)(hl:l.length<=1000000000):Calls prog 346 #[.agg #[],.pointer (some ⟨b,0,none⟩)] w fun e w'=>AddPost w b l Pl.procW e w':=by
 have HC:Hid (∀o,Calls prog 348 #[.agg #[],.pointer (some ⟨b,0,none⟩)] (w.alloc o) fun e w'=>AddPost (w.alloc o) b l Pl.procW e w'):=fun o=>lS _ b l (h.alloc o) hl;have hlt:=h.lt;clear h;go_enter func346,ntmps346;go_wp2_with (go_at_call 348;refine(HC.out _).mono ?_;rintro e w1 ⟨rfl,ht1,hB1⟩)
 go_end0
 exact⟨rfl,ht1,(f6 w b _ (Nat.le_of_lt hlt)).trans hB1⟩
theorem sC(w:World)(b:Nat)(l:Byt)(n:Int)(h:TxtAt w b l)(hl:l.length<=1000000000)(hn:n.natAbs<=1099511627776)(ht:Lib.TabIs prog w oS .u64 Lib.pow10Tab):Calls prog 354 #[.int .i64 n,.pointer (some ⟨b,0,none⟩)] w fun e w'=>AddPost w b l (Pl.itoa n) e w':=by
 have HF:Hid (Calls prog 356 #[.int .i64 n,.int .i64 10] w fun e w'=>e=.returned (.string ⟨(Pl.itoa n).toArray⟩)/\Below w.heap.size w w'/\(Pl.itoa n).length<=30):=show Calls _ _ _ _ _ from(Tryz.strconv_FormatInt_10 n (by omega) (by omega) w ht).mono (fun e w' ⟨h1,k,os,h2⟩=>⟨h1,by subst h2;exact below_grow _ _ (Nat.le_refl _) _ _,by
  have:=Lib.itoa_length_le n (by omega) (by omega);show(Lib.itoa n).length<=30
  omega⟩)
 have HT:Hid (TxtAt w b l):=h;have HL:Hid (l.length<=1000000000):=hl;clear h ht;generalize Pl.itoa n=t at *;go_enter func354,ntmps354
 go_wp2_with (first
  | (go_at_call 356;refine Calls.mono HF.out ?_;rintro e w1 ⟨rfl,hB1,hlen⟩)
  | (go_at_call 335;refine(jI _ b l _ (HT.out.later hB1) (by have:=HL.out;show l.length+t.toArray.size<=_;simp;omega)).mono ?_;rintro e w2 ⟨rfl,ht2,hB2⟩))
 go_end0
 exact⟨rfl,ht2,(Txs.of_below hB1 (Nat.le_of_lt HT.out.lt)).trans hB2⟩
def Enters(f:FuncId):Prop:=∀(args:Array Value)(w:World),(callFunc f args).run prog w=.ok (.enter f args) w
theorem Tryz.ent_num:Enters 354:=enters_of func354 (by kernel_rfl) rfl
theorem Tryz.ent_truth:Enters 358:=enters_of func358 (by kernel_rfl) rfl
theorem Tryz.ent_name:Enters 360:=enters_of func360 (by kernel_rfl) rfl
theorem Tryz.ent_empty:Enters 397:=enters_of func397 (by kernel_rfl) rfl
theorem Tryz.ent_nothing:Enters 362:=enters_of func362 (by kernel_rfl) rfl
theorem Tryz.ent_pair:Enters 399:=enters_of func399 (by kernel_rfl) rfl
theorem Tryz.ent_prim:Enters 349:=enters_of func349 (by kernel_rfl) rfl
theorem Tryz.ent_callcc:Enters 346:=enters_of func346 (by kernel_rfl) rfl
theorem Tryz.ent_app:Enters 348:=enters_of func348 (by kernel_rfl) rfl
end
open Pl (SR arity prims)
section
open Go.RowKit
variable {n:Nat}
theorem bO{w X:World}{R:Nat}(hB:Below w.heap.size w X)(hR:w.heap.size<=R)(o:Nat)(v:Value):Below w.heap.size w (X.setCell ⟨R,o,none⟩ v) :=⟨hB.os,hB.tape,hB.output,by have:=hB.size;simp [World.setCell];omega,fun k hk=>by rw [Below.heap_setCell _ _ _ _ (fun e=>by simp at e;omega)];exact hB.block k hk⟩
def iE:List Nat:=[2,2,2,2,2,2,1,1,1,1,2,1,1]
def ArOk(s:Byt)(n k:Nat):Prop:=∀j,j<k->∀h:j<13,prims[j]'h=s->iE[j]'h=n
theorem ArOk.start(s:Byt)(n:Nat):ArOk s n 0:=fun j hj=>by omega
theorem ArOk.next{s:Byt}{k:Nat}(h:ArOk s n k)(hk:k<13)(he:prims[k]'hk=s->iE[k]'hk=n):ArOk s n (k+1):=fun j hj hl e=>by
 by_cases h1:j=k
 ·subst h1;exact he e
 ·exact h j (by omega) hl e
theorem jD:∀k:Nat,∀h:k<13,iE[k]'h=arity (prims[k]'h):=by decide
theorem ArOk.done{s:Byt}(h:ArOk s n 13)(hs:s∈prims):n=arity s:=by obtain⟨k,hk,rfl⟩:=List.getElem_of_mem hs;have hk':k<13:=hk;rw [<- h k hk' hk' rfl];exact jD k hk'
theorem ArOk.fail{s:Byt}{k:Nat}(hk:k<13)(he:prims[k]'hk=s)(hn:¬iE[k]'hk=n):¬n=arity s:=by subst he;rw [<- jD k hk];exact fun e=>hn e.symm
theorem Res.pre{M:Nat->Prop}{w wA:World}{wb xb:Nat}{r:SR}{e:Ending}{w':World}(hb:Below w.heap.size w wA)(h:Res M wA wb xb r e w'):Res M w wb xb r e w':=by obtain⟨h1,M',h2,h3,h4⟩:=h;exact⟨h1,M',h2,((Stp.of_below hb).mx xb).trans h3,h4⟩
end
end Go.Proofs.YtkgbdddkcjpgfaaGreatDoor
