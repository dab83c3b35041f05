import Derived.Test.YtieooapcfpimlaaGreatDoorL51
namespace Go.Proofs.YtieooapcfpimlaaGreatDoor
set_option maxHeartbeats 4000000
set_option maxRecDepth 100000
open Go.Proofs.Tryz
open Pl (AE PO AW)
section
open Go.RowKit Go.Lib Go.Maps
variable {w:World} {n g:Nat}
def aOY(c n:Int):Int:=if c<0 then -((c+1).tmod n) else c % n
theorem p_pickV(w:World)(c n:Int)(g:0<n)(i : -9223372036854775808<=c/\c<=9223372036854775807):Calls prog 8 #[.int .i64 c,.int .i64 n] w fun e b=>e=.returned (.int .i64 (aOY c n))/\w=b:=by
 have d:¬n=0:=by omega
 by_cases h:c<0
 ·have f:decide (c<0)=true:=by simpa using h
  have j:IntKind.i64.wrap (c+1)=c+1:=IntWalk.i64_in _ (by omega);have k:IntKind.i64.wrap (-(c+1))=-(c+1):=IntWalk.i64_in _ (by omega);have a:aOY c n=-((c+1).tmod n):=by unfold aOY;rw [if_pos h]
  rw [a];clear a;go_enter func8,ntmps8;go_wp2_with fail;go_ret;exact⟨rfl,rfl⟩
 ·have f:decide (c<0)=false:=by simpa using h
  have a:aOY c n=c % n:=by unfold aOY;rw [if_neg h]
  rw [a];clear a;go_enter func8,ntmps8;go_wp2_with fail;go_ret;exact⟨rfl,rfl⟩
theorem aOX(c n:Int)(a:0<n):0<=aOY c n/\aOY c n<n:=by
 unfold aOY;split
 ·rename_i h;have e : -((c+1).tmod n)=(-(c+1)).tmod n:=(Int.neg_tmod _ _).symm;rw [e];exact⟨Int.tmod_nonneg _ (by omega),Int.tmod_lt_of_pos _ a⟩
 ·exact⟨Int.emod_nonneg _ (by omega),Int.emod_lt_of_pos _ a⟩
def aO2:List Value->List (ByteArray×Int)
 | .string s::.int _ k::r=>(s,k)::aO2 r
 | _=>[]
theorem enc_at:∀(l:List (ByteArray×Int)) (k:Nat) (i:ByteArray×Int),l[k]?=some i->(l.flatMap iL)[k*2]?=some (.string i.1)/\(l.flatMap iL)[k*2+1]?=some (.int .i64 i.2)
 | [],_,_,h=>by simp at h
 | x::l,0,i,h=>by obtain rfl:=i_ h;exact⟨rfl,rfl⟩
 | x::l,k+1,i,h=>by rw [show(k+1)*2=k*2+2 from by omega];exact enc_at l k i h
theorem scr_ins{cs:Array Value}{T:TypeId}(a:w.heap[g]?=some (.cells cs T (0,0)))(h:cs.toList=(aO2 cs.toList).flatMap iL)(b:(aO2 cs.toList).length=n):F8 w (.slice (some ⟨g,0,none⟩) n n) (aO2 cs.toList):=by subst b;refine qB a (fun k i c=>?_) _ n_;have:=enc_at _ k i c;rw [<- h] at this;simpa using this
def poB(o:OB):PO:=⟨o.1,o.2.1.data.toList,o.2.2.data.toList⟩
def aO3(w:World)(g:Nat):Nat->List OB->Prop
 | _,[]=>True
 | k,o::r=>w.cell? ⟨g,k,none⟩=some (.int .i64 (o.1:Int))/\w.cell? ⟨g,k+1,none⟩=some (.string o.2.1)/\w.cell? ⟨g,k+2,none⟩=some (.string o.2.2)/\aO3 w g (k+3) r
theorem aPC:∀(l:List OB)(j:Nat),(∀(k:Nat)(o:OB),l[k]?=some o->w.cell? ⟨g,j+k*3,none⟩=some (.int .i64 (o.1:Int))/\w.cell? ⟨g,j+k*3+1,none⟩=some (.string o.2.1)/\w.cell? ⟨g,j+k*3+2,none⟩=some (.string o.2.2))->aO3 w g j l
 | [],_,_=>trivial
 | x::l,j,h=>by obtain⟨a,b,c⟩:=h 0 x rfl;refine⟨by simpa using a,by simpa using b,by simpa using c,aPC l (j+3) (fun k o d=>?_)⟩;have:=h (k+1) o d;rw [show j+(k+1)*3=j+3+k*3 from by omega] at this;exact this
theorem out_cells{cap:Nat}{l:List OB}(h:KB w (.slice (some ⟨g,0,none⟩) n cap) (l.map poB)):aO3 w g 0 l:=by
 refine aPC l 0 (fun k o a=>?_);obtain⟨b,e,_,c,d,f⟩:=h.get (k:=k) (o:=poB o) (by rw [List.getElem?_map,a];rfl);obtain rfl:b=g:=by simpa using e.symm
 simp only [Nat.zero_add];exact⟨c,d,f⟩
def KpB(w w5 w':World):Prop:=Below w.heap.size w w'/\Below w5.heap.size w5 w'
theorem KpB.go{w5 w1 w2:World}(h:KpB w w5 w1)(a:Below w1.heap.size w1 w2):KpB w w5 w2:=⟨h.1.trans (a.mono h.1.size),h.2.trans (a.mono h.2.size)⟩
theorem KpB.cell{w5 w':World}(h:KpB w w5 w')(a:g<w5.heap.size)(k:Nat):w'.cell? ⟨g,k,none⟩=w5.cell? ⟨g,k,none⟩:=h.2.cell (p:=⟨g,k,none⟩) a
theorem p_slowS(h:Low w){S:List (AE×Int)}{os:List PO}(j:(Pl.AF AW S).2=os)(l:os.length=n)(v:n<=GK)(r:0<n)(c:World)(cs:Array Value)(m:Below w.heap.size w c)(s:cs.toList=(aO2 cs.toList).flatMap iL)(o:(aO2 cs.toList).map B5=S) :Calls prog 9 #[.slice (some ⟨c.heap.size,0,none⟩) n n] (c.alloc (.cells cs 25)) fun e f=>∃g a,e=.returned (.slice (some ⟨g,0,none⟩) n a)/\n<=a/\Hid (Below w.heap.size w f/\F8 f (.slice (some ⟨c.heap.size,0,none⟩) n n) (aO2 cs.toList)/\KB f (.slice (some ⟨g,0,none⟩) n a) os):=by
 have b:Below w.heap.size w (c.alloc (.cells cs 25)):=m.alloc m.size _;have d:(aO2 cs.toList).length=n:=by rw [<- l,<-j,Pl.PP,<-o,List.length_map]
 have p:=scr_ins (heap_alloc_new c (.cells cs 25)) s d;refine(j0 _ _ _ p (by omega) (h.below b)).mono (fun e f ⟨x,t,q,i⟩=>?_);rw [o,j] at i;obtain⟨y,a,rfl,u⟩:=i.row l;obtain⟨g,rfl,_⟩:=i.get (k:=0) (g_ (by omega));exact⟨g,a,t,u,b.trans (q.mono b.size),p.below q,i⟩
theorem p_fastS(h:Low w){S:List (AE×Int)}{os:List PO}(f:(Pl.AF AW S).2=os)(r:∀o∈os,o.code≠7)(j:os.length=n)(z:n<=GK)(s:0<n)(w1:World)(i l:Value)(ins:List (ByteArray×Int))(b:Below w.heap.size w w1/\F8 w1 i ins/\KB w1 l os)(m:ins.map B5=S) :Calls prog 10 #[i] w1 fun e c=>∃g a,e=.returned (.slice (some ⟨g,0,none⟩) n a)/\n<=a/\Hid (Below w.heap.size w c/\KB c l os/\KB c (.slice (some ⟨g,0,none⟩) n a) os):=by
 obtain⟨b,t,u⟩:=b;have p:ins.length=n:=by rw [<- j,<-f,Pl.PP,<-m,List.length_map]
 have v:(Pl.fses (AW,false) S).2=os:=by rw [Pl.fses_same S AW (by rw [f];exact r)];exact f
 refine(aK8 _ _ _ t (by omega) (h.below b)).mono (fun e c ⟨i,x,q,d⟩=>?_);rw [m,v] at d;obtain⟨A,a,rfl,y⟩:=d.row j;obtain⟨g,rfl,_⟩:=d.get (k:=0) (g_ (by omega));exact⟨g,a,x,y,b.trans (q.mono b.size),u.below q,d⟩
def aRN(b:AE):ByteArray:=⟨b.toArray⟩
def aRY(m:List Int):List (ByteArray×Int):=(aRN Pl.lstD,2000)::m.map (fun a=>(aRN (Pl.segT (Pl.lstC a).1 (Pl.lstC a).2),2000))
def lstL(m:List Int):List (ByteArray×Int):=aRY m++Pl.lstE.map (fun z=>(aRN z,2000))
theorem aRX(m:List Int):(lstL m).map B5=(Pl.lstS m).map Pl.segI:=by unfold lstL aRY Pl.lstS B5 aRN Pl.segI;simp [Pl.segT,Function.comp_def]
def lstF(tB rB hB:ByteArray):List OB:=[(0,noB,tB),(0,tB,⟨#[35,116]⟩),(0,noB,rB),(0,noB,⟨#[35,102]⟩),(0,noB,hB)]
def aRZ(l:List Int):List OB:=List.replicate (l.length+1) (0,noB,noB)++lstF (aRN (Pl.lsT l)) (aRN (Pl.rsT l)) (aRN (Pl.hdT l))
theorem lstB_at{L:List Int}{N:Nat}(a:L.length=n)(j:Nat)(b:N=n+1+j):((aRZ L).map poB)[N]?=((lstF (aRN (Pl.lsT L)) (aRN (Pl.rsT L)) (aRN (Pl.hdT L))).map poB)[j]? := by unfold aRZ;rw [b,List.map_append,List.getElem?_append_right (by simp;omega)];simp [a]
theorem aRQ{s:ByteArray}{b:AE}(h:s.data.toList=b):s=aRN b:=by unfold aRN;rw [<- h]
theorem aRV:∀(r:List Int),(∀a∈r,0<=a/\a<1000)->(Pl.tlT r).length<=15*r.length+1
 | [],_=>by simp [Pl.tlT]
 | a::r,h=>by have c:=aRV r (fun x b=>h x (List.mem_cons_of_mem _ b));have d:=Pl.itoa_len (n:=a) (by have:=h a (by simp);unfold Pl.CG;omega);simp only [Pl.tlT,c_,a_];omega
theorem aR0{l:List Int}(h:∀a∈l,0<=a/\a<1000):(Pl.lsT l).length<=15*l.length+2:=by
 cases l with
 | nil=>simp [Pl.lsT,Pl.inT]
 | cons a r =>have c:=aRV r (fun x b=>h x (List.mem_cons_of_mem _ b));have d:=Pl.itoa_len (n:=a) (by have:=h a (by simp);unfold Pl.CG;omega);simp only [Pl.lsT,Pl.inT,c_,a_];omega
theorem lst_os{L:List Int}(h:L.length<=12)(c:∀a∈L,0<=a/\a<1000):(Pl.AF AW ((Pl.lstS L.reverse).map Pl.segI)).2=(aRZ L).map poB:=by
 obtain⟨g,i,j⟩:=Pl.lst_q L h;have d:∀{a:Int},0<=a/\a<1000->a.natAbs<=Pl.CG:=fun {a} h=>by unfold Pl.CG;omega
 have k:=Pl.seg_all (Pl.lstS L.reverse) g (fun s e x b=>by
  simp only [Pl.lstS,List.mem_cons,List.mem_append,List.mem_map,List.mem_reverse] at e;rcases e with rfl | ⟨a,m,rfl⟩ | ⟨z,_,rfl⟩
  ·simp at b
  ·simp only [Pl.lstC,List.mem_cons,List.not_mem_nil,or_false] at b;subst b;exact d (c a m)
  ·simp at b)
 have t:=aR0 c;have f:Pl.cut (Pl.lsT L)=Pl.lsT L:=by unfold Pl.cut;rw [if_neg (by omega)]
 have n:Pl.cut (Pl.rsT L)=Pl.rsT L:=by
  cases L with
  | nil=>rfl
  | cons a r =>have:=aR0 (l:=r) (fun x b=>c x (List.mem_cons_of_mem _ b));simp only [c_] at h;show Pl.cut (Pl.lsT r)=Pl.lsT r;unfold Pl.cut;rw [if_neg (by omega)]
 have o:Pl.cut (Pl.hdT L)=Pl.hdT L:=by
  cases L with
  | nil=>exact Pl.itoa_cut (by decide)
  | cons a r=>exact Pl.itoa_cut (d (c a (by simp)))
 rw [Pl.sesT_eq (ov:=false) _ _ AW k (by
  rw [j,f];intro p q;obtain rfl:=List.mem_singleton.1 q
  omega),i]
 unfold Pl.lstO aRZ lstF;rw [f,n,o];simp [poB,noB,aRN]
theorem p_slowT(h:Low w){S:List (AE×Int)}{os:List PO}(i:(Pl.AF AW S).2=os)(j:os.length=n)(t:n<=GK)(q:0<n)(w1:World)(c:Value)(ins:List (ByteArray×Int))(b:Below w.heap.size w w1/\F8 w1 c ins)(l:ins.map B5=S) :Calls prog 9 #[c] w1 fun e d=>∃g a,e=.returned (.slice (some ⟨g,0,none⟩) n a)/\n<=a/\Hid (Below w.heap.size w d/\F8 d c ins/\KB d (.slice (some ⟨g,0,none⟩) n a) os):=by
 obtain⟨b,m⟩:=b;have o:ins.length=n:=by rw [<- j,<-i,Pl.PP,<-l,List.length_map]
 refine(j0 _ _ _ m (by omega) (h.below b)).mono (fun e d ⟨c,r,p,f⟩=>?_);rw [l,i] at f;obtain⟨u,a,rfl,s⟩:=f.row j;obtain⟨g,rfl,_⟩:=f.get (k:=0) (g_ (by omega));exact⟨g,a,r,s,b.trans (p.mono b.size),m.below p,f⟩
def IntsIn(w:World)(v:Value)(l:List Int):Prop:=∃ao cap,v=.slice ao l.length cap/\l.length<=cap/\∀(k:Nat)(i:Int),l[k]?=some i->∃g off,ao=some ⟨g,off,none⟩/\g<w.heap.size/\w.cell? ⟨g,off+k,none⟩=some (.int .i64 i) /\ -9223372036854775808<=i/\i<=9223372036854775807
theorem aRW{B:Nat}{e:TypeId}{k:Nat}{v:Value}{xs:List Value}{w':World}(h:w.ownsRow B e k v n xs)(a:Below w.heap.size w w'):w'.ownsRow B e k v n xs :=h.kept (row:=none) ⟨a.os,a.tape,a.output,a.size,fun j b _=>a.block j b⟩ (by cases c:v.ownBlock<;>simp)
theorem aRS(a:Int)(r:List Int):Pl.inT (a::r)=Pl.itoa a++(if r=[] then [41] else 32::Pl.inT r):=by
 cases r with
 | nil=>rfl
 | cons b r=>rw [if_neg (by simp)];rfl
theorem inT_len{L:List Int}(h:L≠[]):2<=(Pl.inT L).length:=by
 cases L with
 | nil=>exact absurd rfl h
 | cons a r =>rw [aRS,a_];have b:0<(Pl.itoa a).length:=List.length_pos_iff.2 (Pl.itoa_tok a).2.1;split<;>simp<;>omega
theorem aSL{a b:Int}{r:List Int}{c d:ByteArray}(f:c=aRN (Pl.lsT (a::b::r)))(g:d=aRN (Pl.itoa a)):(⟨#[40]⟩:ByteArray)++c.extract (d.size+2) c.size=aRN (Pl.lsT (b::r)):=by
 have e:c.data.toList=40::(Pl.itoa a++32::Pl.inT (b::r)):=by rw [f];rfl
 have h:d.size=(Pl.itoa a).length:=by rw [g];exact List.size_toArray
 have i:c.size=(40::(Pl.itoa a++32::Pl.inT (b::r))).length:=by rw [<- e];rfl
 refine aRQ ?_;rw [ByteArray.data_append,Array.toList_append,ByteArray.data_extract,Array.toList_extract,e,h,i];have j:(40::(Pl.itoa a++32::Pl.inT (b::r))).drop ((Pl.itoa a).length+2)=Pl.inT (b::r):=by rw [List.drop_succ_cons,List.drop_append,List.drop_eq_nil_of_le (by omega),List.nil_append,show(Pl.itoa a).length+1-(Pl.itoa a).length=1 from by omega];rfl
 rw [List.extract_eq_take_drop,j,List.take_of_length_le (by simp only [c_,a_];omega)];rfl
def NumAt(w:World)(ao:Option Addr)(L:List Int):Prop:=∀(k:Nat)(a:Int),L[k]?=some a->∃g off i,ao=some ⟨g,off,none⟩/\g<w.heap.size/\w.cell? ⟨g,off+k,none⟩=some (.int .i64 i)/\(-9223372036854775808<=i/\i<=9223372036854775807)/\a=aOY i 1000
def KqR(w wr:World)(sv:Value)(n:Nat)(ins:List (ByteArray×Int)):Prop:=Below w.heap.size w wr/\wr.ownsRow w.heap.size FG 2 sv n (ins.flatMap iL)
theorem KqR.go{w1 w2:World}{sv:Value}{ins:List (ByteArray×Int)}(h:KqR w w1 sv n ins)(a:Below w1.heap.size w1 w2):KqR w w2 sv n ins:=⟨h.1.trans (a.mono h.1.size),aRW h.2 a⟩
theorem aSH(w:World)(v:Value)(l:List Int)(hl:IntsIn w v l)(h:Low w) :Calls prog 3 #[v] w fun e B=>e=.returned (.bool true)/\Below w.heap.size w B:=by
 obtain⟨i0,aj,ak,al,am⟩:=info_parts Tryz.YM;obtain⟨ao,bn,rfl,bb,Y⟩:=hl;obtain⟨n,hn⟩:∃n,n=min 12 l.length:=⟨_,rfl⟩
 obtain⟨L,hL⟩:∃L,L=(l.take 12).map (fun x=>aOY x 1000):=⟨_,rfl⟩
 have D:Hid (L.length=n):=(show L.length=n from by rw [hL,hn];simp)
 have HN:Hid (NumAt w ao L):=fun k a Q=>by
  rw [hL,List.getElem?_map,Option.map_eq_some_iff] at Q;obtain⟨i,hi,rfl⟩:=Q;rw [List.getElem?_take] at hi;split at hi
  ·obtain⟨g,K,h1,h2,h3,h4,h5⟩:=Y k i hi;exact⟨g,K,i,h1,h2,h3,⟨h4,h5⟩,rfl⟩
  ·cases hi
 have an:Hid (∀(k:Nat)(a:Int),L[k]?=some a->0<=a/\a<1000):=fun k a Q=>by obtain⟨_,_,i,_,_,_,_,rfl⟩:=HN.out k a Q;exact aOX i 1000 (by decide)
 have bc:n<=12:=by omega
 have HA:=h_ (p_awake w h);have HQ:Hid (∀q,Below w.heap.size w q->Calls prog 5 #[] q fun e B=>e=.returned (.bool true)/\Hid (Below w.heap.size w B)):=fun q u=>(p_quick q (h.below u)).mono (fun e B ⟨Z,S⟩=>⟨Z,u.trans (S.mono u.size)⟩);have HP:Hid (∀(x r:Int)(w:World),Hid (r=aOY x 1000)->(-9223372036854775808<=x/\x<=9223372036854775807)->Calls prog 8 #[.int .i64 x,.int .i64 1000] w fun e B=>e=.returned (.int .i64 r)/\w=B):=fun x r w hr U=>by rw [hr.out];exact p_pickV w x 1000 (by decide) U
 have HT:Hid (∀(a:Int)(s:ByteArray)(q:World)(sv:Value)(k:Nat) (M:List (ByteArray×Int)),Hid (s=aRN (Pl.itoa a))->0<=a/\a<1000->KqR w q sv k M->Calls prog 7 #[.int .i64 a] q fun e B=>e=.returned (.string s)/\Hid (KqR w B sv k M)):=fun a s q sv k M hs Q u=>(wE a q (by omega) (h.below u.1).B3).mono (fun e B ⟨Z,S,_⟩=>⟨by rw [hs.out];exact Z,u.go S⟩);have bd:Hid (∀(q:World)(s:ByteArray),Below w.heap.size w q->Calls prog 6 #[.string s] q fun e B=>e=.returned (.agg #[.string s,.int .i64 2000])/\Hid (Below w.heap.size w B)):=fun q s u=>(aRC q s).mono (fun e B ⟨Z,S⟩=>⟨Z,u.trans (S.mono u.size)⟩);have HI:Hid (∀(s t:ByteArray)(q:World)(sv:Value)(k:Nat) (M:List (ByteArray×Int)),Hid (s=t)->KqR w q sv k M->Calls prog 6 #[.string s] q fun e B=>e=.returned (.agg #[.string t,.int .i64 2000])/\Hid (KqR w B sv k M)):=fun s t q sv k M hs u=>(aRC q s).mono (fun e B ⟨Z,S⟩=>⟨by rw [<- hs.out];exact Z,u.go S⟩);have ap:=h_ h;clear h Y hL;go_enter func3,ntmps3
 go_upto_if 19 with(first
  | (go_at_call 4;refine Calls.mono HA ?_;rintro e q ⟨rfl,HB⟩)
  | (go_at_call 5;refine Calls.mono (HQ _ HB) ?_;rintro e q ⟨rfl,HB⟩))
 go_cut [0] (fun x wx=>∃C,x=.slice ao n C/\n<=C/\wx=q)
 case first =>
  by_cases cj:12<l.length
  ·have hd:(12:Int)<(l.length:Int):=by omega
   obtain rfl:n=12:=by omega
   have cd:12<=bn:=by omega
   clear hn;go_wp2_with fail
   go_meet
   exact⟨_,rfl,by omega,rfl⟩
  ·have hd:¬(12:Int)<(l.length:Int):=by omega
   have ck:l.length=n:=by omega
   clear hn;go_wp2_with fail
   go_meet
   exact⟨_,rfl,by omega,rfl⟩
 case rest =>
  obtain⟨C,rfl,bo,rfl⟩:=hcut;clear HA HQ hn bb;obtain⟨q,bp⟩:∃x,x=wc:=⟨wc,rfl⟩
  subst bp
  go_upto_region 7 with(go_at_call 6;refine Calls.mono (bd _ _ HB) ?_;rintro e w2 ⟨rfl,aq⟩)
  clear bd;have be:KqR w (w2.alloc (.cells #[.string (aRN Pl.lstD),.int .i64 2000] 25)) (.slice (some ⟨w2.heap.size,0,none⟩) 1 1) 1 (aRY []):=⟨aq.alloc aq.size _,rfl,.inr ⟨_,1,_,rfl,aq.size,heap_alloc_new _ _,n_,by decide,rfl,rfl⟩⟩
  have bq:=h_ be;clear be;have br:(n:Int)-1=(n:Int)-1:=rfl;have cl:IntKind.i64.wrap ((n:Int)-1)=(n:Int)-1:=IntWalk.i64_in _ (by omega)
  go_upto_region 8 with fail
  clear br
  go_loopw [5,6,7] (fun sv tx i wr=>∃(m:Nat)(x:Int)(t:ByteArray),m<=n/\i=.int .i64 x/\x=(m:Int)-1/\tx=.string t/\t.size<=20*(n-m)+1/\Hid (t.data.toList=Pl.inT (L.drop m))/\Hid (KqR w wr sv (n-m+1) (aRY (L.drop m).reverse))) (fun _ _ i _=>(RowKit.intOf i+1).toNat)
  case atStart =>
   refine⟨n,_,⟨#[41]⟩,n_,rfl,rfl,rfl,(show 1<=20*(n-n)+1 from by omega),?_,?_⟩
   ·rw [List.drop_eq_nil_of_le (by rw [D.out];exact n_)];rfl
   ·rw [List.drop_eq_nil_of_le (by rw [D.out];exact n_),Nat.sub_self];exact bq
  case round =>
   obtain⟨m,x,t,hm,rfl,U,rfl,ht,aa,y⟩:=hrel;rcases m with _ | k
   ·obtain rfl:x=-1:=by omega
    clear U;rw [List.drop_zero,Nat.sub_zero] at y;rw [List.drop_zero] at aa;have e1:(⟨#[40]⟩:ByteArray)++t=aRN (Pl.lsT L):=aRQ (by simp only [ByteArray.data_append,Array.toList_append,aa.out];rfl);obtain⟨tB,ae⟩:∃s,Hid (s=aRN (Pl.lsT L)):=⟨_,rfl⟩
    rw [<- ae.out] at e1;have cm:tB.size<=300:=by rw [<- e1,ByteArray.size_append];have hz:(⟨#[40]⟩:ByteArray).size=1:=rfl;omega
    go_upto_region 17 with(first
     | (go_at_call 6;refine Calls.mono (HI _ _ _ _ _ _ rfl y) ?_;rintro e H ⟨rfl,y⟩)
     | (at_builtin;refine wpList_append_lies _ rfl _ _ 27 rfl w.heap.size 25 i0 (.agg #[.string ⟨#[]⟩,.int .i64 0]) 2 24 underlying27 aj ak al am rfl (by decide) u5 (n+1) _ rfl (y.2.alloc _) ⟨H.heap.size,0,none⟩ 5 5 ((Pl.lstE.map (fun z=>(aRN z,(2000:Int)))).flatMap iL) rfl rfl (World.news_of_block (t:=25) (fr:=(0,0)) (heap_alloc_new H _)) (fun x U=>by simp [iL,Pl.lstE] at U;rcases U with rfl | rfl | rfl | rfl | rfl | rfl | rfl | rfl | rfl | rfl<;>rfl) (by decide) (by unfold maxLen at *;omega) (by omega) (by have:=y.1.size;simp;omega) (H.heap.size+1) (by simp) ?_;intro g5 R X f d _ _))
    have ar:KqR w X (.slice (some ⟨g5,0,none⟩) (n+1+5) R) (n+1+5) (lstL L.reverse):=by refine⟨(y.1.alloc y.1.size _).grown d (by have:=y.1.size;simp;omega) (fun j hj=>(y.2.lt j hj).1),?_⟩;unfold lstL;rw [List.flatMap_append];exact f
    have bf:(lstL L.reverse).length=n+1+5:=by unfold lstL aRY;simp only [a_,c_,List.length_map,List.length_reverse,D.out];rfl
    have au:Hid (Below w.heap.size w X/\F8 X (.slice (some ⟨g5,0,none⟩) (n+1+5) R) (lstL L.reverse)):=⟨ar.1,scr_of (base:=w.heap.size) (by rw [bf];exact ar.2)⟩
    clear f d ar bf y;obtain⟨T,bg,hT⟩:∃T,Hid (T=n+1+5)/\T=n+1+5:=⟨_,rfl,rfl⟩
    rw [<- hT] at au ⊢;have ho:(Pl.AF AW ((Pl.lstS L.reverse).map Pl.segI)).2=(aRZ L).map poB:=lst_os (by rw [D.out];exact bc) (fun a Q=>by obtain⟨k,hk⟩:=List.getElem?_of_mem Q;exact an.out k a hk);have af:((aRZ L).map poB).length=T:=by unfold aRZ lstF;simp only [List.length_map,a_,List.length_replicate,c_,z_,D.out,hT]
    have bs:=h_ af;have H4:=(show Hid _ from p_slowT (w:=w) ap ho af (by unfold GK;omega) (by omega))
    have H5:=(show Hid _ from p_fastS (w:=w) ap ho (fun o ho=>by
     unfold aRZ lstF at ho;simp only [List.map_append,List.mem_append,List.map_replicate,List.mem_replicate,List.map_cons,List.map_nil,List.mem_cons,List.not_mem_nil,or_false] at ho
     rcases ho with⟨_,rfl⟩ | rfl | rfl | rfl | rfl | rfl<;>simp [poB]) af (by unfold GK;omega) (by omega))
    obtain⟨N,av,cn⟩:∃N:Nat,Hid (N=n+1)/\IntKind.i64.wrap ((n:Int)+1)=(N:Int):=⟨n+1,rfl,by rw [IntWalk.i64_in _ (by omega)];omega⟩
    have ce:T<=18:=by omega
    clear ho af hT
    go_upto_region 23 with(first
     | (go_at_call 9;refine Calls.mono (H4 _ _ _ au (aRX _)) ?_;rintro e w6 ⟨g,cf,rfl,co,ag⟩)
     | (go_at_call 10;refine Calls.mono (H5 _ _ _ _ ⟨ag.1,ag.2.1,ag.2.2⟩ (aRX _)) ?_;rintro e I ⟨g3,cg,rfl,cp,O⟩))
    clear H4 H5 ag au
    go_loopw [12] (fun i wr=>∃(k m:Nat),k<=T/\i=.int .i64 k/\wr=I.drewN m) (fun i _=>T-(RowKit.intOf i).toNat)
    case atStart=>exact⟨0,0,Nat.zero_le _,rfl,rfl⟩
    case round =>
     obtain⟨k,m,hk,rfl,rfl⟩:=hrel;by_cases bt:k<T
     ·obtain⟨o,ho⟩:∃o,((aRZ L).map poB)[k]?=some o:=⟨((aRZ L).map poB)[k]'(by rw [bs.out];exact bt),g_ _⟩
      obtain⟨_,e,hg,a0,a1,a2⟩:=O.2.1.get ho;obtain rfl:g=_:=by simpa using e
      obtain⟨_,e',cq,b0,b1,b2⟩:=O.2.2.get ho;obtain rfl:g3=_:=by simpa using e'
      have ch:(k:Int)<(T:Int):=by omega
      obtain⟨c,cr,ct⟩:=o;dsimp only at *;clear ho e e';go_wp2_with fail;first | go_quiet (fail) | skip
      go_wp2_with fail
      go_roundw
      case rel=>exact⟨k+1,_,by omega,by go_num,rfl⟩
      case measure=>simp [RowKit.intOf];omega
     ·obtain rfl:T=k:=by omega
      have y:Hid (KpB w I (I.drewN m)):=⟨O.1.trans ((U2 I _).mono O.1.size),U2 I _⟩
      obtain⟨rB,ah⟩:∃s,Hid (s=aRN (Pl.rsT L)):=⟨_,rfl⟩
      obtain⟨u,aw⟩:∃s,Hid (s=aRN (Pl.hdT L)):=⟨_,rfl⟩
      have G:∀(N j:Nat)(o:OB),N=n+1+j->(lstF tB rB u)[j]?=some o->g<I.heap.size/\I.cell? ⟨g,N*3,none⟩=some (.int .i64 (o.1:Int))/\I.cell? ⟨g,N*3+1,none⟩=some (.string o.2.1)/\I.cell? ⟨g,N*3+2,none⟩=some (.string o.2.2):=fun N j o h1 h2=>by
       rw [ae.out,ah.out,aw.out] at h2;have h3:=lstB_at D j h1;rw [List.getElem?_map (l:=lstF _ _ _),h2] at h3;obtain⟨_,e,hg,a0,a1,a2⟩:=O.2.1.get h3;obtain rfl:g=_:=by simpa using e
       exact⟨hg,a0,a1,a2⟩
      have mk:∀(j:Nat)(J:Int),J=(j:Int)->j<5->∃N':Nat,Hid (N'=n+1+j)/\IntKind.i64.wrap ((N:Int)+J)=(N':Int)/\(N':Int)<(T:Int):=fun j J hJ hj=>⟨n+1+j,rfl,by rw [av.out,IntWalk.i64_in _ (by omega)];omega,by rw [bg.out];omega⟩
      obtain⟨N1,bu,cu,cv⟩:=mk 1 1 rfl (by decide);obtain⟨N2,bv,cw,cx⟩:=mk 2 2 rfl (by decide);obtain⟨N3,bw,cy,cz⟩:=mk 3 3 rfl (by decide);obtain⟨N4,bx,da,db⟩:=mk 4 4 rfl (by decide);have dc:(N:Int)<(T:Int):=by rw [av.out,bg.out];omega
      obtain⟨hg,y0,y1,y2⟩:=G N 0 _ av rfl;obtain⟨_,y3,y4,y5⟩:=G N1 1 _ bu rfl;obtain⟨_,y6,y7,y8⟩:=G N2 2 _ bv rfl;obtain⟨_,z0,z1,z2⟩:=G N3 3 _ bw rfl;obtain⟨_,z3,z4,z5⟩:=G N4 4 _ bx rfl;simp only [noB] at y0 y1 y2 y3 y4 y5 y6 y7 y8 z0 z1 z2 z3 z4 z5;have HE:Hid (∀(q:World)(o t a b:ByteArray),Hid (t=a)->Hid (o=b)->KpB w I q->Calls prog 11 #[.agg #[.int .i64 0,.string o,.string t],.string a,.string b] q fun e B=>e=.returned (.bool true)/\(∀k,B.cell? ⟨g,k,none⟩=I.cell? ⟨g,k,none⟩)/\Hid (KpB w I B)):=fun q o t a b h1 h2 u=>(aAT q 0 _ _ _ _).mono (fun e B ⟨Z,S⟩=>⟨by rw [Z,h1.out,h2.out];simp,(u.go S).cell hg,u.go S⟩);have bh:Hid (∀(a:Int)(s:ByteArray)(q:World),Hid (s=aRN (Pl.itoa a))->0<=a/\a<1000->KpB w I q->Calls prog 7 #[.int .i64 a] q fun e B=>e=.returned (.string s)/\(∀k,B.cell? ⟨g,k,none⟩=I.cell? ⟨g,k,none⟩)/\Hid (KpB w I B)):=fun a s q hs Q u=>(wE a q (by omega) (ap.below u.1).B3).mono (fun e B ⟨Z,S,_⟩=>⟨by rw [hs.out];exact Z,(u.go S).cell hg,u.go S⟩);clear G mk;rcases(show n=0\/0<n from by omega) with h0 | h0
      ·have A:L=[]:=e_ (by rw [D.out,h0]);have HR:Hid (rB=⟨#[110,111,110,101]⟩):=by rw [ah.out,A];rfl
       have HH:Hid (u=⟨#[48]⟩):=by rw [aw.out,A];exact congrArg aRN Pl.itoa_zero
       clear A;have hd:¬(0:Int)<(n:Int):=by omega
       have bi:¬(1:Int)<(n:Int):=by omega
       clear h0;go_wp2_with (go_at_call 11;refine Calls.mono (HE _ _ _ _ _ (by first | exact rfl | assumption) (by first | exact rfl | assumption) y) ?_;rintro e w8 ⟨rfl,hq,y⟩);go_ret;exact⟨rfl,y.1⟩
      ·obtain⟨a,r,A⟩:∃a r,L=a::r:=by
        rcases hL:L with _ | ⟨a,r⟩
        ·have:=D.out;rw [hL] at this;exact absurd this.symm (Nat.pos_iff_ne_zero.1 h0)
        ·exact⟨a,r,rfl⟩
       have ax:L[0]?=some a:=by rw [A];rfl
       obtain⟨g0,K,i,rfl,bz,hc,hi,ab⟩:=HN.out 0 a ax;have ac:=an.out 0 a ax;have ad:=h_ ab;have F:Hid (u=aRN (Pl.itoa a)):=by rw [aw.out,A];rfl
       have dd:I.cell? ⟨g0,K,none⟩=some (.int .i64 i):=(O.1.cell (p:=⟨g0,K,none⟩) bz).trans (by simpa using hc);have hd:(0:Int)<(n:Int):=by omega
       have ai:=D.out;rw [A,c_] at ai;clear ab hc ax O;by_cases h1:n=1
       ·obtain rfl:r=[]:=e_ (by omega);have HR:Hid (rB=⟨#[40,41]⟩):=by rw [ah.out,A];rfl
        have bi:¬(1:Int)<(n:Int):=by omega
        clear h1 h0 ai A
        go_wp2_with (first
         | (go_at_call 8;refine Calls.mono (HP _ _ _ ad hi) ?_;rintro e w9 ⟨rfl,rfl⟩)
         | (go_at_call 7;refine Calls.mono (bh _ _ _ F ac y) ?_;rintro e w8 ⟨rfl,hq,y⟩)
         | (go_at_call 11;refine Calls.mono (HE _ _ _ _ _ (by first | exact rfl | assumption) (by first | exact rfl | assumption) y) ?_;rintro e w8 ⟨rfl,hq,y⟩))
        go_ret;exact⟨rfl,y.1⟩
       ·obtain⟨b,r,rfl⟩:∃b r',r=b::r':=by
         rcases r with _ | ⟨b,r⟩
         ·exact absurd ai (by simp;omega)
         ·exact⟨b,r,rfl⟩
        have bi:(1:Int)<(n:Int):=by omega
        have de:u.size+2<=tB.size:=by rw [ae.out,F.out,A];show(Pl.itoa a).toArray.size+2<=(Pl.lsT (a::b::r)).toArray.size;rw [List.size_toArray,List.size_toArray];simp [Pl.lsT,Pl.inT,Pl.tlT];try omega
        have df:u.size<=14:=by rw [F.out];show(Pl.itoa a).toArray.size<=14;rw [List.size_toArray];exact Pl.itoa_len (by unfold Pl.CG;omega)
        have dg:IntKind.i64.wrap ((u.size:Int)+2)=(u.size:Int)+2:=IntWalk.i64_in _ (by omega);have HR:Hid (rB=(⟨#[40]⟩:ByteArray)++tB.extract (u.size+2) tB.size):=by rw [ah.out,aSL (a:=a) (b:=b) (r:=r) (by rw [ae.out,A]) F.out,A];rfl
        clear h1 h0 ai A
        go_upto_region 34 with(first
         | (go_at_call 8;refine Calls.mono (HP _ _ _ ad hi) ?_;rintro e w9 ⟨rfl,rfl⟩)
         | (go_at_call 7;refine Calls.mono (bh _ _ _ F ac y) ?_;rintro e w8 ⟨rfl,hq,y⟩))
        all_goals (try (exfalso;omega))
        go_wp2_with (go_at_call 11;refine Calls.mono (HE _ _ _ _ _ (by first | exact rfl | assumption) (by first | exact rfl | assumption) y) ?_;rintro e w8 ⟨rfl,hq,y⟩)
        go_ret;exact⟨rfl,y.1⟩
   ·obtain rfl:x=(k:Int):=by omega
    clear U;have V:k<L.length:=by rw [D.out];omega
    obtain⟨a,Q⟩:∃a,L[k]?=some a:=⟨L[k],g_ V⟩
    have ay:L.drop k=a::L.drop (k+1):=by rw [List.drop_eq_getElem_cons V];rw [g_ V] at Q;rw [i_ Q]
    obtain⟨g,K,i,rfl,hg,hc,hi,ab⟩:=HN.out k a Q;have ac:=an.out k a Q;have ad:=h_ ab
    obtain⟨sa,F,za⟩:∃s:ByteArray,Hid (s=aRN (Pl.itoa a))/\s.size<=14:=⟨_,rfl,by
     show(Pl.itoa a).toArray.size<=14;rw [List.size_toArray]
     exact Pl.itoa_len (by unfold Pl.CG;omega)⟩
    obtain⟨cb,bj⟩:∃c,Hid (c=aRN (Pl.segT (Pl.lstC a).1 (Pl.lstC a).2)):=⟨_,rfl⟩
    have eS:sa.data.toList=Pl.itoa a:=by rw [F.out];rfl
    have bk:Hid ((⟨#[40,100,101,102,105,110,101,32,108,32,40,99,111,110,115,32]⟩:ByteArray)++sa++⟨#[32,108,41,41]⟩=cb):=by rw [bj.out];exact aRQ (by simp only [ByteArray.data_append,Array.toList_append,eS,List.append_assoc,Pl.lstC,Pl.segT])
    have dh:wr.cell? ⟨g,K+k,none⟩=some (.int .i64 i):=(y.1.cell (p:=⟨g,K+k,none⟩) hg).trans hc;have bl:=h_ eS;clear eS
    have bm:=(show Hid (∀(H X:World)(o2:Obj)(g' C:Nat),KqR w H u5 (n-(k+1)+1) (aRY (L.drop (k+1)).reverse)->X.ownsRow w.heap.size FG 2 (.slice (some ⟨g',0,none⟩) (n-(k+1)+1+1) C) (n-(k+1)+1+1) ((aRY (L.drop (k+1)).reverse).flatMap iL++[.string cb,.int .i64 2000])->(H.alloc o2).grownBy X u5.ownBlock->KqR w X (.slice (some ⟨g',0,none⟩) (n-(k+1)+1+1) C) (n-k+1) (aRY (L.drop k).reverse)) from fun H X o2 g' C q0 q1 q2=>by
     have e1:(aRY (L.drop k).reverse).flatMap iL=(aRY (L.drop (k+1)).reverse).flatMap iL++[.string cb,.int .i64 2000]:=by rw [ay,bj.out];simp [aRY,iL]
     refine⟨(q0.1.alloc q0.1.size o2).grown q2 (by have:=q0.1.size;simp;omega) (fun j hj=>(q0.2.lt j hj).1),?_⟩;rw [e1,show n-k+1=n-(k+1)+1+1 from by omega]
     exact q1)
    have W:Hid (∀t':ByteArray,t'.data.toList=Pl.itoa a++(if L.drop (k+1)=[] then [41] else 32::Pl.inT (L.drop (k+1)))->t'.data.toList=Pl.inT (L.drop k)):=fun t' h=>by rw [ay,aRS];exact h
    have di:IntKind.i64.wrap ((k:Int)-1)=(k:Int)-1:=IntWalk.i64_in _ (by omega);have ci:k<12:=by omega
    have ca:Hid (V=V):=rfl;have dj:(k:Int)<(n:Int):=by omega
    have dk:(0:Int)<=(k:Int):=by omega
    clear Q ay ab hc V ca;by_cases hr:L.drop (k+1)=[]
    ·have W:=(show Hid (∀t':ByteArray,t'.data.toList=Pl.itoa a++[41]->t'.data.toList=Pl.inT (L.drop k)) from by have:=W.out;rw [if_pos hr] at this;exact this)
     have et:t=⟨#[41]⟩:=by have:=aa.out;rw [hr] at this;exact aRQ this
     subst et;clear hr
     go_wp2_with (first
      | (go_at_call 8;refine Calls.mono (HP _ _ _ ad hi) ?_;rintro e w3 ⟨rfl,rfl⟩)
      | (go_at_call 7;refine Calls.mono (HT _ _ _ _ _ _ F ac y) ?_;rintro e w3 ⟨rfl,az⟩)
      | (go_at_call 6;refine Calls.mono (HI _ cb _ _ _ _ bk az) ?_;rintro e H ⟨rfl,P⟩;have cc:=P.1.size)
      | (at_builtin;refine wpList_append_lies _ rfl _ _ 27 rfl w.heap.size 25 i0 (.agg #[.string ⟨#[]⟩,.int .i64 0]) 2 24 underlying27 aj ak al am rfl (by decide) u5 (n-(k+1)+1) _ rfl (P.2.alloc _) ⟨H.heap.size,0,none⟩ 1 1 [.string cb,.int .i64 2000] rfl rfl (World.news_of_block (cs:=#[.string cb,.int .i64 2000]) (t:=25) (fr:=(0,0)) (heap_alloc_new H _)) (fun x U=>by simp at U;rcases U with rfl | rfl<;>rfl) (by decide) (by unfold maxLen at *;omega) (by omega) (by simp;omega) (H.heap.size+1) (by simp) ?_;intro g5 R X f d _ _;have ba:=(show Hid _ from bm.out H X _ _ _ P f d);clear f d))
     go_roundw
     case rel=>exact⟨k,_,_,by omega,rfl,by go_num,rfl,by simp;omega,W _ (by simp only [ByteArray.data_append,Array.toList_append,bl.out]),ba⟩
     case measure=>simp [RowKit.intOf];try omega
    ·have W:=(show Hid (∀t':ByteArray,t'.data.toList=Pl.itoa a++32::Pl.inT (L.drop (k+1))->t'.data.toList=Pl.inT (L.drop k)) from by have:=W.out;rw [if_neg hr] at this;exact this)
     have E:=inT_len hr;rw [<- aa.out] at E;have b1:(t.toList==(⟨#[41]⟩:ByteArray).toList)=false:=by rw [beq_eq_false_iff_ne,Lib.toList_data,Lib.toList_data];intro e;rw [e] at E;exact absurd E (by decide)
     have b2:(t.toList==[41])=false:=by rw [beq_eq_false_iff_ne,Lib.toList_data];intro e;rw [e] at E;exact absurd E (by decide)
     clear hr E
     go_wp2_with (first
      | (go_at_call 8;refine Calls.mono (HP _ _ _ ad hi) ?_;rintro e w3 ⟨rfl,rfl⟩)
      | (go_at_call 7;refine Calls.mono (HT _ _ _ _ _ _ F ac y) ?_;rintro e w3 ⟨rfl,az⟩)
      | (go_at_call 6;refine Calls.mono (HI _ cb _ _ _ _ bk az) ?_;rintro e H ⟨rfl,P⟩;have cc:=P.1.size)
      | (at_builtin;refine wpList_append_lies _ rfl _ _ 27 rfl w.heap.size 25 i0 (.agg #[.string ⟨#[]⟩,.int .i64 0]) 2 24 underlying27 aj ak al am rfl (by decide) u5 (n-(k+1)+1) _ rfl (P.2.alloc _) ⟨H.heap.size,0,none⟩ 1 1 [.string cb,.int .i64 2000] rfl rfl (World.news_of_block (cs:=#[.string cb,.int .i64 2000]) (t:=25) (fr:=(0,0)) (heap_alloc_new H _)) (fun x U=>by simp at U;rcases U with rfl | rfl<;>rfl) (by decide) (by unfold maxLen at *;omega) (by omega) (by simp;omega) (H.heap.size+1) (by simp) ?_;intro g5 R X f d _ _;have ba:=(show Hid _ from bm.out H X _ _ _ P f d);clear f d))
     go_roundw
     case rel=>exact⟨k,_,_,by omega,rfl,by go_num,rfl,by have hz:(⟨#[32]⟩:ByteArray).size=1:=rfl;simp only [ByteArray.size_append,hz];omega,W _ (by simp only [ByteArray.data_append,Array.toList_append,bl.out,aa.out];rfl),ba⟩
     case measure=>simp [RowKit.intOf];try omega
end
end Go.Proofs.YtieooapcfpimlaaGreatDoor
