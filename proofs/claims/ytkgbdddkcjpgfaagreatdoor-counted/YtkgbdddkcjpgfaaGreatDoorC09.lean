import Derived.Test.YtkgbdddkcjpgfaaGreatDoorC03
import Derived.Laws.ResultCell
import Derived.Test.YtkgbdddkcjpgfaaGreatDoorC08
namespace Go.Proofs.YtkgbdddkcjpgfaaGreatDoor
set_option maxHeartbeats 2000000
set_option maxRecDepth 100000
section
variable {b:Nat}
namespace Pl
abbrev FR:=Option (PF×List (PV×PV))
def fmF(o:Option PF)(b:Nat):FR:=o.map fun f=>settle f b
def seqL:List (Nat->FR)->Nat->Option (List PF×List (PV×PV))
 | [],_=>some ([],[])
 | F::r,b=>(F b).bind fun p=>(seqL r (b+p.2.length)).map fun q=>(p.1::q.1,p.2++q.2)
theorem seqL_eq(f:Tre->Option PF):∀(ts:List Tre)(b:Nat),seqL (ts.map fun t=>fmF (f t)) b=(allF f ts).map fun l=>settleL l b
 | [],b=>by simp [seqL,allF,settleL_nil]
 | t::r,b=>by
  simp only [List.map_cons,seqL,allF]
  cases h:f t with
  | none=>simp [fmF]
  | some x =>
   simp only [fmF,Option.map_some,Option.bind_some];rw [seqL_eq f r]
   cases allF f r with
   | none=>rfl
   | some l=>simp [settleL_cons]
def Left(Fs:List (Nat->FR))(b:Nat)(k:Nat)(fs:List PF)(new:List (PV×PV)):Prop :=seqL Fs b=(seqL (Fs.drop k) (b+new.length)).map fun q=>(fs++q.1,new++q.2)
theorem Left.start(Fs:List (Nat->FR))(b:Nat):Left Fs b 0 [] []:=by unfold Left;simp
theorem Left.more{Fs:List (Nat->FR)}{k:Nat}{fs:List PF}{new:List (PV×PV)}(h:Left Fs b k fs new){F:Nat->FR}{p:PF×List (PV×PV)}(hF:Fs[k]?=some F)(hp:F (b+new.length)=some p):Left Fs b (k+1) (fs++[p.1]) (new++p.2):=by
 unfold Left at h ⊢;rw [h];obtain⟨hk,rfl⟩:=List.getElem?_eq_some_iff.1 hF;rw [List.drop_eq_getElem_cons hk];simp only [seqL,hp,Option.bind_some,Option.map_map];rw [List.length_append,Nat.add_assoc]
 congr 1
 funext q
 simp
theorem Left.none_{Fs:List (Nat->FR)}{k:Nat}{fs:List PF}{new:List (PV×PV)}(h:Left Fs b k fs new){F:Nat->FR}(hF:Fs[k]?=some F)(hp:F (b+new.length)=none):seqL Fs b=none:=by unfold Left at h;rw [h];obtain⟨hk,rfl⟩:=List.getElem?_eq_some_iff.1 hF;rw [List.drop_eq_getElem_cons hk];simp [seqL,hp]
theorem Left.done{Fs:List (Nat->FR)}{fs:List PF}{new:List (PV×PV)}(h:Left Fs b Fs.length fs new):seqL Fs b=some (fs,new):=by unfold Left at h;rw [h,List.drop_length];simp [seqL]
def tsz:Nat->Tre->Nat
 | 0,_=>0
 | n+1,t=>match t with
  | .agg ts=>(ts.map (tsz n)).sum
  | _=>1
theorem sum_take(l:List Nat):∀(k:Nat)(x:Nat),l[k]?=some x->(l.take (k+1)).sum=(l.take k).sum+x:=by intro k x h;rw [List.take_add_one,h];simp
theorem take_sum_le(l:List Nat)(k:Nat):(l.take k).sum<=l.sum:=by
 conv=>rhs;rw [<- List.take_append_drop k l]
 rw [List.sum_append];omega
structure PdOk(n:Nat)(l:List Tok)(p:PR):Prop where
 words:tsz n p.t+p.q.length<=l.length
 big:p.gr=false->(∀t∈l,t.length<=300)->cL n p.t
theorem pls_ok(n:Nat)(ih:∀l p,pd n l=some p->PdOk n l p):∀(k:Nat)(l:List Tok)(p:PL),pls (pd n) k l=some p->((p.ts.map (tsz n)).sum+p.q.length+1<=l.length/\(p.gr=false->(∀t∈l,t.length<=300)->∀x∈p.ts,cL n x)):=by
 intro k
 induction k with
 | zero=>intro l p h;simp [pls] at h
 | succ k ihk =>
  intro l p h
  cases l with
  | nil=>simp [pls] at h
  | cons t r =>
   rw [pls_cons] at h;split at h
   ·obtain rfl:=Option.some.inj h;simp
   ·cases h1:pd n (t::r) with
    | none=>rw [h1] at h;simp at h
    | some p1 =>
     rw [h1] at h;dsimp only at h;have o1:=ih _ _ h1
     cases h2:pls (pd n) k p1.q with
     | none=>rw [h2] at h;simp at h
     | some p2 =>
      rw [h2] at h;have o2:=ihk _ _ h2;simp only [Option.map_some,Option.some.injEq] at h;subst h;refine⟨?_,?_⟩
      ·have:=o1.words;have:=o2.1;simp only [List.map_cons,List.sum_cons];omega
      ·intro hg ht x hx;simp only [Bool.or_eq_false_iff] at hg;rcases List.mem_cons.1 hx with rfl | hx
       ·exact o1.big hg.1 ht
       ·exact o2.2 hg.2 (fun y hy=>ht y ((pd_tail _ _ _ h1).1.mem hy)) x hx
theorem wJ{t:Tok}(h:great t=false):gW (sval t):=by
 unfold great at h;have h:natV (digs t)<=big:=by simpa using h
 unfold gW sval;split<;>omega
theorem pd_ok:∀(n:Nat)(l:List Tok)(p:PR),pd n l=some p->PdOk n l p
 | 0,_,_,h=>by simp [pd] at h
 | n+1,[],_,h=>by simp [pd] at h
 | n+1,t::r,p,h=>by
  unfold pd at h;split at h
  ·simp at h
  split at h
  ·obtain rfl:=Option.some.inj h;exact⟨by simp [tsz];omega,fun _ _=>trivial⟩
  split at h
  ·obtain rfl:=Option.some.inj h;exact⟨by simp [tsz];omega,fun _ _=>trivial⟩
  split at h
  ·simp only [Option.map_eq_some_iff] at h;obtain⟨p1,h1,rfl⟩:=h;have o:=pd_ok n r p1 h1;have ho:=o.words
   cases n with
   | zero=>simp [pd] at h1
   | succ m =>
    refine⟨?_,fun hg ht x hx=>?_⟩
    ·simp only [tsz,List.map_cons,List.map_nil,List.sum_cons,List.sum_nil,List.length_cons] at ho ⊢;omega
    ·rcases List.mem_cons.1 hx with rfl | hx
     ·show quoteW.length<=300;decide
     ·obtain rfl:x=p1.t:=by simpa using hx
      exact o.big hg (fun y hy=>ht y (List.mem_cons_of_mem _ hy))
  split at h
  ·simp only [Option.map_eq_some_iff] at h;obtain⟨p1,h1,rfl⟩:=h;have o:=pls_ok n (pd_ok n) _ _ _ h1;exact⟨by have:=o.1;simp only [tsz,List.length_cons];omega,fun hg ht=>o.2 hg (fun y hy=>ht y (List.mem_cons_of_mem _ hy))⟩
  ·simp only [Option.map_eq_some_iff] at h;obtain⟨p1,h1,rfl⟩:=h;unfold pw at h1;split at h1
   ·obtain rfl:=Option.some.inj h1;exact⟨by simp [tsz];omega,fun hg _=>wJ hg⟩
   ·split at h1
    ·obtain rfl:=Option.some.inj h1;exact⟨by simp [tsz];omega,fun _ ht=>ht t (by simp)⟩
    ·simp at h1
end Pl
end
open Go.Proofs.Tryz
open Pl (PV FR Byt formOf tsz kwB fmF isName)
section
open Go.RowKit
variable {w w':World} {M:Nat->Prop} {mb tb:Nat} {v:Value}
structure Rdr(M:Nat->Prop)(w:World)(s:Sg)(tb mb:Nat)(ps:List (PV×PV)):Prop where
 tab:Tab w tb mb s.ns
 pairs:PairsAt M w s ps
 mmb:M mb
 mtb:¬M tb
 mlt:∀k,M k->k<w.heap.size
theorem Rdr.below{s:Sg}{ps:List (PV×PV)}(h:Rdr M w s tb mb ps)(hb:Below w.heap.size w w'):Rdr M w' s tb mb ps :=⟨h.tab.keep (hb.block _ h.tab.lt.1) (hb.block _ h.tab.lt.2),h.pairs.stp (Stp.of_below hb),h.mmb,h.mtb,fun k hk=>Nat.lt_of_lt_of_le (h.mlt k hk) hb.size⟩
def Mw(M:Nat->Prop)(a b:Nat)(k:Nat):Prop:=M k\/(a<=k/\k<b)
theorem Rdr.wide{s:Sg}{ps:List (PV×PV)}(h:Rdr M w s tb mb ps)(hb:Below w.heap.size w w'):Rdr (Mw M w.heap.size w'.heap.size) w' s tb mb ps/\Stp M w (Mw M w.heap.size w'.heap.size) w':=by
 have hs:Stp M w (Mw M w.heap.size w'.heap.size) w':=⟨hb.os,hb.tape,hb.output,hb.size,fun k hk hm=>⟨hb.block k hk,fun x=>x.elim hm (fun y=>by omega)⟩⟩
 refine⟨⟨h.tab.keep (hb.block _ h.tab.lt.1) (hb.block _ h.tab.lt.2),h.pairs.stp hs,.inl h.mmb,fun x=>x.elim h.mtb (fun y=>by have:=h.tab.lt.1;omega),fun k hk=>?_⟩,hs⟩;rcases hk with hk | hk
 ·exact Nat.lt_of_lt_of_le (h.mlt k hk) hb.size
 ·exact hk.2
theorem Rdr.narrow{w2:World}{a:Nat}{s t:Sg}{ps ps':List (PV×PV)}(h:Rdr M w s tb mb ps)(k:Rdr (Mw M w.heap.size a) w2 t tb mb ps'):Rdr M w2 t tb mb ps' :=⟨k.tab,k.pairs.weaken (fun _ x=>.inl x),h.mmb,h.mtb,fun i hi=>k.mlt i (.inl hi)⟩
theorem Rdr.wide2{wx:World}{s t:Sg}{ps:List (PV×PV)}(h:Rdr M w s tb mb ps)(hg:w.grownBy wx (some mb))(ht:Tab wx tb mb t.ns)(l:Sg.Le s t)(hp:t.pb=s.pb):Rdr (Mw M w.heap.size wx.heap.size) wx t tb mb ps/\Stp M w (Mw M w.heap.size wx.heap.size) wx:=by
 have hs:Stp M w (Mw M w.heap.size wx.heap.size) wx:=⟨hg.os,hg.tape,hg.output,hg.size,fun k hk hm=>⟨hg.block k hk (fun e=>hm (by rw [Option.some.inj e];exact h.mmb)),fun x=>x.elim hm (fun y=>by omega)⟩⟩
 refine⟨⟨ht,(h.pairs.stp hs).le l hp,.inl h.mmb,fun x=>x.elim h.mtb (fun y=>by have:=h.tab.lt.1;omega),fun k hk=>?_⟩,hs⟩;rcases hk with hk | hk
 ·exact Nat.lt_of_lt_of_le (h.mlt k hk) hg.size
 ·exact hk.2
theorem Stp.narrow{w1 w2:World}{a:Nat}(h1:Stp M w (Mw M w.heap.size a) w1)(h2:Stp (Mw M w.heap.size a) w1 (Mw M w.heap.size a) w2):Stp M w M w2 :=
 ⟨h2.os.trans h1.os,h2.tape.trans h1.tape,h2.output.trans h1.output,Nat.le_trans h1.size h2.size,fun k hk hm=>by
  obtain⟨e1,e2⟩:=h1.block k hk hm;obtain⟨e3,e4⟩:=h2.block k (Nat.lt_of_lt_of_le hk h1.size) e2
  exact⟨e3.trans e1,hm⟩⟩
theorem Stp.set{b:Nat}(hb:M b)(o:Nat)(v:Value):Stp M w M (w.setCell ⟨b,o,none⟩ v) :=⟨rfl,rfl,rfl,by simp [World.setCell],fun k _ hm=>⟨Below.heap_setCell _ _ _ _ (fun e=>hm (by rw [show k=b from by simpa using e];exact hb)),hm⟩⟩
theorem Rdr.set{s:Sg}{ps:List (PV×PV)}(h:Rdr M w s tb mb ps){b:Nat}(hb:M b)(hne:b≠mb)(o:Nat)(v:Value):Rdr M (w.setCell ⟨b,o,none⟩ v) s tb mb ps:=by have hs:=Stp.set (w:=w) hb o v;exact⟨h.tab.keep (hs.block tb h.tab.lt.1 h.mtb).1 (Below.heap_setCell _ _ _ _ (fun e=>hne (by simpa using e.symm))),h.pairs.stp hs,h.mmb,h.mtb,fun k hk=>by simpa [World.setCell] using h.mlt k hk⟩
theorem eL(h:w.grownBy w' (some mb))(hm:M mb):Stp M w M w':=Stp.of_grown h (fun k hk=>by obtain rfl:=Option.some.inj hk;exact hm)
theorem aI(h:Below w.heap.size w w'):w.grownBy w' (some mb):=⟨h.os,h.tape,h.output,h.size,fun k hk _=>h.block k hk⟩
theorem aM{a b c:World}(h:a.grownBy b (some mb))(k:b.grownBy c (some mb)):a.grownBy c (some mb) :=⟨k.os.trans h.os,k.tape.trans h.tape,k.output.trans h.output,Nat.le_trans h.size k.size,fun i hi hn=>(k.block i (Nat.lt_of_lt_of_le hi h.size) hn).trans (h.block i hi hn)⟩
theorem e9{X:World}{R:Nat}(h:w.grownBy X (some mb))(hR:w.heap.size<=R)(o:Nat)(v:Value):w.grownBy (X.setCell ⟨R,o,none⟩ v) (some mb) :=⟨h.os,h.tape,h.output,by simpa [World.setCell] using h.size,fun i hi hn=>by rw [Below.heap_setCell _ _ _ _ (fun e=>by have:i=R:=(by simpa using e);omega)];exact h.block i hi hn⟩
def rdV(tb:Nat):Value:=.agg #[.pointer (some ⟨tb,0,none⟩)]
def TRdr:TypeId:=113
def rdO(tb:Nat):Obj:=.cells #[.pointer (some ⟨tb,0,none⟩)] TRdr (0,0)
def SgR(s t:Sg):Prop:=∃l m,t={s with pb:=s.pb++l,ns:=s.ns++m}
theorem SgR.refl(s:Sg):SgR s s:=⟨[],[],by simp⟩
theorem SgR.trans{a b c:Sg}(h:SgR a b)(k:SgR b c):SgR a c:=by obtain⟨l,m,rfl⟩:=h;obtain⟨l2,m2,rfl⟩:=k;exact⟨l++l2,m++m2,by simp⟩
theorem SgR.le{a b:Sg}(h:SgR a b):Sg.Le a b:=by obtain⟨l,m,rfl⟩:=h;exact⟨rfl,rfl,List.prefix_append _ _,List.prefix_refl _,List.prefix_refl _,List.prefix_refl _,List.prefix_append _ _⟩
theorem PbLe.r{a b:Sg}(h:PbLe a b):SgR a b:=by obtain⟨l,rfl⟩:=h;exact⟨l,[],by simp⟩
def Sg.named(s:Sg)(x:Byt):Sg:={s with ns:=b9 s.ns x}
theorem Sg.named_r(s:Sg)(x:Byt):SgR s (s.named x):=by obtain⟨m,hm⟩:=pL s.ns x;exact⟨[],m,by simp [Sg.named,hm]⟩
theorem Rdr.fail{s t:Sg}{ps ps':List (PV×PV)}(h:Rdr M w s tb mb ps)(hs:w.grownBy w' (some mb))(k:Rdr M w' t tb mb ps')(hr:SgR s t):∃t',t'.pb=s.pb/\t'.ns=t.ns/\SgR s t'/\Rdr M w' t' tb mb ps:=by
 obtain⟨l,m,rfl⟩:=hr;have hr':SgR s {s with ns:=s.ns++m}:=⟨[],m,by simp⟩
 exact⟨{s with ns:=s.ns++m},rfl,rfl,hr',k.tab,(h.pairs.stp (eL hs h.mmb)).le hr'.le rfl,k.mmb,k.mtb,k.mlt⟩
def NsMax:Nat:=100000000000000000
def FmPost(M:Nat->Prop)(w:World)(s:Sg)(tb mb:Nat)(ps:List (PV×PV))(o:FR)(z:Nat)(e:Ending)(w':World):Prop :=
 w.grownBy w' (some mb)/\∃t,SgR s t/\t.ns.length<=s.ns.length+z /\
  ((∃r v,o=some r/\e=.returned (.tuple #[v,.nilIface])/\Rdr M w' t tb mb (ps++r.2)/\RFm M w' t v r.1) \/
   (o=none/\t.pb=s.pb/\Rdr M w' t tb mb ps/\∃v es,e=.returned (.tuple #[v,aY es 5])))
def FCall(M:Nat->Prop)(w:World)(v:Value)(F:Nat->FR)(z:Nat):Prop:=∀(M':Nat->Prop)(w':World)(s:Sg)(tb mb:Nat) (ps:List (PV×PV)),Stp M w M' w'->Rdr M' w' s tb mb ps->s.ns.length+z<=NsMax ->
 Calls prog 67 #[rdV tb,v] w' fun e w2=>FmPost M' w' s tb mb ps (F ps.length) z e w2
theorem FCall.go{M':Nat->Prop}{F:Nat->FR}{z:Nat}(h:FCall M w v F z)(hs:Stp M w M' w'):FCall M' w' v F z:=fun M2 w2 s tb mb ps h2 hr hz=>h M2 w2 s tb mb ps (hs.trans h2) hr hz
def FSaid(n:Nat):Prop:=∀(M:Nat->Prop)(w:World)(v:Value)(t:Tr),RepP (fun k=>¬M k) n w v t->cL n t->FCall M w v (fmF (formOf n t)) (tsz n t)
theorem RepP.go{M':Nat->Prop}{n:Nat}{t:Tr}(h:RepP (fun k=>¬M k) n w v t)(hs:Stp M w M' w'):RepP (fun k=>¬M' k) n w' v t:=by have h2:RepP (fun k=>¬M k/\k<w.heap.size) n w v t:=RepP.mono (fun k hk ho=>⟨ho,hk⟩) _ _ _ h;have h3:RepP (fun k=>¬M k/\k<w.heap.size) n w' v t:=RepP.keep (fun k _ ho hk=>(hs.block k (aB hk) ho.1).1.trans hk) _ _ _ h2;exact RepP.mono (fun k _ ho=>(hs.block k ho.2 ho.1).2) _ _ _ h3
def DRow(M:Nat->Prop)(w:World)(sl:Value)(vs:List Value):Prop:=Sl M w PT 1 sl vs.length vs
theorem RepP.drow{n:Nat}{ts:List Tr}(h:RepP (fun k=>¬M k) (n+1) w v (.agg ts)):∃sl vs,v=.iface 115 sl/\DRow M w sl vs/\All2 (RepP (fun k=>¬M k) n w) vs ts/\ts.length<=1000:=by
 obtain⟨sl,vs,hv,hok,h3,h4,h5⟩:=h;have hl:vs.length=ts.length:=h3.1.trans (Nat.mul_one _);refine⟨sl,vs,hv,⟨by simp,?_⟩,⟨hl,h4⟩,h5⟩;rcases h3.2 with⟨hv,h0⟩ | ⟨g,cap,cur,hv,_,hg,hc,_,_,ht⟩
 ·have:vs=[]:=List.eq_nil_of_length_eq_zero (by omega);subst this;exact⟨none,0,hv,Nat.le_refl _,.inl rfl⟩
 ·refine⟨some ⟨g,0,none⟩,cap,by rw [hl];exact hv,by omega,.inr ⟨g,0,cur,rfl,hok g (by rw [hv];rfl),hg,?_⟩⟩;intro i u hu;rw [Nat.zero_add];rw [<- ht,List.getElem?_take] at hu;split at hu
  ·simpa using hu
  ·cases hu
theorem Sl.slOf{T:TypeId}{vs:List Value}(h:Sl M w T 1 v vs.length vs):SlOf w v vs:=by
 obtain⟨_,ao,cap,rfl,hc,h3⟩:=h;refine⟨ao,cap,rfl,hc,fun i u hu=>?_⟩;have hi:=(List.getElem?_eq_some_iff.1 hu).1;rcases h3 with h0 | ⟨g,off,cur,rfl,_,hg,hcur⟩
 ·omega
 ·exact⟨g,off,rfl,aB hg,by rw [aA hg];exact hcur i u hu⟩
theorem Sl.tail1{T:TypeId}{g off cap L:Nat}{u:Value}{us:List Value}(h:Sl M w T 1 (.slice (some ⟨g,off,none⟩) L cap) (us.length+1) (u::us))(m:Nat)(hm:us.length=m)(ao:Option Addr)(c:Nat)(hc:m<=c)(ha:m≠0->ao=some ⟨g,off+1,none⟩):Sl M w T 1 (.slice ao m c) us.length us:=by
 subst hm;refine⟨by simp,ao,c,rfl,hc,?_⟩;by_cases h0:us.length=0
 ·exact .inl h0
 ·right;obtain⟨_,ao',cap',e,_,h3⟩:=h;rcases h3 with h3 | ⟨g',off',cur,rfl,hm,hg,hcur⟩
  ·omega
  ·simp only [Value.slice.injEq,Option.some.injEq,Addr.mk.injEq,and_true] at e;obtain⟨⟨rfl,rfl⟩,_,_⟩:=e;refine⟨g,off+1,cur,ha h0,hm,hg,fun i x hi=>?_⟩;have:=hcur (i+1) x (by simpa using hi);rw [show off+1+i=off+(i+1) from by omega];exact this
def NmPost(M:Nat->Prop)(w:World)(s:Sg)(tb mb:Nat)(ps:List (PV×PV))(t:Tr)(e:Ending)(w':World):Prop :=
 w.grownBy w' (some mb) /\
  ((∃x,t=.lit (.string x)/\kwB x=false/\e=.returned (.tuple #[.agg #[.string ⟨x.toArray⟩,.int .i64 ((s.ns.idxOf x:Nat):Int)],.nilIface])/\Rdr M w' (s.named x) tb mb ps) \/
   (isName t=false/\Rdr M w' s tb mb ps/\∃es,e=.returned (.tuple #[.agg #[.string ⟨#[]⟩,.int .i64 0],aY es 5])))
theorem bA(w:World)(o1 o2:Obj):Below w.heap.size w ((w.alloc o1).alloc o2):=((Below.refl _ _).alloc (Nat.le_refl _) _).alloc (by simp) _
theorem two_new(w:World)(o1:Obj)(cs:Array Value)(T:TypeId):((w.alloc o1).alloc (.cells cs T)).heap[w.heap.size+1]?=some (.cells cs T (0,0)):=by have:=heap_alloc_new (w.alloc o1) (.cells cs T);rw [show(w.alloc o1).heap.size=w.heap.size+1 from by simp] at this;exact this
theorem qP(ok:Nat->Prop)(n:Nat)(w0:World)(M:Nat->Prop)(w:World)(s:Sg)(tb mb:Nat)(ps:List (PV×PV))(v:Value)(t:Tr)(h:RepP ok n w0 v t)(hR:Rdr M w s tb mb ps)(hx:∀x,t=.lit (.string x)->x.length<=1000/\s.ns.length+1<=NsMax) :Calls prog 113 #[rdV tb,v] w fun e w'=>NmPost M w s tb mb ps t e w':=by
 have as1:=Tryz.asNumber_Name;have as2:=Tryz.asTruth_Name;have as3:=Tryz.asName_Name;have as4:=Tryz.asList_Name;have HR:Hid (Rdr M w s tb mb ps):=hR;unfold rdV;by_cases hs:∃x,t=.lit (.string x)
 ·obtain⟨x,rfl⟩:=hs;obtain rfl:=h.at_name;have HX:Hid (x.length<=1000/\s.ns.length+1<=NsMax):=hx x rfl;clear h hx hR
  cases hk:kwB x
  ·go_enter func113,ntmps113
   go_wp2_with (go_at_call 110;refine(b8 _ _).mono ?_;rintro e w' ⟨rfl,rfl⟩)
   obtain⟨HR2,hS2⟩:=HR.out.wide (bA w (rdO tb) (.cells #[.string ⟨#[]⟩,.int .i64 0] TNam));refine(jE _ tb mb s.ns x HR2.tab (by have:=HX.out.1;omega) (by have hz:=HX.out.2;unfold NsMax at hz;omega)).mono ?_;rintro e w2 ⟨rfl,ht,hg⟩;have hmb:=HR.out.mlt mb HR.out.mmb;have hb:=(hg.block (w.heap.size+1) (by simp) (by simp;omega)).trans (two_new w _ _ _);have hm1:Mw M w.heap.size ((w.alloc (rdO tb)).alloc (.cells #[.string ⟨#[]⟩,.int .i64 0] TNam)).heap.size (w.heap.size+1):=.inr ⟨by omega,by simp⟩;have hR3:Rdr (Mw M w.heap.size ((w.alloc (rdO tb)).alloc (.cells #[.string ⟨#[]⟩,.int .i64 0] TNam)).heap.size) w2 (s.named x) tb mb ps:=⟨ht,(HR2.pairs.stp (Stp.of_grown hg (fun k hk=>by obtain rfl:=Option.some.inj hk;exact HR2.mmb))).le (s.named_r x).le rfl,HR2.mmb,HR2.mtb,fun k hk=>Nat.lt_of_lt_of_le (HR2.mlt k hk) hg.size⟩
   have HN:Hid (∀u v,Rdr M ((w2.setCell ⟨w.heap.size+1,0,none⟩ u).setCell ⟨w.heap.size+1,1,none⟩ v) (s.named x) tb mb ps):=fun u v=>HR.out.narrow ((hR3.set hm1 (by omega) 0 u).set hm1 (by omega) 1 v);have HS:Hid (∀u v,w.grownBy ((w2.setCell ⟨w.heap.size+1,0,none⟩ u).setCell ⟨w.heap.size+1,1,none⟩ v) (some mb)):=fun u v=>e9 (e9 (aM (aI (bA w _ _)) hg) (by omega) 0 u) (by omega) 1 v;have z0:w2.cell? ⟨w.heap.size+1,0,none⟩=some (.string ⟨#[]⟩):=aA hb 0;have z1:w2.cell? ⟨w.heap.size+1,1,none⟩=some (.int .i64 0):=aA hb 1;have y0:w2.frozen? ⟨w.heap.size+1,0,none⟩=false:=aF hb 0;have y1:w2.frozen? ⟨w.heap.size+1,1,none⟩=false:=aF hb 1;have HK:Hid (kwB x=false):=hk;clear HR2 hS2 hR3 hm1 ht hg hb hk hmb;go_wp2_with fail
   (try simp only [Exit.inBlock,Exit.then])
   refine bodyPost_ret (v:=.tuple #[.agg #[.string ⟨x.toArray⟩,.int .i64 ((s.ns.idxOf x:Nat):Int)],.nilIface]) ?_ rfl ?_
   ·rw [results_cell_tmp rfl]
    go_simp
   ·exact⟨HS.out _ _,.inl ⟨x,rfl,HK.out,rfl,HN.out _ _⟩⟩
  ·have HE:Hid (isName (.lit (.string x))=false):=by simp [Hid,isName,hk]
   go_enter func113,ntmps113
   go_wp2_with (first | (go_at_call 110;refine(b8 _ _).mono ?_;rintro e w' ⟨rfl,rfl⟩) | (go_at_call 149;refine(aS _ _).mono ?_;rintro e w' ⟨rfl,rfl⟩))
   (try simp only [Exit.inBlock,Exit.then])
   refine bodyPost_ret (v:=.tuple #[.agg #[.string ⟨#[]⟩,.int .i64 0],aY ⟨#[114,101,97,100,105,110,103,32,97,32,110,97,109,101]⟩ 5]) ?_ rfl ?_
   ·rw [results_cell_tmp rfl]
    go_simp
   ·exact⟨aI (bA w _ _),.inr ⟨HE.out,HR.out.below (bA w _ _),_,rfl⟩⟩
 ·have HE:Hid (isName t=false):=by
   show isName t=false;unfold isName;split
   ·exact absurd ⟨_,rfl⟩ hs
   ·rfl
  obtain⟨x,hx⟩:∃x,v=.iface 293 x\/v=.iface 295 x\/v=.iface 115 x:=by
   cases n with
   | zero=>exact h.elim
   | succ n =>
    match t,h with
    | .lit (.int _ _),h=>obtain⟨k,rfl,_⟩:=h;exact⟨_,.inl rfl⟩
    | .lit (.bool _),h=>exact⟨_,.inr (.inl h)⟩
    | .lit (.string s),_=>exact absurd ⟨s,rfl⟩ hs
    | .agg ts,h=>obtain⟨sl,vs,rfl,_⟩:=h;exact⟨_,.inr (.inr rfl)⟩
  clear h hs hR;rcases hx with rfl | rfl | rfl
  ·go_enter func113,ntmps113
   go_wp2_with (first | (go_at_call 110;refine(b8 _ _).mono ?_;rintro e w' ⟨rfl,rfl⟩) | (go_at_call 149;refine(aS _ _).mono ?_;rintro e w' ⟨rfl,rfl⟩))
   (try simp only [Exit.inBlock,Exit.then])
   refine bodyPost_ret (v:=.tuple #[.agg #[.string ⟨#[]⟩,.int .i64 0],aY ⟨#[114,101,97,100,105,110,103,32,97,32,110,97,109,101]⟩ 5]) ?_ rfl ?_
   ·rw [results_cell_tmp rfl]
    go_simp
   ·exact⟨aI (bA w _ _),.inr ⟨HE.out,HR.out.below (bA w _ _),_,rfl⟩⟩
  ·go_enter func113,ntmps113
   go_wp2_with (first | (go_at_call 110;refine(b8 _ _).mono ?_;rintro e w' ⟨rfl,rfl⟩) | (go_at_call 149;refine(aS _ _).mono ?_;rintro e w' ⟨rfl,rfl⟩))
   (try simp only [Exit.inBlock,Exit.then])
   refine bodyPost_ret (v:=.tuple #[.agg #[.string ⟨#[]⟩,.int .i64 0],aY ⟨#[114,101,97,100,105,110,103,32,97,32,110,97,109,101]⟩ 5]) ?_ rfl ?_
   ·rw [results_cell_tmp rfl]
    go_simp
   ·exact⟨aI (bA w _ _),.inr ⟨HE.out,HR.out.below (bA w _ _),_,rfl⟩⟩
  ·go_enter func113,ntmps113
   go_wp2_with (first | (go_at_call 110;refine(b8 _ _).mono ?_;rintro e w' ⟨rfl,rfl⟩) | (go_at_call 149;refine(aS _ _).mono ?_;rintro e w' ⟨rfl,rfl⟩))
   (try simp only [Exit.inBlock,Exit.then])
   refine bodyPost_ret (v:=.tuple #[.agg #[.string ⟨#[]⟩,.int .i64 0],aY ⟨#[114,101,97,100,105,110,103,32,97,32,110,97,109,101]⟩ 5]) ?_ rfl ?_
   ·rw [results_cell_tmp rfl]
    go_simp
   ·exact⟨aI (bA w _ _),.inr ⟨HE.out,HR.out.below (bA w _ _),_,rfl⟩⟩
end
end Go.Proofs.YtkgbdddkcjpgfaaGreatDoor
