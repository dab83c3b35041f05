import Derived.Laws.ResultCell
import Derived.Test.YtieooapcfpimlaaGreatDoorL07
namespace Go.Proofs.YtieooapcfpimlaaGreatDoor
set_option maxHeartbeats 2000000
set_option maxRecDepth 100000
section
variable {b:Nat}
namespace Pl
abbrev FR:=Option (PF×List (PV×PV))
def EF(o:Option PF)(b:Nat):FR:=o.map fun f=>settle f b
def GG:List (Nat->FR)->Nat->Option (List PF×List (PV×PV))
 | [],_=>some ([],[])
 | F::r,b=>(F b).bind fun p=>(GG r (b+p.2.length)).map fun q=>(p.1::q.1,p.2++q.2)
theorem KP(f:A9->Option PF):∀(a:List A9)(b:Nat),GG (a.map fun t=>EF (f t)) b=(B1 f a).map fun l=>AK l b
 | [],b=>by simp [GG,B1,BV]
 | t::r,b=>by
  simp only [List.map_cons,GG,B1]
  cases h:f t with
  | none=>simp [EF]
  | some x =>
   simp only [EF,Option.map_some,Option.bind_some];rw [KP f r]
   cases B1 f r with
   | none=>rfl
   | some l=>simp [BO]
def Left(Fs:List (Nat->FR))(b:Nat)(k:Nat)(fs:List PF)(new:List (PV×PV)):Prop :=GG Fs b=(GG (Fs.drop k) (b+new.length)).map fun q=>(fs++q.1,new++q.2)
theorem Left.start(a:List (Nat->FR))(b:Nat):Left a b 0 [] []:=by unfold Left;simp
theorem Left.more{c:List (Nat->FR)}{k:Nat}{fs:List PF}{a:List (PV×PV)}(h:Left c b k fs a){F:Nat->FR}{p:PF×List (PV×PV)}(d:c[k]?=some F)(hp:F (b+a.length)=some p):Left c b (k+1) (fs++[p.1]) (a++p.2):=by
 unfold Left at h ⊢;rw [h];obtain⟨e,rfl⟩:=s_ d;rw [List.drop_eq_getElem_cons e];simp only [GG,hp,Option.bind_some,Option.map_map];rw [a_,Nat.add_assoc]
 congr 1
 funext q
 simp
theorem Left.none_{c:List (Nat->FR)}{k:Nat}{fs:List PF}{a:List (PV×PV)}(h:Left c b k fs a){F:Nat->FR}(d:c[k]?=some F)(hp:F (b+a.length)=none):GG c b=none:=by unfold Left at h;rw [h];obtain⟨e,rfl⟩:=s_ d;rw [List.drop_eq_getElem_cons e];simp [GG,hp]
theorem Left.done{c:List (Nat->FR)}{fs:List PF}{a:List (PV×PV)}(h:Left c b c.length fs a):GG c b=some (fs,a):=by unfold Left at h;rw [h,List.drop_length];simp [GG]
def BB:Nat->A9->Nat
 | 0,_=>0
 | n+1,t=>match t with
  | .agg ts=>(ts.map (BB n)).sum
  | _=>1
theorem F4(l:List Nat):∀(k:Nat)(x:Nat),l[k]?=some x->(l.take (k+1)).sum=(l.take k).sum+x:=by intro k x h;rw [List.take_add_one,h];simp
theorem DH(l:List Nat)(k:Nat):(l.take k).sum<=l.sum:=by
 conv=>rhs;rw [<- List.take_append_drop k l]
 rw [List.sum_append];omega
structure PdOk(n:Nat)(l:List Tok)(p:PR):Prop where
 words:BB n p.t+p.q.length<=l.length
 CG:p.gr=false->(∀t∈l,t.length<=300)->cL n p.t
theorem pls_ok(n:Nat)(j:∀l p,pd n l=some p->PdOk n l p):∀(k:Nat)(l:List Tok)(p:PL),IG (pd n) k l=some p->((p.ts.map (BB n)).sum+p.q.length+1<=l.length/\(p.gr=false->(∀t∈l,t.length<=300)->∀x∈p.ts,cL n x)):=by
 intro k
 induction k with
 | zero=>intro l p h;simp [IG] at h
 | succ k b =>
  intro l p h
  cases l with
  | nil=>simp [IG] at h
  | cons t r =>
   rw [I9] at h;split at h
   ·obtain rfl:=i_ h;simp
   ·cases a:pd n (t::r) with
    | none=>rw [a] at h;simp at h
    | some m =>
     rw [a] at h;dsimp only at h;have f:=j _ _ a
     cases c:IG (pd n) k m.q with
     | none=>rw [c] at h;simp at h
     | some q =>
      rw [c] at h;have g:=b _ _ c;simp only [Option.map_some,o_] at h;subst h;refine⟨?_,?_⟩
      ·have:=f.words;have:=g.1;simp only [List.map_cons,List.sum_cons];omega
      ·intro d i x e;simp only [Bool.or_eq_false_iff] at d;rcases List.mem_cons.1 e with rfl | e
       ·exact f.CG d.1 i
       ·exact g.2 d.2 (fun y o=>i y ((DA _ _ _ a).1.mem o)) x e
theorem wJ{t:Tok}(h:ER t=false):gW (F3 t):=by
 unfold ER at h;have h:F5 (EY t)<=CG:=by simpa using h
 unfold gW F3;split<;>omega
theorem NP:∀(n:Nat)(l:List Tok)(p:PR),pd n l=some p->PdOk n l p
 | 0,_,_,h=>by simp [pd] at h
 | n+1,[],_,h=>by simp [pd] at h
 | n+1,t::r,p,h=>by
  unfold pd at h;split at h
  ·simp at h
  split at h
  ·obtain rfl:=i_ h;exact⟨by simp [BB];omega,fun _ _=>trivial⟩
  split at h
  ·obtain rfl:=i_ h;exact⟨by simp [BB];omega,fun _ _=>trivial⟩
  split at h
  ·simp only [Option.map_eq_some_iff] at h;obtain⟨d,a,rfl⟩:=h;have o:=NP n r d a;have g:=o.words
   cases n with
   | zero=>simp [pd] at a
   | succ m =>
    refine⟨?_,fun b c x e=>?_⟩
    ·simp only [BB,List.map_cons,List.map_nil,List.sum_cons,List.sum_nil,c_] at g ⊢;omega
    ·rcases List.mem_cons.1 e with rfl | e
     ·show CB.length<=300;decide
     ·obtain rfl:x=d.t:=by simpa using e
      exact o.CG b (fun y f=>c y (List.mem_cons_of_mem _ f))
  split at h
  ·simp only [Option.map_eq_some_iff] at h;obtain⟨d,a,rfl⟩:=h;have o:=pls_ok n (NP n) _ _ _ a;exact⟨by have:=o.1;simp only [BB,c_];omega,fun b c=>o.2 b (fun y f=>c y (List.mem_cons_of_mem _ f))⟩
  ·simp only [Option.map_eq_some_iff] at h;obtain⟨d,a,rfl⟩:=h;unfold pw at a;split at a
   ·obtain rfl:=i_ a;exact⟨by simp [BB];omega,fun b _=>wJ b⟩
   ·split at a
    ·obtain rfl:=i_ a;exact⟨by simp [BB];omega,fun _ c=>c t (by simp)⟩
    ·simp at a
end Pl
end
open Go.Proofs.Tryz
open Pl (PV PF FR AE AD BB EE EF isName)
section
open Go.RowKit
variable {w w':World} {M:Nat->Prop} {mb tb:Nat} {v:Value} {us:List Value}
structure BM(M:Nat->Prop)(w:World)(s:Sg)(tb mb:Nat)(ps:List (PV×PV)):Prop where
 B3:IW w tb mb s.ns
 pairs:BD M w s ps
 FV:M mb
 JJ:¬M tb
 mlt:∀k,M k->k<w.heap.size
theorem BM.below{s:Sg}{ps:List (PV×PV)}(h:BM M w s tb mb ps)(a:Below w.heap.size w w'):BM M w' s tb mb ps :=⟨h.B3.keep (a.block _ h.B3.lt.1) (a.block _ h.B3.lt.2),h.pairs.AQ (Stp.AA a),h.FV,h.JJ,fun k b=>l_ (h.mlt k b) a.size⟩
def Mw(M:Nat->Prop)(a b:Nat)(k:Nat):Prop:=M k\/(a<=k/\k<b)
theorem BM.wide{s:Sg}{ps:List (PV×PV)}(h:BM M w s tb mb ps)(a:Below w.heap.size w w'):BM (Mw M w.heap.size w'.heap.size) w' s tb mb ps/\Stp M w (Mw M w.heap.size w'.heap.size) w':=by
 have c:Stp M w (Mw M w.heap.size w'.heap.size) w':=⟨a.os,a.tape,a.output,a.size,fun k b d=>⟨a.block k b,fun x=>x.elim d (fun y=>by omega)⟩⟩
 refine⟨⟨h.B3.keep (a.block _ h.B3.lt.1) (a.block _ h.B3.lt.2),h.pairs.AQ c,.inl h.FV,fun x=>x.elim h.JJ (fun y=>by have:=h.B3.lt.1;omega),fun k b=>?_⟩,c⟩;rcases b with b | b
 ·exact l_ (h.mlt k b) a.size
 ·exact b.2
theorem BM.narrow{w2:World}{a:Nat}{s t:Sg}{ps b:List (PV×PV)}(h:BM M w s tb mb ps)(k:BM (Mw M w.heap.size a) w2 t tb mb b):BM M w2 t tb mb b :=⟨k.B3,k.pairs.weaken (fun _ x=>.inl x),h.FV,h.JJ,fun i c=>k.mlt i (.inl c)⟩
theorem BM.wide2{wx:World}{s t:Sg}{ps:List (PV×PV)}(h:BM M w s tb mb ps)(b:w.grownBy wx (some mb))(f:IW wx tb mb t.ns)(l:Sg.Le s t)(hp:t.pb=s.pb):BM (Mw M w.heap.size wx.heap.size) wx t tb mb ps/\Stp M w (Mw M w.heap.size wx.heap.size) wx:=by
 have c:Stp M w (Mw M w.heap.size wx.heap.size) wx:=⟨b.os,b.tape,b.output,b.size,fun k a d=>⟨b.block k a (fun e=>d (by rw [i_ e];exact h.FV)),fun x=>x.elim d (fun y=>by omega)⟩⟩
 refine⟨⟨f,(h.pairs.AQ c).le l hp,.inl h.FV,fun x=>x.elim h.JJ (fun y=>by have:=h.B3.lt.1;omega),fun k a=>?_⟩,c⟩;rcases a with a | a
 ·exact l_ (h.mlt k a) b.size
 ·exact a.2
theorem Stp.set{b:Nat}(c:M b)(o:Nat)(v:Value):Stp M w M (w.setCell ⟨b,o,none⟩ v) :=⟨rfl,rfl,rfl,by simp [World.setCell],fun k _ a=>⟨Below.heap_setCell _ _ _ _ (fun e=>a (by rw [show k=b from by simpa using e];exact c)),a⟩⟩
theorem BM.set{s:Sg}{ps:List (PV×PV)}(h:BM M w s tb mb ps){b:Nat}(d:M b)(a:b≠mb)(o:Nat)(v:Value):BM M (w.setCell ⟨b,o,none⟩ v) s tb mb ps:=by have c:=Stp.set (w:=w) d o v;exact⟨h.B3.keep (c.block tb h.B3.lt.1 h.JJ).1 (Below.heap_setCell _ _ _ _ (fun e=>a (by simpa using e.symm))),h.pairs.AQ c,h.FV,h.JJ,fun k f=>by simpa [World.setCell] using h.mlt k f⟩
theorem eL(h:w.grownBy w' (some mb))(a:M mb):Stp M w M w':=Stp.DX h (fun k b=>by obtain rfl:=i_ b;exact a)
theorem aI(h:Below w.heap.size w w'):w.grownBy w' (some mb):=⟨h.os,h.tape,h.output,h.size,fun k a _=>h.block k a⟩
theorem aM{a b c:World}(h:a.grownBy b (some mb))(k:b.grownBy c (some mb)):a.grownBy c (some mb) :=⟨k.os.trans h.os,k.tape.trans h.tape,k.output.trans h.output,t_ h.size k.size,fun i d e=>(k.block i (l_ d h.size) e).trans (h.block i d e)⟩
theorem gm_set{X:World}{R:Nat}(h:w.grownBy X (some mb))(c:w.heap.size<=R)(o:Nat)(v:Value):w.grownBy (X.setCell ⟨R,o,none⟩ v) (some mb) :=⟨h.os,h.tape,h.output,by simpa [World.setCell] using h.size,fun i a b=>by rw [Below.heap_setCell _ _ _ _ (fun e=>by have:i=R:=(by simpa using e);omega)];exact h.block i a b⟩
def D2(tb:Nat):Value:=.agg #[.pointer (some ⟨tb,0,none⟩)]
def TRdr:TypeId:=116
def A0(tb:Nat):Obj:=.cells #[.pointer (some ⟨tb,0,none⟩)] TRdr (0,0)
def DK(s t:Sg):Prop:=∃l m,t={s with pb:=s.pb++l,ns:=s.ns++m}
theorem DK.refl(s:Sg):DK s s:=⟨[],[],by simp⟩
theorem DK.trans{a b c:Sg}(h:DK a b)(k:DK b c):DK a c:=by obtain⟨l,m,rfl⟩:=h;obtain⟨d,e,rfl⟩:=k;exact⟨l++d,m++e,by simp⟩
theorem DK.le{a b:Sg}(h:DK a b):Sg.Le a b:=by obtain⟨l,m,rfl⟩:=h;exact⟨rfl,rfl,List.prefix_append _ _,List.prefix_refl _,List.prefix_refl _,List.prefix_refl _,List.prefix_append _ _⟩
theorem GU.r{a b:Sg}(h:GU a b):DK a b:=by obtain⟨l,rfl⟩:=h;exact⟨l,[],by simp⟩
def Sg.named(s:Sg)(x:AE):Sg:={s with ns:=b9 s.ns x}
theorem Sg.E5(s:Sg)(x:AE):DK s (s.named x):=by obtain⟨m,a⟩:=pL s.ns x;exact⟨[],m,by simp [Sg.named,a]⟩
theorem BM.fail{s t:Sg}{ps c:List (PV×PV)}(h:BM M w s tb mb ps)(d:w.grownBy w' (some mb))(k:BM M w' t tb mb c)(e:DK s t):∃b,b.pb=s.pb/\b.ns=t.ns/\DK s b/\BM M w' b tb mb ps:=by
 obtain⟨l,m,rfl⟩:=e;have a:DK s {s with ns:=s.ns++m}:=⟨[],m,by simp⟩
 exact⟨{s with ns:=s.ns++m},rfl,rfl,a,k.B3,(h.pairs.AQ (eL d h.FV)).le a.le rfl,k.FV,k.JJ,k.mlt⟩
def BS:Nat:=100000000000000000
def A5(M:Nat->Prop)(w:World)(s:Sg)(tb mb:Nat)(ps:List (PV×PV))(o:FR)(z:Nat)(e:Ending)(w':World):Prop :=
 w.grownBy w' (some mb)/\∃t,DK s t/\t.ns.length<=s.ns.length+z /\
  ((∃r v,o=some r/\e=.returned (.tuple #[v,.nilIface])/\BM M w' t tb mb (ps++r.2)/\CP M w' t v r.1) \/
   (o=none/\t.pb=s.pb/\BM M w' t tb mb ps/\∃v es,e=.returned (.tuple #[v,aY es 5])))
def JI(M:Nat->Prop)(w:World)(v:Value)(F:Nat->FR)(z:Nat):Prop:=∀(M':Nat->Prop)(w':World)(s:Sg)(tb mb:Nat) (ps:List (PV×PV)),Stp M w M' w'->BM M' w' s tb mb ps->s.ns.length+z<=BS ->
 Calls prog 43 #[D2 tb,v] w' fun e w2=>A5 M' w' s tb mb ps (F ps.length) z e w2
theorem JI.go{M':Nat->Prop}{F:Nat->FR}{z:Nat}(h:JI M w v F z)(a:Stp M w M' w'):JI M' w' v F z:=fun b c s d e f g i j=>h b c s d e f (a.trans g) i j
def GB(n:Nat):Prop:=∀(M:Nat->Prop)(w:World)(v:Value)(t:Tr),AN (fun k=>¬M k) n w v t->cL n t->JI M w v (EF (AD n t)) (BB n t)
theorem AN.go{M':Nat->Prop}{n:Nat}{t:Tr}(h:AN (fun k=>¬M k) n w v t)(c:Stp M w M' w'):AN (fun k=>¬M' k) n w' v t:=by have d:AN (fun k=>¬M k/\k<w.heap.size) n w v t:=AN.mono (fun k b a=>⟨a,b⟩) _ _ _ h;have e:AN (fun k=>¬M k/\k<w.heap.size) n w' v t:=AN.keep (fun k _ a b=>(c.block k (aB b) a.1).1.trans b) _ _ _ d;exact AN.mono (fun k _ a=>(c.block k a.2 a.1).2) _ _ _ e
def CD(M:Nat->Prop)(w:World)(sl:Value)(vs:List Value):Prop:=Sl M w PT 1 sl vs.length vs
theorem AN.RQ{n:Nat}{c:List Tr}(h:AN (fun k=>¬M k) (n+1) w v (.agg c)):∃d a,v=.iface 118 d/\CD M w d a/\BY (AN (fun k=>¬M k) n w) a c/\c.length<=1000:=by
 obtain⟨d,a,b,f,m,p,q⟩:=h;have o:a.length=c.length:=m.1.trans (Nat.mul_one _);refine⟨d,a,b,⟨by simp,?_⟩,⟨o,p⟩,q⟩;rcases m.2 with⟨b,t⟩ | ⟨g,j,l,b,_,r,x,_,_,s⟩
 ·have:a=[]:=e_ (by omega);subst this;exact⟨none,0,b,n_,.inl rfl⟩
 ·refine⟨some ⟨g,0,none⟩,j,by rw [o];exact b,by omega,.inr ⟨g,0,l,rfl,f g (by rw [b];rfl),r,?_⟩⟩;intro i u e;rw [Nat.zero_add];rw [<- s,List.getElem?_take] at e;split at e
  ·simpa using e
  ·cases e
theorem Sl.C7{T:TypeId}{vs:List Value}(h:Sl M w T 1 v vs.length vs):DB w v vs:=by
 obtain⟨_,f,b,rfl,j,k⟩:=h;refine⟨f,b,rfl,j,fun i u d=>?_⟩;have m:=(s_ d).1;rcases k with n | ⟨g,c,l,rfl,_,e,a⟩
 ·omega
 ·exact⟨g,c,rfl,aB e,by rw [aA e];exact a i u d⟩
theorem Sl.J4{T:TypeId}{g off cap L:Nat}{u:Value}(h:Sl M w T 1 (.slice (some ⟨g,off,none⟩) L cap) (us.length+1) (u::us))(m:Nat)(b:us.length=m)(d:Option Addr)(c:Nat)(o:m<=c)(p:m≠0->d=some ⟨g,off+1,none⟩):Sl M w T 1 (.slice d m c) us.length us:=by
 subst b;refine⟨by simp,d,c,rfl,o,?_⟩;by_cases j:us.length=0
 ·exact .inl j
 ·right;obtain⟨_,q,k,e,_,l⟩:=h;rcases l with l | ⟨t,n,f,rfl,b,r,a⟩
  ·omega
  ·simp only [Value.slice.injEq,o_,Addr.mk.injEq,and_true] at e;obtain⟨⟨rfl,rfl⟩,_,_⟩:=e;refine⟨g,off+1,f,p j,b,r,fun i x s=>?_⟩;have:=a (i+1) x (by simpa using s);rw [show off+1+i=off+(i+1) from by omega];exact this
def P9(M:Nat->Prop)(w:World)(s:Sg)(tb mb:Nat)(ps:List (PV×PV))(t:Tr)(e:Ending)(w':World):Prop :=
 w.grownBy w' (some mb) /\
  ((∃x,t=.lit (.string x)/\EE x=false/\e=.returned (.tuple #[.agg #[.string ⟨x.toArray⟩,.int .i64 ((s.ns.idxOf x:Nat):Int)],.nilIface])/\BM M w' (s.named x) tb mb ps) \/
   (isName t=false/\BM M w' s tb mb ps/\∃es,e=.returned (.tuple #[.agg #[.string ⟨#[]⟩,.int .i64 0],aY es 5])))
theorem bA(w:World)(a b:Obj):Below w.heap.size w ((w.alloc a).alloc b):=b_.alloc (by simp) _
theorem V5(w:World)(a:Obj)(cs:Array Value)(T:TypeId):((w.alloc a).alloc (.cells cs T)).heap[w.heap.size+1]?=some (.cells cs T (0,0)):=by have:=heap_alloc_new (w.alloc a) (.cells cs T);rw [show(w.alloc a).heap.size=w.heap.size+1 from by simp] at this;exact this
theorem qP(ok:Nat->Prop)(n:Nat)(B:World)(M:Nat->Prop)(w:World)(s:Sg)(tb mb:Nat)(ps:List (PV×PV))(v:Value)(t:Tr)(h:AN ok n B v t)(q:BM M w s tb mb ps)(o:∀x,t=.lit (.string x)->x.length<=1000/\s.ns.length+1<=BS) :Calls prog 55 #[D2 tb,v] w fun e b=>P9 M w s tb mb ps t e b:=by
 have C:=Tryz.FY;have D:=Tryz.GO;have E:=Tryz.FM;have F:=Tryz.IB;have c:=h_ q;unfold D2;by_cases p:∃x,t=.lit (.string x)
 ·obtain⟨x,rfl⟩:=p;obtain rfl:=h.QR;have z:Hid (x.length<=1000/\s.ns.length+1<=BS):=o x rfl;clear h o q
  cases d:EE x
  ·go_enter func55,ntmps55
   go_wp2_with (go_at_call 52;refine(p_isKeyword _ _).mono ?_;rintro e b ⟨rfl,rfl⟩)
   obtain⟨a,r⟩:=c.wide (bA w (A0 tb) (.cells #[.string ⟨#[]⟩,.int .i64 0] B6));refine(jE _ tb mb s.ns x a.B3 (by have:=z.1;omega) (by have G:=z.2;unfold BS at G;omega)).mono ?_;rintro e f ⟨rfl,A,i⟩;have y:=c.mlt mb c.FV;have j:=(i.block (w.heap.size+1) (by simp) (by simp;omega)).trans (V5 w _ _ _);have g:Mw M w.heap.size ((w.alloc (A0 tb)).alloc (.cells #[.string ⟨#[]⟩,.int .i64 0] B6)).heap.size (w.heap.size+1):=.inr ⟨by omega,by simp⟩;have l:BM (Mw M w.heap.size ((w.alloc (A0 tb)).alloc (.cells #[.string ⟨#[]⟩,.int .i64 0] B6)).heap.size) f (s.named x) tb mb ps:=⟨A,(a.pairs.AQ (Stp.DX i (fun k d=>by obtain rfl:=i_ d;exact a.FV))).le (s.E5 x).le rfl,a.FV,a.JJ,fun k d=>l_ (a.mlt k d) i.size⟩
   have H:Hid (∀u v,BM M ((f.setCell ⟨w.heap.size+1,0,none⟩ u).setCell ⟨w.heap.size+1,1,none⟩ v) (s.named x) tb mb ps):=fun u v=>c.narrow ((l.set g (by omega) 0 u).set g (by omega) 1 v);have I:Hid (∀u v,w.grownBy ((f.setCell ⟨w.heap.size+1,0,none⟩ u).setCell ⟨w.heap.size+1,1,none⟩ v) (some mb)):=fun u v=>gm_set (gm_set (aM (aI (bA w _ _)) i) (by omega) 0 u) (by omega) 1 v;have K:f.cell? ⟨w.heap.size+1,0,none⟩=some (.string ⟨#[]⟩):=aA j 0;have L:f.cell? ⟨w.heap.size+1,1,none⟩=some (.int .i64 0):=aA j 1;have N:f.frozen? ⟨w.heap.size+1,0,none⟩=false:=aF j 0;have O:f.frozen? ⟨w.heap.size+1,1,none⟩=false:=aF j 1;have J:=h_ d;clear a r l g A i j d y;go_wp2_with fail
   (try simp only [Exit.inBlock,Exit.then])
   refine bodyPost_ret (v:=.tuple #[.agg #[.string ⟨x.toArray⟩,.int .i64 ((s.ns.idxOf x:Nat):Int)],.nilIface]) ?_ rfl ?_
   ·rw [results_cell_tmp rfl]
    go_simp
   ·exact⟨I _ _,.inl ⟨x,rfl,J,rfl,H _ _⟩⟩
  ·have m:Hid (isName (.lit (.string x))=false):=by simp [Hid,isName,d]
   go_enter func55,ntmps55
   go_wp2_with (first | (go_at_call 52;refine(p_isKeyword _ _).mono ?_;rintro e b ⟨rfl,rfl⟩) | (go_at_call 71;refine(aS _ _).mono ?_;rintro e b ⟨rfl,rfl⟩))
   (try simp only [Exit.inBlock,Exit.then])
   refine bodyPost_ret (v:=.tuple #[.agg #[.string ⟨#[]⟩,.int .i64 0],aY ⟨#[114,101,97,100,105,110,103,32,97,32,110,97,109,101]⟩ 5]) ?_ rfl ?_
   ·rw [results_cell_tmp rfl]
    go_simp
   ·exact⟨aI (bA w _ _),.inr ⟨m,c.below (bA w _ _),_,rfl⟩⟩
 ·have m:Hid (isName t=false):=by
   show isName t=false;unfold isName;split
   ·exact absurd ⟨_,rfl⟩ p
   ·rfl
  obtain⟨x,o⟩:∃x,v=.iface 186 x\/v=.iface 188 x\/v=.iface 118 x:=by
   cases n with
   | zero=>exact h.elim
   | succ n =>
    match t,h with
    | .lit (.int _ _),h=>obtain⟨k,rfl,_⟩:=h;exact⟨_,.inl rfl⟩
    | .lit (.bool _),h=>exact⟨_,.inr (.inl h)⟩
    | .lit (.string s),_=>exact absurd ⟨s,rfl⟩ p
    | .agg P,h=>obtain⟨Q,R,rfl,_⟩:=h;exact⟨_,.inr (.inr rfl)⟩
  clear h p q;rcases o with rfl | rfl | rfl
  ·go_enter func55,ntmps55
   go_wp2_with (first | (go_at_call 52;refine(p_isKeyword _ _).mono ?_;rintro e b ⟨rfl,rfl⟩) | (go_at_call 71;refine(aS _ _).mono ?_;rintro e b ⟨rfl,rfl⟩))
   (try simp only [Exit.inBlock,Exit.then])
   refine bodyPost_ret (v:=.tuple #[.agg #[.string ⟨#[]⟩,.int .i64 0],aY ⟨#[114,101,97,100,105,110,103,32,97,32,110,97,109,101]⟩ 5]) ?_ rfl ?_
   ·rw [results_cell_tmp rfl]
    go_simp
   ·exact⟨aI (bA w _ _),.inr ⟨m,c.below (bA w _ _),_,rfl⟩⟩
  ·go_enter func55,ntmps55
   go_wp2_with (first | (go_at_call 52;refine(p_isKeyword _ _).mono ?_;rintro e b ⟨rfl,rfl⟩) | (go_at_call 71;refine(aS _ _).mono ?_;rintro e b ⟨rfl,rfl⟩))
   (try simp only [Exit.inBlock,Exit.then])
   refine bodyPost_ret (v:=.tuple #[.agg #[.string ⟨#[]⟩,.int .i64 0],aY ⟨#[114,101,97,100,105,110,103,32,97,32,110,97,109,101]⟩ 5]) ?_ rfl ?_
   ·rw [results_cell_tmp rfl]
    go_simp
   ·exact⟨aI (bA w _ _),.inr ⟨m,c.below (bA w _ _),_,rfl⟩⟩
  ·go_enter func55,ntmps55
   go_wp2_with (first | (go_at_call 52;refine(p_isKeyword _ _).mono ?_;rintro e b ⟨rfl,rfl⟩) | (go_at_call 71;refine(aS _ _).mono ?_;rintro e b ⟨rfl,rfl⟩))
   (try simp only [Exit.inBlock,Exit.then])
   refine bodyPost_ret (v:=.tuple #[.agg #[.string ⟨#[]⟩,.int .i64 0],aY ⟨#[114,101,97,100,105,110,103,32,97,32,110,97,109,101]⟩ 5]) ?_ rfl ?_
   ·rw [results_cell_tmp rfl]
    go_simp
   ·exact⟨aI (bA w _ _),.inr ⟨m,c.below (bA w _ _),_,rfl⟩⟩
theorem Tryz.T6:(prog.info? 76).map (fun i=>(i.zero,i.size,i.bytes))=some (some .nilIface,1,16):=by kernel_rfl
def JH(M:Nat->Prop)(w:World)(s:Sg)(tb mb:Nat)(ps:List (PV×PV))(o:Option (List PF×List (PV×PV)))(len z:Nat)(e:Ending)(w':World):Prop :=
 w.grownBy w' (some mb)/\∃t,DK s t/\t.ns.length<=s.ns.length+z /\
  ((∃r v us,o=some r/\e=.returned (.tuple #[v,.nilIface])/\BM M w' t tb mb (ps++r.2)/\Sl M w' D8 1 v len us/\us.length=len/\BY (CP M w' t) us r.1) \/
   (o=none/\t.pb=s.pb/\BM M w' t tb mb ps/\∃v es,e=.returned (.tuple #[v,aY es 5])))
def Mr(M:Nat->Prop)(v:Value)(k:Nat):Prop:=M k\/v.ownBlock=some k
structure IY(M:Nat->Prop)(w wr:World)(s t:Sg)(tb mb:Nat)(ps:List (PV×PV))(Fs:List (Nat->FR))(zs:List Nat)(k:Nat)(rv:Value)(us:List Value)(fs:List PF)(new:List (PV×PV)):Prop where
 row:wr.ownsRow w.heap.size D8 1 rv k us
 ul:us.length=k
 fl:fs.length=k
 rd:BM (Mr M rv) wr t tb mb (ps++new)
 AQ:Stp M w (Mr M rv) wr
 gm:w.grownBy wr (some mb)
 sg:DK s t
 nl:t.ns.length<=s.ns.length+(zs.take k).sum
 rep:∀(i:Nat)(u:Value)(x:PF),us[i]?=some u->fs[i]?=some x->CP (Mr M rv) wr t u x
 left:Pl.Left Fs ps.length k fs new
theorem IY.start{w1:World}{s:Sg}{ps:List (PV×PV)}(e:List (Nat->FR))(f:List Nat)(h:BM M w s tb mb ps)(a:Below w.heap.size w w1):IY M w w1 s s tb mb ps e f 0 (.slice none 0 0) [] [] []:=by
 have b:∀k,Mr M (.slice none 0 0) k↔M k:=fun k=>by simp [Mr,Value.ownBlock]
 have c:=h.below a;have g:Stp M w (Mr M (.slice none 0 0)) w1:=⟨a.os,a.tape,a.output,a.size,fun k d j=>⟨a.block k d,fun x=>j ((b k).1 x)⟩⟩
 refine⟨World.ownsRow_nil _ _ _ _,rfl,rfl,⟨c.B3,?_,(b _).2 c.FV,fun x=>c.JJ ((b _).1 x),fun k d=>c.mlt k ((b k).1 d)⟩,g,aI a,DK.refl s,by simp,fun i u x l=>by simp at l,Pl.Left.start _ _⟩;rw [List.append_nil];exact c.pairs.weaken (fun k d=>(b k).1 d)
theorem IY.push{wr w2 w3:World}{s t A:Sg}{ps:List (PV×PV)}{N:List (Nat->FR)}{zs:List Nat}{k z:Nat}{rv u:Value}{fs:List PF}{l:List (PV×PV)}{F:Nat->FR}{p:PF×List (PV×PV)}{g' cap':Nat}{o:Obj}
  (h:IY M w wr s t tb mb ps N zs k rv us fs l) (S:∀k,M k->k<w.heap.size) (T:N[k]?=some F) (hp:F (ps++l).length=some p) (U:zs[k]?=some z)
  (B:wr.grownBy w2 (some mb)) (C:DK t A) (V:A.ns.length<=t.ns.length+z) (d:BM (Mr M rv) w2 A tb mb ((ps++l)++p.2)) (E:CP (Mr M rv) w2 A u p.1)
  (q:w3.ownsRow w.heap.size D8 1 (.slice (some ⟨g',0,none⟩) (k+1) cap') (k+1) (us++[u])) (f:(w2.alloc o).grownBy w3 rv.ownBlock) (G:rv.ownBlock=some g'\/g'=w2.heap.size+1) :
  IY M w w3 s A tb mb ps N zs (k+1) (.slice (some ⟨g',0,none⟩) (k+1) cap') (us++[u]) (fs++[p.1]) (l++p.2):=by
 have m:∀j,rv.ownBlock=some j->w.heap.size<=j:=fun j n=>(h.row.lt j n).1;have r:Stp (Mr M rv) wr (Mr M rv) w2:=eL B h.rd.FV;have O:w.heap.size<=w2.heap.size:=t_ h.AQ.size r.size
 have P:w.heap.size<=g':=by
  rcases G with v | v
  ·exact m _ v
  ·omega
 have b:Stp (Mr M rv) w2 (Mr M (.slice (some ⟨g',0,none⟩) (k+1) cap')) w3:=by
  have a:Below w2.heap.size w2 (w2.alloc o):=b_;refine⟨f.os.trans a.os,f.tape.trans a.tape,f.output.trans a.output,t_ a.size f.size,fun j n H=>⟨?_,?_⟩⟩
  ·rw [f.block j (l_ n a.size) (fun e=>H (.inr e.symm)),a.block j n]
  ·rintro(x | x)
   ·exact H (.inl x)
   ·simp only [Value.ownBlock,o_] at x;subst x;rcases G with v | v
    ·exact H (.inr v)
    ·omega
 have I:∀j,some j=rv.ownBlock->j≠mb:=fun j n e=>by
  have:=S mb (h.rd.FV.elim id (fun x=>by
   subst e
   exact absurd x (by
    intro x;have v:=m _ x;obtain⟨D,⟨es,cl,a,_⟩,_⟩:=h.rd.B3.map;rcases h.row.2 with⟨Q,_⟩ | ⟨g,W,X,Q,_,R,_⟩
    ·rw [Q] at x;simp [Value.ownBlock] at x
    ·rw [Q] at x;simp only [Value.ownBlock,o_] at x;subst x;rw [R] at a;simp at a)))
  have:=m j n.symm;omega
 have c:=d.B3.lt;have a:Below w2.heap.size w2 (w2.alloc o):=b_;refine⟨q,by simp [h.ul],by simp [h.fl],⟨?_,?_,?_,?_,?_⟩,(h.AQ.trans r).trans b,?_,h.sg.trans C,?_,?_,?_⟩
 ·refine d.B3.keep (b.block tb c.1 d.JJ).1 ?_;rw [f.block mb (l_ c.2 a.size) (fun e=>I mb e rfl),a.block mb c.2]
 ·rw [<- List.append_assoc];exact d.pairs.AQ b
 ·exact .inl (h.rd.FV.elim id (fun x=>absurd rfl (I mb x.symm)))
 ·exact(b.block tb c.1 d.JJ).2
 ·rintro j (x | x)
  ·exact l_ (S j x) (t_ O b.size)
  ·exact(q.lt j x).2
 ·have y:=aM h.gm B;refine⟨f.os.trans (a.os.trans y.os),f.tape.trans (a.tape.trans y.tape),f.output.trans (a.output.trans y.output),t_ y.size (t_ a.size f.size),fun j n H=>?_⟩;have J:=l_ n y.size;rw [f.block j (l_ J a.size) (fun e=>by have:=m j e.symm;omega),a.block j J,y.block j n H]
 ·rw [Pl.F4 zs k z U];have:=h.nl;omega
 ·intro i Y x L K;rcases p5 L with L | ⟨Z,rfl⟩
  ·rw [List.getElem?_append_left (by have:=(s_ L).1;have:=h.ul;have:=h.fl;omega)] at K;exact(h.rep i Y x L K).go (r.trans b) C.le
  ·rw [Z,h.ul,<-h.fl] at K;simp at K;subst K;exact E.go b (Sg.Le.refl _)
 ·have:=h.left.more T (by rw [<- a_];exact hp);exact this
theorem IY.done{wr:World}{s t:Sg}{ps:List (PV×PV)}{d:List (Nat->FR)}{zs:List Nat}{k:Nat}{rv:Value}{fs:List PF}{a:List (PV×PV)}
  (h:IY M w wr s t tb mb ps d zs k rv us fs a) (e:BM M w s tb mb ps) (n:k=d.length):w.grownBy wr (some mb)/\BM M wr t tb mb (ps++a)/\Sl M wr D8 1 rv k us/\BY (CP M wr t) us fs/\Pl.GG d ps.length=some (fs,a):=by
 subst n;refine⟨h.gm,⟨h.rd.B3,h.rd.pairs.weaken (fun _ x=>.inl x),e.FV,e.JJ,fun j o=>h.rd.mlt j (.inl o)⟩,?_,⟨by rw [h.ul,h.fl],fun i u x b p=>(h.rep i u x b p).weaken (fun _ y=>.inl y)⟩,h.left.done⟩;refine⟨h.row.1,?_⟩;rcases h.row.2 with⟨f,c⟩ | ⟨g,l,m,f,q,r,v,_,_,z⟩
 ·exact⟨none,0,by rw [c];exact f,by omega,.inl c⟩
 ·refine⟨some ⟨g,0,none⟩,l,f,v,.inr ⟨g,0,m,rfl,fun x=>by have:=e.mlt g x;omega,r,?_⟩⟩;intro i u b;rw [Nat.zero_add];rw [<- z,List.getElem?_take] at b;split at b
  ·simpa using b
  ·cases b
theorem p_forms(M:Nat->Prop)(w:World)(s:Sg)(tb mb:Nat)(ps:List (PV×PV))(sl:Value)(vs:List Value)(a:List (Nat->FR))(c:List Nat)(hR:BM M w s tb mb ps)(hS:CD M w sl vs)(hl:vs.length=a.length)(Q:c.length=a.length)(aq:a.length<=2000)(hz:s.ns.length+c.sum<=BS)(R:∀v∈vs,∃T x,v=.iface T x)
  (L:∀(i:Nat)(v:Value)(F:Nat->FR)(z:Nat),vs[i]?=some v->a[i]?=some F->c[i]?=some z->JI M w v F z) :
  Calls prog 92 #[D2 tb,sl] w fun e w'=>JH M w s tb mb ps (Pl.GG a ps.length) a.length c.sum e w':=by
 obtain⟨i0,ad,ae,af,ag⟩:=info_parts Tryz.T6;have HR:=h_ hR;have HS:=h_ hS;obtain⟨_,ao,av,rfl,S,_⟩:=hS;rw [hl] at S ⊢;have HV:=h_ hl;have HZ:=h_ Q;have HN:=h_ hz;have ah:=h_ L;have HI:=h_ R;have q:Hid (Below w.heap.size w (w.alloc (A0 tb))):=b_;have l:=h_ (hR.below q);have U:(w.alloc (A0 tb)).heap[w.heap.size]?=some (A0 tb):=heap_alloc_new _ _;have ai:=h_ U;have V:¬M w.heap.size:=fun hm=>by have:=hR.mlt _ hm;omega
 have aj:=h_ V;unfold D2;clear L hl Q hz R hR U V;go_enter func92,ntmps92;go_wp2_with fail
 go_loopw [6,13] (fun sv i wr=>∃(k:Nat)(m:List Value)(t:Sg)(W:List PF) (n:List (PV×PV)),k<=a.length/\i=.int .i64 k/\Hid (IY M (w.alloc (A0 tb)) wr s t tb mb ps a c k sv m W n)) (fun _ i _=>a.length-(intOf i).toNat)
 case atStart=>exact⟨0,[],s,[],[],Nat.zero_le _,rfl,IY.start a c l r_⟩
 case round =>
  obtain⟨k,m,t,W,n,hk,rfl,d⟩:=hrel;by_cases X:k<a.length
  ·obtain⟨u,hu⟩:∃u,vs[k]?=some u:=⟨vs[k]'(by have:=HV.out;omega),g_ (by have:=HV.out;omega)⟩
   obtain⟨F,L⟩:∃x,a[k]?=some x:=⟨a[k],g_ X⟩
   obtain⟨z,A⟩:∃x,c[k]?=some x:=⟨c[k]'(by have:=HZ.out;omega),g_ (by have:=HZ.out;omega)⟩
   have G:Stp M w (Mr M u6) wr:=(Stp.AA q).trans d.AQ;have ak:=(Sl.AQ G HS).C7;obtain⟨aw,b,e',_,Y⟩:=ak;simp only [Value.slice.injEq] at e';obtain⟨rfl,_,rfl⟩:=e';obtain⟨g,ax,rfl,hg,hc⟩:=Y k u hu;have c0:wr.cell? ⟨w.heap.size,0,none⟩=some (.pointer (some ⟨tb,0,none⟩)):=by have:=(d.AQ.block w.heap.size (by simp) aj).1.trans ai;exact aA this 0
   have HC:=h_ ((ah k u F z hu L A).go G);obtain⟨T,y,rfl⟩:=HI.out u (q_ hu);have Z:=h_ L;have aa:=h_ A;have al:Hid (t.ns.length+z<=BS):=show _<=_ from by have N:=d.nl;have h2:=Pl.F4 c k z A;have h3:=Pl.DH c (k+1);have h4:=HN.out;omega
   have ar:(k:Int)<(a.length:Int):=by omega
   clear Y G hu L A X;go_wp2_with fail;refine(HC _ wr t tb mb _ (Stp.refl _ _) d.rd al).mono ?_;rintro e E ⟨h,t2,B,H,⟨r,v,hr,rfl,f,p⟩ | ⟨hr,am,f,v,es,rfl⟩⟩
   ·have O:Hid (∀(P:World)(I b:Nat)(o:Obj),P.ownsRow (w.alloc (A0 tb)).heap.size D8 1 (.slice (some ⟨I,0,none⟩) (k+1) b) (k+1) (m++[v])->(E.alloc o).grownBy P u6.ownBlock->(u6.ownBlock=some I\/I=E.heap.size+1) ->
      IY M (w.alloc (A0 tb)) P s t2 tb mb ps a c (k+1) (.slice (some ⟨I,0,none⟩) (k+1) b) (m++[v]) (W++[r.1]) (n++r.2)):=fun P I b o N h2 h3=>d.push l.mlt Z hr aa h B H f p N h2 h3
    have an:Hid (E.ownsRow (w.heap.size+1) D8 1 u6 k m):=show World.ownsRow _ _ _ _ _ _ _ from by
     have:=d.row.kept h (.inr (fun e=>by
      have:=(d.row.lt mb e).1;have:=l.mlt mb l.FV
      omega))
     rwa [show(w.alloc (A0 tb)).heap.size=w.heap.size+1 from by simp] at this
    have ay:w.heap.size+1<=E.heap.size:=by have N:=d.gm.size;have h2:=h.size;rw [show(w.alloc (A0 tb)).heap.size=w.heap.size+1 from by simp] at N;omega
    rw [show(w.alloc (A0 tb)).heap.size=w.heap.size+1 from by simp] at O;obtain⟨Tf,xf,rfl⟩:=p.iface;clear h B H hr f p c0 hc;go_wp2_with (first | (at_builtin;refine wpList_append_lies _ rfl _ _ 198 rfl (w.heap.size+1) 76 i0 .nilIface 1 16 underlying198 ad ae af ag rfl (by decide) u6 k m rfl (an.alloc _) ⟨E.heap.size,0,none⟩ 1 1 [.iface Tf xf] rfl rfl (cell_one_new _ _ _) (fun x hx=>by simp at hx;subst hx;rfl) (by decide) (by unfold maxLen;omega) (by omega) (by simp;omega) (E.heap.size+1) (by simp) ?_;intro I b P J C ab _))
    go_roundw
    case rel=>exact⟨k+1,_,_,_,_,by omega,by go_num,O P I b _ J C ab⟩
    case measure=>simp [intOf];omega
   ·have HE:Hid (Pl.GG a ps.length=none):=d.left.none_ Z (by rw [<- a_];exact hr);have K:w.grownBy E (some mb):=aM (aI q) (aM d.gm h);obtain⟨t3,p1,p2,p3,p4⟩:=HR.fail K ⟨f.B3,f.pairs.weaken (fun _ x=>.inl x),HR.FV,HR.JJ,fun j hj=>f.mlt j (.inl hj)⟩ (d.sg.trans B);have HT:Hid (t3.ns.length<=s.ns.length+c.sum):=show _<=_ from by rw [p2];have N:=d.nl;have h2:=Pl.F4 c k z aa;have h3:=Pl.DH c (k+1);omega
    have O:Hid (t3.pb=s.pb/\DK s t3/\BM M E t3 tb mb ps):=⟨p1,p3,p4⟩
    have HG:=h_ K;clear h B H hr f am p1 p2 p3 p4 K c0 hc;unfold aY;go_wp2_with fail;go_ret2;exact⟨HG,t3,O.2.1,HT,.inr ⟨HE,O.1,O.2.2,_,_,rfl⟩⟩
  ·have D:k=a.length:=by omega
   obtain⟨d1,d2,d3,d4,d5⟩:=d.done l D;have HD:Hid (w.grownBy wr (some mb)/\BM M wr t tb mb (ps++n)/\BY (CP M wr t) m W/\Pl.GG a ps.length=some (W,n)):=⟨aM (aI q) d1,d2,d4,d5⟩
   have HX:Hid (DK s t/\t.ns.length<=s.ns.length+c.sum):=⟨d.sg,by
    have N:=d.nl;have h3:=Pl.DH c k
    omega⟩
   have ac:Hid (Sl M wr D8 1 u6 a.length m):=show Sl _ _ _ _ _ _ _ from by rw [<- D];exact d3
   have ap:Hid (m.length=a.length):=show m.length=a.length from by rw [<- D];exact d.ul
   obtain⟨_,az,au,rfl,_⟩:=ac.out;clear d1 d2 d3 d4 d5 D;go_wp2_with fail;go_ret2;exact⟨HD.1,t,HX.1,HX.2,.inl ⟨_,_,m,HD.2.2.2,rfl,HD.2.1,ac,ap,HD.2.2.1⟩⟩
end
end Go.Proofs.YtieooapcfpimlaaGreatDoor
