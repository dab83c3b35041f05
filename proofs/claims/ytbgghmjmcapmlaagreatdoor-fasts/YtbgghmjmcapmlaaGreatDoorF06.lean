import Derived.Laws.ResultCell
import Derived.Test.YtbgghmjmcapmlaaGreatDoorF05
import Derived.Deep.DeepCutAuto
namespace Go.Proofs.YtbgghmjmcapmlaaGreatDoor
set_option maxHeartbeats 4000000
set_option maxRecDepth 100000
open Go.Proofs.Tryz
open Pl (PV PF FR AE FK AD BB BN EE EF isName)
theorem zD5{P:Prop}(h:P:=by
 go_enter func76,ntmps76
 go_wp2_with (first | (go_at_call 73;refine(p_isKeyword _ _).mono ?_;rintro e b ⟨rfl,rfl⟩) | (go_at_call 92;refine(aS _ _).mono ?_;rintro e b ⟨rfl,rfl⟩))
 (try simp only [Exit.inBlock,Exit.then])
 refine bodyPost_ret (v:=.tuple #[.agg #[.string ⟨#[]⟩,Q1 0],aY ⟨#[114,101,97,100,105,110,103,32,97,32,110,97,109,101]⟩ 5]) ?_ rfl ?_
 ·rw [results_cell_tmp rfl]
  go_simp
 ·exact⟨aI (bA w _ _),.inr ⟨m,c.below (bA w _ _),_,rfl⟩⟩):P:=h
theorem zD6{P:Prop}(h:P:=by
 have u:Hid (DK s t/\t.ns.length<=s.ns.length+(a.map (BB n)).sum):=⟨f,g⟩
 have B:=h_ (aM (aI l) y);have D:Hid (∀i,BM M (j.alloc i) t tb mb ps):=fun i=>c.below (bB j i);have E:=h_ q;have F:Hid (o=none):=show _=_ from by rw [O.out,m];rfl
 clear y f g m c q;unfold aY;go_wp2_with fail;go_ret2;exact⟨aM B (aI (bB j _)),t,u.1,u.2,.inr ⟨F,E,D _,_,_,rfl⟩⟩):P:=h
theorem zD7{P:Prop}(h:P:=by obtain⟨U,V,rfl⟩:=d.iface;clear y f g m c d P;go_wp2_with fail;go_ret2;exact⟨aM B (aI (bB j _)),t,u.1,u.2,.inl ⟨_,_,C,rfl,(Q _).1,(Q _).2⟩⟩):P:=h
section
open Go.RowKit
variable {w w' w2 wx:World} {M:Q5} {mb tb n k b z:Nat} {s t a:Sg} {v ev:Value} {us vs:List Value} {fs:List PF}
structure BM(M:Q5)(w:World)(s:Sg)(tb mb:Nat)(ps:List (PV×PV)):Prop where
 B3:IW w tb mb s.ns
 pairs:BD M w s ps
 FV:M mb
 JJ:¬M tb
 mlt:∀k,M k->k<w.heap.size
theorem BM.below{ps:List (PV×PV)}(h:BM M w s tb mb ps)(a:Q3 w w'):BM M w' s tb mb ps :=⟨h.B3.keep (a.block _ h.B3.lt.1) (a.block _ h.B3.lt.2),h.pairs.AQ (Stp.AA a),h.FV,h.JJ,fun k b=>l_ (h.mlt k b) a.size⟩
def Mw(M:Q5)(a b:Nat)(k:Nat):Prop:=M k\/(a<=k/\k<b)
theorem BM.wide{ps:List (PV×PV)}(h:BM M w s tb mb ps)(a:Q3 w w'):BM (Mw M w.heap.size w'.heap.size) w' s tb mb ps/\Stp M w (Mw M w.heap.size w'.heap.size) w':=by
 have c:Stp M w (Mw M w.heap.size w'.heap.size) w':=⟨a.os,a.tape,a.output,a.size,fun k b d=>⟨a.block k b,fun x=>x.elim d (fun y=>by omega)⟩⟩
 refine⟨⟨h.B3.keep (a.block _ h.B3.lt.1) (a.block _ h.B3.lt.2),h.pairs.AQ c,.inl h.FV,fun x=>x.elim h.JJ (fun y=>by have:=h.B3.lt.1;omega),fun k b=>?_⟩,c⟩;rcases b with b | b
 ·exact l_ (h.mlt k b) a.size
 ·exact b.2
theorem BM.narrow{a:Nat}{ps b:List (PV×PV)}(h:BM M w s tb mb ps)(k:BM (Mw M w.heap.size a) w2 t tb mb b):BM M w2 t tb mb b :=⟨k.B3,k.pairs.weaken (fun _ x=>.inl x),h.FV,h.JJ,fun i c=>k.mlt i (.inl c)⟩
theorem BM.wide2{ps:List (PV×PV)}(h:BM M w s tb mb ps)(b:w.grownBy wx (some mb))(f:IW wx tb mb t.ns)(l:Sg.Le s t)(hp:t.pb=s.pb):BM (Mw M w.heap.size wx.heap.size) wx t tb mb ps/\Stp M w (Mw M w.heap.size wx.heap.size) wx:=by
 have c:Stp M w (Mw M w.heap.size wx.heap.size) wx:=⟨b.os,b.tape,b.output,b.size,fun k a d=>⟨b.block k a (fun e=>d (by rw [i_ e];exact h.FV)),fun x=>x.elim d (fun y=>by omega)⟩⟩
 refine⟨⟨f,(h.pairs.AQ c).le l hp,.inl h.FV,fun x=>x.elim h.JJ (fun y=>by have:=h.B3.lt.1;omega),fun k a=>?_⟩,c⟩;rcases a with a | a
 ·exact l_ (h.mlt k a) b.size
 ·exact a.2
theorem Stp.set(c:M b)(o:Nat)(v:Value):Stp M w M (w.setCell ⟨b,o,none⟩ v) :=⟨rfl,rfl,rfl,zN1,fun k _ a=>⟨Below.heap_setCell _ _ _ _ (fun e=>a (by rw [show k=b from by simpa using e];exact c)),a⟩⟩
theorem BM.set{ps:List (PV×PV)}(h:BM M w s tb mb ps)(d:M b)(a:b≠mb)(o:Nat)(v:Value):BM M (w.setCell ⟨b,o,none⟩ v) s tb mb ps:=by have c:=Stp.set (w:=w) d o v;exact⟨h.B3.keep (c.block tb h.B3.lt.1 h.JJ).1 (Below.heap_setCell _ _ _ _ (fun e=>a (by simpa using e.symm))),h.pairs.AQ c,h.FV,h.JJ,fun k f=>by simpa [World.setCell] using h.mlt k f⟩
theorem eL(h:w.grownBy w' (some mb))(a:M mb):Stp M w M w':=Stp.DX h (fun k b=>by obtain rfl:=i_ b;exact a)
theorem aI(h:Q3 w w'):w.grownBy w' (some mb):=⟨h.os,h.tape,h.output,h.size,fun k a _=>h.block k a⟩
theorem aM{a b c:World}(h:a.grownBy b (some mb))(k:b.grownBy c (some mb)):a.grownBy c (some mb) :=⟨k.os.trans h.os,k.tape.trans h.tape,k.output.trans h.output,t_ h.size k.size,fun i d e=>(k.block i (l_ d h.size) e).trans (h.block i d e)⟩
theorem gm_set{X:World}{R:Nat}(h:w.grownBy X (some mb))(c:w.heap.size<=R)(o:Nat)(v:Value):w.grownBy (X.setCell ⟨R,o,none⟩ v) (some mb) :=⟨h.os,h.tape,h.output,zM9,fun i a b=>by rw [Below.heap_setCell _ _ _ _ (fun e=>by have:i=R:=(by simpa using e);omega)];exact h.block i a b⟩
def D2(tb:Nat):Value:=.agg #[Q0 tb]
def TRdr:TypeId:=164
def A0(tb:Nat):Obj:=.cells #[Q0 tb] TRdr (0,0)
def DK(s t:Sg):Prop:=∃l m,t={s with pb:=s.pb++l,ns:=s.ns++m}
theorem DK.refl(s:Sg):DK s s:=⟨[],[],w9⟩
theorem DK.trans{b c:Sg}(h:DK a b)(k:DK b c):DK a c:=by obtain⟨l,m,rfl⟩:=h;obtain⟨d,e,rfl⟩:=k;exact⟨l++d,m++e,w9⟩
theorem DK.le{b:Sg}(h:DK a b):Sg.Le a b:=by obtain⟨l,m,rfl⟩:=h;exact⟨rfl,rfl,List.prefix_append _ _,List.prefix_refl _,List.prefix_refl _,List.prefix_refl _,List.prefix_append _ _⟩
theorem GU.r{b:Sg}(h:GU a b):DK a b:=by obtain⟨l,rfl⟩:=h;exact⟨l,[],w9⟩
def Sg.named(s:Sg)(x:AE):Sg:={s with ns:=b9 s.ns x}
theorem Sg.E5(s:Sg)(x:AE):DK s (s.named x):=by obtain⟨m,a⟩:=pL s.ns x;exact⟨[],m,by simp [Sg.named,a]⟩
theorem BM.fail{ps c:List (PV×PV)}(h:BM M w s tb mb ps)(d:w.grownBy w' (some mb))(k:BM M w' t tb mb c)(e:DK s t):∃b,b.pb=s.pb/\b.ns=t.ns/\DK s b/\BM M w' b tb mb ps:=by
 obtain⟨l,m,rfl⟩:=e;have a:DK s {s with ns:=s.ns++m}:=⟨[],m,w9⟩
 exact⟨{s with ns:=s.ns++m},rfl,rfl,a,k.B3,(h.pairs.AQ (eL d h.FV)).le a.le rfl,k.FV,k.JJ,k.mlt⟩
def BS:Nat:=100000000000000000
def A5(M:Q5)(w:World)(s:Sg)(tb mb:Nat)(ps:List (PV×PV))(o:FR)(z:Nat)(e:Ending)(w':World):Prop :=
 w.grownBy w' (some mb)/\∃t,DK s t/\t.ns.length<=s.ns.length+z /\
  ((∃r v,o=some r/\e=.returned (.tuple #[v,.nilIface])/\BM M w' t tb mb (ps++r.2)/\CP M w' t v r.1) \/
   (o=none/\t.pb=s.pb/\BM M w' t tb mb ps/\∃v es,e=.returned (.tuple #[v,aY es 5])))
def JI(M:Q5)(w:World)(v:Value)(F:Nat->FR)(z:Nat):Prop:=∀(M':Q5)(w':World)(s:Sg)(tb mb:Nat) (ps:List (PV×PV)),Stp M w M' w'->BM M' w' s tb mb ps->s.ns.length+z<=BS ->
 Q2 62 #[D2 tb,v] w' fun e w2=>A5 M' w' s tb mb ps (F ps.length) z e w2
theorem JI.go{M':Q5}{F:Nat->FR}(h:JI M w v F z)(a:Stp M w M' w'):JI M' w' v F z:=fun b c s d e f g i j=>h b c s d e f (a.trans g) i j
def GB(n:Nat):Prop:=∀(M:Q5)(w:World)(v:Value)(t:Tr),AN (fun k=>¬M k) n w v t->cL n t->JI M w v (EF (AD n t)) (BB n t)
theorem AN.go{M':Q5}{t:Tr}(h:AN (fun k=>¬M k) n w v t)(c:Stp M w M' w'):AN (fun k=>¬M' k) n w' v t:=by have d:AN (fun k=>¬M k/\k<w.heap.size) n w v t:=AN.mono (fun k b a=>⟨a,b⟩) _ _ _ h;have e:AN (fun k=>¬M k/\k<w.heap.size) n w' v t:=AN.keep (fun k _ a b=>(c.block k (aB b) a.1).1.trans b) _ _ _ d;exact AN.mono (fun k _ a=>(c.block k a.2 a.1).2) _ _ _ e
def CD(M:Q5)(w:World)(sl:Value)(vs:List Value):Prop:=Sl M w PT 1 sl vs.length vs
theorem AN.RQ{c:List Tr}(h:AN (fun k=>¬M k) (n+1) w v (.agg c)):∃d a,v=.iface 166 d/\CD M w d a/\BY (AN (fun k=>¬M k) n w) a c/\c.length<=1000:=by
 obtain⟨d,a,b,f,m,p,q⟩:=h;have o:a.length=c.length:=m.1.trans (Nat.mul_one _);refine⟨d,a,b,⟨w9,?_⟩,⟨o,p⟩,q⟩;rcases m.2 with⟨b,t⟩ | ⟨g,j,l,b,_,r,x,_,_,s⟩
 ·have:a=[]:=e_ x8;subst this;exact⟨none,0,b,n_,.inl rfl⟩
 ·refine⟨some ⟨g,0,none⟩,j,by rw [o];exact b,x8,.inr ⟨g,0,l,rfl,f g zN5,r,?_⟩⟩;intro i u e;rw [Nat.zero_add];rw [<- s,List.getElem?_take] at e;split at e
  ·simpa using e
  ·cases e
theorem Sl.C7{T:TypeId}(h:Sl M w T 1 v vs.length vs):DB w v vs:=by
 obtain⟨_,f,b,rfl,j,k⟩:=h;refine⟨f,b,rfl,j,fun i u d=>?_⟩;have m:=(s_ d).1;rcases k with n | ⟨g,c,l,rfl,_,e,a⟩
 ·omega
 ·exact⟨g,c,rfl,aB e,by rw [aA e];exact a i u d⟩
theorem Sl.J4{T:TypeId}{g off cap L:Nat}{u:Value}(h:Sl M w T 1 (.slice (some ⟨g,off,none⟩) L cap) (us.length+1) (u::us))(m:Nat)(b:us.length=m)(d:Option Addr)(c:Nat)(o:m<=c)(p:m≠0->d=some ⟨g,off+1,none⟩):Sl M w T 1 (.slice d m c) us.length us:=by
 subst b;refine⟨w9,d,c,rfl,o,?_⟩;by_cases j:us.length=0
 ·exact .inl j
 ·right;obtain⟨_,q,k,e,_,l⟩:=h;rcases l with l | ⟨t,n,f,rfl,b,r,a⟩
  ·omega
  ·simp only [Value.slice.injEq,o_,Addr.mk.injEq,and_true] at e;obtain⟨⟨rfl,rfl⟩,_,_⟩:=e;refine⟨g,off+1,f,p j,b,r,fun i x s=>?_⟩;have:=a (i+1) x (by simpa using s);rw [show off+1+i=off+(i+1) from by omega];exact this
def P9(M:Q5)(w:World)(s:Sg)(tb mb:Nat)(ps:List (PV×PV))(t:Tr)(e:Ending)(w':World):Prop :=
 w.grownBy w' (some mb) /\
  ((∃x,t=.lit (.string x)/\EE x=false/\e=.returned (.tuple #[.agg #[.string ⟨x.toArray⟩,Q1 ((s.ns.idxOf x:Nat):Int)],.nilIface])/\BM M w' (s.named x) tb mb ps) \/
   (isName t=false/\BM M w' s tb mb ps/\∃es,e=.returned (.tuple #[.agg #[.string ⟨#[]⟩,Q1 0],aY es 5])))
theorem bA(w:World)(a b:Obj):Q3 w ((w.alloc a).alloc b):=b_.alloc w9 _
theorem V5(w:World)(a:Obj)(cs:Array Value)(T:TypeId):((w.alloc a).alloc (.cells cs T)).heap[w.heap.size+1]?=some (.cells cs T (0,0)):=by have:=heap_alloc_new (w.alloc a) (.cells cs T);rw [show(w.alloc a).heap.size=w.heap.size+1 from by simp] at this;exact this
theorem qP(ok:Q5)(n:Nat)(B:World)(M:Q5)(w:World)(s:Sg)(tb mb:Nat)(ps:List (PV×PV))(v:Value)(t:Tr)(h:AN ok n B v t)(q:BM M w s tb mb ps)(o:∀x,t=.lit (.string x)->x.length<=1000/\s.ns.length+1<=BS) :Q2 76 #[D2 tb,v] w fun e b=>P9 M w s tb mb ps t e b:=by
 have C:=Tryz.FY;have D:=Tryz.GO;have E:=Tryz.FM;have F:=Tryz.IB;have c:=h_ q;unfold D2;by_cases p:∃x,t=.lit (.string x)
 ·obtain⟨x,rfl⟩:=p;obtain rfl:=h.QR;have z:Hid (x.length<=1000/\s.ns.length+1<=BS):=o x rfl;clear h o q
  cases d:EE x
  ·go_enter func76,ntmps76
   go_wp2_with (go_at_call 73;refine(p_isKeyword _ _).mono ?_;rintro e b ⟨rfl,rfl⟩)
   obtain⟨a,r⟩:=c.wide (bA w (A0 tb) (.cells #[.string ⟨#[]⟩,Q1 0] B6));refine(jE _ tb mb s.ns x a.B3 (by have:=z.1;omega) (by have G:=z.2;unfold BS at G;omega)).mono ?_;rintro e f ⟨rfl,A,i⟩;have y:=c.mlt mb c.FV;have j:=(i.block (w.heap.size+1) w9 r7).trans (V5 w _ _ _);have g:Mw M w.heap.size ((w.alloc (A0 tb)).alloc (.cells #[.string ⟨#[]⟩,Q1 0] B6)).heap.size (w.heap.size+1):=.inr ⟨x8,w9⟩;have l:BM (Mw M w.heap.size ((w.alloc (A0 tb)).alloc (.cells #[.string ⟨#[]⟩,Q1 0] B6)).heap.size) f (s.named x) tb mb ps:=⟨A,(a.pairs.AQ (Stp.DX i (fun k d=>by obtain rfl:=i_ d;exact a.FV))).le (s.E5 x).le rfl,a.FV,a.JJ,fun k d=>l_ (a.mlt k d) i.size⟩
   have H:Hid (∀u v,BM M ((f.setCell ⟨w.heap.size+1,0,none⟩ u).setCell ⟨w.heap.size+1,1,none⟩ v) (s.named x) tb mb ps):=fun u v=>c.narrow ((l.set g x8 0 u).set g x8 1 v);have I:Hid (∀u v,w.grownBy ((f.setCell ⟨w.heap.size+1,0,none⟩ u).setCell ⟨w.heap.size+1,1,none⟩ v) (some mb)):=fun u v=>gm_set (gm_set (aM (aI (bA w _ _)) i) x8 0 u) x8 1 v;have K:f.cell? ⟨w.heap.size+1,0,none⟩=some (.string ⟨#[]⟩):=aA j 0;have L:f.cell? ⟨w.heap.size+1,1,none⟩=some (Q1 0):=aA j 1;have N:f.frozen? ⟨w.heap.size+1,0,none⟩=false:=aF j 0;have O:f.frozen? ⟨w.heap.size+1,1,none⟩=false:=aF j 1;have J:=h_ d;clear a r l g A i j d y;go_wp2_with fail
   (try simp only [Exit.inBlock,Exit.then])
   refine bodyPost_ret (v:=.tuple #[.agg #[.string ⟨x.toArray⟩,Q1 ((s.ns.idxOf x:Nat):Int)],.nilIface]) ?_ rfl ?_
   ·rw [results_cell_tmp rfl]
    go_simp
   ·exact⟨I _ _,.inl ⟨x,rfl,J,rfl,H _ _⟩⟩
  ·have m:Hid (isName (.lit (.string x))=false):=by simp [Hid,isName,d]
   exact zD5
 ·have m:Hid (isName t=false):=by
   show isName t=false;unfold isName;split
   ·exact absurd ⟨_,rfl⟩ p
   ·rfl
  obtain⟨x,o⟩:∃x,v=.iface 236 x\/v=.iface 238 x\/v=.iface 166 x:=by
   cases n with
   | zero=>exact h.elim
   | succ n =>
    match t,h with
    | .lit (.int _ _),h=>obtain⟨k,rfl,_⟩:=h;exact⟨_,.inl rfl⟩
    | .lit (.bool _),h=>exact⟨_,.inr (.inl h)⟩
    | .lit (.string s),_=>exact absurd ⟨s,rfl⟩ p
    | .agg P,h=>obtain⟨Q,R,rfl,_⟩:=h;exact⟨_,.inr (.inr rfl)⟩
  clear h p q;rcases o with rfl | rfl | rfl
  ·exact zD5
  ·exact zD5
  ·exact zD5
theorem Tryz.T6:(prog.info? 101).map (fun i=>(i.zero,i.size,i.bytes))=some (some .nilIface,1,16):=by kernel_rfl
def JH(M:Q5)(w:World)(s:Sg)(tb mb:Nat)(ps:List (PV×PV))(o:Option (List PF×List (PV×PV)))(len z:Nat)(e:Ending)(w':World):Prop :=
 w.grownBy w' (some mb)/\∃t,DK s t/\t.ns.length<=s.ns.length+z /\
  ((∃r v us,o=some r/\e=.returned (.tuple #[v,.nilIface])/\BM M w' t tb mb (ps++r.2)/\Sl M w' D8 1 v len us/\us.length=len/\BY (CP M w' t) us r.1) \/
   (o=none/\t.pb=s.pb/\BM M w' t tb mb ps/\∃v es,e=.returned (.tuple #[v,aY es 5])))
def Mr(M:Q5)(v:Value)(k:Nat):Prop:=M k\/v.ownBlock=some k
structure IY(M:Q5)(w wr:World)(s t:Sg)(tb mb:Nat)(ps:List (PV×PV))(Fs:List (Nat->FR))(zs:List Nat)(k:Nat)(rv:Value)(us:List Value)(fs:List PF)(new:List (PV×PV)):Prop where
 row:wr.ownsRow w.heap.size D8 1 rv k us
 ul:us.length=k
 fl:fs.length=k
 rd:BM (Mr M rv) wr t tb mb (ps++new)
 AQ:Stp M w (Mr M rv) wr
 gm:w.grownBy wr (some mb)
 sg:DK s t
 nl:t.ns.length<=s.ns.length+(zs.take k).sum
 rep:∀(i:Nat)(u:Value)(x:PF),us[i]?=some u->fs[i]?=some x->CP (Mr M rv) wr t u x
 left:Pl.Left Fs ps.length k fs new
theorem IY.start{w1:World}{ps:List (PV×PV)}(e:List (Nat->FR))(f:List Nat)(h:BM M w s tb mb ps)(a:Q3 w w1):IY M w w1 s s tb mb ps e f 0 (.slice none 0 0) [] [] []:=by
 have b:∀k,Mr M (.slice none 0 0) k↔M k:=fun k=>by simp [Mr,Value.ownBlock]
 have c:=h.below a;have g:Stp M w (Mr M (.slice none 0 0)) w1:=⟨a.os,a.tape,a.output,a.size,fun k d j=>⟨a.block k d,fun x=>j ((b k).1 x)⟩⟩
 refine⟨World.ownsRow_nil _ _ _ _,rfl,rfl,⟨c.B3,?_,(b _).2 c.FV,fun x=>c.JJ ((b _).1 x),fun k d=>c.mlt k ((b k).1 d)⟩,g,aI a,DK.refl s,w9,fun i u x l=>by simp at l,Pl.Left.start _ _⟩;rw [List.append_nil];exact c.pairs.weaken (fun k d=>(b k).1 d)
theorem IY.push{wr w3:World}{t2:Sg}{ps:List (PV×PV)}{L:List (Nat->FR)}{zs:List Nat}{rv u:Value}{l:List (PV×PV)}{F:Nat->FR}{p:PF×List (PV×PV)}{g' cap':Nat}{o:Obj}
  (h:IY M w wr s t tb mb ps L zs k rv us fs l) (R:∀k,M k->k<w.heap.size) (S:L[k]?=some F) (hp:F (ps++l).length=some p) (T:zs[k]?=some z)
  (A:wr.grownBy w2 (some mb)) (B:DK t t2) (U:t2.ns.length<=t.ns.length+z) (d:BM (Mr M rv) w2 t2 tb mb ((ps++l)++p.2)) (C:CP (Mr M rv) w2 t2 u p.1)
  (q:w3.ownsRow w.heap.size D8 1 (.slice (some ⟨g',0,none⟩) (k+1) cap') (k+1) (us++[u])) (f:(w2.alloc o).grownBy w3 rv.ownBlock) (E:rv.ownBlock=some g'\/g'=w2.heap.size+1) :
  IY M w w3 s t2 tb mb ps L zs (k+1) (.slice (some ⟨g',0,none⟩) (k+1) cap') (us++[u]) (fs++[p.1]) (l++p.2):=by
 have m:∀j,rv.ownBlock=some j->w.heap.size<=j:=fun j n=>(h.row.lt j n).1;have r:Stp (Mr M rv) wr (Mr M rv) w2:=eL A h.rd.FV;have N:w.heap.size<=w2.heap.size:=t_ h.AQ.size r.size
 have O:w.heap.size<=g':=by
  rcases E with v | v
  ·exact m _ v
  ·omega
 have b:Stp (Mr M rv) w2 (Mr M (.slice (some ⟨g',0,none⟩) (k+1) cap')) w3:=by
  have a:Q3 w2 (w2.alloc o):=b_;refine⟨f.os.trans a.os,f.tape.trans a.tape,f.output.trans a.output,t_ a.size f.size,fun j n G=>⟨?_,?_⟩⟩
  ·rw [f.block j (l_ n a.size) (fun e=>G (.inr e.symm)),a.block j n]
  ·rintro(x | x)
   ·exact G (.inl x)
   ·simp only [Value.ownBlock,o_] at x;subst x;rcases E with v | v
    ·exact G (.inr v)
    ·omega
 have H:∀j,some j=rv.ownBlock->j≠mb:=fun j n e=>by
  have:=R mb (h.rd.FV.elim id (fun x=>by
   subst e
   exact absurd x (by
    intro x;have v:=m _ x;obtain⟨D,⟨Z,cl,a,_⟩,_⟩:=h.rd.B3.map;rcases h.row.2 with⟨P,_⟩ | ⟨g,V,W,P,_,Q,_⟩
    ·rw [P] at x;simp [Value.ownBlock] at x
    ·rw [P] at x;simp only [Value.ownBlock,o_] at x;subst x;rw [Q] at a;simp at a)))
  have:=m j n.symm;omega
 have c:=d.B3.lt;have a:Q3 w2 (w2.alloc o):=b_;refine⟨q,by simp [h.ul],by simp [h.fl],⟨?_,?_,?_,?_,?_⟩,(h.AQ.trans r).trans b,?_,h.sg.trans B,?_,?_,?_⟩
 ·refine d.B3.keep (b.block tb c.1 d.JJ).1 ?_;rw [f.block mb (l_ c.2 a.size) (fun e=>H mb e rfl),a.block mb c.2]
 ·rw [<- List.append_assoc];exact d.pairs.AQ b
 ·exact .inl (h.rd.FV.elim id (fun x=>absurd rfl (H mb x.symm)))
 ·exact(b.block tb c.1 d.JJ).2
 ·rintro j (x | x)
  ·exact l_ (R j x) (t_ N b.size)
  ·exact(q.lt j x).2
 ·have y:=aM h.gm A;refine⟨f.os.trans (a.os.trans y.os),f.tape.trans (a.tape.trans y.tape),f.output.trans (a.output.trans y.output),t_ y.size (t_ a.size f.size),fun j n G=>?_⟩;have I:=l_ n y.size;rw [f.block j (l_ I a.size) (fun e=>by have:=m j e.symm;omega),a.block j I,y.block j n G]
 ·rw [Pl.F4 zs k z T];have:=h.nl;omega
 ·intro i X x K J;rcases p5 K with K | ⟨Y,rfl⟩
  ·rw [List.getElem?_append_left (by have:=(s_ K).1;have:=h.ul;have:=h.fl;omega)] at J;exact(h.rep i X x K J).go (r.trans b) B.le
  ·rw [Y,h.ul,<-h.fl] at J;simp at J;subst J;exact C.go b (Sg.Le.refl _)
 ·have:=h.left.more S (by rw [<- a_];exact hp);exact this
theorem IY.done{wr:World}{ps:List (PV×PV)}{d:List (Nat->FR)}{zs:List Nat}{rv:Value}{a:List (PV×PV)}
  (h:IY M w wr s t tb mb ps d zs k rv us fs a) (e:BM M w s tb mb ps) (n:k=d.length):w.grownBy wr (some mb)/\BM M wr t tb mb (ps++a)/\Sl M wr D8 1 rv k us/\BY (CP M wr t) us fs/\Pl.GG d ps.length=some (fs,a):=by
 subst n;refine⟨h.gm,⟨h.rd.B3,h.rd.pairs.weaken (fun _ x=>.inl x),e.FV,e.JJ,fun j o=>h.rd.mlt j (.inl o)⟩,?_,⟨by rw [h.ul,h.fl],fun i u x b p=>(h.rep i u x b p).weaken (fun _ y=>.inl y)⟩,h.left.done⟩;refine⟨h.row.1,?_⟩;rcases h.row.2 with⟨f,c⟩ | ⟨g,l,m,f,q,r,v,_,_,z⟩
 ·exact⟨none,0,by rw [c];exact f,x8,.inl c⟩
 ·refine⟨some ⟨g,0,none⟩,l,f,v,.inr ⟨g,0,m,rfl,fun x=>by have:=e.mlt g x;omega,r,?_⟩⟩;intro i u b;rw [Nat.zero_add];rw [<- z,List.getElem?_take] at b;split at b
  ·simpa using b
  ·cases b
theorem p_forms(M:Q5)(w:World)(s:Sg)(tb mb:Nat)(ps:List (PV×PV))(sl:Value)(vs:List Value)(a:List (Nat->FR))(c:List Nat)(hR:BM M w s tb mb ps)(hS:CD M w sl vs)(hl:vs.length=a.length)(Q:c.length=a.length)(aq:a.length<=2000)(hz:s.ns.length+c.sum<=BS)(R:∀v∈vs,∃T x,v=.iface T x)
  (L:∀(i:Nat)(v:Value)(F:Nat->FR)(z:Nat),vs[i]?=some v->a[i]?=some F->c[i]?=some z->JI M w v F z) :
  Q2 120 #[D2 tb,sl] w fun e w'=>JH M w s tb mb ps (Pl.GG a ps.length) a.length c.sum e w':=by
 obtain⟨i0,ad,ae,af,ag⟩:=info_parts Tryz.T6;have HR:=h_ hR;have HS:=h_ hS;obtain⟨_,ao,av,rfl,S,_⟩:=hS;rw [hl] at S ⊢;have HV:=h_ hl;have HZ:=h_ Q;have HN:=h_ hz;have ah:=h_ L;have HI:=h_ R;have q:Hid (Q3 w (w.alloc (A0 tb))):=b_;have l:=h_ (hR.below q);have U:(w.alloc (A0 tb)).heap[w.heap.size]?=some (A0 tb):=heap_alloc_new _ _;have ai:=h_ U;have V:¬M w.heap.size:=fun hm=>by have:=hR.mlt _ hm;omega
 have aj:=h_ V;unfold D2;clear L hl Q hz R hR U V;go_enter func120,ntmps120;go_wp2_with fail
 go_loopw [6,13] (fun sv i wr=>∃(k:Nat)(m:List Value)(t:Sg)(W:List PF) (n:List (PV×PV)),k<=a.length/\i=.int .i64 k/\Hid (IY M (w.alloc (A0 tb)) wr s t tb mb ps a c k sv m W n)) (fun _ i _=>a.length-(intOf i).toNat)
 case atStart=>exact⟨0,[],s,[],[],Nat.zero_le _,rfl,IY.start a c l r_⟩
 case round =>
  obtain⟨k,m,t,W,n,hk,rfl,d⟩:=hrel;by_cases X:k<a.length
  ·obtain⟨u,hu⟩:∃u,vs[k]?=some u:=⟨vs[k]' zL7,g_ zL7⟩
   obtain⟨F,L⟩:∃x,a[k]?=some x:=⟨a[k],g_ X⟩
   obtain⟨z,A⟩:∃x,c[k]?=some x:=⟨c[k]'(by have:=HZ.out;omega),g_ (by have:=HZ.out;omega)⟩
   have G:Stp M w (Mr M u6) wr:=(Stp.AA q).trans d.AQ;have ak:=(Sl.AQ G HS).C7;obtain⟨aw,b,e',_,Y⟩:=ak;simp only [Value.slice.injEq] at e';obtain⟨rfl,_,rfl⟩:=e';obtain⟨g,ax,rfl,hg,hc⟩:=Y k u hu;have c0:wr.cell? ⟨w.heap.size,0,none⟩=some (Q0 tb):=by have:=(d.AQ.block w.heap.size w9 aj).1.trans ai;exact aA this 0
   have HC:=h_ ((ah k u F z hu L A).go G);obtain⟨T,y,rfl⟩:=HI.out u (q_ hu);have Z:=h_ L;have aa:=h_ A;have al:Hid (t.ns.length+z<=BS):=show _<=_ from by have N:=d.nl;have h2:=Pl.F4 c k z A;have h3:=Pl.DH c (k+1);have h4:=HN.out;omega
   have ar:(k:Int)<(a.length:Int):=by omega
   clear Y G hu L A X;go_wp2_with fail;refine(HC _ wr t tb mb _ (Stp.refl _ _) d.rd al).mono ?_;rintro e E ⟨h,t2,B,H,⟨r,v,hr,rfl,f,p⟩ | ⟨hr,am,f,v,es,rfl⟩⟩
   ·have O:Hid (∀(P:World)(I b:Nat)(o:Obj),P.ownsRow (w.alloc (A0 tb)).heap.size D8 1 (.slice (some ⟨I,0,none⟩) (k+1) b) (k+1) (m++[v])->(E.alloc o).grownBy P u6.ownBlock->(u6.ownBlock=some I\/I=E.heap.size+1) ->
      IY M (w.alloc (A0 tb)) P s t2 tb mb ps a c (k+1) (.slice (some ⟨I,0,none⟩) (k+1) b) (m++[v]) (W++[r.1]) (n++r.2)):=fun P I b o N h2 h3=>d.push l.mlt Z hr aa h B H f p N h2 h3
    have an:Hid (E.ownsRow (w.heap.size+1) D8 1 u6 k m):=show World.ownsRow _ _ _ _ _ _ _ from by
     have:=d.row.kept h (.inr (fun e=>by
      have:=(d.row.lt mb e).1;have:=l.mlt mb l.FV
      omega))
     rwa [show(w.alloc (A0 tb)).heap.size=w.heap.size+1 from by simp] at this
    have ay:w.heap.size+1<=E.heap.size:=by have N:=d.gm.size;have h2:=h.size;rw [show(w.alloc (A0 tb)).heap.size=w.heap.size+1 from by simp] at N;omega
    rw [show(w.alloc (A0 tb)).heap.size=w.heap.size+1 from by simp] at O;obtain⟨Tf,xf,rfl⟩:=p.iface;clear h B H hr f p c0 hc;go_wp2_with (first | (at_builtin;refine wpList_append_lies _ rfl _ _ 257 rfl (w.heap.size+1) 101 i0 .nilIface 1 16 underlying257 ad ae af ag rfl w8 u6 k m rfl (an.alloc _) ⟨E.heap.size,0,none⟩ 1 1 [.iface Tf xf] rfl rfl (cell_one_new _ _ _) (fun x hx=>by simp at hx;subst hx;rfl) w8 o6 x8 r7 (E.heap.size+1) w9 ?_;intro I b P J C ab _))
    go_roundw
    case rel=>exact⟨k+1,_,_,_,_,x8,k7,O P I b _ J C ab⟩
    case measure=>simp [intOf];omega
   ·have HE:Hid (Pl.GG a ps.length=none):=d.left.none_ Z (by rw [<- a_];exact hr);have K:w.grownBy E (some mb):=aM (aI q) (aM d.gm h);obtain⟨t3,p1,p2,p3,p4⟩:=HR.fail K ⟨f.B3,f.pairs.weaken (fun _ x=>.inl x),HR.FV,HR.JJ,fun j hj=>f.mlt j (.inl hj)⟩ (d.sg.trans B);have HT:Hid (t3.ns.length<=s.ns.length+c.sum):=show _<=_ from by rw [p2];have N:=d.nl;have h2:=Pl.F4 c k z aa;have h3:=Pl.DH c (k+1);omega
    have O:Hid (t3.pb=s.pb/\DK s t3/\BM M E t3 tb mb ps):=⟨p1,p3,p4⟩
    have HG:=h_ K;clear h B H hr f am p1 p2 p3 p4 K c0 hc;unfold aY;go_wp2_with fail;go_ret2;exact⟨HG,t3,O.2.1,HT,.inr ⟨HE,O.1,O.2.2,_,_,rfl⟩⟩
  ·have D:k=a.length:=by omega
   obtain⟨d1,d2,d3,d4,d5⟩:=d.done l D;have HD:Hid (w.grownBy wr (some mb)/\BM M wr t tb mb (ps++n)/\BY (CP M wr t) m W/\Pl.GG a ps.length=some (W,n)):=⟨aM (aI q) d1,d2,d4,d5⟩
   have HX:Hid (DK s t/\t.ns.length<=s.ns.length+c.sum):=⟨d.sg,by
    have N:=d.nl;have h3:=Pl.DH c k
    omega⟩
   have ac:Hid (Sl M wr D8 1 u6 a.length m):=show Sl _ _ _ _ _ _ _ from by rw [<- D];exact d3
   have ap:Hid (m.length=a.length):=show m.length=a.length from by rw [<- D];exact d.ul
   obtain⟨_,az,au,rfl,_⟩:=ac.out;clear d1 d2 d3 d4 d5 D;go_wp2_with fail;go_ret2;exact⟨HD.1,t,HX.1,HX.2,.inl ⟨_,_,m,HD.2.2.2,rfl,HD.2.1,ac,ap,HD.2.2.1⟩⟩
theorem bB(w:World)(o:Obj):Q3 w (w.alloc o):=b_
theorem mF{ok:Q5}:∀(n m:Nat)(v:Value)(t:Tr),AN ok n w v t->cL n t->cL m t
 | 0,_,_,_,h,_=>h.elim
 | _+1,0,_,_,_,_=>trivial
 | n+1,m+1,v,t,h,a=>by
  match t,h,a with
  | .lit (.int _ _),_,a=>exact a
  | .lit (.bool _),_,_=>trivial
  | .lit (.string _),_,a=>exact a
  | .agg e,h,a =>obtain⟨k,b,_,_,f,g,_⟩:=h;intro x c;obtain⟨i,d⟩:=List.mem_iff_getElem?.1 c;have l:b.length=e.length:=f.1.trans (Nat.mul_one _);have j:=(s_ d).1;exact mF n m _ x (g i b[i] x (g_ x8) d) (a x c)
theorem vL{α:Type}{l:List α}(h:l.length=1):∃a,l=[a]:=by
 match l,h with
 | [a],_=>exact⟨a,rfl⟩
theorem fO{α:Type}{l:List α}(h:l.length=2):∃a b,l=[a,b]:=by
 match l,h with
 | [a,b],_=>exact⟨a,b,rfl⟩
theorem pZ{α:Type}{l:List α}(h:l.length=3):∃a b c,l=[a,b,c]:=by
 match l,h with
 | [a,b,c],_=>exact⟨a,b,c,rfl⟩
abbrev C9(M:Q5)(n:Nat)(w:World)(vs:List Value)(ts:List Tr):Prop:=BY (AN (fun k=>¬M k) n w) vs ts
theorem C9.iface{a:List Tr}(h:C9 M n w vs a):∀v∈vs,∃T x,v=.iface T x:=by
 intro v d;obtain⟨i,c⟩:=List.mem_iff_getElem?.1 d;have b:i<a.length:=by have:=(s_ c).1;have:=h.1;omega
 obtain⟨T,x,rfl,_⟩:=(h.2 i v a[i] c (g_ b)).iface;exact⟨T,x,rfl⟩
theorem XJ(n:Nat)(K:n<=1000)(M:Q5)(w:World)(s:Sg)(tb mb:Nat)(ps:List (PV×PV))(sl:Value)(vs:List Value)(c:List Tr)(k:Tr)(z:BM M w s tb mb ps)(i:CD M w sl vs)(m:C9 M n w vs c)(A:∀x∈c,cL n x)(o:FR)(p:o=EF (if c.length==1 then some (BN .const [] (.agg (k::c)) [] []) else none) ps.length) :Q2 93 #[D2 tb,sl] w fun e F=>A5 M w s tb mb ps o 0 e F:=by
 have G:=h_ z;have b:=m.1;unfold D2;by_cases d:c.length=1
 ·obtain⟨x,rfl⟩:=vL d;obtain⟨u,rfl⟩:=vL (b.trans d);have q:=m.2 0 u x rfl rfl;have B:Hid (AN (fun k=>¬M k) 1000 w u x):=AN.up _ _ _ _ K q;have C:Hid (cL 1000 x):=mF n 1000 u x q (A x w9);obtain⟨T,y,rfl,_⟩:=q.iface;obtain⟨g,L,D,rfl,f,W,N,_⟩:=(Sl.C7 i).cell0;simp only [z_,Nat.zero_add] at f ⊢;have O:Hid (o=some (Pl.PF.mk .const [] (.agg [k,x]) (Pl.made 1000 ps.length x).1 [] [],(Pl.made 1000 ps.length x).2)):=show o=_ from by rw [p];simp [EF,BN,Pl.CI,Pl.quoted]
  clear i m A z q d b p;go_enter func93,ntmps93;go_wp2_with fail;have a:=G.below (bB w (A0 tb));refine(p_of 1000 M _ _ s ps _ x a.pairs a.mlt (B.later (bB w (A0 tb))) C).mono ?_;rintro e H ⟨v,t,rfl,E,I,h,r⟩;have P:=h_ E;have Q:Hid (BM M H t tb mb (ps++(Pl.made 1000 ps.length x).2)):=show BM _ _ _ _ _ _ from⟨by obtain⟨l,rfl⟩:=r;exact a.B3.keep (h.block _ a.B3.lt.1) (h.block _ a.B3.lt.2),I,a.FV,a.JJ,fun j R=>l_ (a.mlt j R) h.size⟩;have S:Hid (w.grownBy H (some mb)):=aI ((bB w _).trans (h.mono (bB w _).size));have J:Hid (DK s t/\t.ns.length<=s.ns.length+0):=⟨r.r,by obtain⟨l,rfl⟩:=r;exact n_⟩
  obtain⟨X,Y,rfl⟩:=E.iface;clear E I h r a N;go_wp2_with fail;go_ret2;exact⟨S,t,J.1,J.2,.inl ⟨_,_,O,rfl,Q,.const _ true [] (.agg [k,x]) _ [] [] P rfl⟩⟩
 ·have U:Hid (o=none):=show o=none from by
   rw [p,if_neg zR0];rfl
  obtain⟨Z,D,rfl,_⟩:=Sl.C7 i;have V:((vs.length:Int)!=1)=true:=by simp;omega
  clear i m A z d b p;go_enter func93,ntmps93;go_wp2_with (go_at_call 92;refine(aS _ _).mono ?_;rintro e F ⟨rfl,rfl⟩);go_ret2;exact⟨aI (bB w _),s,DK.refl _,Nat.le_add_right _ _,.inr ⟨U,rfl,G.below (bB w _),_,_,rfl⟩⟩
theorem rF(n:Nat)(j:GB n)(M:Q5)(w:World)(s:Sg)(tb mb:Nat)(ps:List (PV×PV))(sl:Value)(vs:List Value)(a:List Tr)(k:BM M w s tb mb ps)(m:CD M w sl vs)(d:C9 M n w vs a)(o:∀x∈a,cL n x)(g:a.length<=1000)(c:s.ns.length+(a.map (BB n)).sum<=BS) :Q2 120 #[D2 tb,sl] w fun e p=>JH M w s tb mb ps ((Pl.B1 (AD n) a).map fun l=>Pl.AK l ps.length) a.length (a.map (BB n)).sum e p:=by
 have:=p_forms M w s tb mb ps sl vs (a.map fun t=>EF (AD n t)) (a.map (BB n)) k m (by rw [d.1];simp) w9 r7 c d.iface (by
  intro i v F z q h c;rw [List.getElem?_map,Option.map_eq_some_iff] at h c;obtain⟨t,f,rfl⟩:=h;obtain⟨r,b,rfl⟩:=c;rw [f] at b;obtain rfl:=i_ b
  exact j M w v t (d.2 i v t q f) (o t (q_ f)))
 rw [Pl.KP,List.length_map] at this;exact this
theorem p6(h:Sl M w D8 1 v n us)(a:us.length=n)(b:BY (CP M w s) us fs):Sl M w D8 1 v fs.length us:=by rw [<- b.1,a];exact h
theorem XP(n:Nat)(H:GB n)(M:Q5)(w:World)(s:Sg)(tb mb:Nat)(ps:List (PV×PV))(sl:Value)(vs:List Value)(a:List Tr)(A:BM M w s tb mb ps)(B:CD M w sl vs)(C:C9 M n w vs a)(I:∀x∈a,cL n x)(j:a.length<=1000)(J:s.ns.length+(a.map (BB n)).sum<=BS)(o:FR)(D:o=EF (if !a.isEmpty then(Pl.B1 (AD n) a).map fun l=>BN .begin [] .nil l [] else none) ps.length) :Q2 95 #[D2 tb,sl] w fun e E=>A5 M w s tb mb ps o (a.map (BB n)).sum e E:=by
 have T:=h_ A;have c:=bB w (A0 tb);have K:Hid (Q2 120 #[D2 tb,sl] (w.alloc (A0 tb)) fun e E=>JH M (w.alloc (A0 tb)) s tb mb ps ((Pl.B1 (AD n) a).map fun l=>Pl.AK l ps.length) a.length (a.map (BB n)).sum e E) :=rF n H M _ s tb mb ps sl vs a (A.below c) (Sl.AQ (Stp.AA c) B) (C.mono (fun _ _ h=>h.go (Stp.AA c))) I j J;have k:=C.1;obtain⟨Y,U,rfl,_⟩:=Sl.C7 B;unfold D2 at K ⊢;by_cases L:a.length=0
 ·have F:Hid (o=none):=show o=none from by
   obtain rfl:=e_ L;exact D
  have J:((vs.length:Int)==0)=true:=beq_iff_eq.2 x8;clear B C I A L k K c H D;go_enter func95,ntmps95;go_wp2_with (go_at_call 92;refine(aS _ _).mono ?_;rintro e E ⟨rfl,rfl⟩);go_ret2;exact⟨aI (bB w _),s,DK.refl _,Nat.le_add_right _ _,.inr ⟨F,rfl,T.below (bB w _),_,_,rfl⟩⟩
 ·have F:Hid (o=((Pl.B1 (AD n) a).map fun l=>Pl.AK l ps.length).map fun r=>(BN .begin [] .nil r.1 [],r.2)):=show o=_ from by
   rw [D,show a.isEmpty=false from by cases a<;>simp_all]
   cases Pl.B1 (AD n) a with
   | none=>rfl
   | some l=>simp [EF,BN,Pl.BC]
  have Q:Hid (1<=a.length/\a.length<=1000):=⟨x8,j⟩
  have J:((vs.length:Int)==0)=false:=beq_eq_false_iff_ne.2 x8;have m:=h_ c;clear B C I A L k c H D;go_enter func95,ntmps95;go_wp2_with fail;refine Calls.mono K ?_;rintro e N ⟨G,t,f,g,⟨r,v,V,p,rfl,d,q,i,b⟩ | ⟨p,u,d,v,Z,rfl⟩⟩
  ·have y:Hid (DK s t/\t.ns.length<=s.ns.length+(a.map (BB n)).sum):=⟨f,g⟩
   have O:=h_ (aM (aI m) G);have R:Hid (BM M N t tb mb (ps++r.2)/\CP M N t (.iface 263 (.agg #[v])) (BN .begin [] .nil r.1 [])):=⟨d,.begin v V [] .nil .nothing r.1 [] (p6 q i b) b.1 b.2 (by rw [<- b.1,i];exact Q.1) (by rw [<- b.1,i];have:=Q.2;omega)⟩
   have W:Hid (o=some (BN .begin [] .nil r.1 [],r.2)):=show _=_ from by rw [F.out,p];rfl
   obtain⟨_,X,S,rfl,_⟩:=q;clear G f g p d i b;go_wp2_with fail;go_ret2;exact⟨O,t,y.1,y.2,.inl ⟨_,_,W,rfl,R.1,R.2⟩⟩
  ·have y:Hid (DK s t/\t.ns.length<=s.ns.length+(a.map (BB n)).sum):=⟨f,g⟩
   have O:=h_ (aM (aI m) G);have z:Hid (t.pb=s.pb/\BM M N t tb mb ps):=⟨u,d⟩
   have P:Hid (o=none):=show _=_ from by rw [F.out,p];rfl
   clear G f g p d u;unfold aY;go_wp2_with fail;go_ret2;exact⟨O,t,y.1,y.2,.inr ⟨P,z.1,z.2,_,_,rfl⟩⟩
theorem U2(w:World)(n:Nat):Q3 w (w.drewN n):=⟨rfl,rfl,rfl,n_,fun _ _=>rfl⟩
theorem S7(M:Q5)(w:World)(s:Sg)(tb mb:Nat)(ps:List (PV×PV))(sl:Value)(vs:List Value)(b:List (Nat->FR))(k:List Nat)(D:BM M w s tb mb ps)(E:CD M w sl vs)(L:vs.length=b.length)(l:k.length=b.length)(c:b.length<=2000)(m:1<=b.length)(N:s.ns.length+k.sum<=BS)(n:∀v∈vs,∃T x,v=.iface T x)
  (O:∀(i:Nat)(v:Value)(F:Nat->FR)(z:Nat),vs[i]?=some v->b[i]?=some F->k[i]?=some z->JI M w v F z) (o:FR) (P:o=(Pl.GG b ps.length).map fun r=>(BN .call [] .nil r.1 [],r.2)) :
  Q2 99 #[D2 tb,sl] w fun e G=>A5 M w s tb mb ps o k.sum e G:=by
 have HR:=h_ D;have d:=bB w (A0 tb);have Q:Hid (Q2 120 #[D2 tb,sl] (w.alloc (A0 tb)) fun e G=>JH M (w.alloc (A0 tb)) s tb mb ps (Pl.GG b ps.length) b.length k.sum e G) :=p_forms M _ s tb mb ps sl vs b k (D.below d) (Sl.AQ (Stp.AA d) E) L l c N n (fun i v F z W X Y=>(O i v F z W X Y).go (Stp.AA d));obtain⟨ao,Z,rfl,_⟩:=Sl.C7 E;unfold D2 at Q ⊢;have R:=h_ P;have S:Hid (1<=b.length/\b.length<=2000):=⟨m,c⟩
 have p:=h_ d;clear E D d O P L l c N n;go_enter func99,ntmps99;go_wp2_with fail;refine Calls.mono Q ?_;rintro e H ⟨C,t,g,h,⟨r,v,us,q,rfl,f,u,j,a⟩ | ⟨q,y,f,v,es,rfl⟩⟩
 ·have A:Hid (DK s t/\t.ns.length<=s.ns.length+k.sum):=⟨g,h⟩
  have I:=h_ (aM (aI p) C);have U:Hid (BM M H t tb mb (ps++r.2)/\CP M H t (.iface 270 (.agg #[v])) (BN .call [] .nil r.1 [])):=⟨f,.call v us [] .nil .nothing r.1 [] (p6 u j a) a.1 a.2 (by rw [<- a.1,j];exact S.1) (by rw [<- a.1,j];exact S.2)⟩
  have J:Hid (o=some (BN .call [] .nil r.1 [],r.2)):=show _=_ from by rw [R.out,q];rfl
  obtain⟨_,aa,V,rfl,_⟩:=u;clear C g h q f j a;go_wp2_with fail;go_ret2;exact⟨I,t,A.1,A.2,.inl ⟨_,_,J,rfl,U.1,U.2⟩⟩
 ·have A:Hid (DK s t/\t.ns.length<=s.ns.length+k.sum):=⟨g,h⟩
  have I:=h_ (aM (aI p) C);have B:Hid (t.pb=s.pb/\BM M H t tb mb ps):=⟨y,f⟩
  have K:Hid (o=none):=show _=_ from by rw [R.out,q];rfl
  clear C g h q f y;unfold aY;go_wp2_with fail;go_ret2;exact⟨I,t,A.1,A.2,.inr ⟨K,B.1,B.2,_,_,rfl⟩⟩
theorem yU(n:Nat)(V:GB n)(M:Q5)(w:World)(s:Sg)(tb mb:Nat)(ps:List (PV×PV))(sl:Value)(vs:List Value)(f:List Tr)(N:BM M w s tb mb ps)(O:CD M w sl vs)(P:C9 M n w vs f)(W:∀x∈f,cL n x)(D:f.length<=1000)(X:s.ns.length+(f.map (BB n)).sum<=BS)(o:FR)(Q:o=EF (if f.length==3 then(Pl.B1 (AD n) f).map fun l=>BN .iff [] .nil l [] else none) ps.length) :Q2 94 #[D2 tb,sl] w fun e R=>A5 M w s tb mb ps o (f.map (BB n)).sum e R:=by
 have HR:=h_ N;have i:=bB w (A0 tb);have Y:Hid (Q2 120 #[D2 tb,sl] (w.alloc (A0 tb)) fun e R=>JH M (w.alloc (A0 tb)) s tb mb ps ((Pl.B1 (AD n) f).map fun l=>Pl.AK l ps.length) f.length (f.map (BB n)).sum e R) :=rF n V M _ s tb mb ps sl vs f (N.below i) (Sl.AQ (Stp.AA i) O) (P.mono (fun _ _ h=>h.go (Stp.AA i))) W D X;have E:=P.1;obtain⟨ao,ac,rfl,_⟩:=Sl.C7 O;unfold D2 at Y ⊢;by_cases F:f.length=3
 ·have S:Hid (o=((Pl.B1 (AD n) f).map fun l=>Pl.AK l ps.length).map fun r=>(BN .iff [] .nil r.1 [],r.2)):=show o=_ from by
   rw [Q,if_pos zO5]
   cases Pl.B1 (AD n) f with
   | none=>rfl
   | some l=>simp [EF,BN,Pl.BC]
  have X:((vs.length:Int)!=3)=false:=by simp;omega
  have HL:=h_ F;have G:=h_ i;clear O P W N F E i V Q;go_enter func94,ntmps94;go_wp2_with fail;refine Calls.mono Y ?_;rintro e T ⟨U,t,p,q,⟨r,v,us,H,rfl,j,A,I,d⟩ | ⟨H,J,j,v,es,rfl⟩⟩
  ·have K:Hid (DK s t/\t.ns.length<=s.ns.length+(f.map (BB n)).sum):=⟨p,q⟩
   have B:=h_ (aM (aI G) U);have k:=I.trans HL;obtain⟨a,b,c,rfl⟩:=pZ k;obtain⟨x,y,z,m⟩:=pZ (d.1.symm.trans k);rw [m] at d;have Z:=d.2 0 a x rfl rfl;have h2:=d.2 1 b y rfl rfl;have h3:=d.2 2 c z rfl rfl;have HX:Hid (BM M T t tb mb (ps++r.2)/\CP M T t (.iface 261 (.agg #[a,b,c])) (BN .iff [] .nil r.1 [])):=⟨j,by rw [m];exact .iff a b c x y z [] .nil .nothing [] Z h2 h3⟩
   have HO:Hid (o=some (BN .iff [] .nil r.1 [],r.2)):=show _=_ from by rw [S.out,H];rfl
   obtain⟨Ta,xa,rfl⟩:=Z.iface;obtain⟨Tb,xb,rfl⟩:=h2.iface;obtain⟨Tc,xc,rfl⟩:=h3.iface;have u:Sl M T D8 1 v 3 [.iface Ta xa,.iface Tb xb,.iface Tc xc]:=by rw [HL.out] at A;exact A
   obtain⟨g,ad,ab,rfl,C,ae,k0,ks⟩:=(Sl.C7 (vs:=[.iface Ta xa,.iface Tb xb,.iface Tc xc]) u).cell0;have k1:=ks 0 _ rfl;have k2:=ks 1 _ rfl;simp only [Nat.zero_add,c_,z_] at k1 k2 C ⊢;clear U p q H j I d Z h2 h3 ks A u m k;go_wp2_with fail
   go_quiet (fail)
   go_wp2_with fail
   go_ret2;exact⟨⟨B.os,B.tape,B.output,B.size,B.block⟩,t,K.1,K.2,.inl ⟨_,_,HO,rfl,HX.1.below (U2 _ _),HX.2.go (Stp.AA (U2 _ _)) (Sg.Le.refl _)⟩⟩
  ·have K:Hid (DK s t/\t.ns.length<=s.ns.length+(f.map (BB n)).sum):=⟨p,q⟩
   have B:=h_ (aM (aI G) U);have L:Hid (t.pb=s.pb/\BM M T t tb mb ps):=⟨J,j⟩
   have aa:Hid (o=none):=show _=_ from by rw [S.out,H];rfl
   clear U p q H j J;unfold aY;go_wp2_with fail;go_ret2;exact⟨B,t,K.1,K.2,.inr ⟨aa,L.1,L.2,_,_,rfl⟩⟩
 ·have S:Hid (o=none):=show o=none from by
   rw [Q,if_neg zO5];rfl
  have X:((vs.length:Int)!=3)=true:=by simp;omega
  clear O P W N F E Y i V Q;go_enter func94,ntmps94;go_wp2_with (go_at_call 92;refine(aS _ _).mono ?_;rintro e R ⟨rfl,rfl⟩);go_ret2;exact⟨aI (bB w _),s,DK.refl _,Nat.le_add_right _ _,.inr ⟨S,rfl,HR.below (bB w _),_,_,rfl⟩⟩
theorem bW{c:Func}{p u v:Tmp}{ty:TypeId}(h:c.results=#[.cell p ty,.tmp u,.tmp v])(b:Array Value)(P:Program)(w:World) :(results c b).run P w=((asAddr (b.getD p undef)).run P w).andThen fun a d=>((loadVar ty a).run P d).andThen fun x e=>.ok (.tuple #[x,b.getD u undef,b.getD v undef]) e:=by simp only [results,h];simp [Sem.run_bind,Result.andThen]
theorem BM.I8{w3:World}{ps:List (PV×PV)}(h:BM M w s tb mb ps)(a:w.grownBy w3 (some mb))(b:IW w3 tb mb t.ns)(c:DK s t)(hp:t.pb=s.pb):BM M w3 t tb mb ps :=⟨b,(h.pairs.AQ (eL a h.FV)).le c.le hp,h.FV,h.JJ,fun k d=>l_ (h.mlt k d) a.size⟩
def ZR(M:Q5)(w:World)(s:Sg)(tb mb:Nat)(ps:List (PV×PV))(t:Tr)(bs:Q8)(k:Int)(ev:Value)(w':World):Prop :=
 w.grownBy w' (some mb) /\
  ((∃x,t=.lit (.string x)/\EE x=false/\bs=⟨x.toArray⟩/\k=((s.ns.idxOf x:Nat):Int)/\ev=.nilIface/\BM M w' (s.named x) tb mb ps) \/
   (isName t=false/\BM M w' s tb mb ps/\∃es,ev=aY es 5))
theorem U1{base:Nat}{X Y:World}{R:Nat}(h:Below base X Y)(b:base<=R)(o:Nat)(v:Value):Below base X (Y.setCell ⟨R,o,none⟩ v) :=⟨h.os,h.tape,h.output,zM9,fun k a=>by rw [Below.heap_setCell _ _ _ _ (fun e=>by have:k=R:=(by simpa using e);omega)];exact h.block k a⟩
theorem ZR.to{w1:World}{ps:List (PV×PV)}{t:Tr}{n:Q8}{k:Int}(o:ZR M w1 s tb mb ps t n k ev w2)(f:BM M w s tb mb ps)(d:Q3 w w1)(a:Below w.heap.size w2 wx):ZR M w s tb mb ps t n k ev wx:=by
 obtain⟨e,h⟩:=o;have b:=f.B3.lt;have c:w.grownBy wx (some mb):=⟨a.os.trans (e.os.trans d.os),a.tape.trans (e.tape.trans d.tape),a.output.trans (e.output.trans d.output),t_ d.size (t_ e.size a.size),fun j g p=>by rw [a.block j g,e.block j (l_ g d.size) p,d.block j g]⟩
 refine⟨c,?_⟩;rcases h with⟨x,i,l,m,q,r,u⟩ | ⟨i,l,m⟩
 ·exact .inl ⟨x,i,l,m,q,r,f.I8 c (u.B3.keep (a.block _ b.1) (a.block _ b.2)) (s.E5 x) rfl⟩
 ·exact .inr ⟨i,f.I8 c (l.B3.keep (a.block _ b.1) (a.block _ b.2)) (DK.refl s) rfl,m⟩
theorem iR(w:World)(a b c:Obj):(((w.alloc a).alloc b).alloc c).heap[w.heap.size]?=some a/\(((w.alloc a).alloc b).alloc c).heap[w.heap.size+1]?=some b/\(((w.alloc a).alloc b).alloc c).heap[w.heap.size+2]?=some c/\((w.alloc a).alloc b).heap[w.heap.size]?=some a/\((w.alloc a).alloc b).heap[w.heap.size+1]?=some b:=by have f:=heap_alloc_new w a;have d:=heap_alloc_new (w.alloc a) b;have g:=heap_alloc_new ((w.alloc a).alloc b) c;rw [show(w.alloc a).heap.size=w.heap.size+1 from by simp] at d;rw [show((w.alloc a).alloc b).heap.size=w.heap.size+2 from by simp] at g;have e:((w.alloc a).alloc b).heap[w.heap.size]?=some a:=(k_ (aB f)).trans f;exact⟨(k_ (aB e)).trans e,(k_ (aB d)).trans d,g,e,d⟩
theorem P9.one{ps:List (PV×PV)}{t:Tr}{e:Ending}(h:P9 M w s tb mb ps t e w'):∃d k f,e=.returned (.tuple #[.agg #[.string d,Q1 k],f])/\ZR M w s tb mb ps t d k f w':=by
 obtain⟨g,⟨x,a,b,c,i⟩ | ⟨a,b,j,c⟩⟩:=h
 ·exact⟨_,_,_,c,g,.inl ⟨x,a,b,rfl,rfl,rfl,i⟩⟩
 ·exact⟨_,_,_,c,g,.inr ⟨a,b,j,rfl⟩⟩
def LM(M:Q5)(w:World)(s:Sg)(tb mb:Nat)(ps:List (PV×PV))(o:FR)(z:Nat)(v ev:Value)(w':World):Prop :=
 w.grownBy w' (some mb)/\∃t,DK s t/\t.ns.length<=s.ns.length+z /\
  ((∃r,o=some r/\ev=.nilIface/\BM M w' t tb mb (ps++r.2)/\CP M w' t v r.1)\/(o=none/\t.pb=s.pb/\BM M w' t tb mb ps/\∃es,ev=aY es 5))
theorem A5.one{ps:List (PV×PV)}{o:FR}{e:Ending}(h:A5 M w s tb mb ps o z e w'):∃v f,e=.returned (.tuple #[v,f])/\LM M w s tb mb ps o z v f w':=by
 obtain⟨g,t,i,j,⟨r,v,a,b,c,d⟩ | ⟨a,b,c,v,k,d⟩⟩:=h
 ·exact⟨_,_,b,g,t,i,j,.inl ⟨r,a,rfl,c,d⟩⟩
 ·exact⟨_,_,d,g,t,i,j,.inr ⟨a,b,c,k,rfl⟩⟩
def Z9:Obj:=.cells #[.string ⟨#[]⟩,Q1 0] B6 (0,0)
def VJ(M:Q5)(w:World)(s:Sg)(tb mb:Nat)(ps:List (PV×PV))(t1:Tr)(bs:Q8)(kk:Int)(b3:Nat)(e8:Value)(wx:World):Prop :=w.heap.size+2<=b3/\wx.heap[b3]?=some (.cells #[.string bs,Q1 kk] B6 (0,0))/\wx.heap[w.heap.size]?=some (A0 tb)/\wx.heap[w.heap.size+1]?=some Z9/\ZR M w s tb mb ps t1 bs kk e8 wx
theorem X2{ps:List (PV×PV)}{c:Tr}{b:Q8}{kk:Int}(d:BM M w s tb mb ps)(a:ZR M ((w.alloc (A0 tb)).alloc Z9).drew s tb mb ps c b kk ev w2):VJ M w s tb mb ps c b kk w2.heap.size ev (w2.alloc (.cells #[.string b,Q1 kk] B6)):=by
 have g:=d.B3.lt.2;have h:w.heap.size+2<=w2.heap.size:=by have:=a.1.size;simpa using this
 obtain⟨_,_,_,i,j⟩:=iR w (A0 tb) Z9 Z9;have e:=(a.1.block w.heap.size zN8 r7).trans i;have f:=(a.1.block (w.heap.size+1) zN8 r7).trans j;exact⟨h,heap_alloc_new _ _,(k_ (aB e)).trans e,(k_ (aB f)).trans f,a.to d (bA w _ _).drew (r_.alloc x8 _)⟩
theorem X1{ps:List (PV×PV)}{c:Tr}{a:Q8}{kk:Int}(d:BM M w s tb mb ps)(b:ZR M (((w.alloc (A0 tb)).alloc Z9).alloc Z9).drew s tb mb ps c a kk ev w2):VJ M w s tb mb ps c a kk (w.heap.size+2) ev ((w2.setCell ⟨w.heap.size+2,0,none⟩ (.string a)).setCell ⟨w.heap.size+2,1,none⟩ (.int .i64 kk)):=by
 have e:=d.B3.lt.2;obtain⟨f,g,h,_,_⟩:=iR w (A0 tb) Z9 Z9;have i:=(b.1.block w.heap.size zM3 r7).trans f;have j:=(b.1.block (w.heap.size+1) zM3 r7).trans g;have k:=(b.1.block (w.heap.size+2) zM3 r7).trans h;refine⟨n_,?_,?_,?_,b.to d ((bA w _ _).alloc r7 _).drew (U1 (U1 r_ x8 _ _) x8 _ _)⟩
 ·have:=aD (aD k 0 (.string a)) 1 (.int .i64 kk);simpa using this
 ·rw [Below.heap_setCell _ _ _ _ w9,Below.heap_setCell _ _ _ _ w9];exact i
 ·rw [Below.heap_setCell _ _ _ _ w9,Below.heap_setCell _ _ _ _ w9];exact j
def A_(n b:Nat)(ts:List Tr):Option (AE×PF×List (PV×PV)):=match ts with
 | [a,e]=>if isName a then(EF (AD n e) b).map fun r=>(Pl.strOf a,r) else none
 | _=>none
def QA(M:Q5)(w:World)(s:Sg)(tb mb:Nat)(ps:List (PV×PV))(o:Option (AE×PF×List (PV×PV)))(z:Nat)(e:Ending)(w':World):Prop :=
 w.grownBy w' (some mb)/\∃t,DK s t/\t.ns.length<=s.ns.length+z /\
  ((∃x r k v,o=some (x,r)/\e=.returned (.tuple #[.agg #[.string ⟨x.toArray⟩,Q1 ((k:Nat):Int)],v,.nilIface])/\t.ns[k]?=some x/\BM M w' t tb mb (ps++r.2)/\CP M w' t v r.1) \/
   (o=none/\t.pb=s.pb/\BM M w' t tb mb ps/\∃es,e=.returned (.tuple #[.agg #[.string ⟨#[]⟩,Q1 0],.nilIface,aY es 5])))
theorem X3{a:List Tr}(h:¬a.length=2):A_ n b a=none:=by
 match a,h with
 | [],_=>rfl
 | [_],_=>rfl
 | _::_::_::_,_=>rfl
theorem wQ{g off L cap:Nat}(h:CD M w (.slice (some ⟨g,off,none⟩) L cap) vs)(k:w.grownBy wx (some mb))(l:M mb)(i:Nat)(u:Value)(d:vs[i]?=some u):wx.cell? ⟨g,off+i,none⟩=some u:=by
 obtain⟨_,o,c,e,_,m⟩:=Sl.AQ (eL k l) h;simp only [Value.slice.injEq] at e;obtain⟨rfl,_,_⟩:=e;rcases m with p | ⟨q,f,n,j,_,b,a⟩
 ·have:=(s_ d).1;omega
 ·simp only [o_,Addr.mk.injEq,and_true] at j;obtain⟨rfl,rfl⟩:=j;rw [aA b];exact a i u d
theorem fY(n:Nat)(hF:GB n)(M:Q5)(w:World)(s:Sg)(tb mb:Nat)(ps:List (PV×PV))(sl:Value)(vs:List Value)(ts:List Tr)(hR:BM M w s tb mb ps)(hS:CD M w sl vs)(hA:C9 M n w vs ts)(hB:∀x∈ts,cL n x)(hz:s.ns.length+(ts.map (BB n)).sum<=BS)(o:Option (AE×PF×List (PV×PV)))(ho:o=A_ n ps.length ts) :Q2 74 #[D2 tb,sl] w fun e l=>QA M w s tb mb ps o (ts.map (BB n)).sum e l:=by
 have q:Hid (BM M w s tb mb ps):=hR;have T:=hA.1;unfold D2;by_cases L:ts.length=2
 ·obtain⟨D,j,rfl⟩:=fO L;obtain⟨u1,u2,rfl⟩:=fO (T.trans L);have r1:=hA.2 0 u1 D rfl rfl;have r2:=hA.2 1 u2 j rfl rfl;have N:Hid (AN (fun k=>¬M k) n w u1 D):=r1;have aj:Hid (JI M w u2 (EF (AD n j)) (BB n j)):=hF M w u2 j r2 (hB j w9)
  have m:Hid (∀x,D=.lit (.string x)->x.length<=1000/\s.ns.length+1+BB n j<=BS/\s.ns.length+1+BB n j=s.ns.length+([D,j].map (BB n)).sum):=fun x U=>by
   subst U
   cases n with
   | zero=>exact r1.elim
   | succ n =>
    refine⟨t_ (show x.length<=300 from hB (.lit (.string x)) w9) w8,?_,?_⟩
    ·simp only [List.map_cons,List.map_nil,List.sum_cons,List.sum_nil] at hz;rw [show BB (n+1) (.lit (.string x))=1 from rfl] at hz;omega
    ·simp only [List.map_cons,List.map_nil,List.sum_cons,List.sum_nil];rw [show BB (n+1) (.lit (.string x))=1 from rfl];omega
  have HO:Hid (o=if isName D then(EF (AD n j) ps.length).map fun r=>(Pl.strOf D,r) else none):=ho;obtain⟨T1,x1,rfl,E⟩:=r1.iface;obtain⟨T2,x2,rfl,F⟩:=r2.iface;have ac:=(Sl.C7 hS)
  obtain⟨g,G,ak,rfl,ad,hg,k0,ks⟩:=ac.cell0;have k1:=ks 0 _ rfl;simp only [Nat.zero_add,c_,z_] at k1 ad ⊢;have V:Hid (∀wx:World,w.grownBy wx (some mb)->wx.cell? ⟨g,G+1,none⟩=some (.iface T2 x2)):=fun wx f=>wQ hS f q.FV 1 _ rfl;clear hA hB hF r1 r2 T L ks ac hR E F hz ho hS;go_enter func74,ntmps74
  go_upto_region 40 with fail
  have W:Hid (mb<w.heap.size):=q.B3.lt.2;have q3:∀E F o3:Obj,(((w.alloc E).alloc F).alloc o3).cell? ⟨g,G,none⟩=some (.iface T1 x1):=fun E F o3=>(((bA w E F).alloc r7 o3).cell (p:=⟨g,G,none⟩) hg).trans k0;have q2:∀E F:Obj,((w.alloc E).alloc F).cell? ⟨g,G,none⟩=some (.iface T1 x1):=fun E F=>((bA w E F).cell (p:=⟨g,G,none⟩) hg).trans k0;have s0:∀E F o3:Obj,(((w.alloc E).alloc F).alloc o3).heap.size=w.heap.size+3:=fun _ _ _=>by simp
  go_cut [7,8] (fun n7 e8 wx=>∃(B:Q8)(C:Int)(R:Nat),n7=(Q0 R)/\Hid (VJ M w s tb mb ps D B C R e8 wx))
  case first =>
   have HN:Hid (Q2 76 #[.agg #[Q0 tb],.iface T1 x1] ((w.alloc (A0 tb)).alloc (.cells #[.string ⟨#[]⟩,Q1 0] B6)).drew fun e l=>∃B C t,e=.returned (.tuple #[.agg #[.string B,Q1 C],t])/\Hid (ZR M ((w.alloc (A0 tb)).alloc (.cells #[.string ⟨#[]⟩,Q1 0] B6)).drew s tb mb ps D B C t l)) :=(qP _ n w M _ s tb mb ps _ D N (q.below (bA w (A0 tb) (.cells #[.string ⟨#[]⟩,Q1 0] B6)).drew) (fun x U=>⟨(m x U).1,by have:=(m x U).2.1;omega⟩)).mono (fun e l h=>h.one)
   have al:Hid (Q2 76 #[.agg #[Q0 tb],.iface T1 x1] (((w.alloc (A0 tb)).alloc (.cells #[.string ⟨#[]⟩,Q1 0] B6)).alloc (.cells #[.string ⟨#[]⟩,Q1 0] B6)).drew fun e l=>∃B C t,e=.returned (.tuple #[.agg #[.string B,Q1 C],t])/\Hid (ZR M (((w.alloc (A0 tb)).alloc (.cells #[.string ⟨#[]⟩,Q1 0] B6)).alloc (.cells #[.string ⟨#[]⟩,Q1 0] B6)).drew s tb mb ps D B C t l)/\l.cell? ⟨w.heap.size+2,0,none⟩=some (.string ⟨#[]⟩)/\l.cell? ⟨w.heap.size+2,1,none⟩=some (Q1 0)/\l.frozen? ⟨w.heap.size+2,0,none⟩=false/\l.frozen? ⟨w.heap.size+2,1,none⟩=false) :=
    (qP _ n w M _ s tb mb ps _ D N (q.below ((bA w (A0 tb) (.cells #[.string ⟨#[]⟩,Q1 0] B6)).alloc r7 _).drew) (fun x U=>⟨(m x U).1,by have:=(m x U).2.1;omega⟩)).mono (fun e l h=>by
     obtain⟨B,C,t,h1,L⟩:=h.one;have hb:=(L.1.block (w.heap.size+2) (by show _<((((w.alloc _).alloc _).alloc _)).heap.size;simp) (by have:=W.out;simp;omega)).trans (iR w (A0 tb) (.cells #[.string ⟨#[]⟩,Q1 0] B6) (.cells #[.string ⟨#[]⟩,Q1 0] B6)).2.2.1
     exact⟨B,C,t,h1,L,aA hb 0,aA hb 1,aF hb 0,aF hb 1⟩)
   go_region_with (go_at_call 76;first | (refine Calls.mono HN ?_;rintro e w2 ⟨B,C,t,rfl,HQ⟩) | (refine Calls.mono al ?_;rintro e w2 ⟨B,C,t,rfl,HQ,c0,c1,f0,f1⟩))
   all_goals
    go_wp2_with fail
    go_meet
    first
    | exact⟨_,_,_,rfl,X2 q HQ⟩
    | exact⟨_,_,_,rfl,X1 q HQ⟩
  case rest =>
   obtain⟨B,C,R,rfl,HC⟩:=hcut;obtain⟨b,am⟩:∃b,b=wc:=⟨_,rfl⟩
   subst am;obtain⟨ba,z,H,a,f,hq⟩:=HC.out;have ae:Hid (w.grownBy b (some mb)):=f;have c0:b.cell? ⟨w.heap.size,0,none⟩=some (Q0 tb):=aA H 0;have c1:=V.out b f;have r0:b.cell? ⟨w.heap.size+1,0,none⟩=some (.string ⟨#[]⟩):=aA a 0;have r1:b.cell? ⟨w.heap.size+1,1,none⟩=some (Q1 0):=aA a 1;have f0:b.frozen? ⟨w.heap.size+1,0,none⟩=false:=aF a 0;have f1:b.frozen? ⟨w.heap.size+1,1,none⟩=false:=aF a 1;rcases hq with⟨x,an,af,ap,aq,X,c⟩ | ⟨ag,c,es,X⟩
   ·subst an ap aq X;obtain⟨Y,Z⟩:=q.wide2 f c.B3 (s.E5 x).le rfl;have bb:Hid (BM (Mw M w.heap.size b.heap.size) b (s.named x) tb mb ps):=Y;have bc:Hid (Stp M w (Mw M w.heap.size b.heap.size) b):=Z;have HX:=m.out x rfl;have ar:=dE s.ns x;have au:Hid (Q2 62 #[.agg #[Q0 tb],.iface T2 x2] b.drew fun e l=>∃v t,e=.returned (.tuple #[v,t])/\Hid (LM (Mw M w.heap.size b.heap.size) b.drew (s.named x) tb mb ps (EF (AD n j) ps.length) (BB n j) v t l)) :=(aj _ b.drew (s.named x) tb mb ps (Z.trans (Stp.AA r_.drew)) (Y.below r_.drew) (by have:=HX.2.1;simp only [Sg.named];omega)).mono (fun e l h=>h.one);have av:Hid (s.ns.length+1+BB n j=s.ns.length+([.lit (.string x),j].map (BB n)).sum):=HX.2.2;have aw:Hid (EE x=false):=af;clear H c Y Z HX ar af f m N k0 q3 q2 s0 k1
    go_upto_region 40 with fail
    go_cut [8,9] (fun e8 v9 wy=>Hid (LM (Mw M w.heap.size b.heap.size) b.drew (s.named x) tb mb ps (EF (AD n j) ps.length) (BB n j) v9 e8 wy))
    case first =>
     go_region_with (go_at_call 62;refine Calls.mono au ?_;rintro e w2 ⟨v,t,rfl,HQ⟩)
     all_goals
      go_wp2_with fail
      go_meet
      exact HQ
    case rest =>
     obtain⟨d,O,P,aa,ab⟩:=hcut.out;have ax:=W.out;have S:R<b.heap.size:=aB z;have ah:w.heap.size+1<b.heap.size:=by omega
     have Q:=(d.block R S r7).trans z;have A:=(d.block (w.heap.size+1) ah r7).trans a;have z0:wc.cell? ⟨R,0,none⟩=some (.string ⟨x.toArray⟩):=aA Q 0;have z1:wc.cell? ⟨R,1,none⟩=some (Q1 ((s.ns.idxOf x:Nat):Int)):=aA Q 1;have y0:wc.cell? ⟨w.heap.size+1,0,none⟩=some (.string ⟨#[]⟩):=aA A 0;have y1:wc.cell? ⟨w.heap.size+1,1,none⟩=some (Q1 0):=aA A 1;have g0:wc.frozen? ⟨w.heap.size+1,0,none⟩=false:=aF A 0;have g1:wc.frozen? ⟨w.heap.size+1,1,none⟩=false:=aF A 1;have i:Mw M w.heap.size b.heap.size (w.heap.size+1):=.inr ⟨x8,ah⟩;have HG:Hid (w.grownBy wc (some mb)):=aM ae ⟨d.os,d.tape,d.output,d.size,d.block⟩
     have HT:Hid (DK s O/\O.ns.length<=s.ns.length+([.lit (.string x),j].map (BB n)).sum):=⟨(s.E5 x).trans P,by
      have h1:=dE s.ns x;have L:=av.out;simp only [Sg.named] at aa
      omega⟩
     rcases ab with⟨r,hr,he,c,I⟩ | ⟨hr,ai,c,es,he⟩
     ·subst he;have J:Hid (o=some (x,r)):=show o=_ from by rw [HO.out,hr];simp [isName,aw.out,Pl.strOf]
      have HK:Hid (O.ns[s.ns.idxOf x]?=some x):=bS P.le.ns (internL_get s.ns x);have K:Hid (∀u v,BM M ((wc.setCell ⟨w.heap.size+1,0,none⟩ u).setCell ⟨w.heap.size+1,1,none⟩ v) O tb mb (ps++r.2)):=fun u v=>q.narrow ((c.set i x8 0 u).set i x8 1 v);have ay:Hid (∀u v,CP M ((wc.setCell ⟨w.heap.size+1,0,none⟩ u).setCell ⟨w.heap.size+1,1,none⟩ v) O u9 r.1):=fun u v=>(I.go ((Stp.set i 0 u).trans (Stp.set i 1 v)) (Sg.Le.refl _)).weaken (fun _ y=>.inl y);obtain⟨T9,x9,rfl⟩:=I.iface;clear hr c I P aa d hcut i A Q a z HC;go_wp2_with fail
      (try simp only [Exit.inBlock,Exit.then])
      refine bodyPost_ret (v:=.tuple #[.agg #[.string ⟨x.toArray⟩,Q1 ((s.ns.idxOf x:Nat):Int)],.iface T9 x9,.nilIface]) ?_ rfl ?_
      ·rw [bW rfl]
       go_simp
      ·exact⟨gm_set (gm_set HG x8 _ _) x8 _ _,O,HT.1,HT.2,.inl ⟨x,r,_,_,J,rfl,HK,K _ _,ay _ _⟩⟩
     ·subst he;have J:Hid (o=none):=show o=_ from by rw [HO.out,hr];simp
      have K:Hid (∀u v,BM M ((wc.setCell ⟨w.heap.size+1,0,none⟩ u).setCell ⟨w.heap.size+1,1,none⟩ v) O tb mb ps):=fun u v=>q.narrow ((c.set i x8 0 u).set i x8 1 v);have az:Hid (O.pb=s.pb):=ai;clear hr c P aa d hcut i A Q a z HC ai;unfold aY;go_wp2_with fail
      (try simp only [Exit.inBlock,Exit.then])
      refine bodyPost_ret (v:=.tuple #[.agg #[.string ⟨#[]⟩,Q1 0],.nilIface,aY es 5]) ?_ rfl ?_
      ·rw [bW rfl];unfold aY
       go_simp
      ·exact⟨gm_set (gm_set HG x8 _ _) x8 _ _,O,HT.1,HT.2,.inr ⟨J,az,K _ _,_,rfl⟩⟩
   ·subst X;have J:Hid (o=none):=show o=_ from by rw [HO.out,ag];simp
    have ax:=W.out;have S:R<b.heap.size:=aB z;have K:Hid (∀u v,BM M ((b.setCell ⟨w.heap.size+1,0,none⟩ u).setCell ⟨w.heap.size+1,1,none⟩ v) s tb mb ps):=fun u v=>q.I8 (gm_set (gm_set f x8 _ _) x8 _ _) (c.B3.keep (by rw [Below.heap_setCell _ _ _ _ (fun e=>by have:tb=w.heap.size+1:=(by simpa using e);have:=q.B3.lt.1;omega),Below.heap_setCell _ _ _ _ (fun e=>by have:tb=w.heap.size+1:=(by simpa using e);have:=q.B3.lt.1;omega)]) (by rw [Below.heap_setCell _ _ _ _ (fun e=>by have:mb=w.heap.size+1:=(by simpa using e);omega),Below.heap_setCell _ _ _ _ (fun e=>by have:mb=w.heap.size+1:=(by simpa using e);omega)])) (DK.refl s) rfl;clear c ag f H a z HC m N k0 q3 q2 s0 k1 c1;unfold aY;go_wp2_with fail
    (try simp only [Exit.inBlock,Exit.then])
    refine bodyPost_ret (v:=.tuple #[.agg #[.string ⟨#[]⟩,Q1 0],.nilIface,aY es 5]) ?_ rfl ?_
    ·rw [bW rfl];unfold aY
     go_simp
    ·exact⟨gm_set (gm_set ae x8 _ _) x8 _ _,s,DK.refl _,Nat.le_add_right _ _,.inr ⟨J,rfl,K _ _,_,rfl⟩⟩
 ·have HE:Hid (o=none):=ho.trans (X3 L);obtain⟨ao,ak,rfl,_⟩:=Sl.C7 hS;have bd:((vs.length:Int)!=2)=true:=by simp;omega
  clear hS hA hB hR L T ho hF hz;go_enter func74,ntmps74;go_wp2_with (go_at_call 92;refine(aS _ _).mono ?_;rintro e l ⟨rfl,rfl⟩)
  (try simp only [Exit.inBlock,Exit.then])
  refine bodyPost_ret (v:=.tuple #[.agg #[.string ⟨#[]⟩,Q1 0],.nilIface,aY ⟨#[114,101,97,100,105,110,103,32,97,32,110,97,109,101,32,97,110,100,32,97,32,102,111,114,109]⟩ 5]) ?_ rfl ?_
  ·rw [bW rfl]
   go_simp
  ·exact⟨aI (bA w _ _),s,DK.refl _,Nat.le_add_right _ _,.inr ⟨HE,rfl,q.below (bA w _ _),_,rfl⟩⟩
theorem U4(k:FK)(d:k≠.const)(n b:Nat)(c:List Tr):EF (Pl.E6 k (AD n) c) b=(A_ n b c).map fun p=>(BN k p.1 .nil [p.2.1] [],p.2.2):=by
 match c with
 | []=>rfl
 | [_]=>rfl
 | [a,e] =>
  simp only [Pl.E6,A_]
  cases isName a with
  | false=>rfl
  | true =>
   cases AD n e with
   | none=>rfl
   | some f=>simp [EF,BN,Pl.BC _ _ _ _ _ _ _ d,Pl.BO,Pl.BV]
 | _::_::_::_=>rfl
theorem WY{x:AE}{f:PF}(h:t.ns[k]?=some x)(a:CP M w t v f):CP M w t (.iface 264 (.agg #[.string ⟨x.toArray⟩,Q1 k,v])) (BN .set x .nil [f] []):=.set k v f x .nil .nothing [] h a
theorem rP{x:AE}{f:PF}(h:t.ns[k]?=some x)(a:CP M w t v f):CP M w t (.iface 200 (.agg #[.string ⟨x.toArray⟩,Q1 k,v])) (BN .define x .nil [f] []):=.define k v f x .nil .nothing [] h a
theorem p_set(n:Nat)(G:GB n)(M:Q5)(w:World)(s:Sg)(tb mb:Nat)(ps:List (PV×PV))(sl:Value)(vs:List Value)(a:List Tr)(H:BM M w s tb mb ps)(z:CD M w sl vs)(I:C9 M n w vs a)(J:∀x∈a,cL n x)(K:s.ns.length+(a.map (BB n)).sum<=BS)(o:FR)(L:o=EF (Pl.E6 .set (AD n) a) ps.length) :Q2 96 #[D2 tb,sl] w fun e A=>A5 M w s tb mb ps o (a.map (BB n)).sum e A:=by
 have b:=bB w (A0 tb);have N:Hid (Q2 74 #[D2 tb,sl] (w.alloc (A0 tb)) fun e A=>QA M (w.alloc (A0 tb)) s tb mb ps (A_ n ps.length a) (a.map (BB n)).sum e A) :=fY n G M _ s tb mb ps sl vs a (H.below b) (Sl.AQ (Stp.AA b) z) (I.mono (fun _ _ h=>h.go (Stp.AA b))) J K _ rfl;obtain⟨S,R,rfl,_⟩:=Sl.C7 z;unfold D2 at N ⊢;have O:Hid (o=(A_ n ps.length a).map fun p=>(BN .set p.1 .nil [p.2.1] [],p.2.2)):=L.trans (U4 .set w8 n ps.length a);have l:=h_ b;clear z H b G L I J K;go_enter func96,ntmps96;go_wp2_with fail;refine Calls.mono N ?_;rintro e j ⟨y,t,f,g,⟨x,r,k,v,m,rfl,P,c,d⟩ | ⟨m,q,c,T,rfl⟩⟩
 ·have u:Hid (DK s t/\t.ns.length<=s.ns.length+(a.map (BB n)).sum):=⟨f,g⟩
  have B:=h_ (aM (aI l) y);have Q:Hid (∀i,BM M (j.alloc i) t tb mb (ps++r.2)/\CP M (j.alloc i) t (.iface 264 (.agg #[.string ⟨x.toArray⟩,Q1 k,v])) (BN .set x .nil [r.1] [])):=fun i=>⟨c.below (bB j i),(WY P d).go (Stp.AA (bB j i)) (Sg.Le.refl _)⟩
  have C:Hid (o=some (BN .set x .nil [r.1] [],r.2)):=show _=_ from by rw [O.out,m];rfl
  exact zD7
 ·exact zD6
theorem yW(n:Nat)(G:GB n)(M:Q5)(w:World)(s:Sg)(tb mb:Nat)(ps:List (PV×PV))(sl:Value)(vs:List Value)(a:List Tr)(H:BM M w s tb mb ps)(z:CD M w sl vs)(I:C9 M n w vs a)(J:∀x∈a,cL n x)(K:s.ns.length+(a.map (BB n)).sum<=BS)(o:FR)(L:o=EF (Pl.E6 .define (AD n) a) ps.length) :Q2 61 #[D2 tb,sl] w fun e A=>A5 M w s tb mb ps o (a.map (BB n)).sum e A:=by
 have b:=bB w (A0 tb);have N:Hid (Q2 74 #[D2 tb,sl] (w.alloc (A0 tb)) fun e A=>QA M (w.alloc (A0 tb)) s tb mb ps (A_ n ps.length a) (a.map (BB n)).sum e A) :=fY n G M _ s tb mb ps sl vs a (H.below b) (Sl.AQ (Stp.AA b) z) (I.mono (fun _ _ h=>h.go (Stp.AA b))) J K _ rfl;obtain⟨S,R,rfl,_⟩:=Sl.C7 z;unfold D2 at N ⊢;have O:Hid (o=(A_ n ps.length a).map fun p=>(BN .define p.1 .nil [p.2.1] [],p.2.2)):=L.trans (U4 .define w8 n ps.length a);have l:=h_ b;clear z H b G L I J K;go_enter func61,ntmps61;go_wp2_with fail;refine Calls.mono N ?_;rintro e j ⟨y,t,f,g,⟨x,r,k,v,m,rfl,P,c,d⟩ | ⟨m,q,c,T,rfl⟩⟩
 ·have u:Hid (DK s t/\t.ns.length<=s.ns.length+(a.map (BB n)).sum):=⟨f,g⟩
  have B:=h_ (aM (aI l) y);have Q:Hid (∀i,BM M (j.alloc i) t tb mb (ps++r.2)/\CP M (j.alloc i) t (.iface 200 (.agg #[.string ⟨x.toArray⟩,Q1 k,v])) (BN .define x .nil [r.1] [])):=fun i=>⟨c.below (bB j i),(rP P d).go (Stp.AA (bB j i)) (Sg.Le.refl _)⟩
  have C:Hid (o=some (BN .define x .nil [r.1] [],r.2)):=show _=_ from by rw [O.out,m];rfl
  exact zD7
 ·exact zD6
end
end Go.Proofs.YtbgghmjmcapmlaaGreatDoor
