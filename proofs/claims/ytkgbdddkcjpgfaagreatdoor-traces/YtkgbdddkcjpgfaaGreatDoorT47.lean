import Derived.Test.YtkgbdddkcjpgfaaGreatDoorT31
import Derived.Test.YtkgbdddkcjpgfaaGreatDoorT45
namespace Go.Proofs.YtkgbdddkcjpgfaaGreatDoor
set_option maxHeartbeats 4000000
set_option maxRecDepth 100000
open Go.Proofs.Tryz
open Pl (AE)
section
open Go.RowKit
def Q0(w:World)(m:Nat)(d:Tr)(e:Ending)(w':World):Prop:=e=.returned (.string ⟨(Pl.CC m d).toArray⟩)/\Below w.heap.size w w'
def QZ(m:Nat):Prop:=∀(d:Tr)(w:World)(v:Value),AJ (fun _=>True) m w v d->cL m d->(Pl.CC m d).length<=1000000->Lib.TabIs prog w oS .u64 Lib.pow10Tab->8<=w.heap.size->Calls prog 130 #[v] w fun e w'=>Q0 w m d e w'
def UT(n:Nat)(ts:List Tr)(k:Nat):AE:=40::Pl.CZ ((ts.take k).map (Pl.CC n))
theorem aF4{n:Nat}{a:List Tr}{k:Nat}{x:Tr}(b:a[k]?=some x):UT n a (k+1)=(if 0<k then UT n a k++[32] else UT n a k)++Pl.CC n x:=by
 have c:=(s_ b).1;unfold UT;rw [List.take_add_one,b,Option.toList_some,List.map_append,List.map_cons,List.map_nil];by_cases h:0<k
 ·rw [if_pos h,Pl.GM _ _ (by intro e;have:=congrArg List.length e;rw [List.length_map,List.length_take,z_] at this;omega)];simp
 ·obtain rfl:k=0:=by omega
  rw [if_neg h];rfl
theorem aD9{x:AE}:∀{l:List AE},x∈l->x.length<=(Pl.CZ l).length
 | [y],h=>by obtain rfl:x=y:=(by simpa using h);exact n_
 | y::z::r,h=>by
  show _<=(y++32::Pl.CZ (z::r)).length;rw [a_,c_];rcases List.mem_cons.1 h with rfl | h
  ·omega
  ·have:=aD9 h;omega
theorem aD7:∀(l:List AE)(k:Nat),(Pl.CZ (l.take k)).length<=(Pl.CZ l).length
 | l,0=>by simp [Pl.CZ]
 | [],k+1=>by simp
 | [y],k+1=>by simp
 | y::z::r,1=>by show y.length<=(y++32::Pl.CZ (z::r)).length;rw [a_];omega
 | y::z::r,k+2=>by have a:=aD7 (z::r) (k+1);show(y++32::Pl.CZ ((z::r).take (k+1))).length<=(y++32::Pl.CZ (z::r)).length;rw [a_,a_,c_,c_];omega
theorem aD8(l:List AE):(Pl.AP l).length=(Pl.CZ l).length+2:=by unfold Pl.AP;simp
theorem aFM(n:Nat)(a:List Tr)(k:Nat):(UT n a k).length<=(Pl.AP (a.map (Pl.CC n))).length:=by have:=aD7 (a.map (Pl.CC n)) k;rw [<- List.map_take] at this;rw [aD8];unfold UT;rw [c_];omega
theorem aEK(n:Nat)(X:QZ n)(a:List Tr)(w:World)(b:Nat)(d:Value)(vs:List Value)(z:w.heap[b]?=some (.cells #[s6,.int .i64 0,tI,d] TD (0,0)))(h:w.ownsRow 0 TP 1 d a.length vs)(B:∀(i:Nat)(u:Value)(x:Tr),vs[i]?=some u->a[i]?=some x->AJ (fun _=>True) n w u x)(m:∀x∈a,cL n x)(o:Lib.TabIs prog w oS .u64 Lib.pow10Tab)(v:8<=w.heap.size)(hl:a.length<=1000)(N:(Pl.AP (a.map (Pl.CC n))).length<=1000000) :Calls prog 130 #[.pointer (some ⟨b,0,none⟩)] w fun e A=>e=.returned (.string ⟨(Pl.AP (a.map (Pl.CC n))).toArray⟩)/\Below w.heap.size w A:=by
 have Y:w.cell? ⟨b,0,none⟩=some s6:=aA z 0;have O:w.cell? ⟨b,3,none⟩=some d:=aA z 3;have C:=aB z;have D:vs.length=a.length:=h.1.trans (Nat.mul_one _);obtain⟨P,E,rfl,y,l⟩:=bC h;rw [D] at O y
 have Z:=(show Hid (∀wr,Below w.heap.size w wr->∀j,j<a.length->∃(u:Value)(x:Tr)(g c:Nat),a[j]?=some x/\P=some ⟨g,c,none⟩/\wr.cell? ⟨g,c+j,none⟩=some u/\(∃p,u=.pointer (some ⟨p,0,none⟩))/\Calls prog 130 #[u] wr fun e A=>e=.returned (.string ⟨(Pl.CC n x).toArray⟩)/\Hid (Below w.heap.size w A)) from fun wr q j Q=>by
  obtain⟨u,R⟩:∃u,vs[j]?=some u:=⟨vs[j],g_ (by omega)⟩
  obtain⟨x,r⟩:∃x,a[j]?=some x:=⟨a[j],g_ Q⟩
  obtain⟨g,c,e,hg,hc⟩:=l j u R;have F:=B j u x R r;have G:AJ (fun _=>True) n wr u x:=AJ.keep (CU.AA q) n u x F;refine⟨u,x,g,c,r,e,(q.cell (p:=⟨g,c+j,none⟩) hg).trans hc,?_,(X x wr u G (m x (q_ r)) (by have:=aD9 (List.mem_map_of_mem (f:=Pl.CC n) (q_ r));have H:=aD8 (a.map (Pl.CC n));omega) (iH (fun k B=>q.block k (by omega)) o) (t_ v q.size)).mono (fun e A ⟨h1,H⟩=>⟨h1,q.trans (H.mono q.size)⟩)⟩
  cases n with
  | zero=>exact F.elim
  | succ n=>obtain⟨p,rfl,_⟩:=F;exact⟨p,rfl⟩)
 have I:Hid (∀wr:World,Below w.heap.size w wr->wr.cell? ⟨b,3,none⟩=some (.slice P a.length E)):=fun wr q=>(q.cell (p:=⟨b,3,none⟩) C).trans O;clear z h B m o v l;unfold s6 at Y;go_enter func130,ntmps130;go_wp2_with fail
 go_loopw [3,4] (fun s i wr=>∃j:Nat,j<=a.length/\s=.string ⟨(UT n a j).toArray⟩/\i=.int .i64 (j:Int)/\Hid (Below w.heap.size w wr)) (fun _ i _=>a.length-(intOf i).toNat)
 case atStart=>exact⟨0,Nat.zero_le _,rfl,rfl,r_⟩
 case round =>
  obtain⟨j,Q,rfl,rfl,J⟩:=hrel;have aa:=I.out wr J;by_cases K:j<a.length
  ·obtain⟨u,x,g,c,r,rfl,ab,⟨p,rfl⟩,S⟩:=Z.out wr J j K;have T:=h_ S;have U:=h_ (aF4 (n:=n) r);have V:(j:Int)<(a.length:Int):=by omega
   have L:(UT n a j).length<=1000000:=t_ (aFM n a j) N;have ac:(Pl.CC n x).length<=1000000:=by have:=aD9 (List.mem_map_of_mem (f:=Pl.CC n) (q_ r));have H:=aD8 (a.map (Pl.CC n));omega
   clear r S;by_cases W:0<j
   ·have M:(0:Int)<(j:Int):=by omega
    go_wp2_with (go_at_call 130;refine Calls.mono T ?_;rintro e w2 ⟨rfl,t⟩)
    go_roundw
    case rel=>exact⟨j+1,by omega,by rw [U.out,if_pos W,<-c7,<-c7],by go_num,t⟩
    case measure=>simp [intOf];omega
   ·have M:¬((0:Int)<(j:Int)):=by omega
    go_wp2_with (go_at_call 130;refine Calls.mono T ?_;rintro e w2 ⟨rfl,t⟩)
    go_roundw
    case rel=>exact⟨j+1,by omega,by rw [U.out,if_neg W,<-c7],by go_num,t⟩
    case measure=>simp [intOf];omega
  ·obtain rfl:j=a.length:=by omega
   have HE:Hid (Pl.AP (a.map (Pl.CC n))=UT n a a.length++[41]):=show _=_ from by unfold UT Pl.AP;rw [List.take_length];rfl
   have L:(UT n a a.length).length<=1000000:=t_ (aFM n a _) N;go_wp2_with fail;go_ret;exact⟨by rw [HE.out,<-c7];rfl,J⟩
theorem SZ(j:AY):∀m,QZ m
 | 0=>fun _ _ _ h=>h.elim
 | n+1=>fun d w v h a g c i=>by
  have p:=SZ j n;obtain⟨b,rfl,_,h⟩:=h;unfold Q0
  match d,h,a,g with
  | .agg y,h,a,g =>obtain⟨l,A,B,_,C,D,E⟩:=h;exact aEK n p y w b l A B C D a c i E g
  | .lit (.int k m),h,a,g =>obtain⟨z,f,t⟩:=h;obtain rfl:=t a;have o:w.cell? ⟨b,0,none⟩=some PU:=aA f 0;have q:w.cell? ⟨b,1,none⟩=some (.int .i64 z):=aA f 1;have F:Hid (Calls prog 34 #[.int .i64 z] w fun e u=>e=.returned (.string ⟨(Pl.itoa z).toArray⟩)/\Hid (Below w.heap.size w u)):=(j z w (by have:gW z:=a;unfold gW at this;have J:Pl.CG=1099511627776:=rfl;omega) c).mono (fun e u ⟨G,H,_⟩=>⟨G,H⟩);clear f t a g p j c i;unfold PU at o;go_enter func130,ntmps130;go_wp2_with (go_at_call 34;refine Calls.mono F ?_;rintro e K ⟨rfl,r⟩);go_ret;exact⟨rfl,r⟩
  | .lit (.bool x),h,a,g =>
   have f:w.heap[b]?=some (.cells #[PQ,.int .i64 (if x then 1 else 0),tI,.slice none 0 0] TD (0,0)):=h;have o:w.cell? ⟨b,0,none⟩=some PQ:=aA f 0;have q:w.cell? ⟨b,1,none⟩=some (.int .i64 (if x then 1 else 0)):=aA f 1;clear f h a g p j c i;unfold PQ at o
   cases x with
   | true =>simp only [if_true] at q;go_enter func130,ntmps130;go_wp2_with fail;go_ret;exact⟨rfl,r_⟩
   | false =>simp only [Bool.false_eq_true,if_false] at q;go_enter func130,ntmps130;go_wp2_with fail;go_ret;exact⟨rfl,r_⟩
  | .lit (.string s),h,a,g =>have f:w.heap[b]?=some (.cells #[ZJ,.int .i64 0,eB s,.slice none 0 0] TD (0,0)):=h;have o:w.cell? ⟨b,0,none⟩=some ZJ:=aA f 0;have I:w.cell? ⟨b,2,none⟩=some (eB s):=aA f 2;clear f h a g p j c i;unfold ZJ at o;unfold eB at I;go_enter func130,ntmps130;go_wp2_with fail;go_ret;exact⟨rfl,r_⟩
end
section
namespace Pl
def JR(k:FK)(nm:AE)(ns:List AE):AE:=match k with
 | .iff=>40::UB
 | .begin=>40::D6
 | .set=>40::(KD++32::nm)
 | .define=>40::(D4++32::nm)
 | .lambda=>40::(D3++32::AP ns)
 | _=>[40]
def G2(s t:AE):AE:=(if s=[40] then s else s++[32])++t
def OS(p:AE)(tx:List AE)(k:Nat):AE:=(tx.take k).foldl G2 p
theorem N9{p:AE}{a:List AE}{k:Nat}{t:AE}(h:a[k]?=some t):OS p a (k+1)=G2 (OS p a k) t:=by unfold OS;rw [List.take_add_one,h,Option.toList_some,List.foldl_append];rfl
theorem LC(s t:AE):s.length<=(G2 s t).length/\t.length<=(G2 s t).length/\(G2 s t).length<=s.length+1+t.length:=by unfold G2;split<;>simp<;>omega
theorem aEH:∀(l:List AE)(p:AE),p.length<=(l.foldl G2 p).length
 | [],_=>n_
 | t::r,p=>t_ (LC p t).1 (aEH r (G2 p t))
theorem YU(p:AE)(a:List AE)(k:Nat):(OS p a k).length<=(OS p a a.length).length:=by
 unfold OS;rw [List.take_length]
 conv=>rhs;rw [<- List.take_append_drop k a,List.foldl_append]
 exact aEH _ _
theorem JU:∀(l:List AE)(p:AE),2<=p.length->l.foldl G2 p=p++l.flatMap (fun t=>32::t)
 | [],p,_=>by simp
 | t::r,p,h=>by
  have e:G2 p t=p++32::t:=by unfold G2;rw [if_neg (fun e=>by rw [e] at h;simp at h)];simp
  show r.foldl G2 (G2 p t)=_;rw [e,JU r _ (by simp;omega)];simp
theorem EJ(x:AE)(a:List AE):AP (x::a)=40::(x++a.flatMap (fun t=>32::t))++[41]:=by unfold AP;rw [I0];simp
end Pl
theorem aFN(u:Nat):Lib.decDigits u≠[]:=by rw [Lib.decDigits];split<;>simp
theorem YG(n:Int):Pl.itoa n≠[]:=by
 show Lib.itoa n≠[];unfold Lib.itoa;split
 ·simp
 ·exact aFN _
theorem aEP(l:List Pl.AE):Pl.AP l≠[]:=by unfold Pl.AP;simp
theorem fT_ne{W:Pl.PW}(j:Pl.NI W.pairs){f:Pl.PF}(h:EU W f):Pl.fT W.pairs f≠[]:=by
 have l:=h.dat;have c:=h.nmd;obtain⟨k,a,d,v,g,i⟩:=f
 cases k with
 | const =>
  have e:Pl.fT W.pairs (.mk .const a d v g i)=if isQ d then Pl.AP [Pl.FB,Pl.text W.pairs v] else Pl.text W.pairs v:=by simp [Pl.fT]
  rw [e];have n:Pl.QD d:=c.2 rfl;have o:Pl.text W.pairs v=Pl.CC 1000 (Pl.quoted d):=l rfl j;split
  ·exact aEP _
  ·rename_i b;rw [o]
   match d,n,b with
   | .lit (.int _ m),_,_=>exact YG m
   | .lit (.bool true),_,_=>exact(fun e=>by cases e)
   | .lit (.bool false),_,_=>exact(fun e=>by cases e)
   | .agg p,_,b=>exact absurd rfl b
 | name =>
  have e:Pl.fT W.pairs (.mk .name a d v g i)=a:=by simp [Pl.fT]
  rw [e];exact c.1 rfl
 | _=>simp only [Pl.fT];exact aEP _
theorem fT_ftS{W:Pl.PW}(i:Pl.NI W.pairs){k:Pl.FK}{nm:Pl.AE}{d:Pl.A9}{v:Pl.PV}{b:List Pl.PF}{ns:List Pl.AE}(h:EU W (.mk k nm d v b ns))(j:k≠.const)(m:k≠.name):Pl.fT W.pairs (.mk k nm d v b ns)=Pl.OS (Pl.JR k nm ns) (Pl.GD W.pairs b) b.length++[41]:=by
 have f:b.length=(Pl.GD W.pairs b).length:=(Pl.JD W.pairs b).symm;have c:∀p:Pl.AE,2<=p.length->Pl.OS p (Pl.GD W.pairs b) b.length=p++(Pl.GD W.pairs b).flatMap (fun t=>32::t):=fun p n=>by unfold Pl.OS;rw [f,List.take_length];exact Pl.JU _ _ n
 cases k with
 | const=>exact absurd rfl j
 | name=>exact absurd rfl m
 | call =>
  have o:1<=b.length:=h.shp
  cases b with
  | nil=>simp at o
  | cons x r =>
   have q:=fT_ne i (h.KG (x:=x) (by simp [Pl.PF.ks]));have g:Pl.GD W.pairs (x::r)=Pl.fT W.pairs x::Pl.GD W.pairs r:=by simp [Pl.GD]
   have e:Pl.fT W.pairs (.mk .call nm d v (x::r) ns)=Pl.AP (Pl.GD W.pairs (x::r)):=by simp [Pl.fT]
   rw [e,g,Pl.EJ];unfold Pl.OS;rw [f,g,List.take_length];have s:Pl.G2 (Pl.JR .call nm ns) (Pl.fT W.pairs x)=40::Pl.fT W.pairs x:=rfl
   rw [List.foldl_cons,s,Pl.JU _ _ (by
    cases u:Pl.fT W.pairs x with
    | nil=>exact absurd u q
    | cons a l=>simp)]
   rfl
 | iff =>rw [c _ (by simp [Pl.JR,Pl.UB])];simp only [Pl.fT];rw [Pl.EJ];rfl
 | begin =>rw [c _ (by simp [Pl.JR,Pl.D6])];simp only [Pl.fT];rw [Pl.EJ];rfl
 | set =>rw [c _ (by simp [Pl.JR,Pl.KD])];simp only [Pl.fT];rw [Pl.EJ];simp [Pl.JR]
 | define =>rw [c _ (by simp [Pl.JR,Pl.D4])];simp only [Pl.fT];rw [Pl.EJ];simp [Pl.JR]
 | lambda =>rw [c _ (by simp [Pl.JR,Pl.D3])];simp only [Pl.fT];rw [Pl.EJ];simp [Pl.JR]
theorem aFL{W:Pl.PW}:∀(l:List Pl.PF),(∀x∈l,(Pl.fT W.pairs x).length<=500000*IU x)->((Pl.GD W.pairs l).map fun t=>t.length+1).sum<=500000*OT l+l.length
 | [],_=>by simp [Pl.GD]
 | x::r,h=>by have a:=h x (by simp);have b:=aFL r (fun y c=>h y (List.mem_cons_of_mem _ c));rw [show Pl.GD W.pairs (x::r)=Pl.fT W.pairs x::Pl.GD W.pairs r by simp [Pl.GD],List.map_cons,List.sum_cons,ZL,c_];omega
theorem H_(l:List Pl.AE):(Pl.AP l).length<=2+(l.map fun t=>t.length+1).sum:=by have:=aD6 l;unfold Pl.AP;rw [c_,a_,c_,z_];omega
theorem aFF:∀(l:List Pl.AE),(∀x∈l,x.length<=300)->(l.map fun t=>t.length+1).sum<=301*l.length
 | [],_=>by simp
 | x::r,h=>by have a:=h x (by simp);have b:=aFF r (fun y c=>h y (List.mem_cons_of_mem _ c));rw [List.map_cons,List.sum_cons,c_];omega
theorem UJ{W:Pl.PW}(i:Pl.NI W.pairs){f:Pl.PF}(h:EU W f):(Pl.fT W.pairs f).length<=500000*IU f:=by
 induction h with
 | mk k e d v a c n o p q j r g s l =>
  have t:=aFL (W:=W) a l;have u:=aFF c j.2.2;rw [OL]
  cases k with
  | const =>
   have m:Pl.text W.pairs v=Pl.CC 1000 (Pl.quoted d):=by have:=(g rfl).1 [];rw [List.append_nil] at this;exact this i
   have w:=(g rfl).2.1;simp only [Pl.fT];rw [m];split
   ·have:=H_ [Pl.FB,Pl.CC 1000 (Pl.quoted d)];have b:Pl.FB.length=5:=rfl;simp only [List.map_cons,List.map_nil,List.sum_cons,List.sum_nil] at this;omega
   ·omega
  | name=>simp only [Pl.fT];omega
  | call =>have:=H_ (Pl.GD W.pairs a);simp only [Pl.fT];omega
  | iff =>have:=H_ (Pl.UB::Pl.GD W.pairs a);have b:Pl.UB.length=2:=rfl;simp only [List.map_cons,List.sum_cons] at this;simp only [Pl.fT];omega
  | begin =>have:=H_ (Pl.D6::Pl.GD W.pairs a);have b:Pl.D6.length=5:=rfl;simp only [List.map_cons,List.sum_cons] at this;simp only [Pl.fT];omega
  | set =>have:=H_ (Pl.KD::e::Pl.GD W.pairs a);have b:Pl.KD.length=4:=rfl;simp only [List.map_cons,List.sum_cons] at this;simp only [Pl.fT];omega
  | define =>have:=H_ (Pl.D4::e::Pl.GD W.pairs a);have b:Pl.D4.length=6:=rfl;simp only [List.map_cons,List.sum_cons] at this;simp only [Pl.fT];omega
  | lambda =>have:=H_ (Pl.D3::Pl.AP c::Pl.GD W.pairs a);have x:=H_ c;have b:Pl.D3.length=6:=rfl;simp only [List.map_cons,List.sum_cons] at this;simp only [Pl.fT];omega
end
open Pl (PV PW PS PF CW FK AW)
section
open Go.RowKit
variable {w wr w' w2:World} {wb b n xb m k sz:Nat} {Mk M:Nat->Prop} {lv v:Value} {T:TypeId} {xs:List Value}
theorem aEO{ok:Nat->Prop}:∀(m:Nat)(v:Value)(d:Tr),AJ ok m w v d->Pl.dep m d
 | 0,_,_,h=>h.elim
 | n+1,v,d,h=>by
  obtain⟨b,_,_,h⟩:=h
  cases d with
  | agg f =>obtain⟨a,c,_,_,g,j,_⟩:=h;intro x k;obtain⟨i,e⟩:=List.getElem?_of_mem k;have o:c.length=f.length:=g.1.trans (Nat.mul_one _);have l:=(s_ e).1;exact aEO n _ x (j i c[i] x (g_ (by omega)) e)
  | _=>trivial
theorem aET:∀(a b:Nat)(t:Pl.A9),Pl.dep a t->cL a t->cL b t
 | 0,_,_,h,_=>h.elim
 | _+1,0,_,_,_=>trivial
 | a+1,b+1,t,h,k=>by
  cases t with
  | agg d=>exact fun x c=>aET a b x (h x c) (k x c)
  | lit x=>cases x<;>first | trivial | exact k
  | _=>trivial
theorem aFP{W:PW}(o:Pl.NI W.pairs){nm:AE}{d:Tr}{v:PV}{j:List PF}{ns:List AE}(h:EU W (.mk .const nm d v j ns)){dv:Value}(l:AJ (fun _=>True) m w dv d):Pl.CC m d=Pl.fT W.pairs (.mk .const nm d v j ns)/\cL m d:=by
 have p:Pl.text W.pairs v=Pl.CC 1000 (Pl.quoted d):=h.dat rfl o;obtain⟨_,c,a⟩:=h.datL rfl;have e:Pl.QD d:=h.nmd.2 rfl;have f:=aEO m dv d l;simp only [Pl.fT];rw [p]
 cases m with
 | zero=>exact l.elim
 | succ m =>
  match d,e,c,a,f with
  | .agg q,e,c,a,f =>
   obtain⟨x,rfl⟩:=e;have n:Pl.dep m x:=f x (by simp);have b:Pl.dep 1000 x:=c;have g:cL 1000 x:=a
   cases m with
   | zero=>exact n.elim
   | succ m =>
    refine⟨?_,fun y i=>?_⟩
    ·show Pl.AP [Pl.CB,Pl.CC (m+1) x]=Pl.AP [Pl.FB,Pl.CC 1000 x];rw [aES (m+1) 1000 x n b];rfl
    ·rcases List.mem_cons.1 i with rfl | i
     ·show Pl.CB.length<=300;decide
     ·obtain rfl:y=x:=by simpa using i
      exact aET 1000 (m+1) y b g
  | .lit (.int k z),_,_,a,_=>exact⟨rfl,a⟩
  | .lit (.bool z),_,_,_,_=>exact⟨rfl,trivial⟩
def QY(W:PW)(n:Nat):Prop:=∀(f:PF)(w:World)(v:Value),G4 n w v f->EU W f->Lib.TabIs prog w oS .u64 Lib.pow10Tab->8<=w.heap.size->Calls prog 85 #[v] w fun e w'=>e=.returned (.string ⟨(Pl.fT W.pairs f).toArray⟩)/\Below w.heap.size w w'
theorem belF(w:World)(n:Nat):Below w.heap.size w (w.drewN n):=⟨rfl,rfl,rfl,n_,fun _ _=>rfl⟩
def ZH(ns:List AE)(k:Nat):AE:=[40,108,97,109,98,100,97,32,40]++Pl.CZ (ns.take k)
theorem aFI{ns:List AE}{x:AE}(a:ns[k]?=some x):ZH ns (k+1)=(if 0<k then ZH ns k++[32] else ZH ns k)++x:=by
 have b:=(s_ a).1;unfold ZH;rw [List.take_add_one,a,Option.toList_some];by_cases h:0<k
 ·rw [if_pos h,Pl.GM _ _ (by intro e;have:=congrArg List.length e;rw [List.length_take,z_] at this;omega)];simp
 ·obtain rfl:k=0:=by omega
  rw [if_neg h];rfl
theorem aF0(ns:List AE)(h:ns.length<=300)(a:∀x∈ns,x.length<=300)(k:Nat):(ZH ns k).length<=100000:=by have b:=aD7 ns k;have c:=aD6 ns;have d:=aFF ns a;unfold ZH;rw [a_];simp only [c_,z_];omega
theorem aEL(s t:AE)(h:s≠[40]):(⟨s.toArray⟩:ByteArray)++⟨#[32]⟩++⟨t.toArray⟩=⟨(Pl.G2 s t).toArray⟩:=by unfold Pl.G2;rw [if_neg h,<-c7,<-c7]
theorem aEG(t:AE):(⟨#[40]⟩:ByteArray)++⟨t.toArray⟩=⟨(Pl.G2 [40] t).toArray⟩:=by unfold Pl.G2;rw [if_pos rfl,<-c7]
theorem aEJ{W:PW}(ha:Pl.NI W.pairs)(n:Nat)(ih:QY W n)(w:World)(b:Nat)(dv kv nv c0 c1 c2:Value)(O:List Value)(k:FK)(nm:AE)(d:Tr)(px:PV)(a:List PF)(ns:List AE)(Y:k≠.const)(Z:k≠.name)(v:EU W (.mk k nm d px a ns))(J:w.heap[b]?=some (.cells #[AM (FW k),AM nm,dv,kv,nv,c0,c1,c2] G3 (0,0)))(o:w.ownsRow 0 LN 1 kv a.length O)(hk:∀(i:Nat)(u:Value)(x:PF),O[i]?=some u->a[i]?=some x->G4 n w u x)(P:w.ownsRow 0 TS 1 nv ns.length (ns.map AM))(A:Lib.TabIs prog w oS .u64 Lib.pow10Tab)(Q:8<=w.heap.size) :Calls prog 85 #[.pointer (some ⟨b,0,none⟩)] w fun e w'=>e=.returned (.string ⟨(Pl.fT W.pairs (.mk k nm d px a ns)).toArray⟩)/\Below w.heap.size w w':=by
 have K:w.cell? ⟨b,0,none⟩=some (.string ⟨(FW k).toArray⟩):=aA J 0;have q1:w.cell? ⟨b,1,none⟩=some (.string ⟨nm.toArray⟩):=aA J 1;have q3:w.cell? ⟨b,3,none⟩=some kv:=aA J 3;have q4:w.cell? ⟨b,4,none⟩=some nv:=aA J 4;have aa:=aB J;have ab:O.length=a.length:=o.1.trans (Nat.mul_one _);have al:nm.length<=300:=v.lnm;obtain⟨ao,ac,rfl,R,q⟩:=bC o;obtain⟨an,ak,rfl,E,m⟩:=bC P;rw [ab] at q3 R;rw [List.length_map] at q4 E;have hE:=fT_ftS ha v Y Z;have hT:=UJ ha v;have ad:=v.nd;have f:=Pl.JD W.pairs a;have am:a.length<=300:=v.lks
 have HK:=(show Hid (∀wr,Below w.heap.size w wr->∀j,j<a.length->∃(u:Value)(t:AE)(g c:Nat),(Pl.GD W.pairs a)[j]?=some t/\ao=some ⟨g,c,none⟩/\wr.cell? ⟨g,c+j,none⟩=some u/\(∃p,u=.pointer (some ⟨p,0,none⟩))/\Calls prog 85 #[u] wr fun e w'=>e=.returned (.string ⟨t.toArray⟩)/\Hid (Below w.heap.size w w')) from fun wr B j L=>by
  obtain⟨u,hu⟩:∃u,O[j]?=some u:=⟨O[j],g_ (by omega)⟩
  obtain⟨x,r⟩:∃x,a[j]?=some x:=⟨a[j],g_ L⟩
  obtain⟨g,c,e,hg,hc⟩:=q j u hu;have hR:=hk j u x hu r;refine⟨u,_,g,c,Pl.KT W.pairs a j x r,e,(B.cell (p:=⟨g,c+j,none⟩) hg).trans hc,?_,(ih x wr u (G4.keep (fun k ap e _ S=>(B.block k (aB S)).trans S) n u x hR) (v.KG (q_ r)) (iH (fun k hk=>B.block k (by omega)) A) (t_ Q B.size)).mono (fun e w' ⟨Y,Z⟩=>⟨Y,B.trans (Z.mono B.size)⟩)⟩
  cases n with
  | zero=>exact hR.elim
  | succ n=>obtain⟨k',aq,d',ar,au,av⟩:=x;obtain⟨p,_,_,_,_,_,_,_,rfl,_⟩:=hR;exact⟨p,rfl⟩)
 have HN:=(show Hid (∀j,j<ns.length->∃(x:AE)(g c:Nat),ns[j]?=some x/\an=some ⟨g,c,none⟩/\w.cell? ⟨g,c+j,none⟩=some (.string ⟨x.toArray⟩)) from fun j L=>by
  obtain⟨x,r⟩:∃x,ns[j]?=some x:=⟨ns[j],g_ L⟩
  obtain⟨g,c,e,_,hc⟩:=m j (AM x) (by rw [List.getElem?_map,r];rfl)
  exact⟨x,g,c,r,e,hc⟩)
 have y:=(show Hid (ns.length<=300/\∀x∈ns,x.length<=300) from⟨v.lns,v.lnx⟩)
 have T:Hid (∀wr:World,Below w.heap.size w wr->wr.cell? ⟨b,3,none⟩=some (.slice ao a.length ac)):=fun wr B=>(B.cell (p:=⟨b,3,none⟩) aa).trans q3;generalize hp:Pl.JR k nm ns=p at hE;generalize Pl.GD W.pairs a=M at *;have HE:=h_ hE
 have N:=(show Hid (∀j,(Pl.OS p M j).length<=600000000) from fun j=>by
  have h3:=Pl.YU p M j;rw [hE,a_] at hT;rw [f] at h3
  omega)
 have HP:=h_ hp;generalize Pl.fT W.pairs (.mk k nm d px a ns)=F at *;clear J o hk P A Q q m v ih hE hT hp ad;rcases k with _ | _ | _ | _ | _ | _ | _ | _
 ·exact absurd rfl Y
 ·exact absurd rfl Z
 case lambda =>
  unfold FW Pl.C3 at K;have ae:Hid ((⟨(ZH ns ns.length).toArray⟩:ByteArray)++⟨#[41]⟩=⟨p.toArray⟩):=show _=_ from by rw [<- HP.out];unfold ZH Pl.JR Pl.AP;rw [List.take_length,show(⟨#[41]⟩:ByteArray)=⟨[41].toArray⟩ from rfl,c7];simp [Pl.D3]
  go_enter func85,ntmps85
  go_wp2_with fail
  go_loopw [3,4] (fun s i wr=>∃j:Nat,j<=ns.length/\s=.string ⟨(ZH ns j).toArray⟩/\i=.int .i64 (j:Int)/\Hid (w=wr)) (fun _ i _=>ns.length-(intOf i).toNat)
  case atStart=>exact⟨0,Nat.zero_le _,rfl,rfl,rfl⟩
  case round =>
   obtain⟨j,L,rfl,rfl,HW⟩:=hrel;obtain rfl:=HW.out;have z:=aF0 ns y.1 y.2 j;have aw:=y.1;by_cases f:j<ns.length
   ·obtain⟨x,g,c,r,rfl,ax⟩:=HN.out j f;have ay:=y.2 x (q_ r);have C:=h_ (aFI r);have D:(j:Int)<(ns.length:Int):=by omega
    clear r;by_cases h0:0<j
    ·have af:(0:Int)<(j:Int):=by omega
     go_wp2_with fail
     go_roundw
     case rel=>exact⟨j+1,by omega,by rw [C.out,if_pos h0,<-c7,<-c7],by go_num,(by first | exact rfl | exact trivial)⟩
     case measure=>simp [intOf];omega
    ·have af:¬((0:Int)<(j:Int)):=by omega
     go_wp2_with fail
     go_roundw
     case rel=>exact⟨j+1,by omega,by rw [C.out,if_neg h0,<-c7],by go_num,(by first | exact rfl | exact trivial)⟩
     case measure=>simp [intOf];omega
   ·obtain rfl:j=ns.length:=by omega
    go_wp2_with fail
    go_loopw [3,5] (fun s i wr=>∃j:Nat,j<=a.length/\s=.string ⟨(Pl.OS p M j).toArray⟩/\i=.int .i64 (j:Int)/\Hid (Below w.heap.size w wr)) (fun _ i _=>a.length-(intOf i).toNat)
    case atStart=>exact⟨0,Nat.zero_le _,(by first | (exact congrArg Value.string ae) | (rw [<- HP.out];rfl)),rfl,(by first | exact r_ | exact belF _ _)⟩
    case round =>
     obtain⟨j,L,rfl,rfl,G⟩:=hrel;have ag:=T.out wr G;by_cases f:j<a.length
     ·obtain⟨u,t,g,c,U,rfl,ah,⟨pp,rfl⟩,V⟩:=HK.out wr G j f;have X:=h_ V;have H:=Pl.N9 (p:=p) U;have z:=N.out j;have h:=N.out (j+1);rw [H] at h;have ai:t.length<=600000000:=t_ (Pl.LC _ t).2.1 h;have C:=h_ H;have D:(j:Int)<(a.length:Int):=by omega
      clear U V H h;generalize Pl.OS p M j=s at *;by_cases I:s=[40]
      ·subst I;go_wp2_with (go_at_call 85;refine Calls.mono X ?_;rintro e w2 ⟨rfl,l⟩)
       go_roundw
       case rel=>exact⟨j+1,by omega,by rw [C.out];exact congrArg Value.string (aEG t),by go_num,l⟩
       case measure=>simp [intOf];omega
      ·have aj:(s==[40])=false:=by simpa using I
       go_wp2_with (go_at_call 85;refine Calls.mono X ?_;rintro e w2 ⟨rfl,l⟩)
       go_roundw
       case rel=>exact⟨j+1,by omega,by rw [C.out];exact congrArg Value.string (aEL s t I),by go_num,l⟩
       case measure=>simp [intOf];omega
     ·obtain rfl:j=a.length:=by omega
      have z:=N.out a.length;go_wp2_with fail;go_ret;exact⟨by rw [HE.out,<-c7];first | done | rfl,G⟩
 all_goals
  unfold FW at K
  (try unfold Pl.VN at K)
  (try unfold Pl.FX at K)
  (try unfold Pl.LR at K)
  (try unfold Pl.CK at K)
  go_enter func85,ntmps85
  go_wp2_with fail
  (try (go_quiet (fail);go_wp2_with fail))
  go_loopw [3,5] (fun s i wr=>∃j:Nat,j<=a.length/\s=.string ⟨(Pl.OS p M j).toArray⟩/\i=.int .i64 (j:Int)/\Hid (Below w.heap.size w wr)) (fun _ i _=>a.length-(intOf i).toNat)
  case atStart=>exact⟨0,Nat.zero_le _,(by first | (rw [<- HP.out];show Value.string _=Value.string _;congr 1;apply ByteArray.ext;simp [ByteArray.data_append,Pl.OS,Pl.JR,Pl.KD,Pl.D4]) | (rw [<- HP.out];rfl)),rfl,(by first | exact r_ | exact belF _ _)⟩
  case round =>
   obtain⟨j,L,rfl,rfl,G⟩:=hrel;have ag:=T.out wr G;by_cases f:j<a.length
   ·obtain⟨u,t,g,c,U,rfl,ah,⟨pp,rfl⟩,V⟩:=HK.out wr G j f;have X:=h_ V;have H:=Pl.N9 (p:=p) U;have z:=N.out j;have h:=N.out (j+1);rw [H] at h;have ai:t.length<=600000000:=t_ (Pl.LC _ t).2.1 h;have C:=h_ H;have D:(j:Int)<(a.length:Int):=by omega
    clear U V H h;generalize Pl.OS p M j=s at *;by_cases I:s=[40]
    ·subst I;go_wp2_with (go_at_call 85;refine Calls.mono X ?_;rintro e w2 ⟨rfl,l⟩)
     go_roundw
     case rel=>exact⟨j+1,by omega,by rw [C.out];exact congrArg Value.string (aEG t),by go_num,l⟩
     case measure=>simp [intOf];omega
    ·have aj:(s==[40])=false:=by simpa using I
     go_wp2_with (go_at_call 85;refine Calls.mono X ?_;rintro e w2 ⟨rfl,l⟩)
     go_roundw
     case rel=>exact⟨j+1,by omega,by rw [C.out];exact congrArg Value.string (aEL s t I),by go_num,l⟩
     case measure=>simp [intOf];omega
   ·obtain rfl:j=a.length:=by omega
    have z:=N.out a.length;go_wp2_with fail;go_ret;exact⟨by rw [HE.out,<-c7];first | done | rfl,G⟩
theorem SY(D:AY){W:PW}(q:Pl.NI W.pairs):∀n,QY W n
 | 0=>fun f _ _ h=>by obtain⟨_,_,_,_,_,_⟩:=f;exact h.elim
 | n+1=>fun f w v h o a i=>by
  have t:=SY D q n;obtain⟨k,r,d,E,u,F⟩:=f;obtain⟨b,x,K,L,M,N,O,P,rfl,j,c,y,l,g,_,_,_⟩:=h;by_cases z:k=.const
  ·subst z;obtain⟨_,m,s⟩:=g rfl;obtain⟨A,G⟩:=aFP q o s;have H:(Pl.CC m d).length<=1000000:=by have:=UJ q o;have I:u=[]:=e_ o.shp;rw [A];rw [OL,I,aA5] at this;rw [I];omega
   have Q:=h_ (SZ D m d w x s G H a i);rw [<- A];have B:w.cell? ⟨b,0,none⟩=some (.string ⟨(FW .const).toArray⟩):=aA j 0;have R:w.cell? ⟨b,2,none⟩=some x:=aA j 2;obtain⟨p,rfl⟩:=AJ.ptr s;clear j c y l g s A G H a i t o;unfold FW at B;go_enter func85,ntmps85;go_wp2_with (go_at_call 130;refine Calls.mono Q ?_;rintro e S ⟨rfl,C⟩);go_ret;exact⟨rfl,C⟩
  by_cases J:k=.name
  ·subst J;have e:Pl.fT W.pairs (.mk .name r d E u F)=r:=by simp [Pl.fT]
   rw [e];have B:w.cell? ⟨b,0,none⟩=some (.string ⟨(FW .name).toArray⟩):=aA j 0;have T:w.cell? ⟨b,1,none⟩=some (.string ⟨r.toArray⟩):=aA j 1;clear j c y l g a i t o z e;unfold FW kNa at B;go_enter func85,ntmps85;go_wp2_with fail;go_ret;exact⟨rfl,r_⟩
  ·exact aEJ q n t w b x K L M N O P k r d E u F z J o j c y l a i
theorem aF2{l:List CW}(h:DT M w v l):(v=.pointer none/\l.length=0)\/∃b,v=.pointer (some ⟨b,0,none⟩)/\b<w.heap.size/\w.cell? ⟨b,5,none⟩=some (.int .i64 (l.length:Int)):=by
 cases l with
 | nil=>exact .inl ⟨h,rfl⟩
 | cons f r =>obtain⟨b,c,d,e,g,rfl,a,_⟩:=h;exact .inr ⟨b,rfl,aB a,aA a 5⟩
theorem aFX(w:World)(wb C D:Nat)(n:Nat)(I J K L m:Value)(t:AE)(ht:t.length<=1000000000)(o:w.heap[C]?=some (.cells #[.pointer (some ⟨D,0,none⟩),I,J,K,L,m] JL (0,0)))(E:(m=.pointer none/\n=0)\/∃b,m=.pointer (some ⟨b,0,none⟩)/\b<w.heap.size/\w.cell? ⟨b,5,none⟩=some (.int .i64 (n:Int)))
  (G:∀i,Below w.heap.size w i->Calls prog 85 #[.pointer (some ⟨D,0,none⟩)] i fun e B=>e=.returned (.string ⟨t.toArray⟩)/\Below i.heap.size i B) :
  Calls prog 52 #[.pointer (some ⟨wb,0,none⟩),.pointer (some ⟨C,0,none⟩)] w fun e B=>e=.returned (.agg #[.int .i64 1,.string ⟨(Pl.cut t).toArray⟩,.int .i64 (n:Int)])/\Below w.heap.size w B:=by
 have M:=aB o;have y0:w.cell? ⟨C,0,none⟩=some (.pointer (some ⟨D,0,none⟩)):=aA o 0;have y5:w.cell? ⟨C,5,none⟩=some m:=aA o 5;have h:Hid (∀z A:Obj,Below w.heap.size w ((w.alloc z).alloc A)):=fun z A=>b_.alloc (by simp) _;have qB:∀(z A:Obj)(k q:Nat),k<w.heap.size->((w.alloc z).alloc A).cell? ⟨k,q,none⟩=w.cell? ⟨k,q,none⟩:=fun z A k q N=>(h z A).cell (p:=⟨k,q,none⟩) N;have H:=h_ G;clear G o;rcases E with⟨rfl,rfl⟩ | ⟨b,rfl,O,P⟩
 ·go_enter func52,ntmps52
  go_wp2_with fail
  refine(H _ (h _ _)).mono ?_;rintro e i ⟨rfl,r⟩;have j:=(r.block w.heap.size (by simp;omega)).trans ((k_ (by simp)).trans (heap_alloc_new w _));have f:=(r.block (w.heap.size+1) (by simp)).trans (zN w _ _ _);have s:Hid (Below w.heap.size w i):=(h _ _).trans (r.mono (h _ _).size);have Q:=aA f 1;have R:=aF f 1;have u:=aB f;have g:=aD f 1 (.string ⟨(Pl.cut t).toArray⟩);have l:(i.setCell ⟨w.heap.size+1,1,none⟩ (.string ⟨(Pl.cut t).toArray⟩)).heap[w.heap.size]?=some (.cells #[.int .i64 0,.string ⟨#[]⟩,.int .i64 0] 46 (0,0)):=(Below.heap_setCell _ _ _ _ (by simp)).trans j;have S:=aA g 0;have T:=aA g 1;have U:=aA g 2;obtain⟨V,W,X,Y,Z,v2,r1,r2,r3⟩:=FA l;have x:Hid (∀a c d:Value,Below w.heap.size w ((((i.setCell ⟨w.heap.size+1,1,none⟩ (.string ⟨(Pl.cut t).toArray⟩)).setCell ⟨w.heap.size,0,none⟩ a).setCell ⟨w.heap.size,1,none⟩ c).setCell ⟨w.heap.size,2,none⟩ d)):=fun a c d=>bO (bO (bO (bO s (by omega) 1 _) n_ _ _) n_ _ _) n_ _ _;clear r j f g l u;go_wp2_with fail;refine(uE _ t (by omega)).mono ?_;rintro e B ⟨rfl,rfl⟩;generalize y:(⟨(Pl.cut t).toArray⟩:ByteArray)=F at *;go_wp2_with fail
  (try simp only [Exit.inBlock,Exit.then])
  refine bodyPost_ret (v:=.agg #[.int .i64 1,.string F,.int .i64 ((0:Nat):Int)]) ?_ rfl ?_
  ·rw [aO rfl]
   go_simp
   try rfl
  exact⟨by rw [<- y],x _ _ _⟩
 ·go_enter func52,ntmps52
  go_wp2_with fail
  refine(H _ (h _ _)).mono ?_;rintro e i ⟨rfl,r⟩;have j:=(r.block w.heap.size (by simp;omega)).trans ((k_ (by simp)).trans (heap_alloc_new w _));have f:=(r.block (w.heap.size+1) (by simp)).trans (zN w _ _ _);have s:Hid (Below w.heap.size w i):=(h _ _).trans (r.mono (h _ _).size);have Q:=aA f 1;have R:=aF f 1;have u:=aB f;have g:=aD f 1 (.string ⟨(Pl.cut t).toArray⟩);have l:(i.setCell ⟨w.heap.size+1,1,none⟩ (.string ⟨(Pl.cut t).toArray⟩)).heap[w.heap.size]?=some (.cells #[.int .i64 0,.string ⟨#[]⟩,.int .i64 0] 46 (0,0)):=(Below.heap_setCell _ _ _ _ (by simp)).trans j;have S:=aA g 0;have T:=aA g 1;have U:=aA g 2;obtain⟨V,W,X,Y,Z,v2,r1,r2,r3⟩:=FA l;have x:Hid (∀a c d:Value,Below w.heap.size w ((((i.setCell ⟨w.heap.size+1,1,none⟩ (.string ⟨(Pl.cut t).toArray⟩)).setCell ⟨w.heap.size,0,none⟩ a).setCell ⟨w.heap.size,1,none⟩ c).setCell ⟨w.heap.size,2,none⟩ d)):=fun a c d=>bO (bO (bO (bO s (by omega) 1 _) n_ _ _) n_ _ _) n_ _ _;clear r j f g l u;go_wp2_with fail;refine(uE _ t (by omega)).mono ?_;rintro e B ⟨rfl,rfl⟩;generalize y:(⟨(Pl.cut t).toArray⟩:ByteArray)=F at *;go_wp2_with fail
  (try simp only [Exit.inBlock,Exit.then])
  refine bodyPost_ret (v:=.agg #[.int .i64 1,.string F,.int .i64 (n:Int)]) ?_ rfl ?_
  ·rw [aO rfl]
   go_simp
   try rfl
  exact⟨by rw [<- y],x _ _ _⟩
theorem aFY(w:World)(wb s:Nat)(n:Nat)(N o:Value)(E:AE)(F:Int)(G:AE)(K:AE)(h:w.heap[s]?=some (.cells #[.pointer none,N,.string ⟨E.toArray⟩,.int .i64 F,.string ⟨G.toArray⟩,o] JL (0,0)))(H:(o=.pointer none/\n=0)\/∃b,o=.pointer (some ⟨b,0,none⟩)/\b<w.heap.size/\w.cell? ⟨b,5,none⟩=some (.int .i64 (n:Int)))
  (L:∀j,Below w.heap.size w j->Calls prog 86 #[.pointer (some ⟨wb,0,none⟩),.agg #[.string ⟨E.toArray⟩,.int .i64 F,.string ⟨G.toArray⟩],.string ⟨#[]⟩] j fun e C=>∃t:AE,e=.returned (.string ⟨t.toArray⟩)/\t.length<=2000000000/\Pl.cut t=Pl.cut K/\Below j.heap.size j C) :
  Calls prog 52 #[.pointer (some ⟨wb,0,none⟩),.pointer (some ⟨s,0,none⟩)] w fun e C=>e=.returned (.agg #[.int .i64 2,.string ⟨(Pl.cut K).toArray⟩,.int .i64 (n:Int)])/\Below w.heap.size w C:=by
 have O:=aB h;have y0:w.cell? ⟨s,0,none⟩=some (.pointer none):=aA h 0;have y2:w.cell? ⟨s,2,none⟩=some (.string ⟨E.toArray⟩):=aA h 2;have y3:w.cell? ⟨s,3,none⟩=some (.int .i64 F):=aA h 3;have y4:w.cell? ⟨s,4,none⟩=some (.string ⟨G.toArray⟩):=aA h 4;have y5:w.cell? ⟨s,5,none⟩=some o:=aA h 5;have i:Hid (∀A B:Obj,Below w.heap.size w ((w.alloc A).alloc B)):=fun A B=>b_.alloc (by simp) _;have qB:∀(A B:Obj)(k q:Nat),k<w.heap.size->((w.alloc A).alloc B).cell? ⟨k,q,none⟩=w.cell? ⟨k,q,none⟩:=fun A B k q P=>(i A B).cell (p:=⟨k,q,none⟩) P;have M:=h_ L;clear L h;rcases H with⟨rfl,rfl⟩ | ⟨b,rfl,Q,R⟩
 ·go_enter func52,ntmps52
  go_wp2_with fail
  refine(M _ (i _ _)).mono ?_;rintro e j ⟨t,rfl,S,D,r⟩;have I:=h_ D;clear D;have l:=(r.block w.heap.size (by simp;omega)).trans ((k_ (by simp)).trans (heap_alloc_new w _));have f:=(r.block (w.heap.size+1) (by simp)).trans (zN w _ _ _);have u:Hid (Below w.heap.size w j):=(i _ _).trans (r.mono (i _ _).size);have T:=aA f 1;have U:=aF f 1;have x:=aB f;have g:=aD f 1 (.string ⟨(Pl.cut t).toArray⟩);have m:(j.setCell ⟨w.heap.size+1,1,none⟩ (.string ⟨(Pl.cut t).toArray⟩)).heap[w.heap.size]?=some (.cells #[.int .i64 0,.string ⟨#[]⟩,.int .i64 0] 46 (0,0)):=(Below.heap_setCell _ _ _ _ (by simp)).trans l;have V:=aA g 0;have W:=aA g 1;have X:=aA g 2;obtain⟨Y,Z,t2,v0,v1,v2,r1,r2,r3⟩:=FA m;have y:Hid (∀a c d:Value,Below w.heap.size w ((((j.setCell ⟨w.heap.size+1,1,none⟩ (.string ⟨(Pl.cut t).toArray⟩)).setCell ⟨w.heap.size,0,none⟩ a).setCell ⟨w.heap.size,1,none⟩ c).setCell ⟨w.heap.size,2,none⟩ d)):=fun a c d=>bO (bO (bO (bO u (by omega) 1 _) n_ _ _) n_ _ _) n_ _ _;clear r l f g m x;go_wp2_with fail;refine(uE _ t (by omega)).mono ?_;rintro e C ⟨rfl,rfl⟩;generalize z:(⟨(Pl.cut t).toArray⟩:ByteArray)=J at *;go_wp2_with fail
  (try simp only [Exit.inBlock,Exit.then])
  refine bodyPost_ret (v:=.agg #[.int .i64 2,.string J,.int .i64 ((0:Nat):Int)]) ?_ rfl ?_
  ·rw [aO rfl]
   go_simp
   try rfl
  exact⟨by rw [<- z,I.out],y _ _ _⟩
 ·go_enter func52,ntmps52
  go_wp2_with fail
  refine(M _ (i _ _)).mono ?_;rintro e j ⟨t,rfl,S,D,r⟩;have I:=h_ D;clear D;have l:=(r.block w.heap.size (by simp;omega)).trans ((k_ (by simp)).trans (heap_alloc_new w _));have f:=(r.block (w.heap.size+1) (by simp)).trans (zN w _ _ _);have u:Hid (Below w.heap.size w j):=(i _ _).trans (r.mono (i _ _).size);have T:=aA f 1;have U:=aF f 1;have x:=aB f;have g:=aD f 1 (.string ⟨(Pl.cut t).toArray⟩);have m:(j.setCell ⟨w.heap.size+1,1,none⟩ (.string ⟨(Pl.cut t).toArray⟩)).heap[w.heap.size]?=some (.cells #[.int .i64 0,.string ⟨#[]⟩,.int .i64 0] 46 (0,0)):=(Below.heap_setCell _ _ _ _ (by simp)).trans l;have V:=aA g 0;have W:=aA g 1;have X:=aA g 2;obtain⟨Y,Z,t2,v0,v1,v2,r1,r2,r3⟩:=FA m;have y:Hid (∀a c d:Value,Below w.heap.size w ((((j.setCell ⟨w.heap.size+1,1,none⟩ (.string ⟨(Pl.cut t).toArray⟩)).setCell ⟨w.heap.size,0,none⟩ a).setCell ⟨w.heap.size,1,none⟩ c).setCell ⟨w.heap.size,2,none⟩ d)):=fun a c d=>bO (bO (bO (bO u (by omega) 1 _) n_ _ _) n_ _ _) n_ _ _;clear r l f g m x;go_wp2_with fail;refine(uE _ t (by omega)).mono ?_;rintro e C ⟨rfl,rfl⟩;generalize z:(⟨(Pl.cut t).toArray⟩:ByteArray)=J at *;go_wp2_with fail
  (try simp only [Exit.inBlock,Exit.then])
  refine bodyPost_ret (v:=.agg #[.int .i64 2,.string J,.int .i64 (n:Int)]) ?_ rfl ?_
  ·rw [aO rfl]
   go_simp
   try rfl
  exact⟨by rw [<- z,I.out],y _ _ _⟩
theorem WZ(B:AY)(w:World)(wb o:Nat)(M:Nat->Prop)(W:PW)(S:PS)(E:RW w wb M W)(t:Gs w M)(F:RS M w o S)(q:L2 W)(G:∀f,S.form=some f->EU W f)(H:S.form=none->BL W S.val) :Calls prog 52 #[.pointer (some ⟨wb,0,none⟩),.pointer (some ⟨o,0,none⟩)] w fun e C=>e=.returned (.agg #[.int .i64 ((Pl.line W S).1:Int),.string ⟨(Pl.line W S).2.1.toArray⟩,.int .i64 ((Pl.line W S).2.2:Int)])/\Below w.heap.size w C:=by
 obtain⟨I,D,J,K,L,h,j,s,_,N⟩:=F;have l:=aF2 N
 cases a:S.form with
 | some f =>
  simp only [JN,a] at s;have u:Pl.line W S=(1,Pl.cut (Pl.fT W.pairs f),S.AB.length):=by unfold Pl.line;rw [a]
  rw [u];have c:=G f a;have O:=UJ q.KV c;have P:=c.nd;obtain⟨m,v⟩:=s
  obtain⟨x,rfl⟩:∃x,I=.pointer (some ⟨x,0,none⟩):=by
   cases m with
   | zero=>obtain⟨_,_,_,_,_,_⟩:=f;exact v.elim
   | succ m=>obtain⟨_,_,_,_,_,_⟩:=f;obtain⟨p,_,_,_,_,_,_,_,rfl,_⟩:=v;exact⟨p,rfl⟩
  exact aFX w wb o x _ D J K L h _ (by omega) j l (fun y g=>SY B q.KV m f y _ (G4.keep (fun k Q e _ n=>(g.block k (aB n)).trans n) m _ f v) c (t.below g).B3 (t.below g).size)
 | none =>
  simp only [JN,a] at s;obtain⟨rfl,b⟩:=s;simp only [cZ,List.cons.injEq,and_true] at b;obtain⟨rfl,rfl,rfl⟩:=b;have u:Pl.line W S=(2,Pl.cut (Pl.text W.pairs S.val),S.AB.length):=by unfold Pl.line;rw [a]
  rw [u];have d:=H a
  have z:Pl.B7 S.val<=1000000000:=by
   have X:=q.len
   cases A:S.val with
   | pair i=>rw [A] at d;simp only [Pl.B7];have:i<W.pairs.length:=d;omega
   | _=>simp [Pl.B7]
  exact aFY w wb o _ D h (vK S.val) (vN S.val) (vS S.val) (Pl.text W.pairs S.val) j l (fun y g=>(lF B wb M W q 1000000000 n_ y S.val [] (E.later g) (t.below g) d z (by simp)).mono (fun e C ⟨R,r,T,U,V⟩=>⟨r,T,by simp only [z_] at V;omega,by rw [U.cut];rfl,R⟩))
theorem vK_ne(x:PV):vK x≠[]:=by cases x<;>exact(fun e=>by cases e)
theorem aFK{k:FK}(h:FW k=FW .const):k=.const:=by cases k<;>first | rfl | exact absurd h (by decide)
structure Un(w w':World)(b:Nat):Prop where
 gr:w.grownBy w' (some b)
 blk:∃nm dv kv nv c1 c2,w.heap[b]?=some (.cells #[AM (FW .const),AM nm,dv,kv,nv,AM [],c1,c2] G3 (0,0))
theorem Un.cells(h:Un w w' b){cur:Array Value}(a:w.heap[k]?=some (.cells cur T (0,0)))(c:T≠G3):w'.heap[k]?=some (.cells cur T (0,0)):=(h.gr.block k (aB a) (fun e=>by
 obtain rfl:k=b:=i_ e;obtain⟨_,_,_,_,_,_,d⟩:=h.blk
 exact c (aK a d).2)).trans a
theorem Un.row(h:Un w w' b)(f:T≠G3)(e:w.ownsRow 0 T sz v n xs):w'.ownsRow 0 T sz v n xs:=by
 refine⟨e.1,?_⟩;rcases e.2 with i | ⟨g,c,d,rfl,j,k,a⟩
 ·exact .inl i
 ·exact .inr ⟨g,c,d,rfl,j,h.cells k f,a⟩
theorem Un.sl(h:Un w w' b)(e:T≠G3)(f:Sl M w T sz v n xs):Sl M w' T sz v n xs:=by obtain⟨i,j,a,rfl,k,l⟩:=f;refine⟨i,j,a,rfl,k,l.imp id ?_⟩;rintro⟨g,c,d,rfl,m,o,p⟩;exact⟨g,c,d,rfl,m,h.cells o e,p⟩
theorem G4.un(h:Un w w' b):∀(n:Nat)(v:Value)(f:PF),G4 n w v f->G4 n w' v f
 | 0,_,_,j=>j
 | n+1,v,.mk k T d t U V,j=>by
  obtain⟨l,y,z,A,B,C,D,E,F,a,G,H,I,o,J⟩:=j;refine⟨l,y,z,A,B,C,D,E,F,(h.gr.block l (aB a) (fun e=>?_)).trans a,h.row (by decide) G,fun i u x K L=>G4.un h n u x (H i u x K L),h.row (by decide) I,fun e=>⟨(o e).1,(o e).2.elim fun m M=>⟨m,AJ.keep (fun k N e _ O a=>h.cells a (by rcases O with rfl | rfl<;>decide)) _ _ _ M⟩⟩,J⟩;obtain rfl:l=b:=i_ e;obtain⟨P,Q,R,S,W,X,p⟩:=h.blk;have s:=(aK a p).1;simp only [Array.mk.injEq,List.cons.injEq] at s;obtain⟨c,_,_,_,_,g,_⟩:=s
  have q:k=.const:=aFK (by
   unfold AM at c;simp only [Value.string.injEq,ByteArray.mk.injEq] at c
   exact Array.toList_inj.2 c |> fun h=>by simpa using congrArg Array.toList c)
  have r:=(o q).1;unfold cZ at r;simp only [List.cons.injEq] at r;rw [r.1] at g;unfold AM at g;simp only [Value.string.injEq,ByteArray.mk.injEq] at g;exact vK_ne t (by simpa using congrArg Array.toList g)
theorem DT.un(h:Un w w' b):∀(v:Value)(l:List CW),DT M w v l->DT M w' v l
 | _,[],a=>a
 | _,_::r,a=>by obtain⟨d,e,f,g,c,i,j,⟨n,k⟩,m,o,p⟩:=a;exact⟨d,e,f,g,c,i,h.cells j (by decide),⟨n,G4.un h n _ _ k⟩,h.sl (by decide) m,h.sl (by decide) o,DT.un h c r p⟩
theorem EV.un{W:PW}{pv qv cv gv:Value}{qs cs:List Value}(h:Un w w' b)(f:EV w wb W pv qv cv lv gv qs cs):EV w' wb W pv qv cv lv gv qs cs:=by
 refine⟨h.cells f.blk (by decide),h.row (by decide) f.pr,h.row (by decide) f.pc,fun i p g=>?_,h.row (by decide) f.cn,fun i j g=>?_,h.row (by decide) f.pl,h.row (by decide) f.gl,f.out⟩
 ·obtain⟨k,l,a,b,⟨n,c⟩,d,e⟩:=f.pcs i p g;exact⟨k,l,a,b,⟨n,G4.un h n _ _ c⟩,d,h.sl (by decide) e⟩
 ·obtain⟨u,a,b⟩:=f.cns i j g;exact⟨u,a,DT.un h _ _ b⟩
structure Ahd(w1:World)(lo:Nat)(w0:World):Prop where
 os:w0.os=w1.os
 tape:w0.tape=w1.tape
 output:w0.output=w1.output
 size:w1.heap.size=w0.heap.size
 block:∀k,k<lo->w0.heap[k]?=w1.heap[k]?
theorem aEC(w:World)(b:Nat)(x:PV):w.grownBy (QT w b x) (some b):=aC (aC (aE w b 5 _) (aE _ b 6 _)) (aE _ b 7 _)
theorem aD5(w:World)(b:Nat)(x:PV):(QT w b x).heap.size=w.heap.size:=by simp [QT,World.setCell]
theorem aEA{c:Array Value}(a:w.heap[b]?=some (.cells c T (0,0)))(x:PV):(QT w b x).heap[b]?=some (.cells (((c.setIfInBounds 5 (AM (vK x))).setIfInBounds 6 (.int .i64 (vN x))).setIfInBounds 7 (AM (vS x))) T (0,0)):=aD (aD (aD a 5 _) 6 _) 7 _
theorem WQ(w1:World)(lo hi wb:Nat)(W:PW)(q s t v y:Value)(z cs:List Value)(j:∀k,k<hi->some k≠q.ownBlock):Snp (Ahd w1 lo) lo hi wb W q s t v y z cs:=fun w l A b B C D E F G x a H m d=>by
 obtain⟨g,h,a⟩:=a;rcases Nat.lt_or_ge b g.heap.size with n | f
 ·have o:b≠wb:=fun e=>by
   subst e;exact absurd (aK d a.blk).2 (by decide)
  have p:=j b m;have r:g.heap[b]?=some (.cells #[AM (FW .const),AM B,C,D,E,AM [],F,G] G3 (0,0)):=(a.IV.block b n o p).symm.trans d;have i:Un g (QT g b x) b:=⟨aEC _ _ _,_,_,_,_,_,_,r⟩
  have u:Un w (QT w b x) b:=⟨aEC _ _ _,_,_,_,_,_,_,d⟩
  refine⟨QT g b x,⟨i.gr.os.trans h.os,i.gr.tape.trans h.tape,i.gr.output.trans h.output,by rw [aD5];exact h.size,fun k c=>(i.gr.block k (by omega) (fun e=>by have:=i_ e;omega)).trans (h.block k c)⟩,EV.un i a.old,⟨a.IV.os,a.IV.tape,a.IV.output,by rw [aD5,aD5];exact a.IV.size,fun k c I J=>?_⟩,u.cells a.blk (by decide),u.row (by decide) a.row,fun k c=>by rw [aD5];exact a.at_ k c⟩;rw [aD5] at c;by_cases e:k=b
  ·subst e;rw [aEA r,aEA d]
  ·rw [u.gr.block k (l_ c a.IV.size) (fun x=>e (i_ x)),i.gr.block k c (fun x=>e (i_ x))];exact a.IV.block k c I J
 ·exact⟨g,h,((a.IF d f 5 _).IF (aD d 5 _) f 6 _).IF (aD (aD d 5 _) 6 _) f 7 _⟩
def NC(w:World)(wb lo:Nat)(W:PW)(f:PF)(e:Ending)(w':World):Prop :=∃xb M',e=.returned (.pointer (some ⟨xb,0,none⟩))/\RW w' wb M' (Pl.AR W f)/\RS M' w' xb (Pl.AV W f)/\Below lo w w'/\(∀k,k<lo->¬M' k)/\lo<=xb
theorem aFH(w:World)(wb:Nat)(M:Nat->Prop)(W:PW)(f:PF)(b m lo hi:Nat)(Q:RW w wb M W)(C:lo<=hi)(D:hi<=w.heap.size)(E:∀k,k<hi->¬M k)(J:AX false m w lo hi (.pointer (some ⟨b,0,none⟩)) f)(K:W.pairs.length+(Pl.settle f W.pairs.length).2.length<=1000000000) :Calls prog 51 #[.pointer (some ⟨wb,0,none⟩),.pointer (some ⟨b,0,none⟩)] w fun e F=>NC w wb lo W f e F:=by
 obtain⟨q,g,h,i,j,r,s,rfl,n⟩:=Q;have d:=n.blk;have c5:w.cell? ⟨wb,5,none⟩=some (AM W.out):=aA d 5;have f5:w.frozen? ⟨wb,5,none⟩=false:=aF d 5;obtain⟨l,t⟩:=n.MP [] (by simp);have G:(w.setCell ⟨wb,5,none⟩ (AM [])).heap.size=w.heap.size:=by simp [World.setCell]
 have u:=FP.start l r_;have v:AX false m (w.setCell ⟨wb,5,none⟩ (AM [])) lo hi (.pointer (some ⟨b,0,none⟩)) f:=AX.keep (nV (lo:=0) (hi:=0) d 5 _) m _ _ _ _ (.inr (Nat.zero_le _)) J;have L:Hid (Calls prog 83 #[.pointer (some ⟨wb,0,none⟩),.pointer (some ⟨b,0,none⟩)] (w.setCell ⟨wb,5,none⟩ (.string ⟨#[]⟩)) fun e F=>ED (Ahd (w.setCell ⟨wb,5,none⟩ (AM [])) lo) (w.setCell ⟨wb,5,none⟩ (AM [])) wb {W with out:=[]} q g h i j r s [] m lo hi (.pointer (some ⟨b,0,none⟩)) (Pl.settle f (W.pairs.length+0)) e F) :=mS _ lo hi wb {W with out:=[]} q g h i j r s (WQ _ lo hi wb _ q g h i j r s (fun k p e=>E k p (.inr ⟨q,by simp,e.symm⟩))) m _ [] q lo hi _ f ⟨_,⟨rfl,rfl,rfl,rfl,fun _ _=>rfl⟩,u⟩ v n_ n_ K
 have x:Hid (∀(c:World)(a:Value)(o:Obj),VF (Ahd (w.setCell ⟨wb,5,none⟩ (AM [])) lo) c wb {W with out:=[]} q g h i j r s ([]++(Pl.settle f (W.pairs.length+0)).2) a->AX true m c lo hi (.pointer (some ⟨b,0,none⟩)) (Pl.settle f (W.pairs.length+0)).1->o=.cells #[.pointer (some ⟨b,0,none⟩),.slice none 0 0,AM [],.int .i64 0,AM [],.pointer none] JL (0,0)->NC w wb lo W f (.returned (.pointer (some ⟨c.heap.size,0,none⟩))) (c.alloc o)):=fun c a o ⟨w0,y,R⟩ S T=>by
  obtain⟨U,z⟩:=R.done;have A:Below c.heap.size c (c.alloc o):=b_;have H:RW c wb (CQ wb [a,g,h,i,j]) (Pl.AR W f):=⟨a,g,h,i,j,r,s,rfl,U⟩
  have V:=z.size;have X:=y.size;have B:∀k,k<lo->c.heap[k]?=w.heap[k]? /\ ¬CQ wb [a,g,h,i,j] k:=fun k p=>by have N:=E k (by omega);obtain⟨Y,Z⟩:=z.block k (by omega) N;refine⟨Y.trans ((y.block k p).trans (Below.heap_setCell _ _ _ _ (fun e=>N (.inl (by simpa using e))))),Z⟩
  refine⟨c.heap.size,CQ wb [a,g,h,i,j],rfl,H.later A,⟨_,_,_,_,_,_,by rw [T];exact heap_alloc_new _ _,⟨m,AX.settled m _ _ _ _ (S.later A)⟩,?_,rfl⟩,⟨z.os.trans y.os,z.tape.trans y.tape,z.output.trans y.output,by simp;omega,fun k p=>(k_ (by omega)).trans (B k p).1⟩,fun k p=>(B k p).2,by omega⟩;exact⟨rfl,none,0,rfl,n_,.inl rfl⟩
 clear n d l t u v J K G E C D;go_enter func51,ntmps51;go_wp2_with fail;refine Calls.mono L ?_;rintro e c ⟨rfl,a,O,P,k3⟩;have I:Hid (∀o,o=Obj.cells #[.pointer (some ⟨b,0,none⟩),.slice none 0 0,AM [],.int .i64 0,AM [],.pointer none] JL (0,0)->NC w wb lo W f (.returned (.pointer (some ⟨c.heap.size,0,none⟩))) (c.alloc o)):=fun o=>x.out c a o O P;clear O P k3 L;go_wp2_with fail;go_ret;exact I.out _ rfl
theorem Tryz.infoLr:(prog.info? 46).map (fun i=>(i.zero,i.size,i.bytes))=some (some (.agg #[.int .i64 0,.string ⟨#[]⟩,.int .i64 0]),3,32):=by kernel_rfl
theorem aEM:u_ 46:=by unfold u_ RH;decide
abbrev Lr:=Nat×AE×Nat
def QS(x:Lr):List Value:=[.int .i64 (x.1:Int),.string ⟨x.2.1.toArray⟩,.int .i64 (x.2.2:Int)]
structure M_(w wr:World)(wb:Nat)(Mk:Nat->Prop)(ins:List (ByteArray×Int))(k:Nat):Prop where
 rw:RW wr wb Mk (Pl.AF AW ((ins.take k).map B5)).1
 below:Below w.heap.size w wr
 low:∀j,j<w.heap.size->¬Mk j
theorem M_.next{M2:Nat->Prop}{ins:List (ByteArray×Int)}{i:ByteArray×Int}(h:M_ w wr wb Mk ins k)(hi:ins[k]?=some i)(c:RW w2 wb M2 (Pl.answer (Pl.AF AW ((ins.take k).map B5)).1 (B5 i)).1)(a:Stp Mk wr M2 w2):M_ w w2 wb M2 ins (k+1) :=⟨by rw [iI hi];exact c,⟨a.os.trans h.below.os,a.tape.trans h.below.tape,a.output.trans h.below.output,t_ h.below.size a.size,fun j b=>((a.block j (l_ b h.below.size) (h.low j b)).1).trans (h.below.block j b)⟩,fun j b=>(a.block j (l_ b h.below.size) (h.low j b)).2⟩
structure L5(w wr:World)(wb xb:Nat)(Mk:Nat->Prop)(Wk:PW)(Sk:PS)(L:List Lr)(lv:Value):Prop where
 rw:RW wr wb Mk Wk
 rs:RS Mk wr xb Sk
 below:Below w.heap.size w wr
 low:∀j,j<w.heap.size->¬Mx Mk xb j
 own:wr.ownsRow w.heap.size 46 3 lv L.length (L.flatMap QS)
 nm:∀g,lv.ownBlock=some g->¬Mx Mk xb g
theorem L5.push{p:PW}{n:PS}{L:List Lr}(h:L5 w wr wb xb Mk p n L lv){w1 w3:World}{o1 o2:Obj}{g3 cap3:Nat}{x:Lr}
  (u:Below wr.heap.size wr w1) (l:w3.ownsRow w.heap.size 46 3 (.slice (some ⟨g3,0,none⟩) (L.length+1) cap3) (L.length+1) (L.flatMap QS++QS x)) (a:((w1.alloc o1).alloc o2).grownBy w3 lv.ownBlock) (c:lv.ownBlock=some g3\/g3=w1.heap.size+2) :
  L5 w w3 wb xb Mk p n (L++[x]) (.slice (some ⟨g3,0,none⟩) (L.length+1) cap3):=by
 have q:=u.size;have b:Below wr.heap.size wr ((w1.alloc o1).alloc o2):=(u.alloc q o1).alloc (by simp;omega) o2;have r:∀g,lv.ownBlock=some g->w.heap.size<=g/\g<wr.heap.size:=fun g e=>h.own.lt g e;have f:=h.rw.later b;have i:RS Mk ((w1.alloc o1).alloc o2) xb n:=h.rs.AQ h.rw (Stp.AA b)
 have d:RW w3 wb Mk p/\RS Mk w3 xb n:=by
  cases o:lv.ownBlock with
  | none =>rw [o] at a;have k:=cS a;exact⟨f.later k,i.AQ f (Stp.AA k)⟩
  | some g =>rw [o] at a;obtain⟨z,v⟩:=aN h.own g o;have m:=(b.block g (aB v)).trans v;have s:xb≠g:=fun e=>h.nm g o (.inr e.symm);refine⟨f.grown a m aEM,i.kp (eV a m aEM.2.2.2.2.2.2 (by decide) (by decide)) (a.block xb ?_ (fun e=>s (i_ e)))⟩;obtain⟨_,_,_,_,_,_,k,_⟩:=i;exact aB k
 refine⟨d.1,d.2,?_,h.low,?_,fun g e=>?_⟩
 ·have t:=h.below.size;exact((h.below.trans (b.mono t))).grown a (by have:=b.size;omega) (fun j A=>(r j A).1)
 ·rw [List.flatMap_append,a_];simpa using l
 ·obtain rfl:g3=g:=i_ e;rcases c with c | c
  ·exact h.nm _ c
  ·rintro(y | y)
   ·have:=h.rw.lt y;omega
   ·obtain⟨_,_,_,_,_,_,k,_⟩:=h.rs;have:=aB k;omega
theorem L5.step{M2:Nat->Prop}{o l:PW}{p m:PS}{L:List Lr}(h:L5 w wr wb xb Mk o p L lv)(q:RW w2 wb M2 l)(a:Stp (Mx Mk xb) wr (Mx M2 xb) w2)(r:RS M2 w2 xb m):L5 w w2 wb xb M2 l m L lv :=
 ⟨q,r,⟨a.os.trans h.below.os,a.tape.trans h.below.tape,a.output.trans h.below.output,t_ h.below.size a.size,fun j b=>(a.block j (l_ b h.below.size) (h.low j b)).1.trans (h.below.block j b)⟩,fun j b=>(a.block j (l_ b h.below.size) (h.low j b)).2,by
  refine⟨h.own.1,h.own.2.imp id ?_⟩;rintro⟨i,c,k,e,s,d,f⟩
  exact⟨i,c,k,e,s,(a.block i (aB d) (h.nm i (by rw [e];rfl))).1.trans d,f⟩,fun g n=>(a.block g (h.own.lt g n).2 (h.nm g n)).2⟩
def P7(w:World)(r:Nat×List Lr)(e:Ending)(w':World):Prop:=∃lv,e=.returned (.tuple #[lv,.int .i64 (r.1:Int)])/\Below w.heap.size w w'/\w'.ownsRow w.heap.size 46 3 lv r.2.length (r.2.flatMap QS)
theorem aEB(w:World)(v:Value)(x:ByteArray)(n:Int)(c:Nat)(g:x.size<=maxLen)(d:(Pl.over n=true/\c=6)\/(Pl.over n=false/\Pl.check x.data.toList=c/\c≠0)) :Calls prog 24 #[v,.string x,.int .i64 n] w fun e a=>P7 w (c,[]) e a:=by
 rcases d with⟨b,rfl⟩ | ⟨b,d,j⟩
 ·have h:Hid (Calls prog 50 #[.int .i64 n] w fun e a=>e=.returned (.bool true)/\w=a):=by rw [<- b];exact t7 n w
  clear b g;go_enter func24,ntmps24;go_wp2_with (go_at_call 50;refine Calls.mono h ?_;rintro e a ⟨rfl,rfl⟩);go_ret2;exact⟨_,rfl,r_,World.ownsRow_nil _ _ _ _⟩
 ·have h:Hid (Calls prog 50 #[.int .i64 n] w fun e a=>e=.returned (.bool false)/\w=a):=by rw [<- b];exact t7 n w
  have k:Hid (Calls prog 43 #[.string x] w fun e a=>∃f,e=.returned (.tuple #[.pointer f,.int .i64 (c:Int)])/\Hid (Below w.heap.size w a)):=(aEI x w g).mono (fun e a ⟨f,l,m,_⟩=>⟨f,by rw [l,d],m⟩);have o:((c:Int)==0)=false:=by simpa using j
  clear b g d;go_enter func24,ntmps24
  go_wp2_with (first
   | (go_at_call 50;refine Calls.mono h ?_;rintro e a ⟨rfl,rfl⟩)
   | (go_at_call 43;refine Calls.mono k ?_;rintro e p ⟨f,rfl,i⟩))
  go_ret2;exact⟨_,rfl,i,World.ownsRow_nil _ _ _ _⟩
structure RtO(w w2 wr:World)(wb b:Nat)(Mk:Nat->Prop)(W:PW)(f:PF):Prop where
 rw:RW wr wb Mk W
 below:Below w.heap.size w wr
 up:w.heap.size<=w2.heap.size/\w2.heap.size<=wr.heap.size
 low:∀j,j<w2.heap.size->¬Mk j
 fm:∃m,AX false m wr w.heap.size w2.heap.size (.pointer (some ⟨b,0,none⟩)) f
theorem M_.out{ins:List (ByteArray×Int)}{f:PF}(h:M_ w2 wr wb Mk ins ins.length)(a:Below w.heap.size w w2)(d:AX false m w2 w.heap.size w2.heap.size (.pointer (some ⟨b,0,none⟩)) f):RtO w w2 wr wb b Mk (Pl.AF AW (ins.map B5)).1 f:=by have c:=h.rw;rw [List.take_length] at c;exact⟨c,a.trans (h.below.mono a.size),⟨a.size,h.below.size⟩,h.low,m,d.later h.below⟩
structure RtJ(w wr:World)(wb xb n:Nat)(Tr:List Lr)(Mk:Nat->Prop)(Wk:PW)(Sk:PS)(L:List Lr)(lv:Value):Prop where
 p:L5 w wr wb xb Mk Wk Sk L lv
 len:L.length<=n
 inv:QC (n-L.length) Wk Sk
 eq:Tr=L++Pl.trace (n-L.length) Wk Sk
theorem aFG{w3:World}{lo:Nat}{M3:Nat->Prop}{W:PW}{f:PF}(a:lo=w.heap.size)(b:Below w.heap.size w wr)(c:RW w3 wb M3 (Pl.AR W f))(d:RS M3 w3 xb (Pl.AV W f))(e:Below lo wr w3)(h:∀k,k<lo->¬M3 k)(o:lo<=xb)(i:QC n (Pl.AR W f) (Pl.AV W f)):RtJ w w3 wb xb n (Pl.trace n (Pl.AR W f) (Pl.AV W f)) M3 (Pl.AR W f) (Pl.AV W f) [] (.slice none 0 0):=by subst a;exact⟨⟨c,d,b.trans e,fun j l=>by rintro(x | x);exact h j l x;omega,World.ownsRow_nil _ _ _ _,fun g m=>by cases m⟩,Nat.zero_le _,i,rfl⟩
structure RtG(w:World):Prop where
 DI:8<=w.heap.size
 B3:Lib.TabIs prog w oS .u64 Lib.pow10Tab
theorem L5.gs{c:PW}{d:PS}{L:List Lr}(h:L5 w wr wb xb Mk c d L lv)(a:RtG w):Gs wr (Mx Mk xb):=⟨t_ a.DI h.below.size,fun j b=>h.low j (l_ b a.DI),iH (fun j b=>h.below.block j (l_ b a.DI)) a.B3⟩
theorem RtJ.line{d:List Lr}{a:PW}{b:PS}{L:List Lr}(f:AY)(g:RtG w)(h:RtJ w wr wb xb n d Mk a b L lv)(o:n-L.length=m+1):Calls prog 52 #[.pointer (some ⟨wb,0,none⟩),.pointer (some ⟨xb,0,none⟩)] wr fun e i=>e=.returned (.agg #[.int .i64 ((Pl.line a b).1:Int),.string ⟨(Pl.line a b).2.1.toArray⟩,.int .i64 ((Pl.line a b).2.2:Int)])/\Below wr.heap.size wr i:=by obtain⟨t,p,j,c⟩:=h.inv;exact WZ f wr wb xb Mk a b h.p.rw ((h.p.gs g).mono (fun k l=>.inl l)) h.p.rs (WB j c (by omega)).P c.form c.val
theorem L5.next{b:PW}{a:PS}{L:List Lr}(p:AY)(q:RtG w)(h:L5 w wr wb xb Mk b a L lv)(r:QC n b a)(s:a.ended=false):Calls prog 54 #[.pointer (some ⟨wb,0,none⟩),.pointer (some ⟨xb,0,none⟩)] wr fun e i=>e=.returned (.int .i64 ((Pl.step b a).e:Int))/\∃k,Hid (Below w.heap.size w i/\i.ownsRow w.heap.size 46 3 lv L.length (L.flatMap QS)/\((Pl.step b a).e=0->L5 w i wb xb k (Pl.step b a).W (Pl.step b a).S L lv)):=by obtain⟨t,D,u,v⟩:=r;refine(xT p wr wb xb Mk b a s h.rw h.rs (h.gs q) (WB u v (by omega))).mono (fun e i x=>?_);obtain⟨y,k,z,c,A⟩:=x;refine⟨y,k,⟨c.os.trans h.below.os,c.tape.trans h.below.tape,c.output.trans h.below.output,t_ h.below.size c.size,fun j l=>(c.block j (l_ l h.below.size) (h.low j l)).1.trans (h.below.block j l)⟩,?_,fun B=>h.step z c (A B)⟩;refine⟨h.own.1,h.own.2.imp id ?_⟩;rintro⟨m,d,o,e,C,f,g⟩;exact⟨m,d,o,e,C,(c.block m (aB f) (h.nm m (by rw [e];rfl))).1.trans f,g⟩
theorem T_{W:PW}{S:PS}:Pl.trace (m+1) W S=Pl.line W S::(if S.ended then [] else if(Pl.step W S).e=0 then Pl.trace m (Pl.step W S).W (Pl.step W S).S else []):=rfl
theorem aFJ{W:PW}{S:PS}(h:QC (n+1) W S)(a:S.ended=false)(e:(Pl.step W S).e=0):QC n (Pl.step W S).W (Pl.step W S).S:=(s7 n W S h a).2.2 e
theorem aEY{base:Nat}(h:w.ownsRow base T sz v n xs):∃d a,v=.slice d n a/\n<=a/\(d=none->n=0):=by
 rcases h.2 with⟨c,f⟩ | ⟨g,a,i,c,_,j,b,_⟩
 ·exact⟨none,0,by rw [c,f],by omega,fun _=>f⟩
 ·exact⟨some ⟨g,0,none⟩,a,c,b,fun e=>by cases e⟩
def slLr:Value->Nat
 | .slice _ n _=>n
 | _=>0
theorem aEX{b:AE}(a:Pl.check b=0):∃f,Pl.BQ b=some f:=by
 unfold Pl.check at a;unfold Pl.BQ;split at a
 ·cases a
 cases c:Pl.BX b with
 | none=>rw [c] at a;cases a
 | some l =>
  rw [c] at a;dsimp only at a ⊢;split at a
  ·cases a
  cases d:Pl.pd l.length l with
  | none=>rw [d] at a;cases a
  | some p =>
   rw [d] at a;dsimp only at a ⊢;split at a
   ·cases a
   split at a
   ·cases a
   split at a
   ·cases a
   split at a
   ·rename_i h;rw [<- kN,Option.isSome_iff_exists] at h;exact h
   ·cases a
theorem aEW(hI:AY)(w:World)(v:Value)(ins:List (ByteArray×Int))(x:ByteArray)(n:Nat)(hS:F8 w v ins)(hl:ins.length<=61)(ag:∀i∈ins,UA (B5 i)/\i.1.size<=maxLen)(S:x.size<=maxLen)(hn:n<=3000)(hc:Pl.check x.data.toList=0)(f:PF)(hf:Pl.BQ x.data.toList=some f)(hg:RtG w) :Calls prog 24 #[v,.string x,.int .i64 (n:Int)] w fun e C=>P7 w (0,Pl.trace n (Pl.AR (Pl.AF AW (ins.map B5)).1 f) (Pl.AV (Pl.AF AW (ins.map B5)).1 f)) e C:=by
 obtain⟨i0,ah,ai,aj,ak⟩:=info_parts Tryz.infoLr;have HI:Hid AY:=hI;have aq:=h_ ag;have HT:=h_ hg;obtain⟨ao,I,rfl,ar,T⟩:=hS;have HC:=h_ T;have O:∀k,k<=ins.length->WW (Pl.AF AW ((ins.take k).map B5)).1 (13+931000*k):=fun k hk=>by have:=kR ((ins.take k).map B5) AW 13 931000 rfl vP (fun j hj=>by obtain⟨y,hy,rfl⟩:=List.mem_map.1 hj;exact(ag y (List.mem_of_mem_take hy)).1) (by rw [List.length_map,List.length_take];omega);rw [List.length_map,List.length_take,Nat.min_eq_left hk] at this;exact this
 have au:=h_ O
 have HO:Hid (Calls prog 50 #[.int .i64 (n:Int)] w fun e C=>e=.returned (.bool false)/\w=C):=by
  have ho:Pl.over (n:Int)=false:=by unfold Pl.over;simp;omega
  rw [<- ho];exact t7 n w
 have HR:Hid (Calls prog 43 #[.string x] w fun e C=>∃b,e=.returned (.tuple #[.pointer (some ⟨b,0,none⟩),.int .i64 0])/\Hid (Below w.heap.size w C/\∃m,AX false m C w.heap.size C.heap.size (.pointer (some ⟨b,0,none⟩)) f)):=(aEI x w S).mono (fun e C ⟨po,k1,k2,k3⟩=>by
  obtain⟨f',b,m,q1,rfl,q3⟩:=k3 hc;obtain rfl:f=f':=by rw [hf] at q1;exact i_ q1
  exact⟨b,by rw [k1,hc];rfl,k2,m,q3⟩)
 have av:=(show Hid (∀A wr wb b M,RtO w A wr wb b M (Pl.AF AW (ins.map B5)).1 f->Calls prog 51 #[.pointer (some ⟨wb,0,none⟩),.pointer (some ⟨b,0,none⟩)] wr fun e C=>∃N M3,e=.returned (.pointer (some ⟨N,0,none⟩))/\Hid (RtJ w C wb N n (Pl.trace n (Pl.AR (Pl.AF AW (ins.map B5)).1 f) (Pl.AV (Pl.AF AW (ins.map B5)).1 f)) M3 (Pl.AR (Pl.AF AW (ins.map B5)).1 f) (Pl.AV (Pl.AF AW (ins.map B5)).1 f) [] (.slice none 0 0))) from fun A wr wb b M h=>by
  have aa:=O ins.length n_;rw [List.take_length] at aa;obtain⟨f1,f2⟩:=lN hc hf;obtain⟨b1,b2⟩:=rI f1 f2 aa;have bj:=(mQ f1 f2.1 f2.2 _ _ aa).2;have bk:=aa.EX;obtain⟨m,hU⟩:=h.fm;refine(aFH wr wb M _ f b m w.heap.size A.heap.size h.rw h.up.1 h.up.2 h.low hU (by have:=f2.1;omega)).mono (fun e C hh=>?_);obtain⟨N,M3,k1,k2,k3,k4,k5,k6⟩:=hh
  exact⟨N,M3,k1,aFG rfl h.below k2 k3 k4 k5 k6 ⟨_,by omega,b1,b2⟩⟩)
 clear hI ag hg T O S hc hf;generalize bf:Pl.trace n (Pl.AR (Pl.AF AW (ins.map B5)).1 f) (Pl.AV (Pl.AF AW (ins.map B5)).1 f)=Tr at *;clear bf;go_enter func24,ntmps24
 go_wp2_with (first
  | (go_at_call 50;refine Calls.mono HO ?_;rintro e C ⟨rfl,rfl⟩)
  | (go_at_call 43;refine Calls.mono HR ?_;rintro e A ⟨b,rfl,U⟩)
  | (go_at_call 46;refine(m0 A).mono ?_;rintro e w3 ⟨rfl,aw,M3,ax,ay⟩;have bg:Hid (M_ A w3 A.heap.size M3 ins 0):=show M_ _ _ _ _ _ _ from⟨ax,aw,ay⟩;clear aw ax ay))
 go_loopw [12] (fun i wr=>∃(k:Nat)(M:Nat->Prop),k<=ins.length/\i=.int .i64 (k:Int)/\Hid (M_ A wr A.heap.size M ins k)) (fun i _=>ins.length-(intOf i).toNat)
 case atStart=>exact⟨0,M3,Nat.zero_le _,rfl,bg⟩
 case round =>
  obtain⟨k,M,hk,rfl,HS⟩:=hrel;by_cases az:k<ins.length
  ·obtain⟨i,hi⟩:∃i,ins[k]?=some i:=⟨ins[k],g_ az⟩
   obtain⟨g,rfl,hg,ba,bb⟩:=HC.out k i hi;have V:Below w.heap.size w wr:=U.1.trans (HS.below.mono U.1.size);have c0:wr.cell? ⟨g,k*2,none⟩=some (.string i.1):=(V.cell (p:=⟨g,k*2,none⟩) hg).trans ba;have D:wr.cell? ⟨g,k*2+1,none⟩=some (.int .i64 i.2):=(V.cell (p:=⟨g,k*2+1,none⟩) hg).trans bb;have HX:=h_ hi;obtain⟨q1,q2⟩:=aq.out i (q_ hi);have O:=au.out k hk;obtain⟨E,a2,_⟩:=U7 (i:=B5 i) O (by omega) q1;have bc:=U.1.size;have HA:=(show Hid (Calls prog 47 #[.pointer (some ⟨A.heap.size,0,none⟩),.agg #[.string i.1,.int .i64 i.2]] wr fun e C=>Q3 wr A.heap.size M (Pl.answer (Pl.AF AW ((ins.take k).map B5)).1 (B5 i)) e C) from t8 HI wr A.heap.size M _ i.1 i.2 q2 HS.rw ⟨t_ HT.DI V.size,fun j hj=>HS.low j (l_ hj (t_ HT.DI bc)),iH (fun j hj=>V.block j (l_ hj HT.DI)) HT.B3⟩ (by have:=O.EX;omega) E a2)
   have ae:(k:Int)<(ins.length:Int):=by omega
   obtain⟨s,z⟩:=i;dsimp only at c0 D HA;clear O E a2 q1 q2 hi ba bb bc V;go_wp2_with fail;refine Calls.mono HA ?_;rintro e F ⟨rfl,Z,k1,k2⟩;have HN:=h_ (HS.next HX k1 k2);clear k1 k2 HA HS c0 D;unfold oH;go_wp2_with fail
   go_roundw
   case rel=>exact⟨k+1,Z,by omega,by go_num,HN⟩
   case measure=>simp [intOf];omega
  ·obtain rfl:k=ins.length:=by omega
   obtain⟨mU,hU⟩:=U.2;have bd:=h_ (HS.out.out U.1 hU);clear HS hU HC au aq;generalize Pl.AF AW (ins.map B5)=be at *;go_wp2_with (go_at_call 51;refine Calls.mono (av _ _ _ _ _ bd) ?_;rintro e l ⟨N,M5,rfl,bh⟩);generalize Pl.AR be.1 f=W5 at *;generalize Pl.AV be.1 f=S5 at *;clear bd av
   go_loopw [10,14,15,16] (fun _ lv _ _ wr=>∃(L:List Lr)(M:Nat->Prop)(G:PW)(r:PS),Hid (RtJ w wr A.heap.size N n Tr M G r L lv)) (fun _ lv _ _ _=>n-slLr lv)
   case atStart=>exact⟨[],M5,W5,S5,bh⟩
   case round =>
    obtain⟨L,M,G,r,Q⟩:=hrel;obtain⟨ao,I,rfl,ar,_⟩:=aEY Q.p.own;have bl:=Q.len;by_cases az:L.length<n
    ·obtain⟨m,hm⟩:∃m,n-L.length=m+1:=⟨n-L.length-1,by omega⟩
     have al:=Q.inv;have ab:=Q.eq;rw [hm] at al ab;rw [T_] at ab;have ae:(L.length:Int)<(n:Int):=by omega
     have ac:=h_ (Q.line HI HT hm);have am:=(show Hid (∀w1,Below wr.heap.size wr w1->w1.ownsRow w.heap.size 46 3 (.slice ao L.length I) L.length (L.flatMap QS)) from fun w1 hB=>Q.p.own.kept (aQ none hB) (by cases hv:Value.ownBlock (Value.slice ao L.length I)<;>simp))
     have an:=h_ Q.p.below.size;have W:Hid (∀(F l:World)(o1 o2:Obj)(X o:Nat),Below wr.heap.size wr F->l.ownsRow w.heap.size 46 3 (.slice (some ⟨X,0,none⟩) (L.length+1) o) (L.length+1) (L.flatMap QS++QS (Pl.line G r))->((F.alloc o1).alloc o2).grownBy l (Value.slice ao L.length I).ownBlock->((Value.slice ao L.length I).ownBlock=some X\/X=F.heap.size+2)->L5 w l A.heap.size N M G r (L++[Pl.line G r]) (.slice (some ⟨X,0,none⟩) (L.length+1) o)):=fun F l o1 o2 X o hB h1 h2 h3=>Q.p.push hB h1 h2 h3;have R:=h_ ab;have Y:=h_ al;clear al ab Q;unfold QS at W;generalize Pl.line G r=x1 at *;obtain⟨E,J,D⟩:=x1;dsimp only at ac W;have P:Hid (∀c l,L5 w l A.heap.size N M G r (L++[(E,J,D)]) c->Calls prog 53 #[.pointer (some ⟨N,0,none⟩)] l fun e C=>e=.returned (.bool r.ended)/\l=C):=fun c l h=>uD M l N r h.rs
     cases B:r.ended with
     | true =>
      rw [B] at P;have HE:=P
      have H:=(show Hid (∀c l,L5 w l A.heap.size N M G r (L++[(E,J,D)]) c->Below w.heap.size w l/\l.ownsRow w.heap.size 46 3 c Tr.length (Tr.flatMap QS)) from fun c l h=>by
       have e:=R.out;rw [B] at e;refine⟨h.below,?_⟩;rw [e]
       exact h.own)
      clear R Y B P
      go_wp2_with (first
       | (go_at_call 52;refine Calls.mono ac ?_;rintro e F ⟨rfl,u⟩)
       | (at_builtin;refine wpList_append_lies _ rfl _ _ 33 rfl w.heap.size 46 i0 (.agg #[.int .i64 0,.string ⟨#[]⟩,.int .i64 0]) 3 32 underlying33 ah ai aj ak rfl (by decide) (.slice ao L.length I) L.length _ rfl (((am _ u).alloc _).alloc _) ⟨F.heap.size+1,0,none⟩ 1 1 [.int .i64 (E:Int),.string ⟨J.toArray⟩,.int .i64 (D:Int)] rfl rfl (World.news_of_block (cs:=#[.int .i64 (E:Int),.string ⟨J.toArray⟩,.int .i64 (D:Int)]) (t:=46) (fr:=(0,0)) (kM F _ _)) (fun x S=>by simp at S;rcases S with rfl | rfl | rfl<;>rfl) (by decide) (by unfold maxLen;omega) (by omega) (by have:=u.size;have:=an.out;simp;omega) (F.heap.size+2) (by simp) ?_;intro X o l d a q _;have K:=(show Hid (L5 _ _ _ _ _ _ _ _ _) from W.out F l _ _ X o u d a q);clear d a q)
       | (go_at_call 53;refine Calls.mono (HE _ _ K) ?_;rintro e w6 ⟨rfl,rfl⟩)
       | fail)
      go_ret2;exact⟨_,rfl,H _ _ K⟩
     | false =>
      rw [B] at P;have HE:=P;have ap:Hid (∀c l,L5 w l A.heap.size N M G r (L++[(E,J,D)]) c->Calls prog 54 #[.pointer (some ⟨A.heap.size,0,none⟩),.pointer (some ⟨N,0,none⟩)] l fun e C=>e=.returned (.int .i64 ((Pl.step G r).e:Int))/\∃Z,Hid (Below w.heap.size w C/\C.ownsRow w.heap.size 46 3 c (L++[(E,J,D)]).length ((L++[(E,J,D)]).flatMap QS)/\((Pl.step G r).e=0->L5 w C A.heap.size N Z (Pl.step G r).W (Pl.step G r).S (L++[(E,J,D)]) c))):=fun c l h=>h.next HI HT Y B;by_cases he:(Pl.step G r).e=0
      ·have bi:=(show Hid (∀c l Z,L5 w l A.heap.size N Z (Pl.step G r).W (Pl.step G r).S (L++[(E,J,D)]) c->RtJ w l A.heap.size N n Tr Z (Pl.step G r).W (Pl.step G r).S (L++[(E,J,D)]) c) from fun c l Z h=>by
        have el:(L++[(E,J,D)]).length=L.length+1:=by simp
        have em:n-(L.length+1)=m:=by omega
        refine⟨h,by omega,by rw [el,em];exact aFJ Y B he,?_⟩;have e:=R.out;rw [B,if_neg (by simp),if_pos he] at e;rw [el,em,e]
        simp)
       have HZ:=h_ he;rw [he] at ap;clear R Y B he P
       go_wp2_with (first
        | (go_at_call 52;refine Calls.mono ac ?_;rintro e F ⟨rfl,u⟩)
        | (at_builtin;refine wpList_append_lies _ rfl _ _ 33 rfl w.heap.size 46 i0 (.agg #[.int .i64 0,.string ⟨#[]⟩,.int .i64 0]) 3 32 underlying33 ah ai aj ak rfl (by decide) (.slice ao L.length I) L.length _ rfl (((am _ u).alloc _).alloc _) ⟨F.heap.size+1,0,none⟩ 1 1 [.int .i64 (E:Int),.string ⟨J.toArray⟩,.int .i64 (D:Int)] rfl rfl (World.news_of_block (cs:=#[.int .i64 (E:Int),.string ⟨J.toArray⟩,.int .i64 (D:Int)]) (t:=46) (fr:=(0,0)) (kM F _ _)) (fun x S=>by simp at S;rcases S with rfl | rfl | rfl<;>rfl) (by decide) (by unfold maxLen;omega) (by omega) (by have:=u.size;have:=an.out;simp;omega) (F.heap.size+2) (by simp) ?_;intro X o l d a q _;have K:=(show Hid (L5 _ _ _ _ _ _ _ _ _) from W.out F l _ _ X o u d a q);clear d a q)
        | (go_at_call 53;refine Calls.mono (HE _ _ K) ?_;rintro e w6 ⟨rfl,rfl⟩)
        | (go_at_call 54;refine Calls.mono (ap _ _ K) ?_;rintro e w6 ⟨rfl,Z,ad⟩))
       go_roundw
       case rel=>exact⟨_,Z,_,_,bi _ _ _ (ad.2.2 (by first | exact rfl | trivial))⟩
       case measure=>simp only [slLr];omega
      ·have bm:(((Pl.step G r).e:Int)==0)=false:=by simpa using he
       have H:=(show Hid (∀c (w6:World),w6.ownsRow w.heap.size 46 3 c (L++[(E,J,D)]).length ((L++[(E,J,D)]).flatMap QS)->w6.ownsRow w.heap.size 46 3 c Tr.length (Tr.flatMap QS)) from fun c w6 h=>by
        have e:=R.out;rw [B,if_neg (by simp),if_neg he] at e;rw [e]
        exact h)
       clear R Y B he P;generalize (Pl.step G r).e=ec at *
       go_wp2_with (first
        | (go_at_call 52;refine Calls.mono ac ?_;rintro e F ⟨rfl,u⟩)
        | (at_builtin;refine wpList_append_lies _ rfl _ _ 33 rfl w.heap.size 46 i0 (.agg #[.int .i64 0,.string ⟨#[]⟩,.int .i64 0]) 3 32 underlying33 ah ai aj ak rfl (by decide) (.slice ao L.length I) L.length _ rfl (((am _ u).alloc _).alloc _) ⟨F.heap.size+1,0,none⟩ 1 1 [.int .i64 (E:Int),.string ⟨J.toArray⟩,.int .i64 (D:Int)] rfl rfl (World.news_of_block (cs:=#[.int .i64 (E:Int),.string ⟨J.toArray⟩,.int .i64 (D:Int)]) (t:=46) (fr:=(0,0)) (kM F _ _)) (fun x S=>by simp at S;rcases S with rfl | rfl | rfl<;>rfl) (by decide) (by unfold maxLen;omega) (by omega) (by have:=u.size;have:=an.out;simp;omega) (F.heap.size+2) (by simp) ?_;intro X o l d a q _;have K:=(show Hid (L5 _ _ _ _ _ _ _ _ _) from W.out F l _ _ X o u d a q);clear d a q)
        | (go_at_call 53;refine Calls.mono (HE _ _ K) ?_;rintro e w6 ⟨rfl,rfl⟩)
        | (go_at_call 54;refine Calls.mono (ap _ _ K) ?_;rintro e w6 ⟨rfl,Z,ad⟩))
       go_ret2;exact⟨_,rfl,ad.1,H _ _ ad.2.1⟩
    ·have af:L.length=n:=by omega
     have ae:¬((L.length:Int)<(n:Int)):=by omega
     have H:Hid (Below w.heap.size w wr/\wr.ownsRow w.heap.size 46 3 (.slice ao n I) Tr.length (Tr.flatMap QS)):=by
      refine⟨Q.p.below,?_⟩;have e:=Q.eq;rw [af,Nat.sub_self] at e;have e2:Tr=L:=by rw [e];show L++[]=L;rw [List.append_nil]
      rw [e2,<-af];exact Q.p.own
     clear Q;go_wp2_with fail;go_ret2;exact⟨_,rfl,H.1,H.2⟩
theorem aFW(l:AY)(w:World)(v:Value)(ins:List (ByteArray×Int))(x:ByteArray)(n:Int)(m:F8 w v ins)(o:ins.length<=61)(g:∀i∈ins,UA (B5 i)/\i.1.size<=maxLen)(h:x.size<=maxLen)(d:Pl.over n=true\/n<=3000)(p:RtG w) :Calls prog 24 #[v,.string x,.int .i64 n] w fun e q=>P7 w (Pl.BG (Pl.AF AW (ins.map B5)).1 x.data.toList n) e q:=by
 by_cases b:Pl.over n=true
 ·have e:Pl.BG (Pl.AF AW (ins.map B5)).1 x.data.toList n=(6,[]):=by unfold Pl.BG;rw [if_pos b]
  rw [e];exact aEB w v x n 6 h (.inl ⟨b,rfl⟩)
 have a:Pl.over n=false:=by simpa using b
 by_cases c:Pl.check x.data.toList=0
 ·have r:0<=n:=by unfold Pl.over at a;simp at a;omega
  obtain⟨k,rfl⟩:∃k:Nat,n=(k:Int):=⟨n.toNat,by omega⟩
  obtain⟨f,j⟩:∃f,Pl.BQ x.data.toList=some f:=aEX c;have e:Pl.BG (Pl.AF AW (ins.map B5)).1 x.data.toList (k:Int)=(0,Pl.trace k (Pl.AR (Pl.AF AW (ins.map B5)).1 f) (Pl.AV (Pl.AF AW (ins.map B5)).1 f)):=by unfold Pl.BG;rw [if_neg b,if_neg (by simp [c]),j];rfl
  rw [e];exact aEW l w v ins x k m o g h (by rcases d with d | d;exact absurd d b;omega) c f j p
 ·have e:Pl.BG (Pl.AF AW (ins.map B5)).1 x.data.toList n=(Pl.check x.data.toList,[]):=by unfold Pl.BG;rw [if_neg b,if_pos c]
  rw [e];exact aEB w v x n _ h (.inr ⟨a,rfl,c⟩)
end
end Go.Proofs.YtkgbdddkcjpgfaaGreatDoor
