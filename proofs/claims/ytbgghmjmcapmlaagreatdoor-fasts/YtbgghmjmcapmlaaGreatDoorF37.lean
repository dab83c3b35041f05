/- For every script stepperlaw.Fasts returns true (the fast engine's answers fit the document: what ends within its fuel is answered as the document says, what does not is not, and in between either way) and what was handed in reads as it did: the tied card. Conditions: the package-level variables start as the program's text lays them (tied by the given tie); the card's own looks. -/
import Derived.Test.YtbgghmjmcapmlaaGreatDoorF36
import Derived.Test.YtbgghmjmcapmlaaGreatDoorF26
import Derived.Test.YtbgghmjmcapmlaaGreatDoorTie
import Derived.Test.YtbgghmjmcapmlaaGreatDoorCards
import Derived.SevenTiedAt
namespace Go.Proofs.YtbgghmjmcapmlaaGreatDoor
set_option maxHeartbeats 4000000
set_option maxRecDepth 100000
open Pl (PV PW PS PF AE B0 AH A8)
theorem zL4{P:Prop}(h:P:=by
 go_wp2_with fail
 go_roundw
 case rel=>exact⟨k+1,aa,x8,rfl,k7,HN⟩
 case measure=>simp [intOf];omega):P:=h
section
open Go.RowKit
variable {t:Nat}
theorem x_prim1(W:PW)(S:PS)(s:AE)(a:PV):∃t,(B0 W S s a).W.out=W.out++t:=by
 unfold B0;split
 ·dsimp only;split
  ·exact⟨_,rfl⟩
  ·exact⟨[],w9⟩
 ·split
  ·split
   ·split<;>exact⟨[],w9⟩
   ·exact⟨[],w9⟩
  ·split<;>exact⟨[],w9⟩
theorem x_applyB(W:PW)(S:PS)(f:PV)(args:List PV):∃t,(AH W S f args).W.out=W.out++t:=by
 unfold AH;split
 ·split
  ·split<;>exact⟨[],w9⟩
  ·exact⟨[],w9⟩
 ·split<;>exact⟨[],w9⟩
 ·split
  ·exact⟨[],w9⟩
  ·split
   ·exact x_prim1 W S _ _
   ·exact⟨[],by rw [XU,List.append_nil]⟩
   ·exact⟨[],w9⟩
 ·exact⟨[],w9⟩
theorem x_apply(W:PW)(S:PS)(f:PV)(args:List PV):∃t,(Pl.apply W S f args).W.out=W.out++t:=by
 unfold Pl.apply;split
 ·split
  ·dsimp only;split
   ·exact x_applyB ((W.keep S).keep S) _ _ _
   ·exact x_applyB (W.keep S) _ _ _
  ·exact⟨[],w9⟩
 ·exact x_applyB W S f args
theorem x_taken(W:PW)(S:PS):∃t,(Pl.taken W S).W.out=W.out++t:=by
 unfold Pl.taken;split
 ·exact⟨[],w9⟩
 ·dsimp only;split
  ·exact⟨[],w9⟩
  ·split<;>exact⟨[],w9⟩
  ·exact⟨[],by rw [o_bind,List.append_nil]⟩
  ·exact⟨[],w9⟩
  ·split
   ·split
    ·exact⟨[],w9⟩
    ·exact x_apply _ _ _ _
   ·exact⟨[],w9⟩
theorem x_step(W:PW)(S:PS):∃t,(Pl.step W S).W.out=W.out++t:=by
 unfold Pl.step;split
 ·exact x_taken W S
 ·split
  ·exact⟨[],w9⟩
  ·split<;>exact⟨[],w9⟩
  ·exact⟨[],w9⟩
  ·exact⟨[],w9⟩
  ·exact⟨[],w9⟩
theorem x_goOn:∀(k:Nat)(W:PW)(S:PS),∃t,(A8 k W S).W.out=W.out++t
 | 0,W,S=>by unfold A8;split<;>exact⟨[],w9⟩
 | k+1,W,S=>by
  unfold A8;split
  ·exact⟨[],w9⟩
  ·dsimp only;obtain⟨t,a⟩:=x_step W S;split
   ·obtain⟨u,b⟩:=x_goOn k (Pl.step W S).W (Pl.step W S).S;exact⟨t++u,by rw [b,a,List.append_assoc]⟩
   ·exact⟨t,a⟩
def aOA(i:AE×Int):Prop:=Pl.over i.2=true\/i.2<=200\/i.1=[55]
theorem aOD:∀(n:Nat)(W:PW)(S:PS)(t:Nat),WW W t->SW W S t->(A8 n W S).e=7->SW (A8 n W S).W (A8 n W S).S (t+310*n)
 | 0,W,S,t,d,a,h=>by
  unfold A8 at h ⊢;split at h
  ·cases h
  ·rename_i b;rw [if_neg b];exact a
 | n+1,W,S,t,d,a,h=>by
  unfold A8 at h ⊢;split at h
  ·cases h
  ·rename_i b;rw [if_neg b];have c:=jQ d a;dsimp only at h ⊢;split at h
   ·rename_i e;rw [if_pos e];have:=aOD n _ _ (t+310) c.2.1 (c.2.2 e) h;exact this.le (Le.refl _) x8
   ·exact absurd h c.1
theorem fit_aux{a b:Nat}(f:t+66000000<=100000000)(c:a<=62000)(d:b<=61938000):t+1000+a+(b+3100000)<=100000000:=by
 have e:t<=34000000:=by omega
 exact t_ (Nat.add_le_add (Nat.add_le_add (Nat.add_le_add e (Nat.le_refl 1000)) c) (Nat.add_le_add d (Nat.le_refl 3100000))) w8
theorem fit_num{q:Nat}(b:t+66000000<=100000000)(a:q<=200):t+1000+310*q+310*(999*q+10000)<=100000000:=by
 have c:310*(999*q+10000)=309690*q+3100000:=by rw [Nat.mul_add,<-Nat.mul_assoc]
 have d:310*q<=62000:=Nat.mul_le_mul_left 310 a;have e:309690*q<=61938000:=Nat.mul_le_mul_left 309690 a;rw [c];exact fit_aux b d e
theorem fit_go{W:PW}{i:AE×Int}(q:WW W t)(v:t+66000000<=100000000)(hi:aOA i)(f:PF)(r:Pl.over i.2=false)(w:Pl.check i.1=0)(l:Pl.BQ i.1=some f) :VK i.2.toNat (Pl.AR W f) (Pl.AV W f)/\WW (A8 i.2.toNat (Pl.AR W f) (Pl.AV W f)).W (t+63000)/\(Pl.settle f W.pairs.length).2.length<=1000/\((A8 i.2.toNat (Pl.AR W f) (Pl.AV W f)).e=7->i.2.toNat<=200/\VK (999*i.2.toNat+10000) (A8 i.2.toNat (Pl.AR W f) (Pl.AV W f)).W (A8 i.2.toNat (Pl.AR W f) (Pl.AV W f)).S):=by
 obtain⟨s,c⟩:=lN w l;obtain⟨d,k⟩:=rI s c q;have g:=(mQ s c.1 c.2 W t q).2;by_cases B:i.2<=200
 ·have u:i.2.toNat<=200:=by omega
  have x:=mA i.2.toNat _ _ (t+1000) d k;have j:=x.2.1;have n:=fit_num v u;have y:t+1000+310*i.2.toNat<=t+63000:=by omega
  refine⟨aOE d k x8,?_,t_ g c.1,fun o=>⟨u,?_⟩⟩
  ·exact j.later y
  have p:=aOD i.2.toNat _ _ (t+1000) d k o;exact aOE j p n
 ·have o:i.1=[55]:=by
   rcases hi with h | h | h
   ·rw [h] at r;cases r
   ·omega
   ·exact h
  obtain⟨m,z⟩:∃m,i.2.toNat=m+1:=⟨i.2.toNat-1,x8⟩
  have A:f.k=.const:=by rw [o] at l;have:=iT;rw [l] at this;simpa using this
  have a:(Pl.AV W f).form=some (Pl.settle f W.pairs.length).1:=rfl;have b:(Pl.settle f W.pairs.length).1.k=.const:=(p8 f _).trans A;rw [z];refine⟨tE d k x8 rfl a b,?_,t_ g c.1,fun e=>?_⟩
  ·rw [kW rfl a b];exact d.later x8
  ·rw [kW rfl a b] at e
   cases e
theorem aOW{X:PW×Bool}{i:AE×Int}(a:WW X.1 t)(b:t+66000000<=100000000)(hi:aOA i):WW (Pl.fans X i).1.1 (t+63000):=by
 unfold Pl.fans;split
 ·exact a.later x8
 ·show WW (Pl.answer X.1 i).1 _;unfold Pl.answer;split
  ·exact a.later x8
  ·rename_i c;split
   ·exact a.later x8
   ·rename_i d;split
    ·exact a.later x8
    ·rename_i f e;exact(fit_go a b hi f zP8 zR0 e).2.1
theorem aOG(l:List (AE×Int)):∀(X:PW×Bool)(t:Nat),WW X.1 t->(∀i∈l,aOA i)->t+63000*l.length+66000000<=100000000->WW (Pl.fses X l).1.1 (t+63000*l.length):=by
 induction l with
 | nil=>exact fun X t a _ _=>a
 | cons i r c =>intro X t a b d;rw [c_,Nat.mul_succ] at d;have h:=aOW (X:=X) a x8 (b i w9);have:=c (Pl.fans X i).1 (t+63000) h (fun j e=>b j (List.mem_cons_of_mem _ e)) x8;rw [c_,Nat.mul_succ];rw [show t+(63000*r.length+63000)=t+63000+63000*r.length from by omega];exact this
end
section
open Go.RowKit Go.Lib Go.Maps
theorem ext_app(a u:Q7):(⟨(a++u).toArray⟩:Q8).extract 0 (⟨a.toArray⟩:Q8).size=⟨a.toArray⟩:=by rw [<- toList_inj,dB,Lib.toList_data];show(((a++u).toArray.toList).drop 0).take (a.toArray.size-0)=a.toArray.toList;simp
end
open Go.Proofs.Tryz
open Pl (AW)
section
open Go.RowKit
theorem aOC(w:World)(a u:Q7):Q2 16 #[.string ⟨(a++u).toArray⟩,.string ⟨a.toArray⟩] w fun e b=>e=.returned (.bool true)/\w=b:=by
 have d:((⟨a.toArray⟩:Q8).size:Int)<=((⟨(a++u).toArray⟩:Q8).size:Int):=by simp [ByteArray.size];omega
 have f:=ext_app a u;generalize (⟨(a++u).toArray⟩:Q8)=x at *;generalize (⟨a.toArray⟩:Q8)=y at *;have c:y.size<=x.size:=by omega
 go_enter func16,ntmps16
 go_wp2_with (rw [run_slice_string (h:=y.size)]<;>first | omega | skip)
 go_ret;exact⟨w9,rfl⟩
structure FtV(w wr:World)(wb:Nat)(Mk:Q5)(ins:List (Q8×Int))(k:Nat):Prop where
 below:Q3 w wr
 low:∀j,j<w.heap.size->¬Mk j
 rw:(fsX ins k).1.2=false->RW wr wb Mk (fsX ins k).1.1
theorem FtV.more{w wr w1:World}{wb:Nat}{Mk:Q5}{ins:List (Q8×Int)}{k:Nat}{i:Q8×Int}(h:FtV w wr wb Mk ins k)(hi:ins[k]?=some i)(a:Q3 wr w1)(b:(Pl.fans (fsX ins k).1 (B5 i)).1=(fsX ins k).1):FtV w w1 wb Mk ins (k+1):=by refine⟨h.below.trans (a.mono h.below.size),h.low,fun e=>?_⟩;rw [aM2 hi] at e ⊢;dsimp only at e ⊢;rw [b] at e ⊢;exact(h.rw e).later a
theorem FtV.step{w wr w1:World}{wb:Nat}{Mk M1:Q5}{ins:List (Q8×Int)}{k:Nat}{i:Q8×Int}(h:FtV w wr wb Mk ins k)(hi:ins[k]?=some i)(a:Stp Mk wr M1 w1)(c:(Pl.fans (fsX ins k).1 (B5 i)).1.2=false->RW w1 wb M1 (Pl.fans (fsX ins k).1 (B5 i)).1.1):FtV w w1 wb M1 ins (k+1):=by refine⟨⟨a.os.trans h.below.os,a.tape.trans h.below.tape,a.output.trans h.below.output,t_ h.below.size a.size,fun j b=>((a.block j (l_ b h.below.size) (h.low j b)).1).trans (h.below.block j b)⟩,fun j b=>(a.block j (l_ b h.below.size) (h.low j b)).2,fun e=>?_⟩;rw [aM2 hi] at e ⊢;exact c e
def FtR(w wr:World)(ins:List (Q8×Int))(k:Nat)(b:Bool):Prop:=∃Mk,FtV w wr w.heap.size Mk ins k/\b=(fsX ins k).1.2
theorem rf_fits(hI:AY)(w:World)(v av:Value)(ins:List (Q8×Int))(hS:F8 w v ins)(hA:KB w av (Pl.fses (AW,false) (ins.map B5)).2)(hl:ins.length<=61)(bt:∀i∈ins,aOA (B5 i)/\i.1.size<=maxLen)(bu:8<=w.heap.size)(bc:Lib.TabIs prog w oS .u64 Lib.pow10Tab) :Q2 6 #[v,av] w fun e Q=>e=.returned (.bool true)/\Q3 w Q:=by
 have HI:Hid AY:=hI;have bi:=h_ bt;have HT:=(show Hid (8<=w.heap.size/\Lib.TabIs prog w oS .u64 Lib.pow10Tab) from⟨bu,bc⟩)
 obtain⟨cn,db,rfl,co⟩:=hA.row (n:=ins.length) (by rw [Pl.fses_len,List.length_map])
 have HO:=(show Hid (∀(k:Nat)(i:Q8×Int),ins[k]?=some i->∃g,cn=some ⟨g,0,none⟩/\g<w.heap.size/\w.cell? ⟨g,k*3,none⟩=some (Q1 ((Pl.fans (fsX ins k).1 (B5 i)).2.code:Int))/\w.cell? ⟨g,k*3+1,none⟩=some (.string ⟨(Pl.fans (fsX ins k).1 (B5 i)).2.out.toArray⟩)/\w.cell? ⟨g,k*3+2,none⟩=some (.string ⟨(Pl.fans (fsX ins k).1 (B5 i)).2.val.toArray⟩)) from fun k i hi=>by
  refine hA.get ?_;have de:=(s_ hi).1;have e:ins=ins.take (k+1)++ins.drop (k+1):=(List.take_append_drop _ _).symm
  have h1:(Pl.fses (AW,false) (ins.map B5)).2=(fsX ins (k+1)).2++(Pl.fses (fsX ins (k+1)).1 ((ins.drop (k+1)).map B5)).2:=by
   conv=>lhs;rw [e,List.map_append,Pl.fses_append]
   rfl
  rw [h1,List.getElem?_append_left (by rw [aN6 ins x8];omega),aM2 hi,List.getElem?_append_right (by rw [aN6 ins x8];exact n_),aN6 ins x8,Nat.sub_self]
  rfl)
 obtain⟨ao,df,rfl,dc,ah⟩:=hS;have HC:=h_ ah;clear hI bt bu bc ah hA;go_enter func6,ntmps6;go_wp2_with fail;refine(m0 w).mono ?_;rintro e J ⟨rfl,A,M1,ai,bv⟩;have cp:Hid (FtR w J ins 0 false):=⟨M1,⟨A,bv,fun _=>ai⟩,rfl⟩
 clear A ai bv;go_wp2_with fail
 go_loopw [6,7] (fun lv i wr=>∃(k:Nat)(b:Bool),k<=ins.length/\lv=.bool b/\i=.int .i64 k/\Hid (FtR w wr ins k b)) (fun _ i _=>ins.length-(intOf i).toNat)
 case atStart=>exact⟨0,false,Nat.zero_le _,rfl,rfl,cp⟩
 case round =>
  obtain⟨k,aa,hk,rfl,rfl,HS⟩:=hrel;by_cases cq:k<ins.length
  ·obtain⟨i,hi⟩:∃i,ins[k]?=some i:=⟨ins[k],g_ cq⟩
   obtain⟨g,rfl,hg,bw,bx⟩:=HC.out k i hi;obtain⟨C,rfl,x,d,l,t⟩:=HO.out k i hi;obtain⟨Mk,hV,ac⟩:=HS.out;have c0:wr.cell? ⟨g,k*2,none⟩=some (.string i.1):=(hV.below.cell (p:=⟨g,k*2,none⟩) hg).trans bw;have c1:wr.cell? ⟨g,k*2+1,none⟩=some (Q1 i.2):=(hV.below.cell (p:=⟨g,k*2+1,none⟩) hg).trans bx;have HX:=h_ hi;have dd:(k:Int)<(ins.length:Int):=by omega
   obtain⟨s,n⟩:=i;dsimp only at c0 c1;have bz:=(bi _ (q_ hi)).2;obtain⟨wA,H⟩:∃wA,wA=wr.alloc (.cells #[.string s,Q1 n] 29):=⟨_,rfl⟩
   have E:Hid (Q3 wr wA):=show Below _ _ _ from by rw [H];exact b_
   have ca:Hid (wA.heap[wr.heap.size]?=some (.cells #[.string s,Q1 n] 29 (0,0))/\wA.heap.size=wr.heap.size+1):=by rw [H];exact⟨heap_alloc_new _ _,w9⟩
   have aw:=h_ (rf_read s wA bz);have HV:=h_ hV;have cr:=h_ ac;obtain⟨X,hX⟩:∃X,X=(fsX ins k).1:=⟨_,rfl⟩
   have ad:=h_ hX;rw [<- hX] at d l t ac;change w.cell? ⟨C,k*3,none⟩=some (Q1 ((Pl.fans X (s.data.toList,n)).2.code:Int)) at d;change w.cell? ⟨C,k*3+1,none⟩=some (.string ⟨(Pl.fans X (s.data.toList,n)).2.out.toArray⟩) at l;change w.cell? ⟨C,k*3+2,none⟩=some (.string ⟨(Pl.fans X (s.data.toList,n)).2.val.toArray⟩) at t;have B:=(show Hid ((Pl.fans X (s.data.toList,n)).1=X->∀J,Q3 wr J->FtR w J ins (k+1) aa) from fun e J hB=>⟨Mk,HV.more HX hB (by rw [<- ad.out];exact e),by rw [cr.out,aM2 HX.out];show _=(Pl.fans (fsX ins k).1 (B5 (s,n))).1.2;rw [<- ad.out];show _=(Pl.fans X (s.data.toList,n)).1.2;rw [e]⟩)
   clear hi bw bx bz hV HS
   cases F:Pl.over n
   ·by_cases hc:Pl.check s.data.toList=0
    ·cases ax:aa
     ·obtain⟨W,sp⟩:=X;obtain rfl:sp=false:=by rw [<- ax];exact ac.symm
      subst ax;go_wp2_with (go_at_call 11;refine(t7 n _).mono ?_;rintro e Q ⟨rfl,rfl⟩;rw [F]);rw [<- H];clear H;refine Calls.mono aw ?_;rintro e J ⟨po,rfl,A,hr⟩;have D:=E.trans (A.mono E.size);have a:=HV.below.trans (D.mono HV.below.size);have b0:=(a.cell (p:=⟨C,k*3,none⟩) x).trans d;have b1:=(a.cell (p:=⟨C,k*3+1,none⟩) x).trans l;have b2:=(a.cell (p:=⟨C,k*3+2,none⟩) x).trans t;obtain⟨f,b,m,R,rfl,hU⟩:=hr hc;rw [hc];have dg:0<=n/\n<=1000000:=by unfold Pl.over at F;simp at F;omega
      obtain⟨q,rfl⟩:∃q:Nat,n=(q:Int):=⟨n.toNat,x8⟩
      have aj:=Pl.fans_runN (W:=W) F hc R;rw [aj] at d l t;have bj:RW wr w.heap.size Mk W:=by have:=HV.rw (by rw [<- ad.out]);rw [<- ad.out] at this;exact this
      have bk:WW W (13+63000*k):=by have:=aOG ((ins.take k).map B5) (AW,false) 13 vP (fun j K=>by obtain⟨y,hy,rfl⟩:=List.mem_map.1 K;exact(bi y (List.mem_of_mem_take hy)).1) (by rw [List.length_map,List.length_take];omega);rw [List.length_map,List.length_take,Nat.min_eq_left hk] at this;have e:(Pl.fses (AW,false) ((ins.take k).map B5)).1=(W,false):=ad.symm;rw [e] at this;exact this
      obtain⟨⟨⟨ct,hL,ak⟩,S,T,U⟩,_,cu,h7⟩:=fit_go (i:=(s.data.toList,(q:Int))) bk x8 (bi _ (q_ HX)).1 f F hc R;simp only [Int.toNat_natCast] at ak S T U h7;have cb:∀j,Mk j->j<wr.heap.size:=fun j K=>bj.lt K;have cc:=(show Hid (Q2 13 #[Q0 w.heap.size,Q0 b] J fun e Q=>NG wA w.heap.size Mk W f e Q) from xP wA J w.heap.size Mk W f b m (bj.later E) A hU (by have:=bk.EX;omega))
      have HG:Hid (Gs wr Mk):=⟨t_ HT.1 HV.below.size,fun j K=>HV.low j (l_ K HT.1),iH (fun j K=>HV.below.block j (l_ K HT.1)) HT.2⟩
      have bd:=h_ aj;have al:=(show Hid (w.cell? ⟨C,k*3,none⟩=some (Q1 ((Pl.told (A8 q (Pl.AR W f) (Pl.AV W f))).code:Int))/\w.cell? ⟨C,k*3+1,none⟩=some (.string ⟨(Pl.told (A8 q (Pl.AR W f) (Pl.AV W f))).out.toArray⟩)/\w.cell? ⟨C,k*3+2,none⟩=some (.string ⟨(Pl.told (A8 q (Pl.AR W f) (Pl.AV W f))).val.toArray⟩)) from⟨d,l,t⟩)
      have V:=(show Hid (∀J M1,Stp Mk wr M1 J->((A8 q (Pl.AR W f) (Pl.AV W f)).e≠7->RW J w.heap.size M1 (A8 q (Pl.AR W f) (Pl.AV W f)).W)->FtR w J ins (k+1) (decide ((A8 q (Pl.AR W f) (Pl.AV W f)).e=7))) from fun J M1 hs hw=>by
       have e2:Pl.fans (fsX ins k).1 (B5 (s,(q:Int)))=(((A8 q (Pl.AR W f) (Pl.AV W f)).W,decide ((A8 q (Pl.AR W f) (Pl.AV W f)).e=7)),Pl.told (A8 q (Pl.AR W f) (Pl.AV W f))):=by rw [<- ad.out];exact bd
       refine⟨M1,HV.step HX hs (fun e=>?_),?_⟩
       ·rw [e2] at e ⊢;exact hw a6
       ·rw [aM2 HX.out];dsimp only
        rw [e2])
      clear hU hr hc R A D a b0 b1 b2 d l t aj bj bk cu B;go_wp2_with fail;refine Calls.mono cc ?_;rintro e w2 ⟨xb,M1,rfl,ai,cd,ab,cw⟩;have dh:=ca.2;have bl:=ab.block wr.heap.size x8 (fun h=>by have:=cb _ h;omega);have bm:=bl.1.trans ca.1
      have bn:Gs w2 (Mx M1 xb):=by
       have g:=(HG.below E).AQ ab;refine⟨g.size,fun j K=>?_,g.B3⟩;rintro(h | h)
       ·exact g.low j K h
       ·have:=(HG.below E).size;omega
      have ay:Hid (Q2 14 #[Q0 w.heap.size,Q0 xb,Q1 q] w2 fun e Q=>ResF M1 w2 w.heap.size xb (A8 q (Pl.AR W f) (Pl.AV W f)) e Q):=xW HI ct hL w2 w.heap.size xb M1 _ _ q x8 ak ai cd bn;have ce:w2.cell? ⟨wr.heap.size,1,none⟩=some (Q1 q):=aA bm 1;have az:=h_ bn;have bo:=(show Hid (Stp Mk wr M1 w2/\wr.heap.size<xb/\w2.heap[wr.heap.size]?=some (.cells #[.string s,Q1 q] 29 (0,0))/\¬M1 wr.heap.size) from⟨(Stp.AA E).trans ab,x8,bm,bl.2⟩)
      have ba:=h_ (And.intro S (And.intro T (And.intro U h7)));clear ak hL S T U h7 ab ai cd bl bm cw cc cb bn;obtain⟨r,hr⟩:∃r,r=A8 q (Pl.AR W f) (Pl.AV W f):=⟨_,rfl⟩
      rw [<- hr] at ba ay al V;clear hr bd;go_wp2_with fail;refine Calls.mono ay ?_;rintro e Y ⟨rfl,M2,am,z,bb⟩;obtain⟨x1,x2,x3,x4⟩:=bo.out;obtain⟨S,T,U,h7⟩:=ba.out;have h3:=z.block wr.heap.size (aB x3) (by rintro(h | h);exact x4 h;omega);have an:Stp Mk wr M2 Y:=by refine⟨z.os.trans x1.os,z.tape.trans x1.tape,z.output.trans x1.output,t_ x1.size z.size,fun j K hn=>?_⟩;obtain⟨y1,y2⟩:=x1.block j K hn;obtain⟨y3,y4⟩:=z.block j (l_ K x1.size) (by rintro(h | h);exact y2 h;omega);exact⟨y3.trans y1,fun h=>y4 (.inl h)⟩
      by_cases ae:r.e=7
      ·obtain⟨di,⟨cf,cg,ap⟩,be,bf,bg⟩:=h7 ae;have ec:999*(q:Int)+10000=((999*q+10000:Nat):Int):=by omega
       have cx:IntKind.i64.wrap (999*(q:Int))=999*(q:Int):=IntWalk.i64_in _ x8;have cy:IntKind.i64.wrap (999*(q:Int)+10000)=999*(q:Int)+10000:=IntWalk.i64_in _ x8;have cz:Y.cell? ⟨wr.heap.size,1,none⟩=some (Q1 q):=aA (h3.1.trans x3) 1;have af:Gs Y (Mx M2 xb):=az.AQ z;have bp:=(show Hid (Q2 14 #[Q0 w.heap.size,Q0 xb,Q1 (999*(q:Int)+10000)] Y fun e Q=>ResF M2 Y w.heap.size xb (A8 (999*q+10000) r.W r.S) e Q) from by rw [ec];exact xW HI cf cg Y w.heap.size xb M2 _ _ _ x8 ap am (bb (.inr ae)) af)
       have ch:=h_ af;have L:=h_ (And.intro be (And.intro bf bg));have aq:=(show Hid (Stp Mk wr M2 Y/\wr.heap.size<xb/\wr.heap.size<=Y.heap.size) from⟨an,x2,an.size⟩)
       have bq:=h_ (x_goOn (999*q+10000) r.W r.S);have e7:(r.e:Int)=7:=by omega
       have ag:=h_ ae;clear ap cg be bf bg z bb am an x1 x2 x3 x4 h3 S T U h7 af ae ec ay bo ba az ce;rw [e7];obtain⟨M,ci⟩:∃M,M=A8 (999*q+10000) r.W r.S:=⟨_,rfl⟩
       rw [<- ci] at bp L bq;clear ci;go_wp2_with fail;refine Calls.mono bp ?_;rintro e w4 ⟨rfl,M3,br,G,bh⟩;obtain⟨y1,y2,y3⟩:=aq.out;have cj:Stp Mk wr M3 w4:=by refine⟨G.os.trans y1.os,G.tape.trans y1.tape,G.output.trans y1.output,t_ y1.size G.size,fun j K hn=>?_⟩;obtain⟨z1,z2⟩:=y1.block j K hn;obtain⟨z3,z4⟩:=G.block j (l_ K y1.size) (by rintro(h | h);exact z2 h;omega);exact⟨z3.trans z1,fun h=>z4 (.inl h)⟩
       have ck:Gs w4 M3:=(ch.AQ G).mono (fun j K=>.inl K);have ar:Hid (Q2 15 #[Q0 w.heap.size,Q0 xb,Q1 M.e] w4 fun e Q=>e=.returned (oH M.e M.W.out (mL M.W M.S M.e))/\Q3 w4 Q):=xS HI w4 w.heap.size xb M3 M.W M.S M.e L.1 br ck L.2.1 (fun h0=>⟨bh (.inl h0),L.2.2 h0⟩);have cl:=(show Hid (Stp Mk wr M3 w4/\RW w4 w.heap.size M3 M.W) from⟨cj,br⟩)
       clear cj ck br G bh y1 y2 y3 bp L ch aq cz cx cy;go_wp2_with fail;refine Calls.mono ar ?_;rintro e N ⟨rfl,O⟩;obtain⟨z1,z2⟩:=cl.out;have Z:=z1.trans (Stp.AA O);obtain⟨_,I,_⟩:=V.out N M3 Z (fun h=>absurd ag.out h);have ht:Pl.told r=⟨r.e,r.W.out,[]⟩:=by unfold Pl.told;rw [if_neg (by rw [ag.out];decide)]
       obtain⟨d,l,t⟩:=al.out;rw [ht] at d l t;have g0:=(I.below.cell (p:=⟨C,k*3,none⟩) x).trans d;have g1:=(I.below.cell (p:=⟨C,k*3+1,none⟩) x).trans l;have g2:=(I.below.cell (p:=⟨C,k*3+2,none⟩) x).trans t;dsimp only at g0 g1 g2;rw [e7] at g0;obtain⟨u,hu⟩:=bq.out;have c5:N.cell? ⟨w.heap.size,5,none⟩=some (.string ⟨(r.W.out++u).toArray⟩):=by obtain⟨pv,qv,cv,lv,gv,qs,cs,hM,bs⟩:=z2.later O;rw [<- hu];exact aA bs.blk 5
       have dj:w.heap.size<N.heap.size:=by obtain⟨pv,qv,cv,lv,gv,qs,cs,hM,bs⟩:=z2.later O;exact aB bs.blk
       have da:C<N.heap.size:=by omega
       have au:=(show Hid (∀(o:Obj)(m:Nat),FtR w ((N.alloc o).drewN m) ins (k+1) true) from fun o m=>by
        have:=V.out ((N.alloc o).drewN m) M3 (Z.trans ((Stp.AA (r_.alloc n_ o)).trans (Stp.AA (U2 _ m)))) (fun h=>absurd ag.out h);rw [decide_eq_true ag.out] at this
        exact this)
       clear I d l t Z z1 z2 O ar cl V al ht bq;unfold oH;generalize mL M.W M.S M.e=tv at *;generalize M.W.out=ot at *;generalize M.e=e2 at *;go_wp2_with fail
       go_quiet ((go_at_call 16;refine Calls.quiet_of_same ((aOC _ _ _).mono (fun _ _ ⟨q1,q2⟩=>⟨q1,q2.symm⟩))))
       go_wp2_with fail
       go_roundw
       case rel=>exact⟨k+1,true,x8,rfl,k7,au _ _⟩
       case measure=>simp [intOf];omega
      ·have af:Gs Y M2:=(az.AQ z).mono (fun j K=>.inl K);have ar:Hid (Q2 15 #[Q0 w.heap.size,Q0 xb,Q1 r.e] Y fun e Q=>e=.returned (oH r.e r.W.out (mL r.W r.S r.e))/\Q3 Y Q):=xS HI Y w.heap.size xb M2 r.W r.S r.e S am af T (fun h0=>⟨bb (.inl h0),U h0⟩);have aq:=(show Hid (Stp Mk wr M2 Y/\RW Y w.heap.size M2 r.W) from⟨an,am⟩)
       have dk:((r.e:Int)!=7)=true:=by simp;omega
       have dl:((r.e:Int)==7)=false:=by simp;omega
       have ag:=h_ ae;clear z bb am an x1 x2 x3 x4 h3 S T U h7 af ae ay bo ba az ce;go_wp2_with fail;refine Calls.mono ar ?_;rintro e N ⟨rfl,O⟩;obtain⟨z1,z2⟩:=aq.out;have Z:=z1.trans (Stp.AA O);have z5:=z2.later O;obtain⟨_,I,_⟩:=V.out N M2 Z (fun _=>z5);obtain⟨d,l,t⟩:=al.out;have g0:N.cell? ⟨C,k*3,none⟩=some (Q1 r.e):=(I.below.cell (p:=⟨C,k*3,none⟩) x).trans d;have g1:N.cell? ⟨C,k*3+1,none⟩=some (.string ⟨r.W.out.toArray⟩):=(I.below.cell (p:=⟨C,k*3+1,none⟩) x).trans l;have g2:N.cell? ⟨C,k*3+2,none⟩=some (.string ⟨(mL r.W r.S r.e).toArray⟩):=(I.below.cell (p:=⟨C,k*3+2,none⟩) x).trans t;have da:C<N.heap.size:=l_ x I.below.size
       have au:=(show Hid (∀(o:Obj)(m:Nat),FtR w ((N.alloc o).drewN m) ins (k+1) false) from fun o m=>by
        have cm:Q3 N (N.alloc o):=r_.alloc n_ o;have:=V.out ((N.alloc o).drewN m) M2 (Z.trans ((Stp.AA cm).trans (Stp.AA (U2 _ m)))) (fun _=>(z5.later cm).later (U2 _ m));rw [decide_eq_false ag.out] at this
        exact this)
       clear I d l t Z z1 z2 z5 O ar aq V al;unfold oH;generalize mL r.W r.S r.e=tv at *;generalize r.W.out=ot at *;go_wp2_with fail
       go_quiet (fail)
       go_wp2_with fail
       go_roundw
       case rel=>exact⟨k+1,false,x8,rfl,k7,au _ _⟩
       case measure=>simp [intOf];omega
     ·obtain⟨W,sp⟩:=X;obtain rfl:sp=true:=by rw [<- ax];exact ac.symm
      have R:=Pl.fans_spent (W:=W) F hc;rw [R] at d l t;have P:Hid _:=B.out (by rw [R]);subst ax;go_wp2_with (go_at_call 11;refine(t7 n _).mono ?_;rintro e Q ⟨rfl,rfl⟩;rw [F]);rw [<- H];clear H;refine Calls.mono aw ?_;rintro e J ⟨po,rfl,A,hr⟩;have D:=E.trans (A.mono E.size);have a:=HV.below.trans (D.mono HV.below.size);have b0:=(a.cell (p:=⟨C,k*3,none⟩) x).trans d;have b1:=(a.cell (p:=⟨C,k*3+1,none⟩) x).trans l;have b2:=(a.cell (p:=⟨C,k*3+2,none⟩) x).trans t;rw [hc];have HN:=h_ (P J D);clear A hr D a d l t R hc B P;go_wp2_with fail
      go_roundw
      case rel=>exact⟨k+1,true,x8,rfl,k7,HN⟩
      case measure=>simp [intOf];omega
    ·clear ac;have R:=Pl.fans_check (X:=X) F hc;rw [R] at d l t;have P:Hid _:=B.out (by rw [R]);have dm:((Pl.check s.data.toList:Int)==0)=false:=by simp;omega
     go_wp2_with (go_at_call 11;refine(t7 n _).mono ?_;rintro e Q ⟨rfl,rfl⟩;rw [F])
     rw [<- H];clear H;refine Calls.mono aw ?_;rintro e J ⟨po,rfl,A,hr⟩;have D:=E.trans (A.mono E.size);have a:=HV.below.trans (D.mono HV.below.size);have b0:=(a.cell (p:=⟨C,k*3,none⟩) x).trans d;have b1:=(a.cell (p:=⟨C,k*3+1,none⟩) x).trans l;have b2:=(a.cell (p:=⟨C,k*3+2,none⟩) x).trans t;have HN:=h_ (P J D);try dsimp only at b0 b1 b2
     clear A hr D a d l t R hc B P;generalize Pl.check s.data.toList=c at *;exact zL4
   ·clear ac;have R:=Pl.fans_over (X:=X) (b:=s.data.toList) F;rw [R] at d l t;have P:Hid _:=B.out (by rw [R]);go_wp2_with (go_at_call 11;refine(t7 n _).mono ?_;rintro e Q ⟨rfl,rfl⟩;rw [F]);rw [<- H];clear H;refine Calls.mono aw ?_;rintro e J ⟨po,rfl,A,hr⟩;have D:=E.trans (A.mono E.size);have a:=HV.below.trans (D.mono HV.below.size);have b0:=(a.cell (p:=⟨C,k*3,none⟩) x).trans d;have b1:=(a.cell (p:=⟨C,k*3+1,none⟩) x).trans l;have b2:=(a.cell (p:=⟨C,k*3+2,none⟩) x).trans t;have HN:=h_ (P J D);try dsimp only at b0 b1 b2
    clear A hr D a d l t R B P;exact zL4
  ·obtain rfl:k=ins.length:=by omega
   obtain⟨Mk,hV,_⟩:=HS.out;have HB:=h_ hV.below;clear HS hV;go_wp2_with fail;go_ret;exact⟨rfl,HB⟩
end
section
open Go.RowKit Go.Lib Go.Maps
theorem aOB(ins:List (Q8×Int))(c:∀i∈ins,i.1.size<=maxLen):∀i∈eD 200 ins,aOA (B5 i)/\i.1.size<=maxLen:=by
 intro i a;unfold eD at a;rcases List.mem_append.1 a with a | a
 ·obtain⟨⟨s,n⟩,d,rfl⟩:=List.mem_map.1 a;have b:=c _ (List.mem_of_mem_take d);unfold jT;by_cases h:200<n/\n<=1000000
  ·rw [if_pos h];exact⟨.inr (.inl (by show(200:Int)<=200;omega)),b⟩
  ·rw [if_neg h];refine⟨?_,b⟩;by_cases e:1000000<n
   ·exact .inl (by simp [Pl.over,B5,e])
   ·refine .inr (.inl ?_);show n<=200;omega
 ·simp only [List.mem_singleton] at a;subst a;exact⟨.inr (.inr rfl),by simp [maxLen,ByteArray.size]⟩
theorem p_fasts(w:World)(v:Value)(ins:List (Q8×Int))(z:JF w v ins)(f:ins.length<=maxLen)(o:∀i∈ins,i.1.size<=maxLen)(h:Low w) :Q2 3 #[v] w fun e b=>e=.returned (.bool true)/\Q3 w b:=by
 have p:=aOB ins o;have j:=tU 200 ins;generalize q:eD 200 ins=g at *
 have C:Hid (Q2 4 #[v,Q1 200] w fun e b=>∃a,e=.returned a/\Hid (Q3 w b/\F8 b a g)):=(XG w v 200 ins z f).mono (fun e b ⟨a,d,m,t⟩=>by
  rw [q] at t
  exact⟨a,d,m,scr_of t⟩)
 have D:Hid (∀n a,Q3 w n/\F8 n a g->Q2 5 #[a] n fun e b=>∃c,e=.returned c/\Hid (Q3 w b/\F8 b a g/\KB b c (Pl.fses (AW,false) (g.map B5)).2)):=fun n a ⟨d,m⟩=>by have l:=h.below d;exact(p_fast n a g m (t_ j (by unfold GK;omega)) l.DI l.B3 l.JQ l.gt l.ge).mono (fun e b ⟨c,x,u,E⟩=>⟨c,x,d.trans (u.mono d.size),m.below u,E⟩)
 have F:Hid (∀k a c,Q3 w k/\F8 k a g/\KB k c (Pl.fses (AW,false) (g.map B5)).2->Q2 6 #[a,c] k fun e b=>e=.returned (.bool true)/\Hid (Q3 w b)):=fun k a c ⟨d,m,t⟩=>by have l:=h.below d;exact(rf_fits wE k a c g m t j p l.DI l.B3).mono (fun e b ⟨x,u⟩=>⟨x,d.trans (u.mono d.size)⟩)
 obtain⟨J,G,rfl,_,_⟩:=z;clear p j f o h q;go_enter func3,ntmps3
 go_wp2_with (first
  | (go_at_call 4;refine Calls.mono C ?_;rintro e n ⟨a,rfl,r⟩;obtain⟨H,K,A,rfl⟩:=r.2.slice)
  | (go_at_call 5;refine Calls.mono (D _ _ r) ?_;rintro e k ⟨c,rfl,s⟩;obtain⟨I,L,B,rfl⟩:=s.2.2.slice)
  | (go_at_call 6;refine Calls.mono (F _ _ _ s) ?_;rintro e M ⟨rfl,y⟩))
 go_ret;exact⟨rfl,y⟩
end
section
open Go.ChangeShapes Go.WideShapes Go.ChangeAt Go.RowKit Go.Deep
theorem aN7(os:Os)(b:os.Started)(H:Type)(enc:TypeId×Value->H) :ReturnsInHanded {} checked os 3 .any (fun w a=>(Rows.fastsSpec.pre enc prog Tryz.f3 [] false w a/\laidMetH prog Rows.fastsRow.laid w)/\sizedMet enc prog Tryz.f3 (OpenSpec.ofChange Rows.fastsSpec) false w a)
   (Rows.fastsSpec.post enc prog Tryz.f3 false true false false):=by
 refine aSM (C:=checked) (X:=fun w _=>laidMetH prog Rows.fastsRow.laid w) (fun _ _ _ B h=>h.of_heap B) Tryz.own b t8 func3
  (ChangeSpec.witness_shaped (enc:=enc) (C:=checked) (os:=os) (X:=fun w _=>laidMetH prog Rows.fastsRow.laid w) false (World.doorLaid prog 86 os) #[.slice none 0 0] 8 rfl (World.shaped_of_RefB t8 t8) t8 t8 t8 (aAK os _)) ?_
 intro W f a D L l m c u _ _ E;have d:∀(j:Nat) t v,Tryz.f3.params[j]?=some t->a[j]?=some v->Value.okWide prog W .any f t v:=c;have g:=u;obtain⟨p,q,i,F,rfl,G,I⟩:=u;have n:DataW.TrodAll enc prog W 0 (fun _=>true) true Tryz.f3.params.toList a.toList D p:=i;rw [params3] at n d;obtain⟨y,M,rfl,rfl,z⟩:=trodAll_one n;obtain⟨rfl,rfl⟩:=trodVars_none F;have o:∀x∈p,x.block<W.heap.size:=DataW.TrodAll.lt n;obtain⟨r,J,k,s⟩:=xN (d 0 22 y rfl rfl) z;clear i c;simp only [List.append_nil] at g;refine(p_fasts W y r J k s (PJ m E)).mono fun e N ⟨K,A⟩=>?_;subst K;refine⟨_,rfl,_,_,_,[],p,[],g,?_,?_,?_,A.frame _,fun h=>by cases h⟩
 ·exact trodAll_mk1 (shut_bool underlying4 true)
 ·exact trodAll_mk1 (tX z o A)
 ·rfl
theorem aN9:Rows.FastsSaid :=
 OpenClaim.holds_of_wide 3 Tryz.f3 rfl rfl rfl rfl rfl rfl rfl ⟨rfl,rfl,rfl,rfl,rfl⟩ rfl rfl rfl rfl rfl t8 func3 aN8
  (of_decide_eq_true t8) (by unfold Func.isWrapper;rw [if_neg (of_decide_eq_false t8)];exact⟨rfl,rfl⟩)
  (fun b a H enc _=>aN7 b a H enc)
end
section
open Go
theorem fasts_card_holds:Rows.FastsCardSaid :=
 Claim7.holds_tied_plain_at .later [] [.data,.data,.data,.handle,.sentinel,.sentinel,.data] true Rows.fastsCard.stood.harness true
  aN9 (fun _ h=>by cases h) t8 (fun _ h=>by cases h) fasts_row_tie rfl ⟨rfl,rfl⟩ t8 rfl
  (fun f c d a=>by
   obtain rfl:f=3:=i_ ((show prog.funcNamed "stepper/stepperlaw.Fasts"=some 3 by kernel_rfl).symm.trans d) |>.symm;obtain rfl:c=Tryz.f3:=(i_ (func3.symm.trans a)).symm
   exact⟨t8,fun j t b=>by
    rw [params3] at b;rcases j with _ | j
    ·obtain rfl:22=t:=i_ b;exact(show prog.wantsStandIn 22=false by kernel_rfl)
    ·simp at b⟩)
  t8
end
end Go.Proofs.YtbgghmjmcapmlaaGreatDoor
