import Derived.Test.YtkgbdddkcjpgfaaGreatDoorT43
import Derived.Test.YtkgbdddkcjpgfaaGreatDoorT20
namespace Go.Proofs.YtkgbdddkcjpgfaaGreatDoor
set_option maxHeartbeats 2000000
set_option maxRecDepth 100000
open Go.Proofs.Tryz
open Pl (PV PW PS PF SR AE PO A2 B0 AH BH A4 AW A8)
section
open Go.RowKit
variable {m t n k:Nat}
theorem aAJ(W:PW)(S:PS)(s:AE)(a b:PV):(Pl.reckon W S s a b).e<=12:=by
 unfold Pl.reckon;split
 ·split
  ·simp
  ·split
   ·simp
   ·rename_i x y _ _;dsimp only;generalize (if s=BH then x+y else if s=A4 then x-y else x*y)=n;by_cases h:n.natAbs<=Pl.CG
    ·rw [if_pos h];simp
    ·rw [if_neg h];simp
 ·simp
theorem Y7(W:PW)(S:PS)(s:AE)(a:PV):(B0 W S s a).e<=12:=by
 unfold B0;split
 ·dsimp only;split<;>simp
 ·split
  ·split
   ·split<;>simp
   ·simp
  ·split<;>simp
theorem Y6(W:PW)(S:PS)(s:AE)(a b:PV):(A2 W S s a b).e<=12:=by
 unfold A2;split
 ·simp
 ·split
  ·simp
  ·exact aAJ W S s a b
theorem rG(W:PW)(S:PS)(f:PV)(args:List PV):(AH W S f args).e<=12:=by
 unfold AH;split
 ·split
  ·split<;>simp
  ·simp
 ·split<;>simp
 ·split
  ·simp
  ·split
   ·exact Y7 _ _ _ _
   ·exact Y6 _ _ _ _ _
   ·simp
 ·simp
theorem Y8(W:PW)(S:PS)(f:PV)(args:List PV):(Pl.apply W S f args).e<=12:=by
 unfold Pl.apply;split
 ·split
  ·dsimp only;split<;>exact rG _ _ _ _
  ·simp
 ·exact rG _ _ _ _
theorem Y5(W:PW)(S:PS):(Pl.taken W S).e<=12:=by
 unfold Pl.taken;split
 ·simp
 ·dsimp only;split
  ·simp
  ·split<;>simp
  ·simp
  ·simp
  ·split
   ·split
    ·simp
    ·exact Y8 _ _ _ _
   ·simp
theorem e_step(W:PW)(S:PS):(Pl.step W S).e<=12:=by
 unfold Pl.step;split
 ·exact Y5 W S
 ·split
  ·simp
  ·split<;>simp
  ·simp
  ·simp
  ·simp
theorem eY{S:PS}(h:S.ended=true):S.form=none:=by unfold Pl.PS.ended at h;simp at h;exact h.1
theorem R5{W:PW}(h:WW W t)(a:t<=1000000000):L2 W:=⟨h.KV,h.CH,by have:=h.EX;omega⟩
theorem mA:∀(n:Nat)(W:PW)(S:PS)(t:Nat),WW W t->SW W S t->(A8 n W S).e<=12/\WW (A8 n W S).W (t+310*n)/\((A8 n W S).e=0->(A8 n W S).S.form=none/\BL (A8 n W S).W (A8 n W S).S.val)
 | 0,W,S,t,a,c=>by
  unfold A8;split
  ·rename_i b;exact⟨Nat.zero_le _,a,fun _=>⟨eY b,c.val (eY b)⟩⟩
  ·exact⟨by simp,a,fun e=>by cases e⟩
 | n+1,W,S,t,a,c=>by
  unfold A8;split
  ·rename_i b;exact⟨Nat.zero_le _,a.later (by omega),fun _=>⟨eY b,c.val (eY b)⟩⟩
  ·have d:=jQ a c;dsimp only;split
   ·rename_i f;obtain⟨g,h,i⟩:=mA n _ _ (t+310) d.2.1 (d.2.2 f);exact⟨g,h.later (by omega),i⟩
   ·rename_i f;exact⟨e_step W S,d.2.1.later (by omega),fun e=>absurd e f⟩
theorem YR{W:PW}{S:PS}(a:WW W t)(b:SW W S t)(c:t+310*n<=100000000):VK n W S:=by obtain⟨f,d,e⟩:=mA n W S t a b;exact⟨⟨QC,s7,t,c,a,b⟩,by omega,R5 d (by omega),e⟩
def InvC(_:Nat)(W:PW)(S:PS):Prop:=∃t,t<=100000000/\WW W t/\SW W S t/\S.AB=[]/\∀f,S.form=some f->f.k=.const
theorem s8:QX InvC:=by
 intro n W S h d;obtain⟨t,e,i,b,j,l⟩:=h
 cases a:S.form with
 | none=>unfold Pl.PS.ended at d;simp [a,j] at d
 | some f =>
  have k:=l f a;have c:Pl.step W S=⟨0,W,S.A1 f.v⟩:=by unfold Pl.step;rw [a];dsimp only;rw [k]
  rw [c];exact⟨WB i b e,by simp,fun _=>⟨t,e,i,b.A1 ((b.form f a).val k),j,fun g m=>by cases m⟩⟩
theorem kW{W:PW}{S:PS}{f:PF}(d:S.AB=[])(a:S.form=some f)(e:f.k=.const):A8 (n+1) W S=⟨0,W,S.A1 f.v⟩:=by
 have b:Pl.step W S=⟨0,W,S.A1 f.v⟩:=by unfold Pl.step;rw [a];dsimp only;rw [e]
 have g:S.ended=false:=by unfold Pl.PS.ended;simp [a]
 have c:(S.A1 f.v).ended=true:=by unfold Pl.PS.ended Pl.PS.A1;simp [d]
 unfold A8;rw [if_neg (by simp [g])];dsimp only;rw [b];dsimp only;rw [if_pos rfl]
 cases n<;>(unfold A8;rw [if_pos c])
theorem tE{W:PW}{S:PS}{f:PF}(c:WW W t)(d:SW W S t)(i:t<=100000000)(e:S.AB=[])(a:S.form=some f)(b:f.k=.const):VK (n+1) W S:=by refine⟨⟨InvC,s8,t,i,c,d,e,fun g h=>by rw [a] at h;obtain rfl:=i_ h;exact b⟩,?_⟩;rw [kW e a b];exact⟨by simp,R5 c (by omega),fun _=>⟨rfl,(d.form f a).val b⟩⟩
structure OV(W:PW)(m:Nat):Prop where
 pairs:W.pairs.length<=m
 globals:W.globals.length<=m
 AG:∀l∈W.AG,l.length<=m
structure Sm(W:PW)(S:PS)(m:Nat):Prop where
 w:OV W m
 AB:S.AB.length<=m
theorem OV.mono{W:PW}(h:OV W m)(a:m<=k):OV W k:=⟨t_ h.pairs a,t_ h.globals a,fun l b=>t_ (h.AG l b) a⟩
theorem Sm.mono{W:PW}{S:PS}(h:Sm W S m)(a:m<=k):Sm W S k:=⟨h.w.mono a,t_ h.AB a⟩
theorem Sm.up{W:PW}{S:PS}(h:Sm W S m):Sm W S (m+1):=h.mono (Nat.le_succ _)
theorem Sm.A1{W:PW}{S:PS}(h:Sm W S m)(v:PV):Sm W (S.A1 v) m:=⟨h.w,h.AB⟩
def K_(r:SR)(m:Nat):Prop:=Sm r.W r.S m
theorem RD(W:PW)(S:PS)(s:AE)(a b:PV)(h:Sm W S m):K_ (Pl.reckon W S s a b) m:=by
 unfold Pl.reckon;split
 ·split
  ·exact h.A1 _
  ·split
   ·exact h.A1 _
   ·rename_i x y _ _;dsimp only;generalize (if s=BH then x+y else if s=A4 then x-y else x*y)=n;by_cases c:n.natAbs<=Pl.CG
    ·rw [if_pos c];exact h.A1 _
    ·rw [if_neg c];exact h
 ·exact h
theorem aAR(W:PW)(S:PS)(s:AE)(a:PV)(h:Sm W S m):K_ (B0 W S s a) m:=by
 unfold B0;split
 ·dsimp only;split
  ·exact⟨⟨h.w.pairs,h.w.globals,h.w.AG⟩,h.AB⟩
  ·exact h
 ·split
  ·split
   ·split
    ·exact h.A1 _
    ·exact h
   ·exact h
  ·split
   ·exact h.A1 _
   ·exact h.A1 _
theorem SQ(W:PW)(S:PS)(s:AE)(a b:PV)(h:Sm W S m):K_ (A2 W S s a b) (m+1):=by
 unfold A2;split
 ·exact⟨⟨by show(W.pairs++[(a,b)]).length<=_;have:=h.w.pairs;simp;omega,(h.up).w.globals,(h.up).w.AG⟩,h.up.AB⟩
 ·split
  ·exact h.up.A1 _
  ·exact Sm.up (RD W S s a b h)
theorem JP(W:PW)(S:PS)(f:PV)(args:List PV)(h:Sm W S m):K_ (AH W S f args) (m+1):=by
 unfold AH;split
 ·split
  ·split
   ·exact h.up
   ·exact⟨⟨h.up.w.pairs,h.up.w.globals,h.up.w.AG⟩,h.up.AB⟩
  ·exact h.up
 ·rename_i i;split
  ·refine⟨h.up.w,?_⟩;show(W.AG[i]?.getD []).length<=_
   cases a:W.AG[i]? with
   | none=>exact Nat.zero_le _
   | some l=>exact h.up.w.AG l (q_ a)
  ·exact h.up
 ·split
  ·exact h.up
  ·split
   ·exact Sm.up (aAR W S _ _ h)
   ·exact SQ W S _ _ _ h
   ·exact h.up
 ·exact h.up
theorem Sm.keep{W:PW}{S:PS}(h:Sm W S m):Sm (W.keep S) S m :=
 ⟨⟨h.w.pairs,h.w.globals,fun l a=>by
  rcases List.mem_append.1 (show l∈W.AG++[S.AB] from a) with a | a
  ·exact h.w.AG l a
  ·rw [List.mem_singleton.1 a];exact h.AB⟩,h.AB⟩
theorem aAS(W:PW)(S:PS)(f:PV)(args:List PV)(h:Sm W S m):K_ (Pl.apply W S f args) (m+1):=by
 unfold Pl.apply;split
 ·split
  ·dsimp only;split
   ·exact JP _ _ _ _ h.keep.keep
   ·exact JP _ _ _ _ h.keep
  ·exact h.up
 ·exact JP W S f args h
theorem WS(W:PW)(s:AE)(v:PV)(h:OV W m):OV (Pl.bind W s v) (m+1):=by
 unfold Pl.bind;split
 ·exact⟨Nat.le_succ_of_le h.pairs,Nat.le_succ_of_le h.globals,fun l a=>Nat.le_succ_of_le (h.AG l a)⟩
 ·exact⟨Nat.le_succ_of_le h.pairs,by show(W.globals++[(s,W.places.length)]).length<=_;have:=h.globals;simp;omega,fun l a=>Nat.le_succ_of_le (h.AG l a)⟩
theorem SP(W:PW)(S:PS)(h:Sm W S m):K_ (Pl.taken W S) (m+1):=by
 unfold Pl.taken;split
 ·exact h.up
 ·rename_i d a c;have e:a.length+1<=m:=by have:=h.AB;rw [c] at this;simpa using this
  have b:Sm W {S with AB:=a} m:=⟨h.w,by show a.length<=m;omega⟩
  dsimp only;split
  ·exact⟨b.up.w,b.up.AB⟩
  ·split
   ·exact⟨⟨b.up.w.pairs,b.up.w.globals,b.up.w.AG⟩,b.up.AB⟩
   ·exact b.up
  ·exact⟨WS W _ _ h.w,b.up.AB⟩
  ·split
   ·exact⟨h.up.w,by show(_::a).length<=_;simp;omega⟩
   ·exact⟨b.up.w,b.up.AB⟩
  ·split
   ·split
    ·exact b.up
    ·exact aAS _ _ _ _ b
   ·exact⟨h.up.w,by show(_::a).length<=_;simp;omega⟩
theorem ML(W:PW)(S:PS)(h:Sm W S m):K_ (Pl.step W S) (m+1):=by
 have a:=h.AB;unfold Pl.step;split
 ·exact SP W S h
 ·split
  ·exact h.up.A1 _
  ·split
   ·exact h.up.A1 _
   ·exact h.up
  ·exact⟨⟨h.up.w.pairs,h.up.w.globals,h.up.w.AG⟩,h.up.AB⟩
  ·split
   ·exact⟨h.up.w,by show(_::S.AB).length<=_;simp;omega⟩
   ·exact⟨h.up.w,h.up.AB⟩
  ·exact⟨h.up.w,by show(_::S.AB).length<=_;simp;omega⟩
theorem QH:∀(n:Nat)(W:PW)(S:PS)(m:Nat),Sm W S m->K_ (A8 n W S) (m+n)
 | 0,W,S,m,h=>by
  unfold A8;split
  ·exact h
  ·exact h
 | n+1,W,S,m,h=>by
  have a:=ML W S h;unfold A8;split
  ·exact h.mono (Nat.le_add_right _ _)
  ·dsimp only;split
   ·have:=QH n _ _ (m+1) a
    rwa [show m+1+n=m+(n+1) from by omega] at this
   ·exact Sm.mono a (by omega)
theorem aC2{W:PW}(h:WW W t):OU W:=⟨h.KV,h.CH⟩
theorem NM{W:PW}{i:AE}{f:PF}(b:WW W t)(h:OV W m)(c:Pl.check i=0)(d:Pl.BQ i=some f):Sm (Pl.AR W f) (Pl.AV W f) (m+1000):=by obtain⟨e,a⟩:=lN c d;have:=(mQ e a.1 a.2 W t b).2;refine⟨⟨?_,t_ h.globals (by omega),fun l g=>t_ (h.AG l g) (by omega)⟩,Nat.zero_le _⟩;show(W.pairs++(Pl.settle f W.pairs.length).2).length<=_;have:=h.pairs;rw [a_];omega
theorem ans_sm{W:PW}(i:AE×Int)(a:WW W t)(h:OV W m):∃e,WW (Pl.answer W i).1 e/\OV (Pl.answer W i).1 (m+1001000):=by
 unfold Pl.answer;split
 ·exact⟨t,a,h.mono (by omega)⟩
 ·rename_i c;split
  ·exact⟨t,a,h.mono (by omega)⟩
  ·rename_i g;split
   ·exact⟨t,a,h.mono (by omega)⟩
   ·rename_i f d;have b:Pl.check i.1=0:=by simpa using g
    obtain⟨j,k⟩:=lN b d;obtain⟨l,n⟩:=rI j k a;have o:=QH i.2.toNat _ _ _ (NM a h b d);have p:i.2.toNat<=1000000:=by unfold Pl.over at c;simp at c;omega
    exact⟨_,(mA _ _ _ _ l n).2.1,OV.mono (Sm.w o) (by omega)⟩
theorem O2(l:List (AE×Int)):∀(W:PW)(t m:Nat),WW W t->OV W m->∃a,WW (Pl.AF W l).1 a/\OV (Pl.AF W l).1 (m+1001000*l.length):=by
 induction l with
 | nil=>exact fun W t m b h=>⟨t,b,h⟩
 | cons i r c =>intro W t m b h;obtain⟨d,e,f⟩:=ans_sm i b h;obtain⟨a,g,j⟩:=c _ d _ e f;refine⟨a,g,j.mono ?_⟩;rw [c_,Nat.mul_succ];omega
theorem zM(W:PW)(S:PS)(s:AE)(a b:PV):(Pl.reckon W S s a b).W.out=W.out:=by
 unfold Pl.reckon;split
 ·split
  ·rfl
  ·split
   ·rfl
   ·rename_i x y _ _;dsimp only;generalize (if s=BH then x+y else if s=A4 then x-y else x*y)=n;by_cases h:n.natAbs<=Pl.CG
    ·rw [if_pos h]
    ·rw [if_neg h]
 ·rfl
theorem XU(W:PW)(S:PS)(s:AE)(a b:PV):(A2 W S s a b).W.out=W.out:=by
 unfold A2;split
 ·rfl
 ·split
  ·rfl
  ·exact zM W S s a b
theorem XV(W:PW)(S:PS)(s:AE)(a:PV)(h:W.out.length<=1000):(B0 W S s a).W.out.length<=1000:=by
 unfold B0;split
 ·dsimp only;split
  ·rename_i b;simpa using b
  ·exact h
 ·split
  ·split
   ·split<;>exact h
   ·exact h
  ·split<;>exact h
theorem l6(W:PW)(S:PS)(f:PV)(args:List PV)(h:W.out.length<=1000):(AH W S f args).W.out.length<=1000:=by
 unfold AH;split
 ·split
  ·split<;>exact h
  ·exact h
 ·split<;>exact h
 ·split
  ·exact h
  ·split
   ·exact XV W S _ _ h
   ·rw [XU];exact h
   ·exact h
 ·exact h
theorem XW(W:PW)(S:PS)(f:PV)(args:List PV)(h:W.out.length<=1000):(Pl.apply W S f args).W.out.length<=1000:=by
 unfold Pl.apply;split
 ·split
  ·dsimp only;split
   ·exact l6 _ _ _ _ h
   ·exact l6 _ _ _ _ h
  ·exact h
 ·exact l6 W S f args h
theorem o_bind(W:PW)(s:AE)(v:PV):(Pl.bind W s v).out=W.out:=by unfold Pl.bind;split<;>rfl
theorem XT(W:PW)(S:PS)(h:W.out.length<=1000):(Pl.taken W S).W.out.length<=1000:=by
 unfold Pl.taken;split
 ·exact h
 ·dsimp only;split
  ·exact h
  ·split<;>exact h
  ·rw [o_bind];exact h
  ·exact h
  ·split
   ·split
    ·exact h
    ·exact XW _ _ _ _ h
   ·exact h
theorem aDH(W:PW)(S:PS)(h:W.out.length<=1000):(Pl.step W S).W.out.length<=1000:=by
 unfold Pl.step;split
 ·exact XT W S h
 ·split
  ·exact h
  ·split<;>exact h
  ·exact h
  ·exact h
  ·exact h
def J2(n:Nat)(W:PW)(S:PS):Prop:=W.out.length<=1000/\∃t,WW W t/\SW W S t/\∃m,Sm W S m/\m+n<=6500000000000000000
theorem wF{W:PW}{S:PS}(h:J2 (n+1) W S):(Pl.step W S).e≠7/\(Pl.step W S).W.out.length<=1000/\((Pl.step W S).e=0->(Pl.step W S).S.ended=true\/J2 n (Pl.step W S).W (Pl.step W S).S):=by obtain⟨b,t,c,d,m,f,g⟩:=h;have a:=jQ c d;exact⟨a.1,aDH W S b,fun e=>.inr ⟨aDH W S b,_,a.2.1,a.2.2 e,m+1,ML W S f,by omega⟩⟩
theorem aDO{W:PW}{S:PS}(h:J2 (n+1) W S)(e:(Pl.step W S).e=0):J2 n (Pl.step W S).W (Pl.step W S).S:=by obtain⟨b,t,c,d,m,f,g⟩:=h;have a:=jQ c d;exact⟨aDH W S b,_,a.2.1,a.2.2 e,m+1,ML W S f,by omega⟩
theorem aAU{n:Int}(h:Pl.over n=false):n.toNat<=1000000:=by unfold Pl.over at h;simp at h;omega
theorem aDN{W:PW}{i:AE×Int}(a:WW W t)(g:OV W m)(p:m+1001000<=6500000000000000000)(f:PF)(h:Pl.over i.2=false)(b:Pl.check i.1=0)(c:Pl.BQ i.1=some f):J2 i.2.toNat (Pl.AR W f) (Pl.AV W f)/\OU (A8 i.2.toNat (Pl.AR W f) (Pl.AV W f)).W/\((A8 i.2.toNat (Pl.AR W f) (Pl.AV W f)).e=0->(A8 i.2.toNat (Pl.AR W f) (Pl.AV W f)).S.form=none/\BL (A8 i.2.toNat (Pl.AR W f) (Pl.AV W f)).W (A8 i.2.toNat (Pl.AR W f) (Pl.AV W f)).S.val):=by obtain⟨j,k⟩:=lN b c;obtain⟨d,e⟩:=rI j k a;have l:=NM a g b c;have q:=aAU h;obtain⟨_,n,o⟩:=mA i.2.toNat _ _ _ d e;exact⟨⟨Nat.zero_le _,_,d,e,_,l,by omega⟩,aC2 n,o⟩
def UA(i:AE×Int):Prop:=Pl.over i.2=true\/i.2<=3000\/i.1=[55]
theorem iT:(Pl.BQ [55]).map (fun f=>decide (f.k=.const))=some true:=by decide
theorem p8(f:PF)(b:Nat):(Pl.settle f b).1.k=f.k:=by
 cases f with
 | mk k c d v e g =>
  by_cases a:k=.const
  ·subst a;rw [Pl.CI];rfl
  ·rw [Pl.BC _ _ _ _ _ _ _ a];rfl
theorem U7{W:PW}{i:AE×Int}(e:WW W t)(s:t+931000<=100000000)(hi:UA i) :(∀f,Pl.over i.2=false->Pl.check i.1=0->Pl.BQ i.1=some f->VK i.2.toNat (Pl.AR W f) (Pl.AV W f))/\(∀f,Pl.check i.1=0->Pl.BQ i.1=some f->(Pl.settle f W.pairs.length).2.length<=1000)/\WW (Pl.answer W i).1 (t+931000):=by
 have g:∀f,Pl.over i.2=false->Pl.check i.1=0->Pl.BQ i.1=some f->VK i.2.toNat (Pl.AR W f) (Pl.AV W f)/\WW (A8 i.2.toNat (Pl.AR W f) (Pl.AV W f)).W (t+931000):=by
  intro f d c b;obtain⟨n,k⟩:=lN c b;obtain⟨l,o⟩:=rI n k e;by_cases u:i.2<=3000
  ·have v:i.2.toNat<=3000:=by omega
   exact⟨YR l o (by omega),(mA _ _ _ _ l o).2.1.later (by omega)⟩
  ·have p:i.1=[55]:=by
    rcases hi with h | h | h
    ·rw [h] at d;cases d
    ·omega
    ·exact h
   obtain⟨m,q⟩:∃m,i.2.toNat=m+1:=⟨i.2.toNat-1,by omega⟩
   have r:f.k=.const:=by rw [p] at b;have:=iT;rw [b] at this;simpa using this
   have a:(Pl.AV W f).form=some (Pl.settle f W.pairs.length).1:=rfl;have j:(Pl.settle f W.pairs.length).1.k=.const:=(p8 f _).trans r;rw [q];refine⟨tE l o (by omega) rfl a j,?_⟩;rw [kW rfl a j];exact l.later (by omega)
 refine⟨fun f d c b=>(g f d c b).1,fun f c b=>?_,?_⟩
 ·obtain⟨n,k⟩:=lN c b;have:=(mQ n k.1 k.2 W t e).2;omega
 ·unfold Pl.answer;split
  ·exact e.later (by omega)
  ·rename_i d;split
   ·exact e.later (by omega)
   ·rename_i c;split
    ·exact e.later (by omega)
    ·rename_i f b;exact(g f (by simpa using d) (by simpa using c) b).2
theorem kR(l:List (AE×Int)):∀(W:PW)(t c:Nat),c=931000->WW W t->(∀i∈l,UA i)->t+c*l.length<=100000000->WW (Pl.AF W l).1 (t+c*l.length):=by
 induction l with
 | nil =>intro W t c _ a _ _;rw [z_,Nat.mul_zero,Nat.add_zero];exact a
 | cons i r e =>intro W t c b a d f;rw [c_,Nat.mul_add,Nat.mul_one] at f ⊢;have h:=(U7 a (by omega) (d i (by simp))).2.2;rw [<- b] at h;have:=e (Pl.answer W i).1 (t+c) c b h (fun j g=>d j (List.mem_cons_of_mem _ g)) (by omega);rw [show t+(c*r.length+c)=t+c+c*r.length from by omega];exact this
def TOut:TypeId:=43
theorem Tryz.YL:(prog.info? 43).map (fun i=>(i.zero,i.size,i.bytes))=some (some (.agg #[.int .i64 0,.string ⟨#[]⟩,.string ⟨#[]⟩]),3,40):=by kernel_rfl
def B5(i:ByteArray×Int):AE×Int:=(i.1.data.toList,i.2)
def encO(o:PO):List Value:=[.int .i64 (o.code:Int),.string ⟨o.out.toArray⟩,.string ⟨o.val.toArray⟩]
def F8(w:World)(v:Value)(ins:List (ByteArray×Int)):Prop:=∃ao cap,v=.slice ao ins.length cap/\ins.length<=cap/\∀(k:Nat)(i:ByteArray×Int),ins[k]?=some i->∃g,ao=some ⟨g,0,none⟩/\g<w.heap.size/\w.cell? ⟨g,k*2,none⟩=some (.string i.1)/\w.cell? ⟨g,k*2+1,none⟩=some (.int .i64 i.2)
structure VB(w wr:World)(wb:Nat)(Mk:Nat->Prop)(ins:List (ByteArray×Int))(k:Nat)(sv:Value):Prop where
 rw:RW wr wb Mk (Pl.AF AW ((ins.take k).map B5)).1
 below:Below w.heap.size w wr
 low:∀j,j<w.heap.size->¬Mk j
 row:wr.ownsRow w.heap.size TOut 3 sv k ((Pl.AF AW ((ins.take k).map B5)).2.flatMap encO)
 rowM:∀g,sv.ownBlock=some g->¬Mk g
theorem iI{ins:List (ByteArray×Int)}{i:ByteArray×Int}(h:ins[k]?=some i):Pl.AF AW ((ins.take (k+1)).map B5)=((Pl.answer (Pl.AF AW ((ins.take k).map B5)).1 (B5 i)).1,(Pl.AF AW ((ins.take k).map B5)).2++[(Pl.answer (Pl.AF AW ((ins.take k).map B5)).1 (B5 i)).2]):=by rw [List.take_add_one,h,Option.toList_some,List.map_append,List.map_cons,List.map_nil,Pl.I7]
theorem VB.push{w wr w2 w3:World}{wb:Nat}{Mk M2:Nat->Prop}{ins:List (ByteArray×Int)}{sv:Value}{i:ByteArray×Int}{o1 o2:Obj}{g' cap':Nat}(h:VB w wr wb Mk ins k sv)(hi:ins[k]?=some i)
  (x:RW w2 wb M2 (Pl.answer (Pl.AF AW ((ins.take k).map B5)).1 (B5 i)).1) (c:Stp Mk wr M2 w2) (l:w3.ownsRow w.heap.size TOut 3 (.slice (some ⟨g',0,none⟩) (k+1) cap') (k+1) ((Pl.AF AW ((ins.take k).map B5)).2.flatMap encO++encO (Pl.answer (Pl.AF AW ((ins.take k).map B5)).1 (B5 i)).2))
  (m:((w2.alloc o1).alloc o2).grownBy w3 sv.ownBlock) (s:sv.ownBlock=some g'\/g'=w2.heap.size+2):VB w w3 wb M2 ins (k+1) (.slice (some ⟨g',0,none⟩) (k+1) cap'):=by
 have n:Below w2.heap.size w2 ((w2.alloc o1).alloc o2):=b_.alloc (by simp) _;have o:=h.row.lt;have a:Below w.heap.size w w2:=⟨c.os.trans h.below.os,c.tape.trans h.below.tape,c.output.trans h.below.output,t_ h.below.size c.size,fun j d=>((c.block j (l_ d h.below.size) (h.low j d)).1).trans (h.below.block j d)⟩
 have f:∀j,j<w.heap.size->¬M2 j:=fun j d=>(c.block j (l_ d h.below.size) (h.low j d)).2;have t:∀g,sv.ownBlock=some g->¬M2 g:=fun g b=>(c.block g (o g b).2 (h.rowM g b)).2;have p:=x.later n
 have u:RW w3 wb M2 (Pl.answer (Pl.AF AW ((ins.take k).map B5)).1 (B5 i)).1:=by
  cases r:sv.ownBlock with
  | none=>rw [r] at m;exact p.later (cS m)
  | some g =>rw [r] at m;obtain⟨v,y⟩:=aN h.row g r;have q:w2.heap[g]?=some (.cells v TOut (0,0)):=(c.block g (aB y) (h.rowM g r)).1.trans y;exact p.grown m ((n.block g (aB q)).trans q) tQ
 refine⟨by rw [iI hi];exact u,?_,f,by rw [iI hi,List.flatMap_append];simpa using l,fun g b=>?_⟩
 ·refine(((a.alloc a.size o1).alloc (by have:=a.size;simp;omega) o2).grown m ?_ ?_)
  ·have:=a.size;simp;omega
  ·intro j d;exact(o j d).1
 ·simp only [Value.ownBlock,o_] at b;subst b;rcases s with e | e
  ·exact t _ e
  ·intro z;have:=x.lt z;omega
def FG:TypeId:=41
theorem Tryz.YM:(prog.info? 41).map (fun i=>(i.zero,i.size,i.bytes))=some (some (.agg #[.string ⟨#[]⟩,.int .i64 0]),2,24):=by kernel_rfl
def iL(i:ByteArray×Int):List Value:=[.string i.1,.int .i64 i.2]
def jT(fuel:Int)(i:ByteArray×Int):ByteArray×Int:=if fuel<i.2/\i.2<=1000000 then(i.1,fuel) else i
def eD(fuel:Int)(ins:List (ByteArray×Int)):List (ByteArray×Int):=(ins.take 60).map (jT fuel)++[(⟨#[55]⟩,1000000)]
def JF(w:World)(v:Value)(ins:List (ByteArray×Int)):Prop:=∃ao cap,v=.slice ao ins.length cap/\ins.length<=cap/\∀(k:Nat)(i:ByteArray×Int),ins[k]?=some i->∃g off,ao=some ⟨g,off,none⟩/\g<w.heap.size/\w.cell? ⟨g,off+k*2,none⟩=some (.string i.1)/\w.cell? ⟨g,off+k*2+1,none⟩=some (.int .i64 i.2)
theorem XG(w:World)(v:Value)(fuel:Int)(ins:List (ByteArray×Int))(hS:JF w v ins)(aa:ins.length<=maxLen) :Calls prog 18 #[v,.int .i64 fuel] w fun e w'=>∃rv,e=.returned rv/\Below w.heap.size w w'/\w'.ownsRow w.heap.size FG 2 rv (eD fuel ins).length ((eD fuel ins).flatMap iL):=by
 obtain⟨M,A,B,C,D⟩:=info_parts Tryz.YM;obtain⟨ao,ad,rfl,ab,E⟩:=hS;have HC:=h_ E;clear E;go_enter func18,ntmps18;go_wp2_with fail
 go_loopw [5,6] (fun sv i wr=>∃k:Nat,(k<=ins.length/\k<=60)/\i=.int .i64 k/\Hid (Below w.heap.size w wr/\wr.ownsRow w.heap.size FG 2 sv k (((ins.take k).map (jT fuel)).flatMap iL))) (fun _ i _=>ins.length-(intOf i).toNat)
 case atStart=>exact⟨0,⟨Nat.zero_le _,Nat.zero_le _⟩,rfl,⟨r_,World.ownsRow_nil _ _ _ _⟩⟩
 case round =>
  obtain⟨k,⟨hk,ac⟩,rfl,r⟩:=hrel;by_cases V:k<ins.length/\k<60
  ·obtain⟨i,W⟩:∃i,ins[k]?=some i:=⟨ins[k],g_ V.1⟩
   obtain⟨g,F,rfl,hg,N,O⟩:=HC.out k i W;obtain⟨s,n⟩:=i;have c0:wr.cell? ⟨g,F+k*2,none⟩=some (.string s):=(r.1.cell (p:=⟨g,F+k*2,none⟩) hg).trans N;have c1:wr.cell? ⟨g,F+k*2+1,none⟩=some (.int .i64 n):=(r.1.cell (p:=⟨g,F+k*2+1,none⟩) hg).trans O;have X:(k:Int)<(ins.length:Int):=by omega
   have ae:(k:Int)<60:=by omega
   have H:=r.1.size;have u:=r.2.lt;have m:∀(x:Int)(Q d:World)(l a:Nat),jT fuel (s,n)=(s,x)->Below w.heap.size w Q->w.heap.size<=Q.heap.size->d.ownsRow w.heap.size FG 2 (.slice (some ⟨l,0,none⟩) (k+1) a) (k+1) (((ins.take k).map (jT fuel)).flatMap iL++[.string s,.int .i64 x])->Q.grownBy d u5.ownBlock->Below w.heap.size w d/\d.ownsRow w.heap.size FG 2 (.slice (some ⟨l,0,none⟩) (k+1) a) (k+1) (((ins.take (k+1)).map (jT fuel)).flatMap iL):=fun x Q d l a f Y Z R S=>by refine⟨Y.grown S Z (fun j hj=>(u j hj).1),?_⟩;rw [List.take_add_one,W,Option.toList_some,List.map_append,List.flatMap_append,List.map_cons,List.map_nil,f];simpa [iL] using R
   have I:Hid (∀o1 o:Obj,Below w.heap.size w ((wr.alloc o1).alloc o)):=fun o1 o=>(r.1.alloc H o1).alloc (by simp;omega) o;clear W N O;by_cases R:fuel<n
   ·by_cases S:n<=1000000
    ·have f:jT fuel (s,n)=(s,fuel):=by unfold jT;rw [if_pos ⟨R,S⟩]
     have q:Hid ((wr.alloc (.cells #[.string s,.int .i64 fuel] FG)).ownsRow w.heap.size FG 2 u5 k (((ins.take k).map (jT fuel)).flatMap iL)):=r.2.alloc _;have P:=(show Hid (∀(d:World)(o:Obj)(l a:Nat),d.ownsRow w.heap.size FG 2 (.slice (some ⟨l,0,none⟩) (k+1) a) (k+1) (((ins.take k).map (jT fuel)).flatMap iL++[.string s,.int .i64 fuel])->((wr.alloc (.cells #[.string s,.int .i64 fuel] FG)).alloc o).grownBy d u5.ownBlock->Below w.heap.size w d/\d.ownsRow w.heap.size FG 2 (.slice (some ⟨l,0,none⟩) (k+1) a) (k+1) (((ins.take (k+1)).map (jT fuel)).flatMap iL)) from fun d o l a J K=>m fuel _ d l a f (I _ o) (by simp;omega) J K)
     clear m f u r;go_wp2_with (first | (at_builtin;refine wpList_append_lies _ rfl _ _ 26 rfl w.heap.size 41 M (.agg #[.string ⟨#[]⟩,.int .i64 0]) 2 24 underlying26 A B C D rfl (by decide) u5 k _ rfl (q.alloc _) ⟨wr.heap.size+1,0,none⟩ 1 1 [.string s,.int .i64 fuel] rfl rfl (World.news_of_block (cs:=#[.string s,.int .i64 fuel]) (t:=41) (fr:=(0,0)) (kM wr _ _)) (fun x f=>by simp at f;rcases f with rfl | rfl<;>rfl) (by decide) (by unfold maxLen;omega) (by omega) (by simp;omega) (wr.heap.size+2) (by simp) ?_;intro T y d c b z _))
     go_roundw
     case rel=>exact⟨k+1,by omega,by go_num,P d _ _ _ c b⟩
     case measure=>simp [intOf];omega
    ·have f:jT fuel (s,n)=(s,n):=by unfold jT;rw [if_neg (fun h=>S h.2)]
     have q:Hid ((wr.alloc (.cells #[.string s,.int .i64 n] FG)).ownsRow w.heap.size FG 2 u5 k (((ins.take k).map (jT fuel)).flatMap iL)):=r.2.alloc _;have P:=(show Hid (∀(d:World)(o:Obj)(l a:Nat),d.ownsRow w.heap.size FG 2 (.slice (some ⟨l,0,none⟩) (k+1) a) (k+1) (((ins.take k).map (jT fuel)).flatMap iL++[.string s,.int .i64 n])->((wr.alloc (.cells #[.string s,.int .i64 n] FG)).alloc o).grownBy d u5.ownBlock->Below w.heap.size w d/\d.ownsRow w.heap.size FG 2 (.slice (some ⟨l,0,none⟩) (k+1) a) (k+1) (((ins.take (k+1)).map (jT fuel)).flatMap iL)) from fun d o l a J K=>m n _ d l a f (I _ o) (by simp;omega) J K)
     clear m f u r;go_wp2_with (first | (at_builtin;refine wpList_append_lies _ rfl _ _ 26 rfl w.heap.size 41 M (.agg #[.string ⟨#[]⟩,.int .i64 0]) 2 24 underlying26 A B C D rfl (by decide) u5 k _ rfl (q.alloc _) ⟨wr.heap.size+1,0,none⟩ 1 1 [.string s,.int .i64 n] rfl rfl (World.news_of_block (cs:=#[.string s,.int .i64 n]) (t:=41) (fr:=(0,0)) (kM wr _ _)) (fun x f=>by simp at f;rcases f with rfl | rfl<;>rfl) (by decide) (by unfold maxLen;omega) (by omega) (by simp;omega) (wr.heap.size+2) (by simp) ?_;intro T y d c b z _))
     go_roundw
     case rel=>exact⟨k+1,by omega,by go_num,P d _ _ _ c b⟩
     case measure=>simp [intOf];omega
   ·have f:jT fuel (s,n)=(s,n):=by unfold jT;rw [if_neg (fun h=>R h.1)]
    have q:Hid ((wr.alloc (.cells #[.string s,.int .i64 n] FG)).ownsRow w.heap.size FG 2 u5 k (((ins.take k).map (jT fuel)).flatMap iL)):=r.2.alloc _;have P:=(show Hid (∀(d:World)(o:Obj)(l a:Nat),d.ownsRow w.heap.size FG 2 (.slice (some ⟨l,0,none⟩) (k+1) a) (k+1) (((ins.take k).map (jT fuel)).flatMap iL++[.string s,.int .i64 n])->((wr.alloc (.cells #[.string s,.int .i64 n] FG)).alloc o).grownBy d u5.ownBlock->Below w.heap.size w d/\d.ownsRow w.heap.size FG 2 (.slice (some ⟨l,0,none⟩) (k+1) a) (k+1) (((ins.take (k+1)).map (jT fuel)).flatMap iL)) from fun d o l a J K=>m n _ d l a f (I _ o) (by simp;omega) J K)
    clear m f u r;go_wp2_with (first | (at_builtin;refine wpList_append_lies _ rfl _ _ 26 rfl w.heap.size 41 M (.agg #[.string ⟨#[]⟩,.int .i64 0]) 2 24 underlying26 A B C D rfl (by decide) u5 k _ rfl (q.alloc _) ⟨wr.heap.size+1,0,none⟩ 1 1 [.string s,.int .i64 n] rfl rfl (World.news_of_block (cs:=#[.string s,.int .i64 n]) (t:=41) (fr:=(0,0)) (kM wr _ _)) (fun x f=>by simp at f;rcases f with rfl | rfl<;>rfl) (by decide) (by unfold maxLen;omega) (by omega) (by simp;omega) (wr.heap.size+2) (by simp) ?_;intro T y d c b z _))
    go_roundw
    case rel=>exact⟨k+1,by omega,by go_num,P d _ _ _ c b⟩
    case measure=>simp [intOf];omega
  ·have L:ins.take k=ins.take 60:=by
    by_cases h6:k=60
    ·rw [h6]
    ·rw [List.take_of_length_le (by omega),List.take_of_length_le (by omega)]
   have G:(eD fuel ins).length=k+1:=by unfold eD;rw [<- L];simp;omega
   have u:=r.2.lt;have H:=r.1.size
   have U:=(show Hid (∀(d:World)(o:Obj)(l a:Nat),d.ownsRow w.heap.size FG 2 (.slice (some ⟨l,0,none⟩) (k+1) a) (k+1) (((ins.take k).map (jT fuel)).flatMap iL++[.string ⟨#[55]⟩,.int .i64 1000000])->(wr.alloc o).grownBy d u5.ownBlock->Below w.heap.size w d/\d.ownsRow w.heap.size FG 2 (.slice (some ⟨l,0,none⟩) (k+1) a) (eD fuel ins).length ((eD fuel ins).flatMap iL)) from fun d o l a J K=>by
    refine⟨(r.1.alloc H o).grown K (by simp;omega) (fun j hj=>(u j hj).1),?_⟩;rw [G];unfold eD;rw [<- L,List.flatMap_append]
    simpa [iL] using J)
   have q:=h_ r.2;clear L G u r;by_cases X:k<ins.length
   ·obtain rfl:k=60:=by omega
    have af:((60:Nat):Int)<(ins.length:Int):=by omega
    go_wp2_with (first | (at_builtin;refine wpList_append_lies _ rfl _ _ 26 rfl w.heap.size 41 M (.agg #[.string ⟨#[]⟩,.int .i64 0]) 2 24 underlying26 A B C D rfl (by decide) u5 (60) _ rfl (q.alloc _) ⟨wr.heap.size,0,none⟩ 1 1 [.string ⟨#[55]⟩,.int .i64 1000000] rfl rfl (World.news_of_block (cs:=#[.string ⟨#[55]⟩,.int .i64 1000000]) (t:=41) (fr:=(0,0)) (heap_alloc_new wr _)) (fun x f=>by simp at f;rcases f with rfl | rfl<;>rfl) (by decide) (by unfold maxLen at *;omega) (by omega) (by simp;omega) (wr.heap.size+1) (by simp) ?_;intro T y d c b z _))
    go_ret;exact⟨_,rfl,(U d _ _ _ c b).1,(U d _ _ _ c b).2⟩
   ·obtain rfl:k=ins.length:=by omega
    go_wp2_with (first | (at_builtin;refine wpList_append_lies _ rfl _ _ 26 rfl w.heap.size 41 M (.agg #[.string ⟨#[]⟩,.int .i64 0]) 2 24 underlying26 A B C D rfl (by decide) u5 (ins.length) _ rfl (q.alloc _) ⟨wr.heap.size,0,none⟩ 1 1 [.string ⟨#[55]⟩,.int .i64 1000000] rfl rfl (World.news_of_block (cs:=#[.string ⟨#[55]⟩,.int .i64 1000000]) (t:=41) (fr:=(0,0)) (heap_alloc_new wr _)) (fun x f=>by simp at f;rcases f with rfl | rfl<;>rfl) (by decide) (by unfold maxLen at *;omega) (by omega) (by simp;omega) (wr.heap.size+1) (by simp) ?_;intro T y d c b z _))
    go_ret;exact⟨_,rfl,(U d _ _ _ c b).1,(U d _ _ _ c b).2⟩
def KB(w:World)(v:Value)(l:List PO):Prop:=∃ao cap,v=.slice ao l.length cap/\l.length<=cap/\∀(k:Nat)(o:PO),l[k]?=some o->∃g,ao=some ⟨g,0,none⟩/\g<w.heap.size/\w.cell? ⟨g,k*3,none⟩=some (.int .i64 (o.code:Int))/\w.cell? ⟨g,k*3+1,none⟩=some (.string ⟨o.out.toArray⟩)/\w.cell? ⟨g,k*3+2,none⟩=some (.string ⟨o.val.toArray⟩)
theorem tU(fuel:Int)(ins:List (ByteArray×Int)):(eD fuel ins).length<=61:=by unfold eD;simp;omega
theorem xL(ins:List (ByteArray×Int))(c:∀i∈ins,i.1.size<=maxLen)(fuel:Int)(d:fuel<=3000):∀i∈eD fuel ins,UA (B5 i)/\i.1.size<=maxLen:=by
 intro i a;unfold eD at a;rcases List.mem_append.1 a with a | a
 ·obtain⟨⟨s,n⟩,e,rfl⟩:=List.mem_map.1 a;have b:=c _ (List.mem_of_mem_take e);unfold jT;by_cases h:fuel<n/\n<=1000000
  ·rw [if_pos h];exact⟨.inr (.inl d),b⟩
  ·rw [if_neg h];refine⟨?_,b⟩;by_cases f:1000000<n
   ·exact .inl (by simp [Pl.over,B5,f])
   ·refine .inr (.inl ?_);show n<=3000;omega
 ·simp only [List.mem_singleton] at a;subst a;exact⟨.inr (.inr rfl),by simp [maxLen,ByteArray.size]⟩
theorem pM:∀{a:List (ByteArray×Int)} {k:Nat} {i:ByteArray×Int},a[k]?=some i->(a.flatMap iL)[k*2]?=some (.string i.1)/\(a.flatMap iL)[k*2+1]?=some (.int .i64 i.2)
 | [],_,_,h=>by simp at h
 | x::r,0,i,h=>by simp only [List.getElem?_cons_zero,o_] at h;subst h;simp [iL]
 | x::r,k+1,i,h=>by rw [List.getElem?_cons_succ] at h;obtain⟨b,c⟩:=pM h;rw [List.flatMap_cons,show(k+1)*2=k*2+1+1 from by omega];exact⟨by simpa [iL] using b,by simpa [iL] using c⟩
theorem scr_of{w:World}{base:Nat}{v:Value}{ins:List (ByteArray×Int)}(h:w.ownsRow base FG 2 v ins.length (ins.flatMap iL)):F8 w v ins:=by
 rcases h.2 with⟨a,d⟩ | ⟨g,c,e,a,_,f,j,_,_,l⟩
 ·have:ins=[]:=e_ d;subst this;exact⟨none,0,a,n_,fun k i b=>by simp at b⟩
 ·refine⟨some ⟨g,0,none⟩,c,a,j,fun k i b=>⟨g,rfl,aB f,?_,?_⟩⟩
  ·have:=h.cells (g:=g) (by rw [a];rfl) (k*2) (.string i.1) (pM b).1
   rwa [Addr.add_lit,Nat.zero_add] at this
  ·have:=h.cells (g:=g) (by rw [a];rfl) (k*2+1) (.int .i64 i.2) (pM b).2
   rwa [Addr.add_lit,Nat.zero_add] at this
end
end Go.Proofs.YtkgbdddkcjpgfaaGreatDoor
